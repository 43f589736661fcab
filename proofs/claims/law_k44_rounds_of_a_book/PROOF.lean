import PyProof.Rows.All
import Wide.All
import OpenK.AllK
import Wide.FinOn
import Lean
import PyProof.EqAt
import PyProof.EqKinds
import PyProof.TupleCall
import PyProof.NeKinds
import PyProof.SumAny
import PyProof.ConsumeS
import PyProof.WalkInts
import PyProof.Draws
import PyProof.EnumMake
import PyProof.Rows.Range3
import PyProof.MeetsStr
import KE.KDictLaws
import PyProof.Rows.CallKwBuiltin
import PyProof.DictItems
import KE.KPairComp
import PyProof.AttrMissHeap
import KE.KDictOf
import KE.KItemsList
import KE.KTryMore
import PyProof.StrBlockG
import PyProof.StrWalks
import PyProof.Rows.SortStr
import PyProof.Rows.SortKeyStr
import PySem.Challenge.RW_duskround_k44_rounds_of_a_book
set_option linter.all false
set_option genSizeOf false
set_option genInjectivity false
def ag:=@List.length_map
def aj:=@if_neg
def ak:=@if_pos
def ao:=@Nat.le_refl
def ap:=@PyProof.Rows.wpS_bind
def aq:=@PySem.Heap.get?_push_of_some
def ar:=@PySem.wpAny_bind
def av:=@Nat.le_trans
def aw:=@Bool.false_eq_true
def ax:=@PyProof.Rows.wpS_pure
def az:=@List.map_cons
def aB:=@List.length_cons
def aC:=@eq_true
def aD:=@List.getElem?_eq_getElem
def aE:=@PySem.Heap.lt_size
def aF:=@List.size_toArray
def aG:=@List.getElem?_map
def aH:=@List.length_append
def aK:=@List.mem_append_right
def aL:=@Bool.not_true
def aM:=@PySem.Heap.get?_push_size
def aQ:=@decide_eq_false
def aR:=@PySem.wpAny_pure
def aS:=@List.mem_cons
def aU:=@List.getElem?_append_right
def aV:=@Bool.false_ne_true
def aW:=@List.getElem?_append_left
def aY:=@List.map_map
def a5:=@List.getElem?_eq_some_iff
def a7:=@PySem.F.plainAttrs_list
def a8:=@Option.some.inj
def a_:=@List.mem_append
def be:=@List.mem_singleton
def bg:=@Nat.ne_of_lt
def bi:=@if_false
def bp:=@PySem.wpAny_mono
def bq:=@List.mem_of_getElem?
def br:=@List.map_append
def bu:=@List.take_append_drop
def bv:=@Bool.not_false
def bz:=@Nat.lt_of_lt_of_le
def bG:=@Array.toList_append
def bJ:=@of_decide_eq_true
def bL:=@PySem.W.mg_none_of
def bM:=@PySem.F.type_list_append
def bN:=@PySem.F.slot_list_append
def bO:=@List.pairwise_cons
def bP:=@if_true
def bT:=@List.append_assoc
def bX:=@PyProof.Rows.wpS_forRange
def bZ:=@PySem.W.kia_one
def b0:=@List.length_take
def cc:=@PySem.wpAny_truthy_bool
def cf:=@Option.map_some
def cC:=@decide_true
def cE:=@decide_eq_true
def cG:=@List.map_nil
def cH:=@List.find?_cons
def cO:=@List.pairwise_append
def cP:=@List.mem_cons_of_mem
def cQ:=@List.getElem?_replicate
def cR:=@Bool.and_eq_true
def cU:=@decide_eq_true_eq
def cV:=@Ne.symm
def cW:=@PySem.mem_of_lookup
def cX:=@Array.length_toList
def cZ:=@Nat.zero_le
def c4:=@List.append_nil
def c6:=@List.perm_append_comm
inductive ca {T0 T1:Type}(P:T0 ->T1 ->Prop):Prop | mk (x0:T0) (x1:T1) (h:P x0 x1):ca P
inductive dH {T0 T1 T2:Type}(P:T0 ->T1 ->T2 ->Prop):Prop | mk (x0:T0) (x1:T1) (x2:T2) (h:P x0 x1 x2):dH P
inductive fF {T0 T1 T2 T3:Type}(P:T0 ->T1 ->T2 ->T3 ->Prop):Prop | mk (x0:T0) (x1:T1) (x2:T2) (x3:T3) (h:P x0 x1 x2 x3):fF P
inductive se {T0 T1 T2 T3 T4:Type}(P:T0 ->T1 ->T2 ->T3 ->T4 ->Prop):Prop | mk (x0:T0) (x1:T1) (x2:T2) (x3:T3) (x4:T4) (h:P x0 x1 x2 x3 x4):se P
inductive S' {T0 T1 T2 T3 T4 T5:Type}(P:T0 ->T1 ->T2 ->T3 ->T4 ->T5 ->Prop):Prop | mk (x0:T0) (x1:T1) (x2:T2) (x3:T3) (x4:T4) (x5:T5) (h:P x0 x1 x2 x3 x4 x5):S' P
inductive XE7 {T0 T1 T2 T3 T4 T5 T6:Type}(P:T0 ->T1 ->T2 ->T3 ->T4 ->T5 ->T6 ->Prop):Prop | mk (x0:T0) (x1:T1) (x2:T2) (x3:T3) (x4:T4) (x5:T5) (x6:T6) (h:P x0 x1 x2 x3 x4 x5 x6):XE7 P
inductive XE8 {T0 T1 T2 T3 T4 T5 T6 T7:Type}(P:T0 ->T1 ->T2 ->T3 ->T4 ->T5 ->T6 ->T7 ->Prop):Prop | mk (x0:T0) (x1:T1) (x2:T2) (x3:T3) (x4:T4) (x5:T5) (x6:T6) (x7:T7) (h:P x0 x1 x2 x3 x4 x5 x6 x7):XE8 P
inductive cM (P0 P1 P2:Prop):Prop | mk (QR:P0) (QQ:P1) (QP:P2):cM P0 P1 P2
inductive eu (P0 P1 P2 P3:Prop):Prop | mk (QR:P0) (QQ:P1) (QP:P2) (SY:P3):eu P0 P1 P2 P3
inductive fo (P0 P1 P2 P3 P4:Prop):Prop | mk (QR:P0) (QQ:P1) (QP:P2) (SY:P3) (V5:P4):fo P0 P1 P2 P3 P4
inductive kz (P0 P1 P2 P3 P4 P5:Prop):Prop | mk (QR:P0) (QQ:P1) (QP:P2) (SY:P3) (V5:P4) (hP5:P5):kz P0 P1 P2 P3 P4 P5
inductive KS (P0 P1 P2 P3 P4 P5 P6:Prop):Prop | mk (QR:P0) (QQ:P1) (QP:P2) (SY:P3) (V5:P4) (hP5:P5) (hP6:P6):KS P0 P1 P2 P3 P4 P5 P6
inductive Dk (P0 P1 P2 P3 P4 P5 P6 P7:Prop):Prop | mk (QR:P0) (QQ:P1) (QP:P2) (SY:P3) (V5:P4) (hP5:P5) (hP6:P6) (hP7:P7):Dk P0 P1 P2 P3 P4 P5 P6 P7
set_option Elab.async false
set_option maxRecDepth 100000
set_option genSizeOf false
set_option genInjectivity false
local macro_rules | `(∅) => `(by lia)
local macro_rules | `(⇑$x) => `(by simpa using $x)
namespace TS
open PySem PyProof.Rows
def LE (less:Keyed ->Keyed ->Bool)(x y:Keyed):Prop:=less y x=false
structure Ord (less:Keyed ->Keyed ->Bool):Prop where
 Rg: ∀x y,less x y=true ->less y x=false
 trans: ∀x y z,LE less x y ->LE less y z ->LE less x z
section
variable {less:Keyed ->Keyed ->Bool}
theorem Ord.refl (O:Ord less)(x:Keyed):LE less x x:=by
 unfold LE;cases h:less x x with
 | false=>rfl
 | true=>exact(O.Rg x x h).symm.trans h▸rfl
theorem Ord.le (O:Ord less){x y:Keyed}(h:less x y=true):LE less x y:=O.Rg x y h
theorem Ord.Qc (O:Ord less){x y z:Keyed}(h:LE less x y)(h':less y z=true):less x z=true:=by
 cases e:less x z with
 | true=>rfl
 | false=>have:=O.trans z x y e h;unfold LE at this;rw[h'] at this;cases this
end
def b_ (xs:Array Keyed)(i:Nat):Keyed:=(xs[i]?).getD (.none, .none)
theorem Gf {xs:Array Keyed}{i:Nat}(h:i<xs.size):xs[i]? =some (b_ xs i):=by unfold b_;rw[getElem?_pos xs i h];rfl
theorem iw {xs ys:Array Keyed}{i j:Nat}(h:xs[i]? =ys[j]?):b_ xs i=b_ ys j:=by unfold b_;rw[h]
theorem u_ {xs:Array Keyed}{i:Nat}(h:i<xs.size):b_ xs i∈xs.toList:=by unfold b_;rw[getElem?_pos xs i h];simp
def Sg (less:Keyed ->Keyed ->Bool)(xs:Array Keyed)(lo hi:Nat):Prop:= ∀i j,lo<=i ->i<=j ->j<hi ->LE less (b_ xs i) (b_ xs j)
def Ng (less:Keyed ->Keyed ->Bool)(xs:Array Keyed)(lo hi:Nat):Prop:= ∀i j,lo<=i ->i<=j ->j<hi ->LE less (b_ xs j) (b_ xs i)
structure SB (kd:SortKind)(a₀:Array Keyed)(st:SortSt):Prop where
 perm:(arrOf st).Perm a₀
 kd:kindOf st=kd
 fl:failedOf st=none
theorem SB.size {kd:SortKind}{a₀:Array Keyed}{st:SortSt}(h:SB kd a₀ st):(arrOf st).size=a₀.size:=h.perm.size_eq
theorem SB.mem {kd:SortKind}{a₀:Array Keyed}{st:SortSt}(h:SB kd a₀ st){i:Nat}(hi:i<a₀.size):b_ (arrOf st) i∈a₀.toList:=(Array.perm_iff_toList_perm.mp h.perm).mem_iff.mp (u_ (by rw[h.size];exact hi))
theorem SB.arr {kd:SortKind}{a₀:Array Keyed}{st:SortSt}(h:SB kd a₀ st){xs:Array Keyed}(hp:xs.Perm (arrOf st)):SB kd a₀ (setArr st xs):=⟨hp.trans h.perm,h.kd,h.fl⟩
def gt (prog:Program)(w:World)(A:Around)(E:Value ->Shared ->Prop)(s:Shared)(kd:SortKind)(a₀:Array Keyed)(less:Keyed ->Keyed ->Bool):Prop:=∀ (x y:Keyed) (st:SortSt) (Q:Option Bool ->SortSt ->Prop),x∈a₀.toList ->y∈a₀.toList ->kindOf st=kd ->Q (some (less x y)) st ->wpS (model prog w) A E s (lt' x y) Q st
section
variable {prog:Program}{w:World}{A:Around}{E:Value ->Shared ->Prop}{s:Shared}{kd:SortKind}{a₀:Array Keyed}{less:Keyed ->Keyed ->Bool}
theorem wp_elem {xs:Array Keyed}{i:Nat}{Q:Keyed ->SortSt ->Prop}{st:SortSt}(hi:i<xs.size)(h:Q (b_ xs i) st):wpS (model prog w) A E s (elem' xs i) Q st:=by rw[elem'_eq,Gf hi];exact ax h
theorem wp_lt (L:gt prog w A E s kd a₀ less){st:SortSt}{i j:Nat}{Q:Option Bool ->SortSt ->Prop}(B:SB kd a₀ st)(hi:i<a₀.size)(hj:j<a₀.size) (h:Q (some (less (b_ (arrOf st) i) (b_ (arrOf st) j))) st):wpS (model prog w) A E s (ltAt' i j) Q st:=by rw[ltAt'_eq];refine ap (wpS_get ?_);exact ap (wp_elem (by rw[B.size];exact hi) (ap (wp_elem (by rw[B.size];exact hj) (L _ _ _ _ (B.mem hi) (B.mem hj) B.kd h))))
theorem wp_rev {st:SortSt}{i j:Nat}{Q:Unit ->SortSt ->Prop}(h:Q () (setArr st (mirror (arrOf st) i j ((j - i) / 2)))):wpS (model prog w) A E s (reverseSlice' i j) Q st:=by rw[reverseSlice'_eq];exact wpS_modify h
theorem dA {xs:Array Keyed}{i j:Nat}(hj:j<=xs.size)(k:Nat):b_ (mirror xs i j ((j - i) / 2)) k=if i<=k /\ k<j then b_ xs (i+j - 1 - k) else b_ xs k:=by have e:=getElem?_mirror_all (i:=i) hj k;by_cases c:i<=k /\ k<j;rw[ak c] at e ⊢;exact iw e;rw[aj c] at e ⊢;exact iw e
theorem lq {xs:Array Keyed}{GI d:Nat}(hs:GI<xs.size)(hd:d<=GI)(k:Nat):b_ (bubble xs GI d) k=if k=GI - d then b_ xs GI else if GI - d<k /\ k<=GI then b_ xs (k - 1) else b_ xs k:=by have e:=getElem?_bubble hs d hd k;by_cases c:k=GI - d;rw[ak c] at e ⊢;exact iw e;rw[aj c] at e ⊢;by_cases c':GI - d<k /\ k<=GI;rw[ak c'] at e ⊢;exact iw e;rw[aj c'] at e ⊢;exact iw e
def Gg (lo a cY:Nat):StateT SortSt Sem AscSt:=forIn [a:cY] ((none,a):AscSt) λ_ c=>do
 let x <- ltAt' (lo+c.snd) (lo+c.snd - 1)
 match x with
 | some b=>if b=true then pure (ForInStep.done (none,c.snd)) else pure (ForInStep.yield (none,c.snd+1))
 | _=>pure (ForInStep.done (some none,c.snd))
def vI (lo n cY:Nat):StateT SortSt Sem (Option Nat):=do
 reverseSlice' lo (lo+n)
 let c <- Gg lo n cY
 match c.fst with
 | some r=>pure r
 | none=>pure (some c.snd)
def A_ (lo n cY:Nat):StateT SortSt Sem DescSt:=forIn [n:cY] ((none,n,0):DescSt) λ_ c=>do
 let x <- ltAt' (lo+c.snd.fst) (lo+c.snd.fst - 1)
 match x with
 | some b=>
  if b=true then
   if c.snd.snd >0 then do
    reverseSlice' (lo+c.snd.fst - (c.snd.snd+1)) (lo+c.snd.fst)
    pure (ForInStep.yield (none,c.snd.fst+1,0))
   else pure (ForInStep.yield (none,c.snd.fst+1,0))
  else do
   let y <- ltAt' (lo+c.snd.fst - 1) (lo+c.snd.fst)
   match y with
   | some d=>
    if d=true then pure (ForInStep.done (none,c.snd.fst,c.snd.snd))
    else pure (ForInStep.yield (none,c.snd.fst+1,c.snd.snd+1))
   | _=>pure (ForInStep.done (some none,c.snd.fst,c.snd.snd))
 | _=>pure (ForInStep.done (some none,c.snd.fst,c.snd.snd))
def wu (lo n cY:Nat):StateT SortSt Sem (Option Nat):=do
 liftM (rule "list.sort.descending-run")
 let c <- A_ lo (n+1) cY
 match c.fst with
 | some r=>pure r
 | none=>
  if c.snd.snd >0 then do
   reverseSlice' (lo+c.snd.fst - (c.snd.snd+1)) (lo+c.snd.fst)
   vI lo c.snd.fst cY
  else vI lo c.snd.fst cY
theorem Hj (lo cY:Nat):countRun' lo cY=(do
  let c <- Gg lo 1 cY
  match c.fst with
  | some r=>pure r
  | none =>
   if(c.snd==cY)=true then pure (some c.snd)
   else if c.snd >1 then do
    let x <- ltAt' lo (lo+c.snd - 1)
    match x with
    | some b=>if b=true then pure (some c.snd) else do
     reverseSlice' lo (lo+c.snd)
     wu lo c.snd cY
    | _=>pure none
   else wu lo c.snd cY):=by
 rw[countRun'_eq]
 dsimp only
 unfold wu vI A_ Gg
 congr 1
 funext c
 obtain⟨r,n⟩:=c
 cases r with
 | some r=>rfl
 | none =>
  dsimp only;split;rfl;split;congr 1;funext x;cases x with
  | none=>rfl
  | some b=>
   dsimp only;split;rfl;congr 1;funext _r;congr 1;funext _u;congr 1;congr 1;funext s2;obtain⟨r2,n2,q2⟩:=s2;cases r2 with
   | some r2=>rfl
   | none=>dsimp only;split;congr 1;funext _v;congr 1;funext _w;congr 1;funext s3;obtain⟨r3,n3⟩:=s3;cases r3<;>rfl;congr 1;funext _w;congr 1;funext s3;obtain⟨r3,n3⟩:=s3;cases r3<;>rfl
  congr 1;funext _u;congr 1;congr 1;funext s2;obtain⟨r2,n2,q2⟩:=s2;cases r2 with
  | some r2=>rfl
  | none=>dsimp only;split;congr 1;funext _v;congr 1;funext _w;congr 1;funext s3;obtain⟨r3,n3⟩:=s3;cases r3<;>rfl;congr 1;funext _w;congr 1;funext s3;obtain⟨r3,n3⟩:=s3;cases r3<;>rfl
def pj (lo hi:Nat)(xs ys:Array Keyed):Prop:= ∀k,k<lo \/ hi<=k ->b_ ys k=b_ xs k
theorem pj.refl {lo hi:Nat}{xs:Array Keyed}:pj lo hi xs xs:=λ_ _=>rfl
theorem pj.trans {lo hi:Nat}{xs ys zs:Array Keyed}(a:pj lo hi xs ys)(b:pj lo hi ys zs):pj lo hi xs zs:=λk h=>(b k h).trans (a k h)
theorem wp_ascL (O:Ord less)(L:gt prog w A E s kd a₀ less){st:SortSt}{lo a cY:Nat}{Q:AscSt ->SortSt ->Prop}(hn:lo+cY<=a₀.size)(ha:1<=a)(han:a<=cY)(B:SB kd a₀ st) (hs:Sg less (arrOf st) lo (lo+a)) (h: ∀n,a<=n ->n<=cY ->Sg less (arrOf st) lo (lo+n) ->(n=cY \/ less (b_ (arrOf st) (lo+n)) (b_ (arrOf st) (lo+n - 1))=true) ->Q (none,n) st): wpS (model prog w) A E s (Gg lo a cY) Q st:=by
 unfold Gg;refine bX (I:=λx c bw=>bw=st /\ c=(none,x) /\ Sg less (arrOf st) lo (lo+x)) ?step ?fin ⟨rfl,rfl,hs⟩;case fin=>
  rintro c bw ⟨rfl,rfl,fA⟩
  rw[show max a cY=cY by lia] at fA ⊢
  exact h cY han (ao _) fA (.inl rfl)
 case step=>
  rintro x c bw V2 hxn ⟨rfl,rfl,fA⟩
  dsimp only
  refine ap (wp_lt L B ∅ ∅ ?_)
  cases e:less (b_ (arrOf bw) (lo+x)) (b_ (arrOf bw) (lo+x - 1)) with
  | true=>simp only[bP];exact ax (h x V2 ∅ fA (.inr e))
  | false=>simp only[aw,bi];refine ax ⟨rfl,rfl,λi j hi iW hj=> ?_⟩;by_cases c:j<lo+x;exact fA i j hi iW c;have:j=lo+x:= ∅;subst this;by_cases c2:i=lo+x;subst c2;exact O.refl _;exact O.trans _ _ _ (fA i (lo+x - 1) hi ∅ ∅) e
theorem wp_tailL (O:Ord less)(L:gt prog w A E s kd a₀ less){st:SortSt}{lo n cY:Nat}{Q:Option Nat ->SortSt ->Prop}(hn:lo+cY<=a₀.size)(h1:1<=n)(pd:n<=cY)(B:SB kd a₀ st) (hs:Ng less (arrOf st) lo (lo+n)) (h: ∀m bw,SB kd a₀ bw ->1<=m ->m<=cY ->Sg less (arrOf bw) lo (lo+m) ->pendingOf bw=pendingOf st ->pj lo (lo+cY) (arrOf st) (arrOf bw) ->Q (some m) bw): wpS (model prog w) A E s (vI lo n cY) Q st:=by
 unfold vI;have hsz:lo+n<=(arrOf st).size:=by rw[B.size];lia
 refine ap (wp_rev ?_);have B':SB kd a₀ (setArr st (mirror (arrOf st) lo (lo+n) ((lo+n - lo) / 2))):=B.arr (mirror_perm _ _ _ _);refine ap (wp_ascL O L hn h1 pd B' ?_ λm hm1 SV hsm _=>ax (h m _ B' ∅ SV hsm rfl ?_));intro i j hi iW hj;show LE less (b_ (mirror (arrOf st) lo (lo+n) ((lo+n - lo) / 2)) i) (b_ (mirror (arrOf st) lo (lo+n) ((lo+n - lo) / 2)) j);rw[dA hsz,dA hsz,ak ∅,ak ∅];exact hs _ _ ∅ ∅ ∅;intro k hk;show b_ (mirror (arrOf st) lo (lo+n) ((lo+n - lo) / 2)) k=_;rw[dA hsz,aj ∅]
theorem nr (O:Ord less){xs:Array Keyed}{lo i m:Nat}(hj:m<=xs.size)(hli:lo<=i)(hs:Ng less xs lo m)(he: ∀k,i<=k ->k<m ->LE less (b_ xs k) (b_ xs (m - 1))):Ng less (mirror xs i m ((m - i) / 2)) lo m:=by intro a b ha AY hb;rw[dA hj,dA hj];by_cases c1:i<=a;rw[ak ∅,ak ∅];refine O.trans _ _ _ (he (i+m - 1 - b) ∅ ∅) (hs _ _ ∅ ∅ ∅);rw[aj (show ¬(i<=a /\ a<m) by lia)];by_cases c2:i<=b;rw[ak ∅];exact hs _ _ ∅ ∅ ∅;rw[aj ∅];exact hs _ _ ∅ ∅ ∅
theorem li {xs:Array Keyed}{lo hi i j:Nat}(hj:j<=xs.size)(h1:lo<=i)(h2:j<=hi):pj lo hi xs (mirror xs i j ((j - i) / 2)):=λk hk=>by rw[dA hj,aj ∅]
theorem wp_descL (O:Ord less)(L:gt prog w A E s kd a₀ less){st:SortSt}{lo n cY:Nat}{Q:DescSt ->SortSt ->Prop}(hn:lo+cY<=a₀.size)(h1:1<=n)(pd:n<=cY)(B:SB kd a₀ st) (hs:Ng less (arrOf st) lo (lo+n)) (h: ∀m sQ bw,SB kd a₀ bw ->n<=m ->m<=cY ->Ng less (arrOf bw) lo (lo+m) ->sQ+1<=m ->(∀i,lo+m - (sQ+1) <=i ->i<lo+m ->LE less (b_ (arrOf bw) i) (b_ (arrOf bw) (lo+m - 1))) ->pendingOf bw=pendingOf st ->pj lo (lo+cY) (arrOf st) (arrOf bw) ->Q (none,m,sQ) bw): wpS (model prog w) A E s (A_ lo n cY) Q st:=by
 unfold A_;refine bX (I:=λx c bw=> ∃sQ,KS (c=(none,x,sQ)) (SB kd a₀ bw) (Ng less (arrOf bw) lo (lo+x)) (sQ+1<=x) (∀i,lo+x - (sQ+1) <=i ->i<lo+x ->LE less (b_ (arrOf bw) i) (b_ (arrOf bw) (lo+x - 1))) (pendingOf bw=pendingOf st) (pj lo (lo+cY) (arrOf st) (arrOf bw))) ?step ?fin ⟨0,rfl,B,hs, ∅,λi h1 h2=>by rw[show i=lo+n - 1 by lia];exact O.refl _,rfl,pj.refl⟩;case fin=>
  rintro c bw ⟨sQ,rfl,B',fA,hq,he,hp,ho⟩
  rw[show max n cY=cY by lia] at fA hq he ⊢
  exact h cY sQ bw B' pd (ao _) fA hq he hp ho
 case step =>
  rintro x c bw V2 hxn ⟨sQ,rfl,B',fA,hq,he,hp,ho⟩
  dsimp only
  have hsz:lo+x<=(arrOf bw).size:=by rw[B'.size];lia
  refine ap (wp_lt L B' ∅ ∅ ?_)
  cases e:less (b_ (arrOf bw) (lo+x)) (b_ (arrOf bw) (lo+x - 1)) with
  | true =>simp only[bP];by_cases Fn:sQ >0;rw [ak Fn];refine ap (wp_rev (ax ⟨0,rfl,B'.arr (mirror_perm _ _ _ _),?_, ∅,λi h1 h2=>by rw[show i=lo+(x+1) - 1 by lia];exact O.refl _,hp,ho.trans (li hsz ∅ ∅)⟩));have hm:=nr O (i:=lo+x - (sQ+1)) hsz ∅ fA he;intro i j hi iW hj;by_cases c:j<lo+x;exact hm i j hi iW c;have:j=lo+x:= ∅;subst this;by_cases c2:i=lo+x;subst c2;exact O.refl _;refine O.trans _ _ _ ?_ (hm i (lo+x - 1) hi ∅ ∅);show LE less (b_ (mirror (arrOf bw) (lo+x - (sQ+1)) (lo+x) ((lo+x - (lo+x - (sQ+1))) / 2)) (lo+x)) (b_ (mirror (arrOf bw) (lo+x - (sQ+1)) (lo+x) ((lo+x - (lo+x - (sQ+1))) / 2)) (lo+x - 1));rw[dA hsz,dA hsz,aj ∅,ak ∅];exact O.trans _ _ _ (O.le e) (fA _ _ ∅ ∅ ∅);rw[aj Fn];refine ax ⟨0,rfl,B',λi j hi iW hj=> ?_, ∅,λi h1 h2=>by rw[show i=lo+(x+1) - 1 by lia];exact O.refl _,hp,ho⟩;by_cases c:j<lo+x;exact fA i j hi iW c;have:j=lo+x:= ∅;subst this;by_cases c2:i=lo+x;subst c2;exact O.refl _;exact O.trans _ _ _ (O.le e) (fA i (lo+x - 1) hi ∅ ∅)
  | false =>
   simp only[aw,bi];refine ap (wp_lt L B' ∅ ∅ ?_);cases e2:less (b_ (arrOf bw) (lo+x - 1)) (b_ (arrOf bw) (lo+x)) with
   | true=>simp only[bP];exact ax (h x sQ bw B' V2 ∅ fA hq he hp ho)
   | false=>simp only[aw,bi];refine ax ⟨sQ+1,rfl,B',λi j hi iW hj=> ?_, ∅,λi h1 h2=> ?_,hp,ho⟩;by_cases c:j<lo+x;exact fA i j hi iW c;have:j=lo+x:= ∅;subst this;by_cases c2:i=lo+x;subst c2;exact O.refl _;exact O.trans _ _ _ e2 (fA i (lo+x - 1) hi ∅ ∅);rw[show lo+(x+1) - 1=lo+x by lia];by_cases c:i=lo+x;subst c;exact O.refl _;exact O.trans _ _ _ (he i ∅ ∅) e
theorem wp_partL (O:Ord less)(L:gt prog w A E s kd a₀ less){st:SortSt}{lo n cY:Nat}{Q:Option Nat ->SortSt ->Prop}(hn:lo+cY<=a₀.size)(pd:n+1<=cY)(B:SB kd a₀ st) (hs:Ng less (arrOf st) lo (lo+(n+1))) (h: ∀m bw,SB kd a₀ bw ->1<=m ->m<=cY ->Sg less (arrOf bw) lo (lo+m) ->pendingOf bw=pendingOf st ->pj lo (lo+cY) (arrOf st) (arrOf bw) ->Q (some m) bw): wpS (model prog w) A E s (wu lo n cY) Q st:=by
 unfold wu;refine ap (wpS_lift (wpAny_rule ⟨rfl,?_⟩));refine ap (wp_descL O L hn ∅ pd B hs λm sQ bw B' hm1 SV fA hq he hp ho=> ?_);dsimp only;have hsz:lo+m<=(arrOf bw).size:=by rw[B'.size];lia
 by_cases Fn:sQ >0;rw[ak Fn];refine ap (wp_rev (wp_tailL O L hn ∅ SV (B'.arr (mirror_perm _ _ _ _)) (nr O hsz ∅ fA he) λm2 lB b1 b2 b3 b4 b5 b6=>h m2 lB b1 b2 b3 b4 (b5.trans hp) (ho.trans ((li hsz ∅ ∅).trans b6))));rw[aj Fn];exact wp_tailL O L hn ∅ SV B' fA λm2 lB b1 b2 b3 b4 b5 b6=>h m2 lB b1 b2 b3 b4 (b5.trans hp) (ho.trans b6)
theorem wp_run (O:Ord less)(L:gt prog w A E s kd a₀ less){st:SortSt}{lo cY:Nat}{Q:Option Nat ->SortSt ->Prop}(hn:lo+cY<=a₀.size)(h1:1<=cY)(B:SB kd a₀ st) (h: ∀m bw,SB kd a₀ bw ->1<=m ->m<=cY ->Sg less (arrOf bw) lo (lo+m) ->pendingOf bw=pendingOf st ->pj lo (lo+cY) (arrOf st) (arrOf bw) ->Q (some m) bw): wpS (model prog w) A E s (countRun' lo cY) Q st:=by
 rw[Hj];refine ap (wp_ascL O L hn (ao 1) h1 B (λi j hi iW hj=>by rw[show i=j by lia];exact O.refl _) λn Kt Cv Qt hor=> ?_);dsimp only;by_cases pd:n=cY;rw[ak ⇑pd];exact ax (h n st B Kt Cv Qt rfl pj.refl);rw [aj ⇑pd];have kH:=hor.resolve_left pd;have hsz:lo+n<=(arrOf st).size:=by rw[B.size];lia
 by_cases hgt:n >1;rw [ak hgt];refine ap (wp_lt L B ∅ ∅ ?_);cases e:less (b_ (arrOf st) lo) (b_ (arrOf st) (lo+n - 1)) with
 | true=>simp only[bP];exact ax (h n st B Kt Cv Qt rfl pj.refl)
 | false=>simp only[aw,bi];have hng:Ng less (arrOf st) lo (lo+n):=λi j hi iW hj=>O.trans _ _ _ (O.trans _ _ _ (Qt j (lo+n - 1) ∅ ∅ ∅) e) (Qt lo i (ao _) hi ∅);refine ap (wp_rev (wp_partL O L hn ∅ (B.arr (mirror_perm _ _ _ _)) ?_ λm2 lB b1 b2 b3 b4 b5 b6=>h m2 lB b1 b2 b3 b4 b5 ((li hsz ∅ ∅).trans b6)));have hm:=nr O (i:=lo) hsz (ao _) hng λk _ _=>Qt k (lo+n - 1) ∅ ∅ ∅;intro i j hi iW hj;by_cases c:j<lo+n;exact hm i j hi iW c;have:j=lo+n:= ∅;subst this;by_cases c2:i=lo+n;subst c2;exact O.refl _;refine O.trans _ _ _ ?_ (hm i (lo+n - 1) hi ∅ ∅);show LE less (b_ (mirror (arrOf st) lo (lo+n) ((lo+n - lo) / 2)) (lo+n)) (b_ (mirror (arrOf st) lo (lo+n) ((lo+n - lo) / 2)) (lo+n - 1));rw[dA hsz,dA hsz,aj ∅,ak ∅];exact O.trans _ _ _ (O.le kH) (hng _ _ ∅ ∅ ∅)
 rw[aj hgt];have VL:n=1:= ∅;subst VL;refine wp_partL O L hn ∅ B (λi j hi iW hj=> ?_) h;by_cases c:i=j;subst c;exact O.refl _;rw[show i=lo+1 - 1 by lia,show j=lo+1 by lia];exact O.le kH
theorem wp_bin (O:Ord less)(L:gt prog w A E s kd a₀ less){st:SortSt}{lo n ok:Nat}{Q:Bool ->SortSt ->Prop}(hn:lo+n<=a₀.size)(cF:ok<=n)(B:SB kd a₀ st)(hs:Sg less (arrOf st) lo (lo+ok)) (h: ∀bw,SB kd a₀ bw ->Sg less (arrOf bw) lo (lo+n) ->pendingOf bw=pendingOf st ->pj lo (lo+n) (arrOf st) (arrOf bw) ->Q true bw):wpS (model prog w) A E s (binarySort' lo n ok) Q st:=by
 rw[binarySort'_eq];refine ap (wpS_mono (bX (I:=λk c bw=>c=(none,()) /\ SB kd a₀ bw /\ Sg less (arrOf bw) lo (lo+min k n) /\ pendingOf bw=pendingOf st /\ pj lo (lo+n) (arrOf st) (arrOf bw)) (Q:=λc bw=>c=(none,()) /\ SB kd a₀ bw /\ Sg less (arrOf bw) lo (lo+n) /\ pendingOf bw=pendingOf st /\ pj lo (lo+n) (arrOf st) (arrOf bw)) ?step ?fin ?init) ?post);case post=>
  rintro c bw ⟨rfl,B',fA,hp,ho⟩
  exact ax (h bw B' fA hp ho)
 case init=>
  refine⟨rfl,B,λi j hi iW hj=> ?_,rfl,pj.refl⟩
  by_cases c:ok=0
  rw[show i=j by lia];exact O.refl _
  exact hs i j hi iW ∅
 case fin=>
  rintro c bw ⟨hc,B',fA,hp,ho⟩
  refine⟨hc,B',?_,hp,ho⟩
  rwa [show min (max (max ok 1) n) n=n by lia] at fA
 case step=>
  rintro k c bw hak hkn ⟨rfl,B',fA,hp,ho⟩
  rw[show min k n=k by lia] at fA
  have hk:lo+k<a₀.size:= ∅
  refine ap (wpS_mono (bX (I:=λx c eO=>eO=bw /\ ca λl r=>kz (c=(none,l,r)) (l<=r) (r<=k) (r - l<=k - x) (∀i,i<l ->LE less (b_ (arrOf bw) (lo+i)) (b_ (arrOf bw) (lo+k))) (∀i,r<=i ->i<k ->LE less (b_ (arrOf bw) (lo+k)) (b_ (arrOf bw) (lo+i)))) (Q:=λc eO=>eO=bw /\ ca λl r=>eu (c=(none,l,r)) (l<=k) (∀i,i<l ->LE less (b_ (arrOf bw) (lo+i)) (b_ (arrOf bw) (lo+k))) (∀i,l<=i ->i<k ->LE less (b_ (arrOf bw) (lo+k)) (b_ (arrOf bw) (lo+i)))) ?istep ?ifin ?iinit) ?ipost)
  case iinit=>exact⟨rfl,0,k,rfl, ∅, ∅, ∅,λi hi=> ∅,λi h1 h2=> ∅⟩
  case ifin=>
   rintro c eO ⟨rfl,l,r,rfl,QD,Vu,hm,MC,NO⟩
   have:l=r:= ∅
   subst this
   exact⟨rfl,l,l,rfl,Vu,MC,NO⟩
  case istep=>
   rintro x c eO _ hxk ⟨rfl,l,r,rfl,QD,Vu,hm,MC,NO⟩
   dsimp only
   by_cases VV:l≥r
   rw[ak VV]
   have:l=r:= ∅
   subst this
   exact ax ⟨rfl,l,l,rfl,Vu,MC,NO⟩
   rw[aj VV]
   refine ap (wp_lt L B' hk ∅ ?_)
   cases e:less (b_ (arrOf eO) (lo+k)) (b_ (arrOf eO) (lo+(l+r) / 2)) with
   | true=>simp only[bP];refine ax ⟨rfl,l,(l+r) / 2,rfl, ∅, ∅, ∅,MC,λi h1 h2=> ?_⟩;exact O.trans _ _ _ (O.le e) (fA _ _ ∅ ∅ ∅)
   | false=>simp only[aw,bi];refine ax ⟨rfl,(l+r) / 2+1,r,rfl, ∅, ∅, ∅,λi h1=> ?_,NO⟩;exact O.trans _ _ _ (fA (lo+i) (lo+(l+r) / 2) ∅ ∅ ∅) e
  case ipost=>
   rintro c eO ⟨rfl,l,r,rfl,hlk,MC,NO⟩
   show wpS _ _ _ _ (do moveDown' (lo+k) (lo+l);pure (ForInStep.yield (none,()))) _ _
   rw[moveDown'_eq]
   have VP:lo+k< (arrOf eO).size:=by rw[B'.size];exact hk
   refine ap (wpS_modify (ax ⟨rfl,B'.arr (bubble_perm _ _ _),?_,hp,ho.trans λj hj=> ?_⟩))
   ·rw[show min (k+1) n=k+1 by lia];intro i j hi iW hj;show LE less (b_ (bubble (arrOf eO) (lo+k) (lo+k - (lo+l))) i) (b_ (bubble (arrOf eO) (lo+k) (lo+k - (lo+l))) j);rw[lq VP ∅,lq VP ∅,show lo+k - (lo+k - (lo+l))=lo+l by lia];have VN: ∀i,lo<=i ->i<lo+l ->LE less (b_ (arrOf eO) i) (b_ (arrOf eO) (lo+k)):=λi h1 h2=>by have:=MC (i - lo) ∅;rwa [show lo+(i - lo)=i by lia] at this
    have VU: ∀i,lo+l<=i ->i<lo+k ->LE less (b_ (arrOf eO) (lo+k)) (b_ (arrOf eO) i):=λi h1 h2=>by have:=NO (i - lo) ∅ ∅;rwa [show lo+(i - lo)=i by lia] at this
    repeat' split
    all_goals first
    | (exfalso;lia)
    | exact O.refl _
    | exact VN _ ∅ ∅
    | exact VU _ ∅ ∅
    | exact fA _ _ ∅ ∅ ∅
   show b_ (bubble (arrOf eO) (lo+k) (lo+k - (lo+l))) j=_
   rw[lq VP ∅,aj ∅,aj ∅]
end
def Iz:Bool ->Keyed ->Array Keyed ->Nat ->Nat ->Nat ->StateT SortSt Sem (Option Nat):=sortPriv% PySem.Builtin.gallop
def U4:Array Keyed ->Array Keyed ->StateT SortSt Sem (Array Keyed):=sortPriv% PySem.Builtin.mergeLo
def U5:Array Keyed ->Array Keyed ->StateT SortSt Sem (Array Keyed):=sortPriv% PySem.Builtin.mergeHi
abbrev cw (st:SortSt)(g:Nat):SortSt:=SortSt.mk' (kindOf st) (arrOf st) (pendingOf st) g (failedOf st)
def bey (left:Bool)(lw:Keyed)(arr:Array Keyed)(base i:Nat):StateT SortSt Sem (Option Bool):=do
 let x <- elem' arr (base+i)
 if left then lt' x lw else return(<- lt' lw x).map (!·)
section
variable {prog:Program}{w:World}{A:Around}{E:Value ->Shared ->Prop}{s:Shared}{kd:SortKind}{a₀:Array Keyed}{less:Keyed ->Keyed ->Bool}
theorem wp_gal0 {st:SortSt}{left:Bool}{lw:Keyed}{arr:Array Keyed}{base n eA:Nat}{Q:Option Nat ->SortSt ->Prop}(Bf:Nat ->Bool)(hh:eA<n) (hb: ∀i,i<n -> ∀Q':Option Bool ->SortSt ->Prop,Q' (some (Bf i)) st ->wpS (model prog w) A E s (bey left lw arr base i) Q' st) (mono: ∀i j,i<=j ->j<n ->Bf j=true ->Bf i=true) (h: ∀k,k<=n ->(∀i,i<k ->Bf i=true) ->(∀i,k<=i ->i<n ->Bf i=false) ->Q (some k) st): wpS (model prog w) A E s (Iz left lw arr base n eA) Q st:=by
 have AD: ∀i j,i<=j ->j<n ->Bf i=false ->Bf j=false:=λi j iW hj e=>by
  cases e2:Bf j with
  | false=>rfl
  | true=>rw[mono i j iW hj e2] at e;cases e
 refine ap (hb eA hh _ ?_);dsimp only;cases hB:Bf eA with
 | true =>
  simp only[bP];refine ap (wpS_mono (bX (I:=λi c bw=>bw=st /\ ca λla f=>fo (c=(none,la,f)) (i+1<=f) (la<f) (eA+la<n) (Bf (eA+la)=true)) (Q:=λc bw=>bw=st /\ ca λla f=>fo (c=(none,la,f)) (la<f) (eA+la<n) (Bf (eA+la)=true) (n - eA<=f \/ (eA+f<n /\ Bf (eA+f)=false))) ?_ ?_ ⟨rfl,0,1,rfl,by omega,by omega,by omega,hB⟩) ?_);rintro i c bw _ hi ⟨rfl,la,f,rfl,h1,h2,h3,h4⟩;dsimp only;by_cases c1:f≥n - eA;rw[ak c1];exact ax ⟨rfl,la,f,rfl,h2,h3,h4, .inl c1⟩;rw[aj c1];refine ap (hb _ (by omega) _ ?_);cases e:Bf (eA+f) with
  | true=>simp only[aL,aw,bi];exact ax ⟨rfl,f,2*f+1,rfl,by omega,by omega,by omega,e⟩
  | false=>simp only[bv,bP];exact ax ⟨rfl,la,f,rfl,h2,h3,h4, .inr ⟨by omega,e⟩⟩
  rintro c bw ⟨rfl,la,f,rfl,h1,h2,h3,h4⟩;exact⟨rfl,la,f,rfl,h2,h3,h4, .inl (by omega)⟩;rintro c bw ⟨rfl,la,f,rfl,h2,h3,h4,h5⟩;dsimp only;refine ap (wpS_mono (bX (I:=λi c eO=>eO=bw /\ ca λlo hi=>kz (c=(none,lo,hi)) (lo<=hi) (hi<=n) (hi - lo<=n - i) (∀i,i<lo ->Bf i=true) (∀i,hi<=i ->i<n ->Bf i=false)) (Q:=λc eO=>eO=bw /\ ca λlo hi=>eu (c=(none,lo,hi)) (hi<=n) (∀i,i<hi ->Bf i=true) (∀i,hi<=i ->i<n ->Bf i=false)) ?_ ?_ ⟨rfl,_,_,rfl,by omega,by omega,by omega,λi hi=>mono i (eA+la) (by omega) h3 h4,λi hi za=> ?_⟩) ?_);rintro i c eO _ hi ⟨rfl,lo,ot,rfl,g1,g2,g3,g4,g5⟩;dsimp only;by_cases c1:lo≥ot;rw[ak c1];have:lo=ot:=by omega
  subst this;exact ax ⟨rfl,_,_,rfl,g2,g4,g5⟩;rw[aj c1];refine ap (hb _ (by omega) _ ?_);cases e:Bf (lo+(ot - lo) / 2) with
  | true=>simp only[bP];exact ax ⟨rfl,_,_,rfl,by omega,g2,by omega,λj hj=>mono j _ (by omega) (by omega) e,g5⟩
  | false=>simp only[aw,bi];exact ax ⟨rfl,_,_,rfl,by omega,by omega,by omega,g4,λj hj VR=>AD _ j hj VR e⟩
  rintro c eO ⟨rfl,lo,ot,rfl,g1,g2,g3,g4,g5⟩;have:lo=ot:=by omega
  subst this;exact⟨rfl,_,_,rfl,g2,g4,g5⟩;rcases h5 with h5 | ⟨h5,h6⟩;omega;exact AD (eA+f) i (by omega) za h6;rintro c eO ⟨rfl,lo,ot,rfl,g2,g4,g5⟩;exact ax (h _ g2 g4 g5)
 | false =>
  simp only[aw,bi];refine ap (wpS_mono (bX (I:=λi c bw=>bw=st /\ ca λla f=>fo (c=(none,la,f)) (i+1<=f) (la<f) (la<=eA) (Bf (eA - la)=false)) (Q:=λc bw=>bw=st /\ ca λla f=>fo (c=(none,la,f)) (la<f) (la<=eA) (Bf (eA - la)=false) (eA+1<=f \/ (f<=eA /\ Bf (eA - f)=true))) ?_ ?_ ⟨rfl,0,1,rfl,by omega,by omega,by omega,hB⟩) ?_);rintro i c bw _ hi ⟨rfl,la,f,rfl,h1,h2,h3,h4⟩;dsimp only;by_cases c1:f≥eA+1;rw[ak c1];exact ax ⟨rfl,la,f,rfl,h2,h3,h4, .inl c1⟩;rw[aj c1];refine ap (hb _ (by omega) _ ?_);cases e:Bf (eA - f) with
  | false=>simp only[aw,bi];exact ax ⟨rfl,f,2*f+1,rfl,by omega,by omega,by omega,e⟩
  | true=>simp only[bP];exact ax ⟨rfl,la,f,rfl,h2,h3,h4, .inr ⟨by omega,e⟩⟩
  rintro c bw ⟨rfl,la,f,rfl,h1,h2,h3,h4⟩;exact⟨rfl,la,f,rfl,h2,h3,h4, .inl (by omega)⟩;rintro c bw ⟨rfl,la,f,rfl,h2,h3,h4,h5⟩;dsimp only;refine ap (wpS_mono (bX (I:=λi c eO=>eO=bw /\ ca λlo hi=>kz (c=(none,lo,hi)) (lo<=hi) (hi<=n) (hi - lo<=n - i) (∀i,i<lo ->Bf i=true) (∀i,hi<=i ->i<n ->Bf i=false)) (Q:=λc eO=>eO=bw /\ ca λlo hi=>eu (c=(none,lo,hi)) (hi<=n) (∀i,i<hi ->Bf i=true) (∀i,hi<=i ->i<n ->Bf i=false)) ?_ ?_ ⟨rfl,_,_,rfl,by omega,by omega,by omega,λi hi=> ?_,λi hi za=>AD (eA - la) i (by omega) za h4⟩) ?_);rintro i c eO _ hi ⟨rfl,lo,ot,rfl,g1,g2,g3,g4,g5⟩;dsimp only;by_cases c1:lo≥ot;rw[ak c1];have:lo=ot:=by omega
  subst this;exact ax ⟨rfl,_,_,rfl,g2,g4,g5⟩;rw[aj c1];refine ap (hb _ (by omega) _ ?_);cases e:Bf (lo+(ot - lo) / 2) with
  | true=>simp only[bP];exact ax ⟨rfl,_,_,rfl,by omega,g2,by omega,λj hj=>mono j _ (by omega) (by omega) e,g5⟩
  | false=>simp only[aw,bi];exact ax ⟨rfl,_,_,rfl,by omega,by omega,by omega,g4,λj hj VR=>AD _ j hj VR e⟩
  rintro c eO ⟨rfl,lo,ot,rfl,g1,g2,g3,g4,g5⟩;have:lo=ot:=by omega
  subst this;exact⟨rfl,_,_,rfl,g2,g4,g5⟩;rcases h5 with h5 | ⟨h5,h6⟩;omega;exact mono i (eA - f) (by omega) (by omega) h6;rintro c eO ⟨rfl,lo,ot,rfl,g2,g4,g5⟩;exact ax (h _ g2 g4 g5)
theorem wp_galL (O:Ord less)(L:gt prog w A E s kd a₀ less){st:SortSt}{lw:Keyed}{arr:Array Keyed}{base n eA:Nat}{Q:Option Nat ->SortSt ->Prop}(B:kindOf st=kd)(hk:lw∈a₀.toList) (hm: ∀i,i<n ->base+i<arr.size /\ b_ arr (base+i)∈a₀.toList) (hh:eA<n) (hs:Sg less arr base (base+n)) (h: ∀k,k<=n ->(∀i,i<k ->less (b_ arr (base+i)) lw=true) ->(∀i,k<=i ->i<n ->LE less lw (b_ arr (base+i))) ->Q (some k) st): wpS (model prog w) A E s (Iz true lw arr base n eA) Q st:=by refine wp_gal0 (λi=>less (b_ arr (base+i)) lw) hh (λi hi Q' hq=> ?_) (λi j iW hj e=>O.Qc (hs (base+i) (base+j) (by omega) (by omega) (by omega)) e) h;unfold bey;refine ap (wp_elem (hm i hi).1 ?_);simp only[bP];exact L _ _ _ _ (hm i hi).2 hk B hq
theorem wp_galR (O:Ord less)(L:gt prog w A E s kd a₀ less){st:SortSt}{lw:Keyed}{arr:Array Keyed}{base n eA:Nat}{Q:Option Nat ->SortSt ->Prop}(B:kindOf st=kd)(hk:lw∈a₀.toList) (hm: ∀i,i<n ->base+i<arr.size /\ b_ arr (base+i)∈a₀.toList) (hh:eA<n) (hs:Sg less arr base (base+n)) (h: ∀k,k<=n ->(∀i,i<k ->LE less (b_ arr (base+i)) lw) ->(∀i,k<=i ->i<n ->less lw (b_ arr (base+i))=true) ->Q (some k) st): wpS (model prog w) A E s (Iz false lw arr base n eA) Q st:=by refine wp_gal0 (λi=> !less lw (b_ arr (base+i))) hh (λi hi Q' hq=> ?_) (λi j iW hj e=> ?_) (λk h1 h2 h3=>h k h1 (λi hi=> ?_) λi h4 h5=> ?_);unfold bey;refine ap (wp_elem (hm i hi).1 ?_);simp only[aw,bi];exact ap (L _ _ _ _ hk (hm i hi).2 B (ax hq));simp only[Bool.not_eq_true'] at e ⊢;exact O.trans _ _ _ (hs (base+i) (base+j) (by omega) (by omega) (by omega)) e;have:=h2 i hi;simp only[Bool.not_eq_true'] at this;exact this;have:=h3 i h4 h5;simpa using this
end
structure MI (less:Keyed ->Keyed ->Bool)(al bl o:List Keyed)(i j:Nat):Prop where
 pm:o.Perm (al.take i++bl.take j)
 so:o.Pairwise (LE less)
 ba: ∀x∈o, ∀y∈al.drop i,LE less x y
 bb: ∀x∈o, ∀y∈bl.drop j,LE less x y
section
variable {less:Keyed ->Keyed ->Bool}{al bl o:List Keyed}{i j:Nat}
theorem MI.swap (h:MI less al bl o i j):MI less bl al o j i:=⟨h.pm.trans c6,h.so,h.bb,h.ba⟩
theorem take_add {α:Type}(l:List α)(i k:Nat):l.take (i+k)=l.take i++(l.drop i).take k:=by rw[List.take_add]
theorem MI.IY (h:MI less al bl o i j)(sa:al.Pairwise (LE less))(k:Nat)(hk: ∀x∈(al.drop i).take k, ∀y∈bl.drop j,LE less x y):MI less al bl (o++(al.drop i).take k) (i+k) j:=by
 have sd:(al.drop i).Pairwise (LE less):=sa.sublist (List.drop_sublist _ _);have e:(al.drop i).take k++al.drop (i+k)=al.drop i:=by rw[<- List.drop_drop,bu]
 have Lq:=sd;rw[<- e,cO] at Lq;refine⟨?_,?_,?_,?_⟩;rw[take_add,bT];refine(h.pm.append_right _).trans ?_;rw[bT];exact List.Perm.append_left _ c6;rw[cO];exact⟨h.so,Lq.1,λx hx y hy=>h.ba x hx y (List.mem_of_mem_take hy)⟩;intro x hx y hy;rcases a_.mp hx with hx | hx;exact h.ba x hx y (by rw[<- e];exact aK _ hy);exact Lq.2.2 x hx y hy;intro x hx y hy;rcases a_.mp hx with hx | hx;exact h.bb x hx y hy;exact hk x hx y hy
theorem MI.fin (h:MI less al bl o i j)(sa:al.Pairwise (LE less))(sb:bl.Pairwise (LE less))(hk: ∀x∈bl.drop j, ∀y∈al.drop i,LE less x y):(o++bl.drop j++al.drop i).Perm (al++bl) /\ (o++bl.drop j++al.drop i).Pairwise (LE less):=by
 constructor;rw[bT];refine(h.pm.append_right _).trans ?_;have e1:(al++bl).Perm ((al.take i++al.drop i)++(bl.take j++bl.drop j)):=by rw[bu,bu]
 refine List.Perm.trans ?_ e1.symm;rw[bT,bT];refine List.Perm.append_left _ ?_;rw[<- bT];exact c6;rw[cO,cO];refine⟨⟨h.so,sb.sublist (List.drop_sublist _ _),h.bb⟩,sa.sublist (List.drop_sublist _ _),λx hx y hy=> ?_⟩;rcases a_.mp hx with hx | hx;exact h.ba x hx y hy;exact hk x hx y hy
structure MH (less:Keyed ->Keyed ->Bool)(al bl t:List Keyed)(i j:Nat):Prop where
 pm:t.Perm (al.drop i++bl.drop j)
 so:t.Pairwise (LE less)
 ba: ∀x∈t, ∀y∈al.take i,LE less y x
 bb: ∀x∈t, ∀y∈bl.take j,LE less y x
theorem MH.swap {t:List Keyed}(h:MH less al bl t i j):MH less bl al t j i:=⟨h.pm.trans c6,h.so,h.bb,h.ba⟩
theorem MH.IY {t:List Keyed}(h:MH less al bl t i j)(sa:al.Pairwise (LE less)){k:Nat}(QG:k<=i)(hk: ∀x∈(al.take i).drop k, ∀y∈bl.take j,LE less y x):MH less al bl ((al.take i).drop k++t) k j:=by
 have sd:(al.take i).Pairwise (LE less):=sa.sublist (List.take_sublist _ _);have e0:(al.take i).take k=al.take k:=by rw[List.take_take,Nat.min_eq_left QG]
 have e:al.take k++(al.take i).drop k=al.take i:=by rw[<- e0,bu]
 have Lq:=sd;rw[<- e,cO] at Lq;have e3:al.drop k=(al.take i).drop k++al.drop i:=by
  have:=bu i al;have e4:al.drop k=(al.take i++al.drop i).drop k:=by rw[this]
  rw[e4];by_cases c:i<=al.length;rw[List.drop_append_of_le_length (by rw[b0];lia)];have z:al.drop i= []:=List.drop_eq_nil_of_le ∅;rw[z,c4,c4]
 refine⟨?_,?_,?_,?_⟩;rw[e3,bT];exact List.Perm.append_left _ h.pm;rw[cO];exact⟨Lq.2.1,h.so,λx hx y hy=>h.ba y hy x (by rw[<- e];exact aK _ hx)⟩;intro x hx y hy;rcases a_.mp hx with hx | hx;exact Lq.2.2 y hy x hx;exact h.ba x hx y (by rw[<- e];exact List.mem_append_left _ hy);intro x hx y hy;rcases a_.mp hx with hx | hx;exact hk x hx y hy;exact h.bb x hx y hy
theorem MH.fin {t:List Keyed}(h:MH less al bl t i j)(sa:al.Pairwise (LE less))(sb:bl.Pairwise (LE less))(hk: ∀x∈al.take i, ∀y∈bl.take j,LE less x y):(al.take i++bl.take j++t).Perm (al++bl) /\ (al.take i++bl.take j++t).Pairwise (LE less):=by
 constructor;refine(List.Perm.append_left _ h.pm).trans ?_;have e1:(al++bl).Perm ((al.take i++al.drop i)++(bl.take j++bl.drop j)):=by rw[bu,bu]
 refine List.Perm.trans ?_ e1.symm;rw[bT,bT];refine List.Perm.append_left _ ?_;rw[<- bT, <- bT];exact List.Perm.append_right _ c6;rw[cO,cO];refine⟨⟨sa.sublist (List.take_sublist _ _),sb.sublist (List.take_sublist _ _),hk⟩,h.so,λx hx y hy=> ?_⟩;rcases a_.mp hx with hx | hx;exact h.ba y hy x hx;exact h.bb y hy x hx
end
abbrev R5:=Option (Array Keyed)×Array Keyed×Nat×Nat×Nat
abbrev R6:=Option (Array Keyed)×Array Keyed×Nat×Nat×Nat×Nat
abbrev R7:=Option (Array Keyed)×Array Keyed×Nat×Nat×Nat×Nat×Nat
section
variable (a b:Array Keyed)
abbrev GY (o:Array Keyed)(i j:Nat):Array Keyed:=o++a.extract i a.size++b.extract j b.size
abbrev NL (o:Array Keyed)(i j:Nat):Array Keyed:=o++b.extract j b.size++a.extract i a.size
def L1 (mg:Nat)(o:Array Keyed)(i j ac bc:Nat):StateT SortSt Sem (ForInStep R6):=do
 let x <- elem' b j
 let y <- elem' a i
 let g <- lt' x y
 match g with
 | some g=>
  if g=true then do
   let x <- elem' b j
   if(j+1==b.size)=true then pure (.done (some (GY a b (o.push x) i (j+1)),o.push x,i,j+1,0,bc+1))
   else if bc+1≥mg then pure (.done (none,o.push x,i,j+1,0,bc+1))
   else pure (.yield (none,o.push x,i,j+1,0,bc+1))
  else do
   let x <- elem' a i
   if(i+1+1==a.size)=true then pure (.done (some (NL a b (o.push x) (i+1) j),o.push x,i+1,j,ac+1,0))
   else if ac+1≥mg then pure (.done (none,o.push x,i+1,j,ac+1,0))
   else pure (.yield (none,o.push x,i+1,j,ac+1,0))
 | _=>pure (.done (some (GY a b o i j),o,i,j,ac,bc))
def So (mg ac bc:Nat)(o:Array Keyed)(i j:Nat):StateT SortSt Sem (ForInStep R7):=do
 let x <- elem' a i
 if(i+1+1==a.size)=true then pure (.done (some (NL a b (o.push x) (i+1) j),o.push x,i+1,j,mg,ac,bc))
 else if(decide (ac<7) && decide (bc<7))=true then pure (.done (none,o.push x,i+1,j,mg,ac,bc))
 else pure (.yield (none,o.push x,i+1,j,mg,ac,bc))
def Sr (mg ac bc:Nat)(o:Array Keyed)(i j:Nat):StateT SortSt Sem (ForInStep R7):=do
 let x <- elem' b j
 if(j+1==b.size)=true then pure (.done (some (GY a b (o.push x) i (j+1)),o.push x,i,j+1,mg,ac,bc))
 else do
  let y <- elem' a i
  let r <- Iz true y b (j+1) (b.size - (j+1)) 0
  match r with
  | some k=>
   if k >0 then
    if(j+1+k==b.size)=true then pure (.done (some (GY a b (o.push x++b.extract (j+1) (j+1+k)) i (j+1+k)),o.push x++b.extract (j+1) (j+1+k),i,j+1+k,mg,ac,k))
    else So a b mg ac k (o.push x++b.extract (j+1) (j+1+k)) i (j+1+k)
   else So a b mg ac k (o.push x) i (j+1)
  | _=>pure (.done (some (GY a b (o.push x) i (j+1)),o.push x,i,j+1,mg,ac,bc))
def Su (mg ac bc:Nat)(o:Array Keyed)(i j:Nat):StateT SortSt Sem (ForInStep R7):=do
 modify λs=>cw s mg
 let x <- elem' b j
 let r <- Iz false x a i (a.size - i) 0
 match r with
 | some k=>
  if k >0 then
   if(i+k+1==a.size)=true then pure (.done (some (NL a b (o++a.extract i (i+k)) (i+k) j),o++a.extract i (i+k),i+k,j,mg,k,bc))
   else if(i+k==a.size)=true then pure (.done (some (GY a b (o++a.extract i (i+k)) (i+k) j),o++a.extract i (i+k),i+k,j,mg,k,bc))
   else Sr a b mg k bc (o++a.extract i (i+k)) (i+k) j
  else Sr a b mg k bc o i j
 | _=>pure (.done (some (GY a b o i j),o,i,j,mg,ac,bc))
def PF (c:R5):StateT SortSt Sem (ForInStep R5):=do
 let d <- forIn [:a.size+b.size] ((none,c.2.1,c.2.2.1,c.2.2.2.1,0,0):R6) λ_ d=>L1 a b c.2.2.2.2 d.2.1 d.2.2.1 d.2.2.2.1 d.2.2.2.2.1 d.2.2.2.2.2
 match d.1 with
 | some r=>pure (.done (some r,d.2.1,d.2.2.1,d.2.2.2.1,c.2.2.2.2))
 | none=>do
  liftM (rule "list.sort.gallop")
  let e <- forIn [:a.size+b.size] ((none,d.2.1,d.2.2.1,d.2.2.2.1,c.2.2.2.2+1,d.2.2.2.2.1,d.2.2.2.2.2):R7) λ_ e=>if e.2.2.2.2.1 >1 then Su a b (e.2.2.2.2.1 - 1) e.2.2.2.2.2.1 e.2.2.2.2.2.2 e.2.1 e.2.2.1 e.2.2.2.1 else Su a b e.2.2.2.2.1 e.2.2.2.2.2.1 e.2.2.2.2.2.2 e.2.1 e.2.2.1 e.2.2.2.1
  match e.1 with
  | some r=>pure (.done (some r,e.2.1,e.2.2.1,e.2.2.2.1,e.2.2.2.2.1))
  | none=>do
   modify λs=>cw s (e.2.2.2.2.1+1)
   pure (.yield (none,e.2.1,e.2.2.1,e.2.2.2.1,e.2.2.2.2.1+1))
end
theorem tT {σ α β:Type}{m:StateT σ Sem α}{f g:α ->StateT σ Sem β}(h: ∀x,f x=g x):(m >>=f)=(m >>=g):=by rw[funext h]
theorem CS {σ α β:Type}{m m':StateT σ Sem α}{f g:α ->StateT σ Sem β}(e:m=m')(h: ∀x,f x=g x):(m >>=f)=(m' >>=g):=by rw[e,funext h]
theorem Cs {α:Sort _}{c:Prop} [Decidable c]{x y x' y':α}(h:x=x')(h':y=y'):(if c then x else y)=(if c then x' else y'):=by rw[h,h']
theorem CB {σ β:Type}{r:Std.Legacy.Range}{c:β}{f g:Nat ->β ->StateT σ Sem (ForInStep β)}(h: ∀i c,f i c=g i c):forIn r c f=forIn r c g:=by rw[funext λi=>funext (h i)]
section
variable (a b:Array Keyed)
theorem Cd:U4 a b=(do
  liftM (rule "list.sort.merge-lo")
  let x <- elem' b 0
  if(1==b.size)=true then pure (GY a b #[x] 0 1)
  else if(0+1==a.size)=true then pure (NL a b #[x] 0 1)
  else do
   let g <- get
   let c <- forIn [:a.size+b.size] ((none, #[x],0,1,gallopOf g):R5) λ_ c=>PF a b c
   match c.1 with
   | some r=>pure r
   | none=>unsupported "internal:list.sort.merge-bound"):=by
 refine tT λ_=>tT λx=> ?_
 refine Cs rfl (Cs rfl (tT λg=>CS (CB λ_ c=> ?_) λc=> ?_))
 refine CS (CB λ_ d=>rfl) λd=> ?_
 obtain⟨r,d⟩:=d
 cases r with
 | some r=>rfl
 | none =>
  refine tT λ_=>CS (CB λ_ e=> ?_) λe=> ?_;refine Cs ?_ ?_<;>
  ·refine tT λ_=>tT λx=>tT λr=> ?_;cases r with
   | none=>rfl
   | some k=>
    refine Cs (Cs rfl (Cs rfl ?_)) ?_<;>
    ·refine tT λy=>Cs rfl (tT λz=>tT λr=> ?_);cases r<;>rfl
  obtain⟨r,e⟩:=e;cases r<;>rfl
 obtain⟨r,c⟩:=c
 cases r<;>rfl
abbrev GZ (o:Array Keyed)(i j:Nat):Array Keyed:=a.extract 0 i++b.extract 0 j++o.reverse
abbrev NT (o:Array Keyed)(i j:Nat):Array Keyed:=b.extract 0 j++a.extract 0 i++o.reverse
def Lc (mg:Nat)(i j:Nat)(o:Array Keyed)(ac bc:Nat):StateT SortSt Sem (ForInStep (Option (Array Keyed)×Nat×Nat×Array Keyed×Nat×Nat)):=do
 let x <- elem' b (j - 1)
 let y <- elem' a (i - 1)
 let g <- lt' x y
 match g with
 | some g=>
  if g=true then do
   let x <- elem' a (i - 1)
   if(i - 1==0)=true then pure (.done (some (GZ a b (o.push x) (i - 1) j),i - 1,j,o.push x,ac+1,0))
   else if ac+1≥mg then pure (.done (none,i - 1,j,o.push x,ac+1,0))
   else pure (.yield (none,i - 1,j,o.push x,ac+1,0))
  else do
   let x <- elem' b (j - 1)
   if(j - 1==1)=true then pure (.done (some (NT a b (o.push x) i (j - 1)),i,j - 1,o.push x,0,bc+1))
   else if bc+1≥mg then pure (.done (none,i,j - 1,o.push x,0,bc+1))
   else pure (.yield (none,i,j - 1,o.push x,0,bc+1))
 | _=>pure (.done (some (GZ a b o i j),i,j,o,ac,bc))
abbrev S7:=Option (Array Keyed)×Nat×Nat×Array Keyed×Nat×Nat×Nat
def Sq (mg ac bc:Nat)(i j:Nat)(o:Array Keyed):StateT SortSt Sem (ForInStep S7):=do
 let x <- elem' a (i - 1)
 if(i - 1==0)=true then pure (.done (some (GZ a b (o.push x) (i - 1) j),i - 1,j,o.push x,mg,ac,bc))
 else if(decide (ac<7) && decide (bc<7))=true then pure (.done (none,i - 1,j,o.push x,mg,ac,bc))
 else pure (.yield (none,i - 1,j,o.push x,mg,ac,bc))
def Ss (mg ac bc:Nat)(i j:Nat)(o:Array Keyed):StateT SortSt Sem (ForInStep S7):=do
 let x <- elem' b (j - 1)
 if(j - 1==1)=true then pure (.done (some (NT a b (o.push x) i (j - 1)),i,j - 1,o.push x,mg,ac,bc))
 else do
  let y <- elem' a (i - 1)
  let r <- Iz true y b 0 (j - 1) (j - 1 - 1)
  match r with
  | some k=>
   if j - 1 - k >0 then
    if(k==1)=true then pure (.done (some (NT a b (o.push x++(b.extract k (j - 1)).reverse) i k),i,k,o.push x++(b.extract k (j - 1)).reverse,mg,ac,j - 1 - k))
    else if(k==0)=true then pure (.done (some (GZ a b (o.push x++(b.extract k (j - 1)).reverse) i k),i,k,o.push x++(b.extract k (j - 1)).reverse,mg,ac,j - 1 - k))
    else Sq a b mg ac (j - 1 - k) i k (o.push x++(b.extract k (j - 1)).reverse)
   else Sq a b mg ac (j - 1 - k) i (j - 1) (o.push x)
  | _=>pure (.done (some (GZ a b (o.push x) i (j - 1)),i,j - 1,o.push x,mg,ac,bc))
def Sv (mg ac bc:Nat)(i j:Nat)(o:Array Keyed):StateT SortSt Sem (ForInStep S7):=do
 modify λs=>cw s mg
 let x <- elem' b (j - 1)
 let r <- Iz false x a 0 i (i - 1)
 match r with
 | some k=>
  if i - k >0 then
   if(k==0)=true then pure (.done (some (GZ a b (o++(a.extract k i).reverse) k j),k,j,o++(a.extract k i).reverse,mg,i - k,bc))
   else Ss a b mg (i - k) bc k j (o++(a.extract k i).reverse)
  else Ss a b mg (i - k) bc i j o
 | _=>pure (.done (some (GZ a b o i j),i,j,o,mg,ac,bc))
abbrev S5:=Option (Array Keyed)×Nat×Nat×Array Keyed×Nat
def PH (c:S5):StateT SortSt Sem (ForInStep S5):=do
 let d <- forIn [:a.size+b.size] ((none,c.2.1,c.2.2.1,c.2.2.2.1,0,0):Option (Array Keyed)×Nat×Nat×Array Keyed×Nat×Nat) λ_ d=>Lc a b c.2.2.2.2 d.2.1 d.2.2.1 d.2.2.2.1 d.2.2.2.2.1 d.2.2.2.2.2
 match d.1 with
 | some r=>pure (.done (some r,d.2.1,d.2.2.1,d.2.2.2.1,c.2.2.2.2))
 | none=>do
  liftM (rule "list.sort.gallop")
  let e <- forIn [:a.size+b.size] ((none,d.2.1,d.2.2.1,d.2.2.2.1,c.2.2.2.2+1,d.2.2.2.2.1,d.2.2.2.2.2):S7) λ_ e=>if e.2.2.2.2.1 >1 then Sv a b (e.2.2.2.2.1 - 1) e.2.2.2.2.2.1 e.2.2.2.2.2.2 e.2.1 e.2.2.1 e.2.2.2.1 else Sv a b e.2.2.2.2.1 e.2.2.2.2.2.1 e.2.2.2.2.2.2 e.2.1 e.2.2.1 e.2.2.2.1
  match e.1 with
  | some r=>pure (.done (some r,e.2.1,e.2.2.1,e.2.2.2.1,e.2.2.2.2.1))
  | none=>do
   modify λs=>cw s (e.2.2.2.2.1+1)
   pure (.yield (none,e.2.1,e.2.2.1,e.2.2.2.1,e.2.2.2.2.1+1))
theorem Ce:U5 a b=(do
  liftM (rule "list.sort.merge-hi")
  let x <- elem' a (a.size - 1)
  if(a.size - 1==0)=true then pure (GZ a b #[x] (a.size - 1) b.size)
  else if(b.size==1)=true then pure (NT a b #[x] (a.size - 1) b.size)
  else do
   let g <- get
   let c <- forIn [:a.size+b.size] ((none,a.size - 1,b.size, #[x],gallopOf g):S5) λ_ c=>PH a b c
   match c.1 with
   | some r=>pure r
   | none=>unsupported "internal:list.sort.merge-bound"):=by
 refine tT λ_=>tT λx=> ?_
 refine Cs rfl (Cs rfl (tT λg=>CS (CB λ_ c=> ?_) λc=> ?_))
 refine CS (CB λ_ d=>rfl) λd=> ?_
 obtain⟨r,d⟩:=d
 cases r with
 | some r=>rfl
 | none =>
  refine tT λ_=>CS (CB λ_ e=> ?_) λe=> ?_;refine Cs ?_ ?_<;>
  ·refine tT λ_=>tT λx=>tT λr=> ?_;cases r with
   | none=>rfl
   | some k=>
    refine Cs (Cs rfl ?_) ?_<;>
    ·refine tT λy=>Cs rfl (tT λz=>tT λr=> ?_);cases r<;>rfl
  obtain⟨r,e⟩:=e;cases r<;>rfl
 obtain⟨r,c⟩:=c
 cases r<;>rfl
end
theorem fD {xs:Array Keyed}{i:Nat}(h:i<xs.size):xs.toList[i]? =some (b_ xs i):=by rw[<- Gf h];simp
theorem CG {xs:Array Keyed}{i:Nat}(h:i<xs.size):xs.toList.drop i=b_ xs i::xs.toList.drop (i+1):=by have h':i<xs.toList.length:= ⇑h;have e:=fD h;rw[aD h'] at e;rw[List.drop_eq_getElem_cons h',a8 e]
theorem vH {xs:Array Keyed}{i:Nat}(h:i<xs.size):(xs.toList.drop i).take 1= [b_ xs i]:=by rw[CG h];rfl
theorem gH {xs:Array Keyed}{i:Nat}{y:Keyed}(h:y∈xs.toList.drop i): ∃k,cM (i<=k) (k<xs.size) (y=b_ xs k):=by obtain⟨n,hn⟩:=List.mem_iff_getElem?.mp h;rw[List.getElem?_drop] at hn;have hl:=(a5.mp hn).1;have oq:i+n<xs.size:= ⇑hl;rw[fD oq] at hn;exact⟨i+n, ∅,oq,(a8 hn).symm⟩
theorem uc {xs:Array Keyed}{i k:Nat}{y:Keyed}(h:y∈(xs.toList.drop i).take k): ∃n,eu (i<=n) (n<i+k) (n<xs.size) (y=b_ xs n):=by obtain⟨n,hn⟩:=List.mem_iff_getElem?.mp h;rw[List.getElem?_take] at hn;split at hn;rename_i hk;rw[List.getElem?_drop] at hn;have hl:=(a5.mp hn).1;have oq:i+n<xs.size:= ⇑hl;rw[fD oq] at hn;exact⟨i+n, ∅, ∅,oq,(a8 hn).symm⟩;cases hn
theorem kS {less:Keyed ->Keyed ->Bool}(O:Ord less){xs:Array Keyed}(h:xs.toList.Pairwise (LE less)){i j:Nat}(iW:i<=j)(hj:j<xs.size):LE less (b_ xs i) (b_ xs j):=by
 by_cases c:i=j;subst c;exact O.refl _;rw[List.pairwise_iff_getElem] at h;have ot:i<xs.toList.length:=by simp;lia
 have ME:j<xs.toList.length:= ⇑hj;have:=h i j ot ME ∅;have e1:=fD (xs:=xs) (i:=i) ∅;have e2:=fD hj;rw[aD ot] at e1;rw[aD ME] at e2;rwa [a8 e1,a8 e2] at this
theorem uh {less:Keyed ->Keyed ->Bool}(O:Ord less){xs:Array Keyed}(h:xs.toList.Pairwise (LE less)){i n:Nat}(hn:i+n<=xs.size):Sg less xs i (i+n):=λx y _ SQ hy=>kS O h SQ ∅
theorem xl (xs:Array Keyed)(i k:Nat):(xs.extract i (i+k)).toList=(xs.toList.drop i).take k:=by rw[Array.toList_extract,List.extract_eq_take_drop];congr 1;lia
theorem pN (xs:Array Keyed)(i:Nat):(xs.extract i xs.size).toList=xs.toList.drop i:=by rw[Array.toList_extract,List.extract_eq_take_drop];exact List.take_of_length_le (by simp)
section
variable {prog:Program}{w:World}{A:Around}{E:Value ->Shared ->Prop}{s:Shared}{kd:SortKind}{a₀:Array Keyed}{less:Keyed ->Keyed ->Bool}
structure tZ (less:Keyed ->Keyed ->Bool)(a₀ a b:Array Keyed):Prop where
 sa:a.toList.Pairwise (LE less)
 sb:b.toList.Pairwise (LE less)
 ma: ∀i,i<a.size ->b_ a i∈a₀.toList
 mb: ∀i,i<b.size ->b_ b i∈a₀.toList
 na:1<=a.size
 nb:1<=b.size
 h0:less (b_ b 0) (b_ a 0)=true
 hl: ∀j,j<b.size ->less (b_ b j) (b_ a (a.size - 1))=true
def q_ (less:Keyed ->Keyed ->Bool)(a b r:Array Keyed):Prop:=r.toList.Perm (a.toList++b.toList) /\ r.toList.Pairwise (LE less)
structure JL (less:Keyed ->Keyed ->Bool)(a b o:Array Keyed)(i j:Nat):Prop where
 mi:MI less a.toList b.toList o.toList i j
 hi:i+1<a.size
 hj:j<b.size
variable {a b:Array Keyed}
theorem uu (T:tZ less a₀ a b){o:Array Keyed}{i j:Nat}(h:MI less a.toList b.toList o.toList i j)(hj:b.size<=j \/ a.size<=i):q_ less a b (GY a b o i j):=by
 unfold q_ GY;rw[bG,bG,pN,pN];have:=h.swap.fin T.sb T.sa λx hx y hy=>by rcases hj with hj | hj;obtain⟨k,h1,h2,_⟩:=gH hy;lia;obtain⟨k,h1,h2,_⟩:=gH hx;lia
 exact⟨this.1.trans c6,this.2⟩
theorem ut (O:Ord less)(T:tZ less a₀ a b){o:Array Keyed}{i j:Nat}(h:MI less a.toList b.toList o.toList i j)(hi:i+1=a.size):q_ less a b (NL a b o i j):=by unfold q_ NL;rw[bG,bG,pN,pN];refine h.fin T.sa T.sb λx hx y hy=> ?_;obtain⟨k,h1,h2,rfl⟩:=gH hx;obtain⟨k',S1,Kz,rfl⟩:=gH hy;rw[show k'=a.size - 1 by lia];exact O.le (T.hl k h2)
theorem yz (O:Ord less)(T:tZ less a₀ a b){o:Array Keyed}{i j:Nat}(h:MI less a.toList b.toList o.toList i j)(hj:j<b.size)(hc:i<a.size ->LE less (b_ b j) (b_ a i)):MI less a.toList b.toList (o.push (b_ b j)).toList i (j+1):=by have:=(h.swap.IY T.sb 1 λx hx y hy=>by rw[vH hj] at hx;rw[be.mp hx];obtain⟨k,h1,h2,rfl⟩:=gH hy;exact O.trans _ _ _ (hc ∅) (kS O T.sa h1 h2)).swap;rw[vH hj] at this;rwa [Array.toList_push]
theorem Eu (O:Ord less)(T:tZ less a₀ a b){o:Array Keyed}{i j:Nat}(h:MI less a.toList b.toList o.toList i j)(hi:i<a.size)(hc:j<b.size ->LE less (b_ a i) (b_ b j)):MI less a.toList b.toList (o.push (b_ a i)).toList (i+1) j:=by
 have:=h.IY T.sa 1 λx hx y hy=>by rw[vH hi] at hx;rw[be.mp hx];obtain⟨k,h1,h2,rfl⟩:=gH hy;exact O.trans _ _ _ (hc ∅) (kS O T.sb h1 h2)
 rw[vH hi] at this;rwa [Array.toList_push]
def No (less:Keyed ->Keyed ->Bool)(a b:Array Keyed)(st:SortSt)(N:Nat)(r:ForInStep R7)(bw:SortSt):Prop:=(∃g,bw=cw st g) /\ ((ca λx c=>r= .done (some x,c) /\ q_ less a b x) \/ (fF λo i j c=>cM (r= .done (none,o,i,j,c) \/ r= .yield (none,o,i,j,c)) (JL less a b o i j) (N<=i+j)))
theorem wp_p3L (O:Ord less)(T:tZ less a₀ a b){st bw:SortSt}{mg ac bc N:Nat}{o:Array Keyed}{i j:Nat}(hg: ∃g,bw=cw st g)(J:JL less a b o i j)(hc:LE less (b_ a i) (b_ b j))(hN:N<=i+j):wpS (model prog w) A E s (So a b mg ac bc o i j) (No less a b st N) bw:=by
 unfold So;have hi:=J.hi;refine ap (wp_elem ∅ ?_);have m:=Eu O T J.mi ∅ λ_=>hc;by_cases c:i+1+1=a.size;rw[ak ⇑c];exact ax ⟨hg, .inl ⟨_,_,rfl,ut O T m c⟩⟩;rw[aj ⇑c];have J':JL less a b (o.push (b_ a i)) (i+1) j:=⟨m, ∅,J.hj⟩
 split;exact ax ⟨hg, .inr ⟨_,_,_,_, .inl rfl,J', ∅⟩⟩;exact ax ⟨hg, .inr ⟨_,_,_,_, .inr rfl,J', ∅⟩⟩
theorem wp_p2L (O:Ord less)(L:gt prog w A E s kd a₀ less)(T:tZ less a₀ a b){st bw:SortSt}{mg ac bc N:Nat}{o:Array Keyed}{i j:Nat}(hk:kindOf bw=kd)(hg: ∃g,bw=cw st g)(J:JL less a b o i j)(hc:less (b_ b j) (b_ a i)=true)(hN:N<=i+j):wpS (model prog w) A E s (Sr a b mg ac bc o i j) (No less a b st N) bw:=by
 unfold Sr;have hi:=J.hi;have hj:=J.hj;refine ap (wp_elem hj ?_);have m:=yz O T J.mi hj λ_=>O.le hc;by_cases c:j+1=b.size;rw[ak ⇑c];exact ax ⟨hg, .inl ⟨_,_,rfl,uu T m (.inl ∅)⟩⟩;rw [aj ⇑c];refine ap (wp_elem ∅ ?_);refine ap (wp_galL O L hk (T.ma i ∅) (λk hk=>⟨∅,T.mb _ ∅⟩) ∅ (uh O T.sb ∅) λk h1 h2 h3=> ?_);dsimp only;by_cases ck:k >0;rw[ak ck];have m2:MI less a.toList b.toList (o.push (b_ b j)++b.extract (j+1) (j+1+k)).toList i (j+1+k):=by rw[bG,xl];refine(m.swap.IY T.sb k λx hx y hy=> ?_).swap;obtain⟨n,n1,n2,n3,rfl⟩:=uc hx;obtain⟨k',k1,k2,rfl⟩:=gH hy;have:=h2 (n - (j+1)) ∅;rw[show j+1+(n - (j+1))=n by lia] at this;exact O.trans _ _ _ (O.le this) (kS O T.sa k1 k2)
 by_cases c2:j+1+k=b.size;rw[ak ⇑c2];exact ax ⟨hg, .inl ⟨_,_,rfl,uu T m2 (.inl ∅)⟩⟩;rw[aj ⇑c2];exact wp_p3L O T hg ⟨m2,hi, ∅⟩ (h3 k (ao _) ∅) ∅;rw[aj ck];have:k=0:= ∅;subst this;exact wp_p3L O T hg ⟨m,hi, ∅⟩ (h3 0 (ao _) ∅) ∅
theorem wp_p1L (O:Ord less)(L:gt prog w A E s kd a₀ less)(T:tZ less a₀ a b){st bw:SortSt}{mg ac bc N:Nat}{o:Array Keyed}{i j:Nat}(hk:kindOf st=kd)(hg: ∃g,bw=cw st g)(J:JL less a b o i j)(hN:N<=i+j):wpS (model prog w) A E s (Su a b mg ac bc o i j) (No less a b st N) bw:=by
 unfold Su;have hi:=J.hi;have hj:=J.hj;refine ap (wpS_modify ?_);have Cz: ∃g,cw bw mg=cw st g:=by obtain⟨g,rfl⟩:=hg;exact⟨mg,rfl⟩
 have yf:kindOf (cw bw mg)=kd:=by obtain⟨g,rfl⟩:=hg;exact hk
 refine ap (wp_elem hj ?_);refine ap (wp_galR O L yf (T.mb j hj) (λk hk=>⟨∅,T.ma _ ∅⟩) ∅ (uh O T.sa ∅) λk h1 h2 h3=> ?_);dsimp only;have hkl:i+k<a.size:=by by_cases c:i+k<a.size;exact c;have:=h2 (a.size - 1 - i) ∅;rw[show i+(a.size - 1 - i)=a.size - 1 by lia] at this;unfold LE at this;rw[T.hl j hj] at this;cases this
 have Ks:=h3 k (ao _) ∅;by_cases ck:k >0;rw[ak ck];have m2:MI less a.toList b.toList (o++a.extract i (i+k)).toList (i+k) j:=by rw[bG,xl];refine J.mi.IY T.sa k λx hx y hy=> ?_;obtain⟨n,n1,n2,n3,rfl⟩:=uc hx;obtain⟨k',k1,k2,rfl⟩:=gH hy;have:=h2 (n - i) ∅;rw[show i+(n - i)=n by lia] at this;exact O.trans _ _ _ this (kS O T.sb k1 k2)
 by_cases c2:i+k+1=a.size;rw[ak ⇑c2];exact ax ⟨Cz, .inl ⟨_,_,rfl,ut O T m2 c2⟩⟩;rw[aj ⇑c2,aj (by simp;lia)];exact wp_p2L O L T yf Cz ⟨m2, ∅,hj⟩ Ks ∅;rw[aj ck];have:k=0:= ∅;subst this;exact wp_p2L O L T yf Cz J Ks hN
theorem wp_one1 (O:Ord less)(L:gt prog w A E s kd a₀ less)(T:tZ less a₀ a b){bw:SortSt}{mg ac bc:Nat}{o:Array Keyed}{i j:Nat}{Q:ForInStep R6 ->SortSt ->Prop}(hk:kindOf bw=kd)(J:JL less a b o i j) (h1: ∀x c,q_ less a b x ->Q (.done (some x,c)) bw) (h2: ∀o i' j' c,JL less a b o i' j' ->i'+j'=i+j+1 ->Q (.done (none,o,i',j',c)) bw /\ Q (.yield (none,o,i',j',c)) bw): wpS (model prog w) A E s (L1 a b mg o i j ac bc) Q bw:=by
 unfold L1;have hi:=J.hi;have hj:=J.hj;refine ap (wp_elem hj (ap (wp_elem ∅ (ap (L _ _ _ _ (T.mb j hj) (T.ma i ∅) hk ?_)))));dsimp only;cases e:less (b_ b j) (b_ a i) with
 | true=>simp only[bP];refine ap (wp_elem hj ?_);have m:=yz O T J.mi hj λ_=>O.le e;by_cases c:j+1=b.size;rw[ak ⇑c];exact ax (h1 _ _ (uu T m (.inl ∅)));rw[aj ⇑c];have:=h2 _ i (j+1) (0,bc+1) ⟨m,hi, ∅⟩ ∅;split;exact ax this.1;exact ax this.2
 | false=>simp only[aw,bi];refine ap (wp_elem ∅ ?_);have m:=Eu O T J.mi ∅ λ_=>e;by_cases c:i+1+1=a.size;rw[ak ⇑c];exact ax (h1 _ _ (ut O T m c));rw[aj ⇑c];have:=h2 _ (i+1) j (ac+1,0) ⟨m, ∅,hj⟩ ∅;split;exact ax this.1;exact ax this.2
theorem wp_mLo (O:Ord less)(L:gt prog w A E s kd a₀ less)(T:tZ less a₀ a b){st:SortSt}{Q:Array Keyed ->SortSt ->Prop}(hk:kindOf st=kd)(h: ∀r g,q_ less a b r ->Q r (cw st g)):wpS (model prog w) A E s (U4 a b) Q st:=by
 rw[Cd];have na:=T.na;have nb:=T.nb;refine ap (wpS_lift (wpAny_rule ⟨rfl,?_⟩));refine ap (wp_elem ∅ ?_);have h': ∀r,q_ less a b r ->Q r st:=λr hr=>h r (gallopOf st) hr;have m:MI less a.toList b.toList (#[b_ b 0]:Array Keyed).toList 0 1:=by
  have m0:MI less a.toList b.toList (#[]:Array Keyed).toList 0 0:=⟨by simp,by simp,by simp,by simp⟩
  exact yz O T m0 ∅ λ_=>O.le T.h0
 by_cases c:1=b.size;rw[ak ⇑c];exact ax (h' _ (uu T m (.inl ∅)));rw[aj ⇑c];by_cases c2:0+1=a.size;rw[ak ⇑c2];exact ax (h' _ (ut O T m c2));rw[aj ⇑c2];refine ap (wpS_get ?_);refine ap (wpS_mono (bX (I:=λn c bw=>(∃g,bw=cw st g) /\ fF λo i j mg=>cM (c=(none,o,i,j,mg)) (JL less a b o i j) (n+1<=i+j)) (Q:=λc bw=>(∃g,bw=cw st g) /\ ca λx d=>c=(some x,d) /\ q_ less a b x) ?_ ?_ ⟨⟨gallopOf st,rfl⟩,_,0,1,_,rfl,⟨m, ∅, ∅⟩, ∅⟩) ?_)
 ·rintro n c bw _ hn ⟨hg,o,i,j,mg,rfl,J,hN⟩;unfold PF;dsimp only;have yf:kindOf bw=kd:=by obtain⟨g,rfl⟩:=hg;exact hk
  refine ap (wpS_mono (bX (I:=λx c lB=>lB=bw /\ fF λo' i' j' d=>cM (c=(none,o',i',j',d)) (JL less a b o' i' j') (i'+j'=i+j+x)) (Q:=λc lB=>lB=bw /\ ((ca λx d=>c=(some x,d) /\ q_ less a b x) \/ fF λo' i' j' d=>cM (c=(none,o',i',j',d)) (JL less a b o' i' j') (i+j+1<=i'+j'))) ?_ ?_ ⟨rfl,o,i,j,_,rfl,J,rfl⟩) ?_);rintro x c lB _ hx ⟨rfl,o',i',j',⟨ac,bc⟩,rfl,J',Ky⟩;dsimp only;refine wp_one1 O L T yf J' (λx c hr=>⟨rfl, .inl ⟨x,c,rfl,hr⟩⟩) λo2 i2 j2 c J2 h2=>⟨⟨rfl, .inr ⟨o2,i2,j2,c,rfl,J2, ∅⟩⟩,⟨rfl,o2,i2,j2,c,rfl,J2, ∅⟩⟩
  rintro c lB ⟨rfl,o',i',j',d,rfl,J',Ky⟩;exact⟨rfl, .inr ⟨o',i',j',d,rfl,J', ∅⟩⟩
  ·rintro c lB ⟨rfl,⟨x,d,rfl,hr⟩ | ⟨o',i',j',⟨ac,bc⟩,rfl,J',Ky⟩⟩;exact ax ⟨hg,x,_,rfl,hr⟩
   ·dsimp only;refine ap (wpS_lift (wpAny_rule ⟨rfl,?_⟩));refine ap (wpS_mono (bX (I:=λx c rF=>(∃g,rF=cw st g) /\ fF λo' i' j' d=>cM (c=(none,o',i',j',d)) (JL less a b o' i' j') (i+j+1<=i'+j')) (Q:=λc rF=>(∃g,rF=cw st g) /\ ((ca λx d=>c=(some x,d) /\ q_ less a b x) \/ fF λo' i' j' d=>cM (c=(none,o',i',j',d)) (JL less a b o' i' j') (i+j+1<=i'+j'))) ?_ ?_ ⟨hg,o',i',j',_,rfl,J',Ky⟩) ?_)
    ·rintro x c rF _ hx ⟨Cy,o3,i3,j3,⟨U3,ac3,bc3⟩,rfl,J3,mT⟩;dsimp only;split;all_goals
      refine wpS_mono (wp_p1L O L T hk Cy J3 mT) ?_
      rintro r eP ⟨MF,⟨x,c,rfl,hr⟩ | ⟨o,i,j,c,rfl | rfl,J4,h4⟩⟩
      exact⟨MF, .inl ⟨x,c,rfl,hr⟩⟩
      exact⟨MF, .inr ⟨o,i,j,c,rfl,J4,h4⟩⟩
      exact⟨MF,o,i,j,c,rfl,J4,h4⟩
    rintro c rF ⟨Cy,o3,i3,j3,d,rfl,J3,mT⟩;exact⟨Cy, .inr ⟨o3,i3,j3,d,rfl,J3,mT⟩⟩;rintro c rF ⟨Cy,⟨x,d,rfl,hr⟩ | ⟨o3,i3,j3,⟨U3,ac3,bc3⟩,rfl,J3,mT⟩⟩;exact ax ⟨Cy,x,_,rfl,hr⟩;dsimp only;refine ap (wpS_modify (ax ⟨?_,o3,i3,j3,_,rfl,J3, ∅⟩));obtain⟨g,rfl⟩:=Cy;exact⟨_,rfl⟩
 rintro c bw ⟨hg,o,i,j,mg,rfl,J,hN⟩;have:=J.hi;have:=J.hj;lia;rintro c bw ⟨⟨g,rfl⟩,x,d,rfl,hr⟩;exact ax (h x g hr)
end
theorem sE {xs:Array Keyed}{i:Nat}{y:Keyed}(h:y∈xs.toList.take i): ∃n,cM (n<i) (n<xs.size) (y=b_ xs n):=by obtain⟨n,hn⟩:=List.mem_iff_getElem?.mp h;rw[List.getElem?_take] at hn;split at hn;have hl:=(a5.mp hn).1;have oq:n<xs.size:= ⇑hl;rw[fD oq] at hn;exact⟨n, ∅,oq,(a8 hn).symm⟩;cases hn
theorem zT {xs:Array Keyed}{i k:Nat}{y:Keyed}(h:y∈(xs.toList.take i).drop k): ∃n,eu (k<=n) (n<i) (n<xs.size) (y=b_ xs n):=by rw[List.drop_take] at h;obtain⟨n,h1,h2,h3,e⟩:=uc h;exact⟨n,h1, ∅,h3,e⟩
theorem Sd {xs:Array Keyed}{i:Nat}(h0:1<=i)(h:i<=xs.size):(xs.toList.take i).drop (i - 1)= [b_ xs (i - 1)]:=by rw[List.drop_take,show i - (i - 1)=1 by lia,vH ∅]
theorem lm (xs:Array Keyed)(k i:Nat):(xs.extract k i).toList=(xs.toList.take i).drop k:=by rw[Array.toList_extract,List.extract_eq_take_drop,List.drop_take]
theorem A7 (xs:Array Keyed)(i:Nat):(xs.extract 0 i).toList=xs.toList.take i:=by rw[lm,List.drop_zero]
section
variable {prog:Program}{w:World}{A:Around}{E:Value ->Shared ->Prop}{s:Shared}{kd:SortKind}{a₀:Array Keyed}{less:Keyed ->Keyed ->Bool}
structure JH (less:Keyed ->Keyed ->Bool)(a b o:Array Keyed)(i j:Nat):Prop where
 mi:MH less a.toList b.toList o.toList.reverse i j
 hi:1<=i
 hj:2<=j
 ia:i<=a.size
 jb:j<=b.size
variable {a b:Array Keyed}
theorem lM (T:tZ less a₀ a b){o:Array Keyed}{i j:Nat}(h:MH less a.toList b.toList o.toList.reverse i j)(hj:i=0 \/ j=0):q_ less a b (GZ a b o i j):=by unfold q_ GZ;rw[bG,bG,A7,A7,Array.toList_reverse];refine h.fin T.sa T.sb λx hx y hy=> ?_;rcases hj with hj | hj;subst hj;simp at hx;subst hj;simp at hy
theorem pD (O:Ord less)(T:tZ less a₀ a b){o:Array Keyed}{i j:Nat}(h:MH less a.toList b.toList o.toList.reverse i j)(hj:j=1):q_ less a b (NT a b o i j):=by
 unfold q_ NT;rw[bG,bG,A7,A7,Array.toList_reverse];have:=h.swap.fin T.sb T.sa λx hx y hy=>by obtain⟨n,n1,n2,rfl⟩:=sE hx;obtain⟨k,k1,k2,rfl⟩:=sE hy;rw[show n=0 by lia];exact O.trans _ _ _ (O.le T.h0) (kS O T.sa (cZ _) k2)
 exact⟨this.1.trans c6,this.2⟩
theorem uy (O:Ord less)(T:tZ less a₀ a b){o:Array Keyed}{i j:Nat}(h:MH less a.toList b.toList o.toList.reverse i j)(h1:1<=i)(hi:i<=a.size)(hj:j<=b.size)(hc:1<=j ->LE less (b_ b (j - 1)) (b_ a (i - 1))):MH less a.toList b.toList (o.push (b_ a (i - 1))).toList.reverse (i - 1) j:=by
 have:=h.IY T.sa (k:=i - 1) ∅ λx hx y hy=>by rw[Sd h1 hi] at hx;rw[be.mp hx];obtain⟨k,k1,k2,rfl⟩:=sE hy;exact O.trans _ _ _ (kS O T.sb (show k<=j - 1 by lia) ∅) (hc ∅)
 rw[Sd h1 hi] at this;rw[Array.toList_push,List.reverse_append];exact this
theorem Am (O:Ord less)(T:tZ less a₀ a b){o:Array Keyed}{i j:Nat}(h:MH less a.toList b.toList o.toList.reverse i j)(h1:1<=j)(hi:i<=a.size)(hj:j<=b.size)(hc:1<=i ->LE less (b_ a (i - 1)) (b_ b (j - 1))):MH less a.toList b.toList (o.push (b_ b (j - 1))).toList.reverse i (j - 1):=by have:=(h.swap.IY T.sb (k:=j - 1) ∅ λx hx y hy=>by rw[Sd h1 hj] at hx;rw[be.mp hx];obtain⟨k,k1,k2,rfl⟩:=sE hy;exact O.trans _ _ _ (kS O T.sa (show k<=i - 1 by lia) ∅) (hc ∅)).swap;rw[Sd h1 hj] at this;rw[Array.toList_push,List.reverse_append];exact this
theorem Ab (o x:Array Keyed):(o++x.reverse).toList.reverse=x.toList++o.toList.reverse:=by rw[bG,Array.toList_reverse,List.reverse_append,List.reverse_reverse]
def Nn (less:Keyed ->Keyed ->Bool)(a b:Array Keyed)(st:SortSt)(N:Nat)(r:ForInStep S7)(bw:SortSt):Prop:=(∃g,bw=cw st g) /\ ((ca λx c=>r= .done (some x,c) /\ q_ less a b x) \/ (fF λi j o c=>cM (r= .done (none,i,j,o,c) \/ r= .yield (none,i,j,o,c)) (JH less a b o i j) (i+j<=N)))
theorem wp_p3H (O:Ord less)(T:tZ less a₀ a b){st bw:SortSt}{mg ac bc N:Nat}{o:Array Keyed}{i j:Nat}(hg: ∃g,bw=cw st g)(J:JH less a b o i j)(hc:LE less (b_ b (j - 1)) (b_ a (i - 1)))(hN:i+j<=N):wpS (model prog w) A E s (Sq a b mg ac bc i j o) (Nn less a b st N) bw:=by
 unfold Sq;have hi:=J.hi;have ia:=J.ia;refine ap (wp_elem ∅ ?_);have m:=uy O T J.mi J.hi J.ia J.jb λ_=>hc;by_cases c:i - 1=0;rw[ak ⇑c];exact ax ⟨hg, .inl ⟨_,_,rfl,lM T m (.inl c)⟩⟩;rw[aj ⇑c];have J':JH less a b (o.push (b_ a (i - 1))) (i - 1) j:=⟨m, ∅,J.hj, ∅,J.jb⟩
 split;exact ax ⟨hg, .inr ⟨_,_,_,_, .inl rfl,J', ∅⟩⟩;exact ax ⟨hg, .inr ⟨_,_,_,_, .inr rfl,J', ∅⟩⟩
theorem wp_p2H (O:Ord less)(L:gt prog w A E s kd a₀ less)(T:tZ less a₀ a b){st bw:SortSt}{mg ac bc N:Nat}{o:Array Keyed}{i j:Nat}(hk:kindOf bw=kd)(hg: ∃g,bw=cw st g)(J:JH less a b o i j)(hc:LE less (b_ a (i - 1)) (b_ b (j - 1)))(hN:i+j<=N):wpS (model prog w) A E s (Ss a b mg ac bc i j o) (Nn less a b st N) bw:=by
 unfold Ss;have hi:=J.hi;have hj:=J.hj;have ia:=J.ia;have jb:=J.jb;refine ap (wp_elem ∅ ?_);have m:=Am O T J.mi ∅ ia jb λ_=>hc;by_cases c:j - 1=1;rw[ak ⇑c];exact ax ⟨hg, .inl ⟨_,_,rfl,pD O T m c⟩⟩;rw [aj ⇑c];refine ap (wp_elem ∅ ?_);have sg:=uh O T.sb (i:=0) (n:=j - 1) ∅;refine ap (wp_galL O L hk (T.ma (i - 1) ∅) (λk hk=>⟨∅,T.mb _ ∅⟩) ∅ sg λk h1 h2 h3=> ?_);dsimp only;simp only[Nat.zero_add] at h2 h3;by_cases ck:j - 1 - k >0;rw[ak ck];have m2:MH less a.toList b.toList (o.push (b_ b (j - 1))++(b.extract k (j - 1)).reverse).toList.reverse i k:=by rw[Ab,lm];refine(m.swap.IY T.sb ∅ λx hx y hy=> ?_).swap;obtain⟨n,n1,n2,n3,rfl⟩:=zT hx;obtain⟨k',k1,k2,rfl⟩:=sE hy;exact O.trans _ _ _ (kS O T.sa (show k'<=i - 1 by lia) ∅) (h3 n n1 n2)
 by_cases c2:k=1;rw[ak ⇑c2];exact ax ⟨hg, .inl ⟨_,_,rfl,pD O T m2 c2⟩⟩;rw[aj ⇑c2];by_cases c3:k=0;rw[ak ⇑c3];exact ax ⟨hg, .inl ⟨_,_,rfl,lM T m2 (.inr c3)⟩⟩;rw[aj ⇑c3];exact wp_p3H O T hg ⟨m2,hi, ∅,ia, ∅⟩ (O.le (h2 (k - 1) ∅)) ∅;rw[aj ck];exact wp_p3H O T hg ⟨m,hi, ∅,ia, ∅⟩ (O.le (h2 (j - 1 - 1) ∅)) ∅
theorem wp_p1H (O:Ord less)(L:gt prog w A E s kd a₀ less)(T:tZ less a₀ a b){st bw:SortSt}{mg ac bc N:Nat}{o:Array Keyed}{i j:Nat}(hk:kindOf st=kd)(hg: ∃g,bw=cw st g)(J:JH less a b o i j)(hN:i+j<=N):wpS (model prog w) A E s (Sv a b mg ac bc i j o) (Nn less a b st N) bw:=by
 unfold Sv;have hi:=J.hi;have hj:=J.hj;have ia:=J.ia;have jb:=J.jb;refine ap (wpS_modify ?_);have Cz: ∃g,cw bw mg=cw st g:=by obtain⟨g,rfl⟩:=hg;exact⟨mg,rfl⟩
 have yf:kindOf (cw bw mg)=kd:=by obtain⟨g,rfl⟩:=hg;exact hk
 refine ap (wp_elem ∅ ?_);have sg:=uh O T.sa (i:=0) (n:=i) ∅;refine ap (wp_galR O L yf (T.mb (j - 1) ∅) (λk hk=>⟨∅,T.ma _ ∅⟩) ∅ sg λk h1 h2 h3=> ?_);dsimp only;simp only[Nat.zero_add] at h2 h3;by_cases ck:i - k >0;rw[ak ck];have m2:MH less a.toList b.toList (o++(a.extract k i).reverse).toList.reverse k j:=by rw[Ab,lm];refine J.mi.IY T.sa ∅ λx hx y hy=> ?_;obtain⟨n,n1,n2,n3,rfl⟩:=zT hx;obtain⟨k',k1,k2,rfl⟩:=sE hy;exact O.trans _ _ _ (kS O T.sb (show k'<=j - 1 by lia) ∅) (O.le (h3 n n1 n2))
 by_cases c2:k=0;rw[ak ⇑c2];exact ax ⟨Cz, .inl ⟨_,_,rfl,lM T m2 (.inl c2)⟩⟩;rw[aj ⇑c2];exact wp_p2H O L T yf Cz ⟨m2, ∅,hj, ∅,jb⟩ (h2 (k - 1) ∅) ∅;rw[aj ck];exact wp_p2H O L T yf Cz J (h2 (i - 1) ∅) hN
theorem wp_two1 (O:Ord less)(L:gt prog w A E s kd a₀ less)(T:tZ less a₀ a b){bw:SortSt}{mg ac bc:Nat}{o:Array Keyed}{i j:Nat}{Q:ForInStep (Option (Array Keyed)×Nat×Nat×Array Keyed×Nat×Nat) ->SortSt ->Prop}(hk:kindOf bw=kd)(J:JH less a b o i j) (h1: ∀x c,q_ less a b x ->Q (.done (some x,c)) bw) (h2: ∀i' j' o c,JH less a b o i' j' ->i'+j'+1=i+j ->Q (.done (none,i',j',o,c)) bw /\ Q (.yield (none,i',j',o,c)) bw): wpS (model prog w) A E s (Lc a b mg i j o ac bc) Q bw:=by
 unfold Lc;have hi:=J.hi;have hj:=J.hj;have ia:=J.ia;have jb:=J.jb;refine ap (wp_elem ∅ (ap (wp_elem ∅ (ap (L _ _ _ _ (T.mb (j - 1) ∅) (T.ma (i - 1) ∅) hk ?_)))));dsimp only;cases e:less (b_ b (j - 1)) (b_ a (i - 1)) with
 | true=>simp only[bP];refine ap (wp_elem ∅ ?_);have m:=uy O T J.mi hi ia jb λ_=>O.le e;by_cases c:i - 1=0;rw[ak ⇑c];exact ax (h1 _ _ (lM T m (.inl c)));rw[aj ⇑c];have:=h2 (i - 1) j _ (ac+1,0) ⟨m, ∅,hj, ∅,jb⟩ ∅;split;exact ax this.1;exact ax this.2
 | false=>simp only[aw,bi];refine ap (wp_elem ∅ ?_);have m:=Am O T J.mi ∅ ia jb λ_=>e;by_cases c:j - 1=1;rw[ak ⇑c];exact ax (h1 _ _ (pD O T m c));rw[aj ⇑c];have:=h2 i (j - 1) _ (0,bc+1) ⟨m,hi, ∅,ia, ∅⟩ ∅;split;exact ax this.1;exact ax this.2
theorem wp_mHi (O:Ord less)(L:gt prog w A E s kd a₀ less)(T:tZ less a₀ a b){st:SortSt}{Q:Array Keyed ->SortSt ->Prop}(hk:kindOf st=kd)(h: ∀r g,q_ less a b r ->Q r (cw st g)):wpS (model prog w) A E s (U5 a b) Q st:=by
 rw[Ce];have na:=T.na;have nb:=T.nb;refine ap (wpS_lift (wpAny_rule ⟨rfl,?_⟩));refine ap (wp_elem ∅ ?_);have h': ∀r,q_ less a b r ->Q r st:=λr hr=>h r (gallopOf st) hr;have m:MH less a.toList b.toList (#[b_ a (a.size - 1)]:Array Keyed).toList.reverse (a.size - 1) b.size:=by
  have m0:MH less a.toList b.toList (#[]:Array Keyed).toList.reverse a.size b.size:=⟨by simp,by simp,by simp,by simp⟩
  exact uy O T m0 ∅ (ao _) (ao _) λ_=>O.le (T.hl _ ∅)
 by_cases c:a.size - 1=0;rw[ak ⇑c];exact ax (h' _ (lM T m (.inl c)));rw[aj ⇑c];by_cases c2:b.size=1;rw[ak ⇑c2];exact ax (h' _ (pD O T m c2));rw[aj ⇑c2];refine ap (wpS_get ?_);refine ap (wpS_mono (bX (I:=λn c bw=>(∃g,bw=cw st g) /\ fF λi j o mg=>cM (c=(none,i,j,o,mg)) (JH less a b o i j) (i+j+n<a.size+b.size)) (Q:=λc bw=>(∃g,bw=cw st g) /\ ca λx d=>c=(some x,d) /\ q_ less a b x) ?_ ?_ ⟨⟨gallopOf st,rfl⟩,_,_,_,_,rfl,⟨m, ∅, ∅, ∅, ∅⟩, ∅⟩) ?_)
 ·rintro n c bw _ hn ⟨hg,i,j,o,mg,rfl,J,hN⟩;unfold PH;dsimp only;have yf:kindOf bw=kd:=by obtain⟨g,rfl⟩:=hg;exact hk
  refine ap (wpS_mono (bX (I:=λx c lB=>lB=bw /\ fF λi' j' o' d=>cM (c=(none,i',j',o',d)) (JH less a b o' i' j') (i'+j'+x=i+j)) (Q:=λc lB=>lB=bw /\ ((ca λx d=>c=(some x,d) /\ q_ less a b x) \/ fF λi' j' o' d=>cM (c=(none,i',j',o',d)) (JH less a b o' i' j') (i'+j'+1<=i+j))) ?_ ?_ ⟨rfl,i,j,o,_,rfl,J,rfl⟩) ?_);rintro x c lB _ hx ⟨rfl,i',j',o',⟨ac,bc⟩,rfl,J',Ky⟩;dsimp only;refine wp_two1 O L T yf J' (λx c hr=>⟨rfl, .inl ⟨x,c,rfl,hr⟩⟩) λi2 j2 o2 c J2 h2=>⟨⟨rfl, .inr ⟨i2,j2,o2,c,rfl,J2, ∅⟩⟩,⟨rfl,i2,j2,o2,c,rfl,J2, ∅⟩⟩
  rintro c lB ⟨rfl,i',j',o',d,rfl,J',Ky⟩;exact⟨rfl, .inr ⟨i',j',o',d,rfl,J', ∅⟩⟩
  ·rintro c lB ⟨rfl,⟨x,d,rfl,hr⟩ | ⟨i',j',o',⟨ac,bc⟩,rfl,J',Ky⟩⟩;exact ax ⟨hg,x,_,rfl,hr⟩
   ·dsimp only;refine ap (wpS_lift (wpAny_rule ⟨rfl,?_⟩));refine ap (wpS_mono (bX (I:=λx c rF=>(∃g,rF=cw st g) /\ fF λi' j' o' d=>cM (c=(none,i',j',o',d)) (JH less a b o' i' j') (i'+j'+1<=i+j)) (Q:=λc rF=>(∃g,rF=cw st g) /\ ((ca λx d=>c=(some x,d) /\ q_ less a b x) \/ fF λi' j' o' d=>cM (c=(none,i',j',o',d)) (JH less a b o' i' j') (i'+j'+1<=i+j))) ?_ ?_ ⟨hg,i',j',o',_,rfl,J',Ky⟩) ?_)
    ·rintro x c rF _ hx ⟨Cy,i3,j3,o3,⟨U3,ac3,bc3⟩,rfl,J3,mT⟩;dsimp only;split;all_goals
      refine wpS_mono (wp_p1H O L T (N:=i+j - 1) hk Cy J3 ∅) ?_
      rintro r eP ⟨MF,⟨x,c,rfl,hr⟩ | ⟨i4,j4,o4,c,rfl | rfl,J4,h4⟩⟩
      exact⟨MF, .inl ⟨x,c,rfl,hr⟩⟩
      exact⟨MF, .inr ⟨i4,j4,o4,c,rfl,J4, ∅⟩⟩
      exact⟨MF,i4,j4,o4,c,rfl,J4, ∅⟩
    rintro c rF ⟨Cy,i3,j3,o3,d,rfl,J3,mT⟩;exact⟨Cy, .inr ⟨i3,j3,o3,d,rfl,J3,mT⟩⟩;rintro c rF ⟨Cy,⟨x,d,rfl,hr⟩ | ⟨i3,j3,o3,⟨U3,ac3,bc3⟩,rfl,J3,mT⟩⟩;exact ax ⟨Cy,x,_,rfl,hr⟩;dsimp only;refine ap (wpS_modify (ax ⟨?_,i3,j3,o3,_,rfl,J3, ∅⟩));obtain⟨g,rfl⟩:=Cy;exact⟨_,rfl⟩
 rintro c bw ⟨hg,i,j,o,mg,rfl,J,hN⟩;have:=J.hi;have:=J.hj;lia;rintro c bw ⟨⟨g,rfl⟩,x,d,rfl,hr⟩;exact ax (h x g hr)
end
def zK (xs:Array Keyed)(at_:Nat)(l:List (Keyed×Nat)):Array Keyed:=l.foldl (λa (p,j)=>a.setIfInBounds (at_+j) p) xs
theorem yh (at_ n:Nat): ∀ (ms:List Keyed) (k:Nat) (xs:Array Keyed),at_+k+ms.length<=xs.size ->(zK xs at_ (ms.zipIdx k))[n]? =if at_+k<=n /\ n<at_+k+ms.length then ms[n - (at_+k)]? else xs[n]?
 | [],k,xs,h=>by rw[aj (by simp)];rfl
 | p ::ms,k,xs,h=>by rw[aB] at h;show(zK (xs.setIfInBounds (at_+k) p) at_ (ms.zipIdx (k+1)))[n]? =_;rw[yh at_ n ms (k+1) _ (by rw[Array.size_setIfInBounds];lia)];rw[aB];by_cases c:n=at_+k;subst c;rw[aj ∅,ak ∅,Array.getElem?_setIfInBounds_self_of_lt ∅];simp;rw[Array.getElem?_setIfInBounds_ne (cV c)];by_cases c2:at_+(k+1) <=n /\ n<at_+(k+1)+ms.length;rw[ak c2,ak ∅,show n - (at_+k)=(n - (at_+(k+1)))+1 by lia,List.getElem?_cons_succ];rw[aj c2,aj ∅]
theorem Dp {xs:Array Keyed}{at_:Nat}{ms:List Keyed}(h:at_+ms.length<=xs.size):(zK xs at_ ms.zipIdx).toList=xs.toList.take at_++(ms++xs.toList.drop (at_+ms.length)):=by
 apply List.ext_getElem?;intro n;have e:=yh at_ n ms 0 xs ∅;rw[Nat.add_zero] at e;have e':(zK xs at_ ms.zipIdx).toList[n]? =(zK xs at_ ms.zipIdx)[n]? :=by simp
 rw[e',e];have hx: ∀k:Nat,xs.toList[k]? =xs[k]? :=λk=>Array.getElem?_toList ..;by_cases c1:n<at_;rw[aj ∅,aW (by rw[b0];simp;lia),List.getElem?_take,ak c1,hx];have lt:(xs.toList.take at_).length=at_:=by rw[b0];simp;lia
 rw[aU ∅,lt];by_cases c2:n<at_+ms.length;rw[ak ∅,aW ∅];rw[aj ∅,aU ∅,List.getElem?_drop,hx];congr 1;lia
theorem OI (l:List Keyed)(i j k:Nat)(iW:i<=j)(hjk:j<=k)(hk:k<=l.length):l=l.take i++((l.take j).drop i++((l.take k).drop j++l.drop k)):=by
 have e1:(l.take k).drop j++l.drop k=l.drop j:=by rw[List.drop_take];have:=bu (k - j) (l.drop j);rw[List.drop_drop,show j+(k - j)=k by lia] at this;exact this
 have e2:(l.take j).drop i++l.drop j=l.drop i:=by rw[List.drop_take];have:=bu (j - i) (l.drop i);rw[List.drop_drop,show i+(j - i)=j by lia] at this;exact this
 rw[e1,e2,bu]
theorem FH {less:Keyed ->Keyed ->Bool}(O:Ord less){xs:Array Keyed}{i j lo hi:Nat}(h:Sg less xs lo hi)(h1:lo<=i)(h2:j<=hi)(h3:hi<=xs.size):(xs.extract i j).toList.Pairwise (LE less):=by
 rw[List.pairwise_iff_getElem];intro x y hx hy SQ;have e: ∀n (hn:n< (xs.extract i j).toList.length),(xs.extract i j).toList[n]=b_ xs (i+n):=λn hn=>by
  have MB:n< (xs.extract i j).size:=by rw[cX] at hn;exact hn
  rw[Array.size_extract] at MB;unfold b_;rw[getElem?_pos xs (i+n) ∅];simp
 rw[e x hx,e y hy];have hy':y< (xs.extract i j).size:=by rw[cX] at hy;exact hy
 rw[Array.size_extract] at hy';exact h _ _ ∅ ∅ ∅
theorem kx {xs:Array Keyed}{i j n:Nat}(h:n< (xs.extract i j).size):b_ (xs.extract i j) n=b_ xs (i+n):=by unfold b_;rw[Array.size_extract] at h;rw[Array.getElem?_extract,ak ∅]
section
variable {prog:Program}{w:World}{A:Around}{E:Value ->Shared ->Prop}{s:Shared}{kd:SortKind}{a₀:Array Keyed}{less:Keyed ->Keyed ->Bool}
abbrev Rn:=Nat×Nat×Nat
theorem L_ (i:Nat):mergeAt' i=(do
 let s <- get
 let (some (sa,na,pw),some (sb,nb,_)):=((pendingOf s)[i]?,(pendingOf s)[i+1]?) | unsupported "internal:list.sort.pending"
 set (setPending s (((pendingOf s).setIfInBounds i (sa,na+nb,pw)).eraseIdxIfInBounds (i+1)))
 let some k <- Iz false (<- elem' (arrOf s) sb) (arrOf s) sa na 0 | return false
 let (sa,na):=(sa+k,na - k)
 if na==0 then return true
 let some nb <- Iz true (<- elem' (arrOf s) (sa+na - 1)) (arrOf s) sb nb (nb - 1) | return false
 if nb==0 then return true
 let x:=(arrOf s).extract sa sb
 let y:=(arrOf s).extract sb (sb+nb)
 let r <- if na<=nb then U4 x y else U5 x y
 modify λs=>setArr s (zK (arrOf s) sa r.toList.zipIdx)
 return(failedOf (<- get)).isNone):=rfl
theorem G6 {σ:Type}{M:Model}{v:σ}{Q:PUnit ->σ ->Prop}{st:σ}(h:Q ⟨⟩ v):wpS M A E s (set v:StateT σ Sem PUnit) Q st:=by unfold wpS;rw[StateT.run_set];exact aR ⟨rfl,h⟩
theorem wp_mAt (O:Ord less)(L:gt prog w A E s kd a₀ less){st:SortSt}{Q:Bool ->SortSt ->Prop}{l1 l2:List Rn}{sa na pw sb nb UK i:Nat}(B:SB kd a₀ st)(hp:pendingOf st=(l1++(sa,na,pw)::(sb,nb,UK)::l2).toArray)(hi:i=l1.length) (Qu:sb=sa+na) (h1:1<=na) (h2:1<=nb) (hz:sb+nb<=a₀.size) (s1:Sg less (arrOf st) sa sb) (s2:Sg less (arrOf st) sb (sb+nb)) (h: ∀bw,SB kd a₀ bw ->pendingOf bw=(l1++(sa,na+nb,pw)::l2).toArray ->Sg less (arrOf bw) sa (sb+nb) ->pj sa (sb+nb) (arrOf st) (arrOf bw) ->Q true bw):wpS (model prog w) A E s (mergeAt' i) Q st:=by
 subst hi;rw[L_];refine ap (wpS_get ?_);have p1:(pendingOf st)[l1.length]? =some (sa,na,pw):=by rw[hp];simp
 have p2:(pendingOf st)[l1.length+1]? =some (sb,nb,UK):=by rw[hp];simp[aU]
 rw[p1,p2];dsimp only;refine ap (G6 ?_);have hpd:((pendingOf st).setIfInBounds l1.length (sa,na+nb,pw)).eraseIdxIfInBounds (l1.length+1)=(l1++(sa,na+nb,pw)::l2).toArray:=by rw[hp];simp only[List.setIfInBounds_toArray,List.eraseIdxIfInBounds_toArray];congr 1;rw[List.set_append_right _ _ (ao _),Nat.sub_self,List.set_cons_zero];rw[List.eraseIdx_append_of_length_le ∅,show l1.length+1 - l1.length=1 by lia];rfl
 rw[hpd];let BF:SortSt:=setPending st (l1++(sa,na+nb,pw)::l2).toArray
 have B1:SB kd a₀ BF:=⟨B.perm,B.kd,B.fl⟩
 have hsz:=B.size;show wpS _ _ _ _ _ Q BF;refine ap (wp_elem ∅ ?_);refine ap (wp_galR O L B.kd (B.mem ∅) (λk hk=>⟨∅,B.mem ∅⟩) ∅ (by rw[<- Qu];exact s1) λk g1 g2 g3=> ?_);dsimp only;by_cases c1:na - k=0;rw [ak ⇑c1];refine ax (h BF B1 rfl (λi j hi iW hj=> ?_) pj.refl);show LE less (b_ (arrOf st) i) (b_ (arrOf st) j);by_cases c2:j<sb;exact s1 i j hi iW c2;by_cases c3:sb<=i;exact s2 i j c3 iW hj;have:=g2 (i - sa) ∅;rw[show sa+(i - sa)=i by lia] at this;exact O.trans _ _ _ this (s2 sb j (ao _) ∅ hj);rw [aj ⇑c1];refine ap (wp_elem ∅ ?_);rw[show sa+k+(na - k) - 1=sb - 1 by lia];refine ap (wp_galL O L B.kd (B.mem ∅) (λk hk=>⟨∅,B.mem ∅⟩) ∅ s2 λm f1 f2 f3=> ?_);dsimp only;by_cases c2:m=0;rw [ak ⇑c2];refine ax (h BF B1 rfl (λi j hi iW hj=> ?_) pj.refl);show LE less (b_ (arrOf st) i) (b_ (arrOf st) j);by_cases c2:j<sb;exact s1 i j hi iW c2;by_cases c3:sb<=i;exact s2 i j c3 iW hj;have:=f3 (j - sb) ∅ ∅;rw[show sb+(j - sb)=j by lia] at this;exact O.trans _ _ _ (s1 i (sb - 1) hi ∅ ∅) this;rw [aj ⇑c2];have Vm:((arrOf st).extract (sa+k) sb).size=na - k:=by rw[Array.size_extract];lia
 have Vl:((arrOf st).extract sb (sb+m)).size=m:=by rw[Array.size_extract];lia
 have T:tZ less a₀ ((arrOf st).extract (sa+k) sb) ((arrOf st).extract sb (sb+m)):=by refine⟨FH O s1 ∅ (ao _) ∅,FH O s2 (ao _) ∅ ∅,λi hi=> ?_,λi hi=> ?_, ∅, ∅,?_,λj hj=> ?_⟩;rw[kx hi];rw[Vm] at hi;exact B.mem ∅;rw[kx hi];rw[Vl] at hi;exact B.mem ∅;rw[kx ∅,kx ∅];exact g3 k (ao _) ∅;rw[kx hj,kx ∅];rw[Vl] at hj;rw[Vm,show sa+k+(na - k - 1)=sb - 1 by lia];exact f2 j hj
 have fin : ∀ (r:Array Keyed) (g:Nat),q_ less ((arrOf st).extract (sa+k) sb) ((arrOf st).extract sb (sb+m)) r ->wpS (model prog w) A E s (do modify λs=>setArr s (zK (arrOf s) (sa+k) r.toList.zipIdx);return(failedOf (<- get)).isNone) Q (cw BF g):=by
  rintro r g ⟨rp,rs⟩;have rl:r.toList.length=sb+m - (sa+k):=by
   rw[rp.length_eq,aH];have e1:((arrOf st).extract (sa+k) sb).toList.length=na - k:=by rw[cX];exact Vm
   have e2:((arrOf st).extract sb (sb+m)).toList.length=m:=by rw[cX];exact Vl
   rw[e1,e2];lia
  have wl:=Dp (xs:=arrOf st) (at_:=sa+k) (ms:=r.toList) (by rw[rl,hsz];lia);rw[rl,show sa+k+(sb+m - (sa+k))=sb+m by lia] at wl;have wa: ∀n,b_ (zK (arrOf st) (sa+k) r.toList.zipIdx) n=if sa+k<=n /\ n<sb+m then(r.toList[n - (sa+k)]?).getD (.none, .none) else b_ (arrOf st) n:=λn=>by have e:=yh (sa+k) n r.toList 0 (arrOf st) (by rw[rl,hsz];lia);rw[Nat.add_zero,rl,show sa+k+(sb+m - (sa+k))=sb+m by lia] at e;unfold b_;rw[e];split<;>rfl
  have wm: ∀n,sa+k<=n ->n<sb+m -> ∃n',cM (sa+k<=n') (n'<sb+m) (b_ (zK (arrOf st) (sa+k) r.toList.zipIdx) n=b_ (arrOf st) n'):=λn n1 n2=>by rw[wa,ak ⟨n1,n2⟩,aD ∅];have hm:=rp.mem_iff.mp (List.getElem_mem (l:=r.toList) (n:=n - (sa+k)) ∅);rcases a_.mp hm with hm | hm;rw[lm] at hm;obtain⟨q,q1,q2,q3,e⟩:=zT hm;exact⟨q,q1, ∅,e⟩;rw[lm] at hm;obtain⟨q,q1,q2,q3,e⟩:=zT hm;exact⟨q, ∅,q2,e⟩
  refine ap (wpS_modify ?_);refine ap (wpS_get (ax ?_));have ef:(failedOf (setArr (cw BF g) (zK (arrOf (cw BF g)) (sa+k) r.toList.zipIdx))).isNone=true:=by show(failedOf st).isNone=true;rw[B.fl];rfl
  rw[ef];refine h _ ⟨?_,B.kd,B.fl⟩ rfl (λi j hi iW hj=> ?_) (λn hn=> ?_);show(zK (arrOf st) (sa+k) r.toList.zipIdx).Perm a₀;refine Array.Perm.trans ?_ B.perm;rw[Array.perm_iff_toList_perm,wl];have e3:=OI (arrOf st).toList (sa+k) sb (sb+m) ∅ ∅ (by simp;lia);refine List.Perm.trans ?_ (List.Perm.of_eq e3.symm);refine List.Perm.append_left _ ?_;rw[<- bT];refine List.Perm.append_right _ ?_;rw[lm,lm] at rp;exact rp;show LE less (b_ (zK (arrOf st) (sa+k) r.toList.zipIdx) i) (b_ (zK (arrOf st) (sa+k) r.toList.zipIdx) j);have Qd: ∀x y,sa<=x ->x<sa+k ->sa+k<=y ->y<sb+nb ->LE less (b_ (arrOf st) x) (b_ (arrOf st) y):=λx y x1 x2 y1 y2=>by by_cases c:y<sb;exact s1 x y x1 ∅ c;have:=g2 (x - sa) ∅;rw[show sa+(x - sa)=x by lia] at this;exact O.trans _ _ _ this (s2 sb y (ao _) ∅ y2)
  have Va: ∀x y,sa+k<=x ->x<sb+m ->sb+m<=y ->y<sb+nb ->LE less (b_ (arrOf st) x) (b_ (arrOf st) y):=λx y x1 x2 y1 y2=>by by_cases c:x<sb;have:=f3 (y - sb) ∅ ∅;rw[show sb+(y - sb)=y by lia] at this;exact O.trans _ _ _ (s1 x (sb - 1) ∅ ∅ ∅) this;exact s2 x y ∅ ∅ y2
  by_cases i1:i<sa+k;have ei:=wa i;rw[aj ∅] at ei;rw[ei];by_cases j1:j<sa+k;have ej:=wa j;rw[aj ∅] at ej;rw[ej];exact s1 i j hi iW ∅;by_cases j2:j<sb+m;obtain⟨n',n1,n2,e⟩:=wm j ∅ j2;rw[e];exact Qd i n' hi i1 n1 ∅;have ej:=wa j;rw[aj ∅] at ej;rw[ej];exact Qd i j hi i1 ∅ hj;by_cases i2:i<sb+m;by_cases j2:j<sb+m;rw[wa i,wa j,ak ∅,ak ∅,aD ∅,aD ∅];by_cases cij:i=j;subst cij;exact O.refl _;exact List.pairwise_iff_getElem.mp rs _ _ ∅ ∅ ∅;obtain⟨n',n1,n2,e⟩:=wm i ∅ i2;have ej:=wa j;rw[aj ∅] at ej;rw[e,ej];exact Va n' j n1 n2 ∅ hj;have ei:=wa i;have ej:=wa j;rw[aj ∅] at ei ej;rw[ei,ej];exact s2 i j ∅ iW hj;show b_ (zK (arrOf st) (sa+k) r.toList.zipIdx) n=_;rw[wa n,aj ∅]
 by_cases c3:na - k<=m;rw[ak c3];exact ap (wp_mLo O L T B.kd λr g hr=>fin r g hr);rw[aj c3];exact ap (wp_mHi O L T B.kd λr g hr=>fin r g hr)
end
def Runs (less:Keyed ->Keyed ->Bool)(xs:Array Keyed):List Rn ->Nat ->Nat ->Prop
 | [],lo,hi=>lo=hi
 | (a,n,_)::r,lo,hi=>a=lo /\ 1<=n /\ Sg less xs lo (lo+n) /\ Runs less xs r (lo+n) hi
section
variable {less:Keyed ->Keyed ->Bool}{xs ys:Array Keyed}
theorem Runs.le: ∀ {l:List Rn} {lo hi:Nat},Runs less xs l lo hi ->lo+l.length<=hi
 | [],lo,hi,h=>Nat.le_of_eq h
 | (a,n,p)::r,lo,hi,h=>by have:=Runs.le h.2.2.2;have:=h.2.1;rw[aB];lia
theorem Runs.app: ∀ {l1 l2:List Rn} {lo hi:Nat},Runs less xs (l1++l2) lo hi↔ ∃m,Runs less xs l1 lo m /\ Runs less xs l2 m hi
 | [],l2,lo,hi=>⟨λh=>⟨lo,rfl,h⟩,λ⟨m,e,h⟩=>by cases e;exact h⟩
 | (a,n,p)::r,l2,lo,hi=>by constructor;rintro⟨h1,h2,h3,h4⟩;obtain⟨m,a1,a2⟩:=Runs.app.mp h4;exact⟨m,⟨h1,h2,h3,a1⟩,a2⟩;rintro⟨m,⟨h1,h2,h3,a1⟩,a2⟩;exact⟨h1,h2,h3,Runs.app.mpr ⟨m,a1,a2⟩⟩
theorem Runs.out {e1 e2:Nat}(o:pj e1 e2 xs ys): ∀ {l:List Rn} {lo hi:Nat},(hi<=e1 \/ e2<=lo) ->Runs less xs l lo hi ->Runs less ys l lo hi
 | [],lo,hi,_,h=>h
 | (a,n,p)::r,lo,hi,hc,⟨h1,h2,h3,h4⟩=>by have:=Runs.le h4;refine⟨h1,h2,λi j hi iW hj=> ?_,Runs.out o ∅ h4⟩;rw[o i ∅,o j ∅];exact h3 i j hi iW hj
theorem Ed {e1 e2 lo hi:Nat}(o:pj e1 e2 xs ys)(hc:hi<=e1 \/ e2<=lo)(h:Sg less xs lo hi):Sg less ys lo hi:=λi j hi iW hj=>by rw[o i ∅,o j ∅];exact h i j hi iW hj
theorem DK {α:Type}{l:List α}(h:2<=l.length):dH λl1 x y=>l=l1++ [x,y]:=by refine⟨l.take (l.length - 2),l[l.length - 2],l[l.length - 1],?_⟩;have:=bu (l.length - 2) l;rw[List.drop_eq_getElem_cons ∅,List.drop_eq_getElem_cons ∅,List.drop_eq_nil_of_le ∅] at this;have e:l.length - 2+1=l.length - 1:= ∅;simp only[e] at this;exact this.symm
theorem z3 {α:Type}{l:List α}(h:l≠ []): ∃l1 x,l=l1++ [x]:=⟨l.dropLast,l.getLast h,(List.dropLast_concat_getLast h).symm⟩
end
section
variable {prog:Program}{w:World}{A:Around}{E:Value ->Shared ->Prop}{s:Shared}{kd:SortKind}{a₀:Array Keyed}{less:Keyed ->Keyed ->Bool}
theorem wG (l1:List Rn)(x:Rn)(f:Rn ->Rn):(l1++ [x]).modify l1.length f=l1++ [f x]:=by
 induction l1 with
 | nil=>rfl
 | cons a l ih=>rw[List.cons_append,aB,List.modify_succ_cons,ih];rfl
theorem wp_mR (O:Ord less)(L:gt prog w A E s kd a₀ less){st:SortSt}{Q:Bool ->SortSt ->Prop}{l1 l2:List Rn}{x y:Rn}{i lo:Nat}(B:SB kd a₀ st)(hp:pendingOf st=(l1++x::y::l2).toArray)(hi:i=l1.length)(hz:lo<=a₀.size)(R:Runs less (arrOf st) (l1++x::y::l2) 0 lo) (h: ∀bw z,SB kd a₀ bw ->pendingOf bw=(l1++z::l2).toArray ->Runs less (arrOf bw) (l1++z::l2) 0 lo ->pj 0 lo (arrOf st) (arrOf bw) ->Q true bw):wpS (model prog w) A E s (mergeAt' i) Q st:=by obtain⟨sa,na,pw⟩:=x;obtain⟨sb,nb,UK⟩:=y;obtain⟨m,r1,rfl,h1,s1,rfl,h2,s2,r2⟩:=Runs.app.mp R;have hle:=r2.le;refine wp_mAt O L B hp hi rfl h1 h2 ∅ s1 s2 λbw B' vq s' o'=>h bw _ B' vq ?_ λk hk=>o' k ∅;refine Runs.app.mpr ⟨_,r1.out o' (.inl (ao _)),rfl, ∅,?_,?_⟩;rw[<- Nat.add_assoc];exact s';rw[<- Nat.add_assoc];exact r2.out o' (.inr (ao _))
theorem v8 {xs:Array Keyed}{l1:List Rn}{a n p q lo hi:Nat}(h:Runs less xs (l1++ [(a,n,p)]) lo hi):Runs less xs (l1++ [(a,n,q)]) lo hi:=by obtain⟨m,r1,h1,h2,h3,h4⟩:=Runs.app.mp h;exact Runs.app.mpr ⟨m,r1,h1,h2,h3,h4⟩
theorem wp_sort (O:Ord less)(L:gt prog w A E s kd a₀ less){st:SortSt}{Q:Unit ->SortSt ->Prop}(B:SB kd a₀ st)(hp0:pendingOf st= #[])(h2:2<=a₀.size) (h: ∀bw,(arrOf bw).Perm a₀ ->failedOf bw=none ->Sg less (arrOf bw) 0 a₀.size ->Q () bw):wpS (model prog w) A E s sortRuns' Q st:=by
 rw[sortRuns'_eq];refine ap (wpS_get ?_);dsimp only;simp only[B.size];generalize minRun' a₀.size a₀.size 0=mr;refine ap (wpS_mono (bX (I:=λx c bw=>ca λlo pl=>kz (c=(none,lo)) (x<=lo) (lo<=a₀.size) (SB kd a₀ bw) (pendingOf bw=pl.toArray) (Runs less (arrOf bw) pl 0 lo)) (Q:=λc bw=> ∃pl,eu (c=(none,a₀.size)) (SB kd a₀ bw) (pendingOf bw=pl.toArray) (Runs less (arrOf bw) pl 0 a₀.size)) ?step ?fin ⟨0,[],rfl,ao _,cZ _,B,hp0,rfl⟩) ?post);case fin=>
  rintro c bw ⟨lo,pl,rfl,h1,Kz,B',hp,R⟩
  have:lo=a₀.size:= ∅
  subst this
  exact⟨pl,rfl,B',hp,R⟩
 case step =>
  rintro x c bw _ hx ⟨lo,pl,rfl,h1,Kz,B',hp,R⟩
  dsimp only
  by_cases c1:lo≥a₀.size
  rw[ak c1]
  have:lo=a₀.size:= ∅
  subst this
  exact ax ⟨pl,rfl,B',hp,R⟩
  rw[aj c1]
  refine ap (wp_run O L ∅ ∅ B' λm lB B2 m1 m2 s2 p2 o2=> ?_)
  dsimp only
  have R2:Runs less (arrOf lB) pl 0 lo:=R.out o2 (.inl (ao _))
  by_cases c2:m<mr
  rw [ak c2]
  refine ap (wpS_lift (wpAny_rule ⟨rfl,?_⟩))
  refine ap (wp_bin O L ∅ ∅ B2 s2 λrF B3 s3 p3 o3=> ?_)
  simp only[aL,aw,bi]
  have R3:=R2.out o3 (.inl (ao _))
  have n1:1<=min (a₀.size - lo) mr:= ∅
  have n2:lo+min (a₀.size - lo) mr<=a₀.size:= ∅
  rw[p2,hp] at p3
  clear o3
  revert s3 n1 n2
  generalize min (a₀.size - lo) mr=n
  intro s3 n1 n2
  refine ap (wpS_get ?_)
  cases hb:(pendingOf rF).back? with
  | none=>dsimp only;refine ap (wpS_modify (ax ⟨lo+n,pl++ [(lo,n,0)],rfl, ∅,n2,⟨B3.perm,B3.kd,B3.fl⟩,?_,Runs.app.mpr ⟨lo,R3,rfl,n1,s3,rfl⟩⟩));show(pendingOf rF).push (lo,n,0)=_;rw[p3];simp
  | some q=>
   obtain⟨s1,L9,p1⟩:=q;dsimp only;have pL:pl≠ []:=λe=>by subst e;rw[p3] at hb;simp at hb
   refine ap (wpS_mono (bX (I:=λ_ c eP=>c=(none,()) /\ ∃pl,fo (pl≠ []) (SB kd a₀ eP) (Sg less (arrOf eP) lo (lo+n)) (pendingOf eP=pl.toArray) (Runs less (arrOf eP) pl 0 lo)) (Q:=λc eP=>c=(none,()) /\ ∃pl,fo (pl≠ []) (SB kd a₀ eP) (Sg less (arrOf eP) lo (lo+n)) (pendingOf eP=pl.toArray) (Runs less (arrOf eP) pl 0 lo)) ?_ (λc eP h=>h) ⟨rfl,pl,pL,B3,s3,p3,R3⟩) ?_);rintro y c eP _ hy ⟨rfl,uB,ne4,B4,s4,p4,R4⟩;refine ap (wpS_get ?_);by_cases c2:(pendingOf eP).size >1;rw[ak c2];have hl:2<=uB.length:=by rw[p4] at c2;simp at c2;lia
   obtain⟨l1,u,v,e4⟩:=DK hl;have e5:(pendingOf eP).size - 2=l1.length:=by rw[p4,e4];simp
   have e6:(pendingOf eP)[(pendingOf eP).size - 2]? =some u:=by rw[e5,p4,e4];simp
   rw[e6];obtain⟨u1,u2,u3⟩:=u;dsimp only;split;exact ax ⟨rfl,uB,ne4,B4,s4,p4,R4⟩;subst e4;refine ap (wp_mR O L (l2:= []) B4 p4 e5 ∅ R4 λNA z B5 p5 R5 o5=> ?_);simp only[aL,aw,bi];exact ax ⟨rfl,_,by simp,B5,Ed o5 (.inr (ao _)) s4,p5,R5⟩;rw[aj c2];exact ax ⟨rfl,uB,ne4,B4,s4,p4,R4⟩;rintro c eP ⟨rfl,uB,ne4,B4,s4,p4,R4⟩;dsimp only;refine ap (wpS_modify (ap (wpS_modify (ax ?_))));obtain⟨l1,⟨u1,u2,u3⟩,rfl⟩:=z3 ne4;refine⟨lo+n,(l1++ [(u1,u2,power' a₀.size (2*s1+L9) (2*s1+L9+L9+n) a₀.size)])++ [(lo,n,0)],rfl, ∅,n2,⟨B4.perm,B4.kd,B4.fl⟩,?_,Runs.app.mpr ⟨lo,v8 R4,rfl,n1,s4,rfl⟩⟩;show((pendingOf eP).modify ((pendingOf eP).size - 1) _).push (lo,n,0)=_;rw[p4];simp only[List.modify_toArray,List.push_toArray,aF];congr 2;rw[aH,List.length_singleton,Nat.add_sub_cancel];exact wG l1 _ _
  rw [aj c2]
  have s3:=s2
  have n1:=m1
  have n2:lo+m<=a₀.size:= ∅
  have p3:pendingOf lB=pl.toArray:=by rw[p2,hp]
  have B3:=B2
  have R3:=R2
  clear p2 o2 B2 R2 s2 m1 m2 c2
  revert s3 n1 n2
  generalize m=n
  intro s3 n1 n2
  revert p3 B3 R3 s3
  generalize lB=rF
  intro p3 B3 R3 s3
  refine ap (wpS_get ?_)
  cases hb:(pendingOf rF).back? with
  | none=>dsimp only;refine ap (wpS_modify (ax ⟨lo+n,pl++ [(lo,n,0)],rfl, ∅,n2,⟨B3.perm,B3.kd,B3.fl⟩,?_,Runs.app.mpr ⟨lo,R3,rfl,n1,s3,rfl⟩⟩));show(pendingOf rF).push (lo,n,0)=_;rw[p3];simp
  | some q=>
   obtain⟨s1,L9,p1⟩:=q;dsimp only;have pL:pl≠ []:=λe=>by subst e;rw[p3] at hb;simp at hb
   refine ap (wpS_mono (bX (I:=λ_ c eP=>c=(none,()) /\ ∃pl,fo (pl≠ []) (SB kd a₀ eP) (Sg less (arrOf eP) lo (lo+n)) (pendingOf eP=pl.toArray) (Runs less (arrOf eP) pl 0 lo)) (Q:=λc eP=>c=(none,()) /\ ∃pl,fo (pl≠ []) (SB kd a₀ eP) (Sg less (arrOf eP) lo (lo+n)) (pendingOf eP=pl.toArray) (Runs less (arrOf eP) pl 0 lo)) ?_ (λc eP h=>h) ⟨rfl,pl,pL,B3,s3,p3,R3⟩) ?_);rintro y c eP _ hy ⟨rfl,uB,ne4,B4,s4,p4,R4⟩;refine ap (wpS_get ?_);by_cases c2:(pendingOf eP).size >1;rw[ak c2];have hl:2<=uB.length:=by rw[p4] at c2;simp at c2;lia
   obtain⟨l1,u,v,e4⟩:=DK hl;have e5:(pendingOf eP).size - 2=l1.length:=by rw[p4,e4];simp
   have e6:(pendingOf eP)[(pendingOf eP).size - 2]? =some u:=by rw[e5,p4,e4];simp
   rw[e6];obtain⟨u1,u2,u3⟩:=u;dsimp only;split;exact ax ⟨rfl,uB,ne4,B4,s4,p4,R4⟩;subst e4;refine ap (wp_mR O L (l2:= []) B4 p4 e5 ∅ R4 λNA z B5 p5 R5 o5=> ?_);simp only[aL,aw,bi];exact ax ⟨rfl,_,by simp,B5,Ed o5 (.inr (ao _)) s4,p5,R5⟩;rw[aj c2];exact ax ⟨rfl,uB,ne4,B4,s4,p4,R4⟩;rintro c eP ⟨rfl,uB,ne4,B4,s4,p4,R4⟩;dsimp only;refine ap (wpS_modify (ap (wpS_modify (ax ?_))));obtain⟨l1,⟨u1,u2,u3⟩,rfl⟩:=z3 ne4;refine⟨lo+n,(l1++ [(u1,u2,power' a₀.size (2*s1+L9) (2*s1+L9+L9+n) a₀.size)])++ [(lo,n,0)],rfl, ∅,n2,⟨B4.perm,B4.kd,B4.fl⟩,?_,Runs.app.mpr ⟨lo,v8 R4,rfl,n1,s4,rfl⟩⟩;show((pendingOf eP).modify ((pendingOf eP).size - 1) _).push (lo,n,0)=_;rw[p4];simp only[List.modify_toArray,List.push_toArray,aF];congr 2;rw[aH,List.length_singleton,Nat.add_sub_cancel];exact wG l1 _ _
 case post =>
  rintro c bw ⟨pl,rfl,B',hp,R⟩
  dsimp only
  have hle:=R.le
  refine ap (wpS_mono (bX (I:=λx c eP=>c=(none,()) /\ ∃pl,eu (SB kd a₀ eP) (pendingOf eP=pl.toArray) (Runs less (arrOf eP) pl 0 a₀.size) (pl.length<=1 \/ pl.length+x<=a₀.size)) (Q:=λc eP=>c=(none,()) /\ ∃pl,cM (SB kd a₀ eP) (Runs less (arrOf eP) pl 0 a₀.size) (pl.length<=1)) ?_ ?_ ⟨rfl,pl,B',hp,R, .inr ∅⟩) ?_)
  rintro x c eP _ hx ⟨rfl,uB,B4,p4,R4,hl⟩
  refine ap (wpS_get ?_)
  have esz:(pendingOf eP).size=uB.length:=by rw[p4];simp
  by_cases c1:(pendingOf eP).size<=1
  rw[ak c1]
  exact ax ⟨rfl,uB,B4,R4, ∅⟩
  rw [aj c1]
  generalize abr:Option.any _ _=cnd
  have mk: ∀k,k+2<=uB.length -> ∀ (Q':ForInStep (Option Unit×Unit) ->SortSt ->Prop),(∀bw pl,SB kd a₀ bw ->pendingOf bw=pl.toArray ->Runs less (arrOf bw) pl 0 a₀.size ->(pl.length<=1 \/ pl.length+(x+1) <=a₀.size) ->Q' (.yield (none,())) bw) ->wpS (model prog w) A E s (do
    let b <- mergeAt' k
    if(!b)=true then pure (ForInStep.done ((some (),()):Option Unit×Unit)) else pure (ForInStep.yield (none,()))) Q' eP:=by
   intro k hk Q' hQ
   have e:=bu k uB
   rw[List.drop_eq_getElem_cons ∅,List.drop_eq_getElem_cons ∅] at e
   have yf:(uB.take k).length=k:=by rw[b0];lia
   rw[<- e] at p4 R4
   refine ap (wp_mR O L B4 p4 yf.symm (ao _) R4 λNA z B5 p5 R5 o5=> ?_)
   simp only[aL,aw,bi]
   refine ax (hQ _ _ B5 p5 R5 (.inr ?_))
   rw[aH,yf,aB,List.length_drop]
   lia
  cases cnd with
  | true=>simp only[bP];exact mk ((pendingOf eP).size - 2 - 1) ∅ _ λbw pl b1 b2 b3 b4=>⟨rfl,pl,b1,b2,b3,b4⟩
  | false=>simp only[aw,bi];exact mk ((pendingOf eP).size - 2) ∅ _ λbw pl b1 b2 b3 b4=>⟨rfl,pl,b1,b2,b3,b4⟩
  rintro c eP ⟨rfl,uB,B4,p4,R4,hl⟩
  exact⟨rfl,uB,B4,R4, ∅⟩
  rintro c eP ⟨rfl,uB,B4,R4,hl⟩
  refine ax (h _ B4.perm B4.fl ?_)
  match uB,R4,hl with
  | [],R4,_=>exact absurd R4 (by show ¬(0=a₀.size);lia)
  | [(u1,u2,u3)],⟨_,_,h3,h4⟩,_=>have h4:0+u2=a₀.size:=h4;rw[h4] at h3;exact h3
  | _::_::_,_,hl=>simp at hl
end
def Cc (h:Heap)(a:Addr)(vs:List Value):Heap:=((h.update a (Obj.mapSeq λ_=> #[])).push (seqObj "tuple" vs.toArray 0)).push (seqObj "list" #[] 0)
theorem HS {h:Heap}{a:Addr}{vs:List Value}{n:Nat}(ho:h.get? a=some (seqObj "list" vs.toArray n)):(Cc h a vs).get? a=some (seqObj "list" #[] (if((#[]:Array Value)).size==vs.toArray.size then n else n+1)):=by have ha:=aE ho;unfold Cc;rw[Heap.get?_push_ne _ _ _ (by rw[size_push',Heap.size_update];exact bg (Nat.lt_succ_of_lt ha)),Heap.get?_push_ne _ _ _ (by rw[Heap.size_update];exact bg ha)];exact get?_update_seq ho (λ_=> #[])
section
variable {prog:Program}{w:World}{A:Around}{E:Value ->Shared ->Prop}{s:Shared}
theorem vP {a:Addr}{vs:List Value}{n:Nat}{P:Fin ->Shared ->Prop}{kd:SortKind}{less:Keyed ->Keyed ->Bool}(O:Ord less)(ho:s.heap.get? a=some (seqObj "list" vs.toArray n))(hsz:vs.length<=sizeLine) (hk:2<=vs.length -> ∀ (Q:SortKind ->Shared ->Prop),Q kd {s with heap:=Cc s.heap a vs} ->wpAny (model prog w) A (keyKind' vs.toArray) Q E {s with heap:=Cc s.heap a vs}) (L:gt prog w A E {s with heap:=Cc s.heap a vs} kd (pairsOf vs) less) (h: ∀ (us:List Value),us.Perm vs ->us.Pairwise (λx y=>less (y,y) (x,x)=false) ->P (.done (.ret .none)) {s with heap:=sortedHeap s.heap a vs us.toArray}): wpAny (model prog w) A (Builtin.«list.sort» ⟨[.ref a],[]⟩) P E s:=by
 rw[list_sort_plain];refine ar (listItems_at ho rfl ?_);refine ar (listUpdate_at ho rfl ?_ (hsz:= ⇑hsz));refine ar (seqEpoch_at (get?_update_seq ho (λ_=> #[])) rfl ?_);refine ar (wpAny_newTuple ?_);refine ar (wpAny_newList ?_);refine wpAny_holding ?_;have SU:=HS ho;show wpAny (model prog w) A _ P E {s with heap:=Cc s.heap a vs};dsimp only;have fin: ∀xs:Array Keyed,xs.Perm (pairsOf vs) ->Sg less xs 0 (pairsOf vs).size ->P (.done (.ret .none)) {s with heap:=sortedHeap s.heap a vs (xs.map (·.2))}:=by
  intro xs hp hs;have hl:xs.toList.Perm (vs.zip vs):=by rw[<- pairsOf_toList];exact Array.perm_iff_toList_perm.mp hp
  have QC: ∀p,p∈xs.toList ->p.1=p.2 /\ p.1∈vs:=λp vq=>mem_zip_self (hl.mem_iff.mp vq);have:=h (xs.toList.map (·.2)) ?_ ?_;have e:(xs.toList.map (·.2)).toArray=xs.map (·.2):=by apply Array.toList_inj.mp;simp
  rwa [e] at this;have h1:=hl.map (λp:Keyed=>p.2);rwa [List.map_snd_zip (ao _)] at h1;rw[List.pairwise_iff_getElem];intro i j hi hj iW;have ot:i<xs.size:= ⇑hi;have ME:j<xs.size:= ⇑hj;have h1:=hs i j (cZ _) (Nat.le_of_lt iW) (by rw[<- hp.size_eq];exact ME);have e1:b_ xs i=((xs.toList.map (·.2))[i],(xs.toList.map (·.2))[i]):=by rw[List.getElem_map];have hm:=u_ ot;have e:=fD ot;rw[aD ⇑ot] at e;have e:=a8 e;rw[e];exact Prod.ext (QC _ hm).1 rfl
  have e2:b_ xs j=((xs.toList.map (·.2))[j],(xs.toList.map (·.2))[j]):=by rw[List.getElem_map];have hm:=u_ ME;have e:=fD ME;rw[aD ⇑ME] at e;have e:=a8 e;rw[e];exact Prod.ext (QC _ hm).1 rfl
  rw[e1,e2] at h1;exact h1
 have abE:vs.toArray.size=vs.length:=by simp
 by_cases h2:vs.toArray.size<2;rw[ak h2,ak h2];refine ar (aR ?_);rw[StateT.run_pure];refine ar (aR ?_);dsimp only;refine ar (seqEpoch_at SU rfl ?_);refine ar (listUpdate_at SU rfl ?_ (hsz2:=by rw[Array.size_map];show(pairsOf vs).size<=_;rw[pairsOf_size];lia));simp only[bne_self_eq_false,aw,bi];refine aR (fin (pairsOf vs) (Array.Perm.refl _) ?_);intro i j _ iW hj;have:i=j:=by rw[pairsOf_size] at hj;lia
 subst this;exact O.refl _;rw[aj h2,aj h2];refine ar (hk ∅ _ ?_);refine ar (bp (wp_sort O L (st:=SortSt.mk' kd (vs.toArray.zip vs.toArray) #[] 7 none) (Q:=λ_ bw=>(arrOf bw).Perm (pairsOf vs) /\ failedOf bw=none /\ Sg less (arrOf bw) 0 (pairsOf vs).size) ⟨Array.Perm.refl _,rfl,rfl⟩ rfl (by rw[pairsOf_size];lia) λbw a1 a2 a3=>⟨a1,a2,a3⟩) ?_ λ_ _ e=>e);rintro⟨⟨⟩,bw⟩ s' ⟨rfl,hp,hf,hs⟩;dsimp only;refine ar (seqEpoch_at SU rfl ?_);refine ar (listUpdate_at SU rfl ?_ (hsz2:=by refine av (Nat.le_of_eq ((Array.size_map ..).trans (hp.size_eq.trans (pairsOf_size _)))) ?_;lia));rw[hf];simp only[bne_self_eq_false,aw,bi];exact aR (fin _ hp hs)
def qx (x y:Keyed):Bool:=decide (numOf x.1<numOf y.1)
theorem UP:Ord qx:=by refine⟨λx y h=> ?_,λx y z h1 h2=> ?_⟩;unfold qx at*;rw[cU] at h;exact aQ ∅;unfold LE qx at*;rw[decide_eq_false_iff_not] at*;lia
theorem ltI {a₀:Array Keyed}(h0:IntKeys a₀):gt prog w A E s oneType' a₀ qx:=by
 intro x y st Q hx hy hk hq;obtain⟨n,t,e1⟩:=h0 x hx;obtain⟨m,u,e2⟩:=h0 y hy;rw[lt'_eq];refine ap (wpS_get ?_);rw[hk,keyLt'_oneType,e1,e2];refine ap (wpS_lift (wpAny_attempt (oneLt_int ⟨rfl,?_⟩)));have e:qx x y=decide (n<m):=by unfold qx;rw[e1,e2];rfl
 rw[e] at hq;exact ax hq
theorem BH {a:Addr}{vs:List Value}{ns:List Int}{n:Nat}{P:Fin ->Shared ->Prop}(ho:s.heap.get? a=some (seqObj "list" vs.toArray n)) (hI:IntsAre vs ns) (hsz:vs.length<=sizeLine) (h: ∀ (out:Array Value) (yc:List Int),IntsAre out.toList yc ->yc.Perm ns ->yc.Pairwise (· <= ·) ->P (.done (.ret .none)) {s with heap:=sortedHeap s.heap a vs out}): wpAny (model prog w) A (Builtin.«list.sort» ⟨[.ref a],[]⟩) P E s:=by
 refine vP UP ho hsz (kd:=oneType') (λh2 Q hq=> ?_) (ltI hI.intKeys) λus hp hs=> ?_;obtain⟨v₁,v₂,dh,rfl⟩:dH λv₁ v₂ dh=>vs=v₁::v₂::dh:=by
  match vs,h2 with
  | [],h2=>simp at h2
  | [_],h2=>simp at h2
  | v₁::v₂::dh,_=>exact⟨v₁,v₂,dh,rfl⟩
 rw[keyKind_ints hI];exact aR hq;have Fx: ∀v,v∈us -> ∃n t,v= .int n t:=λv hv=>hI.all v (hp.mem_iff.mp hv);refine h us.toArray (us.map numOf) ⇑(intsAre_map us Fx) ?_ ?_;have:=hp.map numOf;rwa [hI.nums] at this;rw[List.pairwise_map];refine hs.imp λ{x y} e=> ?_;unfold qx at e;rw[decide_eq_false_iff_not] at e;simp only at e;lia
end
end TS
namespace L2
open PySem PySem.Spec PyProof.Rows
abbrev b8:=Sum Int Str
def l5:b8 ->Value ->Bool
 | .inl k,v=>Value.isInt k v
 | .inr x,v=>Value.isStrOf x v
def U_ (w:World):b8 ->Int
 | .inl k=>hashInt k
 | .inr x=>hashStr w x
theorem cN: ∀ {k:b8} {v:Value},l5 k v=true ->(ca λi t=>k=Sum.inl i /\ v=Value.int i t) \/ (ca λx t=>k=Sum.inr x /\ v=Value.str x t)
 | .inl i,v,h=>by obtain⟨t,e⟩:=Value.isInt_shape (k:=i) (v:=v) h;exact .inl ⟨i,t,rfl,e⟩
 | .inr x,v,h=>by obtain⟨t,e⟩:=Value.isStrOf_shape (x:=x) (v:=v) h;exact .inr ⟨x,t,rfl,e⟩
theorem Cm (i:Int)(t:Tok):l5 (.inl i) (.int i t)=true:=by simp[l5,Value.isInt]
theorem Ck (x:Str)(t:Tok):l5 (.inr x) (.str x t)=true:=by simp[l5,Value.isStrOf]
theorem Mg (a b:Int):decide ((Sum.inl a:b8)=Sum.inl b)=(a==b):=by by_cases e:a=b;subst e;simp;have h:¬(Sum.inl a:b8)=Sum.inl b:=λq=>e (Sum.inl.inj q);rw[aQ h];exact(beq_eq_false_iff_ne.mpr e).symm
theorem Md (a b:Str):decide ((Sum.inr a:b8)=Sum.inr b)=decide (a=b):=by by_cases e:a=b;subst e;simp;have h:¬(Sum.inr a:b8)=Sum.inr b:=λq=>e (Sum.inr.inj q);rw[aQ h,aQ e]
theorem Mf (a:Int)(b:Str):decide ((Sum.inl a:b8)=Sum.inr b)=false:=aQ (λq=>nomatch q)
theorem Me (a:Str)(b:Int):decide ((Sum.inr a:b8)=Sum.inl b)=false:=aQ (λq=>nomatch q)
def cr (prog:Program)(w:World):PySem.KeyKind prog w b8 where
 is:=l5
 hash:=U_ w
 inj :=λv a b ha hb=>by
  rcases cN ha with⟨i,t,rfl,rfl⟩ | ⟨x,t,rfl,rfl⟩
  rcases cN hb with⟨j,u,rfl,e⟩ | ⟨y,u,rfl,e⟩
  injection e with e1 _;rw[e1];exact nomatch e
  rcases cN hb with⟨j,u,rfl,e⟩ | ⟨y,u,rfl,e⟩
  exact nomatch e
  injection e with e1 _;rw[e1]
 byValue:=λk v h=>by rcases cN h with⟨i,t,rfl,rfl⟩ | ⟨x,t,rfl,rfl⟩ <;>rfl
 pyHash:=λhv h=>by
  rcases cN hv with⟨i,t,rfl,rfl⟩ | ⟨x,t,rfl,rfl⟩
  exact wpAny_pyHash_int h;exact wpAny_pyHash_str h
 eqBool:=λhu hv h=>by
  rcases cN hu with⟨i,t,rfl,rfl⟩ | ⟨x,t,rfl,rfl⟩
  rcases cN hv with⟨j,u,rfl,rfl⟩ | ⟨y,u,rfl,rfl⟩
  rw[Mg] at h;exact wpAny_eqBool_int h;rw[Mf] at h;exact SeqAt.EqAt.int_str i t y u _ _ _ _ h;rcases cN hv with⟨j,u,rfl,rfl⟩ | ⟨y,u,rfl,rfl⟩
  rw[Me] at h;exact SeqAt.EqAt.str_int x t j u _ _ _ _ h;rw[Md] at h;exact wpAny_eqBool_str h
 «strs» :=λk x t v h=>by
  rcases cN h with⟨i,u,rfl,e⟩ | ⟨y,u,rfl,e⟩
  exact nomatch e
  injection e with e1 _;subst e1;cases v<;>rfl
theorem wJ (prog:Program)(w:World)(i:Int)(t:Tok):(cr prog w).is (.inl i) (.int i t)=true:=Cm i t
theorem wH (prog:Program)(w:World)(x:Str)(t:Tok):(cr prog w).is (.inr x) (.str x t)=true:=Ck x t
set_option genInjectivity true in
inductive V where
  | dC | bl (b:Bool) | int (i:Int) | str (x:Str) | CQ (b:Array UInt8) | IF (b:UInt64) | ref (a:Addr) | ty (n:String)
 deriving DecidableEq
def RelV:V ->Value ->Prop
 | .dC,u=>u=Value.none
 | .bl b,u=>u=Value.bool b
 | .int i,u=> ∃t,u=Value.int i t
 | .str x,u=> ∃t,u=Value.str x t
 | .CQ b,u=> ∃t,u=Value.bytes b t
 | .IF b,u=> ∃t,u=Value.float b t
 | .ref a,u=>u=Value.ref a
 | .ty n,u=>u=Value.type n
abbrev bY:List V ->List Value ->Prop:=Paired RelV
theorem bY.length {xs:List V}{us:List Value}(r:bY xs us):xs.length=us.length:=Paired.length r
theorem bY.get: ∀ {xs:List V} {us:List Value} {i:Nat} {x:V},bY xs us ->xs[i]? =some x -> ∃u,us[i]? =some u /\ RelV x u
 | _,_,_,_, .nil,e=>by simp at e
 | _,_,0,_, .cons r _,e=>by simp at e;subst e;exact⟨_,rfl,r⟩
 | _,_,i+1,x, .cons _ t,e=>by obtain⟨u,h1,h2⟩:=bY.get (i:=i) (x:=x) t ⇑e;exact⟨u, ⇑h1,h2⟩
theorem bY.set {x:V}{u:Value}(r:RelV x u): ∀ {xs:List V} {us:List Value} (i:Nat),bY xs us ->bY (xs.set i x) (us.set i u)
 | _,_,_, .nil=> .nil
 | _,_,0, .cons _ t=> .cons r t
 | _,_,i+1, .cons q t=> .cons q (bY.set r i t)
theorem bY.append: ∀ {xs ys:List V} {us ws:List Value},bY xs us ->bY ys ws ->bY (xs++ys) (us++ws)
 | _,_,_,_, .nil,s=>s
 | _,_,_,_, .cons r t,s=> .cons r (bY.append t s)
theorem bY.take: ∀ {xs:List V} {us:List Value} (n:Nat),bY xs us ->bY (xs.take n) (us.take n)
 | _,_,0,_=> .nil
 | _,_,_+1, .nil=> .nil
 | _,_,n+1, .cons r t=> .cons r (bY.take n t)
theorem bY.drop: ∀ {xs:List V} {us:List Value} (n:Nat),bY xs us ->bY (xs.drop n) (us.drop n)
 | _,_,0,r=>r
 | _,_,_+1, .nil=> .nil
 | _,_,n+1, .cons _ t=>bY.drop n t
def iL:Option V ->Option Value ->Prop
 | some v,some u=>RelV v u
 | none,none=>True
 | _,_=>False
def KV {κ:Type}:List (κ×V) ->List (κ×Value) ->Prop:=Paired λ(p:κ×V) (q:κ×Value)=>p.1=q.1 /\ RelV p.2 q.2
def kV:b8 ->V
 | .inl i=> .int i
 | .inr x=> .str x
set_option genInjectivity true in
inductive HO where
 /-- a list -/
 | lst (xs:List V)
 /-- a tuple (never changes) -/
 | tup (xs:List V)
 /-- a dict N4 keys are ints and texts;one N4 keys are tuples of ints and texts (Nz empty one is both) -/
 | dK (kvs:List (b8×V)) | dT (kvs:List (List b8×V))
 /-- a set of ints:bD members,bD size -/
 | set (S:Int ->Bool) (n:Nat)
 /-- an instance of Nz class at C,bD dict at dx,bD attributes -/
 | ins (C dx:Addr) (fs:List (Str×V))
 /-- Nz dict of Nz instance at x -/
 | own (x:Addr)
 /-- Nz dict of an exception -/
 | xd (fs:List (Str×V))
 /-- a bound method,f of x -/
 | met (f x:Addr)
 /-- a range object lo,lo+1, .. below hi -/
 | Sn (lo hi:Int)
 /-- a thing abC is known to Nz object (Nz UA;a dict while a loop walks it):read,never written while it is so -/
 | jd (o:Obj) (u:HO)
 /-- a code PQ table -/
 | Ha (ps:Array Value)
 /-- any other thing,by aby is true of bD one object (a def of abl own:abJ a S n:=HO.ext λh=> ..) -/
 | ext (φ:Heap ->Prop)
abbrev Hp:=Addr ->Option HO
def cq (H:Hp)(a:Addr)(o:HO):Hp:=λb=>if b=a then some o else H b
theorem bI {H:Hp}{a:Addr}{o:HO}:cq H a o a=some o:=by unfold cq;rw[ak rfl]
theorem bC {H:Hp}{a b:Addr}{o:HO}(h:b≠a):cq H a o b=H b:=by unfold cq;rw[aj h]
theorem PX {H:Hp}{a b:Addr}{o u:HO}(h:H a=some o)(h':H b=some u)(d:o≠u):a≠b:=by intro e;subst e;rw[h] at h';exact d (a8 h')
theorem d0 {H:Hp}{a b:Addr}{o:HO}(h:H a=some o)(h':H b=none):a≠b:=by intro e;subst e;rw[h] at h';cases h'
def xL (h:Heap)(a:Addr)(bD:Array Value):Prop:= ∃o,h.get? a=some o /\ o.cls= .type "tuple" /\ ∃n,o.data= .seq bD n /\ o.dict=none
theorem xL.t {h:Heap}{a:Addr}{bD:Array Value}(x:xL h a bD):IsTup h a bD:=let ⟨o,e,c,n,d,_⟩:=x;⟨o,e,c,n,d⟩
theorem xL.lt {h:Heap}{a:Addr}{bD:Array Value}(x:xL h a bD):a<h.objs.size:=let ⟨_,e,_⟩:=x;aE e
theorem xL.new (h:Heap)(bD:Array Value):xL (h.push {cls:= .type "tuple",data:= .seq bD}) h.objs.size bD:=⟨_,aM _ rfl,rfl,_,rfl,rfl⟩
section
variable (P:Program)(w:World)
def dt (H:Hp)(h:Heap)(a:Addr):HO ->Prop
 | .lst xs=>xs.length<=sizeLine /\ ca λ(bD:List Value) (n:Nat)=>bY xs bD /\ h.get? a=some {cls:= .type "list",data:= .seq bD.toArray n}
 | .tup xs=>xs.length<=sizeLine /\ ∃bD:List Value,bY xs bD /\ xL h a bD.toArray
 | .dK kvs=>kvs.length<=sizeLine /\ (a==sysModules)=false /\ ∃vs,KV kvs vs /\ h.DictOf (cr P w) a vs
 | .dT kvs=>kvs.length<=sizeLine /\ (a==sysModules)=false /\ ∃xs:List (List b8×Addr×Value),Paired (λ(p:List b8×V) (q:List b8×Addr×Value)=>p.1=q.1 /\ H q.2.1=some (.tup (p.1.map kV)) /\ RelV p.2 q.2.2) kvs xs /\∃o es ep,h.get? a=some o /\ o.ExactDict /\ o.data= .dict es ep /\ es.toList=xs.map (entryOfKey (tupleKind (cr P w))) /\ (xs.map (·.1)).Nodup
 | .set S n=>h.SetOf (intKind P w) a S n
 | .ins C dx fs=>H dx=some (.own a) /\ fs.length<=1000 /\ dx≠a /\ h.get? a=some (PySem.W.instObj C dx) /\∃mA,h.Ns1 dx mA /\ (∀f,iL (fs.lookup f) (mA f)) /\ PySem.Within mA (fs.map (·.1))
 | .own _=> ∃o,h.get? a=some o
 | .xd fs=> ∃mA,h.Ns1 a mA /\ ∀f,iL (fs.lookup f) (mA f)
 | .Sn lo hi=>dH λt u v=>h.get? a=some {cls:= .type "range",data:= .fields #[.int lo t, .int hi u, .int 1 v]}
 | .jd o u=>h.get? a=some o /\ dt H h a u
 | .Ha ps=>h.get? a=some {cls:= .none,data:= .fields ps}
 | .met f x=>h.get? a=some (PySem.W.methodObj (.ref f) (.ref x))
 | .ext φ=>φ h /\ (∃o,h.get? a=some o) /\ ∀h1 h2:Heap,φ h1 ->(∀o,h1.get? a=some o ->h2.get? a=some o) ->φ h2
def kA (H:Hp)(h:Heap):Prop:= ∀a o,H a=some o ->dt P w H h a o
end
section
variable {P:Program}{w:World}{H H':Hp}{h h':Heap}{a:Addr}{o:HO}
theorem dt.lt (x:dt P w H h a o):a<h.objs.size:=by
 cases o with
 | lst xs=>obtain⟨_,_,_,_,e⟩:=x;exact aE e
 | tup xs=>obtain⟨_,_,_,p⟩:=x;exact p.lt
 | dK kvs=>obtain⟨_,_,_,_,o,_,_,e,_⟩:=x;exact aE e
 | dT kvs=>obtain⟨_,_,_,_,o,_,_,e,_⟩:=x;exact aE e
 | set S n=>obtain⟨o,_,_,_,e,_⟩:=x;exact aE e
 | ins C dx fs=>obtain⟨_,_,_,e,_⟩:=x;exact aE e
 | own y=>obtain⟨_,e⟩:=x;exact aE e
 | xd fs=>obtain⟨_,⟨_,_,_,e,_⟩,_⟩:=x;exact aE e
 | Sn lo hi=>obtain⟨_,_,_,e⟩:=x;exact aE e
 | jd ob u=>obtain⟨e,_⟩:=x;exact aE e
 | Ha ps=>exact aE (show h.get? a=some _ from x)
 | met f y=>exact aE (show h.get? a=some _ from x)
 | ext φ=>obtain⟨_,⟨_,e⟩,_⟩:=x;exact aE e
theorem Paired.L' {α β:Type}{F G:α ->β ->Prop}: ∀ {l₁:List α} {l₂:List β},Paired F l₁ l₂ ->(∀a b,F a b ->G a b) ->Paired G l₁ l₂
 | _,_, .nil,_=> .nil
 | _,_, .cons r t,f=> .cons (f _ _ r) (Paired.L' t f)
theorem dt.p8 (x:dt P w H h a o)(k: ∀b u,(b=a \/ H b=some (.own a)) ->h.get? b=some u ->h'.get? b=some u) (ho: ∀b,H b=some (.own a) ->H' b=some (.own a)) (ht: ∀b xs,H b=some (.tup xs) ->H' b=some (.tup xs)):dt P w H' h' a o:=by
 induction o with
 | lst xs=>obtain⟨z,bD,n,r,e⟩:=x;exact⟨z,bD,n,r,k _ _ (.inl rfl) e⟩
 | tup xs=>obtain⟨z,bD,r,ob,e,c⟩:=x;exact⟨z,bD,r,ob,k _ _ (.inl rfl) e,c⟩
 | dK kvs=>obtain⟨z,y,vs,r,ob,es,ep,e,c⟩:=x;exact⟨z,y,vs,r,ob,es,ep,k _ _ (.inl rfl) e,c⟩
 | dT kvs=>obtain⟨z,y,xs,r,ob,es,ep,e,c⟩:=x;exact⟨z,y,xs,Paired.L' r λp q z=>⟨z.1,ht _ _ z.2.1,z.2.2⟩,ob,es,ep,k _ _ (.inl rfl) e,c⟩
 | set S n=>obtain⟨ob,es,ep,t,e,c⟩:=x;exact⟨ob,es,ep,t,k _ _ (.inl rfl) e,c⟩
 | ins C dx fs=>obtain⟨d,z,ne,e,mA,⟨od,es,ep,e2,c⟩,r⟩:=x;exact⟨ho _ d,z,ne,k _ _ (.inl rfl) e,mA,⟨od,es,ep,k _ _ (.inr d) e2,c⟩,r⟩
 | own y=>obtain⟨ob,e⟩:=x;exact⟨ob,k _ _ (.inl rfl) e⟩
 | xd fs=>obtain⟨mA,⟨od,es,ep,e,c⟩,r⟩:=x;exact⟨mA,⟨od,es,ep,k _ _ (.inl rfl) e,c⟩,r⟩
 | Sn lo hi=>obtain⟨t,u,v,e⟩:=x;exact⟨t,u,v,k _ _ (.inl rfl) e⟩
 | jd ob u ih=>obtain⟨e,q⟩:=x;exact⟨k _ _ (.inl rfl) e,ih q⟩
 | Ha ps=>have e:h.get? a=some {cls:= .none,data:= .fields ps}:=x;show h'.get? a=some {cls:= .none,data:= .fields ps};exact k a _ (.inl rfl) e
 | met f y=>have e:h.get? a=some (PySem.W.methodObj (.ref f) (.ref y)):=x;show h'.get? a=some (PySem.W.methodObj (.ref f) (.ref y));exact k a _ (.inl rfl) e
 | ext φ=>obtain⟨p,⟨o,e⟩,st⟩:=x;exact⟨st _ _ p λo q=>k _ _ (.inl rfl) q,⟨o,k _ _ (.inl rfl) e⟩,st⟩
theorem kA.lt (x:kA P w H h)(e:H a=some o):a<h.objs.size:=(x a o e).lt
theorem kA.fresh (x:kA P w H h)(e:h.objs.size<=a):H a=none:=by
 cases q:H a with
 | none=>rfl
 | some u=>exact absurd (bz (x.lt q) e) (Nat.lt_irrefl _)
theorem kA.kept (x:kA P w H h)(k: ∀b u,h.get? b=some u ->h'.get? b=some u):kA P w H h':=λa o e=>(x a o e).p8 (λb u _ q=>k b u q) (λ_ q=>q) λ_ _ q=>q
theorem kA.laid (x:kA P w H h)(k: ∀b u,h.get? b=some u ->h'.get? b=some u)(hp:h.objs.size<=a)(new:dt P w (cq H a o) h' a o):kA P w (cq H a o) h':=λb u e=>by have hn:=x.fresh hp;by_cases hb:b=a;subst hb;rw[bI] at e;cases e;exact new;rw[bC hb] at e;exact(x b u e).p8 (λc v _ q=>k c v q) (λc q=>by rw[bC (d0 q hn)];exact q) λc xs q=>by rw[bC (d0 q hn)];exact q
end
def Rd (H:Hp)(a:Addr)(u:HO):Prop:=H a=some u \/ ∃o,H a=some (.jd o u)
theorem Rd.ok {P:Program}{w:World}{H:Hp}{h:Heap}{a:Addr}{u:HO}(r:Rd H a u)(x:kA P w H h):dt P w H h a u:=by rcases r with r | ⟨o,r⟩;exact x a u r;obtain⟨_,q⟩:=x a _ r;exact q
def Rq:Option HO ->Prop
 | some (.lst _)=>True
 | some (.dK _)=>True
 | some (.dT _)=>True
 | some (.set _ _)=>True
 | some (.ins _ _ _)=>True
 | some (.ext _)=>True
 | _=>False
section
variable {P:Program}{w:World}{H:Hp}{h h':Heap}{x e:Addr}{o':HO}
theorem kA.write (ok:kA P w H h)(mu:Rq (H x))(he:e=x \/ H e=some (.own x))(k: ∀b u,b≠e ->h.get? b=some u ->h'.get? b=some u)(NQ: ∃u,h'.get? e=some u) (new:dt P w (cq H x o') h' x o'):kA P w (cq H x o') h':=λb u q=>by
 have PU: ∀c y,H c=some (.own y) ->c≠x:=λc y r z=>by subst z;rw[r] at mu;exact mu
 have UW: ∀c xs,H c=some (.tup xs) ->c≠x:=λc xs r z=>by subst z;rw[r] at mu;exact mu
 by_cases hb:b=x;subst hb;rw[bI] at q;cases q;exact new;rw [bC hb] at q;by_cases MM:b=e;have q':H b=some (.own x):=by rcases he with z | z;exact absurd (MM.trans z) hb;rw[MM];exact z
 rw[q] at q';cases q';obtain⟨v,hv⟩:=NQ;exact⟨v,by rw[MM];exact hv⟩;refine(ok b u q).p8 (λc v hc r=>k c v ?_ r) (λc r=>by rw[bC (PU c b r)];exact r) λc xs r=>by rw[bC (UW c xs r)];exact r
 rcases hc with rfl | hc;exact MM;rintro rfl;rcases he with z | z;exact PU c b hc z;rw[hc] at z;cases z;exact hb rfl
end
structure Un (fs ex:List Addr)(H H':Hp)(h h':Heap):Prop where
 keep: ∀b o,h.get? b=some o ->H b=none ->b∉fs ->b∉ex ->h'.get? b=some o
 slot: ∀b o,h.get? b=some o ->H b=none ->b∈fs ->b∉ex -> ∃sl,h'.get? b=some {o with slots:=sl}
 free: ∀b o,h.get? b=some o ->H b=none ->b∉ex ->H' b=none
 there: ∀b o,h.get? b=some o ->b∉ex -> ∃o',h'.get? b=some o'
 ly: ∀b xs,H b=some (.tup xs) ->H' b=some (.tup xs)
 kI: ∀b o u,H b=some (.jd o u) ->H' b=some (.jd o u)
 mX: ∀b ps,H b=some (.Ha ps) -> ∃more,H' b=some (.Ha (ps++more))
section
variable {fs fs' ex ex':List Addr}{H H1 H2:Hp}{h h1 h2 h':Heap}{a x e:Addr}{o:HO}
theorem Un.any (u:Un fs ex H H1 h h1){b:Addr}{ob:Obj}(q:h.get? b=some ob)(n:H b=none)(hx:b∉ex): ∃sl,h1.get? b=some {ob with slots:=sl}:=by by_cases hb:b∈fs;exact u.slot b ob q n hb hx;exact⟨ob.slots,u.keep b ob q n hb hx⟩
theorem Un.kept (k: ∀b u,h.get? b=some u ->h'.get? b=some u):Un fs ex H H h h':=⟨λb ob q _ _ _=>k b ob q,λb ob q _ _ _=>⟨ob.slots,k b ob q⟩,λ_ _ _ n _=>n,λb ob q _=>⟨ob,k b ob q⟩,λ_ _ q=>q,λ_ _ _ q=>q,λ_ ps q=>⟨#[],by rw[q];simp⟩⟩
theorem Un.refl:Un fs ex H H h h:=Un.kept λ_ _ q=>q
theorem Un.laid (k: ∀b u,h.get? b=some u ->h'.get? b=some u)(hp:h.objs.size<=a)(hn:H a=none):Un fs ex H (cq H a o) h h' where
 keep:=λb u q _ _ _=>k b u q
 slot:=λb u q _ _ _=>⟨u.slots,k b u q⟩
 free:=λb u q n _=>by rw[bC (bg (bz (aE q) hp))];exact n
 there:=λb u q _=>⟨u,k b u q⟩
 ly:=λb xs q=>by rw[bC (d0 q hn)];exact q
 kI:=λb u xs q=>by rw[bC (d0 q hn)];exact q
 mX:=λb ps q=>⟨#[],by rw[bC (d0 q hn),q];simp⟩
theorem Un.write (mu:Rq (H x))(he:e=x \/ H e=some (.own x))(k: ∀b u,b≠e ->h.get? b=some u ->h'.get? b=some u)(NQ: ∃u,h'.get? e=some u):Un fs ex H (cq H x o) h h':=by
 have hx: ∀b,H b=none ->b≠x:=λb n z=>by subst z;rw[n] at mu;exact mu
 have hb: ∀b,H b=none ->b≠e:=λb n z=>by subst z;rcases he with r | r;exact hx b n r;rw[n] at r;cases r
 have hm: ∀b u,H b=some u ->¬Rq (some u) ->b≠x:=λb u q nm z=>by subst z;rw[q] at mu;exact nm mu
 refine⟨λb u q n _ _=>k b u (hb b n) q,λb u q n _ _=>⟨u.slots,k b u (hb b n) q⟩,λb u q n _=>by rw[bC (hx b n)];exact n,λb u q _=> ?_,λb xs q=>by rw[bC (hm b _ q λz=>z)];exact q,λb u xs q=>by rw[bC (hm b _ q λz=>z)];exact q,λb ps q=>⟨#[],by rw[bC (hm b _ q λz=>z),q];simp⟩⟩;by_cases MM:b=e;subst MM;exact NQ;exact⟨u,k b u MM q⟩
end
def Sc (h:Heap)(H:Hp):List Addr:=(List.range h.objs.size).filter λa=>(H a).isSome
def uV (h:Heap)(H:Hp):Heap:=PySem.W.hideAll h (Sc h H)
theorem Cw (h:Heap)(H:Hp):(uV h H).objs.size=h.objs.size:=PySem.W.hideAll_size _ _
theorem Fv {h:Heap}{H:Hp}{b:Addr}{o:Obj}(e:h.get? b=some o)(n:H b=none):(uV h H).get? b=some o:=PySem.W.hideAll_get _ e λhm=>by have q:(H b).isSome=true:=(List.mem_filter.mp hm).2;rw[n] at q;simp at q
theorem HH {h:Heap}{H:Hp}{b:Addr}{o:Obj}(e:(uV h H).get? b=some o):h.get? b=some o /\ H b=none:=by
 have e':h.get? b=some o:=PySem.W.of_hideAll (Sc h H) e;refine⟨e',?_⟩;cases q:H b with
 | none=>rfl
 | some x=>have hm:b∈Sc h H:=List.mem_filter.mpr ⟨List.mem_range.mpr (aE e'),by simp[q]⟩;have z:(uV h H).get? b=none:=PySem.W.hideAll_none (Sc h H) hm;rw[z] at e;cases e
def I_ (g h:Heap)(L:Addr):List (Addr×Obj):=(List.range h.objs.size).filterMap λa=>if a=L \/ (g.get? a).isSome=true then none else(h.get? a).map λo=>(a,o)
def dh (g h:Heap)(L d:Addr):List (Addr×Obj):=(I_ g h L).filter λp=>decide (p.1≠d)
structure Mod (K:PySem.W.Frag)(mg:Str ->Option Value)(base:Heap):Prop where
 Kn:K.In base
 glob:base.Ns mainGlobals mg
 blt: ∃mb,base.Ns builtinsNs mb /\ ∀x:Str,x≠ "__name__" ->mb x=bootBuiltins x
 nolimit:base.NoLimit
structure Cx where
 prog:Program
 w:World
 K:PySem.W.Frag
 mg:Str ->Option Value
 base:Heap
 A:Around
 N:List Str
 s₀:Shared
 H₀:Hp
 env:Env
 outer:List Env
 stack:List Env
 ex:List Addr
 fn:Str ->Bool
 calm:Bool
 pn:List (Addr×Obj)
 xe:Value ->Shared ->Prop
def je (l:List Env):List Addr:=l.filterMap (·.frame)
abbrev Cx.fs (X:Cx):List Addr:=je X.outer
def Rj (sc:Scope)(x:Str):Prop:=sc.names.lookup x=some .local \/ sc.names.lookup x=some .cell \/ sc.names.lookup x=some .free
def Loc (sc:Scope)(x:Str):Prop:=sc.names.lookup x=some .local \/ sc.names.lookup x=some .cell
def Look (env:Env)(h:Heap)(m:Str ->Option Value)(x:Str)(u:Value):Prop:=(env.kindOf x=some .local /\ m x=some u) \/ ((env.kindOf x=some .cell \/ env.kindOf x=some .free) /\ ∃c,env.cells.lookup x=some c /\ h.IsCell c (some u))
structure Cx.Ok (X:Cx):Prop where
 mod:Mod X.K X.mg X.base
 kind:X.env.scope.kind= .function
 glob:X.env.globals=mainGlobals
 blt:X.env.builtins=builtinsNs
 above:X.s₀.heap.objs.size<=X.env.locals
 inj: ∀x y c,X.env.cells.lookup x=some c ->X.env.cells.lookup y=some c ->x=y
 has: ∀x,(X.env.kindOf x=some .cell \/ X.env.kindOf x=some .free) -> ∃c,X.env.cells.lookup x=some c
 NV: ∀x c,X.fn x=true ->X.env.cells.lookup x=some c ->X.s₀.heap.objs.size<=c
 hd:X.calm=true ->X.A.handled=none
 frames:X.A.frames=some X.stack
 Lm:X.stack=X.outer \/ (X.stack=X.env::X.outer /\ X.env.frame=some X.env.locals)
 exf: ∀b∈X.ex,b≠X.env.locals /\ ∀x c,X.env.cells.lookup x=some c ->c≠b
 bs: ∀b o,X.base.get? b=some o ->X.s₀.heap.get? b=some o /\ X.H₀ b=none
 Gc:X.base.objs.size<=X.s₀.heap.objs.size
 Ca: ∀b o,X.base.get? b=some o ->b∉X.ex
 zh: ∀b∈X.ex,b∉X.fs
 ll:X.s₀.heap.FunFrames X.base X.outer
 GX: ∀b∈X.fs,X.H₀ b=none
structure Inv (X:Cx)(ae:List (Addr×Obj))(σ:List (Option V))(H:Hp)(s:Shared):Prop where
 ok:X.Ok
 os:s.os=X.s₀.os
 bare:AllBare s.gens
 base:Un X.fs X.ex X.H₀ H X.s₀.heap s.heap
 loc: ∃m,s.heap.Ns X.env.locals m /\ ∀ (i:Nat) (x:Str) (v:V),X.N[i]? =some x ->σ[i]? =some (some v) ->Rj X.env.scope x -> ∃u,RelV v u /\ Look X.env s.heap m x u
 cell: ∀x c,X.env.cells.lookup x=some c -> ∃v,s.heap.IsCell c v
 free:H X.env.locals=none
 fB: ∀x c,X.env.cells.lookup x=some c ->H c=none
 pin: ∀p∈X.pn++ae,s.heap.get? p.1=some p.2 /\ H p.1=none /\ p.1≠X.env.locals /\ p.1∉X.fs /\ ∀v,p.2.data≠ .cell v
 cF:kA X.prog X.w H s.heap
 len:σ.length=X.N.length
section
variable {X:Cx}{ae:List (Addr×Obj)}{σ:List (Option V)}{H H':Hp}{s:Shared}{h':Heap}
theorem Cx.Ok.UZ (ok:X.Ok){b:Addr}{o:Obj}(e:X.base.get? b=some o):b∉X.fs:=λhb=>by have:=(ok.ll.mem hb).1;rw[e] at this;cases this
theorem Inv.bs (I:Inv X ae σ H s): ∀b o,X.base.get? b=some o ->s.heap.get? b=some o /\ H b=none:=λb o e=>⟨I.base.keep b o (I.ok.bs b o e).1 (I.ok.bs b o e).2 (I.ok.UZ e) (I.ok.Ca b o e),I.base.free b o (I.ok.bs b o e).1 (I.ok.bs b o e).2 (I.ok.Ca b o e)⟩
theorem Inv.bk (I:Inv X ae σ H s): ∀b o,X.base.get? b=some o ->s.heap.get? b=some o:=λb o e=>(I.bs b o e).1
theorem Inv.mod (I:Inv X ae σ H s):Mod X.K X.mg X.base:=I.ok.mod
theorem Inv.kT (I:Inv X ae σ H s):X.K.In s.heap:=I.ok.mod.Kn.keeps I.bk
theorem Inv.fr (I:Inv X ae σ H s): ∃m,Fr X.base X.env.locals s.heap m:=
 let ⟨m,hn,_⟩:=I.loc
 ⟨m,hn,I.bk,av I.ok.Gc I.ok.above⟩
theorem Inv.lt (I:Inv X ae σ H s):X.env.locals<s.heap.objs.size:=let ⟨_,hn,_⟩:=I.loc;hn.lt
theorem Inv.sz (I:Inv X ae σ H s):X.s₀.heap.objs.size<=s.heap.objs.size:=av I.ok.above (Nat.le_of_lt I.lt)
theorem Inv.UY (I:Inv X ae σ H s){a:Addr}(h:s.heap.objs.size<=a):a∉X.fs:=λhb=>by obtain⟨_,o,ho,_⟩:=I.ok.ll.mem hb;exact absurd (bz (aE ho) (av I.sz h)) (Nat.lt_irrefl _)
theorem Inv.Nb (I:Inv X ae σ H s): ∀x c,X.env.cells.lookup x=some c ->c≠X.env.locals:=λx c e z=>by obtain⟨v,o,ho,hd⟩:=I.cell x c e;obtain⟨m,⟨o',es,ep,pK,QK,_⟩,_⟩:=I.loc;rw[z,pK] at ho;cases ho;rw[QK] at hd;cases hd
theorem Inv.ll (I:Inv X ae σ H s):s.heap.FunFrames X.base X.outer:=by
 have all: ∀ (l:List Env),(∀b∈je l,b∈X.fs) ->X.s₀.heap.FunFrames X.base l ->s.heap.FunFrames X.base l:=by
  intro l;induction l with
  | nil=>intro _ _;trivial
  | cons env r ih=>intro hs hl;obtain⟨hk,⟨L,o,hf,hn,ho,hd⟩,hr⟩:=hl;have hL:L∈X.fs:=hs L (by unfold je;rw[List.filterMap_cons,hf];exact List.mem_cons_self);obtain⟨sl,e⟩:=I.base.slot L o ho (I.ok.GX L hL) hL λz=>I.ok.zh L z hL;exact⟨hk,⟨L,_,hf,hn,e,hd⟩,ih (λb hb=>hs b (by unfold je;rw[List.filterMap_cons,hf];exact cP _ hb)) hr⟩
 exact all X.outer (λ_ hb=>hb) I.ok.ll
theorem Inv.stack (I:Inv X ae σ H s):s.heap.FunFrames X.base X.stack:=by rcases I.ok.Lm with e | ⟨e,hf⟩;rw[e];exact I.ll;rw[e];obtain⟨m,hn,_⟩:=I.loc;refine .cons (by rw[I.ok.kind];decide) hf hn ?_ I.ll;exact Heap.get?_none_of_le (av I.ok.Gc I.ok.above)
theorem Inv.uf (I:Inv X ae σ H s): ∀b∈je X.stack,b∈X.env.locals::X.fs:=λb hb=>by rcases I.ok.Lm with e | ⟨e,hf⟩;rw[e] at hb;exact cP _ hb;rw[e] at hb;unfold je at hb;rw[List.filterMap_cons,hf] at hb;exact hb
theorem Inv.pC (I:Inv X ae σ H s): ∀b∈je X.stack,H b=none:=λb hb=>by rcases aS.mp (I.uf b hb) with e | hb;rw[e];exact I.free;obtain⟨_,o,ho,_⟩:=I.ok.ll.mem hb;exact I.base.free b o ho (I.ok.GX b hb) λz=>I.ok.zh b z hb
theorem Inv.step {g':Array GenState}{t':Nat}{d':Drawn}{ch:List Addr}(I:Inv X ae σ H s) (GW: ∀b∈ch,(b∈X.ex \/ X.s₀.heap.objs.size<=b) /\ b≠X.env.locals /\ (∀x c,X.env.cells.lookup x=some c ->c≠b) /\ ∀p∈X.pn++ae,p.1≠b) (keep: ∀b o,b≠X.env.locals ->b∉X.fs ->b∉ch ->s.heap.get? b=some o ->H b=none ->h'.get? b=some o) (slot: ∀b o,b≠X.env.locals ->b∈X.fs ->b∉ch ->s.heap.get? b=some o ->H b=none -> ∃sl,h'.get? b=some {o with slots:=sl}) (free: ∀b o,b∉ch ->s.heap.get? b=some o ->H b=none ->H' b=none) (there: ∀b o,b∉ch ->s.heap.get? b=some o -> ∃o',h'.get? b=some o') (ly: ∀b xs,H b=some (.tup xs) ->H' b=some (.tup xs)) (kI: ∀b o u,H b=some (.jd o u) ->H' b=some (.jd o u)) (mX: ∀b ps,H b=some (.Ha ps) -> ∃more,H' b=some (.Ha (ps++more))) (ns: ∀m,s.heap.Ns X.env.locals m ->h'.Ns X.env.locals m) (cF:kA X.prog X.w H' h') (hg:AllBare g'): Inv X ae σ H' {s with heap:=h',gens:=g',drawn:=d',toks:=t'}:=by
 have neL: ∀b o,X.s₀.heap.get? b=some o ->b≠X.env.locals:=λb o e=>bg (bz (aE e) I.ok.above);have SA: ∀b o,X.s₀.heap.get? b=some o ->b∉X.ex ->b∉ch:=λb o e hx hb=>by rcases (GW b hb).1 with z | z;exact hx z;exact absurd (bz (aE e) z) (Nat.lt_irrefl _)
 have cellK: ∀x c,X.env.cells.lookup x=some c -> ∀v,s.heap.IsCell c v ->h'.IsCell c v:=λx c e v ⟨o,ho,hd⟩=>by have PY:c∉ch:=λz=>(GW c z).2.2.1 x c e rfl;by_cases hc:c∈X.fs;obtain⟨sl,q⟩:=slot c o (I.Nb x c e) hc PY ho (I.fB x c e);exact⟨_,q,hd⟩;exact⟨o,keep c o (I.Nb x c e) hc PY ho (I.fB x c e),hd⟩
 refine⟨I.ok,I.os,hg,⟨λb o e n hb hx=> ?_,λb o e n hb hx=> ?_,λb o e n hx=> ?_,λb o e hx=> ?_,λb xs e=>ly b xs (I.base.ly b xs e),λb o xs e=>kI b o xs (I.base.kI b o xs e),λb ps e=> ?_⟩,?_,λx c e=> ?_,?_,λx c e=> ?_,λp hp=> ?_,cF,I.len⟩;exact keep b o (neL b o e) hb (SA b o e hx) (I.base.keep b o e n hb hx) (I.base.free b o e n hx);obtain⟨sl,e1⟩:=I.base.slot b o e n hb hx;obtain⟨sl',e2⟩:=slot b _ (neL b o e) hb (SA b o e hx) e1 (I.base.free b o e n hx);exact⟨sl',e2⟩;obtain⟨o',e1⟩:=I.base.there b o e hx;exact free b o' (SA b o e hx) e1 (I.base.free b o e n hx);obtain⟨o',e1⟩:=I.base.there b o e hx;exact there b o' (SA b o e hx) e1;obtain⟨m1,e1⟩:=I.base.mX b ps e;obtain⟨m2,e2⟩:=mX b _ e1;exact⟨m1++m2,by rw[e2,Array.append_assoc]⟩;obtain⟨m,hn,hl⟩:=I.loc;refine⟨m,ns m hn,λi x v e1 e2 e3=> ?_⟩;obtain⟨u,r,l⟩:=hl i x v e1 e2 e3;refine⟨u,r,?_⟩;rcases l with l | ⟨k,c,e,z⟩;exact .inl l;exact .inr ⟨k,c,e,cellK x c e _ z⟩;obtain⟨v,z⟩:=I.cell x c e;exact⟨v,cellK x c e v z⟩;obtain⟨m,⟨o,_,_,ho,_⟩,_⟩:=I.loc;exact free _ o (λz=>(GW _ z).2.1 rfl) ho I.free;obtain⟨v,o,ho,hd⟩:=I.cell x c e;exact free c o (λz=>(GW c z).2.2.1 x c e rfl) ho (I.fB x c e);obtain⟨e,n,ne,nf,d⟩:=I.pin p hp;have PY:p.1∉ch:=λz=>(GW p.1 z).2.2.2 p hp rfl;exact⟨keep p.1 p.2 ne nf PY e n,free p.1 p.2 PY e n,ne,nf,d⟩
theorem Inv.un {t':Nat}(I:Inv X ae σ H s)(u:Un X.fs [] H H' s.heap h')(cF:kA X.prog X.w H' h'):Inv X ae σ H' {s with heap:=h',toks:=t'}:=by obtain⟨m,⟨o,es,ep,ho,r⟩,_⟩:=id I.loc;obtain⟨sl,hL⟩:=u.any ho I.free (by simp);exact I.step (g':=s.gens) (d':=s.drawn) (ch:= []) (λ_ z=>nomatch z) (λb o _ hb _ e n=>u.keep b o e n hb (by simp)) (λb o _ hb _ e n=>u.slot b o e n hb (by simp)) (λb o _ e n=>u.free b o e n (by simp)) (λb o _ e=>u.there b o e (by simp)) u.ly u.kI u.mX (λm' hm=>by obtain⟨o',S6,S8,pK,r'⟩:=hm;rw[ho] at pK;cases pK;exact⟨_,S6,S8,hL,r'⟩) cF I.bare
theorem Inv.call {g':Array GenState}{t':Nat}{d':Drawn}{ch:List Addr}(I:Inv X ae σ H s)(u:Un (je X.stack) ch H H' s.heap h')(cF:kA X.prog X.w H' h')(hg:AllBare g') (GW: ∀b∈ch,(b∈X.ex \/ X.s₀.heap.objs.size<=b) /\ b≠X.env.locals /\ (∀x c,X.env.cells.lookup x=some c ->c≠b) /\ ∀p∈X.pn++ae,p.1≠b): Inv X ae σ H' {s with heap:=h',gens:=g',drawn:=d',toks:=t'}:=by obtain⟨m,⟨o,es,ep,ho,r⟩,_⟩:=id I.loc;obtain⟨sl,hL⟩:=u.any ho I.free λz=>(GW _ z).2.1 rfl;exact I.step (ch:=ch) GW (λb o hL hb hc e n=>u.keep b o e n (λz=>(aS.mp (I.uf b z)).elim hL hb) hc) (λb o _ _ hc e n=>u.any e n hc) (λb o hc e n=>u.free b o e n hc) (λb o hc e=>u.there b o e hc) u.ly u.kI u.mX (λm' hm=>by obtain⟨o',S6,S8,pK,r'⟩:=hm;rw[ho] at pK;cases pK;exact⟨_,S6,S8,hL,r'⟩) cF hg
theorem Inv.turned {t':Nat}{it:Addr}(I:Inv X ae σ H s)(k: ∀b o,b≠it ->s.heap.get? b=some o ->h'.get? b=some o)(hn:H it=none)(hL:it≠X.env.locals) (h1:it∈X.ex \/ X.s₀.heap.objs.size<=it) (h2: ∀x c,X.env.cells.lookup x=some c ->c≠it) (h3: ∀p∈X.pn++ae,p.1≠it):Inv X ae σ H {s with heap:=h',toks:=t'}:=by
 have nit: ∀b u,H b=some u ->b≠it:=λb u e z=>by rw[z,hn] at e;cases e
 refine I.step (g':=s.gens) (d':=s.drawn) (ch:= [it]) (λb hb=> ?_) (λb o _ _ hc e _=>k b o (λz=>hc (by simp[z])) e) (λb o _ _ hc e _=>⟨o.slots,k b o (λz=>hc (by simp[z])) e⟩) (λ_ _ _ _ n=>n) (λb o hc e=>⟨o,k b o (λz=>hc (by simp[z])) e⟩) (λ_ _ e=>e) (λ_ _ _ e=>e) (λb ps e=>⟨#[],by rw[e];simp⟩) (λm hm=> ?_) (λb u e=> ?_) I.bare;have e:b=it:=by simpa using hb
 subst e;exact⟨h1,hL,h2,h3⟩;obtain⟨o,es,ep,ho,r⟩:=hm;exact⟨o,es,ep,k _ o (cV hL) ho,r⟩;refine(I.cF b u e).p8 (λc v hc q=>k c v ?_ q) (λ_ q=>q) λ_ _ q=>q;rcases hc with z | z;rw[z];exact nit b u e;exact nit c _ z
theorem Inv.tok (I:Inv X ae σ H s)(t:Nat):Inv X ae σ H {s with toks:=t}:=I.un (h':=s.heap) (t':=t) Un.refl I.cF
theorem Inv.kept {t':Nat}(I:Inv X ae σ H s)(k: ∀b u,s.heap.get? b=some u ->h'.get? b=some u):Inv X ae σ H {s with heap:=h',toks:=t'}:=I.un (Un.kept k) (I.cF.kept k)
theorem Inv.laid {a:Addr}{o:HO}{t':Nat}(I:Inv X ae σ H s)(k: ∀b u,s.heap.get? b=some u ->h'.get? b=some u)(hp:s.heap.objs.size<=a)(new:dt X.prog X.w (cq H a o) h' a o): Inv X ae σ (cq H a o) {s with heap:=h',toks:=t'}:=I.un (Un.laid k hp (I.cF.fresh hp)) (I.cF.laid k hp new)
theorem Inv.write {x e:Addr}{o:HO}{t':Nat}(I:Inv X ae σ H s)(mu:Rq (H x))(he:e=x \/ H e=some (.own x))(k: ∀b u,b≠e ->s.heap.get? b=some u ->h'.get? b=some u)(NQ: ∃u,h'.get? e=some u) (new:dt X.prog X.w (cq H x o) h' x o):Inv X ae σ (cq H x o) {s with heap:=h',toks:=t'}:=I.un (Un.write mu he k NQ) (I.cF.write mu he k NQ new)
theorem Inv.weak {σ':List (Option V)}(I:Inv X ae σ H s)(hl:σ'.length=σ.length)(w: ∀ (i:Nat) v,σ'[i]? =some (some v) ->σ[i]? =some (some v)):Inv X ae σ' H s:=⟨I.ok,I.os,I.bare,I.base,let ⟨m,hn,oq⟩:=I.loc;⟨m,hn,λi x v e1 e2 e3=>oq i x v e1 (w i v e2) e3⟩,I.cell,I.free,I.fB,I.pin,I.cF,hl.trans I.len⟩
theorem Inv.Ao {Ap:List (Addr×Obj)}(I:Inv X ae σ H s)(h: ∀p∈Ap,s.heap.get? p.1=some p.2 /\ H p.1=none /\ p.1≠X.env.locals /\ p.1∉X.fs /\ ∀v,p.2.data≠ .cell v):Inv X Ap σ H s:=⟨I.ok,I.os,I.bare,I.base,I.loc,I.cell,I.free,I.fB,λp hp=>(a_.mp hp).elim (λz=>I.pin p (List.mem_append_left _ z)) (h p),I.cF,I.len⟩
theorem wB {N:List Str}(hN:N.Nodup){i j:Nat}{x:Str}(a:N[i]? =some x)(b:N[j]? =some x):i=j:=by obtain⟨h1,e1⟩:=a5.mp a;obtain⟨h2,e2⟩:=a5.mp b;exact(List.getElem_inj hN).mp (e1.trans e2.symm)
theorem sH {M:Model}{A:Around}{E:Value ->Shared ->Prop}{i:Nat}{x:Str}{v:V}{u:Value}{Q:Unit ->Shared ->Prop}(I:Inv X ae σ H s)(hN:X.N.Nodup)(hi:X.N[i]? =some x)(hx:Loc X.env.scope x)(r:RelV v u) (h: ∀s',Inv X ae (σ.set i (some v)) H s' ->(∃a,Heap.SameBut a s.heap s'.heap /\ (a=X.env.locals \/ X.env.cells.lookup x=some a)) ->Q () s') (hf:X.fn x=true \/ X.env.scope.names.lookup x=some .local:=by first | exact .inl rfl | exact .inr rfl | assumption):wpAny M A (storeName X.env x u) Q E s:=by
 obtain⟨m,hn,hl⟩:=id I.loc;have V0:(X.env.scope.kind== .class || (X.env.scope.kind== .module && X.env.locals !=X.env.globals))=false:=by rw[I.ok.kind];rfl
 have hiσ:i<σ.length:=by rw[I.len];exact(a5.mp hi).1
 have Nb:=I.Nb;have tracked: ∀ {a:Addr} {h':Heap},(∃o,s.heap.get? a=some o /\ H a=none) ->Heap.SameBut a s.heap h' ->kA X.prog X.w H h':=λ{a h'} ha hs b ob e=>by obtain⟨_,_,Kw⟩:=ha;refine(I.cF b ob e).p8 (λc w' hc q=>(hs.2 c ?_).trans q) (λ_ q=>q) λ_ _ q=>q;rintro rfl;rcases hc with rfl | hc;rw[Kw] at e;cases e;rw[Kw] at hc;cases hc
 rcases hx with hk | hk;refine wpAny_storeName_local hk hn (λh' MB hs=> ?_) V0;obtain⟨oL,_,_,hoL,_⟩:=id hn;refine h _ ⟨I.ok,I.os,I.bare,⟨λb o e n hb hx=> ?_,λb o e n hb hx=> ?_,I.base.free,λb o e hx=> ?_,I.base.ly,I.base.kI,I.base.mX⟩,⟨_,MB,λj y v' e1 e2 e3=> ?_⟩,λy c e=> ?_,I.free,I.fB,λp hp=> ?_,tracked ⟨oL,hoL,I.free⟩ hs, ⇑I.len⟩ ⟨_,hs, .inl rfl⟩;exact(hs.2 b (bg (bz (aE e) I.ok.above))).trans (I.base.keep b o e n hb hx);obtain⟨sl,e1⟩:=I.base.slot b o e n hb hx;exact⟨sl,(hs.2 b (bg (bz (aE e) I.ok.above))).trans e1⟩;obtain⟨o',e1⟩:=I.base.there b o e hx;exact⟨o',(hs.2 b (bg (bz (aE e) I.ok.above))).trans e1⟩;by_cases hj:j=i;subst hj;rw[hi] at e1;cases e1;rw[List.getElem?_set_self hiσ] at e2;cases e2;exact⟨u,r, .inl ⟨hk,by simp⟩⟩;rw[List.getElem?_set_ne (cV hj)] at e2;obtain⟨u',r',q⟩:=hl j y v' e1 e2 e3;refine⟨u',r',?_⟩;rcases q with⟨k,e⟩ | ⟨k,c,e,z⟩
 refine .inl ⟨k,?_⟩;have:y≠x:=λe=>hj (wB hN e1 (e▸hi));simp[this,e];exact .inr ⟨k,c,e,z.sameBut hs (Nb y c e)⟩;obtain⟨w',z⟩:=I.cell y c e;exact⟨w',z.sameBut hs (Nb y c e)⟩;obtain⟨e,n,ne,nf,d⟩:=I.pin p hp;exact⟨(hs.2 p.1 ne).trans e,n,ne,nf,d⟩;have VW:X.fn x=true:=by rcases hf with z | z;exact z;rw[z] at hk;cases hk
 obtain⟨c,hc⟩:=I.ok.has x (.inl hk);obtain⟨w',z⟩:=I.cell x c hc;refine wpAny_storeName_cell I.ok.kind hk hc z (λh' ML hs=> ?_);obtain⟨oc,hoc,VD⟩:=id z;refine h {s with heap:=h'} ⟨I.ok,I.os,I.bare,⟨λb o e n hb hx=> ?_,λb o e n hb hx=> ?_,I.base.free,λb o e hx=> ?_,I.base.ly,I.base.kI,I.base.mX⟩,⟨m,hn.sameBut hs (cV (Nb x c hc)),λj y v' e1 e2 e3=> ?_⟩,λy c' e=> ?_,I.free,I.fB,λp hp=> ?_,tracked ⟨oc,hoc,I.fB x c hc⟩ hs, ⇑I.len⟩ ⟨c,hs, .inr hc⟩;exact(hs.2 b (bg (bz (aE e) (I.ok.NV x c VW hc)))).trans (I.base.keep b o e n hb hx);obtain⟨sl,e1⟩:=I.base.slot b o e n hb hx;exact⟨sl,(hs.2 b (bg (bz (aE e) (I.ok.NV x c VW hc)))).trans e1⟩;obtain⟨o',e1⟩:=I.base.there b o e hx;exact⟨o',(hs.2 b (bg (bz (aE e) (I.ok.NV x c VW hc)))).trans e1⟩;by_cases hj:j=i;subst hj;rw[hi] at e1;cases e1;rw[List.getElem?_set_self hiσ] at e2;cases e2;exact⟨u,r, .inr ⟨.inl hk,c,hc,ML⟩⟩;rw[List.getElem?_set_ne (cV hj)] at e2;obtain⟨u',r',q⟩:=hl j y v' e1 e2 e3;refine⟨u',r',?_⟩;rcases q with q | ⟨k,c',e,z'⟩;exact .inl q;refine .inr ⟨k,c',e,z'.sameBut hs ?_⟩;rintro rfl;exact hj (wB hN e1 (I.ok.inj _ _ _ e hc▸hi));by_cases hcc:c'=c;subst hcc;exact⟨_,ML⟩;obtain⟨w2,z2⟩:=I.cell y c' e;exact⟨w2,z2.sameBut hs hcc⟩;obtain⟨e,n,ne,nf,d⟩:=I.pin p hp;refine⟨(hs.2 p.1 ?_).trans e,n,ne,nf,d⟩;intro q;rw[q,hoc] at e;have q':oc=p.2:=a8 e;exact d w' (by rw[<- q'];exact VD)
theorem lA {M:Model}{A:Around}{E:Value ->Shared ->Prop}{i:Nat}{x:Str}{v:V}{u:Value}{Q:Unit ->Shared ->Prop}(I:Inv X ae σ H s)(hN:X.N.Nodup)(hi:X.N[i]? =some x)(hx:Loc X.env.scope x)(r:RelV v u) (h: ∀s',Inv X ae (σ.set i (some v)) H s' ->Q () s') (hf:X.fn x=true \/ X.env.scope.names.lookup x=some .local:=by first | exact .inl rfl | exact .inr rfl | assumption):wpAny M A (storeName X.env x u) Q E s:=sH I hN hi hx r (λs' I' _=>h s' I') hf
theorem Inv.Gb {s':Shared}{ch:List Addr}(I:Inv X ae σ H s)(ho:s'.os=s.os)(u:Un (je X.stack) ch H H' s.heap s'.heap)(cF:kA X.prog X.w H' s'.heap)(hg:AllBare s'.gens) (GW: ∀b∈ch,(b∈X.ex \/ X.s₀.heap.objs.size<=b) /\ b≠X.env.locals /\ (∀x c,X.env.cells.lookup x=some c ->c≠b) /\ ∀p∈X.pn++ae,p.1≠b):Inv X ae σ H' s':=by obtain⟨h',g',d',t',o'⟩:=s';have e:o'=s.os:=ho;subst e;exact I.call (g':=g') (t':=t') (d':=d') u cF hg GW
end
abbrev XK:=Value ->Option Addr ->Hp ->Prop
abbrev St:=List (Option V)
abbrev VK:=V ->Hp ->Prop
abbrev TE:=St ->Hp ->VK ->Prop
abbrev TT:=St ->Hp ->(Bool ->Hp ->Prop) ->Prop
abbrev TA:=St ->Hp ->(List V ->Hp ->Prop) ->Prop
structure rA where
 nx:St ->Hp ->Prop
 rt:VK
 bk:St ->Hp ->Prop:=λ_ _=>False
 ct:St ->Hp ->Prop:=λ_ _=>False
abbrev TS:=rA ->St ->Hp ->Prop
def EP (X:Cx)(ae:List (Addr×Obj))(σ:St)(Q:VK)(u:Value)(s':Shared):Prop:=ca λv H'=>cM (Inv X ae σ H' s') (RelV v u) (Q v H')
def TP (X:Cx)(ae:List (Addr×Obj))(σ:St)(Q:Bool ->Hp ->Prop)(b:Bool)(s':Shared):Prop:= ∃H',Inv X ae σ H' s' /\ Q b H'
def AP (X:Cx)(ae:List (Addr×Obj))(σ:St)(Q:List V ->Hp ->Prop)(us:List Value)(s':Shared):Prop:=ca λvs H'=>cM (Inv X ae σ H' s') (bY vs us) (Q vs H')
def SP (X:Cx)(ae:List (Addr×Obj))(D:rA)(f:Flow)(s':Shared):Prop:=
 match f with
 | .next=>ca λσ' H'=>Inv X ae σ' H' s' /\ D.nx σ' H'
 | .brk=>ca λσ' H'=>Inv X ae σ' H' s' /\ D.bk σ' H'
 | .cont=>ca λσ' H'=>Inv X ae σ' H' s' /\ D.ct σ' H'
 | .ret u=>dH λv σ' H'=>cM (Inv X ae σ' H' s') (RelV v u) (D.rt v H')
def PE (X:Cx)(e:Expr)(t:TE):Prop:=∀ (ae:List (Addr×Obj)) (s:Shared) (σ:St) (H:Hp) (Q:VK),Inv X ae σ H s ->t σ H Q ->wpAny (model X.prog X.w) X.A (eval e X.env) (EP X ae σ Q) X.xe s
def PT (X:Cx)(e:Expr)(t:TT):Prop:=∀ (ae:List (Addr×Obj)) (s:Shared) (σ:St) (H:Hp) (Q:Bool ->Hp ->Prop),Inv X ae σ H s ->t σ H Q ->wpAny (model X.prog X.w) X.A (isTrue e X.env (eval e X.env)) (TP X ae σ Q) X.xe s
def PW (X:Cx)(e:Expr)(t:TT):Prop:=∀ (zL:Sem Value) (ae:List (Addr×Obj)) (s:Shared) (σ:St) (H:Hp) (Q:Bool ->Hp ->Prop),Inv X ae σ H s ->t σ H Q ->wpAny (model X.prog X.w) X.A (isTrue e X.env zL) (TP X ae σ Q) X.xe s
theorem PW.pt {X:Cx}{e:Expr}{t:TT}(h:PW X e t):PT X e t:=h _
def PA (X:Cx)(es:List Expr)(t:TA):Prop:=∀ (pos:Pos) (ae:List (Addr×Obj)) (s:Shared) (σ:St) (H:Hp) (Q:List V ->Hp ->Prop),Inv X ae σ H s ->t σ H Q ->wpAny (model X.prog X.w) X.A (spliced (backTo pos (starEach es X.env))) (AP X ae σ Q) X.xe s
def PS (X:Cx)(st:Stmt)(t:TS):Prop:=∀ (ae:List (Addr×Obj)) (s:Shared) (σ:St) (H:Hp) (D:rA),Inv X ae σ H s ->t D σ H ->wpAny (model X.prog X.w) X.A (exec st X.env) (SP X ae D) X.xe s
def vw (X:Cx)(st:List Stmt)(t:TS):Prop:=∀ (ae:List (Addr×Obj)) (s:Shared) (σ:St) (H:Hp) (D:rA),Inv X ae σ H s ->t D σ H ->wpAny (model X.prog X.w) X.A (execs st X.env) (SP X ae D) X.xe s
theorem cz {α:Type}{t:Sem α}{Q Q':α ->Shared ->Prop}{M:Model}{A:Around}{E:Value ->Shared ->Prop}{s:Shared}(h:wpAny M A t Q E s)(hQ: ∀a s,Q a s ->Q' a s):wpAny M A t Q' E s:=bp h hQ λ_ _ x=>x
section
variable {X:Cx}
theorem bin {a b:Expr}{ta tb:TE}(ha:PE X a ta)(hb:PE X b tb){ae:List (Addr×Obj)}{s:Shared}{σ:St}{H:Hp}{R:V ->V ->Hp ->Prop}(I:Inv X ae σ H s)(h:ta σ H λx H1=>tb σ H1 λy H2=>R x y H2) {α:Type} {Q:α ->Shared ->Prop} {f:Value ->Value ->Sem α} (hf: ∀v u s2 x y H2,Inv X ae σ H2 s2 ->RelV x v ->RelV y u ->R x y H2 ->wpAny (model X.prog X.w) X.A (f v u) Q X.xe s2): wpAny (model X.prog X.w) X.A (eval a X.env) (λv s₁=>wpAny (model X.prog X.w) X.A (eval b X.env) (λu s₂=>wpAny (model X.prog X.w) X.A (f v u) Q X.xe s₂) X.xe s₁) X.xe s:=by refine cz (ha ae s σ H _ I h) λv s1 ⟨x,H1,I1,r1,q1⟩=> ?_;refine cz (hb ae s1 σ H1 _ I1 q1) λu s2 ⟨y,H2,I2,r2,q2⟩=> ?_;exact hf v u s2 x y H2 I2 r1 r2 q2
def Hb (i:Nat):TE:=λσ H Q=> ∃v,σ[i]? =some (some v) /\ Q v H
def tC (v:V):TE:=λ_ H Q=>Q v H
theorem LD {i:Nat}{x:Str}{pos:Pos}(hN:X.N[i]? =some x)(hv:Rj X.env.scope x)(hd:(x==("__debug__" :Str))=false:=by decide)(AX:(x==("__classdict__" :Str))=false:=by decide):PE X (.Name x pos) (Hb i):=by
 intro ae s σ H Q I h;obtain⟨v,e,h⟩:=h;obtain⟨m,hn,hl⟩:=I.loc;obtain⟨u,r,l⟩:=hl i x v hN e hv;have fin:EP X ae σ Q u s:=⟨v,H,I,r,h⟩
 rcases l with⟨hk,hm⟩ | ⟨hk,c,hc,AW⟩
 exact wpAny_Name (wpAny_loadName_local I.ok.kind hk hn hm fin) hd;rcases hk with hk | hk;exact wpAny_Name (wpAny_loadName_cell I.ok.kind hk hc AW fin) hd;exact wpAny_Name (wpAny_loadName_free I.ok.kind hk hc AW fin AX) hd
theorem ah {i j pos}:PE X (.Constant (.int i) j pos) (tC (.int i)):=λ_ _ _ H _ I h=>wpAny_Constant_int ⟨.int i,H,I.tok _,⟨_,rfl⟩,h⟩
theorem fP {b j pos}:PE X (.Constant (.bool b) j pos) (tC (.bl b)):=λ_ _ _ H _ I h=>Constant_bool ⟨.bl b,H,I,rfl,h⟩
theorem Ez {j pos}:PE X (.Constant .none j pos) (tC .dC):=λ_ _ _ H _ I h=>Constant_none ⟨.dC,H,I,rfl,h⟩
theorem aP {x j pos}:PE X (.Constant (.str x) j pos) (tC (.str x)):=λ_ _ _ H _ I h=>Calls.Constant_str ⟨.str x,H,I.tok _,⟨_,rfl⟩,h⟩
def Gl (X:Cx)(x:Str):Prop:=X.env.kindOf x=some .globalImplicit
theorem lW {E:Value ->Shared ->Prop}{ae:List (Addr×Obj)}{s:Shared}{σ:St}{H:Hp}{x:Str}{u:Value}{pos:Pos}{Q:Value ->Shared ->Prop}(I:Inv X ae σ H s)(hg:Gl X x)(hm:X.mg x=some u)(h:Q u s) (hd:(x==("__debug__" :Str))=false:=by decide):wpAny (model X.prog X.w) X.A (eval (.Name x pos) X.env) Q E s:=Calls.Name_function_global I.ok.kind hg (Calls.loadGlobal_global (by rw[I.ok.glob];exact I.mod.glob.keeps I.bk) hm h) hd
theorem uS {E:Value ->Shared ->Prop}{ae:List (Addr×Obj)}{s:Shared}{σ:St}{H:Hp}{x:Str}{u:Value}{pos:Pos}{Q:Value ->Shared ->Prop}(I:Inv X ae σ H s)(hg:Gl X x)(hm:X.mg x=none)(hv:bootBuiltins x=some u)(h:Q u s) (hn:x≠ "__name__" :=by decide) (hd:(x==("__debug__" :Str))=false:=by decide):wpAny (model X.prog X.w) X.A (eval (.Name x pos) X.env) Q E s:=by obtain⟨mb,h1,h2⟩:=I.mod.blt;exact Calls.Name_function_global I.ok.kind hg (Calls.loadGlobal_builtin (by rw[I.ok.glob];exact I.mod.glob.keeps I.bk) hm (by rw[I.ok.blt];exact h1.keeps I.bk) ((h2 x hn).trans hv) h) hd
theorem fU {x:Str}{v:V}{u:Value}{pos:Pos}(hg:Gl X x)(hm:X.mg x=some u)(r:RelV v u)(hd:(x==("__debug__" :Str))=false:=by decide):PE X (.Name x pos) (tC v):=λ_ _ _ H _ I h=>lW I hg hm ⟨v,H,I,r,h⟩ hd
theorem fV {x:Str}{v:V}{u:Value}{pos:Pos}(hg:Gl X x)(hm:X.mg x=none)(hv:bootBuiltins x=some u)(r:RelV v u)(hn:x≠ "__name__" :=by decide)(hd:(x==("__debug__" :Str))=false:=by decide):PE X (.Name x pos) (tC v):=λ_ _ _ H _ I h=>uS I hg hm hv ⟨v,H,I,r,h⟩ hn hd
variable {a b:Expr}{ta tb:TE}{pos:Pos}
def PC (X:Cx)(op:CmpOp)(a b:Expr)(t:TE):Prop:=∀ (ae:List (Addr×Obj)) (s:Shared) (σ:St) (H:Hp) (Q:VK),Inv X ae σ H s ->t σ H Q ->wpAny (model X.prog X.w) X.A (eval a X.env) (λv s₁=>wpAny (model X.prog X.w) X.A (eval b X.env) (λu s₂=>wpAny (model X.prog X.w) X.A (compareOp op v u) (EP X ae σ Q) X.xe s₂) X.xe s₁) X.xe s
theorem wD (b:Expr){op:CmpOp}(h:op≠ .In)(h2:op≠ .NotIn):behindInMarks op b=false:=by
 have e1:(op==CmpOp.In)=false:=by cases op<;>first | rfl | exact absurd rfl h
 have e2:(op==CmpOp.NotIn)=false:=by cases op<;>first | rfl | exact absurd rfl h2
 cases b<;>simp[behindInMarks,e1,e2]
def tB (t:TE):TT:=λσ H Q=>t σ H λx H1=> ∃c,x= .bl c /\ Q c H1
theorem LG {op:CmpOp}{t:TE}(h:PC X op a b t)(h1:behindInMarks op b=false:=by first | exact wD _ (by decide) (by decide) | rfl):PE X (.Compare a [op] [b] pos) t:=λae s σ H Q I hw=>wpAny_Compare1 (h ae s σ H Q I hw) h1
theorem yA {op:CmpOp}{t:TE}(h:PC X op a b t)(h1:behindInMarks op b=false:=by first | exact wD _ (by decide) (by decide) | rfl):PT X (.Compare a [op] [b] pos) (tB t):=by intro ae s σ H Q I hw;refine wpAny_isTrue_Compare1 (cz (h ae s σ H _ I hw) λv s1 h1=>cz h1 λu s2 h2=>cz h2 λc s3 ⟨x,H1,I1,r1,q1⟩=> ?_) h1;obtain⟨d,rfl,q⟩:=q1;cases r1;exact cc ⟨H1,I1,q⟩
theorem di {e:Expr}{t:TE}(h:PE X e t)(he: ∀zL,isTrue e X.env zL=(do let v <- zL;standAt e.pos;holding [v] (truthy v)):=by intro _;rfl):PT X e (tB t):=by intro ae s σ H Q I hw;refine isTrue_plain (cz (h ae s σ H _ I hw) λv s1 ⟨x,H1,I1,r1,q1⟩=> ?_) (he _);obtain⟨d,rfl,q⟩:=q1;cases r1;exact cc ⟨H1,I1,q⟩
variable {tA Se:TT}{dh:List Expr}
def OY (t u:TT):TT:=λσ H Q=>t σ H λc H1=>if c=true then u σ H1 Q else Q false H1
def tOr (t u:TT):TT:=λσ H Q=>t σ H λc H1=>if c=true then Q true H1 else u σ H1 Q
def OP (t:TT):TT:=λσ H Q=>t σ H λc H1=>Q (!c) H1
theorem iF (ha:PT X a tA):PW X (.BoolOp .And [a] pos) tA:=by
 intro wh ae s σ H Q I h;refine isTrue_and (cz (ha ae s σ H Q I h) λc s1 e=> ?_);cases c with
 | true=>exact isTrue_and_nil e
 | false=>exact e
theorem iE (ha:PT X a tA):PW X (.BoolOp .Or [a] pos) tA:=by
 intro wh ae s σ H Q I h;refine isTrue_or (cz (ha ae s σ H Q I h) λc s1 e=> ?_);cases c with
 | false=>exact isTrue_or_nil e
 | true=>exact e
theorem jv (ha:PT X a tA)(hb:PW X (.BoolOp .And (b::dh) pos) Se):PW X (.BoolOp .And (a::b::dh) pos) (OY tA Se):=by
 intro wh ae s σ H Q I h;refine isTrue_and (cz (ha ae s σ H _ I h) λc s1 ⟨H1,I1,q1⟩=> ?_);cases c with
 | true=>exact hb wh ae s1 σ H1 Q I1 q1
 | false=>exact⟨H1,I1,q1⟩
theorem kR (ha:PT X a tA)(hb:PW X (.BoolOp .Or (b::dh) pos) Se):PW X (.BoolOp .Or (a::b::dh) pos) (tOr tA Se):=by
 intro wh ae s σ H Q I h;refine isTrue_or (cz (ha ae s σ H _ I h) λc s1 ⟨H1,I1,q1⟩=> ?_);cases c with
 | true=>exact⟨H1,I1,q1⟩
 | false=>exact hb wh ae s1 σ H1 Q I1 q1
theorem dO (ha:PT X a tA):PT X (.UnaryOp .Not a pos) (OP tA):=by intro ae s σ H Q I h;exact isTrue_not (ha ae s σ H (λc H1=>Q (!c) H1) I h)
def JQ (ta tb:TE):TE:=λσ H Q=>ta σ H λx H1=> ∃c,x= .bl c /\ if c=true then tb σ H1 Q else Q (.bl false) H1
def ON (ta tb:TE):TE:=λσ H Q=>ta σ H λx H1=> ∃c,x= .bl c /\ if c=true then Q (.bl true) H1 else tb σ H1 Q
def JK (ta:TE):TE:=λσ H Q=>ta σ H λx H1=> ∃c,x= .bl c /\ Q (.bl (!c)) H1
theorem lg {op}{t:TE}(h:PE X a t):PE X (.BoolOp op [a] pos) t:=λae s σ H Q I hw=>BoolOp_one (h ae s σ H Q I hw)
theorem ng (ha:PE X a ta)(hb:PE X (.BoolOp .And (b::dh) pos) tb):PE X (.BoolOp .And (a::b::dh) pos) (JQ ta tb):=by
 intro ae s σ H Q I h;refine BoolOp_and (cz (ha ae s σ H _ I h) λv s1 ⟨x,H1,I1,r1,q1⟩=> ?_);obtain⟨c,rfl,q1⟩:=q1;cases r1;refine cc ?_;cases c with
 | true=>exact hb ae s1 σ H1 Q I1 q1
 | false=>exact⟨.bl false,H1,I1,rfl,q1⟩
theorem Pp (ha:PE X a ta)(hb:PE X (.BoolOp .Or (b::dh) pos) tb):PE X (.BoolOp .Or (a::b::dh) pos) (ON ta tb):=by
 intro ae s σ H Q I h;refine BoolOp_or (cz (ha ae s σ H _ I h) λv s1 ⟨x,H1,I1,r1,q1⟩=> ?_);obtain⟨c,rfl,q1⟩:=q1;cases r1;refine cc ?_;cases c with
 | false=>exact hb ae s1 σ H1 Q I1 q1
 | true=>exact⟨.bl true,H1,I1,rfl,q1⟩
theorem yB (ha:PE X a ta):PE X (.UnaryOp .Not a pos) (JK ta):=by intro ae s σ H Q I h;refine UnaryOp_ (cz (ha ae s σ H _ I h) λv s1 ⟨x,H1,I1,r1,q1⟩=> ?_);obtain⟨c,rfl,q1⟩:=q1;cases r1;exact not_of (cc ⟨.bl (!c),H1,I1,rfl,q1⟩)
end
def gs (K:PySem.W.Frag)(H:Hp)(a:Addr)(xs:List V):Prop:=Rd H a (.lst xs) \/dH λ(o:Obj) (bD:Array Value) (n:Nat)=>kz (K.lookup a=some o) (o.cls= .type "list") (o.dict=none) (o.data= .seq bD n) (bD.size<=sizeLine) (bY xs bD.toList)
def lr (K:PySem.W.Frag)(H:Hp)(a:Addr)(xs:List V):Prop:=Rd H a (.tup xs) \/dH λ(o:Obj) (bD:Array Value) (n:Nat)=>kz (K.lookup a=some o) (o.cls= .type "tuple") (o.dict=none) (o.data= .seq bD n) (bD.size<=sizeLine) (bY xs bD.toList)
def aa4:Value ->Option V
 | .none=>some .dC
 | .bool b=>some (.bl b)
 | .int i _=>some (.int i)
 | .str x _=>some (.str x)
 | .bytes b _=>some (.CQ b)
 | .float b _=>some (.IF b)
 | .ref a=>some (.ref a)
 | .type n=>some (.ty n)
 | _=>none
theorem RelV.abs {x:V}{u:Value}(r:RelV x u):aa4 u=some x:=by
 cases x with
 | dC=>cases r;rfl
 | bl _=>cases r;rfl
 | int _=>obtain⟨t,rfl⟩:=r;rfl
 | str _=>obtain⟨t,rfl⟩:=r;rfl
 | CQ _=>obtain⟨t,rfl⟩:=r;rfl
 | IF _=>obtain⟨t,rfl⟩:=r;rfl
 | ref _=>cases r;rfl
 | ty _=>cases r;rfl
theorem RelV.inj {x y:V}{u:Value}(r:RelV x u)(q:RelV y u):x=y:=a8 (r.abs.symm.trans q.abs)
theorem bY.inj: ∀ {xs ys:List V} {us:List Value},bY xs us ->bY ys us ->xs=ys
 | _,_,_, .nil, .nil=>rfl
 | _,_,_, .cons r t, .cons r' t'=>by rw[r.inj r',bY.inj t t']
section
variable {X:Cx}{ae:List (Addr×Obj)}{σ:St}{H:Hp}{s:Shared}{a:Addr}{xs ys:List V}
theorem gs.of {K:PySem.W.Frag}(h:H a=some (.lst xs)):gs K H a xs:= .inl (.inl h)
theorem lr.of {K:PySem.W.Frag}(h:H a=some (.tup xs)):lr K H a xs:= .inl (.inl h)
theorem Inv.list (I:Inv X ae σ H s)(h:gs X.K H a xs): ∃bD:List Value,cM (bY xs bD) (PlainL s.heap a bD.toArray) (xs.length<=sizeLine):=by rcases h with h | ⟨o,bD,n,hk,hc,hd,hs,hz,r⟩;obtain⟨z,bD,n,r,e⟩:=h.ok I.cF;exact⟨bD,r,⟨_,n,e,rfl,rfl,rfl⟩,z⟩;refine⟨bD.toList,r,⟨o,n,I.kT a o hk,hc,hd, ⇑hs⟩,?_⟩;have e:=r.length;simp only[cX] at e;lia
theorem Inv.tuple (I:Inv X ae σ H s)(h:lr X.K H a xs): ∃bD:List Value,cM (bY xs bD) (IsTup s.heap a bD.toArray) (xs.length<=sizeLine):=by rcases h with h | ⟨o,bD,n,hk,hc,_,hs,hz,r⟩;obtain⟨z,bD,r,p⟩:=h.ok I.cF;exact⟨bD,r,p.t,z⟩;refine⟨bD.toList,r,⟨o,I.kT a o hk,hc,n, ⇑hs⟩,?_⟩;have e:=r.length;simp only[cX] at e;lia
theorem Inv.list_inj (I:Inv X ae σ H s)(h:gs X.K H a xs)(h':gs X.K H a ys):xs=ys:=by obtain⟨bD,r,⟨o,n,e,_,_,d⟩,_⟩:=I.list h;obtain⟨its',r',⟨o',n',e',_,_,d'⟩,_⟩:=I.list h';rw[e] at e';cases e';rw[d] at d';injection d' with d1 _;have:bD=its':= ⇑(congrArg Array.toList d1);subst this;exact r.inj r'
theorem Inv.sC (I:Inv X ae σ H s)(h:lr X.K H a xs)(h':lr X.K H a ys):xs=ys:=by obtain⟨bD,r,⟨o,e,_,n,d⟩,_⟩:=I.tuple h;obtain⟨its',r',⟨o',e',_,n',d'⟩,_⟩:=I.tuple h';rw[e] at e';cases e';rw[d] at d';injection d' with d1 _;have:bD=its':= ⇑(congrArg Array.toList d1);subst this;exact r.inj r'
end
abbrev Cx.mU (X:Cx)(E:Value ->Shared ->Prop):Cx:= {X with xe:=E}
abbrev Cx.GJ (X:Cx):Cx:=X.mU λ_ _=>False
theorem Cx.Ok.mU {X:Cx}(ok:X.Ok)(E:Value ->Shared ->Prop):(X.mU E).Ok:=⟨ok.mod,ok.kind,ok.glob,ok.blt,ok.above,ok.inj,ok.has,ok.NV,ok.hd,ok.frames,ok.Lm,ok.exf,ok.bs,ok.Gc,ok.Ca,ok.zh,ok.ll,ok.GX⟩
theorem Cx.Ok.f' {X:Cx}{E:Value ->Shared ->Prop}(ok:(X.mU E).Ok):X.Ok:=⟨ok.mod,ok.kind,ok.glob,ok.blt,ok.above,ok.inj,ok.has,ok.NV,ok.hd,ok.frames,ok.Lm,ok.exf,ok.bs,ok.Gc,ok.Ca,ok.zh,ok.ll,ok.GX⟩
section
variable {X:Cx}{ae:List (Addr×Obj)}{σ:St}{H:Hp}{s:Shared}{E:Value ->Shared ->Prop}
theorem Inv.mU (I:Inv X ae σ H s)(E:Value ->Shared ->Prop):Inv (X.mU E) ae σ H s:=⟨I.ok.mU E,I.os,I.bare,I.base,I.loc,I.cell,I.free,I.fB,I.pin,I.cF,I.len⟩
theorem Inv.f' (I:Inv (X.mU E) ae σ H s):Inv X ae σ H s:=⟨I.ok.f',I.os,I.bare,I.base,I.loc,I.cell,I.free,I.fB,I.pin,I.cF,I.len⟩
theorem SP.f' {D:rA}{f:Flow}{s':Shared}(h:SP (X.mU E) ae D f s'):SP X ae D f s':=by
 cases f with
 | next=>obtain⟨σ',H',I,q⟩:=h;exact⟨σ',H',I.f',q⟩
 | brk=>obtain⟨σ',H',I,q⟩:=h;exact⟨σ',H',I.f',q⟩
 | cont=>obtain⟨σ',H',I,q⟩:=h;exact⟨σ',H',I.f',q⟩
 | ret u=>obtain⟨v,σ',H',I,r,q⟩:=h;exact⟨v,σ',H',I.f',r,q⟩
theorem vw.GJ {st:List Stmt}{t:TS}(h:vw X.GJ st t):vw X st t:=λae s σ H D I hw=>bp (h ae s σ H D (I.mU _) hw) (λ_ _ q=>q.f') λ_ _ z=>False.elim z
end
section
variable {X:Cx}{st:Stmt}{dh:List Stmt}{t u:TS}{e:Expr}{te:TE}{pos:Pos}
def JM:TS:=λD σ H=>D.nx σ H
def Li (t u:TS):TS:=λD σ H=>t {D with nx:=u D} σ H
theorem aX:vw X [] JM:=λ_ _ σ H _ I h=>wpAny_execs_nil ⟨σ,H,I,h⟩
theorem ai (h1:PS X st t)(h2:vw X dh u):vw X (st::dh) (Li t u):=by
 intro ae s σ H D I h;refine wpAny_execs_cons (cz (h1 ae s σ H {D with nx:=u D} I h) λf s1 q=> ?_);cases f with
 | next=>obtain⟨σ',H',I',q⟩:=q;exact h2 ae s1 σ' H' D I' q
 | ret v=>exact q
 | brk=>exact q
 | cont=>exact q
theorem am (h1:PS X st t):vw X [st] t:=by
 intro ae s σ H D I h;refine wpAny_execs_cons (cz (h1 ae s σ H D I h) λf s1 q=> ?_);cases f with
 | next=>exact wpAny_execs_nil q
 | ret v=>exact q
 | brk=>exact q
 | cont=>exact q
theorem Inv.quiet {ae:List (Addr×Obj)}{σ:St}{H:Hp}{s:Shared}(I:Inv X ae σ H s):interactive X.env=false:=by simp[interactive,I.ok.kind]
def JN (te:TE):TS:=λD σ H=>te σ H λ_ H1=>D.nx σ H1
theorem ce (he:PE X e te)(hs:swapsWith e none pos.line X.env=pure false:=by rfl):PS X (.Expr e pos) (JN te):=by intro ae s σ H D I h;exact wpAny_Expr_any (cz (he ae s σ H _ I h) λv s1 ⟨x,H1,I1,r1,q1⟩=>⟨σ,H1,I1,q1⟩) I.quiet hs
def OM (te:TE):TS:=λD σ H=>te σ H D.rt
theorem aJ (he:PE X e te):PS X (.Return (some e) pos) (OM te):=by intro ae s σ H D I h;exact wpAny_Return_some (cz (he ae s σ H _ I h) λv s1 ⟨x,H1,I1,r1,q1⟩=>⟨x,σ,H1,I1,r1,q1⟩)
def OR (c:TT)(t u:TS):TS:=λD σ H=>c σ H λb H1=>if b=true then t D σ H1 else u D σ H1
theorem bF {c:Expr}{a b:List Stmt}{tc:TT}(hc:PT X c tc)(ha:vw X a t)(hb:vw X b u):PS X (.If c a b pos) (OR tc t u):=by
 intro ae s σ H D I h;refine wpAny_If (cz (hc ae s σ H _ I h) λd s1 ⟨H1,I1,q1⟩=> ?_);cases d with
 | true=>exact ha ae s1 σ H1 D I1 q1
 | false=>exact hb ae s1 σ H1 D I1 q1
def DQ:TS:=λ_ _ _=>False
theorem Ew:PS X st DQ:=λ_ _ _ _ _ _ h=>h.elim
end
abbrev TG:=V ->St ->Hp ->(St ->Hp ->Prop) ->Prop
abbrev G2:=List V ->St ->Hp ->(St ->Hp ->Prop) ->Prop
def PG (X:Cx)(mY:Expr)(t:TG):Prop:=∀ (ae:List (Addr×Obj)) (s:Shared) (σ:St) (H:Hp) (v:V) (u:Value) (Q:St ->Hp ->Prop),Inv X ae σ H s ->RelV v u ->t v σ H Q ->wpAny (model X.prog X.w) X.A (assign mY X.env u) (λ_ s'=>ca λσ' H'=>Inv X ae σ' H' s' /\ Q σ' H') X.xe s
def S_ (X:Cx)(ts:List Expr)(t:G2):Prop:=∀ (ae:List (Addr×Obj)) (s:Shared) (σ:St) (H:Hp) (vs:List V) (us:List Value) (Q:St ->Hp ->Prop),Inv X ae σ H s ->bY vs us ->t vs σ H Q ->wpAny (model X.prog X.w) X.A (assignInOrder ((assignEach ts X.env).map (·.2)) us) (λ_ s'=>ca λσ' H'=>Inv X ae σ' H' s' /\ Q σ' H') X.xe s
abbrev Gk:=V ->V ->V ->Hp ->(Hp ->Prop) ->Prop
def Ro (X:Cx)(t:Gk):Prop:=∀ (ae:List (Addr×Obj)) (s:Shared) (σ:St) (H:Hp) (o i v:V) (ov iv u:Value) (Q:Hp ->Prop),Inv X ae σ H s ->RelV o ov ->RelV i iv ->RelV v u ->t o i v H Q ->wpAny (model X.prog X.w) X.A (setItem ov iv u) (λ_ s'=> ∃H',Inv X ae σ H' s' /\ Q H') X.xe s
abbrev NW:=V ->V ->Hp ->VK ->Prop
def PIp (X:Cx)(op:Operator)(t:NW):Prop:=∀ (ae:List (Addr×Obj)) (s:Shared) (σ:St) (H:Hp) (x y:V) (v u:Value) (Q:VK),Inv X ae σ H s ->RelV x v ->RelV y u ->t x y H Q ->wpAny (model X.prog X.w) X.A (inplaceOp op v u) (EP X ae σ Q) X.xe s
section
variable {X:Cx}{pos:Pos}
def jK (i:Nat):TG:=λv σ H Q=>Q (σ.set i (some v)) H
theorem a4 {i:Nat}{x:Str}(hN:X.N.Nodup)(hi:X.N[i]? =some x)(hx:Loc X.env.scope x)(hf:X.fn x=true \/ X.env.scope.names.lookup x=some .local:=by first | exact .inl rfl | exact .inr rfl | assumption):PG X (.Name x pos) (jK i):=by intro ae s σ H v u Q I r h;exact wpAny_assign_Name (lA I hN hi hx r (λs' I'=>⟨_,H,I',h⟩) hf)
def ID:G2:=λvs σ H Q=>vs= [] /\ Q σ H
def tz (t:TG)(u:G2):G2:=λvs σ H Q=>ca λv r=>vs=v::r /\ t v σ H λσ' H'=>u r σ' H' Q
theorem dn:S_ X [] ID:=by intro ae s σ H vs us Q I r h;obtain⟨e,h⟩:=h;subst e;cases r;exact assignInOrder_nil ⟨σ,H,I,h⟩
theorem bt {e:Expr}{es:List Expr}{t:TG}{u:G2}(h1:PG X e t)(h2:S_ X es u) (hs:(assignEach (e::es) X.env).map (·.2)=assign e X.env::(assignEach es X.env).map (·.2):=by rfl):S_ X (e::es) (tz t u):=by
 intro ae s σ H vs us Q I r h;obtain⟨v,vr,e1,h⟩:=h;subst e1;cases r with
 | cons r rr=>rw[hs];refine assignInOrder_cons (cz (h1 ae s σ H _ _ _ I r h) λ_ s1 ⟨σ1,H1,I1,q1⟩=> ?_);exact h2 ae s1 σ1 H1 _ _ Q I1 rr q1
def IB (K:PySem.W.Frag)(n:Nat)(t:G2):TG:=λv σ H Q=>ca λa xs=>eu (v= .ref a) (lr K H a xs) (xs.length=n) (t xs σ H Q)
theorem dP {es:List Expr}{k:Nat}{t:G2}{n:Nat}(hc:X.calm=true)(h:S_ X es t) (hn:(assignEach es X.env).length=n:=by rfl) (vp:(assignEach es X.env).findIdx? (·.1)=none:=by rfl):PG X (.Tuple es k pos) (IB X.K n t):=by intro ae s σ H v u Q I r hw;obtain⟨a,xs,e1,hq,hl,hw⟩:=hw;subst e1;cases r;obtain⟨bD,rv,ht,hz⟩:=I.tuple hq;refine assign_Tuple_tuple (I.ok.hd hc) ht (by simp[hn, <- hl,rv.length]) vp λh' hx=> ?_;have I1:Inv X ae σ H {s with heap:=h'}:=I.kept (t':=s.toks) λb o e=>hx b o (bg (aE e)) e;exact h ae _ σ H xs _ Q I1 ⇑rv hw
def QS (to ti:TE)(t:Gk):TG:=λv σ H Q=>to σ H λo H1=>ti σ H1 λi H2=>t o i v H2 λH3=>Q σ H3
theorem nc {o i:Expr}{to ti:TE}{t:Gk}(ho:PE X o to)(hi:PE X i ti)(hs:Ro X t) (ha: ∀v,assign (.Subscript o i pos) X.env v=(do
  let ov <- holding [v] (eval o X.env)
  let iv <- holding [v,ov] (eval i X.env)
  standAt pos
  holding [v,ov,iv] (setItem ov iv v)
  release [v,ov,iv] []):=by intro _;rfl):PG X (.Subscript o i pos) (QS to ti t):=by
 intro ae s σ H v u Q I r h
 rw[ha]
 refine ar (wpAny_holding (cz (ho ae s σ H _ I h) λov s1 ⟨x,H1,I1,r1,q1⟩=> ?_))
 refine ar (wpAny_holding (cz (hi ae s1 σ H1 _ I1 q1) λiv s2 ⟨y,H2,I2,r2,q2⟩=> ?_))
 refine ar (wpAny_standAt (ar (wpAny_holding (cz (hs ae s2 σ H2 x y v ov iv u _ I2 r1 r2 r q2) λ_ s3 ⟨H3,I3,q3⟩=> ?_))))
 exact wpAny_release ⟨σ,H3,I3,q3⟩
def DZ (te:TE)(g:TG):TS:=λD σ H=>te σ H λx H1=>g x σ H1 D.nx
theorem fJ {tg e:Expr}{te:TE}{g:TG}(he:PE X e te)(hg:PG X tg g)(hs:swapsWithSole [tg] e pos.line X.env=pure false:=by rfl)(hw:swappedStores [tg] e X.env=pure none:=by rfl) (h1:(assignEach [tg] X.env).map (·.2)= [assign tg X.env]:=by rfl):PS X (.Assign [tg] e pos) (DZ te g):=by intro ae s σ H D I h;refine wpAny_Assign_stores (cz (he ae s σ H _ I h) λv s1 ⟨x,H1,I1,r1,q1⟩=> ?_) hs hw;rw[h1];exact cz (hg ae s1 σ H1 x v _ I1 r1 q1) λ_ s2 q=>q
theorem a9 {i:Nat}{x:Str}{e:Expr}{te:TE}{jw:Pos}(hN:X.N.Nodup)(hi:X.N[i]? =some x)(hx:Loc X.env.scope x)(he:PE X e te)(hs:swapsWith e (some (.Name x jw)) pos.line X.env=pure false:=by rfl)(hf:X.fn x=true \/ X.env.scope.names.lookup x=some .local:=by first | exact .inl rfl | exact .inr rfl | assumption): PS X (.Assign [.Name x jw] e pos) (DZ te (jK i)):=by intro ae s σ H D I h;refine wpAny_Assign_Name (cz (he ae s σ H _ I h) λv s1 ⟨y,H1,I1,r1,q1⟩=> ?_) hs;exact lA I1 hN hi hx r1 (λs2 I2=>⟨_,H1,I2,q1⟩) hf
def OX (i:Nat)(te:TE)(ti:NW):TS:=λD σ H=> ∃x,σ[i]? =some (some x) /\ te σ H λy H1=>ti x y H1 λz H2=>D.nx (σ.set i (some z)) H2
theorem LB {i:Nat}{x:Str}{e:Expr}{te:TE}{op:Operator}{ti:NW}{jw:Pos}(hN:X.N.Nodup)(hi:X.N[i]? =some x)(hx:Loc X.env.scope x)(he:PE X e te)(ho:PIp X op ti)(hf:X.fn x=true \/ X.env.scope.names.lookup x=some .local:=by first | exact .inl rfl | exact .inr rfl | assumption): PS X (.AugAssign (.Name x jw) op e pos) (OX i te ti):=by
 intro ae s σ H D I h;obtain⟨v,e1,h⟩:=h;obtain⟨m,hn,hl⟩:=I.loc;have Uh:Rj X.env.scope x:=by rcases hx with k | k;exact .inl k;exact .inr (.inl k)
 obtain⟨u,r,l⟩:=hl i x v hi e1 Uh;refine wpAny_AugAssign_Name ?_;have go:wpAny (model X.prog X.w) X.A (eval e X.env) (λw s₂=>wpAny (model X.prog X.w) X.A (inplaceOp op u w) (λr s₃=>wpAny (model X.prog X.w) X.A (storeName X.env x r) (λ_=>SP X ae D .next) X.xe s₃) X.xe s₂) X.xe s:=by refine cz (he ae s σ H _ I h) λw s1 ⟨y,H1,I1,r1,q1⟩=> ?_;refine cz (ho ae s1 σ H1 v y u w _ I1 r r1 q1) λz s2 ⟨zv,H2,I2,r2,q2⟩=> ?_;exact lA I2 hN hi hx r2 (λs3 I3=>⟨_,H2,I3,q2⟩) hf
 rcases l with⟨hk,hm⟩ | ⟨hk,c,hc,AW⟩
 exact wpAny_loadName_local I.ok.kind hk hn hm go;rcases hk with hk | hk;exact wpAny_loadName_cell I.ok.kind hk hc AW go;rcases hx with k | k;have:X.env.scope.names.lookup x=some .free:=hk;rw[k] at this;cases this;have:X.env.scope.names.lookup x=some .free:=hk;rw[k] at this;cases this
def ipI (f:Int ->Int ->Int):NW:=λx y H Q=>ca λi j=>cM (x= .int i) (y= .int j) (Q (.int (f i j)) H)
theorem Mm:PIp X .Add (ipI λi j=>i+j):=by intro ae s σ H x y v u Q I r1 r2 h;obtain⟨i,j,e1,e2,q⟩:=h;subst e1;subst e2;obtain⟨t,rfl⟩:=r1;obtain⟨t',rfl⟩:=r2;exact iadd_int ⟨.int _,H,I.tok _,⟨_,rfl⟩,q⟩
end
structure It where
 go:Nat ->Hp ->Prop
 Nq:Nat ->Hp ->V ->Hp ->Prop
 stop:Nat ->Hp ->Prop
def jc (X:Cx)(ae:List (Addr×Obj))(H:Hp)(b:Addr):Prop:=H b=none /\ b≠X.env.locals /\ b∉X.fs /\ (b∈X.ex \/ X.s₀.heap.objs.size<=b) /\ (∀x c,X.env.cells.lookup x=some c ->c≠b) /\ ∀p∈X.pn++ae,p.1≠b
theorem Inv.zf {X:Cx}{ae:List (Addr×Obj)}{σ:St}{H H':Hp}{s:Shared}{b:Addr}(I:Inv X ae σ H s)(hb:s.heap.objs.size<=b)(hn:H' b=none):jc X ae H' b:=by refine⟨hn,Nat.ne_of_gt (bz I.lt hb),I.UY hb, .inr (av I.sz hb),λx c e z=> ?_,λp hp z=> ?_⟩;obtain⟨v,q⟩:=I.cell x c e;exact absurd (bz q.lt (by rw[z];exact hb)) (Nat.lt_irrefl _);exact absurd (bz (aE (I.pin p hp).1) (by rw[z];exact hb)) (Nat.lt_irrefl _)
structure vb (P:Program)(w:World)(K:PySem.W.Frag)(tg:Expr)(J:It)(fp:List Addr)(it:Addr)(tn:Nat ->Heap ->Prop):Prop where
 mem:it∈fp
 obj: ∀i h,tn i h -> ∀b∈fp, ∃o,h.get? b=some o /\ ∀v,o.data≠ .cell v
 keep: ∀i h h',tn i h ->(∀b∈fp, ∀o,h.get? b=some o ->h'.get? b=some o) ->tn i h'
 item: ∀ (X:Cx),X.prog=P ->X.w=w ->X.K=K ->X.calm=true -> ∀ (i:Nat) (ae:List (Addr×Obj)) (s:Shared) (σ:St) (H:Hp) (E:Value ->Shared ->Prop),Inv X ae σ H s ->(∀b∈fp,jc X ae H b) ->tn i s.heap ->J.go i H ->wpAny (model P w) X.A (pyNext (.ref it)) (λr s1=> ∃u,r=some u /\wpAny (model P w) X.A (letOwnedTupleGo tg (.ref it) u) (λ_ s2=>ca λx H'=>fo (Inv X ae σ H' s2) (RelV x u) (J.Nq i H x H') (tn (i+1) s2.heap) (∀b∈fp,H' b=none)) E s1) E s
 done: ∀ (X:Cx),X.prog=P ->X.w=w ->X.K=K ->X.calm=true -> ∀ (i:Nat) (ae:List (Addr×Obj)) (s:Shared) (σ:St) (H:Hp) (E:Value ->Shared ->Prop),Inv X ae σ H s ->(∀b∈fp,jc X ae H b) ->tn i s.heap ->J.stop i H ->wpAny (model P w) X.A (pyNext (.ref it)) (λr s1=>r=none /\ Inv X ae σ H s1) E s
 self: ∀ (A:Around) (i:Nat) (s:Shared) (Q:Value ->Shared ->Prop) (E:Value ->Shared ->Prop),tn i s.heap ->Q (.ref it) s ->wpAny (model P w) A (pyIter (.ref it)) Q E s
abbrev TI:=St ->Hp ->(It ->Hp ->Prop) ->Prop
def PIE (X:Cx)(ae:List (Addr×Obj))(σ:St)(tg:Expr)(R:It ->Hp ->Prop)(Qg:Value)(s2:Shared):Prop:=se λ(it:Addr) (fp:List Addr) (tn:Nat ->Heap ->Prop) (J:It) (H':Hp)=>kz (Qg= .ref it) (Inv X ae σ H' s2) (vb X.prog X.w X.K tg J fp it tn) (tn 0 s2.heap) (∀b∈fp,jc X ae H' b) (R J H')
def PI (X:Cx)(tg iter:Expr)(wi:TI):Prop:=∀ (ae:List (Addr×Obj)) (s:Shared) (σ:St) (H:Hp) (R:It ->Hp ->Prop),Inv X ae σ H s ->wi σ H R ->wpAny (model X.prog X.w) X.A (eval iter X.env) (λv s1=>wpAny (model X.prog X.w) X.A (pyIter v) (PIE X ae σ tg R) X.xe s1) X.xe s
theorem tq {M:Model}{A:Around}{E:Value ->Shared ->Prop}{s:Shared}{tg:Expr}{it:Addr}{u:Value}{o:Obj}{n:String}{vs:Array Value}{Q:Unit ->Shared ->Prop}(ho:s.heap.get? it=some o)(hc:o.cls= .type n)(hd:o.data= .fields vs) (hn: ["enumerate","zip","dict_itemiterator","dict_reverseitemiterator","odict_iterator","itertools.zip_longest","itertools.pairwise"].contains n=false) (hQ:Q () s):wpAny M A (letOwnedTupleGo tg (.ref it) u) Q E s:=by
 unfold letOwnedTupleGo;cases tg <;>first
 | exact aR hQ
 | (cases u<;>first
  | exact aR hQ
  | (refine ar (wpAny_load ho ?_)
     rw[hc,hd]
     show wpAny M A (if(["enumerate","zip","dict_itemiterator","dict_reverseitemiterator","odict_iterator","itertools.zip_longest","itertools.pairwise"].contains n && vs[0]? ==some (rawInt _))=true then _ else _) Q E s
     rw[aj (by intro h;rw[hn,Bool.false_and] at h;cases h)]
     exact aR hQ))
def Te (K:PySem.W.Frag)(a:Addr):It:=⟨λi H=>ca λxs x=>gs K H a xs /\ xs[i]? =some x,λi H x H'=>H'=H /\ ∀xs,gs K H a xs ->xs[i]? =some x,λi H=> ∃xs,gs K H a xs /\ xs.length<=i⟩
def Tc (K:PySem.W.Frag)(a:Addr):It:=⟨λi H=>ca λxs x=>lr K H a xs /\ xs[i]? =some x,λi H x H'=>H'=H /\ ∀xs,lr K H a xs ->xs[i]? =some x,λi H=> ∃xs,lr K H a xs /\ xs.length<=i⟩
def Td (lo:Int)(n:Nat):It:=⟨λi _=>i<n,λi H x H'=>H'=H /\ x= .int (lo+i),λi _=>n<=i⟩
theorem sB {P:Program}{w:World}{K:PySem.W.Frag}{tg:Expr}(a it:Addr):vb P w K tg (Te K a) [it] it (λi h=>h.IsListIter it a i) where
 mem:=by simp
 obj:=λi h st b hb=>by have e:b=it:= ⇑hb;subst e;obtain⟨o,e,c,d⟩:=st;exact⟨o,e,λv z=>by rw[d] at z;cases z⟩
 keep:=λi h h' st k=>st.at λo e=>k it (by simp) o e
 item:=by intro X hP hw hK hc i ae s σ H E I hf st hg;subst hP hw hK;obtain⟨xs,x,hq,hx⟩:=hg;obtain⟨bD,rv,p,hz⟩:=I.list hq;obtain⟨u,hu,ru⟩:=rv.get hx;obtain⟨f0,f1,f2,f3,f4,f5⟩:=hf it (by simp);refine wpAny_pyNext_list_item st p.isList (x:=u) ⇑hu λh' bw sb=> ?_;have I1:Inv X ae σ H {s with heap:=h'}:=I.turned (t':=s.toks) (λb o hb e=>(sb.2 b hb).trans e) f0 f1 f3 f4 f5;obtain⟨o,e,c,d⟩:=id bw;exact⟨u,rfl,tq (s:= {s with heap:=h'}) e c d (by decide) ⟨x,H,I1,ru,⟨rfl,λys hy=>by rw[I.list_inj hy hq];exact hx⟩,bw,λb hb=>(hf b hb).1⟩⟩
 done:=by intro X hP hw hK hc i ae s σ H E I hf st hg;subst hP hw hK;obtain⟨xs,hq,hx⟩:=hg;obtain⟨bD,rv,p,hz⟩:=I.list hq;obtain⟨f0,f1,f2,f3,f4,f5⟩:=hf it (by simp);have hl:=rv.length;exact wpAny_pyNext_list_end (I.ok.hd hc) st p.isList (by simp;lia) λh' eb=>⟨rfl,I.turned (t':=s.toks) (λb o hb e=>eb b o hb e) f0 f1 f3 f4 f5⟩
 self:=λ_ _ _ _ _ st h=>wpAny_pyIter_listiter st h
theorem pX {P:Program}{w:World}{K:PySem.W.Frag}{tg:Expr}(a it:Addr):vb P w K tg (Tc K a) [it] it (λi h=>h.IsTupleIter it a i) where
 mem:=by simp
 obj:=λi h st b hb=>by have e:b=it:= ⇑hb;subst e;obtain⟨o,e,c,d⟩:=st;exact⟨o,e,λv z=>by rw[d] at z;cases z⟩
 keep:=λi h h' st k=>st.at λo e=>k it (by simp) o e
 item:=by intro X hP hw hK hc i ae s σ H E I hf st hg;subst hP hw hK;obtain⟨xs,x,hq,hx⟩:=hg;obtain⟨bD,rv,p,hz⟩:=I.tuple hq;obtain⟨u,hu,ru⟩:=rv.get hx;obtain⟨f0,f1,f2,f3,f4,f5⟩:=hf it (by simp);refine wpAny_pyNext_tuple_item st (show s.heap.IsTuple a bD.toArray from p) (x:=u) ⇑hu λh' bw sb=> ?_;have I1:Inv X ae σ H {s with heap:=h'}:=I.turned (t':=s.toks) (λb o hb e=>(sb.2 b hb).trans e) f0 f1 f3 f4 f5;obtain⟨o,e,c,d⟩:=id bw;exact⟨u,rfl,tq (s:= {s with heap:=h'}) e c d (by decide) ⟨x,H,I1,ru,⟨rfl,λys hy=>by rw[I.sC hy hq];exact hx⟩,bw,λb hb=>(hf b hb).1⟩⟩
 done:=by intro X hP hw hK hc i ae s σ H E I hf st hg;subst hP hw hK;obtain⟨xs,hq,hx⟩:=hg;obtain⟨bD,rv,p,hz⟩:=I.tuple hq;obtain⟨f0,f1,f2,f3,f4,f5⟩:=hf it (by simp);have hl:=rv.length;exact wpAny_pyNext_tuple_end (I.ok.hd hc) st (show s.heap.IsTuple a bD.toArray from p) (by simp;lia) λh' eb=>⟨rfl,I.turned (t':=s.toks) (λb o hb e=>eb b o hb e) f0 f1 f3 f4 f5⟩
 self:=λ_ _ _ _ _ st h=>wpAny_pyIter_tupleiter st h
theorem yl {P:Program}{w:World}{K:PySem.W.Frag}{tg:Expr}(it:Addr)(lo:Int)(n:Nat):vb P w K tg (Td lo n) [it] it (λi h=>IsRangeIter h it (lo+(i:Nat)*1) ((n:Int) - (i:Nat)) 1) where
 mem:=by simp
 obj :=λi h st b hb=>by have e:b=it:= ⇑hb;subst e;exact⟨_,st,λv z=>by have z':Data.fields _=Data.cell v:=z;cases z'⟩
 keep:=λi h h' st k=>k it (by simp) _ st
 item:=by intro X hP hw hK hc i ae s σ H E I hf st hg;subst hP hw hK;obtain⟨f0,f1,f2,f3,f4,f5⟩:=hf it (by simp);have W:=Walks.range (prog:=X.prog) (w:=X.w) (I.ok.hd hc) it lo 1 n;refine W.item i s _ _ hg st λv h' tk hv bw kk=> ?_;obtain⟨t,rfl⟩:=hv;have I1:Inv X ae σ H {s with heap:=h',toks:=tk}:=I.turned (λb o hb e=>kk b o ⇑hb e) f0 f1 f3 f4 f5;refine⟨_,rfl,tq (s:= {s with heap:=h',toks:=tk}) (n:= "range_iterator") bw rfl rfl (by decide) ⟨.int (lo+i),H,I1,⟨t,?_⟩,⟨rfl,rfl⟩,bw,λb hb=>(hf b hb).1⟩⟩;rw[Int.mul_one]
 done:=by intro X hP hw hK hc i ae s σ H E I hf st hg;subst hP hw hK;obtain⟨f0,f1,f2,f3,f4,f5⟩:=hf it (by simp);exact wpAny_pyNext_range_end (I.ok.hd hc) st (by have:n<=i:=hg;lia) λh' eb=>⟨rfl,I.turned (t':=s.toks) (λb o hb e=>eb b o hb e) f0 f1 f3 f4 f5⟩
 self:=λ_ _ _ _ _ st h=>wpAny_pyIter_rangeiter st h
section
variable {X:Cx}{tg:Expr}
def Fk (K:PySem.W.Frag)(tl:TE):TI:=λσ H R=>tl σ H λx H1=> ∃a,cM (x= .ref a) (∃xs,gs K H1 a xs) (R (Te K a) H1)
def Mn (K:PySem.W.Frag)(tl:TE):TI:=λσ H R=>tl σ H λx H1=> ∃a,cM (x= .ref a) (∃xs,lr K H1 a xs) (R (Tc K a) H1)
theorem pF {l:Expr}{tl:TE}(hl:PE X l tl):PI X tg l (Fk X.K tl):=by intro ae s σ H R I h;refine cz (hl ae s σ H _ I h) λv s1 ⟨x,H1,I1,r1,q1⟩=> ?_;obtain⟨a,e,⟨xs,hq⟩,q⟩:=q1;subst e;cases r1;obtain⟨bD,rv,p,hz⟩:=I1.list hq;refine wpAny_pyIter_list p.isList ?_;refine⟨s1.heap.objs.size,[s1.heap.objs.size],_,_,H1,rfl,I1.kept (t':=s1.toks) λb o e=>aq _ e,sB a _,⟨_,aM _ rfl,rfl,rfl⟩,λb hb=> ?_,q⟩;have e:b=s1.heap.objs.size:= ⇑hb;subst e;exact I1.zf (ao _) (I1.cF.fresh (ao _))
theorem m_ {l:Expr}{tl:TE}(hl:PE X l tl):PI X tg l (Mn X.K tl):=by intro ae s σ H R I h;refine cz (hl ae s σ H _ I h) λv s1 ⟨x,H1,I1,r1,q1⟩=> ?_;obtain⟨a,e,⟨xs,hq⟩,q⟩:=q1;subst e;cases r1;obtain⟨bD,rv,p,hz⟩:=I1.tuple hq;refine wpAny_pyIter_tuple (show s1.heap.IsTuple a bD.toArray from p) ?_;refine⟨s1.heap.objs.size,[s1.heap.objs.size],_,_,H1,rfl,I1.kept (t':=s1.toks) λb o e=>aq _ e,pX a _,⟨_,aM _ rfl,rfl,rfl⟩,λb hb=> ?_,q⟩;have e:b=s1.heap.objs.size:= ⇑hb;subst e;exact I1.zf (ao _) (I1.cF.fresh (ao _))
theorem Eo {ae:List (Addr×Obj)}{σ:St}{H:Hp}{s:Shared}{R:It ->Hp ->Prop}{E:Value ->Shared ->Prop}{lo hi:Int}{t u v:Tok}{tk:Nat}(I:Inv X ae σ H s)(h1: -(2 ^ 62) <=lo)(h2:lo<2 ^ 62)(h3: -(2 ^ 62) <=hi)(h4:hi<2 ^ 62) (q:R (Td lo (hi - lo).toNat) H):wpAny (model X.prog X.w) X.A (pyIter (.ref s.heap.objs.size)) (PIE X ae σ tg R) E {s with heap:=s.heap.push {cls:= .type "range",data:= .fields #[.int lo t, .int hi u, .int 1 v]},toks:=tk}:=by
 refine wpAny_pyIter_range (IsRange.new ..) (small_one h1 h2 h3 h4) ?_;have I1:Inv X ae σ H {s with heap:=s.heap.push {cls:= .type "range",data:= .fields #[.int lo t, .int hi u, .int 1 v]},toks:=tk}:=I.kept λb o e=>aq _ e;refine⟨(s.heap.push {cls:= .type "range",data:= .fields #[.int lo t, .int hi u, .int 1 v]}).objs.size,[(s.heap.push {cls:= .type "range",data:= .fields #[.int lo t, .int hi u, .int 1 v]}).objs.size],_,_,H,rfl,I1.kept (t':=tk) λb o e=>aq _ e,yl _ lo (hi - lo).toNat,?_,λb hb=> ?_,q⟩;have e1:lo+((0:Nat):Int)*1=lo:=by simp
 have e2:(((hi - lo).toNat:Nat):Int) - ((0:Nat):Int)=Builtin.Range.rangeSize lo hi 1:=by rw[rangeSize_one];split<;>lia
 show IsRangeIter _ _ (lo+((0:Nat):Int)*1) ((((hi - lo).toNat:Nat):Int) - ((0:Nat):Int)) 1;rw[e1,e2];exact aM _ rfl;have e:b=(s.heap.push {cls:= .type "range",data:= .fields #[.int lo t, .int hi u, .int 1 v]}).objs.size:=by simpa using hb
 subst e;exact I1.zf (ao _) (I1.cF.fresh (ao _))
def Kq (ta:TA):TI:=λσ H R=>ta σ H λvs H1=> ∃j:Int,eu (vs= [.int j]) (-(2 ^ 62) <=j) (j<2 ^ 62) (R (Td 0 j.toNat) H1)
theorem eI {a:Expr}{ta:TA}{p pos:Pos}(hg:Gl X "range")(hm:X.mg "range" =none)(ha:PA X [a] ta)(hs:starEach [a] X.env= [(false,eval a X.env)]:=by rfl):PI X tg (.Call (.Name "range" p) [a] [] pos) (Kq ta):=by
 intro ae s σ H R I h;refine Call_ (uS I hg hm boot_range (PyProof.Rows.callWith_type1 (cz (ha pos ae s σ H _ I h) λus s1 ⟨vs,H1,I1,r1,q1⟩=> ?_) hs rfl));obtain⟨j,e,q1,q2,q⟩:=q1;subst e;cases r1 with
 | cons r rr=>cases rr;obtain⟨t,rfl⟩:=r;exact call_range_1 (Eo I1 ∅ ∅ q1 q2 ⇑q)
def OU (wi:TI)(g:TG)(tb:TS):TS:=λD σ H=>wi σ H λJ H1=> ∃W:Nat ->Nat ->St ->Hp ->Prop,(∃m,W 0 m σ H1) /\ ∀i m σ H,W i m σ H ->(J.stop i H /\ D.nx σ H) \/ (J.go i H /\ ∃N:St ->Hp ->Prop,(∀σ' H',N σ' H' -> ∃m',m'<m /\ W (i+1) m' σ' H') /\ ∀x H',J.Nq i H x H' ->g x σ H' λσ2 H2=>tb {D with nx:=N,ct:=N,bk:=D.nx} σ2 H2)
def gh (fp:List Addr)(h:Heap):List (Addr×Obj):=fp.filterMap λb=>(h.get? b).map λo=>(b,o)
theorem d3 {fp:List Addr}{h:Heap}{b:Addr}{o:Obj}(hb:b∈fp)(e:h.get? b=some o):(b,o)∈gh fp h:=List.mem_filterMap.mpr ⟨b,hb,by rw[e];rfl⟩
theorem B0 {fp:List Addr}{h:Heap}{p:Addr×Obj}(hp:p∈gh fp h):p.1∈fp /\ h.get? p.1=some p.2:=by
 obtain⟨b,hb,e⟩:=List.mem_filterMap.mp hp;cases q:h.get? b with
 | none=>rw[q] at e;cases e
 | some o=>rw[q] at e;have e':(b,o)=p:=a8 e;subst e';exact⟨hb,q⟩
theorem Inv.pinned {ae:List (Addr×Obj)}{σ:St}{H:Hp}{s:Shared}{fp:List Addr}(I:Inv X ae σ H s)(hf: ∀b∈fp,jc X ae H b)(ho: ∀b∈fp, ∃o,s.heap.get? b=some o /\ ∀v,o.data≠ .cell v):Inv X (ae++gh fp s.heap) σ H s:=I.Ao λp hp=>(a_.mp hp).elim (λz=>I.pin p (aK _ z)) λz=>by obtain⟨hb,e⟩:=B0 z;obtain⟨f0,f1,f2,_⟩:=hf p.1 hb;obtain⟨o,e',d⟩:=ho p.1 hb;rw[e] at e';cases e';exact⟨e,f0,f1,f2,d⟩
theorem Inv.gS {ae pl:List (Addr×Obj)}{σ:St}{H:Hp}{s:Shared}(I:Inv X (ae++pl) σ H s):Inv X ae σ H s:=I.Ao λp hp=>I.pin p (aK _ (List.mem_append_left _ hp))
theorem gg {iter:Expr}{body:List Stmt}{wi:TI}{g:TG}{tb:TS}{pos:Pos}(hp:PassesOwn (model X.prog X.w) X.A X.env X.xe)(hc:X.calm=true)(hi:PI X tg iter wi)(hg:PG X tg g)(hb:vw X body tb) (hs: ∀x,foldedSetIterable iter X.env x=pure x:=by intro _;rfl):PS X (.For tg iter body [] pos) (OU wi g tb):=by
 intro ae s σ H D I h;refine wpAny_For (cz (hi ae s σ H _ I h) λv s1 h1=>cz h1 λQg s2 h2=> ?_) hs;obtain⟨it,fp,tn,J,H2,e,I2,T,lB,f2,W,⟨m0,w0⟩,turn⟩:=h2;subst e;have p9: ∀ {H':Hp},(∀b∈fp,H' b=none) -> ∀b∈fp,jc X ae H' b:=λhn b hb=>⟨hn b hb,(f2 b hb).2⟩
 refine codeAny_forLoop_any (λn s'=>dH λi σ' H'=>eu (Inv X ae σ' H' s') (tn i s'.heap) (∀b∈fp,H' b=none) (W i n σ' H')) ?_ m0 ⟨0,σ,H2,I2,lB,λb hb=>(f2 b hb).1,w0⟩;rintro n s3 ⟨i,σ3,H3,I3,rF,fr3,w3⟩;rcases turn i n σ3 H3 w3 with⟨stop,qn⟩ | ⟨go,N,hN,step⟩
 ·refine wpAny_passesOwn hp (cz (T.done X rfl rfl rfl hc i ae s3 σ3 H3 X.xe I3 (p9 fr3) rF stop) λr s4 ⟨hr,I4⟩=> ?_);subst hr;exact wpAny_execs_nil ⟨σ3,H3,I4,qn⟩
 ·refine wpAny_passesOwn hp (cz (T.item X rfl rfl rfl hc i ae s3 σ3 H3 X.xe I3 (p9 fr3) rF go) λr s4 ⟨u,hr,h4⟩=> ?_);subst hr;refine wpAny_passesOwn hp (cz h4 λ_ s5 ⟨x,H5,I5,r5,y5,NA,fr5⟩=> ?_);have I5':=I5.pinned (p9 fr5) (T.obj _ _ NA);refine wpAny_passesOwn hp (cz (hg _ s5 σ3 H5 x u _ I5' r5 (step x H5 y5)) λ_ s6 ⟨σ6,H6,I6,q6⟩=> ?_);refine wpAny_passesOwn hp (cz (hb _ s6 σ6 H6 _ I6 q6) λf s7 q7=> ?_);have again: ∀ {σ7:St} {H7:Hp},Inv X (ae++gh fp s5.heap) σ7 H7 s7 ->N σ7 H7 -> ∃m,m<n /\ dH λi σ' H'=>eu (Inv X ae σ' H' s7) (tn i s7.heap) (∀b∈fp,H' b=none) (W i m σ' H'):=λ{σ7 H7} I7 n7=>by obtain⟨m',hm,w7⟩:=hN σ7 H7 n7;refine⟨m',hm,i+1,σ7,H7,I7.gS,T.keep _ _ _ NA λb hb o e=>(I7.pin (b,o) (aK _ (aK _ (d3 hb e)))).1,λb hb=> ?_,w7⟩;obtain⟨o,e,d⟩:=T.obj _ _ NA b hb;exact(I7.pin (b,o) (aK _ (aK _ (d3 hb e)))).2.1
  cases f with
  | next=>obtain⟨σ7,H7,I7,n7⟩:=q7;exact again I7 n7
  | cont=>obtain⟨σ7,H7,I7,n7⟩:=q7;exact again I7 n7
  | brk=>obtain⟨σ7,H7,I7,q7⟩:=q7;exact⟨σ7,H7,I7.gS,q7⟩
  | ret v=>obtain⟨x7,σ7,H7,I7,r7,q7⟩:=q7;exact⟨x7,σ7,H7,I7.gS,r7,q7⟩
end
abbrev R2:=V ->V ->Hp ->VK ->Prop
def gO (X:Cx)(f:Value ->Value ->Sem Value)(r:R2):Prop:=∀ (ae:List (Addr×Obj)) (s:Shared) (σ:St) (H:Hp) (x y:V) (v u:Value) (Q:VK),Inv X ae σ H s ->RelV x v ->RelV y u ->r x y H Q ->wpAny (model X.prog X.w) X.A (f v u) (EP X ae σ Q) X.xe s
def UnR (X:Cx)(f:Value ->Sem Value)(r:V ->Hp ->VK ->Prop):Prop:=∀ (ae:List (Addr×Obj)) (s:Shared) (σ:St) (H:Hp) (x:V) (v:Value) (Q:VK),Inv X ae σ H s ->RelV x v ->r x H Q ->wpAny (model X.prog X.w) X.A (f v) (EP X ae σ Q) X.xe s
def eN (X:Cx)(f:Value)(r:List V ->Hp ->VK ->Prop):Prop:=∀ (ae:List (Addr×Obj)) (s:Shared) (σ:St) (H:Hp) (xs:List V) (us:List Value) (Q:VK),Inv X ae σ H s ->bY xs us ->r xs H Q ->wpAny (model X.prog X.w) X.A (call f us) (EP X ae σ Q) X.xe s
def OO (r:R2)(ta tb:TE):TE:=λσ H Q=>ta σ H λx H1=>tb σ H1 λy H2=>r x y H2 Q
def tUn (r:V ->Hp ->VK ->Prop)(ta:TE):TE:=λσ H Q=>ta σ H λx H1=>r x H1 Q
def rI (C:Int ->Int ->Prop)(g:Int ->Int ->V):R2:=λx y H Q=>ca λi j=>eu (x= .int i) (y= .int j) (C i j) (Q (g i j) H)
def Hm (g:Int ->Int ->V):R2:=λx y H Q=>ca λi j=>cM (x= .int i) (y= .int j) (Q (g i j) H)
def rU (g:Int ->V):V ->Hp ->VK ->Prop:=λx H Q=> ∃i,x= .int i /\ Q (g i) H
section
variable {X:Cx}{a b c:Expr}{ta tb tc:TE}{pos:Pos}
theorem Nc (ha:PE X a ta)(hb:PE X b tb){ae:List (Addr×Obj)}{s:Shared}{σ:St}{H:Hp}{R:V ->V ->Hp ->Prop}(I:Inv X ae σ H s) (h:ta σ H λx H1=>tb σ H1 λy H2=>R x y H2) {Q:Value ->Shared ->Prop} {f:Value ->Value ->Sem Value} (hf: ∀v u s2 x y H2,Inv X ae σ H2 s2 ->RelV x v ->RelV y u ->R x y H2 ->wpAny (model X.prog X.w) X.A (f v u) Q X.xe s2): wpAny (model X.prog X.w) X.A (eval a X.env) (λv s₁=>wpAny (model X.prog X.w) X.A (eval b X.env) (λu s₂=>wpAny (model X.prog X.w) X.A (f v u) Q X.xe s₂) X.xe s₁) X.xe s:=by refine cz (ha ae s σ H _ I h) λv s1 ⟨x,H1,I1,r1,q1⟩=> ?_;refine cz (hb ae s1 σ H1 _ I1 q1) λu s2 ⟨y,H2,I2,r2,q2⟩=> ?_;exact hf v u s2 x y H2 I2 r1 r2 q2
theorem bU {op:Operator}{r:R2}(ho:gO X (binaryOp op) r)(ha:PE X a ta)(hb:PE X b tb):PE X (.BinOp a op b pos) (OO r ta tb):=by intro ae s σ H Q I h;exact wpAny_BinOp (Nc ha hb I h λv u s2 x y H2 I2 rx ry q=>ho ae s2 σ H2 x y v u Q I2 rx ry q)
theorem fq {op:UnaryOp}{r:V ->Hp ->VK ->Prop}(ho:UnR X (unaryOp op) r)(ha:PE X a ta):PE X (.UnaryOp op a pos) (tUn r ta):=by intro ae s σ H Q I h;exact UnaryOp_ (cz (ha ae s σ H _ I h) λv s1 ⟨x,H1,I1,r1,q1⟩=>ho ae s1 σ H1 x v Q I1 r1 q1)
theorem Sw {f:Value ->Value ->Sem Value}{C:Int ->Int ->Prop}{g:Int ->Int ->Int} (rule: ∀ (i j:Int) (t u:Tok) (s:Shared) (Q:Value ->Shared ->Prop) (E:Value ->Shared ->Prop),C i j ->Q (.int (g i j) s.toks) {s with toks:=s.toks+1} ->wpAny (model X.prog X.w) X.A (f (.int i t) (.int j u)) Q E s): gO X f (rI C λi j=> .int (g i j)):=by intro ae s σ H x y v u Q I rx ry h;obtain⟨i,j,rfl,rfl,hc,q⟩:=h;obtain⟨t,rfl⟩:=rx;obtain⟨t',rfl⟩:=ry;exact rule i j t t' s _ _ hc ⟨.int (g i j),H,I.tok _,⟨_,rfl⟩,q⟩
theorem PK {f:Value ->Value ->Sem Value}{g:Int ->Int ->Int} (rule: ∀ (i j:Int) (t u:Tok) (s:Shared) (Q:Value ->Shared ->Prop) (E:Value ->Shared ->Prop),Q (.int (g i j) s.toks) {s with toks:=s.toks+1} ->wpAny (model X.prog X.w) X.A (f (.int i t) (.int j u)) Q E s): gO X f (Hm λi j=> .int (g i j)):=by intro ae s σ H x y v u Q I rx ry h;obtain⟨i,j,rfl,rfl,q⟩:=h;obtain⟨t,rfl⟩:=rx;obtain⟨t',rfl⟩:=ry;exact rule i j t t' s _ _ ⟨.int (g i j),H,I.tok _,⟨_,rfl⟩,q⟩
theorem HE {f:Value ->Value ->Sem Value}{g:Int ->Int ->Bool} (rule: ∀ (i j:Int) (t u:Tok) (s:Shared) (Q:Value ->Shared ->Prop) (E:Value ->Shared ->Prop),Q (.bool (g i j)) s ->wpAny (model X.prog X.w) X.A (f (.int i t) (.int j u)) Q E s): gO X f (Hm λi j=> .bl (g i j)):=by intro ae s σ H x y v u Q I rx ry h;obtain⟨i,j,rfl,rfl,q⟩:=h;obtain⟨t,rfl⟩:=rx;obtain⟨t',rfl⟩:=ry;exact rule i j t t' s _ _ ⟨.bl (g i j),H,I,rfl,q⟩
def GH (i j:Int):Prop:=0<j /\ j<1073741824
def Np (i j:Int):Prop:=0<=j /\ j<=1000000 /\ i.natAbs<2 ^ 64
def kL (i j:Int):Prop:=(-(2 ^ 64) <i /\ i<2 ^ 64) \/ (-(2 ^ 64) <j /\ j<2 ^ 64)
theorem kL.ok {i j:Int}(h:kL i j):IntMulOk i j:=by
 rcases h with⟨h1,h2⟩ | ⟨h1,h2⟩
 exact .of_left (intBits_le_64 h1 h2);exact .of_right (intBits_le_64 h1 h2)
theorem dQ:gO X (binaryOp .Add) (Hm λi j=> .int (i+j)):=PK λ_ _ _ _ _ _ _ q=>add_int q
theorem uH:gO X (binaryOp .Sub) (Hm λi j=> .int (i - j)):=PK λ_ _ _ _ _ _ _ q=>sub_int q
theorem fK:gO X (binaryOp .Mult) (rI kL λi j=> .int (i*j)):=Sw λ_ _ _ _ _ _ _ hc q=>mul_int q hc.ok
theorem Ay:gO X (binaryOp .FloorDiv) (rI GH λi j=> .int (i / j)):=Sw λi j _ _ _ _ _ hc q=>by have h1:(0:Int) <j:=hc.1;have h2:j<1073741824:=hc.2;exact floordiv_int ∅ (by rw[Int.fdiv_eq_ediv_of_nonneg i ∅];exact q) (.inl (PyProof.noPylong_small ∅))
theorem jy:gO X (binaryOp .Mod) (rI (λ_ j=>0<j) λi j=> .int (i % j)):=Sw λi j _ _ _ _ _ hc q=>by have h1:(0:Int) <j:=hc;exact mod_int' ∅ (by rw[Int.fmod_eq_emod_of_nonneg i ∅];exact q)
theorem LW:gO X (binaryOp .Pow) (rI Np λi j=> .int (i ^ j.toNat)):=Sw λ_ _ _ _ _ _ _ hc q=>pow_int_small hc.1 hc.2.1 hc.2.2 q
theorem unI {f:Value ->Sem Value}{g:Int ->Int} (rule: ∀ (i:Int) (t:Tok) (s:Shared) (Q:Value ->Shared ->Prop) (E:Value ->Shared ->Prop),Q (.int (g i) s.toks) {s with toks:=s.toks+1} ->wpAny (model X.prog X.w) X.A (f (.int i t)) Q E s): UnR X f (rU λi=> .int (g i)):=by intro ae s σ H x v Q I rx h;obtain⟨i,rfl,q⟩:=h;obtain⟨t,rfl⟩:=rx;exact rule i t s _ _ ⟨.int (g i),H,I.tok _,⟨_,rfl⟩,q⟩
theorem dY:UnR X (unaryOp .USub) (rU λi=> .int (-i)):=unI λ_ _ _ _ _ q=>neg_int q
end
def Hh:V ->V ->Bool
 | .dC, .dC=>true | .dC, .int _=>true | .int _, .dC=>true | .dC, .bl _=>true | .bl _, .dC=>true | .dC, .str _=>true | .str _, .dC=>true
 | .int _, .int _=>true | .bl _, .bl _=>true | .str _, .str _=>true | .CQ _, .CQ _=>true
 | .int _, .str _=>true | .str _, .int _=>true | .bl _, .str _=>true | .str _, .bl _=>true
 | _,_=>false
def rEq:R2:=λx y H Q=>Hh x y=true /\ Q (.bl (decide (x=y))) H
def rNe:R2:=λx y H Q=>Hh x y=true /\ Q (.bl (!decide (x=y))) H
theorem Bd {i j:Int}:decide (V.int i=V.int j)=(i==j):=by rw[Bool.eq_iff_iff];simp
theorem FP {i j:Bool}:decide (V.bl i=V.bl j)=(i==j):=by rw[Bool.eq_iff_iff];simp
theorem Bc {i j:Str}:decide (V.str i=V.str j)=(i==j):=by rw[Bool.eq_iff_iff];simp
theorem Be {i j:Array UInt8}:decide (V.CQ i=V.CQ j)=(i.toList==j.toList):=by rw[Bool.eq_iff_iff];cases i;cases j;simp
section
variable {X:Cx}{a b c:Expr}{ta tb tc:TE}{pos:Pos}
theorem cx {ae:List (Addr×Obj)}{σ:St}{H:Hp}{s:Shared}{Q:VK}{k k':Bool}(I:Inv X ae σ H s)(q:Q (.bl k) H)(e:k=k'):EP X ae σ Q (.bool k') s:=by subst e;exact⟨.bl k,H,I,rfl,q⟩
theorem dq:gO X (compareOp .Eq) rEq:=by
 intro ae s σ H x y v u Q I rx ry h;obtain⟨hs,q⟩:=h;cases x with
 | dC=>
  cases rx;cases y with
  | dC=>cases ry;exact PySem.EqNone.eq_none_none (cx I q (by simp))
  | bl j=>cases ry;exact PySem.EqNone.eq_none_bool (cx I q (by simp))
  | int j=>obtain⟨t',rfl⟩:=ry;exact PySem.EqNone.eq_none_int (cx I q (by simp))
  | str j=>obtain⟨t',rfl⟩:=ry;exact PySem.EqNone.eq_none_str (cx I q (by simp))
  | _=>exact absurd (show false=true from hs) aV
 | bl i=>
  cases rx;cases y with
  | dC=>cases ry;exact PySem.EqNone.eq_bool_none (cx I q (by simp))
  | bl j=>cases ry;exact eq_bool (cx I q FP)
  | str j=>obtain⟨t',rfl⟩:=ry;exact PySem.EqMixed.eq_bool_str (cx I q (by simp))
  | _=>exact absurd (show false=true from hs) aV
 | int i=>
  obtain⟨t,rfl⟩:=rx;cases y with
  | dC=>cases ry;exact PySem.EqNone.eq_int_none (cx I q (by simp))
  | int j=>obtain⟨t',rfl⟩:=ry;exact eq_int (cx I q Bd)
  | str j=>obtain⟨t',rfl⟩:=ry;exact PySem.EqMixed.eq_int_str (cx I q (by simp))
  | _=>exact absurd (show false=true from hs) aV
 | str i=>
  obtain⟨t,rfl⟩:=rx;cases y with
  | dC=>cases ry;exact PySem.EqNone.eq_str_none (cx I q (by simp))
  | bl j=>cases ry;exact PySem.EqMixed.eq_str_bool (cx I q (by simp))
  | int j=>obtain⟨t',rfl⟩:=ry;exact PySem.EqMixed.eq_str_int (cx I q (by simp))
  | str j=>obtain⟨t',rfl⟩:=ry;exact eq_str (cx I q Bc)
  | _=>exact absurd (show false=true from hs) aV
 | CQ i=>
  obtain⟨t,rfl⟩:=rx;cases y with
  | CQ j=>obtain⟨t',rfl⟩:=ry;exact PySem.W.eq_bytes (cx I q Be)
  | _=>exact absurd (show false=true from hs) aV
 | _=>cases y<;>exact absurd (show false=true from hs) aV
theorem wv:gO X (compareOp .NotEq) rNe:=by
 intro ae s σ H x y v u Q I rx ry h;obtain⟨hs,q⟩:=h;cases x with
 | dC=>
  cases rx;cases y with
  | dC=>cases ry;exact PySem.EqNone.ne_none_none (cx I q (by simp))
  | bl j=>cases ry;exact PySem.EqNone.ne_none_bool (cx I q (by simp))
  | int j=>obtain⟨t',rfl⟩:=ry;exact PySem.EqNone.ne_none_int (cx I q (by simp))
  | str j=>obtain⟨t',rfl⟩:=ry;exact PySem.EqNone.ne_none_str (cx I q (by simp))
  | _=>exact absurd (show false=true from hs) aV
 | bl i=>
  cases rx;cases y with
  | dC=>cases ry;exact PySem.EqNone.ne_bool_none (cx I q (by simp))
  | bl j=>cases ry;exact ne_bool (cx I q (congrArg not FP))
  | str j=>obtain⟨t',rfl⟩:=ry;exact PySem.EqMixed.ne_bool_str (cx I q (by simp))
  | _=>exact absurd (show false=true from hs) aV
 | int i=>
  obtain⟨t,rfl⟩:=rx;cases y with
  | dC=>cases ry;exact PySem.EqNone.ne_int_none (cx I q (by simp))
  | int j=>obtain⟨t',rfl⟩:=ry;exact ne_int (cx I q (congrArg not Bd))
  | str j=>obtain⟨t',rfl⟩:=ry;exact PySem.EqMixed.ne_int_str (cx I q (by simp))
  | _=>exact absurd (show false=true from hs) aV
 | str i=>
  obtain⟨t,rfl⟩:=rx;cases y with
  | dC=>cases ry;exact PySem.EqNone.ne_str_none (cx I q (by simp))
  | bl j=>cases ry;exact PySem.EqMixed.ne_str_bool (cx I q (by simp))
  | int j=>obtain⟨t',rfl⟩:=ry;exact PySem.EqMixed.ne_str_int (cx I q (by simp))
  | str j=>obtain⟨t',rfl⟩:=ry;exact ne_str (cx I q (congrArg not Bc))
  | _=>exact absurd (show false=true from hs) aV
 | CQ i=>
  obtain⟨t,rfl⟩:=rx;cases y with
  | CQ j=>obtain⟨t',rfl⟩:=ry;exact PySem.W.ne_bytes (cx I q (congrArg not Be))
  | _=>exact absurd (show false=true from hs) aV
 | _=>cases y<;>exact absurd (show false=true from hs) aV
theorem n9:gO X (compareOp .Lt) (Hm λi j=> .bl (decide (i<j))):=HE λ_ _ _ _ _ _ _ q=>lt_int q
theorem qg:gO X (compareOp .LtE) (Hm λi j=> .bl (decide (i<=j))):=HE λ_ _ _ _ _ _ _ q=>le_int q
theorem EL:gO X (compareOp .Gt) (Hm λi j=> .bl (decide (j<i))):=HE λ_ _ _ _ _ _ _ q=>gt_int q
theorem EM:gO X (compareOp .GtE) (Hm λi j=> .bl (decide (j<=i))):=HE λ_ _ _ _ _ _ _ q=>ge_int q
theorem BR:gO X (compareOp .In) (λx y H Q=>ca λi j=>cM (x= .str i) (y= .str j) (Q (.bl (!(Builtin.Str.occurrences j i 0 j.length 1).isEmpty)) H)):=by intro ae s σ H x y v u Q I rx ry h;obtain⟨i,j,rfl,rfl,q⟩:=h;obtain⟨t,rfl⟩:=rx;obtain⟨t',rfl⟩:=ry;exact in_str (cx I q rfl)
theorem bj (b:Expr){op:CmpOp}(h:op≠ .In:=by decide)(h2:op≠ .NotIn:=by decide):behindInMarks op b=false:=by
 have e1:(op==CmpOp.In)=false:=by cases op<;>first | rfl | exact absurd rfl h
 have e2:(op==CmpOp.NotIn)=false:=by cases op<;>first | rfl | exact absurd rfl h2
 cases b<;>simp[behindInMarks,e1,e2]
theorem eV {op:CmpOp}{r:R2}(ho:gO X (compareOp op) r)(ha:PE X a ta)(hb:PE X b tb)(hm:behindInMarks op b=false):PE X (.Compare a [op] [b] pos) (OO r ta tb):=by intro ae s σ H Q I h;exact wpAny_Compare1 (Nc ha hb I h λv u s2 x y H2 I2 rx ry q=>ho ae s2 σ H2 x y v u Q I2 rx ry q) hm
def DP (t:TE):TT:=λσ H Q=>t σ H λx H'=> ∃k,x= .bl k /\ Q k H'
theorem a6 {op:CmpOp}{r:R2}(ho:gO X (compareOp op) r)(ha:PE X a ta)(hb:PE X b tb)(hm:behindInMarks op b=false):PT X (.Compare a [op] [b] pos) (DP (OO r ta tb)):=by intro ae s σ H Q I h;refine wpAny_isTrue_Compare1 (cz (ha ae s σ H _ I h) λv s1 ⟨x,H1,I1,r1,q1⟩=>cz (hb ae s1 σ H1 _ I1 q1) λu s2 ⟨y,H2,I2,r2,q2⟩=>cz (ho ae s2 σ H2 x y v u _ I2 r1 r2 q2) λc s3 ⟨z,H3,I3,r3,k,e,q3⟩=> ?_) hm;subst e;cases r3;exact cc ⟨H3,I3,q3⟩
def yq (r r':R2)(ta tb tc:TE):TE:=λσ H Q=>ta σ H λx H1=>tb σ H1 λy H2=>r x y H2 λz H3=> ∃k,z= .bl k /\(if k=true then tc σ H3 λw' H4=>r' y w' H4 Q else Q (.bl false) H3)
theorem EC {op LZ:CmpOp}{r r':R2}(ho:gO X (compareOp op) r)(pK:gO X (compareOp LZ) r')(ha:PE X a ta)(hb:PE X b tb)(hc:PE X c tc) (hm:lastMarks [op,LZ] [b,c]=false:=by with_unfolding_all rfl):PE X (.Compare a [op,LZ] [b,c] pos) (yq r r' ta tb tc):=by
 intro ae s σ H Q I h;refine Compare_chain (cz (ha ae s σ H _ I h) λv s1 ⟨x,H1,I1,r1,q1⟩=>chain_link (cz (hb ae s1 σ H1 _ I1 q1) λu s2 ⟨y,H2,I2,r2,q2⟩=>cz (ho ae s2 σ H2 x y v u _ I2 r1 r2 q2) λd s3 ⟨z,H3,I3,r3,k,e,q3⟩=> ?_)) hm;subst e;cases r3;refine cc ?_;cases k with
 | false=>exact ite_ff ⟨.bl false,H3,I3,rfl,q3⟩
 | true=>exact ite_tt (chain_last (cz (hc ae s3 σ H3 _ I3 q3) λw' s4 ⟨z',H4,I4,r4,q4⟩=>pK ae s4 σ H4 y z' u w' Q I4 r2 r4 q4))
theorem wo {op LZ:CmpOp}{r r':R2}(ho:gO X (compareOp op) r)(pK:gO X (compareOp LZ) r')(ha:PE X a ta)(hb:PE X b tb)(hc:PE X c tc) (hm:lastMarks [op,LZ] [b,c]=false:=by with_unfolding_all rfl):PT X (.Compare a [op,LZ] [b,c] pos) (DP (yq r r' ta tb tc)):=by
 intro ae s σ H Q I h;refine isTrue_chain (cz (ha ae s σ H _ I h) λv s1 ⟨x,H1,I1,r1,q1⟩=>test_link (cz (hb ae s1 σ H1 _ I1 q1) λu s2 ⟨y,H2,I2,r2,q2⟩=>cz (ho ae s2 σ H2 x y v u _ I2 r1 r2 q2) λd s3 ⟨z,H3,I3,r3,k,e,q3⟩=> ?_)) hm;subst e;cases r3;refine cc ?_;cases k with
 | false=>obtain⟨k',e',q'⟩:=q3;cases e';exact ite_ff ⟨H3,I3,q'⟩
 | true=>refine ite_tt (test_last (cz (hc ae s3 σ H3 _ I3 q3) λw' s4 ⟨z',H4,I4,r4,q4⟩=>cz (pK ae s4 σ H4 y z' u w' _ I4 r2 r4 q4) λd' s5 ⟨z2,H5,I5,r5,k2,e2,q5⟩=> ?_));subst e2;cases r5;exact cc ⟨H5,I5,q5⟩
theorem nv:(sizeLine:Nat) <2 ^ 63:=by rw[sizeLine_eq];decide
theorem yG:gO X (binaryOp .Add) (λx y H Q=>ca λi j=>eu (x= .str i) (y= .str j) (i.length+j.length<=sizeLine) (Q (.str (i++j)) H)):=by intro ae s σ H x y v u Q I rx ry h;obtain⟨i,j,rfl,rfl,hz,q⟩:=h;obtain⟨t,rfl⟩:=rx;obtain⟨t',rfl⟩:=ry;exact add_str (λt' tk=>⟨.str (i++j),H,I.tok _,⟨_,rfl⟩,q⟩) hz
theorem vals1 {x:V}{us:List Value}(r:bY [x] us): ∃u,us= [u] /\ RelV x u:=by
 cases r with
 | cons r1 r2=>cases r2;exact⟨_,rfl,r1⟩
theorem vals2 {x y:V}{us:List Value}(r:bY [x,y] us):ca λu w'=>cM (us= [u,w']) (RelV x u) (RelV y w'):=by
 cases r with
 | cons r1 r2=>
  cases r2 with
  | cons r3 r4=>cases r4;exact⟨_,_,rfl,r1,r3⟩
theorem Ga:eN X (.builtin "abs") (λxs H Q=> ∃i,xs= [.int i] /\ Q (.int (if i<0 then -i else i)) H):=by intro ae s σ H xs us Q I r h;obtain⟨i,rfl,q⟩:=h;obtain⟨u,rfl,t,rfl⟩:=vals1 r;exact call_abs_int λu tk=>⟨.int (if i<0 then -i else i),H,I.tok _,⟨_,rfl⟩,q⟩
end
structure zt (h:Heap)(x dx C:Addr)(mA:Str ->Option Value):Prop where
 obj:h.get? x=some (PySem.W.instObj C dx)
 ns:h.Ns1 dx mA
 ne:dx≠x
theorem Cg {h:Heap}{dx:Addr}{mA:Str ->Option Value}(n:h.Ns1 dx mA): ∃od,h.get? dx=some od /\ ∀name,PySem.W.lookIn name od=some (mA name):=by
 obtain⟨o,es,ep,ho,hd,hk,_,hm⟩:=n;refine⟨o,ho,λname=> ?_⟩;have e:=hm name;unfold nsFind findBy at e;rw[<- Array.find?_toList] at e;unfold PySem.W.lookIn;rw[hd];dsimp only;split;rename_i y q;rw[q] at e;exact congrArg some e;rename_i q;rw[q] at e;have a:es.toList.any (·.refKey)=false:=by rw[List.any_eq_false];intro y hy;obtain⟨z,t,y9⟩:=hk y (Array.mem_toList_iff.mp hy);simp[DictEntry.refKey,y9]
 have a':¬es.toList.any (·.refKey)=true:=by rw[a];exact aV
 rw[aj a'];exact congrArg some e
theorem zt.look {h:Heap}{x dx C:Addr}{mA:Str ->Option Value}(I:zt h x dx C mA): ∃od,PySem.W.InstAt h x (PySem.W.instObj C dx) C (some od) /\ ∀name,PySem.W.lookIn name od=some (mA name):=
 let ⟨od,ho,hl⟩:=Cg I.ns
 ⟨od,⟨I.obj,rfl,rfl,ho⟩,hl⟩
section
variable {prog:Program}{w:World}{A:Around}{E:Value ->Shared ->Prop}{s:Shared}{K:PySem.W.Frag}{x dx C f:Addr}{mA:Str ->Option Value}{name:Str}{v:Value}
theorem Ix {aaU:Bool}{Q:Value ->Shared ->Prop}(X:K.In s.heap)(I:zt s.heap x dx C mA)(hg:PySem.W.plainGet K C name=true)(hh:PySem.W.hasDictIn K C=true) (ha:PySem.W.findIn K (.ref C) name=some none) (hv:mA name=some v) (Im:PySem.W.handedIn v=true) (h:Q v {s with toks:=s.toks+1}): wpAny (model prog w) A (getAttr (.ref x) name aaU) Q E s:=by obtain⟨od,J,hl⟩:=I.look;exact PySem.W.get_value X J (PySem.W.plainGet_of hg).1 (PySem.W.findObj_own hh ha rfl (by rw[hl,hv])) Im h
theorem Fy {pl:Sem Bool}{Q:Value×List Value ->Shared ->Prop}(X:K.In s.heap)(I:zt s.heap x dx C mA)(hg:PySem.W.plainGet K C name=true) (hf:PySem.W.findIn K (.ref C) name=some (some (.ref f))) (ht:PySem.W.isFn K (.ref f)=true) (hv:mA name=none) (h:Q (.ref f,[.ref x]) s): wpAny (model prog w) A (getMethod (.ref x) name pl) Q E s:=by obtain⟨od,J,hl⟩:=I.look;exact PySem.W.method_fn X J (PySem.W.plainGet_of hg).1 (PySem.W.plainGet_of hg).2 hf (beq_iff_eq.mp ht) (by show(PySem.W.lookIn name od).map (·.isSome)=some false;rw[hl,hv];rfl) h
theorem Hf {ns:List Str}{Q:Unit ->Shared ->Prop}(X:K.In s.heap)(I:zt s.heap x dx C mA) (hs:PySem.W.findIn K (.ref C) "__setattr__" =some (some (.builtin "object.__setattr__"))) (hp:PySem.W.plainOver K C=true) (ht:PySem.W.takerIn K C name=some none) (hh:PySem.W.hasDictIn K C=true) (hw:PySem.Within mA ns) (hsz:ns.length<=sizeLine) (h: ∀h',zt h' x dx C (λy=>if y=name then some v else mA y) ->Heap.SameBut dx s.heap h' ->Q () {s with heap:=h',toks:=s.toks+2}): wpAny (model prog w) A (setAttr (.ref x) name v) Q E s:=by obtain⟨od,J,hl⟩:=I.look;refine PySem.W.set_plain X J hs (PySem.W.osa_open (s:= {s with toks:=s.toks+1}) (r:=none) X J hp ht λb=> ?_);obtain⟨cd,hc,QK⟩:=PySem.W.any_some hh;have hx:s.heap.get? x=some ⟨.ref C,some dx, .plain, #[]⟩:=I.obj;refine ar (aR (ar (ar (wpAny_loadPart hx (ar (PySem.W.Looks.here (s:= {s with toks:=s.toks+1}) (PySem.W.looks_clsIn X hc) ?_))))));rw[QK];refine aR (a:=some dx) (ar (aR (ar ?_)));refine wpAny_nsSet1 (s:= {s with toks:=s.toks+1}) I.ns λh' Cv Ct=> ?_;obtain⟨oD,esD,epD,hoD,hdD,hcD⟩:=Cv.count (PySem.Within.cons name v hw);refine ar (wpAny_lookBehind hoD (by rw[hdD];exact pastItsLine_dict (av hcD (by rw[aB];lia))) ?_);exact aR (h _ ⟨(Ct.2 _ (cV I.ne)).trans I.obj,Cv,I.ne⟩ Ct)
theorem EW {R:Result ->Shared ->Prop}{vs:List Value}{kw:List (Str×Value)}(X:K.In s.heap)(hm:PySem.W.makesIn K C=true) (hi:PySem.W.findIn K (.ref C) "__init__" =some (some (.ref f))) (hf:PySem.W.typeIn K (.ref f)=some (.type "function")) (h:codeAny (model prog w) (A.under (.builtin "type.__call__" ⟨.ref C::vs,kw⟩)) (.call (.ref f) ⟨.ref (s.heap.objs.size+1)::vs,kw⟩) (PySem.W.InitBack (s.heap.objs.size+1) R) {s with heap:=(s.heap.push PySem.W.emptyDict).push (PySem.W.instObj C s.heap.objs.size)}): codeAny (model prog w) A (.call (.ref C) ⟨vs,kw⟩) R s:=by obtain⟨hh,g,d,t,os⟩:=s;exact PySem.W.make_core (PySem.W.makes_of X hm) (PySem.W.looks_findIn X hi) (λself=>PySem.W.bind_fn X self hf) (.inl rfl) h
end
def hG (f:Str)(v:V):List (Str×V) ->List (Str×V)
 | []=> [(f,v)]
 | (g,x)::r=>if g=f then(g,v)::r else(g,x)::hG f v r
theorem og (f g:Str)(v:V): ∀fs:List (Str×V),(hG f v fs).lookup g=if g=f then some v else fs.lookup g
 | []=>by show List.lookup g [(f,v)]=_;by_cases h:g=f;have hb:(g==f)=true:=beq_iff_eq.mpr h;simp only[List.lookup,hb,ak h];have hb:(g==f)=false:=beq_eq_false_iff_ne.mpr h;simp only[List.lookup,hb,aj h]
 | (k, x)::r=>by have ih:=og f g v r;rw[show hG f v ((k,x)::r)=(if k=f then(k,v)::r else(k,x)::hG f v r) from rfl];by_cases hk:k=f;rw[ak hk];by_cases h:g=k;have hb:(g==k)=true:=beq_iff_eq.mpr h;simp only[List.lookup,hb,ak (h.trans hk)];have hb:(g==k)=false:=beq_eq_false_iff_ne.mpr h;simp only[List.lookup,hb,aj (λe:g=f=>h (e.trans hk.symm))];rw[aj hk];by_cases h:g=k;have hb:(g==k)=true:=beq_iff_eq.mpr h;simp only[List.lookup,hb,aj (λe:g=f=>hk (h.symm.trans e))];have hb:(g==k)=false:=beq_eq_false_iff_ne.mpr h;simp only[List.lookup,hb];exact ih
theorem nw (f:Str)(v:V): ∀fs:List (Str×V),f∈(hG f v fs).map (·.1) /\ ∀g,g∈fs.map (·.1) ->g∈(hG f v fs).map (·.1)
 | []=>⟨by simp[hG],λg h=>by simp at h⟩
 | (k, x)::r=>by obtain⟨i1,i2⟩:=nw f v r;rw[show hG f v ((k,x)::r)=(if k=f then(k,v)::r else(k,x)::hG f v r) from rfl];by_cases hk:k=f;rw[ak hk];subst hk;exact⟨by simp,λg h=> ⇑h⟩;rw[aj hk];refine⟨?_,λg h=> ?_⟩;rw[az];exact cP _ i1;rw[az] at h ⊢;rcases aS.mp h with e | e;exact aS.mpr (.inl e);exact cP _ (i2 g e)
theorem oi (f:Str)(v:V): ∀fs:List (Str×V),(hG f v fs).length<=fs.length+1
 | []=>by simp[hG]
 | (k,x)::r=>by have ih:=oi f v r;rw[show hG f v ((k,x)::r)=(if k=f then(k,v)::r else(k,x)::hG f v r) from rfl];by_cases hk:k=f;rw[ak hk,aB,aB];lia;rw[aj hk,aB,aB];lia
theorem iL.some_of {v:V}{o:Option Value}(r:iL (some v) o): ∃u,o=some u /\ RelV v u:=by
 cases o with
 | none=>exact(show False from r).elim
 | some u=>exact⟨u,rfl,r⟩
theorem iL.none_of {o:Option Value}(r:iL none o):o=none:=by
 cases o with
 | none=>rfl
 | some u=>exact(show False from r).elim
theorem CA {v:V}{u:Value}(r:RelV v u):PySem.W.handedIn u=true:=by
 cases v with
 | dC=>cases (show u=Value.none from r);rfl
 | bl b=>cases (show u=Value.bool b from r);rfl
 | int i=>obtain⟨t,e⟩:=(show ∃t,u=Value.int i t from r);cases e;rfl
 | str x=>obtain⟨t,e⟩:=(show ∃t,u=Value.str x t from r);cases e;rfl
 | CQ b=>obtain⟨t,e⟩:=(show ∃t,u=Value.bytes b t from r);cases e;rfl
 | IF b=>obtain⟨t,e⟩:=(show ∃t,u=Value.float b t from r);cases e;rfl
 | ref a=>cases (show u=Value.ref a from r);rfl
 | ty n=>cases (show u=Value.type n from r);rfl
section
variable {P:Program}{w:World}{H H':Hp}{h h':Heap}{a C dx:Addr}{fs fs':List (Str×V)}
theorem pI (cF:kA P w H h)(e:H a=some (.ins C dx fs)): ∃mA,fo (zt h a dx C mA) (∀f,iL (fs.lookup f) (mA f)) (PySem.Within mA (fs.map (·.1))) (fs.length<=1000) (H dx=some (.own a)):=by
 obtain⟨d,z,ne,ob,mA,n,r,q⟩:=(show dt P w H h a (.ins C dx fs) from cF a _ e)
 exact⟨mA,⟨ob,n,ne⟩,r,q,z,d⟩
end
structure xY (K:PySem.W.Frag)(C:Addr):Prop where
 pg:PySem.W.plainGet K C Str.empty=true
 hd:PySem.W.hasDictIn K C=true
 po:PySem.W.plainOver K C=true
 sa:PySem.W.findIn K (.ref C) "__setattr__" =some (some (.builtin "object.__setattr__"))
theorem xY.get {K:PySem.W.Frag}{C:Addr}(c:xY K C)(f:Str):PySem.W.plainGet K C f=true:=c.pg
def dR (K:PySem.W.Frag)(C:Addr)(f:Str):Prop:=PySem.W.findIn K (.ref C) f=some none
theorem dR.OJ {K:PySem.W.Frag}{C:Addr}{f:Str}(n:dR K C f):PySem.W.takerIn K C f=some none:=by unfold PySem.W.takerIn;rw[show PySem.W.findIn K (.ref C) f=some none from n];rfl
structure Gn (K:PySem.W.Frag)(C:Addr)(m:Str)(f:Addr):Prop where
 at_:PySem.W.findIn K (.ref C) m=some (some (.ref f))
 fn:PySem.W.isFn K (.ref f)=true
 kp:PySem.W.keepIn K (.ref f)=true
section
variable {X:Cx}{ae:List (Addr×Obj)}{σ:St}{H:Hp}{s:Shared}{a C dx:Addr}{fs:List (Str×V)}{f:Str}{v:V}{A:Around}{E:Value ->Shared ->Prop}
theorem ze {b:Bool}{Q:Value ->Shared ->Prop}(I:Inv X ae σ H s)(e:H a=some (.ins C dx fs))(c:xY X.K C)(n:dR X.K C f)(l:fs.lookup f=some v) (h: ∀u s',Inv X ae σ H s' ->RelV v u ->Q u s'):wpAny (model X.prog X.w) A (getAttr (.ref a) f b) Q E s:=by obtain⟨mA,O,r,_,_,_⟩:=pI I.cF e;obtain⟨u,hu,ru⟩:=iL.some_of (v:=v) (o:=mA f) (by rw[<- l];exact r f);exact Ix I.kT O (c.get f) c.hd n hu (CA ru) (h u _ (I.tok _) ru)
theorem iI {m:Str}{g:Addr}{pl:Sem Bool}{Q:Value×List Value ->Shared ->Prop}(I:Inv X ae σ H s)(e:H a=some (.ins C dx fs))(c:xY X.K C)(k:Gn X.K C m g)(l:fs.lookup m=none) (h:Q (.ref g,[.ref a]) s):wpAny (model X.prog X.w) A (getMethod (.ref a) m pl) Q E s:=by obtain⟨mA,O,r,_,_,_⟩:=pI I.cF e;have hn:mA m=none:=iL.none_of (by rw[<- l];exact r m);exact Fy I.kT O (c.get m) k.at_ k.fn hn h
theorem yr {y:V}{u:Value}{Q:Unit ->Shared ->Prop}(I:Inv X ae σ H s)(e:H a=some (.ins C dx fs))(c:xY X.K C)(n:dR X.K C f)(hl:fs.length<1000)(ry:RelV y u) (h: ∀s',Inv X ae σ (cq H a (.ins C dx (hG f y fs))) s' ->Q () s'):wpAny (model X.prog X.w) A (setAttr (.ref a) f u) Q E s:=by
 obtain⟨mA,O,r,wi,_,ho⟩:=pI I.cF e;have hz:(fs.map (·.1)).length<=sizeLine:=by rw[ag,sizeLine_eq];lia
 refine Hf I.kT O c.sa c.po n.OJ c.hd wi hz λh' O' sb=>h _ ?_;have hd: ∃o,h'.get? dx=some o:=let ⟨o,_,_,e',_⟩:=O'.ns;⟨o,e'⟩
 refine I.write (x:=a) (e:=dx) (by rw[e];exact True.intro) (.inr ho) (λb q hb z=>(sb.2 b hb).trans z) hd ?_;refine⟨by rw[bC O.ne];exact ho,?_,O.ne,O'.obj,_,O'.ns,λg=> ?_,λg hg=> ?_⟩;have:=oi f y fs;lia;show iL ((hG f y fs).lookup g) (if g=f then some u else mA g);rw[og];by_cases q:g=f;rw[ak q,ak q];exact ry;rw[aj q,aj q];exact r g;by_cases q:g=f;rw[q];exact(nw f y fs).1;refine(nw f y fs).2 g (wi g λz=>hg ?_);show(if g=f then some u else mA g)=none;rw[aj q];exact z
theorem Inv.made (I:Inv X ae σ H s):Inv X ae σ (cq (cq H s.heap.objs.size (.own (s.heap.objs.size+1))) (s.heap.objs.size+1) (.ins C s.heap.objs.size [])) {s with heap:=(s.heap.push PySem.W.emptyDict).push (PySem.W.instObj C s.heap.objs.size)}:=by
 have e1:(s.heap.push PySem.W.emptyDict).get? s.heap.objs.size=some PySem.W.emptyDict:=aM s.heap rfl;have e2:((s.heap.push PySem.W.emptyDict).push (PySem.W.instObj C s.heap.objs.size)).get? (s.heap.objs.size+1)=some (PySem.W.instObj C s.heap.objs.size):=by have:=aM (s.heap.push PySem.W.emptyDict) (o:=PySem.W.instObj C s.heap.objs.size) rfl;rwa [Heap.size_push] at this
 have e3:(s.heap.push PySem.W.emptyDict).Ns s.heap.objs.size (λ_=>none):=⟨PySem.W.emptyDict, #[],_,e1,rfl,(λe he=>absurd he (by simp)),λ_=>rfl⟩
 have I1:=I.laid (a:=s.heap.objs.size) (o:= .own (s.heap.objs.size+1)) (h':=s.heap.push PySem.W.emptyDict) (t':=s.toks) (λb u q=>aq _ q) (ao _) ⟨_,e1⟩;refine I1.laid (a:=s.heap.objs.size+1) (o:= .ins C s.heap.objs.size []) (t':=s.toks) (λb u q=>aq _ q) (Nat.le_of_eq (Heap.size_push _ _)) ?_;have ne:s.heap.objs.size≠s.heap.objs.size+1:=bg (Nat.lt_succ_self _);refine⟨by rw[bC ne,bI],cZ _,ne,e2,λ_=>none,(Heap.Ns1.of_empty e3).at λo q=>aq _ q,λ_=>True.intro,λy hy=>absurd rfl hy⟩
theorem IZ {prog:Program}{w:World}{env:Env}{e:Expr}{f:Str}{pos:Pos}{s:Shared}{Q:Value ->Shared ->Prop}(hb:attributeBase e f env (eval e env)=eval e env) (h:wpAny (model prog w) A (eval e env) (λo s₁=>wpAny (model prog w) A (getAttr o f true) Q E s₁) E s):wpAny (model prog w) A (eval (.Attribute e f pos) env) Q E s:=Attribute_any_ h (by rw[arm_eval_Attribute,hb])
end
def Lj (K:PySem.W.Frag)(ta:TE)(f:Str):TE:=λσ H Q=>ta σ H λx H1=>se λa C dx fs v=>kz (x= .ref a) (H1 a=some (.ins C dx fs)) (xY K C) (dR K C f) (fs.lookup f=some v) (Q v H1)
def O8 (K:PySem.W.Frag)(ta tv:TE)(f:Str):TS:=λD σ H=>tv σ H λy H1=>ta σ H1 λx H2=>fF λa C dx fs=>kz (x= .ref a) (H2 a=some (.ins C dx fs)) (xY K C) (dR K C f) (fs.length<1000) (D.nx σ (cq H2 a (.ins C dx (hG f y fs))))
section
variable {X:Cx}{o e value:Expr}{f:Str}{pos jw OG:Pos}{ta tv:TE}
theorem LF (he:PE X e ta)(hb:attributeBase e f X.env (eval e X.env)=eval e X.env):PE X (.Attribute e f pos) (Lj X.K ta f):=by intro ae s σ H Q I h;refine IZ hb (cz (he ae s σ H _ I h) λu s1 ⟨x,H1,I1,rx,a,C,dx,fs,v,ex,ea,c,n,l,q⟩=> ?_);subst ex;obtain rfl:u=Value.ref a:=rx;exact ze I1 ea c n l λu' s2 I2 ru=>⟨v,H1,I2,ru,q⟩
theorem iG (ha:PE X o ta)(hv:PE X value tv)(hs:swapsWith value (some (.Attribute o f jw)) pos.line X.env=pure false):PS X (.Assign [.Attribute o f jw] value pos) (O8 X.K ta tv f):=by intro ae s σ H D I h;refine plainObj_wpAny_Assign_Attribute (cz (hv ae s σ H _ I h) λu s1 ⟨y,H1,I1,ry,q⟩=>cz (ha ae s1 σ H1 _ I1 q) λov s2 ⟨x,H2,I2,rx,a,C,dx,fs,ex,ea,c,n,l,q2⟩=> ?_) hs;subst ex;obtain rfl:ov=Value.ref a:=rx;exact yr I2 ea c n l ry λs3 I3=>⟨σ,_,I3,q2⟩
theorem Ke {pl:Sem Bool}{m:Str}{db:Pos}{args:List Expr}{ae:List (Addr×Obj)}{s:Shared}{σ:St}{H:Hp}{Q:Value ->Shared ->Prop}{te:TE}(he:PE X e te)(I:Inv X ae σ H s) (h:te σ H λx H1=>se λa C dx fs g=>kz (x= .ref a) (H1 a=some (.ins C dx fs)) (xY X.K C) (Gn X.K C m g) (fs.lookup m=none) (∀s1,Inv X ae σ H1 s1 ->wpAny (model X.prog X.w) X.A (callWith pos (.ref g) [.ref a] (backTo pos (starEach args X.env)) (backToKw pos (keywordEach [] X.env))) Q X.xe s1)) (ht:eval (.Call (.Attribute e m db) args [] pos) X.env=(do
   let ov <- eval e X.env
   standAt db.atName
   let (f,first) <- holding [ov] (getMethod ov m pl)
   callWith pos f first (backTo pos (starEach args X.env)) (backToKw pos (keywordEach [] X.env)))):
  wpAny (model X.prog X.w) X.A (eval (.Call (.Attribute e m db) args [] pos) X.env) Q X.xe s:=by
 refine PySem.W.methodCall_KW (pl:=pl) (cz (he ae s σ H _ I h) λu s1 ⟨x,H1,I1,rx,a,C,dx,fs,g,ex,ea,c,k,l,q⟩=> ?_) ht
 subst ex
 obtain rfl:u=Value.ref a:=rx
 exact iI I1 ea c k l (q s1 I1)
end
section
variable {X:Cx}{ae:List (Addr×Obj)}{σ:St}{H:Hp}{s:Shared}{A:Around}{E:Value ->Shared ->Prop}{Q:Value ->Shared ->Prop}{c:Value}{b:Bool}
inductive nJ (K:PySem.W.Frag)(H:Hp):V ->Value ->Prop where
 | dC:nJ K H .dC (.type "NoneType")
 | bl (x:Bool):nJ K H (.bl x) (.type "bool")
 | int (i:Int):nJ K H (.int i) (.type "int")
 | str (x:Str):nJ K H (.str x) (.type "str")
 | IF (x:UInt64):nJ K H (.IF x) (.type "float")
 | lst {a:Addr} {xs:List V} (e:H a=some (.lst xs)):nJ K H (.ref a) (.type "list")
 | jd {a:Addr} {o:Obj} {xs:List V} (e:H a=some (.jd o (.lst xs))):nJ K H (.ref a) (.type "list")
 | tup {a:Addr} {xs:List V} (e:H a=some (.tup xs)):nJ K H (.ref a) (.type "tuple")
 | dK {a:Addr} {kvs:List (b8×V)} (e:H a=some (.dK kvs)):nJ K H (.ref a) (.type "dict")
 | dT {a:Addr} {kvs:List (List b8×V)} (e:H a=some (.dT kvs)):nJ K H (.ref a) (.type "dict")
 | ins {a C dx:Addr} {fs:List (Str×V)} (e:H a=some (.ins C dx fs)) (cl:xY K C) (ha:PySem.W.findIn K (.ref C) "__class__" =some (some (.builtin "object.__class__"))) (hn:PySem.W.specialIn K (.builtin "object.__class__") "__get__" =some (some (.builtin "getset_descriptor.__get__"))) (htk:PySem.W.takesIn K (.builtin "object.__class__")=some true) (hm:PySem.W.mroIn K C (.type "object")=some true):nJ K H (.ref a) (.ref C)
theorem Cp {x:V}{u t:Value}(I:Inv X ae σ H s)(rx:RelV x u)(ty:nJ X.K H x t)(e:PySem.W.kitOne X.K t c=some b)(h: ∀tk,Q (.bool b) {s with toks:=tk}): wpAny (model X.prog X.w) A (call (.builtin "isinstance") [u,c]) Q E s:=by
 cases ty with
 | dC=>cases (show u=Value.none from rx);exact bZ PySem.W.kitx_none I.kT True.intro e (λz=>nomatch z) h
 | bl y=>cases (show u=Value.bool y from rx);exact bZ PySem.W.kitx_bool I.kT True.intro e (λz=>nomatch z) h
 | int i=>obtain⟨t,q⟩:=(show ∃t,u=Value.int i t from rx);cases q;exact bZ PySem.W.kitx_int I.kT True.intro e (λz=>nomatch z) h
 | str y=>obtain⟨t,q⟩:=(show ∃t,u=Value.str y t from rx);cases q;exact bZ PySem.W.kitx_str I.kT True.intro e (λz=>nomatch z) h
 | IF y=>obtain⟨t,q⟩:=(show ∃t,u=Value.float y t from rx);cases q;exact bZ PySem.W.kitx_float I.kT True.intro e (λz=>nomatch z) h
 | @lst a xs ea=>
  cases (show u=Value.ref a from rx);obtain⟨_,_,n,_,h1⟩:=(show dt X.prog X.w H s.heap a (.lst xs) from I.cF a _ ea)
  exact bZ PySem.W.kitx_list I.kT ⟨_,h1,rfl⟩ e (λz=>nomatch z) h
 | @jd a ob xs ea=>
  cases (show u=Value.ref a from rx);obtain⟨_,_,_,n,_,h1⟩:=(show dt X.prog X.w H s.heap a (.jd ob (.lst xs)) from I.cF a _ ea)
  exact bZ PySem.W.kitx_list I.kT ⟨_,h1,rfl⟩ e (λz=>nomatch z) h
 | @tup a xs ea=>
  cases (show u=Value.ref a from rx);obtain⟨_,_,_,p⟩:=(show dt X.prog X.w H s.heap a (.tup xs) from I.cF a _ ea)
  obtain⟨o,h1,h2,_⟩:=p;exact bZ PySem.W.kitx_tuple I.kT ⟨o,h1,h2⟩ e (λz=>nomatch z) h
 | @dK a kvs ea=>
  cases (show u=Value.ref a from rx);obtain⟨_,_,vs,_,p⟩:=(show dt X.prog X.w H s.heap a (.dK kvs) from I.cF a _ ea)
  obtain⟨o,es,ep,h1,h2,_⟩:=p;exact bZ PySem.W.kitx_dict I.kT ⟨o,h1,h2.1⟩ e (λz=>nomatch z) h
 | @dT a kvs ea=>
  cases (show u=Value.ref a from rx);obtain⟨_,_,xs,_,o,es,ep,h1,h2,_⟩:=(show dt X.prog X.w H s.heap a (.dT kvs) from I.cF a _ ea)
  exact bZ PySem.W.kitx_dict I.kT ⟨o,h1,h2.1⟩ e (λz=>nomatch z) h
 | @ins a C dx fs ea cl ha hn htk hm=>cases (show u=Value.ref a from rx);obtain⟨mA,O,_⟩:=pI I.cF ea;obtain⟨od,J,_⟩:=O.look;exact bZ (PySem.W.kitx_own (cl.get _) cl.hd ha hn htk hm) I.kT J e (λz=>nomatch z) h
end
structure dG (k:Nat)(A:Around):Prop where
 hd:A.handled=none
 dp:A.depth+3*k+5<recursionLimit
 un:A.units+16*k+200<cLine
theorem dG.mono {j k:Nat}{A:Around}(r:dG k A)(h:j<=k):dG j A:=⟨r.hd,by have:=r.dp;lia,by have:=r.un;lia⟩
theorem dG.deeper {k:Nat}{A:Around}(r:dG (k+1) A)(env:Env):dG k (A.deeper env):=⟨r.hd,by have:=r.dp;show A.depth+1+3*k+5<_;lia,by have:=r.un;show A.units+3+16*k+200<_;lia⟩
theorem yS {A:Around}{C:Addr}{us:List Value}{kw:List (Str×Value)}:(A.under (.builtin "type.__call__" ⟨.ref C::us,kw⟩)).depth=A.depth+1:=by first | rfl | simp[Around.under,Code.weight,Code.isCreation,Code.isGuard,Code.isCaller,Code.frames,Code.isFrame,guardIds]
theorem yR {A:Around}{C:Addr}{us:List Value}{kw:List (Str×Value)}:(A.under (.builtin "type.__call__" ⟨.ref C::us,kw⟩)).units=A.units+1:=by first | rfl | simp[Around.under,Code.cUnits,Code.frames,Code.isFrame]
theorem dG.make {k:Nat}{A:Around}(r:dG (k+1) A)(C:Addr)(us:List Value)(kw:List (Str×Value)):dG k (A.under (.builtin "type.__call__" ⟨.ref C::us,kw⟩)):=⟨r.hd,by have:=r.dp;rw[yS];lia,by have:=r.un;rw[yR];lia⟩
theorem dG.depth {k:Nat}{A:Around}(r:dG k A):A.depth<recursionLimit:=by have:=r.dp;lia
theorem dG.units {k:Nat}{A:Around}(r:dG k A):A.units+64<cLine:=by have:=r.un;lia
def BC:TA:=λ_ H Q=>Q [] H
def DX (ta:TE)(tr:TA):TA:=λσ H Q=>ta σ H λx H1=>tr σ H1 λxs H2=>Q (x::xs) H2
section
variable {X:Cx}{e:Expr}{es:List Expr}{te:TE}{t:TA}{pos:Pos}
theorem af:PA X [] BC:=λ_ _ _ _ H Q I h=>Calls.spliced_nil ⟨[],H,I, .nil,h⟩
theorem aa (ha:PE X e te)(hr:PA X es t)(hs:starEach (e::es) X.env=(false,eval e X.env)::starEach es X.env:=by rfl):PA X (e::es) (DX te t):=by intro pos ae s σ H Q I h;rw[hs];show wpAny _ _ (spliced ((false,eval e X.env)::backTo pos (starEach es X.env))) _ _ s;refine Calls.spliced_cons (cz (ha ae s σ H _ I h) λu s1 ⟨x,H1,I1,r1,q1⟩=> ?_);exact cz (hr pos ae s1 σ H1 _ I1 q1) λus s2 ⟨xs,H2,I2,r2,q2⟩=>⟨x::xs,H2,I2, .cons r1 r2,q2⟩
def OL (t:TA):TE:=λσ H Q=>t σ H λxs H1=>xs.length<=sizeLine /\ ∀p,H1 p=none ->Q (.ref p) (cq H1 p (.tup xs))
def OQ (t:TA):TE:=λσ H Q=>t σ H λxs H1=>xs.length<=sizeLine /\ ∀p,H1 p=none ->Q (.ref p) (cq H1 p (.lst xs))
theorem bh {x1}(h:PA X es t):PE X (.Tuple es x1 pos) (OL t):=by intro ae s σ H Q I hq;refine wpAny_Tuple_spliced (cz (h pos ae s σ H _ I hq) λus s1 ⟨xs,H1,I1,r,z,q⟩=>⟨by rw[<- r.length];exact z,?_⟩);have hf:H1 s1.heap.objs.size=none:=I1.cF.fresh (ao _);refine⟨.ref s1.heap.objs.size,cq H1 s1.heap.objs.size (.tup xs),I1.laid (t':=s1.toks) (λb u e=>aq _ e) (ao _) ?_,rfl,q _ hf⟩;exact⟨z,us,r,⟨_,aM _ rfl,rfl,_,rfl,rfl⟩⟩
theorem gL (h:PA X es t):PE X (.List es pos) (OQ t):=by intro ae s σ H Q I hq;refine wpAny_List_spliced (cz (h pos ae s σ H _ I hq) λus s1 ⟨xs,H1,I1,r,z,q⟩=>⟨by rw[<- r.length];exact z,?_⟩);have hf:H1 s1.heap.objs.size=none:=I1.cF.fresh (ao _);refine⟨.ref s1.heap.objs.size,cq H1 s1.heap.objs.size (.lst xs),I1.laid (t':=s1.toks) (λb u e=>aq _ e) (ao _) ?_,rfl,q _ hf⟩;exact⟨z,us,0,r,aM _ rfl⟩
end
abbrev Sp:=List V ->Hp ->VK ->XK ->Prop
abbrev xZ:=List Env ->Hp ->Shared ->XK ->Value ->Shared ->Prop
structure zE (P:Program)(w:World)(K:PySem.W.Frag)(mg:Str ->Option Value)(base:Heap)(A:Around)(outer:List Env)(s:Shared)(H:Hp):Prop where
 frames:A.frames=some outer
 mod:Mod K mg base
 bs: ∀b o,base.get? b=some o ->s.heap.get? b=some o /\ H b=none
 Gc:base.objs.size<=s.heap.objs.size
 ll:s.heap.FunFrames base outer
 GX: ∀b∈je outer,H b=none
 cF:kA P w H s.heap
 bare:AllBare s.gens
def CE (outer:List Env)(P:Program)(w:World)(H:Hp)(s:Shared)(Q:VK)(u:Value)(s':Shared):Prop:=ca λv H'=>kz (s'.os=s.os) (AllBare s'.gens) (Un (je outer) [] H H' s.heap s'.heap) (kA P w H' s'.heap) (RelV v u) (Q v H')
def CR (CX:xZ)(outer:List Env)(P:Program)(w:World)(H:Hp)(s:Shared)(Q:VK)(E:XK)(r:Result)(s':Shared):Prop:=
 match r with
 | .ok (.ret u)=>CE outer P w H s Q u s'
 | .ok _=>False
 | .error e=>CX outer H s E e s'
structure bx (P:Program)(w:World)(K:PySem.W.Frag)(mg:Str ->Option Value)(base:Heap)(CX:xZ)(k:Nat)(f:Addr)(fd:FuncData)(ps:List Str)(sp:Sp):Prop where
 len: ∀vs H Q E,sp vs H Q E ->vs.length=ps.length
 run: ∀ (A:Around) (outer:List Env) (s:Shared) (H:Hp) (args:Args) (us:List Value) (vs:List V) (Q:VK) (E:XK),dG k A ->zE P w K mg base A outer s H ->BindsTo s fd args (ps.zip us) ->bY vs us ->sp vs H Q E ->codeAny (model P w) A (.call (.ref f) args) (CR CX outer P w H s Q E) s
theorem bx.mono {P:Program}{w:World}{K:PySem.W.Frag}{mg:Str ->Option Value}{base:Heap}{CX:xZ}{j k:Nat}{f:Addr}{fd:FuncData}{ps:List Str}{sp:Sp}(F:bx P w K mg base CX j f fd ps sp)(h:j<=k): bx P w K mg base CX k f fd ps sp:=⟨F.len,λA outer s H args us vs Q E hr=>F.run A outer s H args us vs Q E (hr.mono h)⟩
theorem bx.imp {P:Program}{w:World}{K:PySem.W.Frag}{mg:Str ->Option Value}{base:Heap}{CX:xZ}{k:Nat}{f:Addr}{fd:FuncData}{ps:List Str}{sp O4:Sp}(F:bx P w K mg base CX k f fd ps sp) (h: ∀vs H Q E,O4 vs H Q E ->sp vs H Q E):bx P w K mg base CX k f fd ps O4:=⟨λvs H Q E q=>F.len vs H Q E (h _ _ _ _ q),λA outer s H args us vs Q E hr he hb hv hs=>F.run A outer s H args us vs Q E hr he hb hv (h _ _ _ _ hs)⟩
theorem zE.make {P:Program}{w:World}{K:PySem.W.Frag}{mg:Str ->Option Value}{base:Heap}{A:Around}{outer:List Env}{s:Shared}{H:Hp}(e:zE P w K mg base A outer s H)(C:Addr)(us:List Value)(kw:List (Str×Value)): zE P w K mg base (A.under (.builtin "type.__call__" ⟨.ref C::us,kw⟩)) outer s H:=⟨by first | exact e.frames | (simpa [Around.under,Code.envs,Code.isFrame,pushEnvs] using e.frames),e.mod,e.bs,e.Gc,e.ll,e.GX,e.cF,e.bare⟩
section
variable {X:Cx}{ae:List (Addr×Obj)}{σ:St}{H:Hp}{s s':Shared}
theorem Inv.IL (I:Inv X ae σ H s):zE X.prog X.w X.K X.mg X.base X.A X.stack s H:=⟨I.ok.frames,I.ok.mod,I.bs,av I.ok.Gc I.sz,I.stack,I.pC,I.cF,I.bare⟩
theorem Inv.after {Q:VK}{u:Value}(I:Inv X ae σ H s)(h:CE X.stack X.prog X.w H s Q u s'):EP X ae σ Q u s':=by obtain⟨v,H',os,bare,un,cF,r,q⟩:=h;obtain⟨hh,g,d,t,os'⟩:=s';obtain rfl:os'=s.os:=os;exact⟨v,H',I.call (h':=hh) (g':=g) (d':=d) (t':=t) (ch:= []) un cF bare (λb z=>absurd z (by simp)),r,q⟩
end
def sF (sp:Sp)(rY:List V)(E:XK)(t:TA):TE:=λσ H Q=>t σ H λvs H1=>sp (vs++rY) H1 Q E
def nP (C:Addr)(m:Str)(sp:Sp)(rY:List V)(E:XK)(ta:TE)(t:TA):TE:=λσ H Q=>ta σ H λx H1=>dH λa dx fs=>eu (x= .ref a) (H1 a=some (.ins C dx fs)) (fs.lookup m=none) (t σ H1 λvs H2=>sp (x::(vs++rY)) H2 Q E)
def DS (C:Addr)(sp:Sp)(rY:List V)(E:XK)(t:TA):TE:=λσ H Q=>t σ H λvs H1=> ∀x dx,H1 x=none ->H1 dx=none ->dx≠x ->sp (.ref x::(vs++rY)) (cq (cq H1 dx (.own x)) x (.ins C dx [])) (λv H2=>v= .dC /\ Q (.ref x) H2) E
def Binds (K:PySem.W.Frag)(fd:FuncData)(ps:List Str)(ds:List Value):Prop:=∀ (s:Shared) (us:List Value),K.In s.heap ->(us++ds).length=ps.length ->BindsTo s fd ⟨us,[]⟩ (ps.zip (us++ds))
theorem Binds.all {K:PySem.W.Frag}{fd:FuncData}{ps:List Str}(h: ∀us:List Value,us.length=ps.length ->bindArgs fd ⟨us,[]⟩=pure (ps.zip us)):Binds K fd ps []:=λs us _ hl=>by rw[c4] at hl ⊢;exact .of_eq (h us hl)
def fN (CX:xZ)(X:Cx)(E:XK):Prop:= ∀ (ae:List (Addr×Obj)) (σ:St) (H:Hp) (s:Shared) (e:Value) (s':Shared),Inv X ae σ H s ->CX X.stack H s E e s' ->X.xe e s'
section
variable {X:Cx}{CX:xZ}{k:Nat}{f C:Addr}{fd:FuncData}{ps:List Str}{sp:Sp}{rY:List V}{ds:List Value}{E:XK}{x m:Str}{p pos db:Pos}{e o:Expr}{es:List Expr}{ta:TE}{t:TA}
theorem yy {ae:List (Addr×Obj)}{σ:St}{H:Hp}{s:Shared}{Q:VK}{us:List Value}{vs:List V}(F:bx X.prog X.w X.K X.mg X.base CX k f fd ps sp)(hr:dG k X.A)(hb:Binds X.K fd ps ds)(hd:bY rY ds)(hx:fN CX X E) (I:Inv X ae σ H s) (r:bY vs us) (h:sp (vs++rY) H Q E):wpAny (model X.prog X.w) X.A (call (.ref f) us) (EP X ae σ Q) X.xe s:=by
 have r2:bY (vs++rY) (us++ds):=r.append hd;have hl:(us++ds).length=ps.length:=by rw[<- r2.length];exact F.len _ _ _ _ h
 refine wpAny_call (codeAny_mono (F.run X.A X.stack s H ⟨us,[]⟩ (us++ds) (vs++rY) Q E hr I.IL (hb s us I.kT hl) r2 h) λr s' hq=> ?_);cases r with
 | error e=>exact hx ae σ H s e s' I hq
 | ok fl=>
  cases fl with
  | ret u=>exact I.after hq
  | next=>exact False.elim hq
  | brk=>exact False.elim hq
  | cont=>exact False.elim hq
theorem At (F:bx X.prog X.w X.K X.mg X.base CX k f fd ps sp)(hr:dG k X.A)(hg:Gl X x)(hm:X.mg x=some (.ref f))(hk:PySem.W.keepIn X.K (.ref f)=true)(hb:Binds X.K fd ps ds)(hd:bY rY ds)(hx:fN CX X E) (ha:PA X (e::es) t) (tf:(x==("__debug__" :Str))=false:=by decide) (he:starEach (e::es) X.env=(false,eval e X.env)::starEach es X.env:=by rfl) (mS:(backTo pos (starEach es X.env)).any (·.1)=false:=by rfl): PE X (.Call (.Name x p) (e::es) [] pos) (sF sp rY E t):=by intro ae s σ H Q I h;refine wpAny_Call_Name_kw (lW I hg hm ?_ tf);refine PySem.W.callWith_K (h₀:=X.base) I.ok.mod.Kn hk (cz (ha pos ae s σ H _ I h) λus s1 ⟨vs,H1,I1,r,q⟩=>⟨I1.kT,?_⟩) he mS;exact yy F hr hb hd hx I1 r q
theorem As {pl:Sem Bool}(he:PE X o ta)(c:xY X.K C)(hm:Gn X.K C m f)(F:bx X.prog X.w X.K X.mg X.base CX k f fd ps sp)(hr:dG k X.A)(hb:Binds X.K fd ps ds)(hd:bY rY ds)(hx:fN CX X E)(ha:PA X (e::es) t) (vp:starEach (e::es) X.env=(false,eval e X.env)::starEach es X.env:=by rfl) (mS:(backTo pos (starEach es X.env)).any (·.1)=false:=by rfl) (ht:eval (.Call (.Attribute o m db) (e::es) [] pos) X.env=(do
   let ov <- eval o X.env
   standAt db.atName
   let (f,first) <- holding [ov] (getMethod ov m pl)
   callWith pos f first (backTo pos (starEach (e::es) X.env)) (backToKw pos (keywordEach [] X.env))):=by rfl):
  PE X (.Call (.Attribute o m db) (e::es) [] pos) (nP C m sp rY E ta t):=by
 intro ae s σ H Q I h
 refine PySem.W.methodCall_KW (pl:=pl) (cz (he ae s σ H _ I h) λu s1 ⟨x,H1,I1,rx,a,dx,fs,ex,ea,l,q⟩=> ?_) ht
 subst ex
 obtain rfl:u=Value.ref a:=rx
 refine iI I1 ea c hm l ?_
 refine PySem.W.callWith_K (first:= [.ref a]) (h₀:=X.base) I.ok.mod.Kn hm.kp (cz (ha pos ae s1 σ H1 _ I1 q) λus s2 ⟨vs,H2,I2,r,q2⟩=>⟨I2.kT,?_⟩) vp mS
 exact yy (us:= .ref a::us) (vs:= .ref a::vs) F hr hb hd hx I2 (.cons rfl r) q2
theorem wq {pl:Sem Bool}(he:PE X o ta)(c:xY X.K C)(hm:Gn X.K C m f)(F:bx X.prog X.w X.K X.mg X.base CX k f fd ps sp)(hr:dG k X.A)(hb:Binds X.K fd ps ds)(hd:bY rY ds)(hx:fN CX X E) (ht:eval (.Call (.Attribute o m db) [] [] pos) X.env=(do
   let ov <- eval o X.env
   standAt db.atName
   let (f,first) <- holding [ov] (getMethod ov m pl)
   callWith pos f first (backTo pos (starEach [] X.env)) (backToKw pos (keywordEach [] X.env))):=by rfl):
  PE X (.Call (.Attribute o m db) [] [] pos) (nP C m sp rY E ta BC):=by
 intro ae s σ H Q I h
 refine PySem.W.methodCall_KW (pl:=pl) (cz (he ae s σ H _ I h) λu s1 ⟨x,H1,I1,rx,a,dx,fs,ex,ea,l,q⟩=> ?_) ht
 subst ex
 obtain rfl:u=Value.ref a:=rx
 refine iI I1 ea c hm l ?_
 exact PySem.W.callWith_K0 (first:= [.ref a]) I1.kT hm.kp (yy (us:= [.ref a]) (vs:= [.ref a]) F hr hb hd hx I1 (.cons rfl .nil) q)
structure Mk (K:PySem.W.Frag)(C f:Addr):Prop where
 makes:PySem.W.makesIn K C=true
 init:PySem.W.findIn K (.ref C) "__init__" =some (some (.ref f))
 fn:PySem.W.isFn K (.ref f)=true
 kp:PySem.W.keepIn K (.ref C)=true
theorem Ej {ae:List (Addr×Obj)}{σ:St}{H:Hp}{s:Shared}{Q:VK}{us:List Value}{vs:List V}(M:Mk X.K C f)(F:bx X.prog X.w X.K X.mg X.base CX k f fd ps sp)(hr:dG (k+1) X.A)(hb:Binds X.K fd ps ds)(hd:bY rY ds) (hx:fN CX X E) (I:Inv X ae σ H s) (r:bY vs us) (h: ∀x dx,H x=none ->H dx=none ->dx≠x ->sp (.ref x::(vs++rY)) (cq (cq H dx (.own x)) x (.ins C dx [])) (λv H2=>v= .dC /\ Q (.ref x) H2) E): wpAny (model X.prog X.w) X.A (call (.ref C) us) (EP X ae σ Q) X.xe s:=by
 have hq:=h (s.heap.objs.size+1) s.heap.objs.size (I.cF.fresh (Nat.le_succ _)) (I.cF.fresh (ao _)) (bg (Nat.lt_succ_self _));have I2:=Inv.made (C:=C) I;have r2:bY (V.ref (s.heap.objs.size+1)::(vs++rY)) (Value.ref (s.heap.objs.size+1)::(us++ds)):= .cons rfl (r.append hd);have hl:(Value.ref (s.heap.objs.size+1)::us++ds).length=ps.length:=by have e:=r2.length;rw[F.len _ _ _ _ hq] at e;exact e.symm
 refine wpAny_call (EW (f:=f) I.kT M.makes M.init (beq_iff_eq.mp M.fn) (codeAny_mono (F.run _ X.stack _ _ ⟨Value.ref (s.heap.objs.size+1)::us,[]⟩ (Value.ref (s.heap.objs.size+1)::(us++ds)) _ _ E (hr.make C us []) (I2.IL.make C us []) (hb _ (Value.ref (s.heap.objs.size+1)::us) I2.kT hl) r2 hq) λr s' Qw=> ?_));cases r with
 | error e=>exact hx ae σ _ _ e s' I2 Qw
 | ok fl=>
  cases fl with
  | ret u=>obtain⟨v,H',I3,rv,ev,q3⟩:=I2.after Qw;subst ev;exact⟨rv,⟨V.ref (s.heap.objs.size+1),H',I3,rfl,q3⟩⟩
  | next=>exact False.elim Qw
  | brk=>exact False.elim Qw
  | cont=>exact False.elim Qw
theorem Ht (M:Mk X.K C f)(F:bx X.prog X.w X.K X.mg X.base CX k f fd ps sp)(hr:dG (k+1) X.A)(hg:Gl X x)(hm:X.mg x=some (.ref C))(hb:Binds X.K fd ps ds)(hd:bY rY ds)(hx:fN CX X E) (ha:PA X (e::es) t) (tf:(x==("__debug__" :Str))=false:=by decide) (he:starEach (e::es) X.env=(false,eval e X.env)::starEach es X.env:=by rfl) (mS:(backTo pos (starEach es X.env)).any (·.1)=false:=by rfl): PE X (.Call (.Name x p) (e::es) [] pos) (DS C sp rY E t):=by intro ae s σ H Q I h;refine wpAny_Call_Name_kw (lW I hg hm ?_ tf);refine PySem.W.callWith_K (h₀:=X.base) I.ok.mod.Kn M.kp (cz (ha pos ae s σ H _ I h) λus s1 ⟨vs,H1,I1,r,q⟩=>⟨I1.kT,?_⟩) he mS;exact Ej M F hr hb hd hx I1 r q
end
structure cJ (N P:List Str)(sc:Scope):Prop where
 kind:sc.kind= .function
 co:sc.isCoroutine=false
 gen:sc.isGenerator=false
 nd:N.Nodup
 pre:N.take P.length=P
 par: ∀x∈P,sc.names.lookup x=some .local \/ sc.names.lookup x=some .cell
 L5: ∀y∈sc.names,y.2≠ .free
theorem tU {kindOf:Str ->Option NameKind}{x:Str}: ∀ {binds:List (Str×Value)} {m:Str ->Option Value},(∀v,(x,v)∉binds) ->bindL kindOf binds m x=m x
 | [],_,_=>rfl
 | (n,v)::r,m,h=>by
  unfold bindL;rw[tU λw hw=>h w (cP _ hw)];split;have:x≠n:=by rintro rfl;exact h v List.mem_cons_self
  simp[this];rfl
theorem tW {kindOf:Str ->Option NameKind}{x:Str}: ∀ {binds:List (Str×Value)} {m:Str ->Option Value},(∀v,(x,v)∉binds) ->bindC kindOf binds m x=m x
 | [],_,_=>rfl
 | (n,v)::r,m,h=>by
  unfold bindC;rw[tW λw hw=>h w (cP _ hw)];split;rfl;have:x≠n:=by rintro rfl;exact h v List.mem_cons_self
  simp[this]
theorem tV {kindOf:Str ->Option NameKind}{x:Str}{v:Value}: ∀ {P:List Str} {vs:List Value} {i:Nat} {m:Str ->Option Value},P.Nodup ->P[i]? =some x ->vs[i]? =some v ->kindOf x=some .local ->bindL kindOf (P.zip vs) m x=some v
 | [],_,_,_,_,h,_,_=>by simp at h
 | _::_,[],_,_,_,_,h,_=>by simp at h
 | p::P,w::vs,0,m,nd,h1,h2,hk=>by simp at h1 h2;subst h1;subst h2;show bindL kindOf ((p,w)::P.zip vs) m p=_;unfold bindL;rw[tU λv hv=>(List.nodup_cons.mp nd).1 (List.of_mem_zip hv).1,ak hk];simp
 | p::P,w::vs,i+1,m,nd,h1,h2,hk=>by show bindL kindOf ((p,w)::P.zip vs) m x=_;unfold bindL;exact tV (i:=i) (List.nodup_cons.mp nd).2 ⇑h1 ⇑h2 hk
theorem tX {kindOf:Str ->Option NameKind}{x:Str}{v:Value}: ∀ {P:List Str} {vs:List Value} {i:Nat} {m:Str ->Option Value},P.Nodup ->P[i]? =some x ->vs[i]? =some v ->kindOf x≠some .local ->bindC kindOf (P.zip vs) m x=some v
 | [],_,_,_,_,h,_,_=>by simp at h
 | _::_,[],_,_,_,_,h,_=>by simp at h
 | p::P,w::vs,0,m,nd,h1,h2,hk=>by simp at h1 h2;subst h1;subst h2;show bindC kindOf ((p,w)::P.zip vs) m p=_;unfold bindC;rw[tW λv hv=>(List.nodup_cons.mp nd).1 (List.of_mem_zip hv).1,aj hk];simp
 | p::P,w::vs,i+1,m,nd,h1,h2,hk=>by show bindC kindOf ((p,w)::P.zip vs) m x=_;unfold bindC;exact tX (i:=i) (List.nodup_cons.mp nd).2 ⇑h1 ⇑h2 hk
def start (N:List Str)(vs:List V):St:=vs.map some++List.replicate (N.length - vs.length) none
def d4 (CX:xZ)(P:Program)(w:World)(K:PySem.W.Frag)(mg:Str ->Option Value)(base:Heap)(N:List Str)(qual:Str)(scope:Scope)(f:Addr)(cd:Value)(A:Around)(outer:List Env)(s:Shared)(H:Hp)(E:XK):Cx where
 prog:=P
 w:=w
 K:=K
 mg:=mg
 base:=base
 A:=A.deeper (envOfC qual scope s.heap.objs.size f cd)
 N:=N
 s₀:=s
 H₀:=H
 env:=envOfC qual scope s.heap.objs.size f cd
 outer:=outer
 stack:=envOfC qual scope s.heap.objs.size f cd::outer
 ex:= []
 calm:=true
 fn:=λ_=>true
 pn:= []
 xe:=λe s'=>wpAny (model P w) (A.deeper (envOfC qual scope s.heap.objs.size f cd)) (leaving (envOfC qual scope s.heap.objs.size f cd) e) (λ_ UG=>CX outer H s E e UG) (λe' UG=>CX outer H s E e' UG) s'
theorem xD {sc:Scope}{n:Nat}{x:Str}(h:sc.names.lookup x=some .cell): ∃c,(cellsFrom n sc.names []).lookup x=some c:=by have q:=PySem.W.cellsFrom_some sc.names n [] (.inl h);exact Option.isSome_iff_exists.mp q
theorem Cq {CX:xZ}{P:Program}{w:World}{K:PySem.W.Frag}{mg:Str ->Option Value}{base:Heap}{N ps:List Str}{qual:Str}{scope:Scope}{f:Addr}{cd:Value}{A:Around}{outer:List Env}{s s1:Shared}{H:Hp}{E:XK}{us:List Value}{vs:List V} (S:cJ N ps scope) (hd:A.handled=none) (e0:zE P w K mg base A outer s H) (hl:vs.length=ps.length) (r:bY vs us) (x:InCallC s s.heap.objs.size (bindL (envOfC qual scope s.heap.objs.size f cd).kindOf (ps.zip us) λ_=>none) (cellsFrom (s.heap.objs.size+1) scope.names []) (bindC (envOfC qual scope s.heap.objs.size f cd).kindOf (ps.zip us) λ_=>none) s1): Inv (d4 CX P w K mg base N qual scope f cd A outer s H E) [] (start N vs) H s1:=by
 have mS:ps.length<=N.length:=by have:=congrArg List.length S.pre;rw[b0] at this;lia
 obtain⟨h1,tk,rfl,hk⟩:=x.done;have Ka: ∀b:Addr,b∉(d4 CX P w K mg base N qual scope f cd A outer s H E).ex:=λb z=>absurd (show b∈([]:List Addr) from z) (by simp);refine⟨⟨e0.mod,S.kind,rfl,rfl,ao _,λy z c h1 h2=> ?_,λy hy=> ?_,λy c _ h=> ?_,λ_=>hd,Around.frames_deeper e0.frames, .inr ⟨rfl,rfl⟩,λb z=>absurd z (Ka b),e0.bs,e0.Gc,λb _ _=>Ka b,λb z=>absurd z (Ka b),e0.ll,e0.GX⟩,
  rfl,e0.bare,Un.kept hk,⟨_,x.toInCall.ns,λi y v h1 h2 h3=> ?_⟩,λy c h=>⟨_,x.cell y c h⟩,e0.cF.fresh (ao _),λy c h=> ?_,λp hp=>absurd (show p∈([]:List (Addr×Obj)) from hp) (by simp),e0.cF.kept hk,?_⟩
 exact name_of_addr x.apart (cW h1) (cW h2);have hy:scope.names.lookup y=some .cell \/ scope.names.lookup y=some .free:=hy;rcases hy with hy | hy;exact xD hy;exact absurd rfl (S.L5 _ (cW hy));exact Nat.le_of_lt (x.above y c (cW h));have hi:i<vs.length:=by unfold start at h2;by_cases hi:i<vs.length;exact hi;rw[aU ⇑hi] at h2;rw[cQ] at h2;split at h2<;>cases h2
 have ha:vs[i]? =some v:=by
  unfold start at h2;rw[aW ⇑hi,aG] at h2;cases e:vs[i]? with
  | none=>rw[e] at h2;cases h2
  | some a=>rw[e] at h2;cases h2;rfl
 obtain⟨u,hu,rv⟩:=r.get ha;have hp:ps[i]? =some y:=by rw[<- S.pre,List.getElem?_take_of_lt ∅];exact h1
 have ndP:ps.Nodup:=by rw[<- S.pre];exact S.nd.sublist (List.take_sublist _ _)
 refine⟨u,rv,?_⟩;rcases S.par y (bq hp) with k | k;exact .inl ⟨k,tV ndP hp hu k⟩;obtain⟨c,e⟩:=xD (n:=s.heap.objs.size+1) k;refine .inr ⟨.inl k,c,e,?_⟩;have q:=x.cell y c e;rw[tX ndP hp hu (by show scope.names.lookup y≠_;rw[k];decide)] at q;exact q;exact e0.cF.fresh (Nat.le_of_lt (x.above y c (cW h)));unfold start;show _=N.length;rw[aH,ag,List.length_replicate];lia
theorem KA {CX:xZ}{P:Program}{w:World}{K:PySem.W.Frag}{mg:Str ->Option Value}{base:Heap}{k:Nat}{f:Addr}{name qual:Str}{params:Arguments}{body:List Stmt}{scope:Scope}{dV kV gN pm cdv ct oc:Value}{an od:Option Addr} {yF:Array (Option Value)} {N ps:List Str} {sp:Sp} (lk:K.lookup f=some ⟨oc,od, .func (PySem.W.fnOf name qual params body scope dV kV gN pm an cdv ct),yF⟩) (AX:PySem.W.codeIn K cdv qual=true) (S:cJ N ps scope) (len: ∀vs H Q E,sp vs H Q E ->vs.length=ps.length) (ik: ∀ (A:Around) (outer:List Env) (s:Shared) (H:Hp) (vs:List V) (Q:VK) (E:XK),dG k (A.deeper (envOfC qual scope s.heap.objs.size f cdv)) ->sp vs H Q E ->∃t,vw (d4 CX P w K mg base N qual scope f cdv A outer s H E) body t /\ t {nx:=λ_ H'=>Q .dC H',rt:=Q} (start N vs) H): bx P w K mg base CX (k+1) f (PySem.W.fnOf name qual params body scope dV kV gN pm an cdv ct) ps sp:=by
 refine⟨len,λA outer s H args us vs Q E hr e0 hb r ye=> ?_⟩;have hl:=len _ _ _ _ ye;have KX:K.In s.heap:=e0.mod.Kn.keeps λb o e=>(e0.bs b o e).1;have lim:s.heap.NoLimit:=e0.mod.nolimit.keeps λb o e=>(e0.bs b o e).1;have QF: ∀y∈ps.zip us,scope.names.lookup y.1=some .local \/ (scope.names.lookup y.1=some .cell /\ ((cellsFrom (s.heap.objs.size+1) scope.names []).lookup y.1).isSome=true):=λ⟨n,v⟩ hy=>by rcases S.par n (List.of_mem_zip hy).1 with q | q;exact .inl q;exact .inr ⟨q,PySem.W.cellsFrom_some _ _ _ (.inl q)⟩
 refine codeAny_call_function hr.depth (KX _ _ lk) rfl S.co S.gen rfl (PySem.W.codeRec_of KX AX) (hb _ _ _ _ ?_);refine wpAny_newFunctionEnv_cells S.kind QF λenv he s1 x=> ?_;subst he;refine⟨lim.keeps x.toInCall.keep,codeAny_func ?_⟩;obtain⟨t,ht,hq⟩:=ik A outer s H vs Q E (hr.deeper _) ye;have I:Inv (d4 CX P w K mg base N qual scope f cdv A outer s H E) [] (start N vs) H s1:=Cq S hr.hd e0 hl r x;refine bp (ht [] s1 (start N vs) H _ I hq) (λfl s' hs=> ?_) λe s' hs=>hs;have fin: ∀ {σ':St} {H':Hp} {v:V} {u:Value},Inv (d4 CX P w K mg base N qual scope f cdv A outer s H E) [] σ' H' s' ->RelV v u ->Q v H' ->CE outer P w H s Q u s':=λ{σ' H' v u} J rv q=>⟨v,H',J.os,J.bare,J.base,J.cF,rv,q⟩
 cases fl with
 | ret u=>obtain⟨v,σ',H',J,rv,q⟩:=hs;exact fin J rv q
 | next=>obtain⟨σ',H',J,q⟩:=hs;exact fin (v:=V.dC) (u:=Value.none) J rfl q
 | brk=>obtain⟨_,_,_,q⟩:=hs;exact False.elim q
 | cont=>obtain⟨_,_,_,q⟩:=hs;exact False.elim q
section
variable {X:Cx}{x:Str}{p pos:Pos}{e:Expr}{es:List Expr}{t:TA}{id T:String}{r:List V ->Hp ->VK ->Prop}
def Uq (r:List V ->Hp ->VK ->Prop)(t:TA):TE:=λσ H Q=>t σ H λvs H1=>r vs H1 Q
theorem bf (hc:eN X (.builtin id) r)(hg:Gl X x)(hm:X.mg x=none)(hv:bootBuiltins x=some (.builtin id))(ha:PA X (e::es) t)(hn:x≠ "__name__" :=by decide)(tf:(x==("__debug__" :Str))=false:=by decide) (he:starEach (e::es) X.env=(false,eval e X.env)::starEach es X.env:=by rfl) (mS:(backTo pos (starEach es X.env)).any (·.1)=false:=by rfl):PE X (.Call (.Name x p) (e::es) [] pos) (Uq r t):=by intro ae s σ H Q I h;refine wpAny_Call_Name_kw (uS I hg hm hv ?_ hn tf);exact PyProof.Rows.callWith_builtin1 (cz (ha pos ae s σ H _ I h) λus s1 ⟨vs,H1,I1,r1,q1⟩=>hc ae s1 σ H1 vs us Q I1 r1 q1) he mS
theorem cL (hc:eN X (.type T) r)(hg:Gl X x)(hm:X.mg x=none)(hv:bootBuiltins x=some (.type T))(ha:PA X (e::es) t)(hn:x≠ "__name__" :=by decide)(tf:(x==("__debug__" :Str))=false:=by decide) (he:starEach (e::es) X.env=(false,eval e X.env)::starEach es X.env:=by rfl) (mS:(backTo pos (starEach es X.env)).any (·.1)=false:=by rfl):PE X (.Call (.Name x p) (e::es) [] pos) (Uq r t):=by intro ae s σ H Q I h;refine wpAny_Call_Name_kw (uS I hg hm hv ?_ hn tf);exact PyProof.Rows.callWith_type1 (cz (ha pos ae s σ H _ I h) λus s1 ⟨vs,H1,I1,r1,q1⟩=>hc ae s1 σ H1 vs us Q I1 r1 q1) he mS
end
end L2
namespace HT
open PySem PyProof.Rows
section
variable {prog:Program}{w:World}{A:Around}{E:Value ->Shared ->Prop}{s:Shared}
def vo (n d:Nat):Option Int ->Nat
 | none=>d
 | some v=>if v<0 then(v+(n:Int)).toNat else min v.toNat n
end
end HT
namespace L2
open PySem PySem.Spec PyProof.Rows
abbrev TO:=St ->Hp ->(Option Int ->Hp ->Prop) ->Prop
def PO (X:Cx)(e:Option Expr)(t:TO):Prop:=∀ (ae:List (Addr×Obj)) (s:Shared) (σ:St) (H:Hp) (Q:Option Int ->Hp ->Prop),Inv X ae σ H s ->t σ H Q ->wpAny (model X.prog X.w) X.A (evalPart e X.env) (λu s'=>ca λo H'=>cM (Inv X ae σ H' s') (IsPart u o) (Q o H')) X.xe s
def zV:TO:=λ_ H Q=>Q none H
def JJ (t:TE):TO:=λσ H Q=>t σ H λx H1=> ∃i,x= .int i /\ Q (some i) H1
section
variable {X:Cx}{e:Expr}{te:TE}{lo hi:Option Expr}{tl th:TO}{pos p2:Pos}
theorem uA:PO X none zV:=by intro ae s σ H Q I h;rw[evalPart_none];exact aR ⟨none,H,I, .none,h⟩
theorem uz (h:PE X e te):PO X (some e) (JJ te):=by intro ae s σ H Q I hw;rw[evalPart_some];refine cz (h ae s σ H _ I hw) λu s1 ⟨x,H1,I1,r1,q1⟩=> ?_;obtain⟨i,rfl,q⟩:=q1;obtain⟨t,rfl⟩:=r1;exact⟨some i,H1,I1, .int i t,q⟩
def SlR (X:Cx)(r:V ->Option Int ->Option Int ->Hp ->VK ->Prop):Prop:=∀ (ae:List (Addr×Obj)) (s:Shared) (σ:St) (H:Hp) (x:V) (v vl vu:Value) (lo hi:Option Int) (sl:Addr) (Q:VK),Inv X ae σ H s ->RelV x v ->s.heap.IsSliceOf sl vl vu .none ->IsPart vl lo ->IsPart vu hi ->r x lo hi H Q ->ca λT id=>cM (typeLookup (.type T) "__getitem__" =pure (some (.builtin id))) (s.TypeIs v T) (wpAny (model X.prog X.w) X.A (getItem v (.ref sl)) (EP X ae σ Q) X.xe s)
def tSl (r:V ->Option Int ->Option Int ->Hp ->VK ->Prop)(te:TE)(tl th:TO):TE:=λσ H Q=>te σ H λx H1=>tl σ H1 λl H2=>th σ H2 λu H3=>r x l u H3 Q
theorem qf {r:V ->Option Int ->Option Int ->Hp ->VK ->Prop}(hr:SlR X r)(he:PE X e te)(hl:PO X lo tl)(hu:PO X hi th):PE X (.Subscript e (.Slice lo hi none p2) pos) (tSl r te tl th):=by intro ae s σ H Q I h;refine Subscript_ (cz (he ae s σ H _ I h) λv s1 ⟨x,H1,I1,r1,q1⟩=> ?_);refine wpAny_Slice (cz (hl ae s1 σ H1 _ I1 q1) λvl s2 ⟨l,H2,I2,pl,q2⟩=>cz (hu ae s2 σ H2 _ I2 q2) λvu s3 ⟨u,H3,I3,pu,q3⟩=> ?_);rw[evalPart_none];refine aR ?_;have I4:Inv X ae σ H3 {s3 with heap:=s3.heap.push {cls:= .type "slice",data:= .fields #[vl,vu, .none]}}:=I3.kept (t':=s3.toks) λb ob q=>aq _ q;obtain⟨T,id,hT,ht,hg⟩:=hr ae {s3 with heap:=s3.heap.push {cls:= .type "slice",data:= .fields #[vl,vu, .none]}} σ H3 x v vl vu l u s3.heap.objs.size Q I4 r1 (Heap.IsSliceOf.new ..) pl pu q3;show wpAny (model X.prog X.w) X.A (subscriptTail e (.Slice lo hi none p2) v (.ref s3.heap.objs.size)) (EP X ae σ Q) X.xe {s3 with heap:=s3.heap.push {cls:= .type "slice",data:= .fields #[vl,vu, .none]}};exact tail_any (ops:= [.ref s3.heap.objs.size,v]) ht hT hg (by with_unfolding_all rfl)
def CL (xs:List V)(lo hi:Option Int):List V:=(xs.drop (HT.vo xs.length 0 lo)).take (HT.vo xs.length xs.length hi - HT.vo xs.length 0 lo)
theorem xA (xs:List V)(lo hi:Option Int):(CL xs lo hi).length<=xs.length:=by unfold CL;rw[b0,List.length_drop];lia
end
def yd (n:Nat)(i:Int):Option Nat:=if 0<=i then(if i<n then some i.toNat else none) else if -(n:Int) <=i then some (i+n).toNat else none
def ix {α:Type}(xs:List α)(i:Int):Option α:=(yd xs.length i).bind λj=>xs[j]?
theorem AR {n:Nat}{i:Int}{j:Nat}(h:yd n i=some j): seqIndex? i n=some j /\ j<n /\ -(n:Int) <=i /\ i<n:=by unfold yd at h;by_cases h0:0<=i;rw[ak h0] at h;by_cases h1:i<n;rw[ak h1] at h;have e:i.toNat=j:=a8 h;exact⟨by rw[seqIndex_of h0 h1,e], ∅, ∅,h1⟩;rw[aj h1] at h;cases h;rw[aj h0] at h;by_cases h1: -(n:Int) <=i;rw[ak h1] at h;have e:(i+n).toNat=j:=a8 h;exact⟨by rw[seqIndex_neg ∅ h1,e], ∅,h1, ∅⟩;rw[aj h1] at h;cases h
theorem va {α:Type}{xs:List α}{i:Int}{v:α}(h:ix xs i=some v): ∃j,fo (seqIndex? i xs.length=some j) (xs[j]? =some v) (j<xs.length) (-(xs.length:Int) <=i) (i<xs.length):=by
 unfold ix at h;cases e:yd xs.length i with
 | none=>rw[e] at h;cases h
 | some j=>rw[e] at h;obtain⟨h1,h2,h3,h4⟩:=AR e;exact⟨j,h1,h,h2,h3,h4⟩
theorem eD {α:Type}{xs:List α}{j:Nat}{v:α}(h:xs[j]? =some v):ix xs (j:Int)=some v:=by
 have hj:j<xs.length:=(a5.mp h).1;have e:yd xs.length (j:Int)=some j:=by unfold yd;rw[ak ∅,ak ∅];simp
 unfold ix;rw[e];exact h
def Jb (b:Expr):Prop:= ∀o i,subscripted b false o i=operate [o,i] (getItem o i)
def cI (X:Cx)(r:R2):Prop:=∀ (value slice:Expr) (ae:List (Addr×Obj)) (s:Shared) (σ:St) (H:Hp) (x y:V) (v u:Value) (Q:VK),Inv X ae σ H s ->RelV x v ->RelV y u ->r x y H Q ->subscripted slice false v u=operate [v,u] (getItem v u) ->wpAny (model X.prog X.w) X.A (subscriptTail value slice v u) (EP X ae σ Q) X.xe s
def Rr (X:Cx)(id:String)(r:V ->List V ->Hp ->VK ->Prop):Prop:=∀ (ae:List (Addr×Obj)) (s:Shared) (σ:St) (H:Hp) (x:V) (xs:List V) (v:Value) (us:List Value) (Q:VK),Inv X ae σ H s ->RelV x v ->bY xs us ->r x xs H Q ->wpAny (model X.prog X.w) X.A (call (.builtin id) (v::us)) (EP X ae σ Q) X.xe s
section
variable {X:Cx}{a b:Expr}{ta tb:TE}{pos:Pos}
theorem aI {r:R2}(hr:cI X r)(ha:PE X a ta)(hb:PE X b tb)(hs:Jb b):PE X (.Subscript a b pos) (OO r ta tb):=by intro ae s σ H Q I h;exact Subscript_ (Nc ha hb I h λv u s2 x y H2 I2 rx ry q=>hr a b ae s2 σ H2 x y v u Q I2 rx ry q (hs _ _))
def kB (K:PySem.W.Frag):R2:=λx y H Q=>fF λp xs i v=>fo (x= .ref p) (y= .int i) (gs K H p xs) (ix xs i=some v) (Q v H)
def bA (K:PySem.W.Frag):R2:=λx y H Q=>fF λp xs i v=>fo (x= .ref p) (y= .int i) (lr K H p xs) (ix xs i=some v) (Q v H)
def Ph:R2:=λx y H Q=>dH λz i c=>fo (x= .str z) (y= .int i) (z.length<=sizeLine) (ix z.cps.toList i=some c) (Q (.str ⟨#[c]⟩) H)
theorem dW:cI X (kB X.K):=by
 intro value slice ae s σ H x y v u Q I rx ry h hs;obtain⟨p,xs,i,z,rfl,rfl,hq,he,q⟩:=h;cases rx;obtain⟨t,rfl⟩:=ry;obtain⟨bD,r,pl,hz⟩:=I.list hq;obtain⟨j,h1,h2,h3,h4,h5⟩:=va he;obtain⟨w,ew,ur⟩:=r.get h2;have hl:=r.length;have hn:=nv;have fin:EP X ae σ Q w s:=⟨z,H,I,ur,q⟩
 by_cases h0:0<=i;have hj:i.toNat=j:=by rw[seqIndex_of h0 h5] at h1;exact a8 h1
 exact item_listR pl.isList h0 ∅ (by rw[hj];simpa using ew) fin hs;have hj:(i+(bD.toArray.size:Int)).toNat=j:=by rw[seqIndex_neg ∅ h4] at h1;rw[aF, <- hl];exact a8 h1
 exact subscriptTail_builtinR (x:=w) pl.isList.typeIs slot_list_getitem.lookup (wpAny_getItem_list_neg (Q:=λr s'=>r=w /\ EP X ae σ Q r s') pl.isList ∅ (by rw[aF] <;>lia) ∅ (by rw[hj];simpa using ew) ⟨rfl,fin⟩) hs
theorem aA:cI X (bA X.K):=by
 intro value slice ae s σ H x y v u Q I rx ry h hs;obtain⟨p,xs,i,z,rfl,rfl,hq,he,q⟩:=h;cases rx;obtain⟨t,rfl⟩:=ry;obtain⟨bD,r,pl,hz⟩:=I.tuple hq;obtain⟨j,h1,h2,h3,h4,h5⟩:=va he;obtain⟨w,ew,ur⟩:=r.get h2;have hl:=r.length;have hn:=nv;have fin:EP X ae σ Q w s:=⟨z,H,I,ur,q⟩
 exact subscriptTail_builtinR (x:=w) pl.typeIs slot_tuple_getitem.lookup (getItem_tuple (j:=j) (Q:=λr s'=>r=w /\ EP X ae σ Q r s') pl ∅ ∅ (by rw[aF, <- hl];exact h1) ⇑ew ⟨rfl,fin⟩) hs
theorem Fg:cI X Ph:=by
 intro value slice ae s σ H x y v u Q I rx ry h hs;obtain⟨z,i,c,rfl,rfl,hz,he,q⟩:=h;obtain⟨t,rfl⟩:=rx;obtain⟨t',rfl⟩:=ry;obtain⟨j,h1,h2,h3,h4,h5⟩:=va he;have hl:z.cps.toList.length=z.length:=by simp[Str.length]
 rw[hl] at h1 h4 h5;have hn:=nv;exact tail_any (typeIs_str s z t) slot_str_getitem.lookup (getItem_str (c:=c) (by have e1:decide (i< -(2 ^ 63:Int))=false:=aQ ∅;have e2:decide (i≥2 ^ 63)=false:=aQ ∅;rw[e1,e2,Bool.or_false]) (by rw[h1];simpa using h2) ⟨.str ⟨#[c]⟩,H,I.tok _,⟨_,rfl⟩,q⟩) hs
theorem yQ (bD:List Value)(n j:Nat)(u:Value):Obj.mapSeq (·.setIfInBounds j u) {cls:= .type "list",data:= .seq bD.toArray n}= {cls:= .type "list",data:= .seq (bD.set j u).toArray n}:=by simp[Obj.mapSeq]
theorem Inv.lst {ae:List (Addr×Obj)}{σ:St}{H:Hp}{s:Shared}{p:Addr}{xs:List V}(I:Inv X ae σ H s)(h:H p=some (.lst xs)): ca λ(bD:List Value) (n:Nat)=>cM (bY xs bD) (s.heap.get? p=some {cls:= .type "list",data:= .seq bD.toArray n}) (xs.length<=sizeLine):=by obtain⟨z,bD,n,r,e⟩:=I.cF p _ h;exact⟨bD,n,r,e,z⟩
theorem Inv.Ma {ae:List (Addr×Obj)}{σ:St}{H:Hp}{s:Shared}{p:Addr}{xs ys:List V}{bD its':List Value}{n n':Nat}{f:Obj ->Obj}(I:Inv X ae σ H s)(h:H p=some (.lst xs)) (ho:s.heap.get? p=some {cls:= .type "list",data:= .seq bD.toArray n}) (hf:f {cls:= .type "list",data:= .seq bD.toArray n}= {cls:= .type "list",data:= .seq its'.toArray n'}) (r:bY ys its') (hz:ys.length<=sizeLine) (t:Nat): Inv X ae σ (cq H p (.lst ys)) {s with heap:=s.heap.update p f,toks:=t}:=by
 have e:(s.heap.update p f).get? p=some {cls:= .type "list",data:= .seq its'.toArray n'}:=by rw[Heap.get?_update_self f ho (by rw[hf] <;>rfl),hf]
 refine I.write (x:=p) (e:=p) (by rw[h];trivial) (.inl rfl) (λb u hb q=>(Heap.get?_update_other _ _ (cV hb)).trans q) ⟨_,e⟩ ?_;exact⟨hz,its',n',r,e⟩
def JZ:V ->V ->V ->Hp ->(Hp ->Prop) ->Prop:=λo i v H Q=>fF λp xs k j=>fo (o= .ref p) (i= .int k) (H p=some (.lst xs)) (yd xs.length k=some j) (Q (cq H p (.lst (xs.set j v))))
theorem gV:Ro X JZ:=by
 intro ae s σ H o i v ov iv u Q I ro ri rv h;obtain⟨p,xs,k,j,rfl,rfl,hp,hj,q⟩:=h;cases ro;obtain⟨t,rfl⟩:=ri;obtain⟨bD,n,r,ho,hz⟩:=I.lst hp;obtain⟨h1,h2,h3,h4⟩:=AR hj;have hl:=r.length;have hn:=nv;have I':Inv X ae σ (cq H p (.lst (xs.set j v))) {s with heap:=s.heap.update p (Obj.mapSeq (·.setIfInBounds j u))}:=I.Ma hp ho (yQ bD n j u) (r.set rv j) (by rw[List.length_set];exact hz) s.toks;by_cases h0:0<=k;have hk:k.toNat=j:=by rw[seqIndex_of h0 h4] at h1;exact a8 h1
 exact PySem.W.ki_setAt ho h0 ∅ (by rw[aF, <- hl];exact h4) (by rw[hk];exact⟨_,I',q⟩);have hk:(k+(bD.toArray.size:Int)).toNat=j:=by rw[seqIndex_neg ∅ h3] at h1;rw[aF, <- hl];exact a8 h1
 exact PySem.W.ki_setBack ho ∅ (by rw[aF, <- hl];exact h3) ∅ (by rw[hk];exact⟨_,I',q⟩)
theorem ug (lo hi:Option Int)(n:Nat):(sliceBounds lo hi none n).1=((HT.vo n 0 lo:Nat):Int) /\ (sliceBounds lo hi none n).2.1=((HT.vo n n hi:Nat):Int) /\ (sliceBounds lo hi none n).2.2=1:=by
 refine⟨?_,?_,rfl⟩;cases lo with
 | none=>simp[sliceBounds,HT.vo]
 | some i=>simp only[sliceBounds,HT.vo,Option.getD_none,show(1:Int) >0 by decide,bP];by_cases h:i<0;simp only[h,bP] <;>lia;simp only[h,bi] <;>lia
 cases hi with
 | none=>simp[sliceBounds,HT.vo]
 | some i=>simp only[sliceBounds,HT.vo,Option.getD_none,show(1:Int) >0 by decide,bP];by_cases h:i<0;simp only[h,bP] <;>lia;simp only[h,bi] <;>lia
theorem rL (bD:List Value)(lo hi:Option Int):slicePick bD.toArray lo hi none=((bD.drop (HT.vo bD.length 0 lo)).take (HT.vo bD.length bD.length hi - HT.vo bD.length 0 lo)).toArray:=by obtain⟨h1,h2,h3⟩:=ug lo hi bD.toArray.size;unfold slicePick;rw[h1,h2,h3];simp only[sliceRange_one,pick_run,aF] <;>rfl
def UJ (K:PySem.W.Frag):V ->Option Int ->Option Int ->Hp ->VK ->Prop:=λx lo hi H Q=>ca λa xs=>cM (x= .ref a) (gs K H a xs) (∀p,H p=none ->Q (.ref p) (cq H p (.lst (CL xs lo hi))))
theorem He:SlR X (UJ X.K):=by intro ae s σ H x v vl vu lo hi sl Q I rx hs pl pu h;obtain⟨a,xs,rfl,hx,q⟩:=h;cases rx;obtain⟨bD,r,ht,hz⟩:=I.list hx;have dL:=r.length;refine⟨"list",_,slot_list_getitem.lookup,ht.isList.typeIs,?_⟩;refine wpAny_getItem_list_slice ht.isList hs pl pu .none (by simp) ?_ (by rw[aF] <;>lia);rw[rL, <- dL];refine⟨.ref s.heap.objs.size,_,I.laid (t':=s.toks) (o:= .lst (CL xs lo hi)) (λb ob q=>aq _ q) (ao _) ?_,rfl,q _ (I.cF.fresh (ao _))⟩;exact⟨av (xA xs lo hi) hz,_,0,(r.drop (HT.vo xs.length 0 lo)).take (HT.vo xs.length xs.length hi - HT.vo xs.length 0 lo),aM _ rfl⟩
def jM:V ->Bool
 | .dC=>true
 | .bl _=>true
 | .int _=>true
 | .str _=>true
 | _=>false
def Dj:V ->V ->Bool
 | .dC, .dC=>true
 | .bl a, .bl b=>a==b
 | .bl a, .int b=>(if a then 1 else 0)==b
 | .int a, .bl b=>a==(if b then 1 else 0)
 | .int a, .int b=>a==b
 | .str a, .str b=>a==b
 | _,_=>false
theorem FJ {A:Around}{s:Shared}{y x:V}{u v:Value}(ry:RelV y u)(rx:RelV x v)(fy:jM y=true)(fx:jM x=true):SeqAt.EqAt A s u v (Dj y x):=by
 cases y with
 | dC=>
  cases ry;cases x with
  | dC=>cases rx;exact SeqAt.EqAt.same _
  | bl b=>cases rx;exact SeqAt.EqAt.none_bool b
  | int b=>obtain⟨t,rfl⟩:=rx;exact SeqAt.EqAt.none_int b t
  | str b=>obtain⟨t,rfl⟩:=rx;exact SeqAt.EqAt.none_str b t
  | _=>exact absurd (show false=true from fx) aV
 | bl a=>
  cases ry;cases x with
  | dC=>cases rx;exact SeqAt.EqAt.bool_none a
  | bl b=>cases rx;exact SeqAt.EqAt.bool_bool a b
  | int b=>obtain⟨t,rfl⟩:=rx;exact SeqAt.EqAt.bool_int a b t
  | str b=>obtain⟨t,rfl⟩:=rx;exact SeqAt.EqAt.bool_str a b t
  | _=>exact absurd (show false=true from fx) aV
 | int a=>
  obtain⟨t',rfl⟩:=ry;cases x with
  | dC=>cases rx;exact SeqAt.EqAt.int_none a t'
  | bl b=>cases rx;exact SeqAt.EqAt.int_bool a t' b
  | int b=>obtain⟨t,rfl⟩:=rx;exact SeqAt.EqAt.int_int a t' b t
  | str b=>obtain⟨t,rfl⟩:=rx;exact SeqAt.EqAt.int_str a t' b t
  | _=>exact absurd (show false=true from fx) aV
 | str a=>
  obtain⟨t',rfl⟩:=ry;cases x with
  | dC=>cases rx;exact SeqAt.EqAt.str_none a t'
  | bl b=>cases rx;exact SeqAt.EqAt.str_bool a t' b
  | int b=>obtain⟨t,rfl⟩:=rx;exact SeqAt.EqAt.str_int a t' b t
  | str b=>obtain⟨t,rfl⟩:=rx;exact SeqAt.EqAt.str_str a t' b t
  | _=>exact absurd (show false=true from fx) aV
 | _=>exact absurd (show false=true from fy) aV
def zi (x:V)(u:Value):Bool:=match u with
 | .none=>Dj .dC x
 | .bool b=>Dj (.bl b) x
 | .int i _=>Dj (.int i) x
 | .str z _=>Dj (.str z) x
 | _=>false
theorem FI {x y:V}{u:Value}(r:RelV y u)(f:jM y=true):zi x u=Dj y x:=by
 cases y with
 | dC=>cases r;rfl
 | bl b=>cases r;rfl
 | int i=>obtain⟨t,rfl⟩:=r;rfl
 | str z=>obtain⟨t,rfl⟩:=r;rfl
 | _=>exact absurd (show false=true from f) aV
theorem mM {x:V}: ∀ {xs:List V} {us:List Value},bY xs us ->xs.all jM=true ->us.any (zi x)=xs.any λy=>Dj y x
 | _,_, .nil,_=>rfl
 | y::xs,u::us, .cons r t,f=>by rw[List.all_cons,cR] at f;rw[List.any_cons,List.any_cons,FI r f.1,mM t f.2]
theorem jD {A:Around}{s:Shared}{x:V}{v:Value}(rx:RelV x v)(fx:jM x=true): ∀ {xs:List V} {us:List Value},bY xs us ->xs.all jM=true -> ∀u∈us,SeqAt.EqAt A s u v (zi x u)
 | _,_, .nil,_=>λu hu=>by cases hu
 | y::xs,u::us, .cons r t,f=>λu' hu=>by rw[List.all_cons,cR] at f;rcases aS.mp hu with rfl | hu;rw[FI r f.1];exact FJ r rx f.1 fx;exact jD rx fx t f.2 u' hu
def Ko (x:V)(xs:List V):Bool:=xs.any λy=>Dj y x
def Pk (K:PySem.W.Frag)(NF:Bool):R2:=λx y H Q=>ca λp xs=>fo (y= .ref p) (gs K H p xs \/ lr K H p xs) (jM x=true) (xs.all jM=true) (Q (.bl (if NF then !Ko x xs else Ko x xs)) H)
theorem BS:gO X (compareOp .In) (Pk X.K false):=by intro ae s σ H x y v u Q I rx ry h;obtain⟨p,xs,rfl,hq,fx,fs,q⟩:=h;cases ry;rcases hq with hq | hq;obtain⟨bD,r,pl,hz⟩:=I.list hq;refine SeqAt.in_listAt (zi x) pl.isList (λw hw=>jD rx fx r fs w ⇑hw) ⟨.bl _,H,I,rfl,?_⟩;rw[show bD.toArray.any (zi x)=bD.any (zi x) by simp,mM r fs];exact q;obtain⟨bD,r,pl,hz⟩:=I.tuple hq;refine SeqAt.in_tupleAt (zi x) pl (λw hw=>jD rx fx r fs w ⇑hw) ⟨.bl _,H,I,rfl,?_⟩;rw[show bD.toArray.any (zi x)=bD.any (zi x) by simp,mM r fs];exact q
theorem uJ:gO X (compareOp .NotIn) (Pk X.K true):=by intro ae s σ H x y v u Q I rx ry h;obtain⟨p,xs,rfl,hq,fx,fs,q⟩:=h;cases ry;rcases hq with hq | hq;obtain⟨bD,r,pl,hz⟩:=I.list hq;refine SeqAt.notIn_listAt (zi x) pl.isList (λw hw=>jD rx fx r fs w ⇑hw) ⟨.bl _,H,I,rfl,?_⟩;rw[show bD.toArray.any (zi x)=bD.any (zi x) by simp,mM r fs];exact q;obtain⟨bD,r,pl,hz⟩:=I.tuple hq;refine SeqAt.notIn_tupleAt (zi x) pl (λw hw=>jD rx fx r fs w ⇑hw) ⟨.bl _,H,I,rfl,?_⟩;rw[show bD.toArray.any (zi x)=bD.any (zi x) by simp,mM r fs];exact q
theorem uI:gO X (compareOp .NotIn) (λx y H Q=>ca λi j=>cM (x= .str i) (y= .str j) (Q (.bl (!(!(Builtin.Str.occurrences j i 0 j.length 1).isEmpty))) H)):=by intro ae s σ H x y v u Q I rx ry h;obtain⟨i,j,rfl,rfl,q⟩:=h;obtain⟨t,rfl⟩:=rx;obtain⟨t',rfl⟩:=ry;exact notIn_str ⟨.bl _,H,I,rfl,q⟩
theorem u9:eN X (.builtin "len") (λxs H Q=>ca λp ys=>cM (xs= [.ref p]) (gs X.K H p ys \/ lr X.K H p ys) (Q (.int ys.length) H)):=by intro ae s σ H xs us Q I r h;obtain⟨p,ys,rfl,hq,q⟩:=h;obtain⟨u,rfl,rx⟩:=vals1 r;cases rx;have hn:=nv;rcases hq with hq | hq;obtain⟨bD,r',pl,hz⟩:=I.list hq;have dL:=r'.length;exact Calls.call_len_list pl.isList (by simp only[aF] <;>lia) ⟨.int ys.length,H,I.tok _,⟨s.toks+1,by rw[aF,dL]⟩,q⟩;obtain⟨bD,r',pl,hz⟩:=I.tuple hq;have dL:=r'.length;exact len_tuple pl (by simp only[aF] <;>lia) ⟨.int ys.length,H,I.tok _,⟨s.toks+1,by rw[aF,dL]⟩,q⟩
theorem u8:eN X (.builtin "len") (λxs H Q=> ∃z,cM (xs= [.str z]) (z.length<=sizeLine) (Q (.int z.length) H)):=by intro ae s σ H xs us Q I r h;obtain⟨z,rfl,hz,q⟩:=h;obtain⟨u,rfl,t,rfl⟩:=vals1 r;have hn:=nv;exact len_str ∅ ⟨.int z.length,H,I.tok _,⟨_,rfl⟩,q⟩
theorem u4:eN X (.type "list") (λxs H Q=>ca λp ys=>cM (xs= [.ref p]) (gs X.K H p ys \/ lr X.K H p ys) (∀l,H l=none ->Q (.ref l) (cq H l (.lst ys)))):=by
 intro ae s σ H xs us Q I r h;obtain⟨p,ys,rfl,hq,q⟩:=h;obtain⟨u,rfl,rx⟩:=vals1 r;cases rx;have fin: ∀ (bD:List Value),bY ys bD ->ys.length<=sizeLine -> ∀ (h':Heap) (c':Nat),(∀b o',s.heap.get? b=some o' ->h'.get? b=some o') ->h'.get? s.heap.objs.size=some {cls:= .type "list",dict:=none,data:= .seq bD.toArray c',slots:= #[]} ->EP X ae σ Q (.ref s.heap.objs.size) {s with heap:=h'}:=λbD r' hz h' c' kp e=>⟨.ref s.heap.objs.size,_,I.laid (t':=s.toks) kp (ao _) (show dt X.prog X.w _ h' _ (.lst ys) from⟨hz,bD,c',r',e⟩),rfl,q _ (I.cF.fresh (ao _))⟩
 rcases hq with hq | hq;obtain⟨bD,r',pl,hz⟩:=I.list hq;have dL:=r'.length;obtain⟨o,ho,hc,n,hd⟩:=pl.isList;exact call_list_seq p (.inl rfl) ho hc hd (λh' c' kp e=>fin bD r' hz h' c' kp e) (by simp only[aF] <;>lia);obtain⟨bD,r',pl,hz⟩:=I.tuple hq;have dL:=r'.length;obtain⟨o,ho,hc,n,hd⟩:=pl;exact call_list_seq p (.inr rfl) ho hc hd (λh' c' kp e=>fin bD r' hz h' c' kp e) (by simp only[aF] <;>lia)
theorem r_:eN X (.type "tuple") (λxs H Q=>ca λp ys=>xs= [.ref p] /\ ((gs X.K H p ys /\ ∀l,H l=none ->Q (.ref l) (cq H l (.tup ys))) \/ (lr X.K H p ys /\ Q (.ref p) H))):=by
 intro ae s σ H xs us Q I r h;obtain⟨p,ys,rfl,h⟩:=h;obtain⟨u,rfl,rx⟩:=vals1 r;cases rx;rcases h with⟨hq,q⟩ | ⟨hq,q⟩
 obtain⟨bD,r',pl,hz⟩:=I.list hq;have dL:=r'.length;refine call_tuple_list pl.isList (λh' kp=> ?_) (by simp only[aF] <;>lia);have I1:Inv X ae σ H {s with heap:=h'}:=I.kept (t':=s.toks) kp;have I2:Inv X ae σ (cq H h'.objs.size (.tup ys)) {s with heap:=h'.push {cls:= .type "tuple",data:= .seq bD.toArray}}:=I1.laid (t':=s.toks) (λb o e=>aq _ e) (ao _) (show dt X.prog X.w _ _ _ (.tup ys) from⟨hz,bD,r',xL.new _ _⟩);exact⟨.ref h'.objs.size,_,I2,rfl,q _ (I1.cF.fresh (ao _))⟩;obtain⟨bD,r',pl,hz⟩:=I.tuple hq;exact call_tuple_same pl ⟨.ref p,H,I,rfl,q⟩
def Sb (K:PySem.W.Frag)(T:String)(x:V)(H:Hp):Prop:=match x with
 | .str _=>T= "str"
 | .int _=>T= "int"
 | .ref p=>(T= "list" /\ ∃xs,gs K H p xs) \/ (T= "tuple" /\ ∃o,cM (K.lookup p=some o) (o.cls= .type "tuple") (o.dict=none)) \/(T= "dict" /\ ((∃kvs,H p=some (.dK kvs)) \/ ∃kvs,H p=some (.dT kvs))) \/ (T= "set" /\ ∃S n,H p=some (.set S n))
 | _=>False
theorem DJ {ae:List (Addr×Obj)}{σ:St}{H:Hp}{s:Shared}{T:String}{x:V}{v:Value}(I:Inv X ae σ H s)(r:RelV x v)(ty:Sb X.K T x H): s.TypeIs v T /\ ∀a,v= .ref a -> ∃ob,s.heap.get? a=some ob /\ ob.dict=none:=by
 cases x with
 | str z=>obtain⟨t,rfl⟩:=r;cases (show T= "str" from ty);exact⟨typeIs_str s z t,λ_ e=>nomatch e⟩
 | int i=>obtain⟨t,rfl⟩:=r;cases (show T= "int" from ty);exact⟨typeIs_int s i t,λ_ e=>nomatch e⟩
 | ref p =>
  cases r;rcases ty with⟨rfl,xs,hq⟩ | ⟨rfl,o,hk,hc,hd⟩ | ⟨rfl,hk⟩ | ⟨rfl,S,n,hk⟩
  obtain⟨bD,_,pl,_⟩:=I.list hq;refine⟨pl.isList.typeIs,λa e=> ?_⟩;cases e;obtain⟨o,n,e,c,hd,_⟩:=pl;exact⟨o,e,hd⟩;refine⟨⟨o,I.kT p o hk,hc⟩,λa e=> ?_⟩;cases e;exact⟨o,I.kT _ o hk,hd⟩;have z: ∃o,s.heap.get? p=some o /\ o.ExactDict:=by
   rcases hk with⟨kvs,hk⟩ | ⟨kvs,hk⟩
   obtain⟨_,_,_,_,o,_,_,e,ex,_⟩:=I.cF p _ hk;exact⟨o,e,ex⟩;obtain⟨_,_,_,_,o,_,_,e,ex,_⟩:=I.cF p _ hk;exact⟨o,e,ex⟩
  obtain⟨o,e,ex⟩:=z;refine⟨⟨o,e,ex.1⟩,λa e2=> ?_⟩;cases e2;exact⟨o,e,ex.2.1⟩;obtain⟨o,_,_,_,e,ex,_⟩:=I.cF p _ hk;refine⟨⟨o,e,ex.1⟩,λa e2=> ?_⟩;cases e2;exact⟨o,e,ex.2.1⟩
 | _=>exact False.elim ty
def OW (K:PySem.W.Frag)(T:String)(r:V ->List V ->Hp ->VK ->Prop)(to:TE):TE:=λσ H Q=>to σ H λx H1=>Sb K T x H1 /\ r x [] H1 Q
def Ur (K:PySem.W.Frag)(T:String)(r:V ->List V ->Hp ->VK ->Prop)(to:TE)(t:TA):TE:=λσ H Q=>to σ H λx H1=>Sb K T x H1 /\ t σ H1 λxs H2=>r x xs H2 Q
variable {o e:Expr}{es:List Expr}{to:TE}{t:TA}{name:Str}{db c9:Pos}{T id:String}{r:V ->List V ->Hp ->VK ->Prop}
theorem ED (pa:PlainAttrs T)(slot:Slot T name id)(Vp:typeOf (.builtin id)=pure (.type "method_descriptor"))(hm:Rr X id r)(ho:PE X o to) (w_:attributeBase o name X.env (eval o X.env)=eval o X.env:=by rfl) (wY:(db.endLine==c9.line)=true:=by rfl):PE X (.Call (.Attribute o name db) [] [] c9) (OW X.K T r to):=by intro ae s σ H Q I h;refine wpAny_Call_method0_late w_ wY (cz (ho ae s σ H _ I h) λv s1 ⟨x,H1,I1,r1,ty,q1⟩=> ?_);obtain⟨h1,h2⟩:=DJ I1 r1 ty;exact⟨T,id,pa,slot,Vp,h1,h2,Calls.callWith_builtin rfl (PySem.evalArgs_none (hm ae s1 σ H1 x [] v [] Q I1 r1 .nil q1))⟩
theorem hW (pa:PlainAttrs T)(slot:Slot T name id)(Vp:typeOf (.builtin id)=pure (.type "method_descriptor"))(hm:Rr X id r)(ho:PE X o to)(ha:PA X (e::es) t) (w_:attributeBase o name X.env (eval o X.env)=eval o X.env:=by rfl) (VX:((backTo c9 (starEach (e::es) X.env)).all (λx=> !x.1) && (backToKw c9 (keywordEach [] X.env)).all (λx=>x.1.isSome) && decide ((e::es).length+([]:List Keyword).length+(if([]:List Keyword).isEmpty then 0 else 1) <30))=true:=by rfl) (wY:(db.endLine==c9.line)=true:=by rfl) (hs:starEach (e::es) X.env=(false,eval e X.env)::starEach es X.env:=by rfl) (Mw:(backTo c9 (starEach es X.env)).any (·.1)=false:=by rfl): PE X (.Call (.Attribute o name db) (e::es) [] c9) (Ur X.K T r to t):=by intro ae s σ H Q I h;refine wpAny_Call_method_late w_ VX wY rfl (cz (ho ae s σ H _ I h) λv s1 ⟨x,H1,I1,r1,ty,q1⟩=> ?_);obtain⟨h1,h2⟩:=DJ I1 r1 ty;refine⟨T,id,pa,slot,Vp,h1,h2,?_⟩;have hA:=ha c9 ae s1 σ H1 _ I1 q1;rw[hs] at hA ⊢;refine Calls.callWith_builtin (by show(false || (backTo c9 (starEach es X.env)).any (·.1))=false;rw[Mw] <;>rfl) (Calls.evalArgs_plain ?_);exact cz hA λus s2 ⟨vs,H2,I2,r2,q2⟩=>hm ae s2 σ H2 x vs v us Q I2 r1 r2 q2
end
def Ta (X:Cx)(id:String)(r:V ->List V ->Hp ->VK ->Prop):Prop:=∀ (ae:List (Addr×Obj)) (s:Shared) (σ:St) (H:Hp) (x:V) (xs:List V) (v:Value) (us:List Value) (Q:VK),Inv X ae σ H s ->RelV x v ->bY xs us ->r x xs H Q ->wpAny (model X.prog X.w) X.A (call (.builtin id) (v::us)) (EP X ae σ Q) X.xe s
theorem bY.one: ∀ {x:V} {us:List Value},bY [x] us -> ∃u,us= [u] /\ RelV x u :=by intro x us h;cases h with | cons r t=>cases t;exact⟨_,rfl,r⟩
theorem bY.two: ∀ {x y:V} {us:List Value},bY [x,y] us ->ca λu v=>cM (us= [u,v]) (RelV x u) (RelV y v) :=by intro x y us h;cases h with | cons r t=>cases t with | cons q t=>cases t;exact⟨_,_,rfl,r,q⟩
theorem bY.zero: ∀ {us:List Value},bY [] us ->us= []
 | _, .nil=>rfl
theorem MV {α:Type}(l:List α):l.eraseIdx (l.length - 1)=l.dropLast:=by
 induction l with
 | nil=>rfl
 | cons a r ih=>
  cases r with
  | nil=>rfl
  | cons b r=>
   have e:(a::b::r).length - 1=((b::r).length - 1)+1:=by have h1:(a::b::r).length=r.length+2:=rfl;have h2:(b::r).length=r.length+1:=rfl;lia
   rw[e,List.eraseIdx_cons_succ,ih];all_goals rfl
section
variable {X:Cx}{ae:List (Addr×Obj)}{σ:St}{H:Hp}{s:Shared}{l b:Addr}{xs ys zs:List V}
theorem Inv.HU {bD its':List Value}{n:Nat}{f:Array Value ->Array Value}{t':Nat}(I:Inv X ae σ H s)(hH:H l=some (.lst xs)) (e:s.heap.get? l=some {cls:= .type "list",data:= .seq bD.toArray n}) (hf:f bD.toArray=its'.toArray) (hv:bY ys its') (hz:ys.length<=sizeLine): Inv X ae σ (cq H l (.lst ys)) {s with heap:=s.heap.update l (Obj.mapSeq f),toks:=t'}:=by have q:=PySem.IsL.update e f;rw[hf] at q;refine I.write (x:=l) (e:=l) (by rw[hH];exact trivial) (.inl rfl) (λb' u hb hu=>(Heap.get?_update_other s.heap (Obj.mapSeq f) (cV hb)).trans hu) ⟨_,q⟩ ?_;exact⟨hz,its',_,hv,q⟩
theorem Inv.U7 {bD:List Value}{t':Nat}(I:Inv X ae σ H s)(hv:bY ys bD)(hz:ys.length<=sizeLine): Inv X ae σ (cq H s.heap.objs.size (.lst ys)) {s with heap:=s.heap.push {cls:= .type "list",data:= .seq bD.toArray},toks:=t'}:=I.laid (λ_ _ q=>aq _ q) (ao _) ⟨hz,bD,0,hv,aM _ rfl⟩
theorem Inv.fresh (I:Inv X ae σ H s):H s.heap.objs.size=none:=I.cF.fresh (ao _)
theorem Inv.yT (I:Inv X ae σ H s)(hH:H l=some (.lst xs)):xs.length<=sizeLine /\ ca λ(bD:List Value) (n:Nat)=>cM (bY xs bD) (xs.length=bD.length) (s.heap.get? l=some {cls:= .type "list",data:= .seq bD.toArray n}):=by obtain⟨z,bD,n,r,e⟩:=I.cF l _ hH;exact⟨z,bD,n,r,r.length,e⟩
theorem ES {n:Nat}(h:n<=sizeLine):Builtin.List.listTooLong n=false:=by unfold Builtin.List.listTooLong;exact aQ ∅
end
section
variable {X:Cx}
def Ai:V ->List V ->Hp ->VK ->Prop:=λx vs H Q=>dH λl xs y=>fo (x= .ref l) (vs= [y]) (H l=some (.lst xs)) (xs.length<sizeLine) (Q .dC (cq H l (.lst (xs++ [y]))))
theorem dE:Ta X "list.append" Ai:=by intro ae s σ H x vs v us Q I rx rv h;obtain⟨l,xs,y,rfl,rfl,hH,hz,q⟩:=h;cases rx;obtain⟨u,rfl,ru⟩:=rv.one;obtain⟨z,bD,n,r,hl,e⟩:=I.yT hH;refine call_meets F.slot_list_append ⟨_,e,rfl⟩ F.entry_list_append (F.args_list_append_2 _ _) (PySem.list_append l bD.toArray n u (by rw[aF];lia)) ⟨e,?_⟩;refine⟨.dC,_,I.HU (its':=bD++ [u]) hH e (by simp) (r.append (.cons ru .nil)) ?_,rfl,q⟩;rw[aH,List.length_singleton];lia
def Ah:V ->List V ->Hp ->VK ->Prop:=λx vs H Q=>fF λl b xs zs=>kz (x= .ref l) (vs= [.ref b]) (H l=some (.lst xs)) (H b=some (.lst zs)) (xs.length+zs.length<=sizeLine) (Q .dC (cq H l (.lst (xs++zs))))
theorem Cb:Ta X "list.extend" Ah:=by
 intro ae s σ H x vs v us Q I rx rv h;obtain⟨l,b,xs,zs,rfl,rfl,hH,hB,hz,q⟩:=h;cases rx;obtain⟨u,rfl,ru⟩:=rv.one;cases ru;obtain⟨z,bD,n,r,hl,e⟩:=I.yT hH;obtain⟨z2,yY,n2,r2,hl2,e2⟩:=I.yT hB;have hsz:bD.toArray.size+yY.toArray.size<=sizeLine:=by rw[aF,aF];lia
 have QE:¬(!bD.toArray.isEmpty && Builtin.List.listTooLong (bD.toArray.size+yY.toArray.size))=true:=by rw[ES hsz,Bool.and_false];exact aV
 refine call_meets F.slot_list_extend ⟨_,e,rfl⟩ F.entry_list_extend (F.args_list_extend_2 _ _) (AutoSeq1.list_extend_list_list_0 l bD.toArray n b yY.toArray n2 QE (by rw[aF];lia) ∅) ⟨e,e2,?_⟩;refine⟨.dC,_,I.HU (its':=bD++yY) hH e (by simp) (r.append r2) ?_,rfl,q⟩;rw[aH];lia
def abD:V ->List V ->Hp ->VK ->Prop:=λx vs H Q=>dH λl xs y=>fo (x= .ref l) (vs= []) (H l=some (.lst xs)) (xs[xs.length - 1]? =some y) (Q y (cq H l (.lst xs.dropLast)))
def Es:V ->List V ->Hp ->VK ->Prop:=λx vs H Q=>ca λl xs=>eu (x= .ref l) (vs= []) (H l=some (.lst xs)) (Q .dC (cq H l (.lst [])))
theorem wF:Ta X "list.clear" Es:=by intro ae s σ H x vs v us Q I rx rv h;obtain⟨l,xs,rfl,rfl,hH,q⟩:=h;cases rx;have hus:=rv.zero;subst hus;obtain⟨z,bD,n,r,hl,e⟩:=I.yT hH;refine call_meets F.slot_list_clear ⟨_,e,rfl⟩ F.entry_list_clear (F.args_list_clear_1 _) (AutoSeq1.list_clear_list_0 l bD.toArray n (by rw[aF];lia)) ⟨e,?_⟩;exact⟨.dC,_,I.HU (its':= []) (ys:= []) hH e rfl .nil (cZ _),rfl,q⟩
def Pl:R2:=λx y H Q=>fF λl b xs zs=>kz (x= .ref l) (y= .ref b) (H l=some (.lst xs)) (H b=some (.lst zs)) (xs.length+zs.length<=sizeLine) (∀p,H p=none ->Q (.ref p) (cq H p (.lst (xs++zs))))
theorem EN:gO X (binaryOp .Add) Pl:=by
 intro ae s σ H x y v u Q I rx ry h;obtain⟨l,b,xs,zs,rfl,rfl,hH,hB,hz,q⟩:=h;cases rx;cases ry;obtain⟨z,bD,n,r,hl,e⟩:=I.yT hH;obtain⟨z2,yY,n2,r2,hl2,e2⟩:=I.yT hB;refine PySem.P.add_list e e2 ?_ (by rw[aF,aF];lia);have ea:bD.toArray++yY.toArray=(bD++yY).toArray:=by simp
 rw[ea];exact⟨.ref _,_,I.U7 (t':=s.toks) (r.append r2) (by rw[aH];lia),rfl,q _ I.fresh⟩
end
section
variable {κ:Type} [DecidableEq κ]
def gv (kvs:List (κ×V))(k:κ):Option V:=(kvs.find? λkv=>decide (kv.1=k)).map (·.2)
def kF (kvs:List (κ×V))(k:κ)(v:V):List (κ×V):=if(kvs.any λkv=>decide (kv.1=k))=true then kvs.map (λkv=>if kv.1=k then(kv.1,v) else kv) else kvs++ [(k,v)]
def jX (kvs:List (κ×V))(k:κ):List (κ×V):=kvs.filter λkv=>decide (kv.1≠k)
theorem pT {p:κ×V}{r:List (κ×V)}{k:κ}(e:p.1=k):gv (p::r) k=some p.2:=by simp[gv,cH,e]
theorem pU {p:κ×V}{r:List (κ×V)}{k:κ}(e:¬p.1=k):gv (p::r) k=gv r k:=by simp[gv,cH,e]
theorem vD (k:κ): ∀kvs:List (κ×V),(kvs.any λkv=>decide (kv.1=k))=(gv kvs k).isSome
 | []=>rfl
 | p::r=>by rw[List.any_cons];by_cases e:p.1=k;simp only[pT e,cE e,Bool.true_or,Option.isSome_some];rw[pU e,aQ e,Bool.false_or];exact vD k r
theorem oh (kvs:List (κ×V))(k:κ)(v:V):(kF kvs k v).length<=kvs.length+1:=by unfold kF;split;rw[ag];lia;rw[aH,aB,List.length_nil];lia
theorem iL.f6 {o:Option V}{u:Option Value}(r:iL o u):o.isSome=u.isSome:=by
 cases o with
 | none=>cases u with
  | none=>rfl
  | some _=>exact(show False from r).elim
 | some _=>cases u with
  | none=>exact(show False from r).elim
  | some _=>rfl
theorem iL.getD {o:Option V}{u:Option Value}{d:V}{d':Value}(r:iL o u)(rd:RelV d d'):RelV (o.getD d) (u.getD d'):=by
 cases o with
 | none=>cases u with
  | none=>exact rd
  | some _=>exact(show False from r).elim
 | some _=>cases u with
  | none=>exact(show False from r).elim
  | some _=>exact r
theorem KV.val {kvs:List (κ×V)}{vs:List (κ×Value)}(r:KV kvs vs)(k:κ):iL (gv kvs k) (valueAt vs k):=by
 unfold KV at r;induction r with
 | nil=>exact True.intro
 | @cons p q ps qs h t ih=>
  obtain⟨h1,h2⟩:=h;by_cases e:p.1=k;have e':q.1=k:=h1.symm.trans e;have b:valueAt (q::qs) k=some q.2:=by simp[valueAt,cH,e']
  rw[pT e,b];exact h2;have e':¬q.1=k:=λz=>e (h1.trans z);have b:valueAt (q::qs) k=valueAt qs k:=by simp[valueAt,cH,e']
  rw[pU e,b];exact ih
theorem KV.any {kvs:List (κ×V)}{vs:List (κ×Value)}(r:KV kvs vs)(k:κ):(kvs.any λkv=>decide (kv.1=k))=vs.any λkv=>decide (kv.1=k):=by
 unfold KV at r;induction r with
 | nil=>rfl
 | cons h t ih=>rw[List.any_cons,List.any_cons,ih,h.1]
theorem KV.Ls {kvs:List (κ×V)}{vs:List (κ×Value)}(r:KV kvs vs)(k:κ){y:V}{u:Value}(ry:RelV y u): KV (kvs.map λkv=>if kv.1=k then(kv.1,y) else kv) (vs.map λkv=>if kv.1=k then(kv.1,u) else kv):=by
 unfold KV at r ⊢;induction r with
 | nil=>exact .nil
 | @cons p q ps qs h t ih=>rw[az,az];refine .cons ?_ ih;obtain⟨h1,h2⟩:=h;by_cases e:p.1=k;rw[ak e,ak (h1.symm.trans e)];exact⟨h1,ry⟩;rw[aj e,aj (λz=>e (h1.trans z))];exact⟨h1,h2⟩
theorem KV.put {kvs:List (κ×V)}{vs:List (κ×Value)}(r:KV kvs vs)(k:κ){y:V}{u:Value}(ry:RelV y u):KV (kF kvs k y) (stored vs k u):=by unfold kF stored;rw[r.any k];by_cases e:(vs.any λkv=>decide (kv.1=k))=true;rw[ak e,ak e];exact r.Ls k ry;rw[aj e,aj e];exact Paired.snoc r ⟨rfl,ry⟩
theorem KV.drop {kvs:List (κ×V)}{vs:List (κ×Value)}(r:KV kvs vs)(k:κ):KV (jX kvs k) (without vs k):=by
 unfold KV at r ⊢;unfold jX without;induction r with
 | nil=>exact .nil
 | @cons p q ps qs h t ih=>
  obtain⟨h1,h2⟩:=h;rw[List.filter_cons,List.filter_cons];by_cases e:p.1=k;have a:¬decide (p.1≠k)=true:=by simp[e]
  have b:¬decide (q.1≠k)=true:=by simp[h1.symm.trans e]
  rw[aj a,aj b];exact ih;have e':¬q.1=k:=λz=>e (h1.trans z);have a:decide (p.1≠k)=true:=by simp[e]
  have b:decide (q.1≠k)=true:=by simp[e']
  rw[ak a,ak b];exact .cons ⟨h1,h2⟩ ih
theorem KV.keys {kvs:List (κ×V)}{vs:List (κ×Value)}(r:KV kvs vs):kvs.map (·.1)=vs.map (·.1):=by
 unfold KV at r;induction r with
 | nil=>rfl
 | cons h t ih=>rw[az,az,ih,h.1]
theorem KV.length {kvs:List (κ×V)}{vs:List (κ×Value)}(r:KV kvs vs):kvs.length=vs.length:=Paired.length r
theorem xn (kvs:List (κ×V))(k:κ):(jX kvs k).length<=kvs.length:=List.length_filter_le _ _
end
theorem ol {P:Program}{w:World}{k:b8}{u:Value}(r:RelV (kV k) u):(cr P w).is k u=true:=by
 cases k with
 | inl i=>obtain⟨t,e⟩:=(show ∃t,u=Value.int i t from r);subst e;exact wJ P w i t
 | inr x=>obtain⟨t,e⟩:=(show ∃t,u=Value.str x t from r);subst e;exact wH P w x t
theorem sY {P:Program}{w:World}: ∀ {ks:List b8} {us:List Value},bY (ks.map kV) us ->ItemsAre (cr P w) ks us
 | [],_,r=>by rw[cG] at r;cases r;exact .nil
 | k::ks,_,r=>by
  rw[az] at r;cases r with
  | cons h t=>exact .cons (ol h) (sY t)
abbrev KT (H:Hp):List (List b8×V) ->List (List b8×Addr×Value) ->Prop:=Paired λp q=>p.1=q.1 /\ H q.2.1=some (.tup (p.1.map kV)) /\ RelV p.2 q.2.2
theorem KT.val {H:Hp}{kvs:List (List b8×V)}{xs:List (List b8×Addr×Value)}(r:KT H kvs xs)(k:List b8):iL (gv kvs k) ((atKey xs k).map (·.2)):=by
 induction r with
 | nil=>exact True.intro
 | @cons p q ps qs h t ih=>
  obtain⟨h1,_,h2⟩:=h;by_cases e:p.1=k;have e':q.1=k:=h1.symm.trans e;have b:atKey (q::qs) k=some q.2:=by simp[atKey,cH,e']
  rw[pT e,b];exact h2;have e':¬q.1=k:=λz=>e (h1.trans z);have b:atKey (q::qs) k=atKey qs k:=by simp[atKey,cH,e']
  rw[pU e,b];exact ih
theorem KT.Ls {H:Hp}{kvs:List (List b8×V)}{xs:List (List b8×Addr×Value)}(r:KT H kvs xs)(k:List b8){y:V}{u:Value}(ry:RelV y u): KT H (kvs.map λkv=>if kv.1=k then(kv.1,y) else kv) (xs.map (putAt k u)):=by
 induction r with
 | nil=>exact .nil
 | @cons p q ps qs h t ih=>rw[az,az];refine .cons ?_ ih;obtain⟨h1,h2,h3⟩:=h;unfold putAt;by_cases e:p.1=k;rw[ak e,ak (h1.symm.trans e)];exact⟨h1,h2,ry⟩;rw[aj e,aj (λz=>e (h1.trans z))];exact⟨h1,h2,h3⟩
theorem KT.put {H:Hp}{kvs:List (List b8×V)}{xs:List (List b8×Addr×Value)}(r:KT H kvs xs)(k:List b8){b:Addr}{y:V}{u:Value}(hb:H b=some (.tup (k.map kV)))(ry:RelV y u): KT H (kF kvs k y) (storedH xs k b u):=by
 have e:(kvs.any λkv=>decide (kv.1=k))=(atKey xs k).isSome:=by rw[vD,(r.val k).f6,Option.isSome_map]
 unfold kF storedH;rw[e];by_cases q:(atKey xs k).isSome=true;rw[ak q,ak q];exact r.Ls k ry;rw[aj q,aj q];exact Paired.snoc r ⟨rfl,hb,ry⟩
theorem KT.keeps {H H':Hp}{kvs:List (List b8×V)}{xs:List (List b8×Addr×Value)}(r:KT H kvs xs)(ht: ∀b ys,H b=some (.tup ys) ->H' b=some (.tup ys)):KT H' kvs xs:=Paired.L' r λ_ _ z=>⟨z.1,ht _ _ z.2.1,z.2.2⟩
section
variable {P:Program}{w:World}{H:Hp}{h:Heap}{a:Addr}
theorem JY {u:HO}(ok:kA P w H h)(e:Rd H a u):dt P w H h a u:=e.ok ok
theorem mx {kvs:List (b8×V)}(ok:kA P w H h)(e:Rd H a (.dK kvs)):kvs.length<=sizeLine /\ (a==sysModules)=false /\ ∃vs,KV kvs vs /\ h.DictOf (cr P w) a vs:=
 show dt P w H h a (.dK kvs) from JY ok e
theorem tJ {kvs:List (b8×V)}(ok:kA P w H h)(e:H a=some (.dK kvs)):kvs.length<=sizeLine /\ (a==sysModules)=false /\ ∃vs,KV kvs vs /\ h.DictOf (cr P w) a vs:=mx ok (.inl e)
theorem ny {ks:List b8}(ok:kA P w H h)(e:H a=some (.tup (ks.map kV))):(tupleKind (cr P w)).is h ks a:=by
 obtain⟨_,bD,r,o,h1,h2,n,h3,_⟩:=(show dt P w H h a (.tup (ks.map kV)) from ok a _ e)
 exact⟨o,bD.toArray,n,h1,h2,h3, ⇑(sY r)⟩
theorem qP {kvs:List (List b8×V)}(ok:kA P w H h)(e:Rd H a (.dT kvs)):kvs.length<=sizeLine /\ (a==sysModules)=false /\∃xs,KT H kvs xs /\ h.DictOfH (tupleKind (cr P w)) a xs:=by
 obtain⟨z,y,xs,r,o,es,ep,h1,h2,h3,h4,h5⟩:=(show dt P w H h a (.dT kvs) from JY ok e)
 refine⟨z,y,xs,r,o,es,ep,h1,h2,h3,h4,λx hx=> ?_,h5⟩;have all: ∀ {l:List (List b8×V)} {m:List (List b8×Addr×Value)},KT H l m -> ∀x∈m,(tupleKind (cr P w)).is h x.1 x.2.1:=by
  intro l m q;induction q with
  | nil=>intro x hx;exact nomatch hx
  | @cons p q ps qs hq t ih=>intro x hx;rcases aS.mp hx with e | hx;subst e;exact ny ok (by rw[<- hq.1];exact hq.2.1);exact ih x hx
 exact all r x hx
theorem Q4 {kvs:List (List b8×V)}(ok:kA P w H h)(e:H a=some (.dT kvs)):kvs.length<=sizeLine /\ (a==sysModules)=false /\∃xs,KT H kvs xs /\ h.DictOfH (tupleKind (cr P w)) a xs:=qP ok (.inl e)
end
def lv (H:Hp)(a:Addr)(y:V)(r:Option V):Prop:=(ca λkvs k=>cM (Rd H a (.dK kvs)) (y=kV k) (r=gv kvs k)) \/ dH λkvs k b=>eu (Rd H a (.dT kvs)) (y= .ref b) (H b=some (.tup (k.map kV))) (r=gv kvs k)
def GG (H:Hp)(a:Addr)(y v:V)(H':Hp):Prop:=(ca λkvs k=>eu (H a=some (.dK kvs)) (y=kV k) (kvs.length<sizeLine) (H'=cq H a (.dK (kF kvs k v)))) \/dH λkvs k b=>fo (H a=some (.dT kvs)) (y= .ref b) (H b=some (.tup (k.map kV))) (kvs.length<sizeLine) (H'=cq H a (.dT (kF kvs k v)))
theorem lv.k {H:Hp}{a:Addr}{kvs:List (b8×V)}{k:b8}(e:H a=some (.dK kvs)):lv H a (kV k) (gv kvs k):= .inl ⟨kvs,k, .inl e,rfl,rfl⟩
theorem GG.k {H:Hp}{a:Addr}{kvs:List (b8×V)}{k:b8}{v:V}(e:H a=some (.dK kvs))(hl:kvs.length<sizeLine):GG H a (kV k) v (cq H a (.dK (kF kvs k v))):= .inl ⟨kvs,k,e,rfl,hl,rfl⟩
section
variable {X:Cx}{ae:List (Addr×Obj)}{σ:St}{H:Hp}{s:Shared}{a:Addr}{y v:V}{u r:Value}{o:Option V}{A:Around}{E:Value ->Shared ->Prop}
theorem Inv.big (I:Inv X ae σ H s):sysModules<s.heap.objs.size:=by have h:mainGlobals<s.heap.objs.size:=(I.mod.glob.keeps I.bk).lt;exact Nat.lt_trans (by decide) h
theorem CI {Q:Value ->Shared ->Prop}(hu:A.units+1<cLine)(I:Inv X ae σ H s)(g:lv H a y (some v))(ry:RelV y u)(h: ∀w' s',Inv X ae σ H s' ->RelV v w' ->Q w' s'): wpAny (model X.prog X.w) A (getItem (.ref a) u) Q E s:=by
 rcases g with⟨kvs,k,e,ey,l⟩ | ⟨kvs,k,b,e,ey,eb,l⟩
 subst ey;obtain⟨z,hd,vs,e7,dd⟩:=mx I.cF e;obtain⟨w',hw,ur⟩:=iL.some_of (v:=v) (o:=valueAt vs k) (by rw[l];exact e7.val k);exact wpAny_getItem_of (ol ry) dd.mapOf hw (h w' _ (I.tok _) ur);subst ey;cases (show u=Value.ref b from ry);obtain⟨z,hd,xs,e7,dd⟩:=qP I.cF e;obtain⟨w',hw,ur⟩:=iL.some_of (v:=v) (o:=(atKey xs k).map (·.2)) (by rw[l];exact e7.val k);obtain⟨p,hp,Vz⟩:=Option.map_eq_some_iff.mp hw;refine wpAny_getItem_heap (tupleKind_room_in1 hu) (ny I.cF eb) dd hp ?_;rw[Vz];exact h w' _ (I.tok _) ur
theorem aaW {Q:Value ->Shared ->Prop}(hu:A.units+1<cLine)(I:Inv X ae σ H s)(g:lv H a y o)(ry:RelV y u)(h: ∀s',Inv X ae σ H s' ->Q (.bool o.isSome) s'): wpAny (model X.prog X.w) A (compareOp .In u (.ref a)) Q E s:=by
 rcases g with⟨kvs,k,e,ey,l⟩ | ⟨kvs,k,b,e,ey,eb,l⟩
 subst ey;obtain⟨z,hd,vs,e7,dd⟩:=mx I.cF e;refine wpAny_in_of (ol ry) hd dd.mapOf ?_;rw[<- (e7.val k).f6, <- l];exact h _ (I.tok _);subst ey;cases (show u=Value.ref b from ry);obtain⟨z,hd,xs,e7,dd⟩:=qP I.cF e;refine wpAny_in_heap (tupleKind_room_in1 hu) (ny I.cF eb) hd dd ?_;have q:=(e7.val k).f6;rw[Option.isSome_map] at q;rw[<- q, <- l];exact h _ (I.tok _)
theorem IP {Q:Value ->Shared ->Prop}(hu:A.units+1<cLine)(I:Inv X ae σ H s)(g:lv H a y o)(ry:RelV y u)(h: ∀s',Inv X ae σ H s' ->Q (.bool (!o.isSome)) s'): wpAny (model X.prog X.w) A (compareOp .NotIn u (.ref a)) Q E s:=by
 rcases g with⟨kvs,k,e,ey,l⟩ | ⟨kvs,k,b,e,ey,eb,l⟩
 subst ey;obtain⟨z,hd,vs,e7,dd⟩:=mx I.cF e;refine wpAny_notIn_of (ol ry) hd dd.mapOf ?_;rw[<- (e7.val k).f6, <- l];exact h _ (I.tok _);subst ey;cases (show u=Value.ref b from ry);obtain⟨z,hd,xs,e7,dd⟩:=qP I.cF e;refine wpAny_notIn_heap (tupleKind_room_in1 hu) (ny I.cF eb) hd dd ?_;have q:=(e7.val k).f6;rw[Option.isSome_map] at q;rw[<- q, <- l];exact h _ (I.tok _)
theorem pO {h':Heap}{t':Nat}{ob:HO}(I:Inv X ae σ H s)(mu:Rq (H a))(hs:Heap.SameBut a s.heap h')(he: ∃q,h'.get? a=some q)(new:dt X.prog X.w (cq H a ob) h' a ob): Inv X ae σ (cq H a ob) {s with heap:=h',toks:=t'}:=I.write (x:=a) (e:=a) mu (.inl rfl) (λb q hb z=>(hs.2 b hb).trans z) he new
theorem zj {P:Program}{w:World}{H':Hp}{h':Heap}{kvs:List (b8×V)}{vs:List (b8×Value)}(z:kvs.length<=sizeLine)(hd:(a==sysModules)=false)(e7:KV kvs vs)(dd:h'.DictOf (cr P w) a vs): dt P w H' h' a (.dK kvs):=⟨z,hd,vs,e7,dd⟩
theorem CH {H':Hp}{Q:Unit ->Shared ->Prop}(hu:A.units+1<cLine)(I:Inv X ae σ H s)(g:GG H a y v H')(ry:RelV y u)(rv:RelV v r)(h: ∀s',Inv X ae σ H' s' ->Q () s'): wpAny (model X.prog X.w) A (setItem (.ref a) u r) Q E s:=by
 rcases g with⟨kvs,k,e,ey,l,eH⟩ | ⟨kvs,k,b,e,ey,eb,l,eH⟩
 subst ey eH;obtain⟨z,hd,vs,e7,dd⟩:=tJ I.cF e;have hz:vs.length<=sizeLine:=by rw[<- e7.length];exact z
 have hl:(kF kvs k v).length<=sizeLine:=by have:=oh kvs k v;lia
 refine wpAny_setItem_pairs (hsz:=hz) (ol ry) dd λh' G0 hs=>h _ ?_;have he: ∃q,h'.get? a=some q:=let ⟨q,_,_,hq,_⟩:=G0;⟨q,hq⟩
 exact pO I (by rw[e];exact True.intro) hs he (zj hl hd (e7.put k rv) G0);subst ey eH;cases (show u=Value.ref b from ry);obtain⟨z,hd,xs,e7,dd⟩:=Q4 I.cF e;have hz:xs.length<=sizeLine:=by rw[<- Paired.length e7];exact z
 have hl:(kF kvs k v).length<=sizeLine:=by have:=oh kvs k v;lia
 refine wpAny_setItem_heap (hsz:=hz) (tupleKind_room_in1 hu) (ny I.cF eb) dd λh' G0 hs=>h _ ?_;obtain⟨q,es,ep,hq,h2,h3,h4,_,h5⟩:=G0;refine pO I (by rw[e];exact True.intro) hs ⟨q,hq⟩ ⟨hl,hd,_,(e7.put k eb rv).keeps λc ys ec=> ?_,q,es,ep,hq,h2,h3,h4,h5⟩;rw[bC (PX ec e (λz=>nomatch z))];exact ec
end
section
variable {X:Cx}{ae:List (Addr×Obj)}{σ:St}{H:Hp}{s:Shared}{a:Addr}{kvs:List (b8×V)}{k:b8}{u:Value}{A:Around}{E:Value ->Shared ->Prop}
theorem CJ {Q:Unit ->Shared ->Prop}(I:Inv X ae σ H s)(e:H a=some (.dK kvs))(ry:RelV (kV k) u)(l:(gv kvs k).isSome=true)(h: ∀s',Inv X ae σ (cq H a (.dK (jX kvs k))) s' ->Q () s'): wpAny (model X.prog X.w) A (delItem (.ref a) u) Q E s:=by
 obtain⟨z,hd,vs,e7,dd⟩:=tJ I.cF e;refine wpAny_delItem_slot dd.typeIs (by decide) PySem.F.slot_dict_delitem (call_meetsIn PySem.F.slot_dict_delitem dd.typeIs PySem.F.entry_dict_delitem (PySem.F.args_dict_delitem_2 _ _) (meets_dict_delitem_pairs (cr X.prog X.w) a (ol ry)) ⟨vs,dd,by rw[<- e7.length];exact z,by rw[<- (e7.val k).f6];exact l,λh' G0 hs=>h _ ?_⟩);have he: ∃q,h'.get? a=some q:=let ⟨q,_,_,hq,_⟩:=G0;⟨q,hq⟩
 exact pO I (by rw[e];exact True.intro) hs he (zj (av (xn kvs k) z) hd (e7.drop k) G0)
theorem Q5 {v:V}{more:List Value}{Q:Value ->Shared ->Prop}(I:Inv X ae σ H s)(e:H a=some (.dK kvs))(ry:RelV (kV k) u)(l:gv kvs k=some v)(hm:more= [] \/ ∃x,more= [x]) (h: ∀w' s',Inv X ae σ (cq H a (.dK (jX kvs k))) s' ->RelV v w' ->Q w' s'):wpAny (model X.prog X.w) A (call (.builtin "dict.pop") (.ref a::u::more)) Q E s:=by
 obtain⟨z,hd,vs,e7,dd⟩:=tJ I.cF e;obtain⟨w',hw,ur⟩:=iL.some_of (v:=v) (o:=valueAt vs k) (by rw[<- l];exact e7.val k);have hp:(keyPart u).isSome=true:=by
  cases k with
  | inl i=>obtain⟨t,q⟩:=(show ∃t,u=Value.int i t from ry);subst q;rfl
  | inr x=>obtain⟨t,q⟩:=(show ∃t,u=Value.str x t from ry);subst q;rfl
 have ha:argsOk "dict.pop" ⟨.ref a::u::more,[]⟩:=by rcases hm with q | ⟨x,q⟩;subst q;exact PySem.F.args_dict_pop_2 _ _;subst q;exact PySem.F.args_dict_pop_3 _ _ _
 refine call_meetsIn PySem.F.slot_dict_pop dd.typeIs PySem.F.entry_dict_pop ha (meets_dict_pop_there (cr X.prog X.w) a (ol ry) more hm hp) ⟨vs,w',dd,by rw[<- e7.length];exact z,hw,λh' G0 hs=>h w' _ ?_ ur⟩;have he: ∃q,h'.get? a=some q:=let ⟨q,_,_,hq,_⟩:=G0;⟨q,hq⟩
 exact pO I (by rw[e];exact True.intro) hs he (zj (av (xn kvs k) z) hd (e7.drop k) G0)
end
def Rp (i:Expr):Prop:= ∀ov iv,subscripted i false ov iv=operate [ov,iv] (getItem ov iv)
theorem Hc {prog:Program}{w:World}{A:Around}{E:Value ->Shared ->Prop}{s:Shared}{env:Env}{value slice:Expr}{pos:Pos}{T id:String}{Q:Value ->Shared ->Prop} (hl:typeLookup (.type T) "__getitem__" =pure (some (.builtin id))) (hs:Rp slice) (h:wpAny (model prog w) A (eval value env) (λo s₁=>wpAny (model prog w) A (eval slice env) (λi s₂=>s₂.TypeIs o T /\ wpAny (model prog w) A (getItem o i) Q E s₂) E s₁) E s): wpAny (model prog w) A (eval (.Subscript value slice pos) env) Q E s:=by
 refine Subscript_ (bp h (λo s₁ h₁=>bp h₁ (λi s₂ h₂=> ?_) λ_ _ x=>x) λ_ _ x=>x);obtain⟨hT,h₂⟩:=h₂;unfold subscriptTail;refine ar ?_;rw[getitemInPython_of_ne hT.not_modules];refine ar (wpAny_specialOf hT hl ?_);have fin:wpAny (model prog w) A (subscripted slice false o i) (λr s₃=>wpAny (model prog w) A (letTemporaryGo value o r >>=λ_=>pure r) Q E s₃) E s₂:=by rw[hs o i];exact wpAny_operating (bp h₂ (λr s₃ h₃=>ar (wpAny_letTemporaryGo (aR h₃))) λ_ _ x=>x)
 first
 | exact aR (ar fin)
 | exact ar (aR (ar fin))
 | exact ar fin
theorem xp {X:Cx}{ae:List (Addr×Obj)}{σ:St}{H:Hp}{s:Shared}{a:Addr}{y:V}{o:Option V}(I:Inv X ae σ H s)(g:lv H a y o):s.TypeIs (.ref a) "dict" :=by
 rcases g with⟨kvs,k,e,_,_⟩ | ⟨kvs,k,b,e,_,_,_⟩
 obtain⟨_,_,vs,_,dd⟩:=mx I.cF e;exact dd.typeIs;obtain⟨_,_,xs,_,dd⟩:=qP I.cF e;exact dd.typeIs
def JO (td ty:TE):TE:=λσ H Q=>td σ H λx H1=>ty σ H1 λy H2=>ca λa v=>cM (x= .ref a) (lv H2 a y (some v)) (Q v H2)
def OV (ty td:TE):TE:=λσ H Q=>ty σ H λy H1=>td σ H1 λx H2=>ca λa o=>cM (x= .ref a) (lv H2 a y o) (Q (.bl o.isSome) H2)
def zW (ty td:TE):TE:=λσ H Q=>ty σ H λy H1=>td σ H1 λx H2=>ca λa o=>cM (x= .ref a) (lv H2 a y o) (Q (.bl (!o.isSome)) H2)
def JV (td ty tv:TE):TS:=λD σ H=>tv σ H λv H1=>td σ H1 λx H2=>ty σ H2 λy H3=>ca λa H4=>cM (x= .ref a) (GG H3 a y v H4) (D.nx σ H4)
def JW (td ty:TE):TS:=λD σ H=>td σ H λx H1=>ty σ H1 λy H2=>dH λa kvs k=>fo (x= .ref a) (H2 a=some (.dK kvs)) (y=kV k) ((gv kvs k).isSome=true) (D.nx σ (cq H2 a (.dK (jX kvs k))))
section
variable {X:Cx}{o i e value:Expr}{pos jw OG:Pos}{td ty tv:TE}
theorem eB (hu:X.A.units+1<cLine)(ho:PE X o td)(hi:PE X i ty)(hs:Rp i):PE X (.Subscript o i pos) (JO td ty):=by intro ae s σ H Q I h;refine Hc PySem.F.slot_dict_getitem.lookup hs (cz (ho ae s σ H _ I h) λu s1 ⟨x,H1,I1,rx,q1⟩=>cz (hi ae s1 σ H1 _ I1 q1) λiv s2 ⟨y,H2,I2,ry,a,v,ex,g,q2⟩=> ?_);subst ex;obtain rfl:u=Value.ref a:=rx;exact⟨xp I2 g,CI hu I2 g ry λw' s3 I3 ur=>⟨v,H2,I3,ur,q2⟩⟩
theorem LH (hu:X.A.units+1<cLine)(hi:PE X i ty)(ho:PE X o td):PC X .In i o (OV ty td):=by intro ae s σ H Q I h;refine cz (hi ae s σ H _ I h) λiv s1 ⟨y,H1,I1,ry,q1⟩=>cz (ho ae s1 σ H1 _ I1 q1) λu s2 ⟨x,H2,I2,rx,a,ov,ex,g,q2⟩=> ?_;subst ex;obtain rfl:u=Value.ref a:=rx;exact aaW hu I2 g ry λs3 I3=>⟨.bl ov.isSome,H2,I3,rfl,q2⟩
theorem nh (hu:X.A.units+1<cLine)(hi:PE X i ty)(ho:PE X o td):PC X .NotIn i o (zW ty td):=by intro ae s σ H Q I h;refine cz (hi ae s σ H _ I h) λiv s1 ⟨y,H1,I1,ry,q1⟩=>cz (ho ae s1 σ H1 _ I1 q1) λu s2 ⟨x,H2,I2,rx,a,ov,ex,g,q2⟩=> ?_;subst ex;obtain rfl:u=Value.ref a:=rx;exact IP hu I2 g ry λs3 I3=>⟨.bl (!ov.isSome),H2,I3,rfl,q2⟩
theorem pE (hu:X.A.units+1<cLine)(ho:PE X o td)(hi:PE X i ty)(hv:PE X value tv)(hs:swapsWith value (some (.Subscript o i jw)) pos.line X.env=pure false): PS X (.Assign [.Subscript o i jw] value pos) (JV td ty tv):=by intro ae s σ H D I h;refine wpAny_Assign_Subscript (cz (hv ae s σ H _ I h) λr s1 ⟨v,H1,I1,rv,q1⟩=>cz (ho ae s1 σ H1 _ I1 q1) λu s2 ⟨x,H2,I2,rx,q2⟩=>cz (hi ae s2 σ H2 _ I2 q2) λiv s3 ⟨y,H3,I3,ry,a,H4,ex,g,q3⟩=> ?_) hs;subst ex;obtain rfl:u=Value.ref a:=rx;exact CH hu I3 g ry rv λs4 I4=>⟨σ,H4,I4,q3⟩
theorem Hq (ho:PE X o td)(hi:PE X i ty):PS X (.Delete [.Subscript o i OG] pos) (JW td ty):=by intro ae s σ H D I h;refine wpAny_Delete (wpAny_deleteEach_cons (wpAny_delete_Subscript (cz (ho ae s σ H _ I h) λu s1 ⟨x,H1,I1,rx,q1⟩=>cz (hi ae s1 σ H1 _ I1 q1) λiv s2 ⟨y,H2,I2,ry,a,kvs,k,ex,e,ey,l,q2⟩=> ?_)));subst ex ey;obtain rfl:u=Value.ref a:=rx;exact CJ I2 e ry l λs3 I3=>wpAny_deleteEach_nil ⟨σ,_,I3,q2⟩
end
theorem FO {P:Program}{w:World}{H:Hp}(h:Heap)(hb:sysModules<h.objs.size):dt P w H (h.push {cls:= .type "dict",data:= .dict #[]}) h.objs.size (.dK []):=⟨cZ _,beq_eq_false_iff_ne.mpr (cV (bg hb)),[], .nil,Heap.DictOf.new h⟩
def DU:TE:=λ_ H Q=> ∀p,H p=none ->Q (.ref p) (cq H p (.dK []))
section
variable {X:Cx}{pos:Pos}
theorem hU:PE X (.Dict [] [] pos) DU:=λae s σ H Q I h=>wpAny_Dict_empty ⟨.ref s.heap.objs.size,_,I.laid (a:=s.heap.objs.size) (o:= .dK []) (t':=s.toks) (λ_ _ q=>aq _ q) (ao _) (FO s.heap I.big),rfl,h _ (I.cF.fresh (ao _))⟩
end
structure M1 (X:Cx)(o:Expr)(m:Str)(db:Pos)(e:Expr)(c9:Pos):Prop where
 base:attributeBase o m X.env (eval o X.env)=eval o X.env
 zg:((backTo c9 (starEach [e] X.env)).all (λx=> !x.1) && (backToKw c9 (keywordEach [] X.env)).all (λx=>x.1.isSome) && decide (([e]:List Expr).length+([]:List Keyword).length+(if([]:List Keyword).isEmpty then 0 else 1) <30))=true
 line:(db.endLine==c9.line)=true
 trees:backTo c9 (starEach [e] X.env)= [(false,eval e X.env)]
structure M2 (X:Cx)(o:Expr)(m:Str)(db:Pos)(e f:Expr)(c9:Pos):Prop where
 base:attributeBase o m X.env (eval o X.env)=eval o X.env
 zg:((backTo c9 (starEach [e,f] X.env)).all (λx=> !x.1) && (backToKw c9 (keywordEach [] X.env)).all (λx=>x.1.isSome) && decide (([e,f]:List Expr).length+([]:List Keyword).length+(if([]:List Keyword).isEmpty then 0 else 1) <30))=true
 line:(db.endLine==c9.line)=true
 trees:backTo c9 (starEach [e,f] X.env)= [(false,eval e X.env),(false,eval f X.env)]
def IsD (H:Hp)(a:Addr):Prop:=(∃kvs,Rd H a (.dK kvs)) \/ ∃kvs,Rd H a (.dT kvs)
theorem yZ {X:Cx}{ae:List (Addr×Obj)}{σ:St}{H:Hp}{s:Shared}{a:Addr}(I:Inv X ae σ H s)(d:IsD H a): s.TypeIs (.ref a) "dict" /\ (∀b,Value.ref a= .ref b -> ∃ob,s.heap.get? b=some ob /\ ob.dict=none) /\ (a==sysModules)=false:=by
 rcases d with⟨kvs,e⟩ | ⟨kvs,e⟩
 obtain⟨_,hd,vs,_,dd⟩:=mx I.cF e;refine⟨dd.typeIs,λb q=> ?_,hd⟩;cases q;obtain⟨ob,_,_,h1,h2,_⟩:=dd;exact⟨ob,h1,h2.2.1⟩;obtain⟨_,hd,xs,_,dd⟩:=qP I.cF e;refine⟨dd.typeIs,λb q=> ?_,hd⟩;cases q;obtain⟨ob,_,_,h1,h2,_⟩:=dd;exact⟨ob,h1,h2.2.1⟩
section
variable {X:Cx}{ae:List (Addr×Obj)}{σ:St}{H:Hp}{s:Shared}{a:Addr}{y d:V}{u r:Value}{o:Option V}{A:Around}{E:Value ->Shared ->Prop}
theorem M_ {Q:Value ->Shared ->Prop}(hu:A.units+1<cLine)(I:Inv X ae σ H s)(g:lv H a y o)(ry:RelV y u)(rd:RelV d r)(h: ∀w' s',Inv X ae σ H s' ->RelV (o.getD d) w' ->Q w' s'): wpAny (model X.prog X.w) A (call (.builtin "dict.get") [.ref a,u,r]) Q E s:=by
 rcases g with⟨kvs,k,e,ey,l⟩ | ⟨kvs,k,b,e,ey,eb,l⟩
 subst ey;obtain⟨z,hd,vs,e7,dd⟩:=mx I.cF e;refine call_meetsIn PySem.F.slot_dict_get dd.typeIs PySem.F.entry_dict_get (PySem.F.args_dict_get_3 _ _ _) (meets_dict_get_default (cr X.prog X.w) a (ol ry) hd r) ⟨_,dd.mapOf,h _ _ (I.tok _) ?_⟩;rw[l];exact(e7.val k).getD rd;subst ey;cases (show u=Value.ref b from ry);obtain⟨z,hd,xs,e7,dd⟩:=qP I.cF e;refine call_meetsIn PySem.F.slot_dict_get dd.typeIs PySem.F.entry_dict_get (PySem.F.args_dict_get_3 _ _ _) (meetsH_dict_get_default (tupleKind (cr X.prog X.w)) a b hd r) ⟨tupleKind_room_in1 hu,k,xs,ny I.cF eb,dd,h _ _ (I.tok _) ?_⟩;rw[l];exact(e7.val k).getD rd
end
def DW (td ty tx:TE):TE:=λσ H Q=>td σ H λx H1=> ∃a,cM (x= .ref a) (IsD H1 a) (ty σ H1 λy H2=>tx σ H2 λz H3=> ∃o,lv H3 a y o /\ Q (o.getD z) H3)
def DT (td ty:TE):TE:=λσ H Q=>td σ H λx H1=> ∃a,cM (x= .ref a) (IsD H1 a) (ty σ H1 λy H2=>dH λkvs k v=>eu (H2 a=some (.dK kvs)) (y=kV k) (gv kvs k=some v) (Q v (cq H2 a (.dK (jX kvs k)))))
section
variable {X:Cx}{o e f:Expr}{db c9:Pos}{td ty tx:TE}
theorem wt (hu:X.A.units+1<cLine)(ho:PE X o td)(he:PE X e ty)(hf:PE X f tx)(m:M2 X o "get" db e f c9):PE X (.Call (.Attribute o "get" db) [e,f] [] c9) (DW td ty tx):=by intro ae s σ H Q I h;refine wpAny_Call_method m.base m.zg m.line PySem.F.plainAttrs_dict PySem.F.slot_dict_get PySem.F.type_dict_get (cz (ho ae s σ H _ I h) λu s1 ⟨x,H1,I1,rx,a,ex,d,q1⟩=> ?_);subst ex;obtain rfl:u=Value.ref a:=rx;obtain⟨t1,t2,_⟩:=yZ I1 d;refine⟨t1,t2,?_⟩;rw[m.trees];refine Calls.callWith_builtin rfl (Calls.evalArgs_plain (Calls.spliced_cons (cz (he ae s1 σ H1 _ I1 q1) λiv s2 ⟨y,H2,I2,ry,q2⟩=>Calls.spliced_cons (cz (hf ae s2 σ H2 _ I2 q2) λfv s3 ⟨z,H3,I3,rz,ov,g,q3⟩=>Calls.spliced_nil ?_))));exact M_ hu I3 g ry rz λw' s4 I4 ur=>⟨_,H3,I4,ur,q3⟩
theorem EB (ho:PE X o td)(he:PE X e ty)(m:M1 X o "pop" db e c9):PE X (.Call (.Attribute o "pop" db) [e] [] c9) (DT td ty):=by intro ae s σ H Q I h;refine wpAny_Call_method m.base m.zg m.line PySem.F.plainAttrs_dict PySem.F.slot_dict_pop PySem.F.type_dict_pop (cz (ho ae s σ H _ I h) λu s1 ⟨x,H1,I1,rx,a,ex,d,q1⟩=> ?_);subst ex;obtain rfl:u=Value.ref a:=rx;obtain⟨t1,t2,_⟩:=yZ I1 d;refine⟨t1,t2,?_⟩;rw[m.trees];refine Calls.callWith_builtin rfl (Calls.evalArgs_plain (Calls.spliced_cons (cz (he ae s1 σ H1 _ I1 q1) λiv s2 ⟨y,H2,I2,ry,kvs,k,v,ea,ey,l,q2⟩=>Calls.spliced_nil ?_)));subst ey;exact Q5 I2 ea ry l (.inl rfl) λw' s3 I3 ur=>⟨v,_,I3,ur,q2⟩
end
end L2
namespace Att
open PySem PySem.W PySem.Calls PyProof.Rows
theorem o0 {P:Params}{h:Heap}: ∀ (ns:List Int) (vs:List Value),WellAll P h vs (ns.map WData.int) ->IntsAre vs ns:=by
 intro ns;induction ns with
 | nil=>intro vs w;rw[cG] at w;cases w;exact .nil
 | cons n ns ih=>
  intro vs w;rw[az] at w;cases w with
  | cons a b=>cases a;exact .cons _ _ (ih _ b)
theorem BI {l:OpenLaw}{n:Nat}(hn:l.most=some n){P:Params}{h:Heap}{args:List WData}{vals:List Value} (Io:l.row.toRowW.claim.pre args=true) (Vn:WellAll P h vals args): dH λa vs ns=>fo (vals= [Value.ref a]) (args= [WData.list (ns.map WData.int)]) (h.get? a=some {cls:= .type "list",data:= .seq vs.toArray}) (IntsAre vs ns) (ns.length<=n):=by
 have hsh:WShape.hasAll [] args [.list .int]=true:=(pre_splitW Io).1;have hc:l.pre.holds [] {args:=args}=true:=(pre_splitW Io).2;obtain⟨d,r,rfl,h1,h2⟩:=hasAllW_cons hsh;obtain rfl:=hasAllW_nil h2;obtain⟨xs,rfl,h3⟩:=hasW_list h1;obtain⟨ns,rfl⟩:=items_int h3;have dL:ns.length<=n:=by
  unfold OpenLaw.pre at hc;have h4:(WTm.not (.lt (.lit (.int (n:Int))) (.len (.arg 0)))).holds [] {args:= [.list (ns.map .int)]}=true:=by have h4:=(holds_andW hc).1;rw[hn] at h4;exact h4
  have h5:=condW_of h4 (w_not (w_lt w_lit (w_len_list (w_arg rfl))));rw[ag] at h5;refine Nat.le_of_not_lt λq=> ?_;have q':(n:Int) < ((ns.length:Nat):Int):= ∅;first
  | (rw[cE q'] at h5;exact absurd h5 (by decide))
  | (simp at h5;lia)
 cases Vn with
 | cons w1 w2=>
  cases w2;cases w1 with
  | list ho Fx=>exact⟨_,_,ns,rfl,rfl,ho,o0 ns _ Fx,dL⟩
theorem BM (l:OpenLaw)(args:List WData):l.row.toRowW.claim.post args (.bool true) args=true:=postW_of (r:=l.row.toRowW) (X:=(true==true)) (show WShape.has [] (.bool true) .bool=true by first | rfl | decide | simp[WShape.has,WShape.arms,WShape.armsAll]) (show(WTm.eq .res (.lit (.bool true))).value [] {args:=args,res:=some (.bool true),after:=args}=some (.bool (true==true)) from w_eq_bool (w_res rfl) w_lit) rfl
theorem xG {l:OpenLaw}{n:Nat}{q:Program}{sS:List Str}{XP:(Str ->Option Value) ->Heap ->Prop}{YP:World ->Heap ->Prop}{d:DefRec} (hn:l.most=some n) (MJ:d.params.defaults= []) (call: ∀ (w:World) (s₀ s₁:Shared) (mg mb:Str ->Option Value) (fa:Addr) (o:Obj) (pm cd gN:Value) (a:Addr) (vs:List Value) (ns:List Int),Ground q sS [] XP w s₀ mg mb s₁.heap ->YP w s₁.heap ->s₁.heap.get? fa=some o ->o.data= .func (docDef d.name d.params d.body d.scope pm cd gN) ->s₁.heap.CodeRec cd d.name ->mg d.name=some (.ref fa) ->s₁.heap.get? a=some {cls:= .type "list",data:= .seq vs.toArray} ->IntsAre vs ns ->ns.length<=n ->s₁.gens= #[] ->codeAny (model l.prog w) callerA (.call (.ref fa) ⟨[.ref a],[]⟩) (λr s'=>r= .ok (.ret (.bool true)) /\ OldK s₁.heap s'.heap /\ s'.os=s₁.os /\ AllBare s'.gens) s₁): WalkO q sS XP YP l.row.toRowW d [] (λf vs=>PySem.call f vs):=by intro w s₀ s₁ mg mb G Y fa o pm cd gN dV kV ho hd AX hD VM hg args vals as Io abG hrd Vn MC;obtain rfl:dV= .none:=Dflts.none hD MJ;obtain rfl:kV= .none:=Dflts.noKw hD;obtain⟨a,vs,ns,rfl,rfl,Mx,Fu,dL⟩:=BI hn Io Vn;refine enter_call (codeAny_mono (call w s₀ s₁ mg mb fa o pm cd gN a vs ns G Y ho (fd_plain hd) AX VM Mx Fu dL hg) λr s' hq=> ?_);obtain⟨rfl,h2,h3,h4⟩:=hq;exact⟨.inl ⟨.bool true, .bool true,[],rfl,λ_=>rfl, .bool true,BM l _,λ_=>⟨List.Pairwise.nil,λ_ hm=>(nomatch hm)⟩⟩,h2,h3,h4⟩
end Att
namespace L2
open PySem PySem.Spec PyProof.Rows
theorem mV: ∀ {vs:List Value} {ns:List Int},IntsAre vs ns ->bY (ns.map V.int) vs
 | _,_, .nil=> .nil
 | _,_, .cons n t h=> .cons ⟨t,rfl⟩ (mV h)
def Ni (H:Hp):Prop:= ∀b,H b=none \/ ∃o xs,H b=some (.jd o (.lst xs))
theorem EY {P:Program}{w:World}{K:PySem.W.Frag}{mg mb:Str ->Option Value}{CX:xZ}{k:Nat}{fa a:Addr}{fd:FuncData}{x:Str}{sp:Sp}{s₁:Shared}{vs:List Value}{ns:List Int} (KX:K.In s₁.heap) (vt:s₁.heap.Ns mainGlobals mg) (hb:s₁.heap.Ns builtinsNs mb) (hbb: ∀x:Str,x≠ "__name__" ->mb x=bootBuiltins x) (VO:s₁.heap.NoLimit) (hg:s₁.gens= #[]) (ha:s₁.heap.get? a=some {cls:= .type "list",data:= .seq vs.toArray}) (hi:IntsAre vs ns) (hl:ns.length<=sizeLine) (hr:dG k callerA) (F: ∀base:Heap,K.In base ->base.Ns mainGlobals mg ->bx P w K mg base CX k fa fd [x] sp) (QN: ∀ (s:Shared) (u:Value),BindsTo s fd ⟨[u],[]⟩ [(x,u)]) (ye: ∀H:Hp,Ni H ->gs K H a (ns.map V.int) ->sp [.ref a] H (λv _=>v= .bl true) λ_ _ _=>False) (V9: ∀H e s',CX [] H s₁ (λ_ _ _=>False) e s' ->False): codeAny (model P w) callerA (.call (.ref fa) ⟨[.ref a],[]⟩) (λr s'=>r= .ok (.ret (.bool true)) /\ OldK s₁.heap s'.heap /\ s'.os=s₁.os /\ AllBare s'.gens) s₁:=by
 have rv:=mV hi;have U8:=hi.length;have core : ∀H:Hp,Ni H ->gs K H a (ns.map V.int) ->kA P w H s₁.heap ->(∀b,H b≠none ->b=a) ->(H a≠none ->K.lookup a=none) ->codeAny (model P w) callerA (.call (.ref fa) ⟨[.ref a],[]⟩) (λr s'=>r= .ok (.ret (.bool true)) /\ OldK s₁.heap s'.heap /\ s'.os=s₁.os /\ AllBare s'.gens) s₁:=by
  intro H hO hS cF hA hK;have Br: ∀ {b:Addr} {o:Obj},s₁.heap.get? b=some o ->H b=none ->(uV s₁.heap H).get? b=some o:=λe n=>Fv e n;have Ka: ∀ {b:Addr} {o:Obj} {es:Array DictEntry} {ep:Nat},s₁.heap.get? b=some o ->o.data= .dict es ep ->H b=none:=λ{b o es ep} e d=>by
   cases q:H b with
   | none=>rfl
   | some u=>have e':b=a:=hA b (by rw[q];simp);subst e';rw[ha] at e;cases e;have d':Data.seq vs.toArray _=Data.dict es ep:=d;cases d'
  have Sy: ∀ {b:Addr} {m:Str ->Option Value},s₁.heap.Ns b m ->(uV s₁.heap H).Ns b m:=λ{b m} ⟨o,es,ep,e,d,r⟩=>⟨o,es,ep,Br e (Ka e d),d,r⟩
  have hKb:K.In (uV s₁.heap H):=λb o e=>Br (KX b o e) (by
   cases q:H b with
   | none=>rfl
   | some u=>have e':b=a:=hA b (by rw[q];simp);subst e';rw[hK (by rw[q];simp)] at e;cases e)
  have hM:Mod K mg (uV s₁.heap H):=⟨hKb,Sy vt,⟨mb,Sy hb,hbb⟩,let ⟨mc,h1,h2⟩:=VO;⟨mc,Sy h1,h2⟩⟩
  have e0:zE P w K mg (uV s₁.heap H) callerA [] s₁ H:=⟨rfl,hM,λb o e=>HH e,Nat.le_of_eq (Cw _ _),trivial,λb hb=>absurd (show b∈([]:List Addr) from hb) (by simp),cF, .of_eq hg⟩
  refine codeAny_mono ((F _ hKb (Sy vt)).run callerA [] s₁ H ⟨[.ref a],[]⟩ [.ref a] [.ref a] _ _ hr e0 (QN s₁ (.ref a)) (.cons rfl .nil) (ye H hO hS)) λr s' h=> ?_;cases r with
  | error e=>exact(V9 H e s' h).elim
  | ok fl =>
   cases fl with
   | next=>exact False.elim h
   | brk=>exact False.elim h
   | cont=>exact False.elim h
   | ret u=>
    obtain⟨v,H',os,bare,un,VC,r',q⟩:=h;have q':v= .bl true:=q;subst q';obtain rfl:u=Value.bool true:=r';refine⟨rfl,OldK.of_keep λb o e=> ?_,os,bare⟩;cases q:H b with
    | none=>exact un.keep b o e q (by intro z;exact absurd (show b∈([]:List Addr) from z) (by simp)) (by simp)
    | some u=>rcases hO b with z | ⟨ob,xs,z⟩;rw[q] at z;cases z;have z2:=un.kI b ob _ z;obtain⟨e1,_⟩:=cF b _ z;obtain⟨e2,_⟩:=VC b _ z2;rw[e] at e1;cases e1;exact e2
 cases hk:K.lookup a with
 | some o=>have e:=KX a o hk;rw[ha] at e;cases e;refine core (λ_=>none) (λ_=> .inl rfl) (.inr ⟨_,vs.toArray,_,hk,rfl,rfl,rfl,by rw[aF,U8];exact hl, ⇑rv⟩) (λb u z=>by have z':(none:Option HO)=some u:=z;cases z') (λb z=>absurd rfl z) λz=>absurd rfl z
 | none=>refine core (λb=>if b=a then some (.jd {cls:= .type "list",data:= .seq vs.toArray} (.lst (ns.map V.int))) else none) (λb=> ?_) (.inl (.inr ⟨{cls:= .type "list",data:= .seq vs.toArray},ak rfl⟩)) (λb u z=> ?_) (λb z=> ?_) λ_=>hk;by_cases hb:b=a;exact .inr ⟨_,_,ak hb⟩;exact .inl (aj hb);by_cases hb:b=a;have z':=(ak hb).symm.trans z;cases z';subst hb;exact⟨ha,by rw[ag];exact hl,vs,_,rv,ha⟩;have z':=(aj hb).symm.trans z;cases z';by_cases hb:b=a;exact hb;exact absurd (aj hb) z
theorem G7 {l:PySem.W.OpenLaw}{n k:Nat}{q:Program}{sS:List Str}{XP:(Str ->Option Value) ->Heap ->Prop}{YP:World ->Heap ->Prop}{d:DefRec}{K:Params ->PySem.W.Frag}{CX:World ->xZ}{sp:World ->Sp}{x:Str} (hn:l.most=some n) (Cv:n<=sizeLine) (MJ:d.params.defaults= []) (hr:dG k callerA) (hY: ∀ (w:World) (h:Heap),YP w h ->(K w.params).In h) (F : ∀ (w:World) (mg:Str ->Option Value) (fa:Addr) (h:Heap),(K w.params).In h ->h.Ns mainGlobals mg ->mg d.name=some (.ref fa) ->∃ fd:FuncData,(∀ (s:Shared) (u:Value),BindsTo s fd ⟨[u],[]⟩ [(x,u)]) /\∀base:Heap,(K w.params).In base ->base.Ns mainGlobals mg ->bx l.prog w (K w.params) mg base (CX w) k fa fd [x] (sp w)) (ye: ∀ (w:World) (H:Hp) (a:Addr) (ns:List Int),ns.length<=n ->Ni H ->gs (K w.params) H a (ns.map V.int) ->sp w [.ref a] H (λv _=>v= .bl true) λ_ _ _=>False) (V9: ∀ (w:World) (H:Hp) (s:Shared) (e:Value) (s':Shared),CX w [] H s (λ_ _ _=>False) e s' ->False): PySem.W.WalkO q sS XP YP l.row.toRowW d [] (λf vs=>PySem.call f vs):=by refine Att.xG hn MJ λw s₀ s₁ mg mb fa o pm cd gN a vs ns G Y ho hd AX VM Mx Fu dL hg=> ?_;have KX:=hY w _ Y;obtain⟨fd,hb,hF⟩:=F w mg fa _ KX G.T.g VM;exact EY KX G.T.g G.T.b G.T.builtins G.T.nolimit hg Mx Fu (av dL Cv) hr hF hb (λH hO hS=>ye w H a ns dL hO hS) λH e s'=>V9 w H s₁ e s'
def dX (s:Stmt):Arguments:=match s with
 | .FunctionDef _ a _ _ _ _ _ _ _ _=>a
 | _=> {posonlyargs:= [],args:= [],vararg:=none,kwonlyargs:= [],kw_defaults:= [],kwarg:=none,defaults:= []}
def c5 (s:Stmt):List Stmt:=match s with
 | .FunctionDef _ _ b _ _ _ _ _ _ _=>b
 | _=> []
def aO (s:Stmt):Scope:=match s with
 | .FunctionDef _ _ _ _ _ _ sc _ _ _=>sc
 | _=> {kind:= .function,names:= [],isGenerator:=false,isCoroutine:=false}
abbrev eE:xZ:=λ_ _ _ _ _ _=>False
abbrev E0:XK:=λ_ _ _=>False
theorem Au {X:Cx}:fN eE X E0:=λ_ _ _ _ _ _ _ h=>h.elim
structure xP (K:PySem.W.Frag)(x qual:Str)(st:Stmt)(f:Addr)(fd:FuncData):Prop where
 ex:XE8 λ(oc:Value) (od:Option Addr) (kV gN pm:Value) (an:Option Addr) (cdv ct:Value)=> ∃ (yF:Array (Option Value)),cM (fd=PySem.W.fnOf x qual (dX st) (c5 st) (aO st) .none kV gN pm an cdv ct) (K.lookup f=some ⟨oc,od, .func fd,yF⟩) (PySem.W.codeIn K cdv qual=true)
 kp:PySem.W.keepIn K (.ref f)=true
section
variable {P:Program}{w:World}{K:PySem.W.Frag}{mg:Str ->Option Value}{base:Heap}
theorem xP.ok {x qual:Str}{st:Stmt}{f:Addr}{fd:FuncData}{N ps:List Str}{k:Nat}{sp:Sp}(F:xP K x qual st f fd)(S:cJ N ps (aO st))(len: ∀vs H Q E,sp vs H Q E ->vs.length=ps.length) (ik: ∀ (cdv:Value) (A:Around) (outer:List Env) (s:Shared) (H:Hp) (vs:List V) (Q:VK) (E:XK),dG k (A.deeper (envOfC qual (aO st) s.heap.objs.size f cdv)) ->sp vs H Q E ->∃t,vw (d4 eE P w K mg base N qual (aO st) f cdv A outer s H E).GJ (c5 st) t /\ t {nx:=λ_ H'=>Q .dC H',rt:=Q} (start N vs) H):bx P w K mg base eE (k+1) f fd ps sp:=by obtain⟨oc,od,kV,gN,pm,an,cdv,ct,yF,rfl,lk,AX⟩:=F.ex;refine KA lk AX S len λA outer s H vs Q E hr ye=> ?_;obtain⟨t,h,q⟩:=ik cdv A outer s H vs Q E hr ye;exact⟨t,h.GJ,q⟩
theorem xP.binds {x qual:Str}{st:Stmt}{f:Addr}{fd:FuncData}{ps:List Str}(F:xP K x qual st f fd) (h: ∀ (kV gN pm:Value) (an:Option Addr) (cdv ct:Value) (us:List Value),us.length=ps.length ->bindArgs (PySem.W.fnOf x qual (dX st) (c5 st) (aO st) .none kV gN pm an cdv ct) ⟨us,[]⟩=pure (ps.zip us)):Binds K fd ps []:=by obtain⟨oc,od,kV,gN,pm,an,cdv,ct,yF,rfl,lk,AX⟩:=F.ex;exact .all (h kV gN pm an cdv ct)
theorem nE {x qual:Str}{st:Stmt}{f:Addr}{oc:Value}{od an:Option Addr}{yF:Array (Option Value)}{kV gN pm cdv ct:Value}(l:K.lookup f=some ⟨oc,od, .func (PySem.W.fnOf x qual (dX st) (c5 st) (aO st) .none kV gN pm an cdv ct),yF⟩) (c:PySem.W.codeIn K cdv qual=true) (k:PySem.W.keepIn K (.ref f)=true):xP K x qual st f (PySem.W.fnOf x qual (dX st) (c5 st) (aO st) .none kV gN pm an cdv ct):=⟨⟨oc,od,kV,gN,pm,an,cdv,ct,yF,rfl,l,c⟩,k⟩
end
theorem eh {A:Around}{k:Nat}(hr:dG k A):A.units+1<cLine:=Nat.lt_of_le_of_lt (Nat.add_le_add_left (by decide:1<=64) _) hr.units
section
variable {X:Cx}
theorem pv (i:Nat){x:Str}{pos:Pos}(hN:X.N[i]? =some x:=by rfl)(hv:Rj X.env.scope x:=by first | exact Or.inl rfl | exact Or.inr (Or.inl rfl) | exact Or.inr (Or.inr rfl))(hd:(x==("__debug__" :Str))=false:=by decide) (AX:(x==("__classdict__" :Str))=false:=by decide):PE X (.Name x pos) (Hb i):=LD hN hv hd AX
end
def fi (H H':Hp):Prop:= ∀b o,H b=some o ->H' b=some o
section
variable {κ:Type} [DecidableEq κ]
theorem AA: ∀ {l:List κ} {k:κ},l.Nodup ->¬k∈l ->(l++ [k]).Nodup
 | [],k,_,_=>by simp
 | a::r,k,h,hk=>by obtain⟨h1,h2⟩:=List.nodup_cons.mp h;show(a::(r++ [k])).Nodup;refine List.nodup_cons.mpr ⟨λm=> ?_,AA h2 λm=>hk (aS.mpr (Or.inr m))⟩;rcases a_.mp m with q | q;exact h1 q;exact hk (aS.mpr (Or.inl (be.mp q).symm))
end
theorem ci {α:Type}{x y:Str}{c:α}{l:List (Str×α)}:((y,c)::l).lookup x=if x=y then some c else l.lookup x:=by by_cases h:x=y;subst h;simp[List.lookup_cons];rw[aj h,List.lookup_cons];have:(x==y)=false:= ⇑h;rw[this]
theorem iK {env:Env}: ∀ (names:List (Str×NameKind)) (eQ:List (Str×Addr)),(∀y∈names,y.2= .free -> ∃c,env.cells.lookup y.1=some c) ->(∀x c,eQ.lookup x=some c ->env.cells.lookup x=some c) ->∃cl,eu ((forIn names eQ λx s=>if(x.snd==NameKind.free)=true then(do let c <- cellOf env x.fst;pure (ForInStep.yield ((x.fst,c)::s)):Sem _) else pure (ForInStep.yield s))=(pure cl:Sem (List (Str×Addr)))) (∀x c,cl.lookup x=some c ->env.cells.lookup x=some c) (∀x,(eQ.lookup x).isSome=true ->(cl.lookup x).isSome=true) (∀y∈names,y.2= .free ->(cl.lookup y.1).isSome=true)
 | [],eQ,_,h2=>⟨eQ,rfl,h2,λ_ h=>h,λ_ h=>absurd h (by simp)⟩
 | (n, k)::r,eQ,h1,h2=>by
  by_cases hk:k=NameKind.free;subst hk;obtain⟨c,hc⟩:=h1 (n, .free) List.mem_cons_self rfl;have Kz: ∀x c',((n,c)::eQ).lookup x=some c' ->env.cells.lookup x=some c':=λx c' e=>by rw[ci] at e;by_cases hx:x=n;rw[ak hx] at e;cases e;rw[hx];exact hc;rw[aj hx] at e;exact h2 x c' e
  obtain⟨cl,e1,e2,e3,e4⟩:=iK r ((n,c)::eQ) (λy hy=>h1 y (cP _ hy)) Kz;refine⟨cl,?_,e2,λx hx=>e3 x ?_,λy hy hf=> ?_⟩;rw[List.forIn_cons];have:cellOf env n=pure c:=by unfold cellOf;rw[hc]
  simp only[beq_self_eq_true,bP,this,pure_bind];exact e1;rw[ci];by_cases Qp:x=n;rw[ak Qp];rfl;rw[aj Qp];exact hx;rcases aS.mp hy with rfl | hy;refine e3 n ?_;rw[ci,ak rfl];rfl;exact e4 y hy hf;obtain⟨cl,e1,e2,e3,e4⟩:=iK r eQ (λy hy=>h1 y (cP _ hy)) h2;refine⟨cl,?_,e2,e3,λy hy hf=> ?_⟩;rw[List.forIn_cons];have:(k==NameKind.free)=false:= ⇑hk;simp only[this,aw,bi,pure_bind];exact e1;rcases aS.mp hy with rfl | hy;exact absurd hf hk;exact e4 y hy hf
theorem qX {scope:Scope}{env:Env}(h: ∀y∈scope.names,y.2= .free -> ∃c,env.cells.lookup y.1=some c): ∃cl,cM (closureFor scope env=pure cl) (∀x c,cl.lookup x=some c ->env.cells.lookup x=some c) (∀y∈scope.names,y.2= .free ->(cl.lookup y.1).isSome=true):=by obtain⟨cl,e1,e2,_,e4⟩:=iK scope.names [] h (λ_ _ e=>by simp at e);refine⟨cl,?_,e2,e4⟩;simp only[closureFor];rw[e1,pure_bind]
theorem gf {env:Env}: ∀ {names:List (Str×NameKind)} {x:Str} {k:NameKind},(names.map λ(n,k)=>if(k==NameKind.free && env.scope.kind== .function && env.kindOf n==some .cell) then(n,NameKind.cell) else(n,k)).lookup x=some k ->names.lookup x=some k \/ (k= .cell /\ names.lookup x=some .free)
 | [],_,_,h=>by simp at h
 | (n, j)::r,x,k,h=>by
  have ih:= @gf env r x k;rw[az] at h;by_cases hc:(j==NameKind.free && env.scope.kind== .function && env.kindOf n==some .cell)=true;simp only[hc,bP] at h;rw[ci] at h;rw[ci];by_cases hx:x=n;rw[ak hx] at h ⊢;cases h;have hj:j=NameKind.free:=by rw[cR,cR] at hc;exact eq_of_beq hc.1.1
  exact .inr ⟨rfl,by rw[hj]⟩;rw[aj hx] at h ⊢;exact ih h;simp only[hc,aw,bi] at h;rw[ci] at h;rw[ci];by_cases hx:x=n;rw[ak hx] at h ⊢;exact .inl h;rw[aj hx] at h ⊢;exact ih h
theorem fQ {env:Env}: ∀ {names:List (Str×NameKind)} {x:Str},names.lookup x=some .free ->(names.map λ(n,k)=>if(k==NameKind.free && env.scope.kind== .function && env.kindOf n==some .cell) then(n,NameKind.cell) else(n,k)).lookup x=some .cell \/(names.map λ(n,k)=>if(k==NameKind.free && env.scope.kind== .function && env.kindOf n==some .cell) then(n,NameKind.cell) else(n,k)).lookup x=some .free
 | [],_,h=>by simp at h
 | (n,j)::r,x,h=>by have ih:= @fQ env r x;rw[az];rw[ci] at h;by_cases hc:(j==NameKind.free && env.scope.kind== .function && env.kindOf n==some .cell)=true;simp only[hc,bP];rw[ci];by_cases hx:x=n;rw[ak hx];exact .inl rfl;rw[aj hx] at h ⊢;exact ih h;simp only[hc,aw,bi];rw[ci];by_cases hx:x=n;rw[ak hx] at h ⊢;cases h;exact .inr rfl;rw[aj hx] at h ⊢;exact ih h
abbrev bH (X:Cx)(N':List Str)(scope:Scope)(cl:List (Str×Addr))(fp:List Addr)(s3:Shared)(H3:Hp):Cx:={X with N:=N',s₀:=s3,H₀:=H3,env:=compEnvC scope cl s3.heap.objs.size X.env,outer:=X.stack,stack:=X.stack,ex:=fp,fn:=λ_=>false,pn:= [],xe:=λ_ _=>False}
def ja (own:Nat)(fr:List Nat)(σ:St):St:=List.replicate own none++fr.map λj=>(σ[j]?).join
structure c8 (X:Cx)(own:List Str)(fr:List Nat)(N':List Str)(scope:Scope):Prop where
 kind:scope.kind= .function
 names:N'=own++fr.filterMap (λj=>X.N[j]?)
 len:N'.length=own.length+fr.length
 nd:N'.Nodup
 qp: ∀y∈scope.names,y.2≠ .cell
 loc: ∀y∈scope.names,y.2= .local ->scope.names.lookup y.1=some .local
 NU: ∀x∈fr.filterMap (λj=>X.N[j]?),scope.names.lookup x=some .free
 free: ∀y∈scope.names,y.2= .free ->X.env.kindOf y.1=some .cell \/ X.env.kindOf y.1=some .free
theorem me {N:List Str}: ∀ {fr:List Nat} {k:Nat} {x:Str},(fr.filterMap (λj=>N[j]?)).length=fr.length ->(fr.filterMap (λj=>N[j]?))[k]? =some x -> ∃j,fr[k]? =some j /\ N[j]? =some x
 | [],_,_,_,e=>by simp at e
 | j ::r,k,x,hl,e=>by
  cases hj:N[j]? with
  | none=>rw[List.filterMap_cons,hj] at hl;have:=List.length_filterMap_le (λj=>N[j]?) r;simp only[aB] at hl;lia
  | some y=>
   rw[List.filterMap_cons,hj] at hl e;simp only[aB,Nat.add_right_cancel_iff] at hl;cases k with
   | zero=>simp at e;exact⟨j,by simp,by rw[hj,e]⟩
   | succ k=>exact me (k:=k) hl ⇑e
section
variable {X:Cx}{ae:List (Addr×Obj)}{σ:St}{H:Hp}{s s3:Shared}
theorem wT {own N':List Str}{fr:List Nat}{scope:Scope}{cl:List (Str×Addr)}{fp:List Addr}{h':Heap}{t:Nat}(S:c8 X own fr N' scope)(I:Inv X ae σ H s) (rX: ∀x c,cl.lookup x=some c ->X.env.cells.lookup x=some c) (rW: ∀y∈scope.names,y.2= .free ->(cl.lookup y.1).isSome=true) (w5: ∀b∈fp,jc X ae H b) (hft: ∀b∈fp,b<s.heap.objs.size) (vt:h'.Ns s.heap.objs.size (λ_=>none)) (hk: ∀b o,s.heap.get? b=some o ->h'.get? b=some o): Inv (bH X N' scope cl fp s H) [] (ja own.length fr σ) H {s with heap:=h',toks:=t}:=by
 have look: ∀x,(compEnvC scope cl s.heap.objs.size X.env).kindOf x=(relabel scope X.env).names.lookup x:=λ_=>rfl
 have QT:(fr.filterMap (λj=>X.N[j]?)).length=fr.length:=by have:=S.len;rw[S.names,aH] at this;lia
 refine⟨⟨I.ok.mod,?_,I.ok.glob,I.ok.blt,ao _,λx y c e1 e2=>I.ok.inj x y c (rX _ _ e1) (rX _ _ e2),λx hx=> ?_,(λx c z _=>nomatch z),I.ok.hd,I.ok.frames, .inl rfl,λb hb=>⟨?_,λx c e=>(w5 b hb).2.2.2.2.1 x c (rX x c e)⟩,I.bs,av I.ok.Gc I.sz,λb o e hb=> ?_,λb hb hz=> ?_,I.stack,I.pC⟩,
  rfl,I.bare,Un.kept hk,⟨_,vt,λi x v e1 e2 e3=> ?_⟩,λx c e=> ?_,I.cF.fresh (ao _),λx c e=>I.fB x c (rX x c e),λp hp=>absurd (show p∈([]:List (Addr×Obj)) from hp) (by simp),I.cF.kept hk,?_⟩
 show(relabel scope X.env).kind=_
 exact S.kind
 have Qp:scope.names.lookup x=some .free:=by rcases hx with hx | hx;rcases gf hx with q | ⟨_,q⟩;exact absurd rfl (S.qp _ (cW q));exact q;rcases gf hx with q | ⟨q,_⟩;exact q;cases q
 exact Option.isSome_iff_exists.mp (rW _ (cW Qp) rfl)
 exact bg (hft b hb)
 rcases (w5 b hb).2.2.2.1 with z | z
 exact I.ok.Ca b o e z
 exact absurd (bz (aE e) (av I.ok.Gc z)) (Nat.lt_irrefl _)
 rcases aS.mp (I.uf b hz) with q | q
 exact(w5 b hb).2.1 q
 exact(w5 b hb).2.2.1 q
 -- a U2 value
 have e1:(own++fr.filterMap (λj=>X.N[j]?))[i]? =some x:=by rw[<- S.names];exact e1
 unfold ja at e2
 by_cases hi:i<own.length
 rw[aW ⇑hi,cQ,ak hi] at e2
 cases e2
 rw [aU ⇑hi,List.length_replicate] at e2
 rw[aU ⇑hi] at e1
 obtain⟨j,ej,ex⟩:=me QT e1
 rw[aG,ej] at e2
 have e2:(σ[j]?).join=some v:= ⇑e2
 have e2':σ[j]? =some (some v):=by
  cases q:σ[j]? with
  | none=>rw[q] at e2;cases e2
  | some w=>rw[q] at e2;simp at e2;rw[e2]
 have hf:=S.NU x (bq e1)
 have hm:=cW hf
 obtain⟨m,_,hl⟩:=I.loc
 have Uh:Rj X.env.scope x:=by rcases S.free _ hm rfl with q | q;exact .inr (.inl q);exact .inr (.inr q)
 obtain⟨u,r,l⟩:=hl j x v ex e2' Uh
 refine⟨u,r, .inr ⟨?_,?_⟩⟩
 exact fQ hf
 rcases l with⟨k,_⟩ | ⟨_,c,ec,z⟩
 rcases S.free _ hm rfl with q | q
 rw[k] at q;cases q
 rw[k] at q;cases q
 obtain⟨c',ec'⟩:=Option.isSome_iff_exists.mp (rW _ hm rfl)
 have:=rX _ _ ec'
 rw[ec] at this
 cases this
 exact⟨c,ec',z.keeps hk⟩
 obtain⟨v,z⟩:=I.cell x c (rX x c e)
 exact⟨v,z.keeps hk⟩
 show(ja own.length fr σ).length=N'.length
 unfold ja
 rw[aH,List.length_replicate,ag,S.len]
end
def KU (X:Cx)(cs:List Expr)(t:TT):Prop:=∀ (ae:List (Addr×Obj)) (s:Shared) (σ:St) (H:Hp) (Q:Bool ->Hp ->Prop),Inv X ae σ H s ->t σ H Q ->wpAny (model X.prog X.w) X.A (forIn cs true λc r=>if r=true then do let ok <- isTrue c X.env (eval c X.env);pure (ForInStep.yield ok) else pure (ForInStep.yield r)) (TP X ae σ Q) X.xe s
def OK:TT:=λ_ H Q=>Q true H
theorem dv {X:Cx}:KU X [] OK:=λae s σ H Q I h=>wpAny_tests_nil ⟨H,I,h⟩
theorem An {X:Cx}{c:Expr}{t:TT}(h:PT X c t):KU X [c] t:=λae s σ H Q I q=>wpAny_tests_one (h ae s σ H Q I q)
section
variable {prog:Program}{w:World}{A:Around}{R:Result ->Shared ->Prop}{s:Shared}
theorem CN {gy mY iter:Expr}{gx:List Expr}{scope:Scope}{pos:Pos}{it eQ:Value}{env:Env}(I:Nat ->Shared ->Prop) (turn : ∀n s,I n s ->wpAny (model prog w) A (pyNext it) (λr s₁=>match r with
   | none=>R (.ok .next) s₁
   | some v=>wpAny (model prog w) A (letOwnedTupleGo mY it v) (λ_ s₀=>wpAny (model prog w) A (assign mY env v) (λ_ s₂=>
    wpAny (model prog w) A (forIn gx true λc r=>if r=true then do let ok <- isTrue c env (eval c env);pure (ForInStep.yield ok) else pure (ForInStep.yield r)) (λok s₃=>if ok=true then wpAny (model prog w) A (eval gy env) (λx s₄=>wpAny (model prog w) A (call (.builtin "list.append") [eQ,x]) (λ_ s₅=> ∃m,m<n /\ I m s₅) (λ_ _=>False) s₄) (λ_ _=>False) s₃ else ∃m,m<n /\ I m s₃) (λ_ _=>False) s₂)
    (λ_ _=>False) s₀) (λ_ _=>False) s₁) (λ_ _=>False) s)
  (n:Nat) (h:I n s):codeAny (model prog w) A (.compLoop (.ListComp gy [⟨mY,iter,gx,0⟩] scope pos) 0 it eQ env) R s:=by
 refine codeAny_loop rfl I (λn s hI=> ?_) n h
 show wpAny _ A ((compTurn (.ListComp gy [⟨mY,iter,gx,0⟩] scope pos) 0 it eQ env).onRaise (λx=>do noteFrame x env;theTreesLotGoes x)) _ _ s
 refine wpAny_noted ?_
 rw[compTurn_list]
 refine ar (wpAny_standAt (ar (bp (turn n s hI) (λr s₁ h₁=> ?_) λ_ _ h'=>h'.elim)))
 cases r with
 | none=>exact aR h₁
 | some v=>
  refine ar (bp h₁ (λ_ s₀ Qn=> ?_) λ_ _ h'=>h'.elim);refine ar (bp Qn (λ_ s₂ h₂=> ?_) λ_ _ h'=>h'.elim);refine ar (bp h₂ (λPL s₃ h₃=> ?_) λ_ _ h'=>h'.elim);cases PL with
  | false=>exact aR ⟨rfl,h₃⟩
  | true=>exact ar (ar (bp h₃ (λx s₄ h₄=>ar (bp h₄ (λ_ s₅ h₅=>aR (aR ⟨rfl,h₅⟩)) λ_ _ h'=>h'.elim)) λ_ _ h'=>h'.elim))
end
def Wk (σ0 σ2:St):Prop:=σ2.length=σ0.length /\ ∀ (i:Nat) v,σ0[i]? =some (some v) ->σ2[i]? =some (some v)
def Jo (own:Nat)(g:TG):Prop:= ∀ (c:St) (v:V) (H:Hp) (Q:St ->Hp ->Prop),g v (List.replicate own none++c) H Q ->g v (List.replicate own none++c) H λσ2 H2=>Wk (List.replicate own none++c) σ2 /\ Q σ2 H2
theorem eJ:Jo 1 (jK 0):=by
 intro c v H Q h;refine⟨⟨by simp,λi u e=> ?_⟩,h⟩;cases i with
 | zero=>simp at e
 | succ i=>simpa using e
theorem gm {K:PySem.W.Frag}:Jo 2 (IB K 2 (tz (jK 0) (tz (jK 1) ID))):=by
 rintro c v H Q ⟨a,xs,e,hs,hl,x,r,rfl,y,r',rfl,rfl,h⟩;refine⟨a,_,e,hs,hl,x,_,rfl,y,_,rfl,rfl,⟨by simp,λi u e=> ?_⟩,h⟩;match i with
 | 0=>simp at e
 | 1=>simp at e
 | i+2=>simpa using e
def KJ (J:It)(own:Nat)(fr:List Nat)(g:TG)(tc:TT)(te:TE)(σ:St)(p:Addr)(H1:Hp)(Q:VK):Prop:=∃ W :Nat ->Nat ->List V ->Hp ->Prop,(∃m,W 0 m [] (cq H1 p (.lst []))) /\ ∀i m ys H',W i m ys H' ->H' p=some (.lst ys) /\((J.stop i H' /\ Q (.ref p) H') \/ (J.go i H' /\ ys.length<sizeLine /\ ∀x H2,J.Nq i H' x H2 ->g x (ja own fr σ) H2 λσ2 H3=>tc σ2 H3 λb H4=>if b=true then te σ2 H4 λy H5=> ∃zs,H5 p=some (.lst zs) /\ zs.length<sizeLine /\ ∃m',m'<m /\ W (i+1) m' (zs++ [y]) (cq H5 p (.lst (zs++ [y]))) else ∃zs m',m'<m /\ W (i+1) m' zs H4))
def JP (wi:TI)(own:Nat)(fr:List Nat)(g:TG)(tc:TT)(te:TE):TE:=λσ H Q=>wi σ H λJ H1=> ∀p,H1 p=none ->KJ J own fr g tc te σ p H1 Q
section
variable {X:Cx}{ae:List (Addr×Obj)}{σ:St}{H:Hp}{s s3:Shared}
theorem tQ {N':List Str}{scope:Scope}{cl:List (Str×Addr)}{fp:List Addr}{Ap:List (Addr×Obj)}{σ':St}{H':Hp}{s':Shared}(I3:Inv X ae σ H s3)(w5: ∀b∈fp,jc X ae H b) (Ic:Inv (bH X N' scope cl fp s3 H) Ap σ' H' s'):Inv X ae σ H' s':=I3.Gb (ch:=fp) Ic.os Ic.base Ic.cF Ic.bare λb hb=>⟨(w5 b hb).2.2.2.1,(w5 b hb).2.1,(w5 b hb).2.2.2.2.1,(w5 b hb).2.2.2.2.2⟩
theorem tP {C:Addr}{σ':St}{H':Hp}{s':Shared}{h':Heap}(I3:Inv X ae σ H s3)(hC:C=s3.heap.objs.size)(J:Inv X ae σ' H' s')(hn:H' C=none)(hs:Heap.SameBut C s'.heap h'):Inv X ae σ' H' {s' with heap:=h'}:=by subst hC;refine J.turned (t':=s'.toks) (it:=s3.heap.objs.size) (λb o hb e=>hs.extBut b o hb e) hn (Nat.ne_of_gt I3.lt) (.inr I3.sz) (λx c e z=> ?_) λp hp z=> ?_;obtain⟨v,q⟩:=I3.cell x c e;exact absurd q.lt (by rw[z];exact Nat.lt_irrefl _);exact absurd (aE (I3.pin p hp).1) (by rw[z];exact Nat.lt_irrefl _)
theorem zk {tg iter gy:Expr}{gx:List Expr}{pos:Pos}{own N':List Str}{fr:List Nat}{scope:Scope}{cl:List (Str×Addr)}{fp:List Addr}{it:Addr}{tn:Nat ->Heap ->Prop}{J:It}{g:TG}{tc:TT}{te:TE}{Q:VK} {E:Value ->Shared ->Prop} {RR:Value ->Addr ->Result ->Shared ->Prop} (jJ:X.calm=true) (S:c8 X own fr N' scope) (hg: ∀s3 H3,PG (bH X N' scope cl fp s3 H3) tg g) (hw:Jo own.length g) (hc: ∀s3 H3,KU (bH X N' scope cl fp s3 H3) gx tc) (he: ∀s3 H3,PE (bH X N' scope cl fp s3 H3) gy te) (rX: ∀x c,cl.lookup x=some c ->X.env.cells.lookup x=some c) (rW: ∀y∈scope.names,y.2= .free ->(cl.lookup y.1).isSome=true) (I:Inv X ae σ H s) (T:vb X.prog X.w X.K tg J fp it tn) (st:tn 0 s.heap) (w5: ∀b∈fp,jc X ae H b) (h: ∀p,H p=none ->KJ J own.length fr g tc te σ p H Q) (fin: ∀ (s3:Shared) (H3:Hp),Inv X ae σ H3 s3 ->(∀b∈fp,jc X ae H3 b) -> ∀ (D:Addr) (σ':St) (H':Hp) (s':Shared) (t:Nat),D<s3.heap.objs.size ->Inv (bH X N' scope cl fp s3 H3) [] σ' H' s' ->Q (.ref D) H' ->RR (.ref D) s3.heap.objs.size (.ok .next) s'): wpAny (model X.prog X.w) X.A (newList []) (λeQ s₃=>wpAny (model X.prog X.w) X.A (newFunctionEnv scope X.env.globals cl [] X.env.qual none .none (some X.env)) (λF' s₄=>codeAny (model X.prog X.w) X.A (.compStart (.ListComp gy [⟨tg,iter,gx,0⟩] scope pos) 0 (.ref it) eQ {F' with scope:=relabel scope X.env}) (RR eQ F'.locals) s₄) E s₃) E s:=by
 refine wpAny_newObj_type ?_;have hf:H s.heap.objs.size=none:=I.cF.fresh (ao _);obtain⟨W,⟨m0,w0⟩,turn⟩:=h _ hf;generalize e3:({s with heap:=s.heap.push {cls:= .type "list",dict:=none,data:= .seq ([]:List Value).toArray}}:Shared)=s3;have Lk:s3.heap.objs.size=s.heap.objs.size+1:=by rw[<- e3];exact Heap.size_push ..
 have Ul: ∀b o,s.heap.get? b=some o ->s3.heap.get? b=some o:=λb o e=>by rw[<- e3];exact aq _ e
 have I3:Inv X ae σ (cq H s.heap.objs.size (.lst [])) s3:=by rw[<- e3];exact I.laid (t':=s.toks) (λb u e=>aq _ e) (ao _) ⟨cZ _,[],0, .nil,aM _ rfl⟩
 have MS: ∀b∈fp,b<s.heap.objs.size:=λb hb=>by obtain⟨o,e,_⟩:=T.obj 0 _ st b hb;exact aE e
 have zb: ∀b∈fp,jc X ae (cq H s.heap.objs.size (.lst [])) b:=λb hb=>⟨by rw[bC (bg (MS b hb))];exact(w5 b hb).1,(w5 b hb).2⟩
 refine wpAny_newFunctionEnv S.qp (by intro y hy;simp at hy) (λh₁ My Mt=> ?_) S.kind;have old: ∀b o,s3.heap.get? b=some o ->h₁.get? b=some o:=λb o e=>Mt.extBut b o (bg (aE e)) (aq _ e);have Ic:=wT (t:=s3.toks+([]:List (Str×Value)).length) S I3 rX rW zb (λb hb=>by rw[Lk];exact Nat.lt_succ_of_lt (MS b hb)) My old;have BF:tn 0 h₁:=T.keep 0 _ _ st λb hb o e=>old b o (Ul b o e);have p9: ∀ {H':Hp},(∀b∈fp,H' b=none) -> ∀b∈fp,jc (bH X N' scope cl fp s3 (cq H s.heap.objs.size (.lst []))) [] H' b:=λhn b hb=>by refine⟨hn b hb,?_,?_, .inl hb,λx c e=>(w5 b hb).2.2.2.2.1 x c (rX x c e),λp hp=>absurd (show p∈([]:List (Addr×Obj)) from hp) (by simp)⟩;show b≠s3.heap.objs.size;rw[Lk];exact bg (Nat.lt_succ_of_lt (MS b hb));exact Ic.ok.zh b hb
 have loop:codeAny (model X.prog X.w) X.A (.compLoop (.ListComp gy [⟨tg,iter,gx,0⟩] scope pos) 0 (.ref it) (.ref s.heap.objs.size) (compEnvC scope cl s3.heap.objs.size X.env)) (RR (.ref s.heap.objs.size) s3.heap.objs.size) {s3 with heap:=h₁,toks:=s3.toks+([]:List (Str×Value)).length}:=by
  refine CN (λn s'=>dH λi ys H'=>eu (Inv (bH X N' scope cl fp s3 (cq H s.heap.objs.size (.lst []))) [] (ja own.length fr σ) H' s') (tn i s'.heap) (∀b∈fp,H' b=none) (W i n ys H')) ?_ m0 ⟨0,[],_,Ic,BF,λb hb=>(zb b hb).1,w0⟩;rintro n s4 ⟨i,ys,H4,I4,eP,QU,w4⟩;obtain⟨zc,alt⟩:=turn i n ys H4 w4;rcases alt with⟨stop,q⟩ | ⟨go,hsz,step⟩
  ·refine cz (T.done (bH X N' scope cl fp s3 (cq H s.heap.objs.size (.lst []))) rfl rfl rfl jJ i [] s4 _ H4 (λ_ _=>False) I4 (p9 QU) eP stop) λr s5 ⟨hr,I5⟩=> ?_;subst hr;exact fin s3 _ I3 zb _ _ H4 s5 s5.toks (by rw[Lk];exact Nat.lt_succ_self _) I5 q
  refine cz (T.item (bH X N' scope cl fp s3 (cq H s.heap.objs.size (.lst []))) rfl rfl rfl jJ i [] s4 _ H4 (λ_ _=>False) I4 (p9 QU) eP go) λr s5 ⟨u,hr,h5⟩=> ?_;subst hr;refine cz h5 λ_ s6 ⟨x,H6,I6,r6,y6,Ln,fr6⟩=> ?_;have I6':=I6.pinned (p9 fr6) (T.obj _ _ Ln);have Sh:=hw _ x H6 _ (step x H6 y6);refine cz (hg s3 _ _ s6 _ H6 x u _ I6' r6 Sh) λ_ s7 ⟨σ7,H7,I7,wk,q7⟩=> ?_;have again: ∀ {H9:Hp} {s9:Shared} {KZ:List V},Inv (bH X N' scope cl fp s3 (cq H s.heap.objs.size (.lst []))) ([]++gh fp s6.heap) σ7 H9 s9 ->(∃m',m'<n /\ W (i+1) m' KZ H9) ->∃m,m<n /\ dH λi ys H'=>eu (Inv (bH X N' scope cl fp s3 (cq H s.heap.objs.size (.lst []))) [] (ja own.length fr σ) H' s9) (tn i s9.heap) (∀b∈fp,H' b=none) (W i m ys H'):=λ{H9 s9 KZ} I9 ⟨m',hm,w9⟩=>by refine⟨m',hm,i+1,KZ,H9,(I9.gS).weak ?_ wk.2,T.keep _ _ _ Ln λb hb o e=>(I9.pin (b,o) (aK _ (aK _ (d3 hb e)))).1,λb hb=> ?_,w9⟩;exact wk.1.symm;obtain⟨o,e,d⟩:=T.obj _ _ Ln b hb;exact(I9.pin (b,o) (aK _ (aK _ (d3 hb e)))).2.1
  refine cz (hc s3 _ _ s7 σ7 H7 _ I7 q7) λok s8 ⟨H8,I8,q8⟩=> ?_;cases ok with
  | false=>simp only[aw,bi] at q8 ⊢;obtain⟨zs,q8⟩:=q8;exact again I8 q8
  | true=>simp only[bP] at q8 ⊢;refine cz (he s3 _ _ s8 σ7 H8 _ I8 q8) λy s9 ⟨yv,H9,I9,ry,zs,hp9,hz9,q9⟩=> ?_;refine cz (dE _ s9 σ7 H9 (.ref s.heap.objs.size) [yv] (.ref s.heap.objs.size) [y] (λv H'=>H'=cq H9 s.heap.objs.size (.lst (zs++ [yv]))) I9 rfl (.cons ry .nil) ⟨_,zs,yv,rfl,rfl,hp9,hz9,rfl⟩) λv UF ⟨_,NX,I10,_,e10⟩=> ?_;subst e10;exact again I10 q9
 exact codeAny_compStart_list loop (T.self _ 0 _ _ _ BF loop)
end
section
variable {X:Cx}
theorem Cx.Ok.cellsOf {own N':List Str}{fr:List Nat}{scope:Scope}(ok:X.Ok)(S:c8 X own fr N' scope): ∀y∈scope.names,y.2= .free -> ∃c,X.env.cells.lookup y.1=some c:=λy hy hf=>ok.has y.1 (S.free y hy hf)
theorem dI {tg iter gy:Expr}{gx:List Expr}{pos:Pos}{own N':List Str}{fr:List Nat}{scope:Scope}{wi:TI}{g:TG}{tc:TT}{te:TE}(jJ:X.calm=true)(S:c8 X own fr N' scope)(hi:PI X tg iter wi) (hg: ∀cl fp s3 H3,PG (bH X N' scope cl fp s3 H3) tg g) (hw:Jo own.length g) (hc: ∀cl fp s3 H3,KU (bH X N' scope cl fp s3 H3) gx tc) (he: ∀cl fp s3 H3,PE (bH X N' scope cl fp s3 H3) gy te) (hs: ∀x,foldedSetIterable iter X.env x=pure x:=by intro _;rfl):PE X (.ListComp gy [⟨tg,iter,gx,0⟩] scope pos) (JP wi own.length fr g tc te):=by intro ae s σ H Q I h;obtain⟨cl,Fw,rX,rW⟩:=qX (I.ok.cellsOf S);rw[eval_ListComp];refine wpAny_comprehension_free (use:=none) rfl hs Fw S.kind S.loc (cz (hi ae s σ H _ I h) λv s1 h1=>cz h1 λQg s2 h2=> ?_);obtain⟨it,fp,tn,J,H2,e,I2,T,lB,f2,h2⟩:=h2;subst e;refine zk (RR:=λeQ C=>compPost (model X.prog X.w) X.A X.xe none (EP X ae σ Q) eQ C) jJ S (hg cl fp) hw (hc cl fp) (he cl fp) rX rW I2 T lB f2 h2 ?_;intro s3 H3 I3 f3 D σ' H' s' t hD Ic q;obtain⟨m,hn,_⟩:=Ic.loc;refine⟨m,hn,λh' Qu=>⟨.ref D,H',?_,rfl,q⟩⟩;exact tP I3 rfl (tQ I3 f3 Ic) Ic.free Qu
end
set_option genInjectivity true in
inductive Dt where
 | dC | bl (b:Bool) | int (i:Int) | str (x:Str) | tup (l:List Dt) | lst (l:List Dt)
mutual
def Rep (K:PySem.W.Frag)(H:Hp):Dt ->V ->Prop
 | .dC,v=>v= .dC
 | .bl b,v=>v= .bl b
 | .int i,v=>v= .int i
 | .str x,v=>v= .str x
 | .tup l,v=>ca λa vs=>cM (v= .ref a) (lr K H a vs) (e9 K H l vs)
 | .lst l,v=>ca λa vs=>cM (v= .ref a) (gs K H a vs) (e9 K H l vs)
def e9 (K:PySem.W.Frag)(H:Hp):List Dt ->List V ->Prop
 | [],vs=>vs= []
 | d::r,vs=>ca λv t=>cM (vs=v::t) (Rep K H d v) (e9 K H r t)
end
mutual
def qO:Dt ->Dt ->Bool
 | .dC, .dC=>true
 | .bl a, .bl b=>a==b
 | .bl a, .int b=>(if a then 1 else 0)==b
 | .int a, .bl b=>a==(if b then 1 else 0)
 | .int a, .int b=>a==b
 | .str a, .str b=>a==b
 | .tup a, .tup b=>uX a b
 | .lst a, .lst b=>uX a b
 | _,_=>false
def uX:List Dt ->List Dt ->Bool
 | [],[]=>true
 | x::xs,y::ys=>qO x y && uX xs ys
 | _,_=>false
end
mutual
def nG:Dt ->Nat
 | .tup l=>i_ l+1
 | .lst l=>i_ l+1
 | _=>0
def i_:List Dt ->Nat
 | []=>0
 | d::r=>max (nG d) (i_ r)
end
theorem e9.length {K:PySem.W.Frag}{H:Hp}: ∀ {l:List Dt} {vs:List V},e9 K H l vs ->l.length=vs.length
 | [],_,h=>by simp only[e9] at h;subst h;rfl
 | d::r,vs,h=>by simp only[e9] at h;obtain⟨v,t,rfl,_,h⟩:=h;simp[e9.length h]
theorem e9.at {K:PySem.W.Frag}{H:Hp}: ∀ {l:List Dt} {vs:List V} {j:Nat} {d:Dt},e9 K H l vs ->l[j]? =some d -> ∃v,vs[j]? =some v /\ Rep K H d v
 | [],_,_,_,_,e=>by simp at e
 | d::r,vs,j,d',h,e=>by
  simp only[e9] at h;obtain⟨v,t,rfl,h1,h⟩:=h;cases j with
  | zero=>simp at e;subst e;exact⟨v,rfl,h1⟩
  | succ j=>simpa using e9.at (j:=j) h ⇑e
theorem mw: ∀ {l:List Dt} {d:Dt},d∈l ->nG d<=i_ l
 | [],_,h=>by simp at h
 | x::r,d,h=>by simp only[i_];rcases aS.mp h with rfl | h;exact Nat.le_max_left _ _;exact av (mw h) (Nat.le_max_right _ _)
theorem iJ: ∀ (a b:List Dt),uX a b=((List.range (min a.length b.length)).all (λj=>qO (a.getD j .dC) (b.getD j .dC)) && a.length==b.length)
 | [],[]=>rfl
 | [],y::ys=>by simp[uX]
 | x::xs,[]=>by simp[uX]
 | x::xs,y::ys=>by
  have e:min (x::xs).length (y::ys).length=min xs.length ys.length+1:=by simp only[aB];lia
  rw[uX,iJ xs ys,e,List.range_succ_eq_map,List.all_cons,List.all_map];have e2:((x::xs).length==(y::ys).length)=(xs.length==ys.length):=by simp
  rw[e2,Bool.and_assoc];rfl
mutual
theorem io: ∀d:Dt,qO d d=true
 | .dC=>rfl
 | .bl b=>by simp[qO]
 | .int i=>by simp[qO]
 | .str x=>by simp[qO]
 | .tup l=>by simp only[qO];exact nF l
 | .lst l=>by simp only[qO];exact nF l
theorem nF: ∀l:List Dt,uX l l=true
 | []=>rfl
 | x::xs=>by simp only[uX,io x,nF xs,Bool.and_self]
end
theorem Un.sqT {K:PySem.W.Frag}{H H':Hp}(h: ∀b xs,Rd H b (.tup xs) ->Rd H' b (.tup xs)){a:Addr}{xs:List V}(q:lr K H a xs):lr K H' a xs:=by rcases q with q | q;exact .inl (h _ _ q);exact .inr q
section
variable {X:Cx}{ae:List (Addr×Obj)}{σ:St}{H:Hp}{s:Shared}
mutual
theorem Rep.inj (I:Inv X ae σ H s): ∀ (d e:Dt) (v:V),Rep X.K H d v ->Rep X.K H e v ->d=e
 | .dC,e,v,h1,h2=>by simp only[Rep] at h1;subst h1;cases e<;>simp only[Rep] at h2<;>first | rfl | (cases h2;done) | (obtain⟨_,_,q,_⟩:=h2;cases q)
 | .bl b,e,v,h1,h2=>by simp only[Rep] at h1;subst h1;cases e<;>simp only[Rep] at h2<;>first | (cases h2;rfl) | (cases h2;done) | (obtain⟨_,_,q,_⟩:=h2;cases q)
 | .int b,e,v,h1,h2=>by simp only[Rep] at h1;subst h1;cases e<;>simp only[Rep] at h2<;>first | (cases h2;rfl) | (cases h2;done) | (obtain⟨_,_,q,_⟩:=h2;cases q)
 | .str b,e,v,h1,h2=>by simp only[Rep] at h1;subst h1;cases e<;>simp only[Rep] at h2<;>first | (cases h2;rfl) | (cases h2;done) | (obtain⟨_,_,q,_⟩:=h2;cases q)
 | .tup l,e,v,h1,h2=>by
  simp only[Rep] at h1;obtain⟨a,vs,rfl,hs,hr⟩:=h1;cases e<;>simp only[Rep] at h2<;>first | (cases h2;done) | skip
  obtain⟨a',K',q,fA,jH⟩:=h2;cases q;have:=I.sC hs fA;subst this;rw[e9.inj I l _ vs hr jH];obtain⟨a',K',q,fA,jH⟩:=h2;cases q;obtain⟨bD,_,ht,_⟩:=I.tuple hs;obtain⟨its',_,hl,_⟩:=I.list fA;exact absurd rfl (SeqAt.ne_of_list_tuple (s:=s) hl.isList ht)
 | .lst l,e,v,h1,h2=>by
  simp only[Rep] at h1;obtain⟨a,vs,rfl,hs,hr⟩:=h1;cases e<;>simp only[Rep] at h2<;>first | (cases h2;done) | skip
  obtain⟨a',K',q,fA,jH⟩:=h2;cases q;obtain⟨bD,_,ht,_⟩:=I.tuple fA;obtain⟨its',_,hl,_⟩:=I.list hs;exact absurd rfl (SeqAt.ne_of_list_tuple (s:=s) hl.isList ht);obtain⟨a',K',q,fA,jH⟩:=h2;cases q;have:=I.list_inj hs fA;subst this;rw[e9.inj I l _ vs hr jH]
theorem e9.inj (I:Inv X ae σ H s): ∀ (l m:List Dt) (vs:List V),e9 X.K H l vs ->e9 X.K H m vs ->l=m
 | [],m,vs,h1,h2=>by
  simp only[e9] at h1;subst h1;cases m with
  | nil=>rfl
  | cons _ _=>simp only[e9] at h2;obtain⟨_,_,q,_⟩:=h2;cases q
 | d ::r,m,vs,h1,h2=>by
  simp only[e9] at h1;obtain⟨v,t,rfl,h1,h3⟩:=h1;cases m with
  | nil=>simp only[e9] at h2;cases h2
  | cons d' r'=>simp only[e9] at h2;obtain⟨v',t',q,h4,h5⟩:=h2;cases q;rw[Rep.inj I d d' v h1 h4,e9.inj I r r' t h3 h5]
end
theorem e9.items {l:List Dt}{vs:List V}{bD:List Value}(h:e9 X.K H l vs)(r:bY vs bD){j:Nat}(hj:j<bD.length):Rep X.K H (l.getD j .dC) (vs.getD j .dC) /\ RelV (vs.getD j .dC) bD[j] /\ l.getD j .dC∈l:=by
 have e1:=h.length;have e2:=r.length;have hl:j<l.length:= ∅;obtain⟨v,hv,hr⟩:=h.at (aD hl);obtain⟨u,hu,ru⟩:=r.get hv;have e3:l.getD j .dC=l[j]:=by simp[List.getD,hl]
 have e4:vs.getD j .dC=v:=by simp[List.getD,hv]
 rw[aD hj] at hu;cases hu;rw[e3,e4];exact⟨hr,ru,List.getElem_mem hl⟩
theorem Rep.rK (I:Inv X ae σ H s){l:List Dt}{x:V}{u:Value}(h:Rep X.K H (.tup l) x)(r:RelV x u):ca λa i=>u= .ref a /\ IsTup s.heap a i:=by simp only[Rep] at h;obtain⟨a,vs,rfl,hs,hr⟩:=h;cases r;obtain⟨bD,_,ht,_⟩:=I.tuple hs;exact⟨a,_,rfl,ht⟩
theorem Rep.rS (I:Inv X ae σ H s){l:List Dt}{x:V}{u:Value}(h:Rep X.K H (.lst l) x)(r:RelV x u):ca λa i=>u= .ref a /\ s.heap.IsList a i:=by simp only[Rep] at h;obtain⟨a,vs,rfl,hs,hr⟩:=h;cases r;obtain⟨bD,_,ht,_⟩:=I.list hs;exact⟨a,_,rfl,ht.isList⟩
theorem FK (I:Inv X ae σ H s)(n:Nat): ∀ (A:Around) (d e:Dt) (x y:V) (u v:Value),nG d<=n ->A.units+n<cLine ->Rep X.K H d x ->Rep X.K H e y ->RelV x u ->RelV y v ->SeqAt.EqAt A s u v (qO d e):=by
 induction n using Nat.strongRecOn with
 | _ n ih=>
 intro A d e x y u v hn hu h1 h2 r1 r2;cases d<;>cases e;case tup.tup l m=>
  have S1:=h1
  have Kz:=h2
  simp only[Rep] at h1 h2
  obtain⟨a,vs,rfl,hs,hr⟩:=h1
  obtain⟨b,ws,rfl,fA,jH⟩:=h2
  cases r1;cases r2
  by_cases AY:a=b
  subst AY
  rw[Rep.inj I _ _ _ S1 Kz,io]
  exact SeqAt.EqAt.same _
  obtain⟨bD,rv,ht,_⟩:=I.tuple hs
  obtain⟨its',BJ,wW,_⟩:=I.tuple fA
  refine SeqAt.EqAt.of_refs AY ?_
  simp only[qO]
  simp only[nG] at hn
  match n,hn,hu,ih with
  | n +1,hn,hu,ih=>
   have z:=SeqAt.RcAt.tuples (A:=A) (s:=s) (e:=λj=>qO (l.getD j .dC) (m.getD j .dC)) ht wW ∅ λj g1 g2=>by obtain⟨q1,q2,q3⟩:=hr.items rv (j:=j) ⇑g1;obtain⟨q4,q5,q6⟩:=jH.items BJ (j:=j) ⇑g2;refine ih n (Nat.lt_succ_self n) A.in1 _ _ _ _ _ _ ?_ ?_ q1 q4 ⇑q2 ⇑q5;have:=mw q3;lia;show A.units+1+n<cLine;lia
   rw[iJ,hr.length,jH.length,rv.length,BJ.length];simpa using z
 case lst.lst l m=>
  have S1:=h1
  have Kz:=h2
  simp only[Rep] at h1 h2
  obtain⟨a,vs,rfl,hs,hr⟩:=h1
  obtain⟨b,ws,rfl,fA,jH⟩:=h2
  cases r1;cases r2
  by_cases AY:a=b
  subst AY
  rw[Rep.inj I _ _ _ S1 Kz,io]
  exact SeqAt.EqAt.same _
  obtain⟨bD,rv,ht,_⟩:=I.list hs
  obtain⟨its',BJ,wW,_⟩:=I.list fA
  refine SeqAt.EqAt.of_refs AY ?_
  simp only[qO]
  simp only[nG] at hn
  by_cases hl:bD.length=its'.length
  match n,hn,hu,ih with
  | n +1,hn,hu,ih=>
   have z:=SeqAt.RcAt.lists (A:=A) (s:=s) (e:=λj=>qO (l.getD j .dC) (m.getD j .dC)) ht.isList wW.isList ⇑hl ∅ λj g1 g2=>by obtain⟨q1,q2,q3⟩:=hr.items rv (j:=j) ⇑g1;obtain⟨q4,q5,q6⟩:=jH.items BJ (j:=j) ⇑g2;refine ih n (Nat.lt_succ_self n) A.in1 _ _ _ _ _ _ ?_ ?_ q1 q4 ⇑q2 ⇑q5;have:=mw q3;lia;show A.units+1+n<cLine;lia
   rw[iJ,hr.length,jH.length,rv.length,BJ.length,hl];simpa [hl] using z
  have z:=SeqAt.RcAt.lists_lengths (A:=A) (s:=s) ht.isList wW.isList ⇑hl ∅
  have hf:(bD.length==its'.length)=false:= ⇑hl
  rw[iJ,hr.length,jH.length,rv.length,BJ.length,hf,Bool.and_false]
  exact z
 case tup.lst=>obtain⟨a,i,rfl,h⟩:=Rep.rK I h1 r1;obtain⟨b,j,rfl,h'⟩:=Rep.rS I h2 r2;exact SeqAt.EqAt.tuple_list h h' ∅
 case lst.tup=>obtain⟨a,i,rfl,h⟩:=Rep.rS I h1 r1;obtain⟨b,j,rfl,h'⟩:=Rep.rK I h2 r2;exact SeqAt.EqAt.list_tuple h h' ∅
 case tup.dC=>obtain⟨a,i,rfl,h⟩:=Rep.rK I h1 r1;simp only[Rep] at h2;subst h2;cases r2;exact SeqAt.EqAt.tuple_none h ∅
 case lst.dC=>obtain⟨a,i,rfl,h⟩:=Rep.rS I h1 r1;simp only[Rep] at h2;subst h2;cases r2;exact SeqAt.EqAt.list_none h ∅
 case dC.tup=>obtain⟨a,i,rfl,h⟩:=Rep.rK I h2 r2;simp only[Rep] at h1;subst h1;cases r1;exact SeqAt.EqAt.none_tuple h ∅
 case dC.lst=>obtain⟨a,i,rfl,h⟩:=Rep.rS I h2 r2;simp only[Rep] at h1;subst h1;cases r1;exact SeqAt.EqAt.none_list h ∅
 case tup.bl=>obtain⟨a,i,rfl,h⟩:=Rep.rK I h1 r1;simp only[Rep] at h2;subst h2;cases r2;exact SeqAt.EqAt.tuple_bool _ h ∅
 case lst.bl=>obtain⟨a,i,rfl,h⟩:=Rep.rS I h1 r1;simp only[Rep] at h2;subst h2;cases r2;exact SeqAt.EqAt.list_bool _ h ∅
 case bl.tup=>obtain⟨a,i,rfl,h⟩:=Rep.rK I h2 r2;simp only[Rep] at h1;subst h1;cases r1;exact SeqAt.EqAt.bool_tuple _ h ∅
 case bl.lst=>obtain⟨a,i,rfl,h⟩:=Rep.rS I h2 r2;simp only[Rep] at h1;subst h1;cases r1;exact SeqAt.EqAt.bool_list _ h ∅
 case tup.int=>obtain⟨a,i,rfl,h⟩:=Rep.rK I h1 r1;simp only[Rep] at h2;subst h2;obtain⟨t,rfl⟩:=r2;exact SeqAt.EqAt.tuple_int _ _ h ∅
 case lst.int=>obtain⟨a,i,rfl,h⟩:=Rep.rS I h1 r1;simp only[Rep] at h2;subst h2;obtain⟨t,rfl⟩:=r2;exact SeqAt.EqAt.list_int _ _ h ∅
 case int.tup=>obtain⟨a,i,rfl,h⟩:=Rep.rK I h2 r2;simp only[Rep] at h1;subst h1;obtain⟨t,rfl⟩:=r1;exact SeqAt.EqAt.int_tuple _ _ h ∅
 case int.lst=>obtain⟨a,i,rfl,h⟩:=Rep.rS I h2 r2;simp only[Rep] at h1;subst h1;obtain⟨t,rfl⟩:=r1;exact SeqAt.EqAt.int_list _ _ h ∅
 case tup.str=>obtain⟨a,i,rfl,h⟩:=Rep.rK I h1 r1;simp only[Rep] at h2;subst h2;obtain⟨t,rfl⟩:=r2;exact SeqAt.EqAt.tuple_str _ _ h ∅
 case lst.str=>obtain⟨a,i,rfl,h⟩:=Rep.rS I h1 r1;simp only[Rep] at h2;subst h2;obtain⟨t,rfl⟩:=r2;exact SeqAt.EqAt.list_str _ _ h ∅
 case str.tup=>obtain⟨a,i,rfl,h⟩:=Rep.rK I h2 r2;simp only[Rep] at h1;subst h1;obtain⟨t,rfl⟩:=r1;exact SeqAt.EqAt.str_tuple _ _ h ∅
 case str.lst=>obtain⟨a,i,rfl,h⟩:=Rep.rS I h2 r2;simp only[Rep] at h1;subst h1;obtain⟨t,rfl⟩:=r1;exact SeqAt.EqAt.str_list _ _ h ∅
 all_goals (simp only[Rep] at h1 h2;subst h1 h2;exact FJ r1 r2 rfl rfl)
end
end L2
namespace L2
open PySem PySem.Spec PyProof.Rows
def abp:Dt ->Bool
 | .tup _=>true
 | .lst _=>true
 | _=>false
def iC:Dt ->Dt ->Bool
 | .tup _, .tup _=>true
 | .lst _, .lst _=>true
 | _,_=>false
section
variable {X:Cx}
theorem Pe {ae:List (Addr×Obj)}{σ:St}{H:Hp}{s:Shared}(I:Inv X ae σ H s){A:Around}{d e:Dt}{x y:V}{u v:Value}(hs:iC d e=true)(hn:nG d<=50)(hu:A.units+60<cLine)(h1:Rep X.K H d x)(h2:Rep X.K H e y)(r1:RelV x u)(r2:RelV y v): SeqAt.RcAt A s u v (qO d e) /\ SeqAt.RcNeAt A s u v (!qO d e):=by
 cases d with
 | tup l=>
  cases e with
  | tup m=>
   simp only[Rep] at h1 h2;obtain⟨a,vs,rfl,hs,hr⟩:=h1;obtain⟨b,ws,rfl,fA,jH⟩:=h2;cases r1;cases r2;obtain⟨bD,rv,ht,_⟩:=I.tuple hs;obtain⟨its',BJ,wW,_⟩:=I.tuple fA;simp only[qO];simp only[nG] at hn;have he: ∀j (g1:j<bD.toArray.size) (g2:j<its'.toArray.size),SeqAt.EqAt A.in1 s bD.toArray[j] its'.toArray[j] ((λj=>qO (l.getD j .dC) (m.getD j .dC)) j):=λj g1 g2=>by obtain⟨q1,q2,q3⟩:=hr.items rv (j:=j) ⇑g1;obtain⟨q4,q5,q6⟩:=jH.items BJ (j:=j) ⇑g2;refine FK I 50 A.in1 _ _ _ _ _ _ ?_ ?_ q1 q4 ⇑q2 ⇑q5;have:=mw q3;lia;show A.units+1+50<cLine;lia
   have z:=SeqAt.RcAt.tuples (A:=A) (s:=s) ht wW ∅ he;have z':=SeqAt.RcNeAt.tuples (A:=A) (s:=s) ht wW ∅ he;rw[iJ,hr.length,jH.length,rv.length,BJ.length];exact⟨⇑z, ⇑z'⟩
  | _=>cases hs
 | lst l =>
  cases e with
  | lst m=>
   simp only[Rep] at h1 h2;obtain⟨a,vs,rfl,hs,hr⟩:=h1;obtain⟨b,ws,rfl,fA,jH⟩:=h2;cases r1;cases r2;obtain⟨bD,rv,ht,_⟩:=I.list hs;obtain⟨its',BJ,wW,_⟩:=I.list fA;simp only[qO];simp only[nG] at hn;by_cases hl:bD.length=its'.length;have he: ∀j (g1:j<bD.toArray.size) (g2:j<its'.toArray.size),SeqAt.EqAt A.in1 s bD.toArray[j] its'.toArray[j] ((λj=>qO (l.getD j .dC) (m.getD j .dC)) j):=λj g1 g2=>by obtain⟨q1,q2,q3⟩:=hr.items rv (j:=j) ⇑g1;obtain⟨q4,q5,q6⟩:=jH.items BJ (j:=j) ⇑g2;refine FK I 50 A.in1 _ _ _ _ _ _ ?_ ?_ q1 q4 ⇑q2 ⇑q5;have:=mw q3;lia;show A.units+1+50<cLine;lia
   have z:=SeqAt.RcAt.lists (A:=A) (s:=s) ht.isList wW.isList ⇑hl ∅ he;have z':=SeqAt.RcNeAt.lists (A:=A) (s:=s) ht.isList wW.isList ⇑hl ∅ he;rw[iJ,hr.length,jH.length,rv.length,BJ.length,hl];exact⟨by simpa [hl] using z,by simpa [hl] using z'⟩;have z:=SeqAt.RcAt.lists_lengths (A:=A) (s:=s) ht.isList wW.isList ⇑hl ∅;have z':=SeqAt.RcNeAt.lists_lengths (A:=A) (s:=s) ht.isList wW.isList ⇑hl ∅;have hf:(bD.length==its'.length)=false:= ⇑hl;rw[iJ,hr.length,jH.length,rv.length,BJ.length,hf,Bool.and_false];exact⟨z,z'⟩
  | _=>cases hs
 | _=>cases hs
def Ly (K:PySem.W.Frag):R2:=λx y H Q=>ca λd e=>fo (iC d e=true) (nG d<=50) (Rep K H d x) (Rep K H e y) (Q (.bl (qO d e)) H)
def wj (K:PySem.W.Frag):R2:=λx y H Q=>ca λd e=>fo (iC d e=true) (nG d<=50) (Rep K H d x) (Rep K H e y) (Q (.bl (!qO d e)) H)
theorem LY (hu:X.A.units+60<cLine):gO X (compareOp .Eq) (Ly X.K):=by intro ae s σ H x y v u Q I r1 r2 h;obtain⟨d,e,h0,hn,h1,h2,q⟩:=h;exact(Pe I h0 hn hu h1 h2 r1 r2).1 X.prog X.w X.xe _ ⟨.bl _,H,I,rfl,q⟩
theorem nj (hu:X.A.units+60<cLine):gO X (compareOp .NotEq) (wj X.K):=by intro ae s σ H x y v u Q I r1 r2 h;obtain⟨d,e,h0,hn,h1,h2,q⟩:=h;exact(Pe I h0 hn hu h1 h2 r1 r2).2 X.prog X.w X.xe _ ⟨.bl _,H,I,rfl,q⟩
theorem dG.La {k:Nat}{A:Around}(r:dG k A):A.units+60<cLine:=by have:=r.units;lia
theorem AT: ∀ {ks:List Int} {vs:List Value},vs.length=ks.length ->(∀ (j:Nat) (v:Value),vs[j]? =some v ->ca λ(k:Int) (t:Tok)=>ks[j]? =some k /\ v= .int k t) ->IntsAre vs ks
 | [],[],_,_=> .nil
 | [],_::_,h,_=>by simp at h
 | _::_,[],h,_=>by simp at h
 | k::ks,v::vs,h,hv=>by obtain⟨k',t,e1,e2⟩:=hv 0 v rfl;simp at e1;subst e1 e2;exact .cons k t (AT ⇑h λj u e=> ⇑(hv (j+1) u ⇑e))
def wg:List V ->Hp ->VK ->Prop:=λxs H Q=>dH λ(d:Addr) (kvs:List (b8×V)) (ks:List Int)=>fo (xs= [.ref d]) (H d=some (.dK kvs)) (kvs.map (·.1)=ks.map Sum.inl) (ks.length<=sizeLine) (∀ (p:Addr) (ns:List Int),H p=none ->ns.Perm ks ->ns.Pairwise (· <= ·) ->Q (.ref p) (cq H p (.lst (ns.map V.int))))
theorem mI (hc:X.calm=true):eN X (.builtin "sorted") wg:=by
 intro ae s σ H xs us Q I r h;obtain⟨d,kvs,ks,rfl,hd,hk,Iw,q⟩:=h;obtain⟨u,rfl,ru⟩:=vals1 r;cases ru;have hh:X.A.in1.handled=none:=I.ok.hd hc;obtain⟨hz,lo,vs,e7,dd⟩:=tJ I.cF hd;obtain⟨ep,V3⟩:=dd.dictAt;have dL:vs.length=ks.length:=by have e1:=congrArg List.length hk;rw[ag,ag] at e1;rw[<- e7.length,e1]
 refine Calls.call_function_entry kind_sorted plain_sorted entry_sorted (args_sorted1 _) ?_;unfold Builtin.«sorted»;refine ar (m:=checkCount "sorted" 1 1 _) (aR ?_);refine ar (PySem.W.kdu_collect (A:=X.A.in1) (PySem.W.kdl_dict (knd:=cr X.prog X.w) (kvs:=vs) (ep:=ep) lo) hh V3 (by rw[<- e7.length];exact hz) λh' tk eQ VQ zc=> ?_);have hl:eQ.toList.length=ks.length:=by rw[cX,zc.1,dL]
 have hI:IntsAre eQ.toList ks:=AT hl λj v e=>by
  obtain⟨k,x,hx,QG⟩:=zc.2 j v (by rw[<- Array.getElem?_toList];exact e);have Fp:(kvs.map (·.1))[j]? =some k:=by
   have:(vs.map (·.1))[j]? =some k:=by rw[aG,hx];rfl
   rw[<- e7.keys] at this;exact this
  rw[hk,aG] at Fp;cases e2:ks[j]? with
  | none=>rw[e2] at Fp;cases Fp
  | some n=>
   rw[e2] at Fp;cases Fp;have MD:l5 (Sum.inl n) v=true:=QG;rcases cN MD with⟨i,t,e3,e4⟩ | ⟨x,t,e3,e4⟩
   cases e3;exact⟨n,t,rfl,e4⟩;cases e3
 refine ar (wpAny_newList ?_ (by rw[hl];exact Iw));have ho:(h'.push (seqObj "list" eQ.toList.toArray 0)).get? h'.objs.size=some (seqObj "list" eQ.toList.toArray 0):=aM _ rfl;refine ar (wpAny_holding (wpAny_call_entry slot_list_sort ⟨_,ho,rfl⟩ entry_list_sort (TS.BH (s:= {s with heap:=h'.push (seqObj "list" eQ.toList.toArray 0),toks:=tk}) ho hI (by rw[hl];exact Iw) λout yc a1 a2 a3=>⟨_,rfl,?_⟩) (args_list_sort _)));obtain⟨ee,MN⟩:=sortedHeap_at (out:=out) ho;have I':Inv X ae σ H {s with heap:=h',toks:=tk}:=I.kept (t':=tk) VQ;refine aR ⟨_,rfl, .ref h'.objs.size,_,I'.laid (t':=tk) (o:= .lst (yc.map V.int)) (λb o hb=> ?_) (ao _) ?_,rfl,q _ yc (I'.cF.fresh (ao _)) a2 a3⟩;have kH:b<h'.objs.size:=aE hb;rw[sortedHeap_old (bg kH) (by rw[Heap.size_push];exact Nat.lt_succ_of_lt kH)];exact aq _ hb;refine⟨?_,out.toList,ee,mV a1, ⇑MN⟩;rw[ag,a2.length_eq];exact Iw
end
theorem c8.of {X:Cx}{sc scope:Scope}{N own N':List Str}{fr:List Nat}(hsc:X.env.scope=sc:=by exact rfl)(hN:X.N=N:=by exact rfl)(kind:scope.kind= .function:=by exact rfl)(names:N'=own++fr.filterMap (λj=>N[j]?):=by decide+kernel)(len:N'.length=own.length+fr.length:=by exact rfl)(nd:N'.Nodup:=by decide+kernel) (qp: ∀y∈scope.names,y.2≠ .cell:=by decide+kernel) (loc: ∀y∈scope.names,y.2= .local ->scope.names.lookup y.1=some .local:=by decide+kernel) (NU: ∀x∈fr.filterMap (λj=>N[j]?),scope.names.lookup x=some .free:=by decide+kernel) (free: ∀y∈scope.names,y.2= .free ->sc.names.lookup y.1=some .cell \/ sc.names.lookup y.1=some .free:=by decide+kernel):c8 X own fr N' scope:=by subst hN hsc;exact⟨kind,names,len,nd,qp,loc,NU,free⟩
structure gP (K:PySem.W.Frag)(mg:Str ->Option Value)(x:Str)(ps:List Str)(st:Stmt)(f:Addr)(fd:FuncData):Prop where
 at_:mg x=some (.ref f)
 fn:xP K x x st f fd
 bd:Binds K fd ps []
section
variable {X:Cx}{k:Nat}{f:Addr}{fd:FuncData}{ps:List Str}{sp:Sp}{x:Str}{st:Stmt}{p pos:Pos}{e:Expr}{es:List Expr}{t:TA}
theorem ay {j:Nat}(C:gP X.K X.mg x ps st f fd)(F:bx X.prog X.w X.K X.mg X.base eE k f fd ps sp)(hr:dG j X.A) (ha:PA X (e::es) t) (hk:k<=j:=by decide) (hg:Gl X x:=by rfl) (tf:(x==("__debug__" :Str))=false:=by decide) (he:starEach (e::es) X.env=(false,eval e X.env)::starEach es X.env:=by rfl) (mS:(backTo pos (starEach es X.env)).any (·.1)=false:=by rfl): PE X (.Call (.Name x p) (e::es) [] pos) (sF sp [] E0 t):=At F (hr.mono hk) hg C.at_ C.fn.kp C.bd .nil Au ha tf he mS
end
theorem bV {H:Hp}{p:Addr}{o:HO}(h:H p=none):fi H (cq H p o):=λb u e=>by rw[bC (d0 e h)];exact e
def aT (H H':Hp):Prop:= ∀b xs,Rd H b (.tup xs) ->Rd H' b (.tup xs)
theorem aT.refl (H:Hp):aT H H:=λ_ _ h=>h
theorem aT.trans {H H1 H2:Hp}(a:aT H H1)(b:aT H1 H2):aT H H2:=λc o h=>b c o (a c o h)
theorem fi.ts {H H':Hp}(a:fi H H'):aT H H':=λb xs h=>by rcases h with h | ⟨o,h⟩;exact .inl (a _ _ h);exact .inr ⟨o,a _ _ h⟩
inductive Rk (K:PySem.W.Frag)(H:Hp):V ->Value ->Prop where
 | of {x:V} {t:Value} (h:nJ K H x t):Rk K H x t
 | tup {a:Addr} {xs:List V} (h:lr K H a xs):Rk K H (.ref a) (.type "tuple")
 | lst {a:Addr} {xs:List V} (h:gs K H a xs):Rk K H (.ref a) (.type "list")
section
variable {X:Cx}
def Lx (K:PySem.W.Frag):List V ->Hp ->VK ->Prop:=λxs H Q=>fF λx T t b=>eu (xs= [x, .ty T]) (Rk K H x t) (PySem.W.kitOne K t (.type T)=some b) (Q (.bl b) H)
theorem F_:eN X (.builtin "isinstance") (Lx X.K):=by
 intro ae s σ H xs us Q I r h;obtain⟨x,T,t,b,rfl,ty,e,q⟩:=h;obtain⟨u,w',rfl,ru,ur⟩:=vals2 r;cases ur;cases ty with
 | of ty=>exact Cp I ru ty e λtk=>⟨.bl b,H,I.tok tk,rfl,q⟩
 | tup hs=>cases ru;obtain⟨bD,rv,⟨o,h1,h2,_⟩,_⟩:=I.tuple hs;exact bZ PySem.W.kitx_tuple I.kT ⟨o,h1,h2⟩ e (λz=>nomatch z) λtk=>⟨.bl b,H,I.tok tk,rfl,q⟩
 | lst hs=>cases ru;obtain⟨bD,rv,ht,_⟩:=I.list hs;obtain⟨o,h1,h2,_⟩:=ht.isList;exact bZ PySem.W.kitx_list I.kT ⟨o,h1,h2⟩ e (λz=>nomatch z) λtk=>⟨.bl b,H,I.tok tk,rfl,q⟩
end
end L2
namespace L2
open PySem PyProof.Rows PyProof.V PySem.Calls PySem.Spec
def gu (P:Program)(w:World):xZ:=λouter H s E e s'=>se λ(ea:Addr) (cls a0:Value) (B:Heap) (H':Hp)=>Dk (e= .ref ea) (s'.os=s.os) (AllBare s'.gens) (Heap.FlyingW B outer ea cls a0 s'.heap) (kA P w H' B) (H' ea=none) (Un (je outer) [] H H' s.heap s'.heap) (cM (∀b o,s.heap.get? b=some o ->H b=none ->b∉je outer ->B.get? b=some o) (∀b o,s.heap.get? b=some o ->b∉je outer -> ∃o',B.get? b=some o') (E cls none H'))
theorem dt.ex {P:Program}{w:World}{H:Hp}{h:Heap}{a:Addr}{o:HO}(x:dt P w H h a o): ∃u,h.get? a=some u:=by
 cases o with
 | lst xs=>obtain⟨_,_,_,_,e⟩:=x;exact⟨_,e⟩
 | tup xs=>obtain⟨_,_,_,p,e,_⟩:=x;exact⟨_,e⟩
 | dK kvs=>obtain⟨_,_,_,_,o,_,_,e,_⟩:=x;exact⟨_,e⟩
 | dT kvs=>obtain⟨_,_,_,_,o,_,_,e,_⟩:=x;exact⟨_,e⟩
 | set S n=>obtain⟨o,_,_,_,e,_⟩:=x;exact⟨_,e⟩
 | ins C dx fs=>obtain⟨_,_,_,e,_⟩:=x;exact⟨_,e⟩
 | own y=>exact x
 | xd fs=>obtain⟨_,⟨_,_,_,e,_⟩,_⟩:=x;exact⟨_,e⟩
 | Sn lo hi=>obtain⟨_,_,_,e⟩:=x;exact⟨_,e⟩
 | jd ob u=>obtain⟨e,_⟩:=x;exact⟨_,e⟩
 | Ha ps=>exact⟨_,(show h.get? a=some _ from x)⟩
 | met f y=>exact⟨_,(show h.get? a=some _ from x)⟩
 | ext φ=>obtain⟨_,e,_⟩:=x;exact e
section
variable {X:Cx}{ae:List (Addr×Obj)}{σ:St}{H H':Hp}{s s':Shared}
theorem Inv.HK (I:Inv X ae σ H s){b:Addr}{o:Obj}(e:X.s₀.heap.get? b=some o)(n:b∉X.fs):b∉je X.stack:=λz=>by rcases aS.mp (I.uf b z) with q | q;have h1:=aE e;have h2:=I.ok.above;rw[q] at h1;exact absurd h1 (Nat.not_lt.mpr h2);exact n q
theorem pW {outer:List Env}{H₀:Hp}{h0 h h' B:Heap}{base:Heap}(ff:h.FunFrames base outer)(hF: ∀b∈je outer,H₀ b=none)(u:Un (je outer) [] H₀ H' h0 h)(st:B.StaysIn h')(up:h.UpToSlots h') (kb: ∀b o,h0.get? b=some o ->H₀ b=none ->b∉je outer ->B.get? b=some o) (kt: ∀b o,h0.get? b=some o ->b∉je outer -> ∃o',B.get? b=some o'):Un (je outer) [] H₀ H' h0 h' where
 keep b o e n hb _:=st b o (kb b o e n hb)
 slot b o e n hb hx:=by obtain⟨sl,e1⟩:=u.slot b o e n hb hx;obtain⟨_,o2,e2,QA⟩:=ff.mem hb;rw[e1] at e2;cases e2;obtain⟨Ux,e3⟩:=up b _ e1 QA;exact⟨Ux,e3⟩
 free:=u.free
 there b o e hx:=by by_cases hb:b∈je outer;obtain⟨sl,e1⟩:=u.slot b o e (hF b hb) hb hx;obtain⟨_,o2,e2,QA⟩:=ff.mem hb;rw[e1] at e2;cases e2;obtain⟨Ux,e3⟩:=up b _ e1 QA;exact⟨_,e3⟩;obtain⟨o',e'⟩:=kt b o e hb;exact⟨o',st _ _ e'⟩
 ly:=u.ly
 kI:=u.kI
 mX:=u.mX
theorem yD {P:Program}{w:World}{K:PySem.W.Frag}{mg:Str ->Option Value}{base:Heap}{N:List Str}{qual:Str}{scope:Scope}{f:Addr}{cd:Value}{A:Around}{outer:List Env}{s:Shared}{H:Hp}{E:XK}: fN (gu P w) (d4 (gu P w) P w K mg base N qual scope f cd A outer s H E) E:=by
 intro ae σ H1 s1 e s' I hf;obtain⟨ea,cls,a0,B,H',rfl,os,bare,fl,cF,s_,un,kb,kt,hE⟩:=hf;have I':=I.Gb (ch:= []) os un (cF.kept fl.1) bare (λb z=>absurd z (by simp));show wpAny _ _ (leaving _ (.ref ea)) _ _ s';refine wpAny_leaves_onW I.ok.frames rfl fl λh' fl' up=> ?_;have hex:(d4 (gu P w) P w K mg base N qual scope f cd A outer s H E).ex= []:=rfl;have kb': ∀b o,s.heap.get? b=some o ->H b=none ->b∉je outer ->B.get? b=some o:=λb o e n hb=>kb b o (I.base.keep b o e n hb (λz=>absurd z (by simp[hex]))) (I.base.free b o e n (λz=>absurd z (by simp[hex]))) (I.HK e hb);have kt': ∀b o,s.heap.get? b=some o ->b∉je outer -> ∃o',B.get? b=some o':=λb o e hb=>by obtain⟨o1,e1⟩:=I.base.there b o e (λz=>absurd z (by simp[hex]));exact kt b o1 e1 (I.HK e hb)
 exact⟨ea,cls,a0,B,H',rfl,os.trans I.os,bare,fl',cF,s_,pW I'.ll I.ok.GX I'.base fl'.1 up kb' kt',kb',kt',hE⟩
theorem Fz {P:Program}{w:World}{M:Model}{E':Value ->Shared ->Prop}{E:XK}{h':Heap}{e:Addr}{cls:Value}{vs:List Value}(hP:X.prog=P)(hw:X.w=w)(I:Inv X ae σ H s)(vp:X.stack=X.env::X.outer)(GV:X.env.frame=some X.env.locals)(hex:X.ex= []) (mk:Heap.MadeExcOf s.heap h' e cls vs) (hE:E cls none H): wpAny M X.A (leaving X.env (.ref e)) (λ_ s2=>gu P w X.outer X.H₀ X.s₀ E (.ref e) s2) E' {s with heap:=h'}:=by
 subst hP hw;have Ka: ∀b:Addr,b∉X.ex:=λb z=>by rw[hex] at z;exact absurd z (by simp)
 have Lm:=I.stack;have za: ∀env∈X.stack, ∀b,env.frame=some b ->b∈je X.stack:=λenv he b hb=>List.mem_filterMap.mpr ⟨env,he,hb⟩;have hB:kA X.prog X.w H (PySem.W.hideAll s.heap (je X.stack)):=λa o ea=>(I.cF a o ea).p8 (λb u hb q=>PySem.W.hideAll_get _ q λhm=>by have:=I.pC b hm;rcases hb with rfl | hb;rw[ea] at this;cases this;rw[hb] at this;cases this) (λ_ q=>q) λ_ _ q=>q;have s_:H e=none:=by
  cases q:H e with
  | none=>rfl
  | some o=>obtain⟨u,hu⟩:=(I.cF e o q).ex;rw[mk.new] at hu;cases hu
 have kb: ∀b o,X.s₀.heap.get? b=some o ->X.H₀ b=none ->b∉je X.outer ->(PySem.W.hideAll s.heap (je X.stack)).get? b=some o:=λb o e n hb=>PySem.W.hideAll_get _ (I.base.keep b o e n hb (Ka b)) (I.HK e hb);have kt: ∀b o,X.s₀.heap.get? b=some o ->b∉je X.outer -> ∃o',(PySem.W.hideAll s.heap (je X.stack)).get? b=some o':=λb o e hb=>by obtain⟨o1,e1⟩:=I.base.there b o e (Ka b);exact⟨o1,PySem.W.hideAll_get _ e1 (I.HK e hb)⟩
 have SW:s.heap.FunFrames (PySem.W.hideAll s.heap (je X.stack)) (X.env::X.outer):=by have:=PySem.W.funFrames_hide Lm za;rw[vp] at this ⊢;exact this
 refine wpAny_leaves_madeW (by rw[I.ok.frames,vp]) GV (λb o q=>PySem.W.of_hideAll _ q) SW mk λh2 t fl tu _ up=> ?_;have up':s.heap.UpToSlots h2:=(Heap.UpToSlots.of_keeps mk.keeps).trans up;have u0:Un (je X.outer) [] X.H₀ H X.s₀.heap s.heap:=by have:=I.base;rw[hex] at this;exact this
 exact⟨e,cls, .ref t,_,H,rfl,I.os,I.bare,fl,hB,s_,pW I.ll I.ok.GX u0 fl.1 up' kb kt,kb,kt,hE⟩
def Bs (X:Cx)(E:XK):Prop:= ∀ (ae:List (Addr×Obj)) (σ:St) (H:Hp) (s:Shared) (h':Heap) (e:Addr) (cls:Value) (vs:List Value),Inv X ae σ H s ->Heap.MadeExcOf s.heap h' e cls vs ->E cls none H ->X.xe (.ref e) {s with heap:=h'}
theorem FA {P:Program}{w:World}{K:PySem.W.Frag}{mg:Str ->Option Value}{base:Heap}{N:List Str}{qual:Str}{scope:Scope}{f:Addr}{cd:Value}{A:Around}{outer:List Env}{s:Shared}{H:Hp}{E:XK}: Bs (d4 (gu P w) P w K mg base N qual scope f cd A outer s H E) E:=λae σ H1 s1 h' e cls vs I mk hE=>Fz (P:=P) (w:=w) rfl rfl I rfl rfl rfl mk hE
abbrev Q7:List Value:= [.type "ValueError", .type "Exception", .type "BaseException", .type "object"]
def yo (C:Addr)(E:XK)(t:TA):TS:=λ_ σ H=>t σ H λvs H1=>vs.length<=sizeLine /\ E (.ref C) none H1
theorem Ev {E:XK}{x:Str}{C:Addr}{np c9 pos:Pos}{e₀:Expr}{dh:List Expr}{t:TA}(hF:Bs X E)(hc:X.calm=true)(hg:Gl X x)(O:PyProof.Rows.OwnCls x C Q7 "ValueError.__new__" X.mg X.base)(ha:PA X (e₀::dh) t) (tf:(x==("__debug__" :Str))=false:=by decide) (he:starEach (e₀::dh) X.env=(false,eval e₀ X.env)::starEach dh X.env:=by rfl) (mS:(backTo c9 (starEach dh X.env)).any (·.1)=false:=by rfl): PS X (.Raise (some (.Call (.Name x np) (e₀::dh) [] c9)) none pos) (yo C E t):=by intro ae s σ H D I h;obtain⟨tl,N,nm,q,bs,hdct,sn,sub,ab,col,dd,k0,k1,k2,k3,k5,mN,hC,hN,Qz,T⟩:=O.obj;refine wpAny_Raise_call_subU (C:=C) (nm:=nm) (q:=q) (N:=N) (bs:=bs) (bm:=tl) (hdct:=hdct) (sn:=sn) (sub:=sub) (ab:=ab) (col:=col) (dd:=dd) (k0:=k0) (k1:=k1) (k2:=k2) (k3:=k3) (k5:=k5) PySem.F.excBase_ValueError (bmB:=Q7) (by decide+kernel) PySem.F.excBase_ValueError (mN:=mN) (T.hasType PySem.F.excBase_ValueError.hasBase) (I.ok.hd hc) (by rw[he];show(false || (backTo c9 (starEach dh X.env)).any (·.1))=false;rw[mS];rfl) Qz (lW I hg O.bound ⟨rfl,?_⟩ tf);have h2:=ha c9 ae s σ H _ I h;rw[he] at h2 ⊢;exact Calls.evalArgs_plain (cz h2 λus s2 ⟨vs,H1,I1,r,z,hE⟩=>⟨rfl,by rw[<- r.length];exact z,I1.bk _ _ hC,hN.keeps I1.bk,T.keeps I1.bk,λh' e mk=>hF ae σ H1 s2 h' e (.ref C) us I1 mk hE⟩)
end
def fS (a C:Addr)(h:Heap):Prop:= ∃o,h.get? a=some o /\ o.cls= .ref C
abbrev Cx.om (X:Cx)(e:Value):Cx:= {X with A:=X.A.mark (some e),calm:=false,xe:=λ_ _=>False}
section
variable {X:Cx}{ae:List (Addr×Obj)}{σ:St}{H H':Hp}{s s':Shared}
theorem Cx.Ok.om (ok:X.Ok)(e:Value):(X.om e).Ok:=⟨ok.mod,ok.kind,ok.glob,ok.blt,ok.above,ok.inj,ok.has,ok.NV,(λz=>nomatch z),ok.frames,ok.Lm,ok.exf,ok.bs,ok.Gc,ok.Ca,ok.zh,ok.ll,ok.GX⟩
theorem Inv.om (I:Inv X ae σ H s)(e:Value):Inv (X.om e) ae σ H s:=⟨I.ok.om e,I.os,I.bare,I.base,I.loc,I.cell,I.free,I.fB,I.pin,I.cF,I.len⟩
theorem Inv.uF {e:Value}(ok:X.Ok)(I:Inv (X.om e) ae σ H s):Inv X ae σ H s:=⟨ok,I.os,I.bare,I.base,I.loc,I.cell,I.free,I.fB,I.pin,I.cF,I.len⟩
theorem qz {H1:Hp}{s1:Shared}{B h5:Heap}{ea C:Addr}{a0:Value}(I:Inv X ae σ H1 s1)(os:s'.os=s1.os)(bare:AllBare s'.gens)(fl:Heap.FlyingW B X.stack ea (.ref C) a0 s'.heap)(cF:kA X.prog X.w H' B)(s_:H' ea=none) (un:Un (je X.stack) [] H1 H' s1.heap s'.heap) (kb: ∀b o,s1.heap.get? b=some o ->H1 b=none ->b∉je X.stack ->B.get? b=some o) (kt: ∀b o,s1.heap.get? b=some o ->b∉je X.stack -> ∃o',B.get? b=some o') (fl5:Heap.FlyingW B X.stack ea (.ref C) a0 h5) (up:s'.heap.UpToSlots h5) {tk:Nat}:Inv X ae σ (cq H' ea (.ext (fS ea C))) {s' with heap:=h5,toks:=tk} /\ aT H1 (cq H' ea (.ext (fS ea C))):=by
 have new: ∀b o,s1.heap.get? b=some o ->b≠ea:=λb o e z=>by subst z;by_cases hb:b∈je X.stack;obtain⟨_,o2,e2,QA⟩:=fl.2.2.1.mem hb;obtain⟨oe,vs,e3,_,hd,_⟩:=fl.first;rw[e2] at e3;cases e3;exact QA vs hd;obtain⟨o',e'⟩:=kt b o e hb;rw[fl.2.1] at e';cases e'
 have u5:=pW fl.2.2.1 I.pC un fl5.1 up kb kt;have wR: ∀b o,H' b=some o ->cq H' ea (.ext (fS ea C)) b=some o:=λb o e=>by rw[bC (d0 e s_)];exact e
 have u6:Un (je X.stack) [] H1 (cq H' ea (.ext (fS ea C))) s1.heap h5:=⟨u5.keep,u5.slot,λb o e n hx=>by rw[bC (new b o e)];exact u5.free b o e n hx,u5.there,λb xs e=>wR _ _ (u5.ly b xs e),λb o u e=>wR _ _ (u5.kI b o u e),λb ps e=>let ⟨m,z⟩:=u5.mX b ps e;⟨m,wR _ _ z⟩⟩
 have VB:kA X.prog X.w (cq H' ea (.ext (fS ea C))) h5:=λb o e=>by by_cases hb:b=ea;subst hb;rw[bI] at e;cases e;obtain⟨oe,vs,e3,hc,_⟩:=fl5.first;exact⟨⟨oe,e3,hc⟩,⟨oe,e3⟩,λh1 h2 ⟨o,e,c⟩ k=>⟨o,k o e,c⟩⟩;rw[bC hb] at e;exact(cF b o e).p8 (λc u _ q=>fl5.1 c u q) (λc q=>wR _ _ q) λc xs q=>wR _ _ q
 refine⟨I.Gb (s':= {s' with heap:=h5,toks:=tk}) (ch:= []) os u6 VB bare (λb z=>absurd z (by simp)),λb xs r=> ?_⟩;rcases r with r | ⟨w,r⟩;exact .inl (u6.ly _ _ r);exact .inr ⟨w,u6.kI _ _ _ r⟩
theorem HP {M:Model}{A:Around}{E:Value ->Shared ->Prop}{x:Str}{u:Value}{pos:Pos}{Q:Value ->Shared ->Prop}(I:Inv X ae σ H s)(hg:Gl X x)(hm:X.mg x=some u)(h:Q u s) (hd:(x==("__debug__" :Str))=false:=by decide):wpAny M A (eval (.Name x pos) X.env) Q E s:=Calls.Name_function_global I.ok.kind hg (Calls.loadGlobal_global (by rw[I.ok.glob];exact I.mod.glob.keeps I.bk) hm h) hd
end
end L2
namespace L2
open PySem PyProof.Rows PyProof.V PySem.Calls PySem.Spec PySem.W PySem.Builtin PySem.Builtin.ObjectAttr PySem.Builtin.Getset_descriptor
section
variable {prog:Program}{w:World}{A:Around}{E:Value ->Shared ->Prop}{K:PySem.W.Frag}{hh:Heap}{g:Array GenState}{d:Drawn}{t:Nat}{os:OsState}{a C:Addr}{o:Obj}
theorem MU {M:Model}(hx:hh.get? a=some o)(hc:o.cls= .ref C):Looks M hh (typeOf (.ref a)) (.ref C):=hc▸ (Looks.ld hx).andThen .now
end
end L2
namespace L2
open PySem PyProof.Rows PyProof.V PySem.Calls PySem.Spec PySem.W
structure Ry (K:PySem.W.Frag)(C:Addr):Prop where
 cls:(clsIn K C).isSome=true
 ga:findIn K (.ref C) "__getattribute__" =some (some (.builtin "BaseException.__getattribute__"))
 gn:findIn K (.ref C) "__getattr__" =some none
 cl:findIn K (.ref C) "__class__" =some (some (.builtin "object.__class__"))
 mo:mroIn K C (.type "object")=some true
 mb:mroIn K C (.type "BaseException")=some true
end L2
namespace WL
open PySem L2
set_option genInjectivity true in
inductive W where
 | v (x:V) | tup (l:List W)
set_option genInjectivity true in
inductive MO where
 | lst (l:List W) | dK (kvs:List (b8×W)) | ins (C dx:Addr) (fs:List (Str×W)) | exc (C:Addr) | fz (o:Obj) (ks:List (b8×V)) (kvs:List (b8×W))
abbrev Mp:=Addr ->Option MO
abbrev cS:=List (Option W)
abbrev WK:=W ->Mp ->Prop
abbrev WE:=cS ->Mp ->WK ->Prop
abbrev WT:=cS ->Mp ->(Bool ->Mp ->Prop) ->Prop
abbrev WA:=cS ->Mp ->(List W ->Mp ->Prop) ->Prop
abbrev WG:=W ->cS ->Mp ->(cS ->Mp ->Prop) ->Prop
abbrev Ja:=List W ->cS ->Mp ->(cS ->Mp ->Prop) ->Prop
abbrev oR:=W ->W ->Mp ->WK ->Prop
abbrev zr:=List W ->Mp ->WK ->Prop
abbrev WI:=cS ->Mp ->(List W ->(Mp ->Prop) ->Mp ->Prop) ->Prop
structure eZ where
 nx:cS ->Mp ->Prop
 rt:WK
 bk:cS ->Mp ->Prop:=λ_ _=>False
 ct:cS ->Mp ->Prop:=λ_ _=>False
abbrev WS:=eZ ->cS ->Mp ->Prop
@[reducible] def wi (i:Int):W:= .v (.int i)
@[reducible] def wb (b:Bool):W:= .v (.bl b)
@[reducible] def wr (a:Addr):W:= .v (.ref a)
@[reducible] def ws (x:Str):W:= .v (.str x)
@[reducible] def wn:W:= .v .dC
def um (M:Mp)(a:Addr)(o:MO):Mp:=λb=>if b=a then some o else M b
theorem au {M:Mp}{a:Addr}{o:MO}:um M a o a=some o:=by unfold um;rw[ak rfl]
theorem aN {M:Mp}{a b:Addr}{o:MO}(h:b≠a):um M a o b=M b:=by unfold um;rw[aj h]
theorem kN {M:Mp}{a:Addr}{o u:MO}:um (um M a o) a u=um M a u:=by funext b;unfold um;split<;>rfl
theorem cb {M:Mp}{a b:Addr}{o:MO}(h:M a=some o)(h':M b=none):a≠b:=by intro e;subst e;rw[h] at h';cases h'
def Sm (M M':Mp):Prop:= ∀b o,M b=some o ->M' b=some o
theorem Sm.refl (M:Mp):Sm M M:=λ_ _ h=>h
theorem Sm.trans {M M1 M2:Mp}(a:Sm M M1)(b:Sm M1 M2):Sm M M2:=λc o h=>b c o (a c o h)
theorem Sm.free {M M':Mp}{p:Addr}(a:Sm M M')(h:M' p=none):M p=none:=by
 cases e:M p with
 | none=>rfl
 | some o=>rw[a p o e] at h;cases h
theorem bB {M:Mp}{p:Addr}{o:MO}(h:M p=none):Sm M (um M p o):=λb u e=>by rw[aN (cb e h)];exact e
theorem Sm.um {M M':Mp}{p:Addr}{o:MO}(a:Sm M M')(h:M p=none):Sm M (um M' p o):=λb u e=>by rw[aN (cb e h)];exact a b u e
mutual
def WR (K:PySem.W.Frag)(H:Hp):W ->V ->Prop
 | .v x,v=>v=x
 | .tup l,v=>ca λa vs=>cM (v= .ref a) (lr K H a vs) (cy K H l vs)
def cy (K:PySem.W.Frag)(H:Hp):List W ->List V ->Prop
 | [],vs=>vs= []
 | x::r,vs=>ca λv t=>cM (vs=v::t) (WR K H x v) (cy K H r t)
end
mutual
theorem WR.ts {K:PySem.W.Frag}{H H':Hp}(a:aT H H'): ∀ (x:W) (v:V),WR K H x v ->WR K H' x v
 | .v x,v,h=>by simp only[WR] at h ⊢;exact h
 | .tup l,v,h=>by simp only[WR] at h ⊢;obtain⟨p,vs,e,hs,hr⟩:=h;exact⟨p,vs,e,Un.sqT a hs,cy.ts a l vs hr⟩
theorem cy.ts {K:PySem.W.Frag}{H H':Hp}(a:aT H H'): ∀ (l:List W) (vs:List V),cy K H l vs ->cy K H' l vs
 | [],vs,h=>by simp only[cy] at h ⊢;exact h
 | x::r,vs,h=>by simp only[cy] at h ⊢;obtain⟨v,t,e,h1,h2⟩:=h;exact⟨v,t,e,WR.ts a x v h1,cy.ts a r t h2⟩
end
theorem cy.length {K:PySem.W.Frag}{H:Hp}: ∀ {l:List W} {vs:List V},cy K H l vs ->vs.length=l.length
 | [],_,h=>by simp only[cy] at h;subst h;rfl
 | d::r,vs,h=>by simp only[cy] at h;obtain⟨v,t,rfl,_,h⟩:=h;simp[cy.length h]
theorem cy.at {K:PySem.W.Frag}{H:Hp}: ∀ {l:List W} {vs:List V} {j:Nat} {d:W},cy K H l vs ->l[j]? =some d -> ∃v,vs[j]? =some v /\ WR K H d v
 | [],_,_,_,_,e=>by simp at e
 | d::r,vs,j,d',h,e=>by
  simp only[cy] at h;obtain⟨v,t,rfl,h1,h⟩:=h;cases j with
  | zero=>simp at e;subst e;exact⟨v,rfl,h1⟩
  | succ j=>simpa using cy.at (j:=j) h ⇑e
theorem cy.mk {K:PySem.W.Frag}{H:Hp}: ∀ {l:List W} {vs:List V},vs.length=l.length ->(∀ (j:Nat) d v,l[j]? =some d ->vs[j]? =some v ->WR K H d v) ->cy K H l vs
 | [],vs,h,_=>by simp only[cy];exact List.length_eq_zero_iff.mp h
 | d::r,[],h,_=>by simp at h
 | d::r,v::vs,h,k=>by simp only[cy];exact⟨v,vs,rfl,k 0 d v rfl rfl,cy.mk ⇑h λj x u e1 e2=>k (j+1) x u ⇑e1 ⇑e2⟩
theorem cy.back {K:PySem.W.Frag}{H:Hp}{l:List W}{vs:List V}{j:Nat}{v:V}(h:cy K H l vs)(e:vs[j]? =some v): ∃d,l[j]? =some d /\ WR K H d v:=by
 have hl:=h.length;have hj:j<l.length:=by have:=(a5.mp e).1;lia
 obtain⟨u,hu,r⟩:=h.at (j:=j) (d:=l[j]) (aD hj);rw[e] at hu;cases hu;exact⟨_,aD hj,r⟩
theorem cy.snoc {K:PySem.W.Frag}{H:Hp}{l:List W}{vs:List V}{d:W}{v:V}(h:cy K H l vs)(hr:WR K H d v):cy K H (l++ [d]) (vs++ [v]):=by
 have hl:=h.length;refine cy.mk (by simp[hl]) λj x u e1 e2=> ?_;by_cases hj:j<l.length;rw[aW hj] at e1;rw[aW ∅] at e2;obtain⟨w,hw,r⟩:=h.at e1;rw[e2] at hw;cases hw;exact r;rw[aU ∅] at e1;rw[aU ∅,hl] at e2;cases hk:j - l.length with
 | zero=>rw[hk] at e1 e2;simp at e1 e2;subst e1 e2;exact hr
 | succ k=>rw[hk] at e1;simp at e1
theorem cy.append {K:PySem.W.Frag}{H:Hp}{l m:List W}{vs us:List V}(h:cy K H l vs)(h':cy K H m us):cy K H (l++m) (vs++us):=by have hl:=h.length;have oq:=h'.length;refine cy.mk (by simp[hl,oq]) λj x u e1 e2=> ?_;by_cases hj:j<l.length;rw[aW hj] at e1;rw[aW ∅] at e2;obtain⟨w,hw,r⟩:=h.at e1;rw[e2] at hw;cases hw;exact r;rw[aU ∅] at e1;rw[aU ∅,hl] at e2;obtain⟨w,hw,r⟩:=h'.at e1;rw[e2] at hw;cases hw;exact r
theorem cy.drop {K:PySem.W.Frag}{H:Hp}{l:List W}{vs:List V}(n:Nat)(h:cy K H l vs):cy K H (l.drop n) (vs.drop n):=by refine cy.mk (by simp[h.length]) λj x u e1 e2=> ?_;rw[List.getElem?_drop] at e1 e2;obtain⟨w,hw,r⟩:=h.at e1;rw[e2] at hw;cases hw;exact r
theorem cy.take {K:PySem.W.Frag}{H:Hp}{l:List W}{vs:List V}(n:Nat)(h:cy K H l vs):cy K H (l.take n) (vs.take n):=by refine cy.mk (by simp[h.length]) λj x u e1 e2=> ?_;rw[List.getElem?_take] at e1 e2;split at e1;rename_i hj;rw[ak hj] at e2;obtain⟨w,hw,r⟩:=h.at e1;rw[e2] at hw;cases hw;exact r;cases e1
theorem cy.set {K:PySem.W.Frag}{H:Hp}{l:List W}{vs:List V}(n:Nat){d:W}{v:V}(h:cy K H l vs)(hr:WR K H d v):cy K H (l.set n d) (vs.set n v):=by have hl:=h.length;refine cy.mk (by simp[h.length]) λj x u e1 e2=> ?_;rw[List.getElem?_set] at e1 e2;split at e1;rename_i hj;rw[ak hj] at e2;split at e1;split at e2;cases e1;cases e2;exact hr;cases e2;cases e1;rename_i hj;rw[aj hj] at e2;obtain⟨w,hw,r⟩:=h.at e1;rw[e2] at hw;cases hw;exact r
theorem cy.nil {K:PySem.W.Frag}{H:Hp}:cy K H [] []:=by simp only[cy]
theorem cy.cons {K:PySem.W.Frag}{H:Hp}{x:W}{v:V}{l:List W}{vs:List V}(h:WR K H x v)(r:cy K H l vs):cy K H (x::l) (v::vs):=by simp only[cy];exact⟨v,vs,rfl,h,r⟩
theorem WR.v {K:PySem.W.Frag}{H:Hp}{x:V}:WR K H (.v x) x:=by simp only[WR]
theorem WR.eq {K:PySem.W.Frag}{H:Hp}{x v:V}(h:WR K H (.v x) v):v=x:=by simpa only[WR] using h
theorem WR.tup {K:PySem.W.Frag}{H:Hp}{l:List W}{v:V}(h:WR K H (.tup l) v):ca λa vs=>cM (v= .ref a) (lr K H a vs) (cy K H l vs):=by simpa only[WR] using h
theorem WR.SE {K:PySem.W.Frag}{H:Hp}{l:List W}{a:Addr}{vs:List V}(h:lr K H a vs)(r:cy K H l vs):WR K H (.tup l) (.ref a):=by simp only[WR];exact⟨a,vs,rfl,h,r⟩
def KR (K:PySem.W.Frag)(H:Hp){κ:Type}:List (κ×W) ->List (κ×V) ->Prop:=Paired λp q=>p.1=q.1 /\ WR K H p.2 q.2
theorem KR.ts {K:PySem.W.Frag}{H H':Hp}{κ:Type}(a:aT H H'): ∀ {l:List (κ×W)} {vs:List (κ×V)},KR K H l vs ->KR K H' l vs
 | _,_, .nil=> .nil
 | _,_, .cons ⟨e,r⟩ t=> .cons ⟨e,r.ts a⟩ (KR.ts a t)
def MR (K:PySem.W.Frag)(H:Hp)(a:Addr):MO ->Prop
 | .lst l=> ∃vs,H a=some (.lst vs) /\ cy K H l vs
 | .dK kvs=> ∃ks,H a=some (.dK ks) /\ KR K H kvs ks
 | .ins C dx fs=> ∃ks,H a=some (.ins C dx ks) /\ KR K H fs ks
 | .exc C=>H a=some (.ext (fS a C))
 | .fz o ks kvs=>H a=some (.jd o (.dK ks)) /\ KR K H kvs ks
theorem MR.some {K:PySem.W.Frag}{H:Hp}{a:Addr}{o:MO}(h:MR K H a o): ∃u,H a=some u:=by
 cases o with
 | lst l=>obtain⟨_,e,_⟩:=h;exact⟨_,e⟩
 | dK l=>obtain⟨_,e,_⟩:=h;exact⟨_,e⟩
 | ins C d l=>obtain⟨_,e,_⟩:=h;exact⟨_,e⟩
 | exc C=>exact⟨_,h⟩
 | fz o l l2=>exact⟨_,h.1⟩
theorem MR.mv {K:PySem.W.Frag}{H H':Hp}{a:Addr}{o:MO}(t:aT H H')(e:H' a=H a)(h:MR K H a o):MR K H' a o:=by
 cases o with
 | lst l=>obtain⟨vs,e1,r⟩:=h;exact⟨vs,e.trans e1,r.ts t⟩
 | dK l=>obtain⟨vs,e1,r⟩:=h;exact⟨vs,e.trans e1,r.ts t⟩
 | ins C d l=>obtain⟨vs,e1,r⟩:=h;exact⟨vs,e.trans e1,r.ts t⟩
 | exc C=>exact e.trans h
 | fz o l l2=>exact⟨e.trans h.1,h.2.ts t⟩
def e_ (K:PySem.W.Frag)(M:Mp)(H:Hp):Prop:= ∀a o,M a=some o ->MR K H a o
theorem e_.fresh {K:PySem.W.Frag}{M:Mp}{H:Hp}(h:e_ K M H){p:Addr}(hp:H p=none):M p=none:=by
 cases e:M p with
 | none=>rfl
 | some o=>obtain⟨u,hu⟩:=(h p o e).some;rw[hp] at hu;cases hu
theorem e_.new {K:PySem.W.Frag}{M:Mp}{H:Hp}(h:e_ K M H){p:Addr}{u:HO}(hp:H p=none):e_ K M (cq H p u):=λa o e=>by have:=h a o e;obtain⟨w,hw⟩:=this.some;exact this.mv (L2.fi.ts (bV hp)) (bC (d0 hw hp))
theorem zR {H:Hp}{a:Addr}{o u:HO}(h:H a=some o)(hn: ∀xs,o≠ .tup xs)(hf: ∀b xs,o≠ .jd b (.tup xs)):aT H (cq H a u):=λb xs r=>by
 have nb:b≠a:=λe=>by subst e;rcases r with r | ⟨w,r⟩;rw[h] at r;cases r;exact hn _ rfl;rw[h] at r;cases r;exact hf _ _ rfl
 unfold Rd;rw[bC nb];exact r
theorem e_.put {K:PySem.W.Frag}{M:Mp}{H:Hp}(h:e_ K M H){a:Addr}{o:MO}{u:HO}(t:aT H (cq H a u))(new:MR K (cq H a u) a o):e_ K (um M a o) (cq H a u):=λb x e=>by by_cases hb:b=a;subst hb;rw[au] at e;cases e;exact new;rw[aN hb] at e;exact(h b x e).mv t (bC hb)
theorem e_.wE {K:PySem.W.Frag}{M:Mp}{H:Hp}(h:e_ K M H){p:Addr}{l:List W}{vs:List V}(hp:H p=none)(r:cy K H l vs):e_ K (um M p (.lst l)) (cq H p (.lst vs)):=h.put (L2.fi.ts (bV hp)) ⟨vs,bI,r.ts (L2.fi.ts (bV hp))⟩
theorem iA {H:Hp}{a:Addr}{xs:List V}{u:HO}(h:H a=some (.lst xs)):aT H (cq H a u):=zR h (λ_ z=>nomatch z) λ_ _ z=>nomatch z
theorem jg {H:Hp}{a:Addr}{xs:List (b8×V)}{u:HO}(h:H a=some (.dK xs)):aT H (cq H a u):=zR h (λ_ z=>nomatch z) λ_ _ z=>nomatch z
theorem Le {H:Hp}{a C d:Addr}{xs:List (Str×V)}{u:HO}(h:H a=some (.ins C d xs)):aT H (cq H a u):=zR h (λ_ z=>nomatch z) λ_ _ z=>nomatch z
theorem e_.putL {K:PySem.W.Frag}{M:Mp}{H:Hp}(h:e_ K M H){a:Addr}{xs:List V}{l:List W}{vs:List V}(e:H a=some (.lst xs))(r:cy K H l vs):e_ K (um M a (.lst l)) (cq H a (.lst vs)):=h.put (iA e) ⟨vs,bI,r.ts (iA e)⟩
theorem e_.putD {K:PySem.W.Frag}{M:Mp}{H:Hp}(h:e_ K M H){a:Addr}{xs:List (b8×V)}{l:List (b8×W)}{vs:List (b8×V)}(e:H a=some (.dK xs))(r:KR K H l vs):e_ K (um M a (.dK l)) (cq H a (.dK vs)):=h.put (jg e) ⟨vs,bI,KR.ts (jg e) r⟩
def G1 (K:PySem.W.Frag)(H:Hp)(ρ:cS)(σ:St):Prop:=ρ.length=σ.length /\ ∀ (i:Nat) x,ρ[i]? =some (some x) -> ∃v,σ[i]? =some (some v) /\ WR K H x v
theorem G1.ts {K:PySem.W.Frag}{H H':Hp}{ρ:cS}{σ:St}(t:aT H H')(h:G1 K H ρ σ):G1 K H' ρ σ:=⟨h.1,λi x e=>let ⟨v,a,r⟩:=h.2 i x e;⟨v,a,r.ts t⟩⟩
structure Ok (K:PySem.W.Frag)(ρ:cS)(M:Mp)(σ:St)(H:Hp):Prop where
 env:G1 K H ρ σ
 hp:e_ K M H
theorem Ok.mv {K:PySem.W.Frag}{ρ:cS}{M M':Mp}{σ:St}{H H':Hp}(o:Ok K ρ M σ H)(t:aT H H')(m:e_ K M' H'):Ok K ρ M' σ H':=⟨o.env.ts t,m⟩
theorem G1.set {K:PySem.W.Frag}{H:Hp}{ρ:cS}{σ:St}(h:G1 K H ρ σ)(i:Nat){x:W}{v:V}(r:WR K H x v):G1 K H (ρ.set i (some x)) (σ.set i (some v)):=by refine⟨by simp[h.1],λj y e=> ?_⟩;rw[List.getElem?_set] at e ⊢;split at e;rename_i hj;rw[ak hj];split at e;rename_i kH;rw[ak (by rw[<- h.1];exact kH)];cases e;exact⟨v,rfl,r⟩;cases e;rename_i hj;rw[aj hj];exact h.2 j y e
section
variable (K:PySem.W.Frag)
class IE (t:TE) (w:outParam WE):Prop where
 imp: ∀ (ρ:cS) (M:Mp) (σ:St) (H:Hp) (q:WK) (Q:VK),Ok K ρ M σ H ->w ρ M q ->(∀x M' v H',q x M' ->aT H H' ->e_ K M' H' ->WR K H' x v ->Q v H') ->t σ H Q
class IT (t:TT) (w:outParam WT):Prop where
 imp: ∀ (ρ:cS) (M:Mp) (σ:St) (H:Hp) (q:Bool ->Mp ->Prop) (Q:Bool ->Hp ->Prop),Ok K ρ M σ H ->w ρ M q ->(∀b M' H',q b M' ->aT H H' ->e_ K M' H' ->Q b H') ->t σ H Q
class IA (t:TA) (w:outParam WA):Prop where
 imp: ∀ (ρ:cS) (M:Mp) (σ:St) (H:Hp) (q:List W ->Mp ->Prop) (Q:List V ->Hp ->Prop),Ok K ρ M σ H ->w ρ M q ->(∀x M' v H',q x M' ->aT H H' ->e_ K M' H' ->cy K H' x v ->Q v H') ->t σ H Q
class IG (t:TG) (w:outParam WG):Prop where
 imp: ∀ (x:W) (v:V) (ρ:cS) (M:Mp) (σ:St) (H:Hp) (q:cS ->Mp ->Prop) (Q:St ->Hp ->Prop),Ok K ρ M σ H ->WR K H x v ->w x ρ M q ->(∀ρ' M' σ' H',q ρ' M' ->aT H H' ->Ok K ρ' M' σ' H' ->Q σ' H') ->t v σ H Q
class Tg (t:G2) (w:outParam Ja):Prop where
 imp: ∀ (x:List W) (v:List V) (ρ:cS) (M:Mp) (σ:St) (H:Hp) (q:cS ->Mp ->Prop) (Q:St ->Hp ->Prop),Ok K ρ M σ H ->cy K H x v ->w x ρ M q ->(∀ρ' M' σ' H',q ρ' M' ->aT H H' ->Ok K ρ' M' σ' H' ->Q σ' H') ->t v σ H Q
structure kg (H:Hp)(D':eZ)(D:rA):Prop where
 nx: ∀ρ' M' σ' H',D'.nx ρ' M' ->aT H H' ->Ok K ρ' M' σ' H' ->D.nx σ' H'
 rt: ∀x M' v H',D'.rt x M' ->aT H H' ->e_ K M' H' ->WR K H' x v ->D.rt v H'
 bk: ∀ρ' M' σ' H',D'.bk ρ' M' ->aT H H' ->Ok K ρ' M' σ' H' ->D.bk σ' H'
 ct: ∀ρ' M' σ' H',D'.ct ρ' M' ->aT H H' ->Ok K ρ' M' σ' H' ->D.ct σ' H'
class IS (t:TS) (w:outParam WS):Prop where
 imp: ∀ (ρ:cS) (M:Mp) (σ:St) (H:Hp) (D':eZ) (D:rA),Ok K ρ M σ H ->w D' ρ M ->kg K H D' D ->t D σ H
class IR (r:R2) (w:outParam oR):Prop where
 imp: ∀ (x y:W) (v u:V) (M:Mp) (H:Hp) (q:WK) (Q:VK),e_ K M H ->WR K H x v ->WR K H y u ->w x y M q ->(∀x M' v H',q x M' ->aT H H' ->e_ K M' H' ->WR K H' x v ->Q v H') ->r v u H Q
class IU (r:V ->Hp ->VK ->Prop) (w:outParam (W ->Mp ->WK ->Prop)):Prop where
 imp: ∀ (x:W) (v:V) (M:Mp) (H:Hp) (q:WK) (Q:VK),e_ K M H ->WR K H x v ->w x M q ->(∀x M' v H',q x M' ->aT H H' ->e_ K M' H' ->WR K H' x v ->Q v H') ->r v H Q
class IC (r:List V ->Hp ->VK ->Prop) (w:outParam zr):Prop where
 imp: ∀ (x:List W) (v:List V) (M:Mp) (H:Hp) (q:WK) (Q:VK),e_ K M H ->cy K H x v ->w x M q ->(∀x M' v H',q x M' ->aT H H' ->e_ K M' H' ->WR K H' x v ->Q v H') ->r v H Q
end
theorem kg.mv {K:PySem.W.Frag}{H H':Hp}{D':eZ}{D:rA}(e:kg K H D' D)(t:aT H H'):kg K H' D' D:=⟨λa b c d h s=>e.nx a b c d h (t.trans s),λa b c d h s=>e.rt a b c d h (t.trans s),λa b c d h s=>e.bk a b c d h (t.trans s),λa b c d h s=>e.ct a b c d h (t.trans s)⟩
end WL
namespace WL
open PySem L2
section
variable {K:PySem.W.Frag}
def eT (i:Nat):WE:=λρ M q=>match ρ[i]? with
 | some (some x)=>q x M
 | _=>False
theorem Ds {i:Nat}{ρ:cS}{M:Mp}{q:WK}(h:eT i ρ M q): ∃x,ρ[i]? =some (some x) /\ q x M:=by unfold eT at h;split at h;rename_i x e;exact⟨x,e,h⟩;exact h.elim
instance {i:Nat}:IE K (Hb i) (eT i) where
 imp:=λρ M σ H q Q o h k=>let ⟨x,e,h⟩:=Ds h;let ⟨v,e',r⟩:=o.env.2 i x e;⟨v,e',k x M v H h (aT.refl H) o.hp r⟩
def wC (x:W):WE:=λ_ M q=>q x M
instance {v:V}:IE K (tC v) (wC (.v v)) where
 imp:=λρ M σ H q Q o h k=>k (.v v) M v H h (aT.refl H) o.hp WR.v
def wOp (r:oR)(a b:WE):WE:=λρ M q=>a ρ M λx M1=>b ρ M1 λy M2=>r x y M2 q
instance {r:R2}{w:oR}{ta tb:TE}{a b:WE} [ir:IR K r w] [ia:IE K ta a] [ib:IE K tb b]:IE K (OO r ta tb) (wOp w a b) where
 imp:=λρ M σ H q Q o h k=>ia.imp ρ M σ H _ _ o h λx M1 v H1 h1 t1 m1 r1=>ib.imp ρ M1 σ H1 _ _ (o.mv t1 m1) h1 λy M2 u H2 h2 t2 m2 r2=>ir.imp x y v u M2 H2 _ _ m2 (r1.ts t2) r2 h2 λz M3 v3 H3 h3 t3 m3 r3=>k z M3 v3 H3 h3 ((t1.trans t2).trans t3) m3 r3
def wUn (r:W ->Mp ->WK ->Prop)(a:WE):WE:=λρ M q=>a ρ M λx M1=>r x M1 q
instance {r:V ->Hp ->VK ->Prop}{w:W ->Mp ->WK ->Prop}{ta:TE}{a:WE} [ir:IU K r w] [ia:IE K ta a]:IE K (tUn r ta) (wUn w a) where
 imp:=λρ M σ H q Q o h k=>ia.imp ρ M σ H _ _ o h λx M1 v H1 h1 t1 m1 r1=>ir.imp x v M1 H1 _ _ m1 r1 h1 λz M3 v3 H3 h3 t3 m3 r3=>k z M3 v3 H3 h3 (t1.trans t3) m3 r3
def wI (C:Int ->Int ->Prop)(g:Int ->Int ->V):oR:=λx y M q=> ∃i j,x=wi i /\ y=wi j /\ C i j /\ q (.v (g i j)) M
def TW (g:Int ->Int ->V):oR:=λx y M q=>ca λi j=>cM (x=wi i) (y=wi j) (q (.v (g i j)) M)
def wU (g:Int ->V):W ->Mp ->WK ->Prop:=λx M q=> ∃i,x=wi i /\ q (.v (g i)) M
instance {C:Int ->Int ->Prop}{g:Int ->Int ->V}:IR K (rI C g) (wI C g) where
 imp:=by rintro x y v u M H q Q m r1 r2 ⟨i,j,rfl,rfl,c,h⟩ k;exact⟨i,j,r1.eq,r2.eq,c,k _ M _ H h (aT.refl H) m WR.v⟩
instance {g:Int ->Int ->V}:IR K (Hm g) (TW g) where
 imp:=by rintro x y v u M H q Q m r1 r2 ⟨i,j,rfl,rfl,h⟩ k;exact⟨i,j,r1.eq,r2.eq,k _ M _ H h (aT.refl H) m WR.v⟩
instance {g:Int ->V}:IU K (rU g) (wU g) where
 imp:=by rintro x v M H q Q m r1 ⟨i,rfl,h⟩ k;exact⟨i,r1.eq,k _ M _ H h (aT.refl H) m WR.v⟩
def T8:oR:=λx y M q=>ca λa b=>eu (x= .v a) (y= .v b) (Hh a b=true) (q (wb (decide (a=b))) M)
def TF:oR:=λx y M q=>ca λa b=>eu (x= .v a) (y= .v b) (Hh a b=true) (q (wb (!decide (a=b))) M)
instance:IR K rEq T8 where
 imp:=by rintro x y v u M H q Q m r1 r2 ⟨i,j,rfl,rfl,c,h⟩ k;cases r1.eq;cases r2.eq;exact⟨c,k _ M _ H h (aT.refl H) m WR.v⟩
instance:IR K rNe TF where
 imp:=by rintro x y v u M H q Q m r1 r2 ⟨i,j,rfl,rfl,c,h⟩ k;cases r1.eq;cases r2.eq;exact⟨c,k _ M _ H h (aT.refl H) m WR.v⟩
def Dv (a:WE):WT:=λρ M q=>a ρ M λx M1=> ∃k,x=wb k /\ q k M1
instance {t:TE}{a:WE} [ia:IE K t a]:IT K (DP t) (Dv a) where
 imp:=λρ M σ H q Q o h k=>ia.imp ρ M σ H _ _ o h λx M1 v H1 ⟨b,e,h1⟩ t1 m1 r1=>by subst e;exact⟨b,r1.eq,k b M1 H1 h1 t1 m1⟩
instance {t:TE}{a:WE} [ia:IE K t a]:IT K (tB t) (Dv a) where
 imp:=λρ M σ H q Q o h k=>ia.imp ρ M σ H _ _ o h λx M1 v H1 ⟨b,e,h1⟩ t1 m1 r1=>by subst e;exact⟨b,r1.eq,k b M1 H1 h1 t1 m1⟩
def Oy (a b:WT):WT:=λρ M q=>a ρ M λc M1=>if c=true then b ρ M1 q else q false M1
def wOr (a b:WT):WT:=λρ M q=>a ρ M λc M1=>if c=true then q true M1 else b ρ M1 q
def Ob (a:WT):WT:=λρ M q=>a ρ M λc M1=>q (!c) M1
instance {t u:TT}{a b:WT} [ia:IT K t a] [ib:IT K u b]:IT K (OY t u) (Oy a b) where
 imp:=λρ M σ H q Q o h k=>ia.imp ρ M σ H _ _ o h λc M1 H1 h1 t1 m1=>by
  cases c with
  | true=>simp only[bP] at h1 ⊢;exact ib.imp ρ M1 σ H1 _ _ (o.mv t1 m1) h1 λb M2 H2 h2 t2 m2=>k b M2 H2 h2 (t1.trans t2) m2
  | false=>simp only[aw,bi] at h1 ⊢;exact k _ M1 H1 h1 t1 m1
instance {t u:TT}{a b:WT} [ia:IT K t a] [ib:IT K u b]:IT K (tOr t u) (wOr a b) where
 imp:=λρ M σ H q Q o h k=>ia.imp ρ M σ H _ _ o h λc M1 H1 h1 t1 m1=>by
  cases c with
  | false=>simp only[aw,bi] at h1 ⊢;exact ib.imp ρ M1 σ H1 _ _ (o.mv t1 m1) h1 λb M2 H2 h2 t2 m2=>k b M2 H2 h2 (t1.trans t2) m2
  | true=>simp only[bP] at h1 ⊢;exact k _ M1 H1 h1 t1 m1
instance {t:TT}{a:WT} [ia:IT K t a]:IT K (OP t) (Ob a) where
 imp:=λρ M σ H q Q o h k=>ia.imp ρ M σ H _ _ o h λc M1 H1 h1 t1 m1=>k _ M1 H1 h1 t1 m1
def JA (a b:WE):WE:=λρ M q=>a ρ M λx M1=> ∃c,x=wb c /\ if c=true then b ρ M1 q else q (wb false) M1
def Oa (a b:WE):WE:=λρ M q=>a ρ M λx M1=> ∃c,x=wb c /\ if c=true then q (wb true) M1 else b ρ M1 q
def Js (a:WE):WE:=λρ M q=>a ρ M λx M1=> ∃c,x=wb c /\ q (wb (!c)) M1
instance {t u:TE}{a b:WE} [ia:IE K t a] [ib:IE K u b]:IE K (JQ t u) (JA a b) where
 imp:=λρ M σ H q Q o h k=>ia.imp ρ M σ H _ _ o h λx M1 v H1 ⟨c,e,h1⟩ t1 m1 r1=>by
  subst e;refine⟨c,r1.eq,?_⟩;cases c with
  | true=>simp only[bP] at h1 ⊢;exact ib.imp ρ M1 σ H1 _ _ (o.mv t1 m1) h1 λb M2 v H2 h2 t2 m2 r2=>k b M2 v H2 h2 (t1.trans t2) m2 r2
  | false=>simp only[aw,bi] at h1 ⊢;exact k _ M1 _ H1 h1 t1 m1 WR.v
instance {t u:TE}{a b:WE} [ia:IE K t a] [ib:IE K u b]:IE K (ON t u) (Oa a b) where
 imp:=λρ M σ H q Q o h k=>ia.imp ρ M σ H _ _ o h λx M1 v H1 ⟨c,e,h1⟩ t1 m1 r1=>by
  subst e;refine⟨c,r1.eq,?_⟩;cases c with
  | false=>simp only[aw,bi] at h1 ⊢;exact ib.imp ρ M1 σ H1 _ _ (o.mv t1 m1) h1 λb M2 v H2 h2 t2 m2 r2=>k b M2 v H2 h2 (t1.trans t2) m2 r2
  | true=>simp only[bP] at h1 ⊢;exact k _ M1 _ H1 h1 t1 m1 WR.v
instance {t:TE}{a:WE} [ia:IE K t a]:IE K (JK t) (Js a) where
 imp:=λρ M σ H q Q o h k=>ia.imp ρ M σ H _ _ o h λx M1 v H1 ⟨c,e,h1⟩ t1 m1 r1=>by subst e;exact⟨c,r1.eq,k _ M1 _ H1 h1 t1 m1 WR.v⟩
def DE (r r':oR)(a b c:WE):WE:=λρ M q=>a ρ M λx M1=>b ρ M1 λy M2=>r x y M2 λz M3=> ∃k,z=wb k /\ if k=true then c ρ M3 λy' M4=>r' y y' M4 λz' M5=>q z' M5 else q (wb false) M3
def Od:WA:=λ_ M q=>q [] M
def Jx (a:WE)(r:WA):WA:=λρ M q=>a ρ M λx M1=>r ρ M1 λxs M2=>q (x::xs) M2
instance:IA K BC Od where
 imp:=λρ M σ H q Q o h k=>k [] M [] H h (aT.refl H) o.hp cy.nil
instance {t:TE}{u:TA}{a:WE}{b:WA} [ia:IE K t a] [ib:IA K u b]:IA K (DX t u) (Jx a b) where
 imp:=λρ M σ H q Q o h k=>ia.imp ρ M σ H _ _ o h λx M1 v H1 h1 t1 m1 r1=>ib.imp ρ M1 σ H1 _ _ (o.mv t1 m1) h1 λy M2 u H2 h2 t2 m2 r2=>k _ M2 _ H2 h2 (t1.trans t2) m2 (cy.cons (r1.ts t2) r2)
def N6 (a:WA):WE:=λρ M q=>a ρ M λxs M1=>xs.length<=sizeLine /\ q (.tup xs) M1
def Of (a:WA):WE:=λρ M q=>a ρ M λxs M1=>xs.length<=sizeLine /\ ∀p,M1 p=none ->q (wr p) (um M1 p (.lst xs))
instance {t:TA}{a:WA} [ia:IA K t a]:IE K (OL t) (N6 a) where
 imp:=λρ M σ H q Q o h k=>ia.imp ρ M σ H _ _ o h λx M1 v H1 ⟨hl,h1⟩ t1 m1 r1=>⟨by rw[r1.length];exact hl,λp hp=>k _ M1 _ _ h1 (t1.trans (L2.fi.ts (bV hp))) (m1.new hp) (WR.SE (lr.of bI) (r1.ts (L2.fi.ts (bV hp))))⟩
instance {t:TA}{a:WA} [ia:IA K t a]:IE K (OQ t) (Of a) where
 imp:=λρ M σ H q Q o h k=>ia.imp ρ M σ H _ _ o h λx M1 v H1 ⟨hl,h1⟩ t1 m1 r1=>⟨by rw[r1.length];exact hl,λp hp=>k _ _ _ _ (h1 p (m1.fresh hp)) (t1.trans (L2.fi.ts (bV hp))) (m1.wE hp r1) WR.v⟩
def Oi:oR:=λx y M q=>fF λa l i u=>fo (x=wr a) (y=wi i) (M a=some (.lst l)) (ix l i=some u) (q u M)
def Og:oR:=λx y M q=>dH λl i u=>eu (x= .tup l) (y=wi i) (ix l i=some u) (q u M)
theorem cy.ix {H:Hp}{l:List W}{vs:List V}{i:Int}{u:W}(r:cy K H l vs)(e:ix l i=some u): ∃v,L2.ix vs i=some v /\ WR K H u v:=by
 unfold L2.ix at e ⊢;rw[r.length];cases h:yd l.length i with
 | none=>rw[h] at e;cases e
 | some j=>rw[h] at e;exact r.at e
instance:IR K (kB K) Oi where
 imp:=by rintro x y v u M H q Q m r1 r2 ⟨a,l,i,z,rfl,rfl,hl,e,h⟩ k;obtain⟨vs,hv,r⟩:=m a _ hl;obtain⟨v',e',r'⟩:=r.ix e;exact⟨a,vs,i,v',r1.eq,r2.eq,gs.of hv,e',k _ M _ H h (aT.refl H) m r'⟩
instance:IR K (bA K) Og where
 imp:=by rintro x y v u M H q Q m r1 r2 ⟨l,i,z,rfl,rfl,e,h⟩ k;obtain⟨a,vs,rfl,hv,r⟩:=r1.tup;obtain⟨v',e',r'⟩:=r.ix e;exact⟨a,vs,i,v',rfl,r2.eq,hv,e',k _ M _ H h (aT.refl H) m r'⟩
end
abbrev WO:=cS ->Mp ->(Option Int ->Mp ->Prop) ->Prop
class IO (K:PySem.W.Frag) (t:TO) (w:outParam WO):Prop where
 imp: ∀ (ρ:cS) (M:Mp) (σ:St) (H:Hp) (q:Option Int ->Mp ->Prop) (Q:Option Int ->Hp ->Prop),Ok K ρ M σ H ->w ρ M q ->(∀b M' H',q b M' ->aT H H' ->e_ K M' H' ->Q b H') ->t σ H Q
abbrev Ri:=W ->Option Int ->Option Int ->Mp ->WK ->Prop
class ISl (K:PySem.W.Frag) (r:V ->Option Int ->Option Int ->Hp ->VK ->Prop) (w:outParam Ri):Prop where
 imp: ∀ (x:W) (v:V) (lo hi:Option Int) (M:Mp) (H:Hp) (q:WK) (Q:VK),e_ K M H ->WR K H x v ->w x lo hi M q ->(∀x M' v H',q x M' ->aT H H' ->e_ K M' H' ->WR K H' x v ->Q v H') ->r v lo hi H Q
section
variable {K:PySem.W.Frag}
def zN:WO:=λ_ M q=>q none M
def Jr (a:WE):WO:=λρ M q=>a ρ M λx M1=> ∃i,x=wi i /\ q (some i) M1
instance:IO K zV zN where
 imp:=λρ M σ H q Q o h k=>k _ M H h (aT.refl H) o.hp
instance {t:TE}{a:WE} [ia:IE K t a]:IO K (JJ t) (Jr a) where
 imp:=λρ M σ H q Q o h k=>ia.imp ρ M σ H _ _ o h λx M1 v H1 ⟨i,e,h1⟩ t1 m1 r1=>by subst e;exact⟨i,r1.eq,k _ M1 H1 h1 t1 m1⟩
def wSl (r:Ri)(a:WE)(lo hi:WO):WE:=λρ M q=>a ρ M λx M1=>lo ρ M1 λl M2=>hi ρ M2 λu M3=>r x l u M3 q
instance {r:V ->Option Int ->Option Int ->Hp ->VK ->Prop}{w:Ri}{t:TE}{tl th:TO}{a:WE}{lo hi:WO} [ir:ISl K r w] [ia:IE K t a] [il:IO K tl lo] [ih:IO K th hi]:IE K (tSl r t tl th) (wSl w a lo hi) where
 imp:=λρ M σ H q Q o h k=>ia.imp ρ M σ H _ _ o h λx M1 v H1 h1 t1 m1 r1=>il.imp ρ M1 σ H1 _ _ (o.mv t1 m1) h1 λl M2 H2 h2 t2 m2=>ih.imp ρ M2 σ H2 _ _ (o.mv (t1.trans t2) m2) h2 λu M3 H3 h3 t3 m3=>ir.imp x v l u M3 H3 _ _ m3 (r1.ts (t2.trans t3)) h3 λy M4 v4 H4 h4 t4 m4 r4=>k y M4 v4 H4 h4 (((t1.trans t2).trans t3).trans t4) m4 r4
def wCB (r:zr)(a:WA):WE:=λρ M q=>a ρ M λxs M1=>r xs M1 q
instance {r:List V ->Hp ->VK ->Prop}{w:zr}{t:TA}{a:WA} [ir:IC K r w] [ia:IA K t a]:IE K (Uq r t) (wCB w a) where
 imp:=λρ M σ H q Q o h k=>ia.imp ρ M σ H _ _ o h λx M1 v H1 h1 t1 m1 r1=>ir.imp x v M1 H1 _ _ m1 r1 h1 λy M4 v4 H4 h4 t4 m4 r4=>k y M4 v4 H4 h4 (t1.trans t4) m4 r4
abbrev fh:=List W ->Mp ->WK ->Prop
def fj (K:PySem.W.Frag)(p:fh):Sp:=λvs H Q _=>dH λ(xs:List W) (M:Mp) (q:WK)=>eu (cy K H xs vs) (e_ K M H) (p xs M q) (∀x M' v H',q x M' ->aT H H' ->e_ K M' H' ->WR K H' x v ->Q v H')
def Jz (p:fh)(a:WA):WE:=λρ M q=>a ρ M λxs M1=>p xs M1 q
instance {p:fh}{E:XK}{t:TA}{a:WA} [ia:IA K t a]:IE K (sF (fj K p) [] E t) (Jz p a) where
 imp:=λρ M σ H q Q o h k=>ia.imp ρ M σ H _ _ o h λx M1 v H1 h1 t1 m1 r1=>⟨x,M1,q,by rw[c4];exact r1,m1,h1,λy M4 v4 H4 h4 t4 m4 r4=>k y M4 v4 H4 h4 (t1.trans t4) m4 r4⟩
theorem okW {P:Program}{w:World}{mg:Str ->Option Value}{base:Heap}{x qual:Str}{st:Stmt}{f:Addr}{fd:FuncData}{N ps:List Str}{k:Nat}{p:fh}(F:xP K x qual st f fd)(S:cJ N ps (aO st))(len: ∀vs M q,p vs M q ->vs.length=ps.length) (ik: ∀ (cdv:Value) (A:Around) (outer:List Env) (s:Shared) (H:Hp) (E:XK),dG k (A.deeper (PyProof.Rows.envOfC qual (aO st) s.heap.objs.size f cdv)) ->ca λt w'=>cM (vw (d4 eE P w K mg base N qual (aO st) f cdv A outer s H E).GJ (c5 st) t) (IS K t w') (∀vs M q,p vs M q ->w' {nx:=λ_ M'=>q wn M',rt:=q} (vs.map some++List.replicate (N.length - vs.length) none) M)): bx P w K mg base eE (k+1) f fd ps (fj K p):=by
 refine xP.ok F S (λvs H Q E ⟨xs,M,q,r,m,h,_⟩=>by rw[r.length];exact len xs M q h) λcdv A outer s H vs Q E hr h=> ?_;obtain⟨t,w',h1,h2,h3⟩:=ik cdv A outer s H E hr;obtain⟨xs,M,q,r,m,h,k'⟩:=h;refine⟨t,h1,h2.imp _ M _ H _ _ ⟨⟨?_,λi x e=> ?_⟩,m⟩ (h3 xs M q h) ⟨λρ' M' σ' H' h ts o=>k' _ M' _ H' h ts o.hp WR.v,λx M' v H' h ts m' r'=>k' x M' v H' h ts m' r',λ_ _ _ _ h=>h.elim,λ_ _ _ _ h=>h.elim⟩⟩;have:=r.length;simp[L2.start,this];have hl:=r.length;unfold L2.start;by_cases hi:i<xs.length;rw[aW ⇑hi,aG] at e;cases ex:xs[i]? with
 | none=>rw[ex] at e;cases e
 | some y=>rw[ex] at e;cases e;obtain⟨v,hv,rv⟩:=r.at ex;refine⟨v,?_,rv⟩;rw[aW (by simp;lia),aG,hv];rfl
 rw[aU ⇑hi,cQ] at e;split at e<;>cases e
def Lw (K:PySem.W.Frag):List V ->Hp ->VK ->Prop:=λxs H Q=>ca λp ys=>cM (xs= [.ref p]) (gs K H p ys \/ lr K H p ys) (Q (.int ys.length) H)
theorem CP {X:Cx}:eN X (.builtin "len") (Lw X.K):=u9
def K3:zr:=λxs M q=>(ca λa l=>cM (xs= [wr a]) (M a=some (.lst l)) (q (wi l.length) M)) \/ ∃l,xs= [.tup l] /\ q (wi l.length) M
theorem cy.one {H:Hp}{x:W}{vs:List V}(h:cy K H [x] vs): ∃v,vs= [v] /\ WR K H x v:=by simp only[cy] at h;obtain⟨v,t,rfl,h1,rfl⟩:=h;exact⟨v,rfl,h1⟩
theorem cy.two {H:Hp}{x y:W}{vs:List V}(h:cy K H [x,y] vs):ca λv u=>cM (vs= [v,u]) (WR K H x v) (WR K H y u):=by simp only[cy] at h;obtain⟨v,t,rfl,h1,u,t',rfl,h2,rfl⟩:=h;exact⟨v,u,rfl,h1,h2⟩
instance:IC K (Lw K) K3 where
 imp :=by
  rintro xs v M H q Q m r1 h k;rcases h with⟨a,l,rfl,hl,h⟩ | ⟨l,rfl,h⟩
  obtain⟨v,rfl,r⟩:=r1.one;cases r.eq;obtain⟨vs,hv,rr⟩:=m a _ hl;refine⟨a,vs,rfl, .inl (gs.of hv),k _ M _ H h (aT.refl H) m ?_⟩;rw[rr.length];exact WR.v;obtain⟨v,rfl,r⟩:=r1.one;obtain⟨a,vs,rfl,hv,rr⟩:=r.tup;refine⟨a,vs,rfl, .inr hv,k _ M _ H h (aT.refl H) m ?_⟩;rw[rr.length];exact WR.v
def Po:List V ->Hp ->VK ->Prop:=λxs H Q=> ∃i,xs= [.int i] /\ Q (.int (if i<0 then -i else i)) H
theorem eK {X:Cx}:eN X (.builtin "abs") Po:=Ga
def Oz:zr:=λxs M q=> ∃i,xs= [wi i] /\ q (wi (if i<0 then -i else i)) M
instance:IC K Po Oz where
 imp:=by rintro xs v M H q Q m r1 ⟨i,rfl,h⟩ k;obtain⟨v,rfl,r⟩:=r1.one;cases r.eq;exact⟨i,rfl,k _ M _ H h (aT.refl H) m WR.v⟩
def Af (K:PySem.W.Frag):List V ->Hp ->VK ->Prop:=λxs H Q=>ca λp ys=>cM (xs= [.ref p]) (gs K H p ys \/ lr K H p ys) (∀l,H l=none ->Q (.ref l) (cq H l (.lst ys)))
theorem dz {X:Cx}:eN X (.type "list") (Af X.K):=u4
def ua:zr:=λxs M q=> ∃l,((∃a,xs= [wr a] /\ M a=some (.lst l)) \/ xs= [.tup l]) /\ ∀p,M p=none ->q (wr p) (um M p (.lst l))
instance:IC K (Af K) ua where
 imp :=by
  rintro xs v M H q Q m r1 ⟨l,hx,h⟩ k;rcases hx with⟨a,rfl,hl⟩ | rfl
  obtain⟨v,rfl,r⟩:=r1.one;cases r.eq;obtain⟨vs,hv,rr⟩:=m a _ hl;exact⟨a,vs,rfl, .inl (gs.of hv),λp hp=>k _ _ _ _ (h p (m.fresh hp)) (L2.fi.ts (bV hp)) (m.wE hp rr) WR.v⟩;obtain⟨v,rfl,r⟩:=r1.one;obtain⟨a,vs,rfl,hv,rr⟩:=r.tup;exact⟨a,vs,rfl, .inr hv,λp hp=>k _ _ _ _ (h p (m.fresh hp)) (L2.fi.ts (bV hp)) (m.wE hp rr) WR.v⟩
def wc (K:PySem.W.Frag):List V ->Hp ->VK ->Prop:=λxs H Q=>ca λp ys=>xs= [.ref p] /\ ((gs K H p ys /\ ∀l,H l=none ->Q (.ref l) (cq H l (.tup ys))) \/ (lr K H p ys /\ Q (.ref p) H))
theorem kc {X:Cx}:eN X (.type "tuple") (wc X.K):=r_
def vC:zr:=λxs M q=> ∃l,((∃a,xs= [wr a] /\ M a=some (.lst l)) \/ xs= [.tup l]) /\ q (.tup l) M
instance:IC K (wc K) vC where
 imp :=by
  rintro xs v M H q Q m r1 ⟨l,hx,h⟩ k;rcases hx with⟨a,rfl,hl⟩ | rfl
  obtain⟨v,rfl,r⟩:=r1.one;cases r.eq;obtain⟨vs,hv,rr⟩:=m a _ hl;exact⟨a,vs,rfl, .inl ⟨gs.of hv,λp hp=>k _ M _ _ h (L2.fi.ts (bV hp)) (m.new hp) (WR.SE (lr.of bI) (rr.ts (L2.fi.ts (bV hp))))⟩⟩;obtain⟨v,rfl,r⟩:=r1.one;obtain⟨a,vs,rfl,hv,rr⟩:=r.tup;exact⟨a,vs,rfl, .inr ⟨hv,k _ M _ H h (aT.refl H) m (WR.SE hv rr)⟩⟩
theorem cy.ofInts {H:Hp}: ∀ (ns:List Int),cy K H (ns.map wi) (ns.map V.int)
 | []=>cy.nil
 | n::r=>cy.cons WR.v (cy.ofInts r)
def Sa (M:Mp):W ->Option Value
 | .v (.int _)=>some (.type "int")
 | .v (.bl _)=>some (.type "bool")
 | .v (.str _)=>some (.type "str")
 | .v .dC=>some (.type "NoneType")
 | .tup _=>some (.type "tuple")
 | .v (.ref a)=>match M a with
  | some (.lst _)=>some (.type "list")
  | _=>none
 | _=>none
def Oj (K:PySem.W.Frag):zr:=λxs M q=>fF λx T t b=>eu (xs= [x, .v (.ty T)]) (Sa M x=some t) (PySem.W.kitOne K t (.type T)=some b) (q (wb b) M)
theorem Lb {H:Hp}{M:Mp}{x:W}{v:V}{t:Value}(m:e_ K M H)(r:WR K H x v)(e:Sa M x=some t):Rk K H v t:=by
 cases x with
 | tup l=>obtain⟨a,vs,rfl,hv,rr⟩:=r.tup;cases e;exact .tup hv
 | v y =>
  cases r.eq;cases v with
  | int i=>cases e;exact .of (.int i)
  | bl i=>cases e;exact .of (.bl i)
  | str i=>cases e;exact .of (.str i)
  | dC=>cases e;exact .of .dC
  | ref a=>
   simp only[Sa] at e;cases ha:M a with
   | none=>rw[ha] at e;cases e
   | some o=>
    rw[ha] at e;cases o with
    | lst l=>cases e;obtain⟨vs,hv,_⟩:=m a _ ha;exact .lst (gs.of hv)
    | dK l=>cases e
    | ins C d l=>cases e
    | exc C=>cases e
    | fz o l l2=>cases e
  | CQ _=>cases e
  | IF _=>cases e
  | ty _=>cases e
instance:IC K (Lx K) (Oj K) where
 imp:=by rintro xs v M H q Q m r1 ⟨x,T,t,b,rfl,ht,e,h⟩ k;obtain⟨v,u,rfl,r,r'⟩:=r1.two;cases r'.eq;exact⟨v,T,t,b,rfl,Lb m r ht,e,k _ M _ H h (aT.refl H) m WR.v⟩
end
section
variable {K:PySem.W.Frag}
abbrev WM:=W ->List W ->Mp ->WK ->Prop
class IM (K:PySem.W.Frag) (r:V ->List V ->Hp ->VK ->Prop) (w:outParam WM):Prop where
 imp: ∀ (x:W) (v:V) (ys:List W) (us:List V) (M:Mp) (H:Hp) (q:WK) (Q:VK),e_ K M H ->WR K H x v ->cy K H ys us ->w x ys M q ->(∀x M' v H',q x M' ->aT H H' ->e_ K M' H' ->WR K H' x v ->Q v H') ->r v us H Q
def IsL (M:Mp)(x:W):Prop:=ca λa l=>x=wr a /\ M a=some (.lst l)
theorem IsL.ty {M:Mp}{H:Hp}{x:W}{v:V}(m:e_ K M H)(r:WR K H x v)(h:IsL M x):Sb K "list" v H:=by obtain⟨a,l,rfl,hl⟩:=h;cases r.eq;obtain⟨vs,hv,_⟩:=m a _ hl;exact .inl ⟨rfl,vs,gs.of hv⟩
def Uc (r:WM)(a:WE)(b:WA):WE:=λρ M q=>a ρ M λx M1=>IsL M1 x /\ b ρ M1 λxs M2=>r x xs M2 q
def K9 (r:WM)(a:WE):WE:=λρ M q=>a ρ M λx M1=>IsL M1 x /\ r x [] M1 q
instance {r:V ->List V ->Hp ->VK ->Prop}{w:WM}{t:TE}{u:TA}{a:WE}{b:WA} [ir:IM K r w] [ia:IE K t a] [ib:IA K u b]:IE K (Ur K "list" r t u) (Uc w a b) where
 imp:=λρ M σ H q Q o h k=>ia.imp ρ M σ H _ _ o h λx M1 v H1 ⟨hl,h1⟩ t1 m1 r1=>⟨hl.ty m1 r1,ib.imp ρ M1 σ H1 _ _ (o.mv t1 m1) h1 λy M2 u H2 h2 t2 m2 r2=>ir.imp x v y u M2 H2 _ _ m2 (r1.ts t2) r2 h2 λz M3 v3 H3 h3 t3 m3 r3=>k z M3 v3 H3 h3 ((t1.trans t2).trans t3) m3 r3⟩
instance {r:V ->List V ->Hp ->VK ->Prop}{w:WM}{t:TE}{a:WE} [ir:IM K r w] [ia:IE K t a]:IE K (OW K "list" r t) (K9 w a) where
 imp:=λρ M σ H q Q o h k=>ia.imp ρ M σ H _ _ o h λx M1 v H1 ⟨hl,h1⟩ t1 m1 r1=>⟨hl.ty m1 r1,ir.imp x v [] [] M1 H1 _ _ m1 r1 cy.nil h1 λz M3 v3 H3 h3 t3 m3 r3=>k z M3 v3 H3 h3 (t1.trans t3) m3 r3⟩
def zP:WM:=λx ys M q=>dH λa l y=>fo (x=wr a) (ys= [y]) (M a=some (.lst l)) (l.length<sizeLine) (q wn (um M a (.lst (l++ [y]))))
instance:IM K Ai zP where
 imp:=by rintro x v ys us M H q Q m r1 r2 ⟨a,l,y,rfl,rfl,hl,hn,h⟩ k;cases r1.eq;obtain⟨u,rfl,r⟩:=r2.one;obtain⟨vs,hv,rr⟩:=m a _ hl;exact⟨a,vs,u,rfl,rfl,hv,by rw[rr.length];exact hn,k _ _ _ _ h (iA hv) (m.putL hv (rr.snoc r)) WR.v⟩
def zO:WM:=λx ys M q=>fF λa b l l'=>kz (x=wr a) (ys= [wr b]) (M a=some (.lst l)) (M b=some (.lst l')) (l.length+l'.length<=sizeLine) (q wn (um M a (.lst (l++l'))))
instance:IM K Ah zO where
 imp:=by rintro x v ys us M H q Q m r1 r2 ⟨a,b,l,l',rfl,rfl,hl,oq,hn,h⟩ k;cases r1.eq;obtain⟨u,rfl,r⟩:=r2.one;cases r.eq;obtain⟨vs,hv,rr⟩:=m a _ hl;obtain⟨K',Im,JX⟩:=m b _ oq;exact⟨a,b,vs,K',rfl,rfl,hv,Im,by rw[rr.length,JX.length];exact hn,k _ _ _ _ h (iA hv) (m.putL hv (rr.append JX)) WR.v⟩
def Ow:oR:=λx y M q=>fF λa b l l'=>kz (x=wr a) (y=wr b) (M a=some (.lst l)) (M b=some (.lst l')) (l.length+l'.length<=sizeLine) (∀p,M p=none ->q (wr p) (um M p (.lst (l++l'))))
instance:IR K Pl Ow where
 imp:=by rintro x y v u M H q Q m r1 r2 ⟨a,b,l,l',rfl,rfl,hl,oq,hn,h⟩ k;cases r1.eq;cases r2.eq;obtain⟨vs,hv,rr⟩:=m a _ hl;obtain⟨K',Im,JX⟩:=m b _ oq;exact⟨a,b,vs,K',rfl,rfl,hv,Im,by rw[rr.length,JX.length];exact hn,λp hp=>k _ _ _ _ (h p (m.fresh hp)) (L2.fi.ts (bV hp)) (m.wE hp (rr.append JX)) WR.v⟩
def gM:b8 ->W
 | .inl k=>wi k
 | .inr x=>ws x
def eG (kvs:List (b8×W))(k:b8):Option W:=(kvs.find? λkv=>decide (kv.1=k)).map (·.2)
def ux (kvs:List (b8×W))(k:b8)(v:W):List (b8×W):=if(kvs.any λkv=>decide (kv.1=k))=true then kvs.map (λkv=>if kv.1=k then(kv.1,v) else kv) else kvs++ [(k,v)]
def ip (kvs:List (b8×W))(k:b8):List (b8×W):=kvs.filter λkv=>decide (kv.1≠k)
theorem KR.keys {H:Hp}: ∀ {l:List (b8×W)} {vs:List (b8×V)},KR K H l vs ->vs.map (·.1)=l.map (·.1)
 | _,_, .nil=>rfl
 | _,_, .cons ⟨e,r⟩ t=>by rw[az,az,KR.keys t,e]
theorem KR.length {H:Hp}{κ:Type}: ∀ {l:List (κ×W)} {vs:List (κ×V)},KR K H l vs ->vs.length=l.length
 | _,_, .nil=>rfl
 | _,_, .cons _ t=>by rw[aB,aB,KR.length t]
theorem KR.val {H:Hp}(k:b8): ∀ {l:List (b8×W)} {vs:List (b8×V)},KR K H l vs ->(eG l k=none /\ gv vs k=none) \/ ca λx v=>cM (eG l k=some x) (gv vs k=some v) (WR K H x v)
 | _,_, .nil=> .inl ⟨rfl,rfl⟩
 | (k1,x)::l,(k2,v)::vs, .cons ⟨e,r⟩ t=>by have e:k1=k2:=e;subst e;unfold eG gv;rw[cH,cH];by_cases hk:k1=k;simp only[hk,cC];exact .inr ⟨x,v,rfl,rfl,r⟩;simp only[hk,decide_false];exact KR.val k t
theorem KR.map {H:Hp}{k:b8}{x:W}{v:V}(rx:WR K H x v): ∀ {l:List (b8×W)} {vs:List (b8×V)},KR K H l vs ->KR K H (l.map (λkv=>if kv.1=k then(kv.1,x) else kv)) (vs.map (λkv=>if kv.1=k then(kv.1,v) else kv))
 | _,_, .nil=> .nil
 | (k1,y)::l,(k2,u)::vs, .cons ⟨e,r⟩ t=>by have e:k1=k2:=e;subst e;rw[az,az];refine .cons ?_ (KR.map rx t);by_cases hk:k1=k;rw[ak hk,ak hk];exact⟨rfl,rx⟩;rw[aj hk,aj hk];exact⟨rfl,r⟩
theorem KR.append {H:Hp}{k:b8}{x:W}{v:V}(rx:WR K H x v): ∀ {l:List (b8×W)} {vs:List (b8×V)},KR K H l vs ->KR K H (l++ [(k,x)]) (vs++ [(k,v)])
 | _,_, .nil=> .cons ⟨rfl,rx⟩ .nil
 | _,_, .cons r t=> .cons r (KR.append rx t)
theorem KR.put {H:Hp}{k:b8}{x:W}{v:V}(rx:WR K H x v){l:List (b8×W)}{vs:List (b8×V)}(r:KR K H l vs):KR K H (ux l k x) (kF vs k v):=by
 have ek:(l.any λkv=>decide (kv.1=k))=vs.any λkv=>decide (kv.1=k):=by
  have:=r.keys;have e1:(l.any λkv=>decide (kv.1=k))=(l.map (·.1)).any λy=>decide (y=k):=by rw[List.any_map];rfl
  have e2:(vs.any λkv=>decide (kv.1=k))=(vs.map (·.1)).any λy=>decide (y=k):=by rw[List.any_map];rfl
  rw[e1,e2,this]
 unfold ux kF;rw[ek];split;exact KR.map rx r;exact KR.append rx r
theorem KR.drop {H:Hp}{k:b8}: ∀ {l:List (b8×W)} {vs:List (b8×V)},KR K H l vs ->KR K H (ip l k) (jX vs k)
 | _,_, .nil=> .nil
 | (k1,y)::l,(k2,u)::vs, .cons ⟨e,r⟩ t=>by have e:k1=k2:=e;subst e;unfold ip jX;rw[List.filter_cons,List.filter_cons];by_cases hk:k1=k;simp only[hk,ne_eq,not_true,decide_false,aw,bi];exact KR.drop t;simp only[ne_eq,hk,not_false_eq_true,cC,bP];exact .cons ⟨rfl,r⟩ (KR.drop t)
theorem iH {H:Hp}{k:b8}{v:V}(r:WR K H (gM k) v):v=kV k:=by cases k<;>exact r.eq
def Jw:WE:=λ_ M q=> ∀p,M p=none ->q (wr p) (um M p (.dK []))
instance:IE K DU Jw where
 imp:=λρ M σ H q Q o h k=>λp hp=>k _ _ _ _ (h p (o.hp.fresh hp)) (L2.fi.ts (bV hp)) (o.hp.put (L2.fi.ts (bV hp)) ⟨[],bI, .nil⟩) WR.v
def DB (a b:WE):WE:=λρ M q=>a ρ M λx M1=>b ρ M1 λy M2=>fF λp kvs k z=>fo (x=wr p) (M2 p=some (.dK kvs)) (y=gM k) (eG kvs k=some z) (q z M2)
instance {t u:TE}{a b:WE} [ia:IE K t a] [ib:IE K u b]:IE K (JO t u) (DB a b) where
 imp :=λρ M σ H q Q o h k=>ia.imp ρ M σ H _ _ o h λx M1 v H1 h1 t1 m1 r1=>ib.imp ρ M1 σ H1 _ _ (o.mv t1 m1) h1 λy M2 u H2 ⟨p,kvs,ky,z,e1,e2,e3,e4,h2⟩ t2 m2 r2=>by
  subst e1 e3;obtain⟨ks,hk,rr⟩:=m2 p _ e2;rcases rr.val ky with⟨n1,_⟩ | ⟨x',v',n1,n2,rx⟩
  rw[n1] at e4;cases e4;rw[n1] at e4;cases e4;refine⟨p,v',r1.eq,?_,k _ M2 _ H2 h2 (t1.trans t2) m2 rx⟩;rw[iH r2, <- n2];exact lv.k hk
def K7 (a b:WE):WE:=λρ M q=>a ρ M λy M1=>b ρ M1 λx M2=>dH λp kvs k=>eu (x=wr p) (M2 p=some (.dK kvs)) (y=gM k) (q (wb (eG kvs k).isSome) M2)
def ub (a b:WE):WE:=λρ M q=>a ρ M λy M1=>b ρ M1 λx M2=>dH λp kvs k=>eu (x=wr p) (M2 p=some (.dK kvs)) (y=gM k) (q (wb (!(eG kvs k).isSome)) M2)
theorem KR.some {H:Hp}(k:b8){l:List (b8×W)}{vs:List (b8×V)}(r:KR K H l vs):(gv vs k).isSome=(eG l k).isSome:=by rcases r.val k with⟨a,b⟩ | ⟨x,v,a,b,_⟩ <;>rw[a,b] <;>rfl
instance {t u:TE}{a b:WE} [ia:IE K t a] [ib:IE K u b]:IE K (OV t u) (K7 a b) where
 imp:=λρ M σ H q Q o h k=>ia.imp ρ M σ H _ _ o h λy M1 v H1 h1 t1 m1 r1=>ib.imp ρ M1 σ H1 _ _ (o.mv t1 m1) h1 λx M2 u H2 ⟨p,kvs,ky,e1,e2,e3,h2⟩ t2 m2 r2=>by subst e1 e3;obtain⟨ks,hk,rr⟩:=m2 p _ e2;refine⟨p,gv ks ky,r2.eq,by rw[iH r1];exact lv.k hk,k _ M2 _ H2 h2 (t1.trans t2) m2 ?_⟩;rw[rr.some];exact WR.v
instance {t u:TE}{a b:WE} [ia:IE K t a] [ib:IE K u b]:IE K (zW t u) (ub a b) where
 imp:=λρ M σ H q Q o h k=>ia.imp ρ M σ H _ _ o h λy M1 v H1 h1 t1 m1 r1=>ib.imp ρ M1 σ H1 _ _ (o.mv t1 m1) h1 λx M2 u H2 ⟨p,kvs,ky,e1,e2,e3,h2⟩ t2 m2 r2=>by subst e1 e3;obtain⟨ks,hk,rr⟩:=m2 p _ e2;refine⟨p,gv ks ky,r2.eq,by rw[iH r1];exact lv.k hk,k _ M2 _ H2 h2 (t1.trans t2) m2 ?_⟩;rw[rr.some];exact WR.v
def yk (a b c:WE):WE:=λρ M q=>a ρ M λx M1=> ∃p,cM (x=wr p) (∃kvs,M1 p=some (.dK kvs)) (b ρ M1 λy M2=>c ρ M2 λz M3=>ca λkvs k=>cM (M3 p=some (.dK kvs)) (y=gM k) (q ((eG kvs k).getD z) M3))
instance {t u s:TE}{a b c:WE} [ia:IE K t a] [ib:IE K u b] [ic:IE K s c]:IE K (DW t u s) (yk a b c) where
 imp:=λρ M σ H q Q o h k=>ia.imp ρ M σ H _ _ o h λx M1 v H1 ⟨p,e,⟨kvs,hp⟩,h1⟩ t1 m1 r1=>by
  subst e;obtain⟨ks,hk,rr⟩:=m1 p _ hp;refine⟨p,r1.eq, .inl ⟨ks, .inl hk⟩,ib.imp ρ M1 σ H1 _ _ (o.mv t1 m1) h1 λy M2 u H2 h2 t2 m2 r2=>ic.imp ρ M2 σ H2 _ _ (o.mv (t1.trans t2) m2) h2 λz M3 u3 H3 ⟨kvs,ky,e2,e3,h3⟩ t3 m3 r3=> ?_⟩;subst e3;obtain⟨ks,hk,rr⟩:=m3 p _ e2;refine⟨gv ks ky,by rw[iH (r2.ts t3)];exact lv.k hk,k _ M3 _ H3 h3 ((t1.trans t2).trans t3) m3 ?_⟩;rcases rr.val ky with⟨n1,n2⟩ | ⟨x',v',n1,n2,rx⟩
  rw[n1,n2];exact r3;rw[n1,n2];exact rx
end
section
variable {K:PySem.W.Frag}
def JD (i:Nat):WG:=λx ρ M q=>q (ρ.set i (some x)) M
instance {i:Nat}:IG K (jK i) (JD i) where
 imp:=λx v ρ M σ H q Q o r h k=>k _ M _ H h (aT.refl H) ⟨o.env.set i r,o.hp⟩
def K_:Ja:=λxs ρ M q=>xs= [] /\ q ρ M
def JE (a:WG)(b:Ja):Ja:=λxs ρ M q=>ca λx r=>xs=x::r /\ a x ρ M λρ' M'=>b r ρ' M' q
instance:Tg K ID K_ where
 imp:=λx v ρ M σ H q Q o r h k=>by obtain⟨rfl,h⟩:=h;exact⟨by simpa only[cy] using r,k _ M _ H h (aT.refl H) o⟩
instance {t:TG}{u:G2}{a:WG}{b:Ja} [ia:IG K t a] [ib:Tg K u b]:Tg K (tz t u) (JE a b) where
 imp:=λx v ρ M σ H q Q o r h k=>by obtain⟨y,dh,rfl,h⟩:=h;simp only[cy] at r;obtain⟨v1,t1,rfl,r1,r2⟩:=r;exact⟨v1,t1,rfl,ia.imp y v1 ρ M σ H _ _ o r1 h λρ' M' σ' H' h' ts o'=>ib.imp dh t1 ρ' M' σ' H' _ _ o' (r2.ts ts) h' λρ2 M2 σ2 H2 h2 OF o2=>k ρ2 M2 σ2 H2 h2 (ts.trans OF) o2⟩
def OA (n:Nat)(a:Ja):WG:=λx ρ M q=> ∃l,cM (x= .tup l) (l.length=n) (a l ρ M q)
instance {n:Nat}{t:G2}{a:Ja} [ia:Tg K t a]:IG K (IB K n t) (OA n a) where
 imp:=λx v ρ M σ H q Q o r h k=>by obtain⟨l,rfl,hl,h⟩:=h;obtain⟨a',vs,rfl,hv,rr⟩:=r.tup;exact⟨a',vs,rfl,hv,by rw[rr.length];exact hl,ia.imp l vs ρ M σ H _ _ o rr h k⟩
abbrev Gj:=W ->W ->W ->Mp ->(Mp ->Prop) ->Prop
class Ru (K:PySem.W.Frag) (t:Gk) (w:outParam Gj):Prop where
 imp: ∀ (x y z:W) (v u r:V) (M:Mp) (H:Hp) (q:Mp ->Prop) (Q:Hp ->Prop),e_ K M H ->WR K H x v ->WR K H y u ->WR K H z r ->w x y z M q ->(∀M' H',q M' ->aT H H' ->e_ K M' H' ->Q H') ->t v u r H Q
def Jq:Gj:=λx y z M q=>fF λa l k j=>fo (x=wr a) (y=wi k) (M a=some (.lst l)) (yd l.length k=some j) (q (um M a (.lst (l.set j z))))
instance:Ru K JZ Jq where
 imp:=by rintro x y z v u r M H q Q m r1 r2 r3 ⟨a,l,i,j,rfl,rfl,hl,e,h⟩ k;obtain⟨vs,hv,rr⟩:=m a _ hl;exact⟨a,vs,i,j,r1.eq,r2.eq,hv,by rw[rr.length];exact e,k _ _ h (iA hv) (m.putL hv (rr.set j r3))⟩
def OB (a b:WE)(s:Gj):WG:=λx ρ M q=>a ρ M λo M1=>b ρ M1 λi M2=>s o i x M2 λM3=>q ρ M3
instance {t u:TE}{s:Gk}{a b:WE}{w:Gj} [ia:IE K t a] [ib:IE K u b] [is:Ru K s w]:IG K (QS t u s) (OB a b w) where
 imp:=λx v ρ M σ H q Q o r h k=>ia.imp ρ M σ H _ _ o h λy M1 v1 H1 h1 t1 m1 r1=>ib.imp ρ M1 σ H1 _ _ (o.mv t1 m1) h1 λz M2 v2 H2 h2 t2 m2 r2=>is.imp y z x v1 v2 v M2 H2 _ _ m2 (r1.ts t2) r2 (r.ts (t1.trans t2)) h2 λM3 H3 h3 t3 m3=>k ρ M3 σ H3 h3 ((t1.trans t2).trans t3) (o.mv ((t1.trans t2).trans t3) m3)
def JT:WS:=λD ρ M=>D.nx ρ M
instance:IS K JM JT where
 imp:=λρ M σ H D' D o h e=>e.nx ρ M σ H h (aT.refl H) o
def Hi (a b:WS):WS:=λD ρ M=>a {D with nx:=b D} ρ M
instance {t u:TS}{a b:WS} [ia:IS K t a] [ib:IS K u b]:IS K (Li t u) (Hi a b) where
 imp:=λρ M σ H D' D o h e=>ia.imp ρ M σ H _ _ o h ⟨λρ' M' σ' H' h' ts o'=>ib.imp ρ' M' σ' H' D' D o' h' (e.mv ts),e.rt,e.bk,e.ct⟩
def JU (a:WE):WS:=λD ρ M=>a ρ M λ_ M1=>D.nx ρ M1
instance {t:TE}{a:WE} [ia:IE K t a]:IS K (JN t) (JU a) where
 imp:=λρ M σ H D' D o h e=>ia.imp ρ M σ H _ _ o h λx M1 v H1 h1 t1 m1 r1=>e.nx ρ M1 σ H1 h1 t1 (o.mv t1 m1)
def O6 (a:WE):WS:=λD ρ M=>a ρ M D.rt
instance {t:TE}{a:WE} [ia:IE K t a]:IS K (OM t) (O6 a) where
 imp:=λρ M σ H D' D o h e=>ia.imp ρ M σ H _ _ o h λx M1 v H1 h1 t1 m1 r1=>e.rt x M1 v H1 h1 t1 m1 r1
def Sj (c:WT)(a b:WS):WS:=λD ρ M=>c ρ M λk M1=>if k=true then a D ρ M1 else b D ρ M1
instance {tc:TT}{t u:TS}{c:WT}{a b:WS} [ic:IT K tc c] [ia:IS K t a] [ib:IS K u b]:IS K (OR tc t u) (Sj c a b) where
 imp:=λρ M σ H D' D o h e=>ic.imp ρ M σ H _ _ o h λk M1 H1 h1 t1 m1=>by
  cases k with
  | true=>simp only[bP] at h1 ⊢;exact ia.imp ρ M1 σ H1 D' D (o.mv t1 m1) h1 (e.mv t1)
  | false=>simp only[aw,bi] at h1 ⊢;exact ib.imp ρ M1 σ H1 D' D (o.mv t1 m1) h1 (e.mv t1)
def Pb (a:WE)(g:WG):WS:=λD ρ M=>a ρ M λx M1=>g x ρ M1 D.nx
instance {t:TE}{g:TG}{a:WE}{w:WG} [ia:IE K t a] [ig:IG K g w]:IS K (DZ t g) (Pb a w) where
 imp:=λρ M σ H D' D o h e=>ia.imp ρ M σ H _ _ o h λx M1 v H1 h1 t1 m1 r1=>ig.imp x v ρ M1 σ H1 _ _ (o.mv t1 m1) r1 h1 λρ2 M2 σ2 H2 h2 t2 o2=>e.nx ρ2 M2 σ2 H2 h2 (t1.trans t2) o2
class IIp (K:PySem.W.Frag) (t:NW) (w:outParam oR):Prop where
 imp: ∀ (x y:W) (v u:V) (M:Mp) (H:Hp) (q:WK) (Q:VK),e_ K M H ->WR K H x v ->WR K H y u ->w x y M q ->(∀x M' v H',q x M' ->aT H H' ->e_ K M' H' ->WR K H' x v ->Q v H') ->t v u H Q
instance {f:Int ->Int ->Int}:IIp K (ipI f) (TW λi j=> .int (f i j)) where
 imp:=by rintro x y v u M H q Q m r1 r2 ⟨i,j,rfl,rfl,h⟩ k;exact⟨i,j,r1.eq,r2.eq,k _ M _ H h (aT.refl H) m WR.v⟩
def Pa (i:Nat)(a:WE)(r:oR):WS:=λD ρ M=>eT i ρ M λx M=>a ρ M λy M1=>r x y M1 λz M2=>D.nx (ρ.set i (some z)) M2
instance {i:Nat}{t:TE}{ti:NW}{a:WE}{w:oR} [ia:IE K t a] [ir:IIp K ti w]:IS K (OX i t ti) (Pa i a w) where
 imp:=λρ M σ H D' D o h e=>by obtain⟨x,ex,h⟩:=Ds h;obtain⟨v,ev,rv⟩:=o.env.2 i x ex;exact⟨v,ev,ia.imp ρ M σ H _ _ o h λy M1 u H1 h1 t1 m1 r1=>ir.imp x y v u M1 H1 _ _ m1 (rv.ts t1) r1 h1 λz M2 w2 H2 h2 t2 m2 r2=>e.nx _ M2 _ H2 h2 (t1.trans t2) ⟨(o.env.ts (t1.trans t2)).set i r2,m2⟩⟩
def yw (a b c:WE):WS:=λD ρ M=>c ρ M λz M1=>a ρ M1 λx M2=>b ρ M2 λy M3=>dH λp kvs k=>fo (x=wr p) (M3 p=some (.dK kvs)) (y=gM k) (kvs.length<sizeLine) (D.nx ρ (um M3 p (.dK (ux kvs k z))))
instance {t u s:TE}{a b c:WE} [ia:IE K t a] [ib:IE K u b] [ic:IE K s c]:IS K (JV t u s) (yw a b c) where
 imp :=λρ M σ H D' D o h e=>ic.imp ρ M σ H _ _ o h λz M1 v1 H1 h1 t1 m1 r1=>ia.imp ρ M1 σ H1 _ _ (o.mv t1 m1) h1 λx M2 v2 H2 h2 t2 m2 r2=>ib.imp ρ M2 σ H2 _ _ (o.mv (t1.trans t2) m2) h2 λy M3 v3 H3 ⟨p,kvs,k,e1,e2,e3,hl,h3⟩ t3 m3 r3=>by subst e1 e3;obtain⟨ks,hk,rr⟩:=m3 p _ e2;have ts:=jg (u:= .dK (kF ks k v1)) hk;refine⟨p,_,r2.eq,?_,e.nx ρ _ σ (cq H3 p (.dK (kF ks k v1))) h3 (((t1.trans t2).trans t3).trans ts) (o.mv (((t1.trans t2).trans t3).trans ts) (m3.putD hk (KR.put (r1.ts (t2.trans t3)) rr)))⟩;rw[iH r3];exact GG.k hk (by rw[rr.length];exact hl)
def yx (a b:WE):WS:=λD ρ M=>a ρ M λx M1=>b ρ M1 λy M2=>dH λp kvs k=>fo (x=wr p) (M2 p=some (.dK kvs)) (y=gM k) ((eG kvs k).isSome=true) (D.nx ρ (um M2 p (.dK (ip kvs k))))
instance {t u:TE}{a b:WE} [ia:IE K t a] [ib:IE K u b]:IS K (JW t u) (yx a b) where
 imp :=λρ M σ H D' D o h e=>ia.imp ρ M σ H _ _ o h λx M2 v2 H2 h2 t2 m2 r2=>ib.imp ρ M2 σ H2 _ _ (o.mv t2 m2) h2 λy M3 v3 H3 ⟨p,kvs,k,e1,e2,e3,hl,h3⟩ t3 m3 r3=>by subst e1 e3;obtain⟨ks,hk,rr⟩:=m3 p _ e2;have ts:=jg (u:= .dK (jX ks k)) hk;exact⟨p,ks,k,r2.eq,hk,iH r3,by rw[rr.some];exact hl,e.nx ρ _ σ _ h3 ((t2.trans t3).trans ts) (o.mv ((t2.trans t3).trans ts) (m3.putD hk rr.drop))⟩
def zw (K:PySem.W.Frag)(H1:Hp)(J:It)(xs:List W)(keep:Mp ->Prop):Prop:=∀i M H,aT H1 H ->e_ K M H ->keep M ->(xs.length=i ->J.stop i H) /\ (i<xs.length ->J.go i H) /\ ∀v H',i<xs.length ->J.Nq i H v H' ->aT H H' /\ e_ K M H' /\ ∃x,xs[i]? =some x /\ WR K H' x v
class II (K:PySem.W.Frag) (t:TI) (w:outParam WI):Prop where
 imp: ∀ (ρ:cS) (M:Mp) (σ:St) (H:Hp) (q:List W ->(Mp ->Prop) ->Mp ->Prop) (R:It ->Hp ->Prop),Ok K ρ M σ H ->w ρ M q ->(∀xs keep J M' H',q xs keep M' ->aT H H' ->e_ K M' H' ->zw K H' J xs keep ->R J H') ->t σ H R
def Fe (a:WE):WI:=λρ M q=>a ρ M λx M1=>ca λp l=>cM (x=wr p) (M1 p=some (.lst l)) (q l (λM'=>M' p=some (.lst l)) M1)
def Qe (a:WE):WI:=λρ M q=>a ρ M λx M1=> ∃l,x= .tup l /\ q l (λ_=>True) M1
def gK (lo:Int)(n:Nat):List W:=(List.range n).map λ(k:Nat)=>wi (lo+(k:Int))
def Fd (a:WA):WI:=λρ M q=>a ρ M λxs M1=> ∃j:Int,eu (xs= [wi j]) (-(2 ^ 62) <=j) (j<2 ^ 62) (q (gK 0 j.toNat) (λ_=>True) M1)
theorem sX {H1:Hp}{p:Addr}{l:List W}:zw K H1 (Te K p) l (λM'=>M' p=some (.lst l)):=by intro i M H ts m hk;obtain⟨vs,hv,rr⟩:=m p _ hk;have hl:=rr.length;refine⟨λh=>⟨vs,gs.of hv, ∅⟩,λh=>⟨vs,vs[i]'∅,gs.of hv,by simp⟩,λv H' hi y=> ?_⟩;obtain⟨rfl,y⟩:=y;have:=y vs (gs.of hv);obtain⟨d,hd,r⟩:=rr.back this;exact⟨aT.refl _,m,d,hd,r⟩
theorem wS {H1:Hp}{p:Addr}{l:List W}{vs:List V}(hv:lr K H1 p vs)(rr:cy K H1 l vs):zw K H1 (Tc K p) l (λ_=>True):=by intro i M H ts m _;have Im:=Un.sqT ts hv;have JX:=rr.ts ts;have hl:=JX.length;refine⟨λh=>⟨vs,Im, ∅⟩,λh=>⟨vs,vs[i]'∅,Im,by simp⟩,λv H' hi y=> ?_⟩;obtain⟨rfl,y⟩:=y;have:=y vs Im;obtain⟨d,hd,r⟩:=JX.back this;exact⟨aT.refl _,m,d,hd,r⟩
theorem Fj {H1:Hp}{lo:Int}{n:Nat}:zw K H1 (Td lo n) (gK lo n) (λ_=>True):=by
 intro i M H ts m _;have hl:(gK lo n).length=n:=by simp[gK]
 rw[hl];refine⟨λh=>Nat.le_of_eq h,λh=>h,λv H' hi y=> ?_⟩;obtain⟨rfl,y⟩:=y;refine⟨aT.refl _,m,wi (lo+i),?_,by rw[y];exact WR.v⟩;simp[gK,hi]
instance {t:TE}{a:WE} [ia:IE K t a]:II K (Fk K t) (Fe a) where
 imp:=λρ M σ H q R o h k=>ia.imp ρ M σ H _ _ o h λx M1 v H1 ⟨p,l,e,hp,h1⟩ t1 m1 r1=>by subst e;obtain⟨vs,hv,rr⟩:=m1 p _ hp;exact⟨p,r1.eq,⟨vs,gs.of hv⟩,k l _ _ M1 H1 h1 t1 m1 sX⟩
instance {t:TE}{a:WE} [ia:IE K t a]:II K (Mn K t) (Qe a) where
 imp:=λρ M σ H q R o h k=>ia.imp ρ M σ H _ _ o h λx M1 v H1 ⟨l,e,h1⟩ t1 m1 r1=>by subst e;obtain⟨p,vs,rfl,hv,rr⟩:=r1.tup;exact⟨p,rfl,⟨vs,hv⟩,k l _ _ M1 H1 h1 t1 m1 (wS hv rr)⟩
instance {t:TA}{a:WA} [ia:IA K t a]:II K (Kq t) (Fd a) where
 imp:=λρ M σ H q R o h k=>ia.imp ρ M σ H _ _ o h λxs M1 v H1 ⟨j,e,h0,h1,h2⟩ t1 m1 r1=>by subst e;obtain⟨v,rfl,r⟩:=r1.one;cases r.eq;exact⟨j,rfl,h0,h1,k _ _ _ M1 H1 h2 t1 m1 Fj⟩
def O7 (it:WI)(g:WG)(b:WS):WS:=λD ρ M=>it ρ M λxs keep M1=> ∃I:Nat ->cS ->Mp ->Prop,eu (I 0 ρ M1) (∀i ρ M,i<=xs.length ->I i ρ M ->keep M) (∀i x ρ M,xs[i]? =some x ->I i ρ M ->g x ρ M λρ2 M2=>b {D with nx:=I (i+1),ct:=I (i+1),bk:=D.nx} ρ2 M2) (∀ρ M,I xs.length ρ M ->D.nx ρ M)
instance {ti:TI}{g:TG}{t:TS}{it:WI}{w:WG}{b:WS} [ii:II K ti it] [ig:IG K g w] [ib:IS K t b]:IS K (OU ti g t) (O7 it w b) where
 imp :=λρ M σ H D' D o h e=>ii.imp ρ M σ H _ _ o h λxs keep J M1 H1 h1 t1 m1 ok=>by obtain⟨I,h0,hk,hs,hd⟩:=h1;refine⟨λi m σ' H'=>m=xs.length - i /\ i<=xs.length /\ ca λρ' M'=>cM (I i ρ' M') (aT H1 H') (Ok K ρ' M' σ' H'),⟨_,rfl,cZ _,ρ,M1,h0,aT.refl _,o.mv t1 m1⟩,?_⟩;rintro i m σ' H' ⟨rfl,hi,ρ',M',hI,ts,o'⟩;obtain⟨k1,k2,k3⟩:=ok i M' H' ts o'.hp (hk i ρ' M' hi hI);by_cases kH:i<xs.length;refine .inr ⟨k2 kH,λσ2 H2=>ca λρ2 M2=>cM (I (i+1) ρ2 M2) (aT H1 H2) (Ok K ρ2 M2 σ2 H2),λσ2 H2 ⟨ρ2,M2,a,b,c⟩=>⟨xs.length - (i+1), ∅,rfl,kH,ρ2,M2,a,b,c⟩,λv H2 y=> ?_⟩;obtain⟨ty,my,x,hx,r⟩:=k3 v H2 kH y;replace ts:=ts.trans ty;refine ig.imp x v ρ' M' σ' H2 _ _ (o'.mv ty my) r (hs i x ρ' M' hx hI) λρ3 M3 σ3 H3 h3 t3 o3=>ib.imp ρ3 M3 σ3 H3 _ _ o3 h3 ⟨λa b c d h t o=>⟨a,b,h,(ts.trans t3).trans t,o⟩,λa b c d h t=>e.rt a b c d h (t1.trans ((ts.trans t3).trans t)),λa b c d h t=>e.nx a b c d h (t1.trans ((ts.trans t3).trans t)),λa b c d h t o=>⟨a,b,h,(ts.trans t3).trans t,o⟩⟩;have e':i=xs.length:= ∅;subst e';exact .inl ⟨k1 rfl,e.nx ρ' M' σ' H' (hd ρ' M' hI) (t1.trans ts) o'⟩
def mH (own:Nat)(fr:List Nat)(ρ:cS):cS:=List.replicate own none++fr.map λj=>(ρ[j]?).join
theorem G1.NU {H:Hp}{ρ:cS}{σ:St}(own:Nat)(fr:List Nat)(h:G1 K H ρ σ):G1 K H (mH own fr ρ) (ja own fr σ):=by
 unfold mH ja;refine⟨by simp,λi x e=> ?_⟩;by_cases hi:i<own;rw[aW ⇑hi,cQ,ak hi] at e;cases e;rw [aU ⇑hi,List.length_replicate,aG] at e;rw[aU ⇑hi,List.length_replicate,aG];cases ej:fr[i - own]? with
 | none=>rw[ej] at e;cases e
 | some j=>
  rw[ej] at e;simp only[cf,Option.some.injEq] at e ⊢;cases er:ρ[j]? with
  | none=>rw[er] at e;cases e
  | some z=>rw[er] at e;simp only[Option.join_some] at e;subst e;obtain⟨v,ev,r⟩:=h.2 j x er;exact⟨v,by rw[ev];rfl,r⟩
def Jy (it:WI)(own:Nat)(fr:List Nat)(g:WG)(c:WT)(el:WE):WE:=λρ M q=>it ρ M λxs keep M1=>xs.length<=sizeLine /\ ∀p,M1 p=none -> ∃I:Nat ->List W ->Mp ->Prop,eu (I 0 [] (um M1 p (.lst []))) (∀i ys M,i<=xs.length ->I i ys M ->keep M /\ M p=some (.lst ys) /\ ys.length<=i) (∀i x ys M,xs[i]? =some x ->I i ys M ->g x (mH own fr ρ) M λρ2 M2=>c ρ2 M2 λb M3=>if b=true then el ρ2 M3 λy M4=>M4 p=some (.lst ys) /\ I (i+1) (ys++ [y]) (um M4 p (.lst (ys++ [y]))) else I (i+1) ys M3) (∀ys M,I xs.length ys M ->q (wr p) M)
instance {ti:TI}{own:Nat}{fr:List Nat}{g:TG}{tc:TT}{te:TE}{it:WI}{w:WG}{c:WT}{el:WE} [ii:II K ti it] [ig:IG K g w] [ic:IT K tc c] [ie:IE K te el]:IE K (JP ti own fr g tc te) (Jy it own fr w c el) where
 imp :=λρ M σ H q Q o h k=>ii.imp ρ M σ H _ _ o h λxs keep J M1 H1 h1 t1 m1 ok=>by
  intro p hp;obtain⟨hz,h1⟩:=h1;obtain⟨I,h0,hk,hs,hd⟩:=h1 p (m1.fresh hp);have tp:=L2.fi.ts (bV (o:= .lst []) hp);refine⟨λi m vs H'=>m=xs.length - i /\ i<=xs.length /\ ca λys M'=>fo (I i ys M') (aT H1 H') (e_ K M' H') (cy K H' ys vs) (H' p=some (.lst vs)),⟨_,rfl,cZ _,[],_,h0,tp,m1.wE hp cy.nil,cy.nil,bI⟩,?_⟩;rintro i m vs H' ⟨rfl,hi,ys,M',hI,ts,m',rv,hv⟩;refine⟨hv,?_⟩;obtain⟨kp,hMp,hyl⟩:=hk i ys M' hi hI;obtain⟨k1,k2,k3⟩:=ok i M' H' ts m' kp;by_cases kH:i<xs.length;refine .inr ⟨k2 kH,by rw[rv.length];lia,λv H2 y=> ?_⟩;obtain⟨ty,my,x,hx,r⟩:=k3 v H2 kH y;replace ts:=ts.trans ty;have oc:Ok K (mH own fr ρ) M' (ja own fr σ) H2:=⟨(o.env.ts (t1.trans ts)).NU own fr,my⟩
  refine ig.imp x v _ M' _ H2 _ _ oc r (hs i x ys M' hx hI) λρ3 M3 σ3 H3 h3 t3 o3=>ic.imp ρ3 M3 σ3 H3 _ _ o3 h3 λb M4 H4 h4 t4 m4=> ?_;cases b with
  | true=>simp only[bP] at h4 ⊢;refine ie.imp ρ3 M4 σ3 H4 _ _ (o3.mv t4 m4) h4 λz M5 u H5 ⟨h5,h6⟩ t5 m5 r5=> ?_;obtain⟨JC,Il,Hk⟩:=m5 p _ h5;have Us:=(t3.trans t4).trans t5;have t6:=iA (u:= .lst (JC++ [u])) Il;exact⟨JC,Il,by rw[Hk.length];lia,_, ∅,rfl,kH,_,_,h6,(ts.trans Us).trans t6,m5.putL Il (Hk.snoc r5),(Hk.snoc r5).ts t6,bI⟩
  | false=>simp only[aw,bi] at h4 ⊢;obtain⟨JC,Il,Hk⟩:=m4 p _ (hk (i+1) ys M4 kH h4).2.1;exact⟨JC,_, ∅,rfl,kH,_,_,h4,ts.trans (t3.trans t4),m4,Hk,Il⟩
  have e':i=xs.length:= ∅;subst e';exact .inl ⟨k1 rfl,k _ M' _ H' (hd ys M' hI) (t1.trans ts) m' WR.v⟩
def N5:WT:=λ_ M q=>q true M
instance:IT K OK N5 where
 imp:=λρ M σ H q Q o h k=>k _ M H h (aT.refl H) o.hp
end
section
variable {K:PySem.W.Frag}
theorem e_.sub {M M':Mp}{H:Hp}(s:Sm M M')(m:e_ K M' H):e_ K M H:=λa o e=>m a o (s a o e)
theorem US {P:Program}{w:World}{mg:Str ->Option Value}{base:Heap}{x qual:Str}{st:Stmt}{f:Addr}{fd:FuncData}{N ps:List Str}{k:Nat}{p:fh}(F:xP K x qual st f fd)(S:cJ N ps (aO st))(len: ∀vs M q,p vs M q ->vs.length=ps.length) (ik: ∀ (cdv:Value) (A:Around) (outer:List Env) (s:Shared) (H:Hp) (E:XK),dG k (A.deeper (PyProof.Rows.envOfC qual (aO st) s.heap.objs.size f cdv)) ->∃t,vw (d4 eE P w K mg base N qual (aO st) f cdv A outer s H E).GJ (c5 st) t /\ ∃w',IS K t w' /\ ∀vs M q,p vs M q ->w' {nx:=λ_ M'=> ∃M0,Sm M0 M' /\ q wn M0,rt:=λx M'=> ∃M0,Sm M0 M' /\ q x M0} (vs.map some++List.replicate (N.length - vs.length) none) M): bx P w K mg base eE (k+1) f fd ps (fj K p):=by
 have h:=okW (K:=K) (P:=P) (w:=w) (mg:=mg) (base:=base) (k:=k) (p:=λvs M q=> ∃q',p vs M q' /\ q=λx M'=> ∃M0,Sm M0 M' /\ q' x M0) F S (λvs M q ⟨q',h,_⟩=>len vs M q' h) λcdv A outer s H E hr=>by obtain⟨t,h1,w',h2,h3⟩:=ik cdv A outer s H E hr;refine⟨t,w',h1,h2,?_⟩;rintro vs M q ⟨q',h,rfl⟩;exact h3 vs M q' h
 refine h.imp λvs H Q E ⟨xs,M,q,r,m,hp,hk⟩=>⟨xs,M,_,r,m,⟨q,hp,rfl⟩,?_⟩
 rintro x M' v H' ⟨M0,s,hq⟩ ts m' r';exact hk x M0 v H' hq ts (m'.sub s) r'
theorem CM {xs:List W}{keep:Mp ->Prop}{M1:Mp}{own:Nat}{fr:List Nat}{ρ:cS}{g:WG}{c:WT}{el:WE}{q:WK}(f:W ->Option W)(hz:xs.length<=sizeLine)(l_: ∀M,Sm M1 M ->keep M) (hs: ∀ (i:Nat) x,xs[i]? =some x -> ∀ (M:Mp) (N:Option W ->Mp ->Prop),Sm M1 M ->N (f x) M ->g x (mH own fr ρ) M λρ2 M2=>c ρ2 M2 λb M3=>if b=true then el ρ2 M3 λy M4=>N (some y) M4 else N none M3) (hq: ∀p,M1 p=none ->q (wr p) (um M1 p (.lst (xs.filterMap f)))): xs.length<=sizeLine /\ ∀p,M1 p=none -> ∃I:Nat ->List W ->Mp ->Prop,eu (I 0 [] (um M1 p (.lst []))) (∀i ys M,i<=xs.length ->I i ys M ->keep M /\ M p=some (.lst ys) /\ ys.length<=i) (∀i x ys M,xs[i]? =some x ->I i ys M ->g x (mH own fr ρ) M λρ2 M2=>c ρ2 M2 λb M3=>if b=true then el ρ2 M3 λy M4=>M4 p=some (.lst ys) /\ I (i+1) (ys++ [y]) (um M4 p (.lst (ys++ [y]))) else I (i+1) ys M3) (∀ys M,I xs.length ys M ->q (wr p) M):=by
 refine⟨hz,λp hp=>⟨λi ys M=>M=um M1 p (.lst ys) /\ ys=(xs.take i).filterMap f,⟨rfl,by simp⟩,?_,?_,?_⟩⟩;rintro i ys M hi ⟨rfl,rfl⟩;refine⟨l_ _ (bB hp),au,av (List.length_filterMap_le _ _) ?_⟩;rw[b0];lia;rintro i x ys M hx ⟨rfl,rfl⟩;refine hs i x hx _ (λo M4=>match o with
 | some y=>M4 p=some (.lst ((xs.take i).filterMap f)) /\ (um M4 p (.lst ((xs.take i).filterMap f++ [y]))=um M1 p (.lst ((xs.take i).filterMap f++ [y])) /\ (xs.take i).filterMap f++ [y]=(xs.take (i+1)).filterMap f)
 | none=>M4=um M1 p (.lst ((xs.take i).filterMap f)) /\ (xs.take i).filterMap f=(xs.take (i+1)).filterMap f) (bB hp) ?_
 have e:xs.take (i+1)=xs.take i++ [x]:=by rw[List.take_add_one,hx];rfl
 cases hf:f x with
 | none=>exact⟨rfl,by rw[e,List.filterMap_append];simp[hf]⟩
 | some y=>exact⟨au,kN,by rw[e,List.filterMap_append];simp[hf]⟩
 rintro ys M ⟨rfl,rfl⟩;rw[List.take_length];exact hq p hp
mutual
def CK:W ->Option Dt
 | .v .dC=>some .dC
 | .v (.bl b)=>some (.bl b)
 | .v (.int i)=>some (.int i)
 | .v (.str x)=>some (.str x)
 | .v _=>none
 | .tup l=>(kJ l).map .tup
def kJ:List W ->Option (List Dt)
 | []=>some []
 | x::r=>match CK x,kJ r with
  | some d,some l=>some (d::l)
  | _,_=>none
end
mutual
theorem Em {H:Hp}: ∀ (x:W) (d:Dt) (v:V),CK x=some d ->WR K H x v ->Rep K H d v
 | .v y,d,v,e,r=>by cases r.eq;cases y<;>simp only[CK,Option.some.injEq,reduceCtorEq] at e<;>subst e<;>simp only[Rep]
 | .tup l,d,v,e,r=>by
  obtain⟨a,vs,rfl,hv,rr⟩:=r.tup;simp only[CK] at e;cases hd:kJ l with
  | none=>rw[hd] at e;cases e
  | some ds=>rw[hd] at e;cases e;simp only[Rep];exact⟨a,vs,rfl,hv,uv l ds vs hd rr⟩
theorem uv {H:Hp}: ∀ (l:List W) (ds:List Dt) (vs:List V),kJ l=some ds ->cy K H l vs ->e9 K H ds vs
 | [],ds,vs,e,r=>by simp only[kJ] at e;cases e;simp only[cy] at r;simp only[e9];exact r
 | x ::l,ds,vs,e,r=>by
  simp only[kJ] at e;cases hx:CK x with
  | none=>rw[hx] at e;cases e
  | some d=>
   cases hl:kJ l with
   | none=>rw[hx,hl] at e;cases e
   | some CF=>rw[hx,hl] at e;cases e;simp only[cy] at r;obtain⟨v,t,rfl,r1,r2⟩:=r;simp only[e9];exact⟨v,t,rfl,Em x d v hx r1,uv l CF t hl r2⟩
end
def DR (M:Mp)(x:W)(d:Dt):Prop:=CK x=some d \/ dH λa l ds=>eu (x=wr a) (M a=some (.lst l)) (kJ l=some ds) (d= .lst ds)
theorem DR.rep {M:Mp}{H:Hp}{x:W}{d:Dt}{v:V}(m:e_ K M H)(r:WR K H x v)(h:DR M x d):Rep K H d v:=by rcases h with h | ⟨a,l,ds,rfl,hl,e,rfl⟩;exact Em x d v h r;cases r.eq;obtain⟨vs,hv,rr⟩:=m a _ hl;simp only[Rep];exact⟨a,vs,rfl,gs.of hv,uv l ds vs e rr⟩
def Om:oR:=λx y M q=>ca λd e=>fo (DR M x d) (DR M y e) (iC d e=true) (nG d<=50) (q (wb (qO d e)) M)
def K2:oR:=λx y M q=>ca λd e=>fo (DR M x d) (DR M y e) (iC d e=true) (nG d<=50) (q (wb (!qO d e)) M)
instance:IR K (Ly K) Om where
 imp:=by rintro x y v u M H q Q m r1 r2 ⟨d,e,h1,h2,h3,h4,h⟩ k;exact⟨d,e,h3,h4,h1.rep m r1,h2.rep m r2,k _ M _ H h (aT.refl H) m WR.v⟩
instance:IR K (wj K) K2 where
 imp:=by rintro x y v u M H q Q m r1 r2 ⟨d,e,h1,h2,h3,h4,h⟩ k;exact⟨d,e,h3,h4,h1.rep m r1,h2.rep m r2,k _ M _ H h (aT.refl H) m WR.v⟩
instance {r r':R2}{t u s:TE}{a b c:WE}{w w':oR} [ir:IR K r w] [ir':IR K r' w'] [ia:IE K t a] [ib:IE K u b] [ic:IE K s c]:IE K (yq r r' t u s) (DE w w' a b c) where
 imp :=λρ M σ H q Q o h k=>ia.imp ρ M σ H _ _ o h λx M1 v H1 h1 t1 m1 r1=>ib.imp ρ M1 σ H1 _ _ (o.mv t1 m1) h1 λy M2 u H2 h2 t2 m2 r2=>ir.imp x y v u M2 H2 _ _ m2 (r1.ts t2) r2 h2 λz M3 v3 H3 ⟨kk,e,h3⟩ t3 m3 r3=>by
  subst e;refine⟨kk,r3.eq,?_⟩;cases kk with
  | true=>simp only[bP] at h3 ⊢;exact ic.imp ρ M3 σ H3 _ _ (o.mv ((t1.trans t2).trans t3) m3) h3 λy4 M4 v4 H4 h4 t4 m4 r4=>ir'.imp y y4 u v4 M4 H4 _ _ m4 (r2.ts (t3.trans t4)) r4 h4 λz5 M5 v5 H5 h5 t5 m5 r5=>k z5 M5 v5 H5 h5 ((((t1.trans t2).trans t3).trans t4).trans t5) m5 r5
  | false=>simp only[aw,bi] at h3 ⊢;exact k _ M3 _ H3 h3 ((t1.trans t2).trans t3) m3 WR.v
def wIn (NF:Bool):oR:=λx y M q=>ca λ(z:V) (l:List V)=>fo (x= .v z) (y= .tup (l.map .v) \/ ∃a,y=wr a /\ M a=some (.lst (l.map .v))) (jM z=true) (l.all jM=true) (q (wb (if NF then !Ko z l else Ko z l)) M)
theorem cy.vals {H:Hp}: ∀ {l us:List V},cy K H (l.map .v) us ->us=l
 | [],us,h=>by simpa only[cG,cy] using h
 | n::r,vs,h=>by simp only[az,cy] at h;obtain⟨v,t,rfl,h1,h2⟩:=h;rw[cy.vals h2,h1.eq]
instance {NF:Bool}:IR K (Pk K NF) (wIn NF) where
 imp :=by rintro x y v u M H q Q m r1 r2 ⟨z,l,rfl,hy,h1,h2,h⟩ k;cases r1.eq;rcases hy with rfl | ⟨a,rfl,ha⟩;obtain⟨a,vs,rfl,hv,rr⟩:=r2.tup;cases rr.vals;exact⟨a,l,rfl, .inr hv,h1,h2,k _ M _ H h (aT.refl H) m WR.v⟩;cases r2.eq;obtain⟨vs,hv,rr⟩:=m a _ ha;cases rr.vals;exact⟨a,l,rfl, .inl (gs.of hv),h1,h2,k _ M _ H h (aT.refl H) m WR.v⟩
def Dx:zr:=λxs M q=>dH λ(d:Addr) (kvs:List (b8×W)) (ks:List Int)=>fo (xs= [wr d]) (M d=some (.dK kvs)) (kvs.map (·.1)=ks.map Sum.inl) (ks.length<=sizeLine) (∀ (p:Addr) (ns:List Int),M p=none ->ns.Perm ks ->ns.Pairwise (· <= ·) ->q (wr p) (um M p (.lst (ns.map wi))))
instance:IC K wg Dx where
 imp:=by rintro xs v M H q Q m r1 ⟨d,kvs,ks,rfl,hd,hk,hl,h⟩ k;obtain⟨v,rfl,r⟩:=r1.one;cases r.eq;obtain⟨vs,hv,rr⟩:=m d _ hd;exact⟨d,vs,ks,rfl,hv,by rw[rr.keys];exact hk,hl,λp ns hp h1 h2=>k _ _ _ _ (h p ns (m.fresh hp) h1 h2) (L2.fi.ts (bV hp)) (m.wE hp (cy.ofInts ns)) WR.v⟩
end
end WL
namespace WL
open PySem L2
theorem abx {α:Type}{a:α}{l:List α}:ix (a::l) 0=some a:=eD (j:=0) (by rfl)
theorem abw {α:Type}{a b:α}{l:List α}:ix (a::b::l) 1=some b:=eD (j:=1) (by rfl)
theorem abv {α:Type}{a b c:α}{l:List α}:ix (a::b::c::l) 2=some c:=eD (j:=2) (by rfl)
theorem abu {α:Type}{a b c d:α}{l:List α}:ix (a::b::c::d::l) 3=some d:=eD (j:=3) (by rfl)
theorem abo {n:Nat}:yd (n+1+1) 1=some 1:=by unfold yd;rw[ak ∅,ak ∅];rfl
theorem abn {n:Nat}:yd (n+1+1+1) 2=some 2:=by unfold yd;rw[ak ∅,ak ∅];rfl
theorem abm {n:Nat}:yd (n+1+1+1+1) 3=some 3:=by unfold yd;rw[ak ∅,ak ∅];rfl
theorem mL {α:Type}{l:List α}{i:Int}{a:α}(h0:0<=i)(h:l[i.toNat]? =some a):ix l i=some a:=by have e:((i.toNat:Nat):Int)=i:= ∅;rw[<- e];exact eD h
theorem fM {M:Mp}{P:Mp ->Prop}(h:P M): ∃M0,Sm M0 M /\ P M0:=⟨M,Sm.refl M,h⟩
def NB (d:Addr)(M M':Mp):Prop:= ∀b,b≠d ->M' b=M b
theorem NB.refl (d:Addr)(M:Mp):NB d M M:=λ_ _=>rfl
theorem NB.trans {d:Addr}{M M1 M2:Mp}(a:NB d M M1)(b:NB d M1 M2):NB d M M2:=λc n=>(b c n).trans (a c n)
theorem NB.put {d:Addr}{M:Mp}{o:MO}:NB d M (um M d o):=λb n=>aN n
def Dr (M:Mp)(d l:Addr):Prop:=fF λ(ns:List Int) (i c s:Int)=>eu (M d=some (.lst [wr l,wi i,wi c,wi s])) (M l=some (.lst (ns.map wi))) (0<=i) (d≠l)
theorem Dr.put {M:Mp}{d l p:Addr}{o:MO}(h:Dr M d l)(hp:M p=none):Dr (um M p o) d l:=by obtain⟨ns,i,c,s,h1,h2,h3,h4⟩:=h;exact⟨ns,i,c,s,by rw[aN (cb h1 hp)];exact h1,by rw[aN (cb h2 hp)];exact h2,h3,h4⟩
theorem Dr.LA {M:Mp}{d l p:Addr}{o:MO}(h:Dr M d l)(hd:p≠d)(hl:p≠l):Dr (um M p o) d l:=by obtain⟨ns,i,c,s,h1,h2,h3,h4⟩:=h;exact⟨ns,i,c,s,by rw[aN hd.symm];exact h1,by rw[aN hl.symm];exact h2,h3,h4⟩
theorem Dr.ne {M:Mp}{d l p:Addr}(h:Dr M d l)(hp:M p=none):p≠d /\ p≠l:=by obtain⟨ns,i,c,s,h1,h2,h3,h4⟩:=h;exact⟨(cb h1 hp).symm,(cb h2 hp).symm⟩
def bQ (q:Int×Int):W:= .tup [wi q.1,wi q.2]
def ft (l:List (Int×Int)):W:= .tup (l.map bQ)
theorem pairs_at {l:List (Int×Int)}{i:Nat}{x:W}(h:(l.map bQ)[i]? =some x): ∃q,l[i]? =some q /\ x=bQ q:=by
 rw[aG] at h;cases e:l[i]? with
 | none=>rw[e] at h;cases h
 | some q=>rw[e] at h;cases h;exact⟨q,rfl,rfl⟩
theorem wV {l:List Int}{i:Nat}{x:W}(h:(l.map wi)[i]? =some x): ∃n,l[i]? =some n /\ x=wi n:=by
 rw[aG] at h;cases e:l[i]? with
 | none=>rw[e] at h;cases h
 | some q=>rw[e] at h;cases h;exact⟨q,rfl,rfl⟩
theorem g_ {lo:Int}{n i:Nat}{x:W}(h:(gK lo n)[i]? =some x):i<n /\ x=wi (lo+i):=by unfold gK at h;rw[aG] at h;by_cases hi:i<n;rw[List.getElem?_range hi] at h;cases h;exact⟨hi,rfl⟩;rw[List.getElem?_eq_none ⇑hi] at h;cases h
theorem g0 {lo:Int}{n:Nat}:(gK lo n).length=n:=by simp[gK]
def lstK (o:Option MO)(k:List W ->Prop):Prop:= ∃l,o=some (.lst l) /\ k l
def gz (o:Option MO)(k:List (b8×W) ->Prop):Prop:= ∃l,o=some (.dK l) /\ k l
def lR {α:Type}(o:Option α)(k:α ->Prop):Prop:= ∃a,o=some a /\ k a
def dD (C Q:Prop):Prop:=C /\ Q
def h_ (b:Bool)(A B:Prop):Prop:=if b=true then A else B
def EU (M:Mp)(k:Addr ->Prop):Prop:= ∀p,M p=none ->k p
def qY (p:fh)(xs:List W)(M:Mp)(q:WK):Prop:=p xs M q
def NM (x:W)(M:Mp)(q:Bool ->Mp ->Prop):Prop:= ∃k,x=wb k /\ q k M
def dZ (x:W)(k:Addr ->Prop):Prop:= ∃a,x=wr a /\ k a
def tupK (x:W)(k:List W ->Prop):Prop:= ∃l,x= .tup l /\ k l
def kG (x:W)(k:b8 ->Prop):Prop:= ∃y,x=gM y /\ k y
def QX (xs:List W)(keep:Mp ->Prop)(g:WG)(b:WS)(D:eZ)(ρ:cS)(M1:Mp):Prop:= ∃I:Nat ->cS ->Mp ->Prop,eu (I 0 ρ M1) (∀i ρ M,i<=xs.length ->I i ρ M ->keep M) (∀i x ρ M,xs[i]? =some x ->I i ρ M ->g x ρ M λρ2 M2=>b {D with nx:=I (i+1),ct:=I (i+1),bk:=D.nx} ρ2 M2) (∀ρ M,I xs.length ρ M ->D.nx ρ M)
def xC (xs:List W)(keep:Mp ->Prop)(own:Nat)(fr:List Nat)(g:WG)(c:WT)(el:WE)(ρ:cS)(M1:Mp)(q:WK):Prop:=xs.length<=sizeLine /\ ∀p,M1 p=none -> ∃I:Nat ->List W ->Mp ->Prop,eu (I 0 [] (um M1 p (.lst []))) (∀i ys M,i<=xs.length ->I i ys M ->keep M /\ M p=some (.lst ys) /\ ys.length<=i) (∀i x ys M,xs[i]? =some x ->I i ys M ->g x (mH own fr ρ) M λρ2 M2=>c ρ2 M2 λb M3=>if b=true then el ρ2 M3 λy M4=>M4 p=some (.lst ys) /\ I (i+1) (ys++ [y]) (um M4 p (.lst (ys++ [y]))) else I (i+1) ys M3) (∀ys M,I xs.length ys M ->q (wr p) M)
section
variable {M:Mp}{ρ:cS}{q:WK}{a b c:WE}{D:eZ}
theorem U6 {l:List W}{k:List W ->Prop}:lstK (some (.lst l)) k=k l:=by apply propext;constructor;(· rintro⟨_,h,k⟩;cases h;exact k);(· intro h;exact⟨_,rfl,h⟩)
theorem aaV {l:List (b8×W)}{k:List (b8×W) ->Prop}:gz (some (.dK l)) k=k l:=by apply propext;constructor;(· rintro⟨_,h,k⟩;cases h;exact k);(· intro h;exact⟨_,rfl,h⟩)
theorem UQ {α:Type}{x:α}{k:α ->Prop}:lR (some x) k=k x:=by apply propext;constructor;(· rintro⟨_,h,k⟩;cases h;exact k);(· intro h;exact⟨_,rfl,h⟩)
theorem aa2 {Q:Prop}:dD True Q=Q:=by simp[dD]
theorem Ve {A B:Prop}:h_ true A B=A:=by simp[h_]
theorem Vf {A B:Prop}:h_ false A B=B:=by simp[h_]
theorem abq {k:Bool}{q:Bool ->Mp ->Prop}:NM (.v (.bl k)) M q=q k M:=by apply propext;constructor;(· rintro⟨_,h,k⟩;cases h;exact k);(· intro h;exact⟨_,rfl,h⟩)
theorem UI {x:Addr}{k:Addr ->Prop}:dZ (.v (.ref x)) k=k x:=by apply propext;constructor;(· rintro⟨_,h,k⟩;cases h;exact k);(· intro h;exact⟨_,rfl,h⟩)
theorem Uo {x:List W}{k:List W ->Prop}:tupK (.tup x) k=k x:=by apply propext;constructor;(· rintro⟨_,h,k⟩;cases h;exact k);(· intro h;exact⟨_,rfl,h⟩)
theorem U' {i:Int}{k:b8 ->Prop}:kG (.v (.int i)) k=k (.inl i):=by apply propext;constructor;(· rintro⟨y,h,z⟩;cases y<;>cases h;exact z);(· intro h;exact⟨.inl i,rfl,h⟩)
theorem U9 {i:Str}{k:b8 ->Prop}:kG (.v (.str i)) k=k (.inr i):=by apply propext;constructor;(· rintro⟨y,h,z⟩;cases y<;>cases h;exact z);(· intro h;exact⟨.inr i,rfl,h⟩)
theorem Tw {x:W}{r:cS}:eT 0 (some x::r) M q=q x M:=rfl
theorem Tv {x0:Option W}{x:W}{r:cS}:eT 1 (x0::some x::r) M q=q x M:=rfl
theorem Tu {x0 x1:Option W}{x:W}{r:cS}:eT 2 (x0::x1::some x::r) M q=q x M:=rfl
theorem Tt {x0 x1 x2:Option W}{x:W}{r:cS}:eT 3 (x0::x1::x2::some x::r) M q=q x M:=rfl
theorem Ts {x0 x1 x2 x3:Option W}{x:W}{r:cS}:eT 4 (x0::x1::x2::x3::some x::r) M q=q x M:=rfl
theorem Tr {x0 x1 x2 x3 x4:Option W}{x:W}{r:cS}:eT 5 (x0::x1::x2::x3::x4::some x::r) M q=q x M:=rfl
theorem Tq {x0 x1 x2 x3 x4 x5:Option W}{x:W}{r:cS}:eT 6 (x0::x1::x2::x3::x4::x5::some x::r) M q=q x M:=rfl
theorem Tp {x0 x1 x2 x3 x4 x5 x6:Option W}{x:W}{r:cS}:eT 7 (x0::x1::x2::x3::x4::x5::x6::some x::r) M q=q x M:=rfl
theorem To {x0 x1 x2 x3 x4 x5 x6 x7:Option W}{x:W}{r:cS}:eT 8 (x0::x1::x2::x3::x4::x5::x6::x7::some x::r) M q=q x M:=rfl
theorem Tn {x0 x1 x2 x3 x4 x5 x6 x7 x8:Option W}{x:W}{r:cS}:eT 9 (x0::x1::x2::x3::x4::x5::x6::x7::x8::some x::r) M q=q x M:=rfl
theorem RM {x0 x1 x2 x3 x4 x5 x6 x7 x8 x9:Option W}{x:W}{r:cS}:eT 10 (x0::x1::x2::x3::x4::x5::x6::x7::x8::x9::some x::r) M q=q x M:=rfl
theorem RL {x0 x1 x2 x3 x4 x5 x6 x7 x8 x9 oS:Option W}{x:W}{r:cS}:eT 11 (x0::x1::x2::x3::x4::x5::x6::x7::x8::x9::oS::some x::r) M q=q x M:=rfl
theorem RK {x0 x1 x2 x3 x4 x5 x6 x7 x8 x9 oS pS:Option W}{x:W}{r:cS}:eT 12 (x0::x1::x2::x3::x4::x5::x6::x7::x8::x9::oS::pS::some x::r) M q=q x M:=rfl
theorem RJ {x0 x1 x2 x3 x4 x5 x6 x7 x8 x9 oS pS rJ:Option W}{x:W}{r:cS}:eT 13 (x0::x1::x2::x3::x4::x5::x6::x7::x8::x9::oS::pS::rJ::some x::r) M q=q x M:=rfl
theorem RI {x0 x1 x2 x3 x4 x5 x6 x7 x8 x9 oS pS rJ t_:Option W}{x:W}{r:cS}:eT 14 (x0::x1::x2::x3::x4::x5::x6::x7::x8::x9::oS::pS::rJ::t_::some x::r) M q=q x M:=rfl
theorem RH {x0 x1 x2 x3 x4 x5 x6 x7 x8 x9 oS pS rJ t_ vA:Option W}{x:W}{r:cS}:eT 15 (x0::x1::x2::x3::x4::x5::x6::x7::x8::x9::oS::pS::rJ::t_::vA::some x::r) M q=q x M:=rfl
theorem RG {x0 x1 x2 x3 x4 x5 x6 x7 x8 x9 oS pS rJ t_ vA yg:Option W}{x:W}{r:cS}:eT 16 (x0::x1::x2::x3::x4::x5::x6::x7::x8::x9::oS::pS::rJ::t_::vA::yg::some x::r) M q=q x M:=rfl
theorem RF {x0 x1 x2 x3 x4 x5 x6 x7 x8 x9 oS pS rJ t_ vA yg Bw:Option W}{x:W}{r:cS}:eT 17 (x0::x1::x2::x3::x4::x5::x6::x7::x8::x9::oS::pS::rJ::t_::vA::yg::Bw::some x::r) M q=q x M:=rfl
theorem RE {x0 x1 x2 x3 x4 x5 x6 x7 x8 x9 oS pS rJ t_ vA yg Bw Dn:Option W}{x:W}{r:cS}:eT 18 (x0::x1::x2::x3::x4::x5::x6::x7::x8::x9::oS::pS::rJ::t_::vA::yg::Bw::Dn::some x::r) M q=q x M:=rfl
theorem RD {x0 x1 x2 x3 x4 x5 x6 x7 x8 x9 oS pS rJ t_ vA yg Bw Dn G5:Option W}{x:W}{r:cS}:eT 19 (x0::x1::x2::x3::x4::x5::x6::x7::x8::x9::oS::pS::rJ::t_::vA::yg::Bw::Dn::G5::some x::r) M q=q x M:=rfl
theorem RC {x0 x1 x2 x3 x4 x5 x6 x7 x8 x9 oS pS rJ t_ vA yg Bw Dn G5 K0:Option W}{x:W}{r:cS}:eT 20 (x0::x1::x2::x3::x4::x5::x6::x7::x8::x9::oS::pS::rJ::t_::vA::yg::Bw::Dn::G5::K0::some x::r) M q=q x M:=rfl
theorem RB {x0 x1 x2 x3 x4 x5 x6 x7 x8 x9 oS pS rJ t_ vA yg Bw Dn G5 K0 N1:Option W}{x:W}{r:cS}:eT 21 (x0::x1::x2::x3::x4::x5::x6::x7::x8::x9::oS::pS::rJ::t_::vA::yg::Bw::Dn::G5::K0::N1::some x::r) M q=q x M:=rfl
theorem RA {x0 x1 x2 x3 x4 x5 x6 x7 x8 x9 oS pS rJ t_ vA yg Bw Dn G5 K0 N1 Tj:Option W}{x:W}{r:cS}:eT 22 (x0::x1::x2::x3::x4::x5::x6::x7::x8::x9::oS::pS::rJ::t_::vA::yg::Bw::Dn::G5::K0::N1::Tj::some x::r) M q=q x M:=rfl
theorem Rz {x0 x1 x2 x3 x4 x5 x6 x7 x8 x9 oS pS rJ t_ vA yg Bw Dn G5 K0 N1 Tj x22:Option W}{x:W}{r:cS}:eT 23 (x0::x1::x2::x3::x4::x5::x6::x7::x8::x9::oS::pS::rJ::t_::vA::yg::Bw::Dn::G5::K0::N1::Tj::x22::some x::r) M q=q x M:=rfl
theorem abB {x:W}:wC x ρ M q=q x M:=rfl
theorem aa' {r:oR}:wOp r a b ρ M q=a ρ M λx M1=>b ρ M1 λy M2=>r x y M2 q:=rfl
theorem aa7 {r:W ->Mp ->WK ->Prop}:wUn r a ρ M q=a ρ M λx M1=>r x M1 q:=rfl
theorem abA {C:Int ->Int ->Prop}{g:Int ->Int ->V}{i j:Int}:wI C g (.v (.int i)) (.v (.int j)) M q=dD (C i j) (q (.v (g i j)) M):=by apply propext;constructor;(· rintro⟨_,_,h1,h2,k⟩;cases h1;cases h2;exact k);(· intro h;exact⟨_,_,rfl,rfl,h⟩)
theorem abe {g:Int ->Int ->V}{i j:Int}:TW g (.v (.int i)) (.v (.int j)) M q=q (.v (g i j)) M:=by apply propext;constructor;(· rintro⟨_,_,h1,h2,k⟩;cases h1;cases h2;exact k);(· intro h;exact⟨_,_,rfl,rfl,h⟩)
theorem abz {g:Int ->V}{i:Int}:wU g (.v (.int i)) M q=q (.v (g i)) M:=by apply propext;constructor;(· rintro⟨_,h,k⟩;cases h;exact k);(· intro h;exact⟨_,rfl,h⟩)
theorem abh {i j:Int}:T8 (.v (.int i)) (.v (.int j)) M q=q (wb (decide (i=j))) M:=by apply propext;constructor;(· rintro⟨_,_,h1,h2,_,k⟩;cases h1;cases h2;simpa using k);(· intro h;exact⟨_,_,rfl,rfl,rfl, ⇑h⟩)
theorem abb {i j:Int}:TF (.v (.int i)) (.v (.int j)) M q=q (wb (!decide (i=j))) M:=by apply propext;constructor;(· rintro⟨_,_,h1,h2,_,k⟩;cases h1;cases h2;simpa using k);(· intro h;exact⟨_,_,rfl,rfl,rfl, ⇑h⟩)
theorem abg {i j:Str}:T8 (.v (.str i)) (.v (.str j)) M q=q (wb (decide (i=j))) M:=by apply propext;constructor;(· rintro⟨_,_,h1,h2,_,k⟩;cases h1;cases h2;simpa using k);(· intro h;exact⟨_,_,rfl,rfl,rfl, ⇑h⟩)
theorem aba {i j:Str}:TF (.v (.str i)) (.v (.str j)) M q=q (wb (!decide (i=j))) M:=by apply propext;constructor;(· rintro⟨_,_,h1,h2,_,k⟩;cases h1;cases h2;simpa using k);(· intro h;exact⟨_,_,rfl,rfl,rfl, ⇑h⟩)
theorem RP {q:Bool ->Mp ->Prop}:Dv a ρ M q=a ρ M λx M1=>NM x M1 q:=rfl
theorem Ue {a b:WT}{q:Bool ->Mp ->Prop}:Oy a b ρ M q=a ρ M λc M1=>h_ c (b ρ M1 q) (q false M1):=rfl
theorem aa9 {a b:WT}{q:Bool ->Mp ->Prop}:wOr a b ρ M q=a ρ M λc M1=>h_ c (q true M1) (b ρ M1 q):=rfl
theorem TC {a:WT}{q:Bool ->Mp ->Prop}:Ob a ρ M q=a ρ M λc M1=>q (!c) M1:=rfl
theorem R1:JA a b ρ M q=a ρ M λx M1=>NM x M1 λc M1=>h_ c (b ρ M1 q) (q (wb false) M1):=rfl
theorem TB:Oa a b ρ M q=a ρ M λx M1=>NM x M1 λc M1=>h_ c (q (wb true) M1) (b ρ M1 q):=rfl
theorem RT:Js a ρ M q=a ρ M λx M1=>NM x M1 λc M1=>q (wb (!c)) M1:=rfl
theorem Ov {r r':oR}:DE r r' a b c ρ M q=a ρ M λx M1=>b ρ M1 λy M2=>r x y M2 λz M3=>NM z M3 λk M3=>h_ k (c ρ M3 λy' M4=>r' y y' M4 q) (q (wb false) M3):=rfl
theorem TD {q:List W ->Mp ->Prop}:Od ρ M q=q [] M:=rfl
theorem RY {r:WA}{q:List W ->Mp ->Prop}:Jx a r ρ M q=a ρ M λx M1=>r ρ M1 λxs M2=>q (x::xs) M2:=rfl
theorem Tx {a:WA}:N6 a ρ M q=a ρ M λxs M1=>dD (xs.length<=sizeLine) (q (.tup xs) M1):=rfl
theorem TH {a:WA}:Of a ρ M q=a ρ M λxs M1=>dD (xs.length<=sizeLine) (EU M1 λp=>q (wr p) (um M1 p (.lst xs))):=rfl
theorem TR {x:Addr}{i:Int}:Oi (.v (.ref x)) (.v (.int i)) M q=lstK (M x) λl=>lR (ix l i) λu=>q u M:=by apply propext;constructor;(· rintro⟨_,l,_,u,h1,h2,h3,h4,k⟩;cases h1;cases h2;exact⟨l,h3,u,h4,k⟩);(· rintro⟨l,h3,u,h4,k⟩;exact⟨_,l,_,u,rfl,rfl,h3,h4,k⟩)
theorem TN {l:List W}{i:Int}:Og (.tup l) (.v (.int i)) M q=lR (ix l i) λu=>q u M:=by apply propext;constructor;(· rintro⟨_,_,u,h1,h2,h4,k⟩;cases h1;cases h2;exact⟨u,h4,k⟩);(· rintro⟨u,h4,k⟩;exact⟨_,_,u,rfl,rfl,h4,k⟩)
theorem Nt {q:Option Int ->Mp ->Prop}:zN ρ M q=q none M:=rfl
def Cr (x:W)(k:Int ->Prop):Prop:= ∃i,x=wi i /\ k i
theorem Vh {i:Int}{k:Int ->Prop}:Cr (.v (.int i)) k=k i:=by apply propext;constructor;(· rintro⟨_,h,k⟩;cases h;exact k);(· intro h;exact⟨_,rfl,h⟩)
theorem RS {q:Option Int ->Mp ->Prop}:Jr a ρ M q=a ρ M λx M1=>Cr x λi=>q (some i) M1:=rfl
theorem aa8 {r:Ri}{lo hi:WO}:wSl r a lo hi ρ M q=a ρ M λx M1=>lo ρ M1 λl M2=>hi ρ M2 λu M3=>r x l u M3 q:=rfl
theorem abi {r:zr}{a:WA}:wCB r a ρ M q=a ρ M λxs M1=>r xs M1 q:=rfl
theorem R0 {p:fh}{a:WA}:Jz p a ρ M q=a ρ M λxs M1=>qY p xs M1 q:=rfl
theorem TK {x:Addr}:K3 [.v (.ref x)] M q=lstK (M x) λl=>q (wi l.length) M:=by apply propext;constructor;(· rintro(⟨_,l,h1,h2,k⟩ | ⟨_,h1,_⟩);(· cases h1;exact⟨l,h2,k⟩);cases h1);(· rintro⟨l,h3,k⟩;exact .inl ⟨_,l,rfl,h3,k⟩)
theorem TJ {l:List W}:K3 [.tup l] M q=q (wi l.length) M:=by apply propext;constructor;(· rintro(⟨_,l,h1,h2,k⟩ | ⟨_,h1,k⟩);(· cases h1);cases h1;exact k);(· intro k;exact .inr ⟨l,rfl,k⟩)
theorem Ug {i:Int}:Oz [.v (.int i)] M q=q (wi (if i<0 then -i else i)) M:=by apply propext;constructor;(· rintro⟨_,h,k⟩;cases h;exact k);(· intro h;exact⟨_,rfl,h⟩)
theorem Nv {x:Addr}:ua [.v (.ref x)] M q=lstK (M x) λl=>EU M λp=>q (wr p) (um M p (.lst l)):=by apply propext;constructor;(· rintro⟨l,⟨_,h1,h2⟩ | h1,k⟩;(· cases h1;exact⟨l,h2,k⟩);cases h1);(· rintro⟨l,h3,k⟩;exact⟨l, .inl ⟨_,rfl,h3⟩,k⟩)
theorem Nu {l:List W}:ua [.tup l] M q=EU M λp=>q (wr p) (um M p (.lst l)):=by apply propext;constructor;(· rintro⟨l,⟨_,h1,h2⟩ | h1,k⟩;(· cases h1);cases h1;exact k);(· intro k;exact⟨l, .inr rfl,k⟩)
theorem K1 {x:Addr}:vC [.v (.ref x)] M q=lstK (M x) λl=>q (.tup l) M:=by apply propext;constructor;(· rintro⟨l,⟨_,h1,h2⟩ | h1,k⟩;(· cases h1;exact⟨l,h2,k⟩);cases h1);(· rintro⟨l,h3,k⟩;exact⟨l, .inl ⟨_,rfl,h3⟩,k⟩)
theorem TU {K:PySem.W.Frag}{x:W}{T:String}:Oj K [x, .v (.ty T)] M q=lR (Sa M x) λt=>lR (PySem.W.kitOne K t (.type T)) λb=>q (wb b) M:=by apply propext;constructor;(· rintro⟨_,_,t,b,h1,h2,h3,k⟩;cases h1;exact⟨t,h2,b,h3,k⟩);(· rintro⟨t,h2,b,h3,k⟩;exact⟨_,_,t,b,rfl,h2,h3,k⟩)
theorem Km {K:PySem.W.Frag}:PySem.W.kitOne K (.type "int") (.type "int")=some true:=rfl
theorem Ib {K:PySem.W.Frag}:PySem.W.kitOne K (.type "int") (.type "bool")=some false:=rfl
theorem Kl {K:PySem.W.Frag}:PySem.W.kitOne K (.type "int") (.type "str")=some false:=rfl
theorem GR {K:PySem.W.Frag}:PySem.W.kitOne K (.type "int") (.type "tuple")=some false:=rfl
theorem Ia {K:PySem.W.Frag}:PySem.W.kitOne K (.type "int") (.type "list")=some false:=rfl
theorem Ig {K:PySem.W.Frag}:PySem.W.kitOne K (.type "bool") (.type "int")=some true:=rfl
theorem GU {K:PySem.W.Frag}:PySem.W.kitOne K (.type "bool") (.type "bool")=some true:=rfl
theorem Ie {K:PySem.W.Frag}:PySem.W.kitOne K (.type "bool") (.type "str")=some false:=rfl
theorem Fa {K:PySem.W.Frag}:PySem.W.kitOne K (.type "bool") (.type "tuple")=some false:=rfl
theorem GS {K:PySem.W.Frag}:PySem.W.kitOne K (.type "bool") (.type "list")=some false:=rfl
theorem Kk {K:PySem.W.Frag}:PySem.W.kitOne K (.type "str") (.type "int")=some false:=rfl
theorem HY {K:PySem.W.Frag}:PySem.W.kitOne K (.type "str") (.type "bool")=some false:=rfl
theorem Kj {K:PySem.W.Frag}:PySem.W.kitOne K (.type "str") (.type "str")=some true:=rfl
theorem GO {K:PySem.W.Frag}:PySem.W.kitOne K (.type "str") (.type "tuple")=some false:=rfl
theorem HX {K:PySem.W.Frag}:PySem.W.kitOne K (.type "str") (.type "list")=some false:=rfl
theorem Cj {K:PySem.W.Frag}:PySem.W.kitOne K (.type "NoneType") (.type "int")=some false:=rfl
theorem AQ {K:PySem.W.Frag}:PySem.W.kitOne K (.type "NoneType") (.type "bool")=some false:=rfl
theorem Ci {K:PySem.W.Frag}:PySem.W.kitOne K (.type "NoneType") (.type "str")=some false:=rfl
theorem yX {K:PySem.W.Frag}:PySem.W.kitOne K (.type "NoneType") (.type "tuple")=some false:=rfl
theorem AO {K:PySem.W.Frag}:PySem.W.kitOne K (.type "NoneType") (.type "list")=some false:=rfl
theorem GN {K:PySem.W.Frag}:PySem.W.kitOne K (.type "tuple") (.type "int")=some false:=rfl
theorem E9 {K:PySem.W.Frag}:PySem.W.kitOne K (.type "tuple") (.type "bool")=some false:=rfl
theorem GL {K:PySem.W.Frag}:PySem.W.kitOne K (.type "tuple") (.type "str")=some false:=rfl
theorem Dg {K:PySem.W.Frag}:PySem.W.kitOne K (.type "tuple") (.type "tuple")=some true:=rfl
theorem E8 {K:PySem.W.Frag}:PySem.W.kitOne K (.type "tuple") (.type "list")=some false:=rfl
theorem H_ {K:PySem.W.Frag}:PySem.W.kitOne K (.type "list") (.type "int")=some false:=rfl
theorem GQ {K:PySem.W.Frag}:PySem.W.kitOne K (.type "list") (.type "bool")=some false:=rfl
theorem HZ {K:PySem.W.Frag}:PySem.W.kitOne K (.type "list") (.type "str")=some false:=rfl
theorem E_ {K:PySem.W.Frag}:PySem.W.kitOne K (.type "list") (.type "tuple")=some false:=rfl
theorem GP {K:PySem.W.Frag}:PySem.W.kitOne K (.type "list") (.type "list")=some true:=rfl
theorem abj {r:WM}{b:WA}:Uc r a b ρ M q=a ρ M λx M1=>dZ x λp=>lstK (M1 p) λ_=>b ρ M1 λxs M2=>r x xs M2 q:=by unfold Uc IsL dZ lstK;congr 1;funext x M1;apply propext;constructor;(· rintro⟨⟨p,l,h1,h2⟩,k⟩;exact⟨p,h1,l,h2,k⟩);(· rintro⟨p,h1,l,h2,k⟩;exact⟨⟨p,l,h1,h2⟩,k⟩)
theorem Ub {r:WM}:K9 r a ρ M q=a ρ M λx M1=>dZ x λp=>lstK (M1 p) λ_=>r x [] M1 q:=by unfold K9 IsL dZ lstK;congr 1;funext x M1;apply propext;constructor;(· rintro⟨⟨p,l,h1,h2⟩,k⟩;exact⟨p,h1,l,h2,k⟩);(· rintro⟨p,h1,l,h2,k⟩;exact⟨⟨p,l,h1,h2⟩,k⟩)
theorem Ny {x:Addr}{y:W}:zP (.v (.ref x)) [y] M q=lstK (M x) λl=>dD (l.length<sizeLine) (q wn (um M x (.lst (l++ [y])))):=by apply propext;constructor;(· rintro⟨_,l,_,h1,h2,h3,h4,k⟩;cases h1;cases h2;exact⟨l,h3,h4,k⟩);(· rintro⟨l,h3,h4,k⟩;exact⟨_,l,_,rfl,rfl,h3,h4,k⟩)
theorem Nw {x y:Addr}:zO (.v (.ref x)) [.v (.ref y)] M q=lstK (M x) λl=>lstK (M y) λl'=>dD (l.length+l'.length<=sizeLine) (q wn (um M x (.lst (l++l')))):=by apply propext;constructor;(· rintro⟨_,_,l,l',h1,h2,h3,h4,h5,k⟩;cases h1;cases h2;exact⟨l,h3,l',h4,h5,k⟩);(· rintro⟨l,h3,l',h4,h5,k⟩;exact⟨_,_,l,l',rfl,rfl,h3,h4,h5,k⟩)
theorem T_ {x y:Addr}:Ow (.v (.ref x)) (.v (.ref y)) M q=lstK (M x) λl=>lstK (M y) λl'=>dD (l.length+l'.length<=sizeLine) (EU M λp=>q (wr p) (um M p (.lst (l++l')))):=by apply propext;constructor;(· rintro⟨_,_,l,l',h1,h2,h3,h4,h5,k⟩;cases h1;cases h2;exact⟨l,h3,l',h4,h5,k⟩);(· rintro⟨l,h3,l',h4,h5,k⟩;exact⟨_,_,l,l',rfl,rfl,h3,h4,h5,k⟩)
theorem RW:Jw ρ M q=EU M λp=>q (wr p) (um M p (.dK [])):=rfl
theorem RX:DB a b ρ M q=a ρ M λx M1=>b ρ M1 λy M2=>dZ x λp=>kG y λk=>gz (M2 p) λkvs=>lR (eG kvs k) λz=>q z M2:=by unfold DB dZ kG gz lR;congr 1;funext x M1;congr 1;funext y M2;apply propext;constructor;(· rintro⟨p,kvs,k,z,h1,h2,h3,h4,h⟩;exact⟨p,h1,k,h3,kvs,h2,z,h4,h⟩);(· rintro⟨p,h1,k,h3,kvs,h2,z,h4,h⟩;exact⟨p,kvs,k,z,h1,h2,h3,h4,h⟩)
theorem T9:K7 a b ρ M q=a ρ M λy M1=>b ρ M1 λx M2=>dZ x λp=>kG y λk=>gz (M2 p) λkvs=>q (wb (eG kvs k).isSome) M2:=by unfold K7 dZ kG gz;congr 1;funext x M1;congr 1;funext y M2;apply propext;constructor;(· rintro⟨p,kvs,k,h1,h2,h3,h⟩;exact⟨p,h1,k,h3,kvs,h2,h⟩);(· rintro⟨p,h1,k,h3,kvs,h2,h⟩;exact⟨p,kvs,k,h1,h2,h3,h⟩)
theorem Nx:ub a b ρ M q=a ρ M λy M1=>b ρ M1 λx M2=>dZ x λp=>kG y λk=>gz (M2 p) λkvs=>q (wb (!(eG kvs k).isSome)) M2:=by unfold ub dZ kG gz;congr 1;funext x M1;congr 1;funext y M2;apply propext;constructor;(· rintro⟨p,kvs,k,h1,h2,h3,h⟩;exact⟨p,h1,k,h3,kvs,h2,h⟩);(· rintro⟨p,h1,k,h3,kvs,h2,h⟩;exact⟨p,kvs,k,h1,h2,h3,h⟩)
theorem Oq:yk a b c ρ M q=a ρ M λx M1=>dZ x λp=>gz (M1 p) λ_=>b ρ M1 λy M2=>c ρ M2 λz M3=>kG y λk=>gz (M3 p) λkvs=>q ((eG kvs k).getD z) M3:=by
 unfold yk dZ kG gz;congr 1;funext x M1;apply propext;constructor;rintro⟨p,h1,⟨kvs,h2⟩,h⟩;refine⟨p,h1,kvs,h2,?_⟩;have e:(λy M2=>c ρ M2 λz M3=>ca λkvs k=>cM (M3 p=some (.dK kvs)) (y=gM k) (q ((eG kvs k).getD z) M3))=(λy M2=>c ρ M2 λz M3=> ∃k,y=gM k /\ ∃kvs,M3 p=some (.dK kvs) /\ q ((eG kvs k).getD z) M3):=by funext y M2;congr 1;funext z M3;apply propext;constructor;rintro⟨a,b,c,d,e⟩;exact⟨b,d,a,c,e⟩;rintro⟨b,d,a,c,e⟩;exact⟨a,b,c,d,e⟩
 rw[<- e];exact h;rintro⟨p,h1,kvs,h2,h⟩;refine⟨p,h1,⟨kvs,h2⟩,?_⟩;have e:(λy M2=>c ρ M2 λz M3=>ca λkvs k=>cM (M3 p=some (.dK kvs)) (y=gM k) (q ((eG kvs k).getD z) M3))=(λy M2=>c ρ M2 λz M3=> ∃k,y=gM k /\ ∃kvs,M3 p=some (.dK kvs) /\ q ((eG kvs k).getD z) M3):=by funext y M2;congr 1;funext z M3;apply propext;constructor;rintro⟨a,b,c,d,e⟩;exact⟨b,d,a,c,e⟩;rintro⟨b,d,a,c,e⟩;exact⟨a,b,c,d,e⟩
 rw[e];exact h
theorem bn {a b:WS}:Hi a b D ρ M=a {nx:=b D,rt:=D.rt,bk:=D.bk,ct:=D.ct} ρ M:=rfl
theorem Si:JT D ρ M=D.nx ρ M:=rfl
theorem Sl:JU a D ρ M=a ρ M λ_ M1=>D.nx ρ M1:=rfl
theorem UB:O6 a D ρ M=a ρ M D.rt:=rfl
theorem abk {c:WT}{a b:WS}:Sj c a b D ρ M=c ρ M λk M1=>h_ k (a D ρ M1) (b D ρ M1):=rfl
theorem UE {g:WG}:Pb a g D ρ M=a ρ M λx M1=>g x ρ M1 D.nx:=rfl
theorem UD {i:Nat}{r:oR}:Pa i a r D ρ M=eT i ρ M λx M=>a ρ M λy M1=>r x y M1 λz M2=>D.nx (ρ.set i (some z)) M2:=rfl
theorem O9:yw a b c D ρ M=c ρ M λz M1=>a ρ M1 λx M2=>b ρ M2 λy M3=>dZ x λp=>kG y λk=>gz (M3 p) λkvs=>dD (kvs.length<sizeLine) (D.nx ρ (um M3 p (.dK (ux kvs k z)))):=by unfold yw dZ kG gz dD;congr 1;funext z M1;congr 1;funext x M2;congr 1;funext y M3;apply propext;constructor;(· rintro⟨p,kvs,k,h1,h2,h3,h4,h⟩;exact⟨p,h1,k,h3,kvs,h2,h4,h⟩);(· rintro⟨p,h1,k,h3,kvs,h2,h4,h⟩;exact⟨p,kvs,k,h1,h2,h3,h4,h⟩)
theorem UC {it:WI}{g:WG}{b:WS}:O7 it g b D ρ M=it ρ M λxs keep M1=>QX xs keep g b D ρ M1:=rfl
theorem R9 {i:Nat}{x:W}{q:cS ->Mp ->Prop}:JD i x ρ M q=q (ρ.set i (some x)) M:=rfl
theorem Uk {q:cS ->Mp ->Prop}:K_ [] ρ M q=q ρ M:=by simp[K_]
theorem R_ {a:WG}{b:Ja}{x:W}{r:List W}{q:cS ->Mp ->Prop}:JE a b (x::r) ρ M q=a x ρ M λρ' M'=>b r ρ' M' q:=by apply propext;constructor;(· rintro⟨_,_,h,k⟩;cases h;exact k);(· intro h;exact⟨_,_,rfl,h⟩)
theorem Ui {n:Nat}{a:Ja}{l:List W}{q:cS ->Mp ->Prop}:OA n a (.tup l) ρ M q=dD (l.length=n) (a l ρ M q):=by apply propext;constructor;(· rintro⟨_,h,k,l⟩;cases h;exact⟨k,l⟩);(· rintro⟨h,l⟩;exact⟨_,rfl,h,l⟩)
theorem Uj {s:Gj}{x:W}{q:cS ->Mp ->Prop}:OB a b s x ρ M q=a ρ M λo M1=>b ρ M1 λi M2=>s o i x M2 λM3=>q ρ M3:=rfl
theorem RQ {x:Addr}{i:Int}{z:W}{q:Mp ->Prop}:Jq (.v (.ref x)) (.v (.int i)) z M q=lstK (M x) λl=>lR (yd l.length i) λj=>q (um M x (.lst (l.set j z))):=by apply propext;constructor;(· rintro⟨_,l,_,j,h1,h2,h3,h4,k⟩;cases h1;cases h2;exact⟨l,h3,j,h4,k⟩);(· rintro⟨l,h3,j,h4,k⟩;exact⟨_,l,_,j,rfl,rfl,h3,h4,k⟩)
theorem SK {q:List W ->(Mp ->Prop) ->Mp ->Prop}:Fe a ρ M q=a ρ M λx M1=>dZ x λp=>lstK (M1 p) λl=>q l (λM'=>M' p=some (.lst l)) M1:=by unfold Fe dZ lstK;congr 1;funext x M1;apply propext;constructor;(· rintro⟨p,l,h1,h2,h⟩;exact⟨p,h1,l,h2,h⟩);(· rintro⟨p,h1,l,h2,h⟩;exact⟨p,l,h1,h2,h⟩)
theorem Vb {q:List W ->(Mp ->Prop) ->Mp ->Prop}:Qe a ρ M q=a ρ M λx M1=>tupK x λl=>q l (λ_=>True) M1:=rfl
def L0 (xs:List W)(k:W ->Prop):Prop:= ∃x,xs= [x] /\ k x
theorem UR {x:W}{k:W ->Prop}:L0 [x] k=k x:=by apply propext;constructor;(· rintro⟨_,h,k⟩;cases h;exact k);(· intro h;exact⟨_,rfl,h⟩)
theorem SJ {a:WA}{q:List W ->(Mp ->Prop) ->Mp ->Prop}:Fd a ρ M q=a ρ M λxs M1=>L0 xs λx=>Cr x λj=>dD (-(2 ^ 62) <=j /\ j<2 ^ 62) (q (gK 0 j.toNat) (λ_=>True) M1):=by unfold Fd L0 Cr dD;congr 1;funext x M1;apply propext;constructor;(· rintro⟨j,h1,h2,h3,h⟩;exact⟨_,h1,j,rfl,⟨h2,h3⟩,h⟩);(· rintro⟨_,h1,j,rfl,⟨h2,h3⟩,h⟩;exact⟨j,h1,h2,h3,h⟩)
theorem RZ {it:WI}{own:Nat}{fr:List Nat}{g:WG}{c:WT}{el:WE}:Jy it own fr g c el ρ M q=it ρ M λxs keep M1=>xC xs keep own fr g c el ρ M1 q:=rfl
theorem Tl {q:Bool ->Mp ->Prop}:N5 ρ M q=q true M:=rfl
end
theorem sl1:(1<=sizeLine)=True:=by rw[sizeLine_eq];decide
theorem Ux:(2<=sizeLine)=True:=by rw[sizeLine_eq];decide
theorem sl3:(3<=sizeLine)=True:=by rw[sizeLine_eq];decide
theorem sl4:(4<=sizeLine)=True:=by rw[sizeLine_eq];decide
theorem sl5:(5<=sizeLine)=True:=by rw[sizeLine_eq];decide
theorem sl0:(0<=sizeLine)=True:=by simp
theorem dF {c A B:Prop} [Decidable c](h1:c ->A)(h2:¬c ->B):h_ (decide c) A B:=by unfold h_;by_cases h:c;rw[ak (cE h)];exact h1 h;rw[aj ⇑h];exact h2 h
theorem Ml {c A B:Prop} [Decidable c](h1:¬c ->A)(h2:c ->B):h_ (!decide c) A B:=by unfold h_;by_cases h:c;rw[aj ⇑h];exact h2 h;rw[ak ⇑h];exact h1 h
theorem gk {xs:List W}{keep:Mp ->Prop}{M1:Mp}{own:Nat}{fr:List Nat}{ρ:cS}{g:WG}{c:WT}{el:WE}{q:WK}(f:W ->Option W)(hz:xs.length<=sizeLine)(l_: ∀M,Sm M1 M ->keep M) (hs: ∀ (i:Nat) x,xs[i]? =some x -> ∀ (M:Mp) (N:Option W ->Mp ->Prop),Sm M1 M ->N (f x) M ->g x (mH own fr ρ) M λρ2 M2=>c ρ2 M2 λb M3=>h_ b (el ρ2 M3 λy M4=>N (some y) M4) (N none M3)) (hq: ∀p,M1 p=none ->q (wr p) (um M1 p (.lst (xs.filterMap f)))):xC xs keep own fr g c el ρ M1 q:=CM f hz l_ hs hq
end WL
namespace WL
def hold (f:cS ->Mp ->Prop)(ρ:cS)(M:Mp):Prop:=f ρ M
theorem eo {f:cS ->Mp ->Prop}{ρ:cS}{M:Mp}(h:f ρ M):hold f ρ M:=h
theorem cg {a b:WS}{D:eZ}{ρ:cS}{M:Mp}:Hi a b D ρ M=a {nx:=hold (b D),rt:=D.rt,bk:=D.bk,ct:=D.ct} ρ M:=rfl
theorem uU {c:WT}{a b R:WS}{D:eZ}{ρ:cS}{M:Mp}(Mid:cS ->Mp ->Prop)(dh: ∀ρ M,Mid ρ M ->R D ρ M)(h: ∀N:cS ->Mp ->Prop,(∀ρ M,Mid ρ M ->N ρ M) ->Sj c a b {nx:=N,rt:=D.rt,bk:=D.bk,ct:=D.ct} ρ M):Hi (Sj c a b) R D ρ M:=h _ dh
theorem jL {xs:List W}{keep:Mp ->Prop}{g:WG}{b:WS}{D:eZ}{ρ:cS}{M1:Mp}(I:Nat ->cS ->Mp ->Prop)(h0:I 0 ρ M1)(hk: ∀i ρ M,i<=xs.length ->I i ρ M ->keep M) (hs: ∀i x ρ M,xs[i]? =some x ->I i ρ M -> ∀N:cS ->Mp ->Prop,(∀ρ' M',I (i+1) ρ' M' ->N ρ' M') ->g x ρ M λρ2 M2=>b {nx:=N,rt:=D.rt,bk:=D.nx,ct:=N} ρ2 M2) (hd: ∀ρ M,I xs.length ρ M ->D.nx ρ M):QX xs keep g b D ρ M1:=⟨I,h0,hk,λi x ρ M hx hI=>hs i x ρ M hx hI _ λ_ _ h=>h,hd⟩
end WL
namespace WL
open L2
def Lr:WS:=λ_ _ _=>False
instance {K:PySem.W.Frag}:IS K DQ Lr where
 imp:=λ_ _ _ _ _ _ _ h _=>h.elim
end WL
namespace WP
open PySem L2 WL
abbrev Pt:=List (Int×Int)
def look:Pt ->Int ->Int
 | [],_=>0
 | q::r,x=>if q.1=x then q.2 else look r x
def df (p:Int)(l:Pt):Prop:=(∀q∈l,0<q.2 /\ q.2<p) /\ l.Pairwise (λa b=>a.1<b.1)
def ez:Pt ->Int ->Int
 | [],_=>0
 | q::r,x=>(if q.1=x then q.2 else 0)+ez r x
theorem fb (a b:Pt)(x:Int):ez (a++b) x=ez a x+ez b x:=by
 induction a with
 | nil=>simp[ez]
 | cons q r ih=>rw[List.cons_append,ez,ez,ih];lia
theorem pY (a:Pt)(q:Int×Int)(x:Int):ez (a++ [q]) x=ez a x+if q.1=x then q.2 else 0:=by rw[fb];simp[ez]
theorem fw {l:Pt}{x:Int}(h: ∀q∈l,q.1≠x):look l x=0:=by
 induction l with
 | nil=>rfl
 | cons q r ih=>rw[look,aj (h q (by simp)),ih λz hz=>h z (by simp[hz])]
theorem lz {l:Pt}(h:l.Pairwise (λa b=>a.1<b.1))(x:Int):ez l x=look l x:=by
 induction l with
 | nil=>rfl
 | cons q r ih=>rw[bO] at h;rw[ez,look,ih h.2];by_cases e:q.1=x;rw[ak e,ak e,fw];lia;intro z hz;have:=h.1 z hz;lia;rw[aj e,aj e];lia
theorem yU {p:Int}{l:Pt}(hp:0<p)(h:df p l)(x:Int):0<=look l x /\ look l x<p:=by
 induction l with
 | nil=>rw[look];lia
 | cons q r ih=>rw[look];split;have:=h.1 q (by simp);lia;exact ih ⟨λz hz=>h.1 z (by simp[hz]),(bO.mp h.2).2⟩
theorem df.tail {p:Int}{q:Int×Int}{r:Pt}(h:df p (q::r)):df p r:=⟨λz hz=>h.1 z (by simp[hz]),(bO.mp h.2).2⟩
theorem df.nil {p:Int}:df p []:=⟨λ_ h=>absurd h (by simp),List.Pairwise.nil⟩
theorem pG {p p':Int}: ∀ {a b:Pt},df p a ->df p' b ->(∀x,look a x=look b x) ->a=b
 | [],[],_,_,_=>rfl
 | [],q::r,_,hb,h=>by have:=h q.1;rw[look,look,ak rfl] at this;have:=hb.1 q (by simp);lia
 | q::r,[],ha,_,h=>by have:=h q.1;rw[look,look,ak rfl] at this;have:=ha.1 q (by simp);lia
 | q ::r,q'::r',ha,hb,h=>by
  have pa:=ha.1 q (by simp);have pb:=hb.1 q' (by simp);have sa:=(bO.mp ha.2).1;have sb:=(bO.mp hb.2).1;have e1:q.1=q'.1:=by rcases Int.lt_trichotomy q.1 q'.1 with l | l | l;have e:=h q.1;rw[look,ak rfl,look,aj ∅,fw (λz hz=>by have:=sb z hz;lia)] at e;lia;exact l;have e:=h q'.1;rw[look,aj ∅,fw (λz hz=>by have:=sa z hz;lia),look,ak rfl] at e;lia
  have e2:q.2=q'.2:=by have e:=h q.1;rw[look,ak rfl,look,ak e1.symm] at e;exact e
  have e:r=r':=pG ha.tail hb.tail λx=>by by_cases hx:q.1=x;rw[fw (λz hz=>by have:=sa z hz;lia),fw (λz hz=>by have:=sb z hz;lia)];have e:=h x;rwa [look,aj hx,look,aj ∅] at e
  rw[e,Prod.ext e1 e2]
def gr (p:Int):Pt ->Int ->Int ->Pt
 | [],x,s=>if s % p=0 then [] else [(x,s % p)]
 | q::r,x,s=>if x<q.1 then(if s % p=0 then q::r else(x,s % p)::q::r) else if x=q.1 then(if(q.2+s) % p=0 then r else(x,(q.2+s) % p)::r) else q::gr p r x s
def nq (p:Int)(ps:Pt):Pt:=ps.foldl (λa q=>gr p a q.1 q.2) []
theorem CV {p:Int}{l:Pt}{x s:Int}{z:Int×Int}(h:z∈gr p l x s):z.1=x \/ z∈l:=by
 induction l with
 | nil=>rw[gr] at h;split at h;cases h;left;rw[be.mp h]
 | cons q r ih=>rw[gr] at h;split at h;split at h;exact .inr h;rcases aS.mp h with h | h;left;rw[h];exact .inr h;split at h;split at h;exact .inr (by simp[h]);rcases aS.mp h with h | h;left;rw[h];exact .inr (by simp[h]);rcases aS.mp h with h | h;exact .inr (by simp[h]);rcases ih h with h | h;exact .inl h;exact .inr (by simp[h])
theorem yO {p s:Int}(hp:0<p)(h:¬s % p=0):0<s % p /\ s % p<p:=by have:=Int.emod_nonneg s (show p≠0 by lia);have:=Int.emod_lt_of_pos s hp;lia
theorem CU {p:Int}(hp:0<p){l:Pt}{x s:Int}(h:df p l):df p (gr p l x s):=by
 induction l with
 | nil=>rw[gr];split;exact df.nil;rename_i hs;exact⟨λq hq=>by rw[be.mp hq];exact yO hp hs,by simp⟩
 | cons q r ih=>have sa:=(bO.mp h.2).1;rw[gr];split;rename_i hx;split;exact h;rename_i hs;refine⟨λz hz=> ?_,bO.mpr ⟨λz hz=> ?_,h.2⟩⟩;rcases aS.mp hz with rfl | hz;exact yO hp hs;exact h.1 z hz;rcases aS.mp hz with rfl | hz;exact hx;have:=sa z hz;show x<z.1;lia;split;rename_i hx;split;exact h.tail;rename_i hs;refine⟨λz hz=> ?_,bO.mpr ⟨λz hz=> ?_,h.tail.2⟩⟩;rcases aS.mp hz with rfl | hz;exact yO hp hs;exact h.1 z (by simp[hz]);have:=sa z hz;show x<z.1;lia;rename_i h1 h2;have ih':=ih h.tail;refine⟨λz hz=> ?_,bO.mpr ⟨λz hz=> ?_,ih'.2⟩⟩;rcases aS.mp hz with rfl | hz;exact h.1 z (by simp);exact ih'.1 z hz;rcases CV hz with e | hz;lia;exact sa z hz
theorem yV {p:Int}(hp:0<p){l:Pt}{x s:Int}(h:df p l)(y:Int):look (gr p l x s) y=if y=x then(look l x+s) % p else look l y:=by
 induction l with
 | nil=>rw[gr];by_cases hs:s % p=0;rw[ak hs];simp[look,hs];rw[aj hs];by_cases e:y=x;subst e;simp[look];rw[aj e];simp[look,cV e]
 | cons q r ih=>
  have sa:=(bO.mp h.2).1;have qr:=h.1 q (by simp);rw[gr];split;rename_i hx;have hn:look (q::r) x=0:=fw (λz hz=>by rcases aS.mp hz with rfl | hz;lia;have:=sa z hz;lia);rw[hn,Int.zero_add];split;rename_i hs;by_cases e:y=x;rw[ak e,e,hn,hs];rw[aj e];by_cases e:y=x;rw[ak e,look,ak e.symm];rw[aj e,look,aj (cV e)];split;rename_i hx;have hq:look (q::r) x=q.2:=by rw[look,ak hx.symm]
  rw[hq];split;rename_i hs;by_cases e:y=x;rw[ak e,hs,fw (λz hz=>by have:=sa z hz;lia)];rw[aj e,look,aj ∅];by_cases e:y=x;rw[ak e,look,ak e.symm];rw[aj e,look,aj (cV e),look,aj ∅];rename_i h1 h2;rw[look,ih h.tail];by_cases e:y=x;rw[ak e,ak e,aj ∅];conv=>rhs;rw[look,aj ∅]
  rw[aj e,aj e,look]
theorem qo (p:Int)(ps:Pt)(q:Int×Int):nq p (ps++ [q])=gr p (nq p ps) q.1 q.2:=by unfold nq;rw[List.foldl_append];rfl
theorem kn {α:Type}{P:List α ->Prop}(h0:P [])(h1: ∀l a,P l ->P (l++ [a]))(l:List α):P l:=by
 have lw: ∀n:Nat, ∀l:List α,l.length=n ->P l:=by
  intro n;induction n with
  | zero=>intro l hl;rw[List.length_eq_zero_iff.mp hl];exact h0
  | succ n ih=>
   intro l hl;have pL:l≠ []:=by intro e;rw[e] at hl;cases hl
   rw[<- List.dropLast_concat_getLast pL];exact h1 _ _ (ih _ (by rw[List.length_dropLast];lia))
 exact lw _ l rfl
theorem eX {p:Int}(hp:0<p)(ps:Pt):df p (nq p ps):=by
 induction ps using kn with
 | h0=>exact df.nil
 | h1 l a ih=>rw[qo];exact CU hp ih
theorem qv {p:Int}(hp:0<p)(ps:Pt)(x:Int):look (nq p ps) x=ez ps x % p:=by
 induction ps using kn with
 | h0=>simp[nq,look,ez]
 | h1 l a ih=>rw[qo,yV hp (eX hp l),pY];by_cases e:x=a.1;subst e;rw[ak rfl,ak rfl,ih,Int.emod_add_emod];rw[aj e,aj (cV e),ih,Int.add_zero]
theorem CW {p:Int}{l:Pt}{x s:Int}:(gr p l x s).length<=l.length+1:=by
 induction l with
 | nil=>rw[gr];split<;>simp
 | cons q r ih=>rw[gr];split;split<;>simp;split;split<;>simp<;>lia;simp;exact ih
theorem gF (p:Int)(ps:Pt):(nq p ps).length<=ps.length:=by
 induction ps using kn with
 | h0=>simp[nq]
 | h1 l a ih=>rw[qo,aH];exact av CW (by simp;exact ih)
def rG (m:Pt):List (b8×W):=m.map λq=>((Sum.inl q.1:b8),wi q.2)
def rM (m:Pt)(x v:Int):Pt:=if(m.any λq=>decide (q.1=x))=true then m.map (λq=>if q.1=x then(q.1,v) else q) else m++ [(x,v)]
theorem pQ {m:Pt}{x:Int}:(m.any λq=>decide (q.1=x))=true↔x∈m.map (·.1):=by rw[List.any_eq_true,List.mem_map];constructor;rintro⟨q,hq,e⟩;exact⟨q,hq, ⇑e⟩;rintro⟨q,hq,e⟩;exact⟨q,hq, ⇑e⟩
theorem AU (a b:Int):decide ((Sum.inl a:b8)=Sum.inl b)=decide (a=b):=by simp
theorem Al (m:Pt)(x v:Int):ux (rG m) (.inl x) (wi v)=rG (rM m x v):=by
 unfold ux rM;have e:((rG m).any λkv=>decide (kv.1=(Sum.inl x:b8)))=m.any λq=>decide (q.1=x):=by unfold rG;rw[List.any_map];congr 1;funext q;exact AU _ _
 rw[e];split;unfold rG;rw[aY,aY];apply List.map_congr_left;intro q _;show(if(Sum.inl q.1:b8)=Sum.inl x then((Sum.inl q.1:b8),wi v) else(Sum.inl q.1,wi q.2))=((Sum.inl (if q.1=x then(q.1,v) else q).1:b8),wi (if q.1=x then(q.1,v) else q).2)
 by_cases hq:q.1=x;rw[ak (by rw[hq]),ak hq];rw[aj (λz=>hq (Sum.inl.inj z)),aj hq];unfold rG;rw[br];rfl
theorem zQ (m:Pt)(x:Int):eG (rG m) (.inl x)=(m.find? λq=>decide (q.1=x)).map λq=>wi q.2:=by
 unfold eG rG;rw[List.find?_map,Option.map_map];have e:((λkv:b8×W=>decide (kv.1=(Sum.inl x:b8))) ∘ λq:Int×Int=>((Sum.inl q.1:b8),wi q.2))=λq=>decide (q.1=x):=by funext q;exact AU _ _
 rw[e];rfl
theorem tD {m:Pt}{x:Int}:(m.find? λq=>decide (q.1=x))=none /\ look m x=0 /\ x∉m.map (·.1) \/ ∃q,(m.find? λq=>decide (q.1=x))=some q /\ look m x=q.2:=by
 induction m with
 | nil=>exact .inl ⟨rfl,rfl,by simp⟩
 | cons q r ih=>
  rw[cH,look];by_cases e:q.1=x;simp only[e,cC];exact .inr ⟨q,rfl,by simp⟩;simp only[e,decide_false,bi];rcases ih with⟨h1,h2,h3⟩ | h
  exact .inl ⟨h1,h2,by rw[az,aS,not_or];exact⟨cV e,h3⟩⟩;exact .inr h
theorem AZ (m:Pt)(x:Int):(eG (rG m) (.inl x)).getD (wi 0)=wi (look m x):=by rw[zQ];rcases tD (m:=m) (x:=x) with⟨h1,h2,_⟩ | ⟨q,h1,h2⟩ <;>rw[h1,h2] <;>rfl
theorem DG {m:Pt}{x:Int}(h:x∈m.map (·.1)):eG (rG m) (.inl x)=some (wi (look m x)):=by
 rw[zQ];rcases tD (m:=m) (x:=x) with⟨_,_,h3⟩ | ⟨q,h1,h2⟩
 exact absurd h h3;rw[h1,h2];rfl
theorem wO (m:Pt):(rG m).map (·.1)=(m.map (·.1)).map Sum.inl:=by unfold rG;rw[aY,aY];rfl
theorem sW {m:Pt}{x v:Int}:(rM m x v).map (·.1)=if x∈m.map (·.1) then m.map (·.1) else m.map (·.1)++ [x]:=by unfold rM;by_cases h:x∈m.map (·.1);rw[ak (pQ.mpr h),ak h,aY];apply List.map_congr_left;intro q _;show(if q.1=x then(q.1,v) else q).1=q.1;split<;>rfl;rw[aj (λe=>h (pQ.mp e)),aj h,br];rfl
theorem AB {m:Pt}{x v:Int}(h:(m.map (·.1)).Nodup):((rM m x v).map (·.1)).Nodup:=by rw[sW];by_cases e:x∈m.map (·.1);rw[ak e];exact h;rw[aj e];exact AA h e
theorem wM {m:Pt}{x v:Int}:(rM m x v).length<=m.length+1:=by unfold rM;split;rw[ag];lia;simp
theorem sT {m:Pt}{x v y:Int}:look (rM m x v) y=if y=x then v else look m y:=by
 unfold rM;by_cases h:x∈m.map (·.1);rw [ak (pQ.mpr h)];have lw: ∀m:Pt,look (m.map (λq=>if q.1=x then(q.1,v) else q)) y=if y=x /\ x∈m.map (·.1) then v else look m y:=by
  intro m;induction m with
  | nil=>simp[look]
  | cons q r ih=>
   rw[az,look,look,ih];by_cases hq:q.1=x;by_cases hy:y=x;subst hy;simp[hq];simp[hq,hy,cV hy];by_cases hy:y=x;subst hy;have:(y∈(q::r).map (·.1))=(y∈r.map (·.1)):=by rw[az,aS];simp[cV hq]
   simp only[this,hq,bi];simp[hq,hy]
 rw[lw];simp[h];rw [aj (λe=>h (pQ.mp e))];have lw: ∀m:Pt,x∉m.map (·.1) ->look (m++ [(x,v)]) y=if y=x then v else look m y:=by
  intro m;induction m with
  | nil=>intro _;by_cases e:y=x;simp[look,e];simp[look,e,cV e]
  | cons q r ih=>intro hn;rw[az,aS,not_or] at hn;rw[List.cons_append,look,look,ih hn.2];by_cases e:y=x;subst e;simp[cV hn.1];simp[e]
 exact lw m h
def NC (m:Pt)(ns:List Int):Pt:=ns.filterMap λx=>if look m x=0 then none else some (x,look m x)
theorem wL {m:Pt}{x:Int}: ∀ {ns:List Int},ns.Nodup ->look (NC m ns) x=if x∈ns then look m x else 0
 | [],_=>rfl
 | n ::r,h=>by rw[List.nodup_cons] at h;have ih:=wL (m:=m) (x:=x) h.2;unfold NC at ih ⊢;rw[List.filterMap_cons];by_cases e:look m n=0;rw[ak e];show look (r.filterMap _) x=_;rw[ih];by_cases hx:x=n;subst hx;rw[aj h.1,ak (by simp),e];simp[hx];rw[aj e];show look ((n,look m n)::r.filterMap _) x=_;rw[look,ih];by_cases hx:x=n;subst hx;rw[ak rfl,ak (by simp)];rw[aj (cV hx)];simp[hx]
theorem BE {ns:List Int}(h1:ns.Pairwise (· <= ·))(h2:ns.Nodup):ns.Pairwise (· < ·):=by refine(List.Pairwise.and h1 h2).imp ?_;rintro a b ⟨h,n⟩;lia
theorem z4 {p:Int}(hp:0<p){ps m:Pt}{ns:List Int}(hn:(m.map (·.1)).Nodup)(ht: ∀x,look m x=ez ps x % p)(ij:ns.Perm (m.map (·.1)))(hs:ns.Pairwise (· <= ·)):NC m ns=nq p ps:=by have nd:=ij.nodup_iff.mpr hn;have st:=BE hs nd;refine pG (p:=p) ⟨?_,?_⟩ (eX hp ps) λx=> ?_;intro q hq;obtain⟨x,hx,e⟩:=List.mem_filterMap.mp hq;split at e;cases e;rename_i h0;cases e;have:=ht x;have:=Int.emod_nonneg (ez ps x) (show p≠0 by lia);have:=Int.emod_lt_of_pos (ez ps x) hp;show 0<look m x /\ look m x<p;lia;unfold NC;refine List.Pairwise.filterMap _ ?_ st;intro a b AY c hc d hd;split at hc<;>cases hc;split at hd<;>cases hd;exact AY;rw[wL nd,qv hp];split;exact ht x;rename_i hx;rw[<- ht x,fw];intro q hq e;exact hx (ij.mem_iff.mpr (by rw[<- e];exact List.mem_map_of_mem hq))
def Dl (_:Pt):Prop:=True
theorem zg {ps:Pt}:Dl ps:=trivial
theorem wK {m:Pt}{x v k:Int}(h:k∈(rM m x v).map (·.1)):k=x \/ k∈m.map (·.1):=by rw[sW] at h;split at h;exact .inr h;rcases a_.mp h with h | h;exact .inr h;exact .inl (be.mp h)
end WP
namespace WQ
open PySem L2 WL WP
def Ps:fh:=λxs M q=>dH λ(d l:Addr) (n:Int)=>fo (xs= [wr d,wi n]) (Dr M d l) (0<n) (n<1073741824) (∀ (r:Int) (M':Mp),0<=r ->r<n ->Dr M' d l ->NB d M M' ->q (wi r) M')
def pP:fh:=λxs M q=>ca λ(d l:Addr)=>cM (xs= [wr d]) (Dr M d l) (∀ (p:Int) (M':Mp),(p=2 \/ p=3 \/ p=5 \/ p=7) ->Dr M' d l ->NB d M M' ->q (wi p) M')
def J6:fh:=λxs M q=>dH λ(a:Addr) (p:Int) (ps:Pt)=>kz (xs= [wi p,wr a]) (M a=some (.lst (ps.map bQ))) (0<p) (Dl ps) (ps.length<=16000000) (q (ft (nq p ps)) M)
def mv (by_:Int)(l:Pt):Pt:=l.map λz=>(z.1+by_,z.2)
def LO:fh:=λxs M q=>ca λ(rN:Pt) (b:Int)=>cM (xs= [ft rN,wi b]) (rN.length<=16000000) (q (ft (mv b rN)) M)
def UN:fh:=λxs M q=> ∃i:Int,xs= [wi i] /\ q (wb true) M
def LP:fh:=λxs M q=>ca λ(p:Int) (rN:Pt)=>eu (xs= [wi p,ft rN]) (df p rN) (rN.length<=16000000) (q (wb true) M)
def LV:fh:=λxs M q=>dH λ(p:Int) (a b:Pt)=>kz (xs= [wi p,ft a,ft b]) (0<p) (Dl (a++b)) (a.length<=8000000) (b.length<=8000000) (q (ft (nq p (a++b))) M)
def tm (n:Int)(l:Pt):Pt:=l.map λz=>(z.1,z.2*n)
def LL:fh:=λxs M q=>dH λ(p:Int) (a:Pt) (n:Int)=>kz (xs= [wi p,ft a,wi n]) (0<p) (Dl (tm n a)) (a.length<=40000) (∀z∈a,0<=z.2 /\ z.2<1000) (q (ft (nq p (tm n a))) M)
def AC (b n:Int)(l:Pt):Pt:=l.map λz=>(z.1+b,z.2*n)
def UL:fh:=λxs M q=>se λ(p:Int) (a b:Pt) (y n:Int)=>KS (xs= [wi p,ft a,ft b,wi y,wi n]) (0<p) (Dl (a++AC y n b)) (a.length<=8000000) (b.length<=8000000) (∀z∈b,0<=z.2 /\ z.2<1000) (q (ft (nq p (a++AC y n b))) M)
theorem big {n:Nat}(h:n<=16000000):n<=sizeLine:=av h (by rw[sizeLine_eq];decide)
theorem pi {n:Nat}(h:n<=16000000):n<sizeLine:=Nat.lt_of_le_of_lt h (by rw[sizeLine_eq];decide)
theorem nu {b:Int}{l:Pt}:(mv b l).length=l.length:=ag _
theorem HQ {l:Pt}:mv 0 l=l:=by
 unfold mv;have:(λz:Int×Int=>(z.1+0,z.2))=id:=by funext z;rw[Int.add_zero];rfl
 rw[this,List.map_id]
theorem SH {b:Int}{l:Pt}{x:Int}:look (mv b l) x=look l (x - b):=by
 induction l with
 | nil=>rfl
 | cons q r ih=>show look ((q.1+b,q.2)::mv b r) x=_;rw[look,look,ih];by_cases e:q.1+b=x;rw[ak e,ak ∅];rw[aj e,aj ∅]
theorem ym {n:Int}{l:Pt}{x:Int}:ez (tm n l) x=ez l x*n:=by
 induction l with
 | nil=>simp[tm,ez]
 | cons q r ih=>show ez ((q.1,q.2*n)::tm n r) x=_;rw[ez,ez,ih,Int.add_mul];split<;>simp
theorem yN {b n:Int}{l:Pt}:AC b n l=tm n (mv b l):=by unfold AC tm mv;rw[aY];rfl
theorem Lh {l:Pt}:tm 1 l=l:=by
 unfold tm;have:(λz:Int×Int=>(z.1,z.2*1))=id:=by funext z;rw[Int.mul_one];rfl
 rw[this,List.map_id]
theorem ER {p:Int}(hp:0<p){a:Pt}(h:df p a):nq p a=a:=pG (eX hp a) h λx=>by rw[qv hp,lz h.2];have:=yU hp h x;exact Int.emod_eq_of_lt this.1 this.2
theorem ki {p:Int}(hp:0<p)(a:Pt)(x:Int):ez (nq p a) x=ez a x % p:=by rw[lz (eX hp a).2,qv hp]
theorem yn {b:Int}{l:Pt}{x:Int}:ez (mv b l) x=ez l (x - b):=by
 induction l with
 | nil=>rfl
 | cons q r ih=>show ez ((q.1+b,q.2)::mv b r) x=_;rw[ez,ez,ih];by_cases e:q.1+b=x;rw[ak e,ak ∅];rw[aj e,aj ∅]
theorem FC {n:Int}{a:Pt}(h:Dl a):Dl (tm n a):=trivial
theorem FW (q:Int×Int):CK (bQ q)=some (.tup [.int q.1, .int q.2]):=by simp[bQ,CK,kJ]
theorem qW: ∀l:Pt,kJ (l.map bQ)=some (l.map λq=> .tup [.int q.1, .int q.2])
 | []=>rfl
 | q::r=>by rw[az,kJ,FW,qW r];rfl
def EE (l:Pt):Dt:= .tup (l.map λq=> .tup [.int q.1, .int q.2])
theorem IQ (l:Pt):CK (ft l)=some (EE l):=by rw[ft,CK,qW];rfl
theorem qQ: ∀l:Pt,i_ (l.map λq=> .tup [.int q.1, .int q.2]) <=1
 | []=>by simp[i_]
 | q::r=>by rw[az,i_];have:=qQ r;simp only[nG,i_];lia
def zZ (K:PySem.W.Frag):Sp:=λvs H Q _=>ca λ(a:Addr) (ns:List Int)=>cM (vs= [.ref a]) (gs K H a (ns.map V.int)) (∀ (d l:Addr) (ms:List Int) (H':Hp),d≠l ->H' d=some (.lst [.ref l, .int 0, .int 0, .int 11]) ->H' l=some (.lst (ms.map V.int)) ->Q (.ref d) H')
def vO (K:PySem.W.Frag):Sp:=λvs H Q _=>ca λ(a:Addr) (ns:List Int)=>cM (vs= [.ref a]) (gs K H a (ns.map V.int)) (∀H',Q (.bl true) H')
theorem PM {P:Program}{w:World}{K:PySem.W.Frag}{mg:Str ->Option Value}{base:Heap}{x qual z:Str}{st:Stmt}{f:Addr}{fd:FuncData}{N:List Str}{k:Nat}(F:xP K x qual st f fd)(S:cJ N [z] (aO st))(hN:2<=N.length) (ik: ∀ (cdv:Value) (A:Around) (outer:List Env) (s:Shared) (H:Hp) (E:XK),dG k (A.deeper (PyProof.Rows.envOfC qual (aO st) s.heap.objs.size f cdv)) ->∃ R,vw (d4 eE P w K mg base N qual (aO st) f cdv A outer s H E).GJ (c5 st) (Li (DZ (sF (zZ K) [] E0 (DX (Hb 0) BC)) (jK 1)) R) /\∃w',IS K R w' /\ ∀d l M,Dr M d l ->w' {nx:=λ_ _=>False,rt:=λx _=>x=wb true} (none::some (wr d)::List.replicate (N.length - 2) none) M): bx P w K mg base eE (k+1) f fd [z] (vO K):=by
 refine xP.ok F S (λvs H Q E ⟨a,ns,h,_,_⟩=>by rw[h];rfl) λcdv A outer s H vs Q E hr h=> ?_;obtain⟨R,h1,w',h2,h3⟩:=ik cdv A outer s H E hr;obtain⟨a,ns,rfl,hs,hq⟩:=h;refine⟨_,h1,?_⟩;obtain⟨n,hn⟩: ∃n,N.length=n+2:=⟨N.length - 2, ∅⟩
 have e0:L2.start N [V.ref a]=some (V.ref a)::none::List.replicate n none:=by unfold L2.start;rw[hn];rfl
 rw[e0];refine⟨_,rfl,a,ns,rfl,hs,λd l ms H' pL hd hl=> ?_⟩;show R _ _ H';refine h2.imp (none::some (wr d)::List.replicate (N.length - 2) none) (um (um (λ_=>none) l (.lst (ms.map wi))) d (.lst [wr l,wi 0,wi 0,wi 11])) _ H' _ _ ⟨⟨?_,λi y e=> ?_⟩,λb o e=> ?_⟩ (h3 d l _ ⟨ms,0,0,11,au,by rw[aN (cV pL),au],by decide,pL⟩) ⟨λ_ _ _ _ h=>h.elim,λy M' v H2 e _ _ r=> ?_,λ_ _ _ _ h=>h.elim,λ_ _ _ _ h=>h.elim⟩;simp[hn];match i with
 | 0=>simp at e
 | 1=>simp at e;subst e;exact⟨.ref d,rfl,WR.v⟩
 | i+2=>simp[cQ] at e
 by_cases hb:b=d;subst hb;rw[au] at e;cases e;exact⟨_,hd,cy.cons WR.v (cy.cons WR.v (cy.cons WR.v (cy.cons WR.v cy.nil)))⟩;rw[aN hb] at e;by_cases hb':b=l;subst hb';rw[au] at e;cases e;exact⟨_,hl,cy.ofInts ms⟩;rw[aN hb'] at e;cases e;subst e;rw[r.eq];exact hq H2
abbrev Rd:=Int×Pt
def fI (r:Rd):W:= .tup [wi r.1,ft r.2]
def jn (p:Int)(a b:Rd):Rd:=(a.1+b.1,nq p (a.2++mv a.1 b.2))
def bk (p:Int)(a:Rd):Rd:=(-a.1,nq p (tm (-1) (mv (-a.1) a.2)))
def Hy:fh:=λxs M q=>dH λ(p:Int) (a b:Rd)=>kz (xs= [wi p,fI a,fI b]) (0<p) (Dl (a.2++mv a.1 b.2)) (a.2.length<=40000) (b.2.length<=40000) (q (fI (jn p a b)) M)
def Px:fh:=λxs M q=>dH λ(p:Int) (a b:Rd)=>KS (xs= [wi p,fI a,fI b]) (0<p) (Dl (a.2++mv a.1 b.2)) (a.2.length<=40000) (b.2.length<=40000) (∀z∈b.2,0<=z.2 /\ z.2<1000) (q (fI (jn p a b)) M)
def J_:fh:=λxs M q=>ca λ(p:Int) (a:Rd)=>kz (xs= [wi p,fI a]) (0<p) (Dl (mv (-a.1) a.2)) (a.2.length<=40000) (∀z∈a.2,0<=z.2 /\ z.2<1000) (q (fI (bk p a)) M)
def EJ:fh:=λxs M q=>ca λ(p:Int) (a:Rd)=>eu (xs= [wi p,fI a]) (df p a.2) (a.2.length<=100000) (q (wb true) M)
theorem FU (r:Rd):CK (fI r)=some (.tup [.int r.1,EE r.2]):=by rw[fI,CK,kJ,kJ,IQ,kJ];rfl
theorem MY (r:Rd):nG (.tup [.int r.1,EE r.2]) <=50:=by
 simp only[nG,i_];have:nG (EE r.2) <=2:=by unfold EE;rw[nG];have:=qQ r.2;lia
 lia
theorem PV {M:Mp}{q:WK}{a b:Rd}(e:a=b)(h:q (wb false) M):K2 (fI a) (fI b) M q:=by subst e;exact⟨_,_, .inl (FU a), .inl (FU a),rfl,MY a,by rw[io];exact h⟩
theorem Mi {p:Int}(hp:0<p)(a b:Rd):df p (jn p a b).2:=eX hp _
theorem zo {p:Int}(hp:0<p)(a:Rd):df p (bk p a).2:=eX hp _
theorem Fb (p:Int)(a b:Rd):(jn p a b).2.length<=a.2.length+b.2.length:=by refine av (gF _ _) ?_;rw[aH,nu];lia
theorem zp (p:Int)(a:Rd):(bk p a).2.length<=a.2.length:=by refine av (gF _ _) ?_;rw[tm,ag,nu];lia
theorem Lv {a b:Rd}(h1:a.1=b.1)(h2:a.2=b.2):a=b:=Prod.ext h1 h2
theorem Lg {p:Int}(hp:0<p)(a:Rd)(x:Int):ez (bk p a).2 x=(-ez a.2 (x+a.1)) % p:=by rw[bk,ki hp,ym,yn];congr 1;rw[Int.mul_neg_one,Int.sub_neg]
theorem yC {p:Int}(hp:0<p){a b:Pt}(ha:df p a)(hb:df p b)(h: ∀x,ez a x=ez b x):a=b:=pG ha hb λx=>by rw[<- lz ha.2, <- lz hb.2];exact h x
theorem jj {p:Int}{a:Pt}(h:df p a)(hp:p<1000): ∀z∈a,0<=z.2 /\ z.2<1000:=λz hz=>by have:=h.1 z hz;lia
inductive aa6 where
 | go (k:Int) | turn (k:Int)
def abt (s:Int×Pt):aa6 ->Int×Pt
 | .go k=>(s.1+k,s.2)
 | .turn k=>(s.1,s.2++ [(s.1,k)])
end WQ
namespace WL
open PySem PySem.Spec PyProof.Rows L2
def Rt (ns:List Int)(m:Int):Prop:=m∈ns /\ ∀x∈ns,x<=m
def Rs (ns:List Int)(m:Int):Prop:=m∈ns /\ ∀x∈ns,m<=x
end WL
namespace WQ
open PySem L2 WL WP
def prc (p s:Int):Int:=if p - s<s then p - s else s
def JR (a:Rd):List Int:=0::a.1::a.2.map (·.1)
def Rh (i:Int):Int:=if i<0 then -i else i
def fwv (p:Int)(a:Rd)(lo hi:Int):Int:=2*(hi - lo) - Rh a.1+(a.2.map λz=>prc p z.2).sum
def Ft (e n x:Int):Bool:=decide (x.fmod e=0) && (decide (0<=x.fdiv e) && decide (x.fdiv e<n))
def ji (e n x:Int):Pt ->Int
 | []=>0
 | z::r=>(if Ft e n (x - z.1) then z.2 else 0)+ji e n x r
theorem pM {e n x:Int}(he:e≠0):Ft e n x=true↔ ∃k,0<=k /\ k<n /\ x=k*e:=by have hd:=Int.mul_fdiv_add_fmod x e;unfold Ft;simp only[cR,cU];constructor;rintro⟨h1,h2,h3⟩;exact⟨x.fdiv e,h2,h3,by rw[Int.mul_comm, <- hd,h1];simp[Int.mul_fdiv_cancel_left _ he]⟩;rintro⟨k,h1,h2,rfl⟩;have:(k*e).fdiv e=k:=Int.mul_fdiv_cancel _ he;rw[this];exact⟨Int.mul_fmod_left _ _,h1,h2⟩
theorem Fq {e x:Int}(he:e≠0):Ft e 0 x=false:=by
 cases h:Ft e 0 x with
 | false=>rfl
 | true=>obtain⟨k,h1,h2,_⟩:=(pM he).mp h;lia
theorem wZ {e n x:Int}(he:e≠0)(hn:0<=n):(Ft e (n+1) x=true)↔(Ft e n x=true \/ x=n*e):=by rw[pM he,pM he];constructor;rintro⟨k,h1,h2,h3⟩;rcases Int.lt_or_le k n with h | h;exact .inl ⟨k,h1,h,h3⟩;have:k=n:= ∅;subst this;exact .inr h3;rintro(⟨k,h1,h2,h3⟩ | h);exact⟨k,h1, ∅,h3⟩;exact⟨n,hn, ∅,h⟩
theorem Ir {e n:Int}(he:e≠0):Ft e n (n*e)=false:=by
 cases h:Ft e n (n*e) with
 | false=>rfl
 | true=>obtain⟨k,h1,h2,h3⟩:=(pM he).mp h;have:k=n:=Int.eq_of_mul_eq_mul_right he h3.symm;lia
theorem vN {e n x:Int}(he:e≠0)(hn:0<=n)(l:Pt):ji e (n+1) x l=ji e n x l+ez l (x - n*e):=by
 induction l with
 | nil=>rfl
 | cons z r ih=>
  rw[ji,ji,ez,ih];by_cases h:z.1=x - n*e;have e1:x - z.1=n*e:= ∅;rw[ak h,e1,ak ((wZ he hn).mpr (.inr rfl)),Ir he];simp;lia;rw [aj h];have:Ft e (n+1) (x - z.1)=Ft e n (x - z.1):=by apply Bool.eq_iff_iff.mpr;rw[wZ he hn];constructor;rintro(h' | h');exact h';exact absurd h' ∅;exact .inl
  rw[this];lia
theorem vM {e x:Int}(he:e≠0)(l:Pt):ji e 0 x l=0:=by
 induction l with
 | nil=>rfl
 | cons z r ih=>rw[ji,ih,Fq he];simp
def lO (b:Rd):Nat ->Pt
 | 0=> []
 | n+1=>lO b n++mv ((n:Int)*b.1) b.2
theorem DM {b:Rd}(he:b.1≠0)(x:Int): ∀n:Nat,ez (lO b n) x=ji b.1 n x b.2
 | 0=>by rw[lO,Int.ofNat_zero,vM he];rfl
 | n+1=>by rw[lO,fb,DM he x n,yn];have:=vN (n:=(n:Int)) (x:=x) he ∅ b.2;rw[Int.natCast_add,Int.ofNat_one,this]
theorem lN (b:Rd): ∀n:Nat,(lO b n).length=n*b.2.length
 | 0=>by simp[lO]
 | n+1=>by rw[lO,aH,lN b n,nu,Nat.succ_mul]
end WQ
namespace WL
open PySem PySem.Spec PyProof.Rows L2
section
variable {X:Cx}
def Pn (K:PySem.W.Frag):List V ->Hp ->VK ->Prop:=λxs H Q=>ca λ(l:Addr) (bs:List Bool)=>cM (xs= [.ref l]) (gs K H l (bs.map V.bl)) (Q (.bl (bs.all id)) H)
def Pm (K:PySem.W.Frag):List V ->Hp ->VK ->Prop:=λxs H Q=>ca λ(l:Addr) (bs:List Bool)=>cM (xs= [.ref l]) (gs K H l (bs.map V.bl)) (Q (.bl (bs.any id)) H)
theorem Fh {bD:List Value}{bs:List Bool}(rv:bY (bs.map V.bl) bD){i:Nat}{v:Value}(e:bD.toArray[i]? =some v):v= .bool (bs.getD i false) /\ i<bs.length:=by
 have e':bD[i]? =some v:= ⇑e;have dL:=rv.length;have hi:i<bs.length:=by have:=(a5.mp e').1;rw[ag] at dL;lia
 obtain⟨w',hw,ur⟩:=rv.get (i:=i) (x:= .bl bs[i]) (by rw[aG,aD hi];rfl);rw[e'] at hw;cases hw;cases ur;exact⟨by simp[List.getD,hi],hi⟩
theorem BL (bs:List Bool):(List.range bs.length).all (λi=>bs.getD i false)=bs.all id:=by apply Bool.eq_iff_iff.mpr;rw[List.all_eq_true,List.all_eq_true];constructor;intro h x hx;obtain⟨i,hi,rfl⟩:=List.mem_iff_getElem.mp hx;have:=h i (List.mem_range.mpr hi);simpa [List.getD,hi] using this;intro h i hi;rw[List.mem_range] at hi;have:=h bs[i] (List.getElem_mem hi);simpa [List.getD,hi] using this
theorem BK (bs:List Bool):(List.range bs.length).any (λi=>bs.getD i false)=bs.any id:=by apply Bool.eq_iff_iff.mpr;rw[List.any_eq_true,List.any_eq_true];constructor;rintro⟨i,hi,h⟩;rw[List.mem_range] at hi;exact⟨bs[i],List.getElem_mem hi,by simpa [List.getD,hi] using h⟩;rintro⟨x,hx,h⟩;obtain⟨i,hi,rfl⟩:=List.mem_iff_getElem.mp hx;exact⟨i,List.mem_range.mpr hi,by simpa [List.getD,hi] using h⟩
theorem f8 (hc:X.calm=true):eN X (.builtin "all") (Pn X.K):=by
 intro ae s σ H xs us Q I r h;obtain⟨l,bs,rfl,hs,q⟩:=h;obtain⟨u,rfl,ru⟩:=vals1 r;cases ru;obtain⟨bD,rv,ht,hz⟩:=I.list hs;have hh:X.A.in1.handled=none:=I.ok.hd hc;have dL:bD.toArray.size=bs.length:=by have:=rv.length;rw[ag] at this;simpa using this.symm
 have kH:l<s.heap.objs.size:=by obtain⟨_,e,_⟩:=ht.isList;exact aE e
 refine PySem.call_all_walkS (wpAny_pyIter_list ht.isList ?_);refine⟨s.heap.objs.size,_,_,_,bD.toArray.size,_,_,λi=>bs.getD i false,rfl,(Walks.list hh s.heap.objs.size l (bg kH) bD.toArray).toS,⟨⟨_,aM _ rfl,rfl,rfl⟩,ht.isList.push _⟩,λi v s' Q' E' e hq=> ?_,λs' hm=> ?_⟩;obtain⟨rfl,_⟩:=Fh rv e;exact cc hq;have hk: ∀b o,s.heap.get? b=some o ->s'.heap.get? b=some o:=λb o e=>hm.heap b o (λhI=>absurd (aE e) (by rw[be.mp hI];exact Nat.lt_irrefl _)) (aq _ e);rw[Moved.eq_with hm,dL,BL];exact⟨.bl _,H,I.kept (t':=s'.toks) hk,rfl,q⟩
theorem tR (hc:X.calm=true):eN X (.builtin "any") (Pm X.K):=by
 intro ae s σ H xs us Q I r h;obtain⟨l,bs,rfl,hs,q⟩:=h;obtain⟨u,rfl,ru⟩:=vals1 r;cases ru;obtain⟨bD,rv,ht,hz⟩:=I.list hs;have hh:X.A.in1.handled=none:=I.ok.hd hc;have dL:bD.toArray.size=bs.length:=by have:=rv.length;rw[ag] at this;simpa using this.symm
 have kH:l<s.heap.objs.size:=by obtain⟨_,e,_⟩:=ht.isList;exact aE e
 refine PySem.call_any_walkS (wpAny_pyIter_list ht.isList ?_);refine⟨s.heap.objs.size,_,_,_,bD.toArray.size,_,_,λi=>bs.getD i false,rfl,(Walks.list hh s.heap.objs.size l (bg kH) bD.toArray).toS,⟨⟨_,aM _ rfl,rfl,rfl⟩,ht.isList.push _⟩,λi v s' Q' E' e hq=> ?_,λs' hm=> ?_⟩;obtain⟨rfl,_⟩:=Fh rv e;exact cc hq;have hk: ∀b o,s.heap.get? b=some o ->s'.heap.get? b=some o:=λb o e=>hm.heap b o (λhI=>absurd (aE e) (by rw[be.mp hI];exact Nat.lt_irrefl _)) (aq _ e);rw[Moved.eq_with hm,dL,BK];exact⟨.bl _,H,I.kept (t':=s'.toks) hk,rfl,q⟩
variable {K:PySem.W.Frag}
theorem cy.bools {H:Hp}: ∀ {bs:List Bool} {vs:List V},cy K H (bs.map wb) vs ->vs=bs.map V.bl
 | [],vs,h=>by simpa only[cG,cy] using h
 | n::r,vs,h=>by simp only[az,cy] at h;obtain⟨v,t,rfl,h1,h2⟩:=h;rw[cy.bools h2,h1.eq];rfl
def Uf:zr:=λxs M q=>ca λ(a:Addr) (bs:List Bool)=>cM (xs= [wr a]) (M a=some (.lst (bs.map wb))) (q (wb (bs.all id)) M)
def Ud:zr:=λxs M q=>ca λ(a:Addr) (bs:List Bool)=>cM (xs= [wr a]) (M a=some (.lst (bs.map wb))) (q (wb (bs.any id)) M)
instance:IC K (Pn K) Uf where
 imp:=by rintro xs v M H q Q m r1 ⟨a,ns,rfl,hl,h⟩ k;obtain⟨v,rfl,r⟩:=r1.one;cases r.eq;obtain⟨vs,hv,rr⟩:=m a _ hl;cases rr.bools;exact⟨a,ns,rfl,gs.of hv,k _ M _ H h (aT.refl H) m WR.v⟩
instance:IC K (Pm K) Ud where
 imp:=by rintro xs v M H q Q m r1 ⟨a,ns,rfl,hl,h⟩ k;obtain⟨v,rfl,r⟩:=r1.one;cases r.eq;obtain⟨vs,hv,rr⟩:=m a _ hl;cases rr.bools;exact⟨a,ns,rfl,gs.of hv,k _ M _ H h (aT.refl H) m WR.v⟩
end
end WL
namespace WL
open PySem L2
theorem Na {xs:List W}{keep:Mp ->Prop}{M1:Mp}{own:Nat}{fr:List Nat}{ρ:cS}{g:WG}{c:WT}{el:WE}{q:WK}(hz:xs.length<=sizeLine) (h: ∀p,M1 p=none -> ∃I:Nat ->List W ->Mp ->Prop,eu (I 0 [] (um M1 p (.lst []))) (∀i ys M,i<=xs.length ->I i ys M ->keep M /\ M p=some (.lst ys) /\ ys.length<=i) (∀i x ys M,xs[i]? =some x ->I i ys M -> ∀N:List W ->Mp ->Prop,(∀ys M,I (i+1) ys M ->N ys M) ->g x (mH own fr ρ) M λρ2 M2=>c ρ2 M2 λb M3=>h_ b (el ρ2 M3 λy M4=>M4 p=some (.lst ys) /\ N (ys++ [y]) (um M4 p (.lst (ys++ [y])))) (N ys M3)) (∀ys M,I xs.length ys M ->q (wr p) M)):xC xs keep own fr g c el ρ M1 q:=by refine⟨hz,λp hp=> ?_⟩;obtain⟨I,h0,h1,h2,h3⟩:=h p hp;exact⟨I,h0,h1,λi x ys M hx hI=>h2 i x ys M hx hI _ λ_ _ z=>z,h3⟩
end WL
namespace WQ
open PySem L2 WL WP
def KY (p:Int)(l:List Int):Prop:=(∀x∈l,0<=x /\ x<p) /\ ∀x,l.getLast? =some x ->x≠0
def Nf (row:List Int)(k:Nat)(x:Int):List Int:=row.set k (row.getD k 0+x)
def kF (row:List Int)(o:Nat)(l:List Int)(n:Nat):List Int:=(List.range n).foldl (λr i=>Nf r (o+i) (l.getD i 0)) row
def pw (p s:Int):Nat ->Int
 | 0=>1
 | n+1=>pw p s n*s % p
end WQ
namespace L2
open PySem PySem.Spec PyProof.Rows
theorem xP.okE {P:Program}{w:World}{K:PySem.W.Frag}{mg:Str ->Option Value}{base:Heap}{CX:xZ}{x qual:Str}{st:Stmt}{f:Addr}{fd:FuncData}{N ps:List Str}{k:Nat}{sp:Sp}(F:xP K x qual st f fd)(S:cJ N ps (aO st))(len: ∀vs H Q E,sp vs H Q E ->vs.length=ps.length) (ik: ∀ (cdv:Value) (A:Around) (outer:List Env) (s:Shared) (H:Hp) (vs:List V) (Q:VK) (E:XK),dG k (A.deeper (envOfC qual (aO st) s.heap.objs.size f cdv)) ->sp vs H Q E ->∃t,vw (d4 CX P w K mg base N qual (aO st) f cdv A outer s H E) (c5 st) t /\ t {nx:=λ_ H'=>Q .dC H',rt:=Q} (start N vs) H):bx P w K mg base CX (k+1) f fd ps sp:=by obtain⟨oc,od,kV,gN,pm,an,cdv,ct,yF,rfl,lk,AX⟩:=F.ex;exact KA lk AX S len λA outer s H vs Q E hr ye=>ik cdv A outer s H vs Q E hr ye
end L2
namespace WL
open PySem L2 PySem.Spec PyProof.Rows
abbrev WX:=Addr ->Mp ->Prop
abbrev fg:=List W ->Mp ->WK ->WX ->Prop
section
variable {K:PySem.W.Frag}
def up (e:WX):WX:=λC M'=> ∃M0,Sm M0 M' /\ e C M0
def Ex (K:PySem.W.Frag)(e:WX):XK:=λcls _ H'=> ∃C M',cls= .ref C /\ e C M' /\ e_ K M' H'
def nQ (K:PySem.W.Frag)(p:fg):Sp:=λvs H Q E=> ∃ (xs:List W) (M:Mp) (q:WK) (e:WX),cy K H xs vs /\ e_ K M H /\ p xs M q e /\ (∀x M' v H',q x M' ->aT H H' ->e_ K M' H' ->WR K H' x v ->Q v H') /\ ∀C M' H',e C M' ->e_ K M' H' ->E (.ref C) none H'
def DF (p:fg)(e:WX)(a:WA):WE:=λρ M q=>a ρ M λxs M1=>p xs M1 q (up e)
instance {p:fg}{e:WX}{t:TA}{a:WA} [ia:IA K t a]:IE K (sF (nQ K p) [] (Ex K e) t) (DF p e a) where
 imp:=λρ M σ H q Q o h k=>ia.imp ρ M σ H _ _ o h λx M1 v H1 h1 t1 m1 r1=>⟨x,M1,q,_,by rw[c4];exact r1,m1,h1,λy M4 v4 H4 h4 t4 m4 r4=>k y M4 v4 H4 h4 (t1.trans t4) m4 r4,λC M' H' ⟨M0,s,h⟩ m=>⟨C,M0,rfl,h,m.sub s⟩⟩
def Dy (C:Addr)(e:WX)(a:WA):WS:=λ_ ρ M=>a ρ M λxs M'=>xs.length<=sizeLine /\ up e C M'
instance {C:Addr}{e:WX}{t:TA}{a:WA} [ia:IA K t a]:IS K (yo C (Ex K e) t) (Dy C e a) where
 imp:=λρ M σ H D' D o h CD=>ia.imp ρ M σ H _ _ o h λx M1 v H1 ⟨hl,M0,s,h1⟩ t1 m1 r1=>⟨by rw[r1.length];exact hl,C,M0,rfl,h1,m1.sub s⟩
theorem Df {P:Program}{w:World}{mg:Str ->Option Value}{base:Heap}{x qual:Str}{st:Stmt}{f:Addr}{fd:FuncData}{N ps:List Str}{k:Nat}{p:fg}(F:xP K x qual st f fd)(S:cJ N ps (aO st))(len: ∀vs M q e,p vs M q e ->vs.length=ps.length) (ik: ∀ (cdv:Value) (A:Around) (outer:List Env) (s:Shared) (H:Hp) (E:XK) (e:WX),dG k (A.deeper (envOfC qual (aO st) s.heap.objs.size f cdv)) ->Bs (d4 (gu P w) P w K mg base N qual (aO st) f cdv A outer s H E) (Ex K e) ->fN (gu P w) (d4 (gu P w) P w K mg base N qual (aO st) f cdv A outer s H E) (Ex K e) ->∃ t,vw (d4 (gu P w) P w K mg base N qual (aO st) f cdv A outer s H E) (c5 st) t /\ ∃w',IS K t w' /\∀vs M q,p vs M q e ->w' {nx:=λ_ M'=> ∃M0,Sm M0 M' /\ q wn M0,rt:=λx M'=> ∃M0,Sm M0 M' /\ q x M0} (vs.map some++List.replicate (N.length - vs.length) none) M): bx P w K mg base (gu P w) (k+1) f fd ps (nQ K p):=by
 refine xP.okE F S (λvs H Q E ⟨xs,M,q,e,r,m,h,_⟩=>by rw[r.length];exact len xs M q e h) λcdv A outer s H vs Q E hr h=> ?_;obtain⟨xs,M,q,e,r,m,h,k',kE⟩:=h;have hE: ∀c d H',Ex K e c d H' ->E c none H':=λc d H' ⟨C,M',ec,he,m'⟩=>by rw[ec];exact kE C M' H' he m'
 obtain⟨t,h1,w',h2,h3⟩:=ik cdv A outer s H E e hr (λae σ H1 s1 h' ea cls us I mk z=>FA ae σ H1 s1 h' ea cls us I mk (hE _ _ _ z)) (λae σ H1 s1 ev s2 I z=>yD ae σ H1 s1 ev s2 I (by obtain⟨ea,cls,a0,B,H',r1,r2,r3,r4,r5,r6,r7,r8,r9,r⟩:=z;exact⟨ea,cls,a0,B,H',r1,r2,r3,r4,r5,r6,r7,r8,r9,hE _ _ _ r⟩));refine⟨t,h1,h2.imp _ M _ H _ _ ⟨⟨?_,λi x e=> ?_⟩,m⟩ (h3 xs M q h) ⟨?_,?_,λ_ _ _ _ h=>h.elim,λ_ _ _ _ h=>h.elim⟩⟩;have:=r.length;simp[L2.start,this];have hl:=r.length;unfold L2.start;by_cases hi:i<xs.length;rw[aW ⇑hi,aG] at e;cases ex:xs[i]? with
 | none=>rw[ex] at e;cases e
 | some y=>rw[ex] at e;cases e;obtain⟨v,hv,rv⟩:=r.at ex;refine⟨v,?_,rv⟩;rw[aW (by simp;lia),aG,hv];rfl
 rw[aU ⇑hi,cQ] at e;split at e<;>cases e;rintro ρ' M' σ' H' ⟨M0,s,hq⟩ ts o;exact k' _ M0 _ H' hq ts (o.hp.sub s) WR.v;rintro x M' v H' ⟨M0,s,hq⟩ ts m' r';exact k' x M0 v H' hq ts (m'.sub s) r'
end
end WL
namespace L2
open PySem PySem.Spec PyProof.Rows PySem.Calls
section
variable {X:Cx}
theorem HC {P:Program}{w:World}{K:PySem.W.Frag}{mg:Str ->Option Value}{base:Heap}{N:List Str}{qual:Str}{scope:Scope}{f:Addr}{cd:Value}{A:Around}{outer:List Env}{s:Shared}{H:Hp}{E:XK}: PassesOwn (model P w) (d4 (gu P w) P w K mg base N qual scope f cd A outer s H E).A (d4 (gu P w) P w K mg base N qual scope f cd A outer s H E).env (d4 (gu P w) P w K mg base N qual scope f cd A outer s H E).xe:=PassesOwn.leaving (Q₁:=λe s2=>gu P w outer H s E e s2)
def OS (te:TE):TE:=λσ H Q=>te σ H λv H1=> ∃y,cM (v= .str y) (y.length<=sizeLine) (Q (.str y) H1)
theorem uD {e:Expr}{te:TE}{pos:Pos}(he:PE X e te):PE X (.FormattedValue e (-1) none pos) (OS te):=by
 intro ae s σ H Q I h;refine FormattedValue_plain (cz (he ae s σ H _ I h) ?_);rintro v s1 ⟨x,H1,I1,r,y,rfl,hy,q⟩;obtain⟨t,rfl⟩:=(show ∃t,v=Value.str y t from r)
 exact formatField_str (λt' tk=>⟨.str y,H1,I1.tok tk,⟨t',rfl⟩,q⟩) hy
def OT (te:TE):TE:=λσ H Q=>te σ H λv H1=> ∃i:Int,cM (v= .int i) (i.natAbs.log2<1920) (Q (.str (toString i)) H1)
theorem EA {e:Expr}{te:TE}{pos:Pos}(he:PE X e te):PE X (.FormattedValue e (-1) none pos) (OT te):=by
 intro ae s σ H Q I h;refine FormattedValue_plain (cz (he ae s σ H _ I h) ?_);rintro v s1 ⟨x,H1,I1,r,i,rfl,hi,q⟩;obtain⟨t,rfl⟩:=(show ∃t,v=Value.int i t from r)
 exact formatField_int_small hi ⟨.str _,H1,I1.tok _,⟨_,rfl⟩,q⟩
def tJ0 (out:Str):TE:=λ_ H Q=>out.length<=sizeLine /\ Q (.str out) H
def tJ1 (te:TE)(k:Str ->TE)(out:Str):TE:=λσ H Q=>te σ H λv H1=> ∃y,cM (v= .str y) ((out++y).length<=sizeLine) (k (out++y) σ H1 Q)
def PJ (X:Cx)(es:List Expr)(k:Str ->TE):Prop:= ∀ (out:Str) (ae:List (Addr×Obj)) (s:Shared) (σ:St) (H:Hp) (Q:VK),Inv X ae σ H s ->k out σ H Q ->wpAny (model X.prog X.w) X.A (joinParts out (evalEach es X.env)) (EP X ae σ Q) X.xe s
theorem m8:PJ X [] tJ0:=λout ae s σ H Q I ⟨hz,q⟩=>joinParts_nil ⟨.str out,H,I.tok _,⟨_,rfl⟩,q⟩ hz
theorem dU {e:Expr}{es:List Expr}{te:TE}{k:Str ->TE}(he:PE X e te)(hk:PJ X es k)(hs:evalEach (e::es) X.env=eval e X.env::evalEach es X.env:=by rfl):PJ X (e::es) (tJ1 te k):=by
 intro out ae s σ H Q I h;rw[hs];refine joinParts_cons (cz (he ae s σ H _ I h) ?_);rintro v s1 ⟨x,H1,I1,r,y,rfl,hz,q⟩;obtain⟨t,rfl⟩:=(show ∃t,v=Value.str y t from r)
 exact⟨hz,hk _ ae s1 σ H1 Q I1 q⟩
theorem km {e e':Expr}{es:List Expr}{k:Str ->TE}{pos:Pos}(h:PJ X (e::e'::es) k):PE X (.JoinedStr (e::e'::es) pos) (k Str.empty):=λae s σ H Q I hq=>JoinedStr_many (h Str.empty ae s σ H Q I hq)
end
end L2
namespace WL
open PySem L2 PySem.Spec PyProof.Rows
section
variable {K:PySem.W.Frag}
def K4 (a:WE):WE:=λρ M q=>a ρ M λx M1=> ∃y,cM (x=ws y) (y.length<=sizeLine) (q (ws y) M1)
instance {t:TE}{a:WE} [ia:IE K t a]:IE K (OS t) (K4 a) where
 imp:=λρ M σ H q Q o h k=>ia.imp ρ M σ H _ _ o h λx M1 v H1 ⟨y,e,hz,h1⟩ t1 m1 r1=>by subst e;exact⟨y,r1.eq,hz,k _ M1 _ H1 h1 t1 m1 WR.v⟩
def K5 (a:WE):WE:=λρ M q=>a ρ M λx M1=> ∃i:Int,cM (x=wi i) (i.natAbs.log2<1920) (q (ws (toString i)) M1)
instance {t:TE}{a:WE} [ia:IE K t a]:IE K (OT t) (K5 a) where
 imp:=λρ M σ H q Q o h k=>ia.imp ρ M σ H _ _ o h λx M1 v H1 ⟨y,e,hz,h1⟩ t1 m1 r1=>by subst e;exact⟨y,r1.eq,hz,k _ M1 _ H1 h1 t1 m1 WR.v⟩
def wJ0 (out:Str):WE:=λ_ M q=>out.length<=sizeLine /\ q (ws out) M
instance {out:Str}:IE K (tJ0 out) (wJ0 out) where
 imp:=λρ M σ H q Q o ⟨hz,h⟩ k=>⟨hz,k _ M _ H h (aT.refl H) o.hp WR.v⟩
def TM (a:WE)(f:Str ->WE)(out:Str):WE:=λρ M q=>a ρ M λx M1=> ∃y,cM (x=ws y) ((out++y).length<=sizeLine) (f (out++y) ρ M1 q)
instance {t:TE}{a:WE}{f:Str ->TE}{g:Str ->WE}{out:Str} [ia:IE K t a] [ig: ∀o,IE K (f o) (g o)]:IE K (tJ1 t f out) (TM a g out) where
 imp:=λρ M σ H q Q o h k=>ia.imp ρ M σ H _ _ o h λx M1 v H1 ⟨y,e,hz,h1⟩ t1 m1 r1=>by subst e;exact⟨y,r1.eq,hz,(ig _).imp ρ M1 σ H1 q Q (o.mv t1 m1) h1 λx2 M2 v2 H2 q2 t2 m2 r2=>k x2 M2 v2 H2 q2 (t1.trans t2) m2 r2⟩
end
end WL
namespace L2
open PySem PySem.Spec PyProof.Rows PySem.Calls PySem.W
theorem Aw {K:PySem.W.Frag}{mg:Str ->Option Value}{h₀:Heap}{x:Str}{C:Addr}{bmB:List Value}{Kc:String}(m:Mod K mg h₀)(e:nsIn K mainGlobals x=some (some (.ref C)))(q:excIn K C bmB Kc=true):OwnCls x C bmB Kc mg h₀:=by
 have X:=m.Kn;refine⟨mg_of X m.glob e,?_⟩;unfold excIn at q;split at q;rename_i dd cd sl ho;split at q;rename_i C' bm k0 k1 k2 k3 n k5 hm hs;simp only[cR,beq_iff_eq,Bool.not_eq_true'] at q;obtain⟨⟨⟨⟨⟨rfl,rfl⟩,QJ⟩,ht⟩,cF⟩,Qz⟩:=q;obtain⟨nm,bs,mro,ns,qn,hd,sn,sub,ab,col,del⟩:=cd;dsimp only at hm QJ cF Qz;subst hm QJ;have hsl:sl= #[k0,k1,k2,k3,some (.builtin n),k5]:=by obtain⟨l⟩:=sl;simp only at hs;rw[hs]
 subst hsl;exact⟨bm,ns,nm,qn,bs,hd,sn,sub,ab,col,dd,k0,k1,k2,k3,k5,_,X _ _ ho, .of_isNs (isNs_of_in X cF),nsMap_none_of_in X cF Qz,tail_of_in X ht⟩;cases q;cases q
structure ls (K:PySem.W.Frag)(x:Str)(C:Addr):Prop where
 ns:nsIn K mainGlobals x=some (some (.ref C))
 exc:excIn K C Q7 "ValueError.__new__" =true
 k:Ry K C
section
variable {X:Cx}
theorem fc {E:XK}{x:Str}{C:Addr}{np c9 pos:Pos}{e₀:Expr}{dh:List Expr}{t:TA}(hF:Bs X E)(hc:X.calm=true)(hg:Gl X x)(O:ls X.K x C)(ha:PA X (e₀::dh) t) (tf:(x==("__debug__" :Str))=false:=by decide) (he:starEach (e₀::dh) X.env=(false,eval e₀ X.env)::starEach dh X.env:=by rfl) (mS:(backTo c9 (starEach dh X.env)).any (·.1)=false:=by rfl): PS X (.Raise (some (.Call (.Name x np) (e₀::dh) [] c9)) none pos) (yo C E t):=λae s σ H D I h=>Ev hF hc hg (Aw I.ok.mod O.ns O.exc) ha tf he mS ae s σ H D I h
end
end L2
namespace WQ
open PySem L2 WL WP
def eC (d:Str×Int):W:= .tup [ws d.1,wi d.2]
def sstep (s:Int×Pt)(d:Str×Int):Int×Pt:=if d.1= "go" then(s.1+d.2,s.2) else(s.1,s.2++ [(s.1,d.2)])
def dN (ds:List (Str×Int)):Int×Pt:=ds.foldl sstep (0,[])
theorem gT (ds:List (Str×Int))(d:Str×Int):dN (ds++ [d])=sstep (dN ds) d:=by unfold dN;rw[List.foldl_append];rfl
theorem gU (ds:List (Str×Int)):(dN ds).2.length<=ds.length:=by
 induction ds using kn with
 | h0=>simp[dN]
 | h1 l a ih=>rw[gT,aH];unfold sstep;split<;>simp<;>lia
theorem KG {l:List (Str×Int)}{i:Nat}{x:W}(h:(l.map eC)[i]? =some x): ∃q,l[i]? =some q /\ x=eC q:=by
 rw[aG] at h;cases e:l[i]? with
 | none=>rw[e] at h;cases h
 | some q=>rw[e] at h;cases h;exact⟨q,rfl,rfl⟩
def Good (d:Str×Int):Prop:=d.1= "go" \/ d.1= "turn"
def LQ (C:Addr):fg:=λxs M q e=>dH λ(a:Addr) (p:Int) (ds:List (Str×Int))=>Dk (xs= [wi p,wr a]) (M a=some (.lst (ds.map eC))) (0<p) (Dl (dN ds).2) (ds.length<=50000) (∀d∈ds,d.1.length<=100) ((∀d∈ds,Good d) ->q (fI ((dN ds).1,nq p (dN ds).2)) M) ((∃d∈ds,¬Good d) ->e C M)
def LJ:fh:=λxs M q=>dH λ(a:Addr) (p:Int) (ds:List (Str×Int))=>kz (xs= [wi p,wr a]) (M a=some (.lst (ds.map eC))) (0<p) (Dl (dN ds).2) (ds.length<=50000) (q (fI ((dN ds).1,nq p (dN ds).2)) M)
end WQ
namespace WL
open PySem L2
theorem MW {M:Mp}{q:WK}{x y:W}{d:Dt}(hx:DR M x d)(hy:DR M y d)(hd:nG d<=50)(hs:iC d d=true)(h:q (wb true) M):Om x y M q:=⟨d,d,hx,hy,hs,hd,by rw[io];exact h⟩
theorem qq {M:Mp}{q:WK}{x y:W}{d:Dt}(hx:DR M x d)(hy:DR M y d)(hd:nG d<=50)(hs:iC d d=true)(h:q (wb false) M):K2 x y M q:=⟨d,d,hx,hy,hs,hd,by rw[io];exact h⟩
def IV {α:Type}(f:α ->W)(g:α ->Dt):Prop:= ∀a,CK (f a)=some (g a)
theorem xz {α:Type}{f:α ->W}{g:α ->Dt}(h:IV f g): ∀l:List α,kJ (l.map f)=some (l.map g)
 | []=>rfl
 | a::l=>by rw[az,kJ,h a,xz h l];rfl
theorem xo {α:Type}{g:α ->Dt}{n:Nat}(h: ∀a,nG (g a) <=n): ∀l:List α,i_ (l.map g) <=n
 | []=>by simp[i_]
 | a::l=>by rw[az,i_];have:=h a;have:=xo h l;lia
theorem DR.list {α:Type}{M:Mp}{a:Addr}{f:α ->W}{g:α ->Dt}{l:List α}(h:IV f g)(ha:M a=some (.lst (l.map f))):DR M (wr a) (.lst (l.map g)):= .inr ⟨a,_,_,rfl,ha,xz h l,rfl⟩
end WL
namespace WQ
open PySem L2 WL WP
theorem uZ:IV eC (λd=> .tup [.str d.1, .int d.2]):=λd=>rfl
theorem FN (l:List (Str×Int)):nG (.lst (l.map λd=> .tup [.str d.1, .int d.2])) <=50:=by rw[nG];have:=xo (n:=1) (g:=λd:Str×Int=>Dt.tup [.str d.1, .int d.2]) (λa=>by simp[nG,i_]) l;lia
end WQ
namespace WL
open PySem L2
theorem Rc {α:Type}{a b c d e:α}{l:List α}:ix (a::b::c::d::e::l) 4=some e:=eD (j:=4) (by rfl)
theorem Rb {α:Type}{a b c d e f:α}{l:List α}:ix (a::b::c::d::e::f::l) 5=some f:=eD (j:=5) (by rfl)
theorem Ra {α:Type}{a b c d e f g:α}{l:List α}:ix (a::b::c::d::e::f::g::l) 6=some g:=eD (j:=6) (by rfl)
theorem Q_ {α:Type}{a b c d e f g h:α}{l:List α}:ix (a::b::c::d::e::f::g::h::l) 7=some h:=eD (j:=7) (by rfl)
theorem Q9 {α:Type}{a b c d e f g h i:α}{l:List α}:ix (a::b::c::d::e::f::g::h::i::l) 8=some i:=eD (j:=8) (by rfl)
theorem Q8 {α:Type}:(∀ (a b c d e:α) (l:List α),ix (a::b::c::d::e::l) 4=some e) /\ (∀ (a b c d e f:α) (l:List α),ix (a::b::c::d::e::f::l) 5=some f) /\ (∀ (a b c d e f g:α) (l:List α),ix (a::b::c::d::e::f::g::l) 6=some g) /\ (∀ (a b c d e f g h:α) (l:List α),ix (a::b::c::d::e::f::g::h::l) 7=some h) /\ (∀ (a b c d e f g h i:α) (l:List α),ix (a::b::c::d::e::f::g::h::i::l) 8=some i):=⟨λ_ _ _ _ _ _=>Rc,λ_ _ _ _ _ _ _=>Rb,λ_ _ _ _ _ _ _ _=>Ra,λ_ _ _ _ _ _ _ _ _=>Q_,λ_ _ _ _ _ _ _ _ _ _=>Q9⟩
end WL
namespace L2
open PySem PySem.Spec PyProof.Rows
def Keeps (S:Nat ->Prop)(g:TG):Prop:= ∀ (σ:St) (v:V) (H:Hp) (Q:St ->Hp ->Prop),g v σ H Q ->g v σ H λσ2 H2=>(σ2.length=σ.length /\ ∀i,¬S i ->σ2[i]? =σ[i]?) /\ Q σ2 H2
theorem wQ {S:Nat ->Prop}{n:Nat}(h:S n):Keeps S (jK n):=by intro σ v H Q q;refine⟨⟨by simp,λi hi=> ?_⟩,q⟩;rw[List.getElem?_set_ne];intro e;subst e;exact hi h
theorem AN {K:PySem.W.Frag}{S:Nat ->Prop}{n m:Nat}(h:S n)(h':S m):Keeps S (IB K 2 (tz (jK n) (tz (jK m) ID))):=by rintro σ v H Q ⟨a,xs,e,hs,hl,x,r,rfl,y,r',rfl,rfl,q⟩;refine⟨a,_,e,hs,hl,x,_,rfl,y,_,rfl,rfl,⟨by simp,λi hi=> ?_⟩,q⟩;rw[List.getElem?_set_ne,List.getElem?_set_ne];intro e;subst e;exact hi h;intro e;subst e;exact hi h'
theorem Bp {own:Nat}{fr:List Nat}{σ:St}{i:Nat}{v:V}(h:(ja own fr σ)[i]? =some (some v)):own<=i:=by unfold ja at h;rcases Nat.lt_or_ge i own with c | c;rw[aW ⇑c,cQ,ak c] at h;cases h;exact c
def inW (Dq:TI)(g2:TG)(zU:TT)(te:TE)(σ2:St)(p:Addr)(H4:Hp)(N:List V ->Hp ->Prop):Prop:=Dq σ2 H4 λJ2 H5=> ∃Z:Nat ->Nat ->List V ->Hp ->Prop,(∃m zs,Z 0 m zs H5) /\ ∀j k zs H6,Z j k zs H6 ->H6 p=some (.lst zs) /\((J2.stop j H6 /\ N zs H6) \/ (J2.go j H6 /\ zs.length<sizeLine /\ ∀y H7,J2.Nq j H6 y H7 ->g2 y σ2 H7 λσ3 H8=>zU σ3 H8 λc H9=>if c=true then te σ3 H9 λz NX=> ∃ws,NX p=some (.lst ws) /\ ws.length<sizeLine /\ ∃k',k'<k /\ Z (j+1) k' (ws++ [z]) (cq NX p (.lst (ws++ [z]))) else ∃ws k',k'<k /\ Z (j+1) k' ws H9))
def FY (J:It)(own:Nat)(fr:List Nat)(g:TG)(tc:TT)(Dq:TI)(g2:TG)(zU:TT)(te:TE)(σ:St)(p:Addr)(H1:Hp)(Q:VK):Prop:=∃ W :Nat ->Nat ->List V ->Hp ->Prop,(∃m,W 0 m [] (cq H1 p (.lst []))) /\ ∀i m ys H',W i m ys H' ->H' p=some (.lst ys) /\((J.stop i H' /\ Q (.ref p) H') \/ (J.go i H' /\ ∀x H2,J.Nq i H' x H2 ->g x (ja own fr σ) H2 λσ2 H3=>tc σ2 H3 λb H4=>if b=true then inW Dq g2 zU te σ2 p H4 λzs H5=> ∃m',m'<m /\ W (i+1) m' zs H5 else ∃zs m',m'<m /\ W (i+1) m' zs H4))
def DY (wi:TI)(own:Nat)(fr:List Nat)(g:TG)(tc:TT)(Dq:TI)(g2:TG)(zU:TT)(te:TE):TE:=λσ H Q=>wi σ H λJ H1=> ∀p,H1 p=none ->FY J own fr g tc Dq g2 zU te σ p H1 Q
section
variable {prog:Program}{w:World}{A:Around}{R:Result ->Shared ->Prop}{s:Shared}
abbrev sU (gy tg iter:Expr)(gx:List Expr)(iN cB:Expr)(d7:List Expr)(scope:Scope)(pos:Pos):Expr:= .ListComp gy [⟨tg,iter,gx,0⟩,⟨iN,cB,d7,0⟩] scope pos
theorem G_ (gy tg iter:Expr)(gx:List Expr)(iN cB:Expr)(d7:List Expr)(scope:Scope)(pos:Pos)(it eQ:Value)(env:Env): compTurn (sU gy tg iter gx iN cB d7 scope pos) 0 it eQ env=(do
 standAt iter.pos
 let r <- pyNext it
 match r with
 | none=>pure (.done .next)
 | some v=>do
  letOwnedTupleGo tg it v
  assign tg env v
  let ok <- forIn gx true λc r=>if r=true then do let ok <- isTrue c env (eval c env);pure (ForInStep.yield ok) else pure (ForInStep.yield r)
  if ok=true then do
   let x <- eval cB env
   standAt cB.pos
   let x <- foldedSetIterable cB env x
   let i2 <- holding [x] (pyIter x)
   let _ <- runOwn (.compStart (sU gy tg iter gx iN cB d7 scope pos) 1 i2 eQ env) env
   again (.compLoop (sU gy tg iter gx iN cB d7 scope pos) 0 it eQ env)
  else again (.compLoop (sU gy tg iter gx iN cB d7 scope pos) 0 it eQ env)):=by rfl
theorem G' (gy tg iter:Expr)(gx:List Expr)(iN cB:Expr)(d7:List Expr)(scope:Scope)(pos:Pos)(it eQ:Value)(env:Env): compTurn (sU gy tg iter gx iN cB d7 scope pos) 1 it eQ env=(do
 standAt cB.pos
 let r <- pyNext it
 match r with
 | none=>pure (.done .next)
 | some v=>do
  letOwnedTupleGo iN it v
  assign iN env v
  let ok <- forIn d7 true λc r=>if r=true then do let ok <- isTrue c env (eval c env);pure (ForInStep.yield ok) else pure (ForInStep.yield r)
  if ok=true then do
   ((do let _ <- call (.builtin "list.append") [eQ, <- eval gy env]):Sem Unit)
   again (.compLoop (sU gy tg iter gx iN cB d7 scope pos) 1 it eQ env)
  else again (.compLoop (sU gy tg iter gx iN cB d7 scope pos) 1 it eQ env)):=by rfl
theorem Ea {gy tg iter:Expr}{gx:List Expr}{iN cB:Expr}{d7:List Expr}{scope:Scope}{pos:Pos}{it eQ:Value}{env:Env} (h0:codeAny (model prog w) A (.compLoop (sU gy tg iter gx iN cB d7 scope pos) 1 it eQ env) R s) (h:wpAny (model prog w) A (pyIter it) (λVg s'=>codeAny (model prog w) A (.compLoop (sU gy tg iter gx iN cB d7 scope pos) 1 Vg eQ env) R s') (notedBy (model prog w) A env λx s'=>R (.error x) s') s): codeAny (model prog w) A (.compStart (sU gy tg iter gx iN cB d7 scope pos) 1 it eQ env) R s:=by
 refine codeAny_of_tree ?_;show wpAny _ _ ((compStart (sU gy tg iter gx iN cB d7 scope pos) 1 it eQ env).onRaise (λx=>do noteFrame x env;standAt theWindowsPlace)) _ _ s;refine wpAny_notedAt ?_;unfold compStart;show wpAny _ _ (ask >>=_) _ _ s;refine ar (wpAny_askSetting (wpAny_ite ?_));split;first
 | exact ar (aR (aR (And.intro rfl h0)))
 | exact aR (And.intro rfl h0)
 first
 | exact ar (wpAny_rule (ar (wpAny_standAt (ar (bp h (λVg s' h'=>aR (And.intro rfl h')) λ_ _ x=>x)))))
 | (refine ar (wpAny_rule ?_);show wpAny _ _ (standAt cB.pos >>=_) _ _ s;exact ar (wpAny_standAt (ar (bp h (λVg s' h'=>aR (And.intro rfl h')) λ_ _ x=>x))))
theorem HV {gy tg iter:Expr}{gx:List Expr}{iN cB:Expr}{d7:List Expr}{scope:Scope}{pos:Pos}{it eQ:Value}{env:Env}(I:Nat ->Shared ->Prop) (turn : ∀n s,I n s ->wpAny (model prog w) A (pyNext it) (λr s₁=>match r with
   | none=>R (.ok .next) s₁
   | some v=>wpAny (model prog w) A (letOwnedTupleGo iN it v) (λ_ s₀=>wpAny (model prog w) A (assign iN env v) (λ_ s₂=>
    wpAny (model prog w) A (forIn d7 true λc r=>if r=true then do let ok <- isTrue c env (eval c env);pure (ForInStep.yield ok) else pure (ForInStep.yield r)) (λok s₃=>if ok=true then wpAny (model prog w) A (eval gy env) (λx s₄=>wpAny (model prog w) A (call (.builtin "list.append") [eQ,x]) (λ_ s₅=> ∃m,m<n /\ I m s₅) (λ_ _=>False) s₄) (λ_ _=>False) s₃ else ∃m,m<n /\ I m s₃) (λ_ _=>False) s₂)
    (λ_ _=>False) s₀) (λ_ _=>False) s₁) (λ_ _=>False) s)
  (n:Nat) (h:I n s):codeAny (model prog w) A (.compLoop (sU gy tg iter gx iN cB d7 scope pos) 1 it eQ env) R s:=by
 refine codeAny_loop rfl I (λn s hI=> ?_) n h
 show wpAny _ A ((compTurn (sU gy tg iter gx iN cB d7 scope pos) 1 it eQ env).onRaise (λx=>do noteFrame x env;theTreesLotGoes x)) _ _ s
 refine wpAny_noted ?_
 rw[G']
 refine ar (wpAny_standAt (ar (bp (turn n s hI) (λr s₁ h₁=> ?_) λ_ _ h'=>h'.elim)))
 cases r with
 | none=>exact aR h₁
 | some v=>
  refine ar (bp h₁ (λ_ s₀ Qn=> ?_) λ_ _ h'=>h'.elim);refine ar (bp Qn (λ_ s₂ h₂=> ?_) λ_ _ h'=>h'.elim);refine ar (bp h₂ (λPL s₃ h₃=> ?_) λ_ _ h'=>h'.elim);cases PL with
  | false=>exact aR ⟨rfl,h₃⟩
  | true=>exact ar (ar (bp h₃ (λx s₄ h₄=>ar (bp h₄ (λ_ s₅ h₅=>aR (aR ⟨rfl,h₅⟩)) λ_ _ h'=>h'.elim)) λ_ _ h'=>h'.elim))
theorem HW {gy tg iter:Expr}{gx:List Expr}{iN cB:Expr}{d7:List Expr}{scope:Scope}{pos:Pos}{it eQ:Value}{env:Env}(I:Nat ->Shared ->Prop)(hs: ∀x,foldedSetIterable cB env x=pure x) (turn : ∀n s,I n s ->wpAny (model prog w) A (pyNext it) (λr s₁=>match r with
   | none=>R (.ok .next) s₁
   | some v=>wpAny (model prog w) A (letOwnedTupleGo tg it v) (λ_ s₀=>wpAny (model prog w) A (assign tg env v) (λ_ s₂=>
    wpAny (model prog w) A (forIn gx true λc r=>if r=true then do let ok <- isTrue c env (eval c env);pure (ForInStep.yield ok) else pure (ForInStep.yield r)) (λok s₃=>if ok=true then wpAny (model prog w) A (eval cB env) (λx s₄=>wpAny (model prog w) A (pyIter x) (λi2 s₅=>codeAny (model prog w) (A.mark none) (.compStart (sU gy tg iter gx iN cB d7 scope pos) 1 i2 eQ env) (λr s₆=>match r with | .ok _=> ∃m,m<n /\ I m s₆ | .error _=>False) s₅) (λ_ _=>False) s₄) (λ_ _=>False) s₃ else ∃m,m<n /\ I m s₃) (λ_ _=>False) s₂)
    (λ_ _=>False) s₀) (λ_ _=>False) s₁) (λ_ _=>False) s)
  (n:Nat) (h:I n s):codeAny (model prog w) A (.compLoop (sU gy tg iter gx iN cB d7 scope pos) 0 it eQ env) R s:=by
 refine codeAny_loop rfl I (λn s hI=> ?_) n h
 show wpAny _ A ((compTurn (sU gy tg iter gx iN cB d7 scope pos) 0 it eQ env).onRaise (λx=>do noteFrame x env;theTreesLotGoes x)) _ _ s
 refine wpAny_noted ?_
 rw[G_]
 refine ar (wpAny_standAt (ar (bp (turn n s hI) (λr s₁ h₁=> ?_) λ_ _ h'=>h'.elim)))
 cases r with
 | none=>exact aR h₁
 | some v=>
  refine ar (bp h₁ (λ_ s₀ Qn=> ?_) λ_ _ h'=>h'.elim);refine ar (bp Qn (λ_ s₂ h₂=> ?_) λ_ _ h'=>h'.elim);refine ar (bp h₂ (λPL s₃ h₃=> ?_) λ_ _ h'=>h'.elim);cases PL with
  | false=>exact aR ⟨rfl,h₃⟩
  | true=>
   refine ar (bp h₃ (λx s₄ h₄=> ?_) λ_ _ h'=>h'.elim);refine ar (wpAny_standAt ?_);rw[hs];refine ar (aR (ar (wpAny_holding (bp h₄ (λi2 s₅ h₅=> ?_) λ_ _ h'=>h'.elim))));refine ar (wpAny_runOwn ?_);refine codeAny_mono h₅ λr s' z=> ?_;cases r with
   | ok f=>exact aR ⟨rfl,z⟩
   | error e=>exact z.elim
end
section
variable {X:Cx}{ae:List (Addr×Obj)}{σ:St}{H:Hp}{s s3:Shared}
theorem xB {tg iter gy:Expr}{gx:List Expr}{iN cB:Expr}{d7:List Expr}{pos:Pos}{own N':List Str}{fr:List Nat}{n1:Nat}{scope:Scope}{cl:List (Str×Addr)}{fp:List Addr}{it:Addr}{tn:Nat ->Heap ->Prop}{J:It}{g:TG}{tc:TT}{Dq:TI}{g2:TG}{zU:TT}{te:TE}{Q:VK} {E:Value ->Shared ->Prop} {RR:Value ->Addr ->Result ->Shared ->Prop} (jJ:X.calm=true) (S:c8 X own fr N' scope) (hg: ∀s3 H3,PG (bH X N' scope cl fp s3 H3) tg g) (Kt:n1<=own.length) (hw:Keeps (λi=>i<n1) g) (hc: ∀s3 H3,KU (bH X N' scope cl fp s3 H3) gx tc) (VT: ∀s3 H3,PI (bH X N' scope cl fp s3 H3) iN cB Dq) (Kv: ∀s3 H3,PG (bH X N' scope cl fp s3 H3) iN g2) (Vo:Keeps (λi=>n1<=i /\ i<own.length) g2) (MK: ∀s3 H3,KU (bH X N' scope cl fp s3 H3) d7 zU) (he: ∀s3 H3,PE (bH X N' scope cl fp s3 H3) gy te) (Ct: ∀s3 H3 x,foldedSetIterable cB (bH X N' scope cl fp s3 H3).env x=pure x) (rX: ∀x c,cl.lookup x=some c ->X.env.cells.lookup x=some c) (rW: ∀y∈scope.names,y.2= .free ->(cl.lookup y.1).isSome=true) (I:Inv X ae σ H s) (T:vb X.prog X.w X.K tg J fp it tn) (st:tn 0 s.heap) (w5: ∀b∈fp,jc X ae H b) (h: ∀p,H p=none ->FY J own.length fr g tc Dq g2 zU te σ p H Q) (fin: ∀ (s3:Shared) (H3:Hp),Inv X ae σ H3 s3 ->(∀b∈fp,jc X ae H3 b) -> ∀ (D:Addr) (σ':St) (H':Hp) (s':Shared) (t:Nat),D<s3.heap.objs.size ->Inv (bH X N' scope cl fp s3 H3) [] σ' H' s' ->Q (.ref D) H' ->RR (.ref D) s3.heap.objs.size (.ok .next) s'): wpAny (model X.prog X.w) X.A (newList []) (λeQ s₃=>wpAny (model X.prog X.w) X.A (newFunctionEnv scope X.env.globals cl [] X.env.qual none .none (some X.env)) (λF' s₄=>codeAny (model X.prog X.w) X.A (.compStart (sU gy tg iter gx iN cB d7 scope pos) 0 (.ref it) eQ {F' with scope:=relabel scope X.env}) (RR eQ F'.locals) s₄) E s₃) E s:=by
 refine wpAny_newObj_type ?_;have hf:H s.heap.objs.size=none:=I.cF.fresh (ao _);obtain⟨W,⟨m0,w0⟩,turn⟩:=h _ hf;generalize e3:({s with heap:=s.heap.push {cls:= .type "list",dict:=none,data:= .seq ([]:List Value).toArray}}:Shared)=s3;have Lk:s3.heap.objs.size=s.heap.objs.size+1:=by rw[<- e3];exact Heap.size_push ..
 have Ul: ∀b o,s.heap.get? b=some o ->s3.heap.get? b=some o:=λb o e=>by rw[<- e3];exact aq _ e
 have I3:Inv X ae σ (cq H s.heap.objs.size (.lst [])) s3:=by rw[<- e3];exact I.laid (t':=s.toks) (λb u e=>aq _ e) (ao _) ⟨cZ _,[],0, .nil,aM _ rfl⟩
 have MS: ∀b∈fp,b<s.heap.objs.size:=λb hb=>by obtain⟨o,e,_⟩:=T.obj 0 _ st b hb;exact aE e
 have zb: ∀b∈fp,jc X ae (cq H s.heap.objs.size (.lst [])) b:=λb hb=>⟨by rw[bC (bg (MS b hb))];exact(w5 b hb).1,(w5 b hb).2⟩
 refine wpAny_newFunctionEnv S.qp (by intro y hy;simp at hy) (λh₁ My Mt=> ?_) S.kind;have old: ∀b o,s3.heap.get? b=some o ->h₁.get? b=some o:=λb o e=>Mt.extBut b o (bg (aE e)) (aq _ e);have Ic:=wT (t:=s3.toks+([]:List (Str×Value)).length) S I3 rX rW zb (λb hb=>by rw[Lk];exact Nat.lt_succ_of_lt (MS b hb)) My old;have BF:tn 0 h₁:=T.keep 0 _ _ st λb hb o e=>old b o (Ul b o e);have p9: ∀ {H':Hp},(∀b∈fp,H' b=none) -> ∀b∈fp,jc (bH X N' scope cl fp s3 (cq H s.heap.objs.size (.lst []))) [] H' b:=λhn b hb=>by refine⟨hn b hb,?_,?_, .inl hb,λx c e=>(w5 b hb).2.2.2.2.1 x c (rX x c e),λp hp=>absurd (show p∈([]:List (Addr×Obj)) from hp) (by simp)⟩;show b≠s3.heap.objs.size;rw[Lk];exact bg (Nat.lt_succ_of_lt (MS b hb));exact Ic.ok.zh b hb
 have loop : codeAny (model X.prog X.w) X.A (.compLoop (sU gy tg iter gx iN cB d7 scope pos) 0 (.ref it) (.ref s.heap.objs.size) (compEnvC scope cl s3.heap.objs.size X.env)) (RR (.ref s.heap.objs.size) s3.heap.objs.size) {s3 with heap:=h₁,toks:=s3.toks+([]:List (Str×Value)).length}:=by
  refine HW (λn s'=>dH λi ys H'=>eu (Inv (bH X N' scope cl fp s3 (cq H s.heap.objs.size (.lst []))) [] (ja own.length fr σ) H' s') (tn i s'.heap) (∀b∈fp,H' b=none) (W i n ys H')) (Ct s3 H) ?_ m0 ⟨0,[],_,Ic,BF,λb hb=>(zb b hb).1,w0⟩;rintro n s4 ⟨i,ys,H4,I4,eP,QU,w4⟩;obtain⟨zc,alt⟩:=turn i n ys H4 w4;rcases alt with⟨stop,q⟩ | ⟨go,step⟩
  ·refine cz (T.done (bH X N' scope cl fp s3 (cq H s.heap.objs.size (.lst []))) rfl rfl rfl jJ i [] s4 _ H4 (λ_ _=>False) I4 (p9 QU) eP stop) λr s5 ⟨hr,I5⟩=> ?_;subst hr;exact fin s3 _ I3 zb _ _ H4 s5 s5.toks (by rw[Lk];exact Nat.lt_succ_self _) I5 q
  refine cz (T.item (bH X N' scope cl fp s3 (cq H s.heap.objs.size (.lst []))) rfl rfl rfl jJ i [] s4 _ H4 (λ_ _=>False) I4 (p9 QU) eP go) λr s5 ⟨u,hr,h5⟩=> ?_;subst hr;refine cz h5 λ_ s6 ⟨x,H6,I6,r6,y6,Ln,fr6⟩=> ?_;have I6':=I6.pinned (p9 fr6) (T.obj _ _ Ln);have Sh:=hw _ x H6 _ (step x H6 y6);refine cz (hg s3 _ _ s6 _ H6 x u _ I6' r6 Sh) λ_ s7 ⟨σ7,H7,I7,wk,q7⟩=> ?_;have wk1: ∀ (j:Nat) v,(ja own.length fr σ)[j]? =some (some v) ->σ7[j]? =some (some v):=λj v e=>by rw[wk.2 j (by have:=Bp e;lia)];exact e
  have wk2: ∀j,n1<=j ->j<own.length -> ∀v,σ7[j]? ≠some (some v):=λj h1 h2 v e=>by rw[wk.2 j ∅] at e;have:=Bp e;lia
  have again: ∀ {σ9:St} {H9:Hp} {s9:Shared} {KZ:List V},σ9.length=σ7.length ->(∀ (j:Nat) v,σ7[j]? =some (some v) ->σ9[j]? =some (some v)) ->Inv (bH X N' scope cl fp s3 (cq H s.heap.objs.size (.lst []))) ([]++gh fp s6.heap) σ9 H9 s9 ->(∃m',m'<n /\ W (i+1) m' KZ H9) ->∃m,m<n /\ dH λi ys H'=>eu (Inv (bH X N' scope cl fp s3 (cq H s.heap.objs.size (.lst []))) [] (ja own.length fr σ) H' s9) (tn i s9.heap) (∀b∈fp,H' b=none) (W i m ys H'):=λ{σ9 H9 s9 KZ} hl9 hv9 I9 ⟨m',hm,w9⟩=>by refine⟨m',hm,i+1,KZ,H9,(I9.gS).weak ?_ λj v e=>hv9 j v (wk1 j v e),T.keep _ _ _ Ln λb hb o e=>(I9.pin (b,o) (aK _ (aK _ (d3 hb e)))).1,λb hb=> ?_,w9⟩;rw[hl9,wk.1];obtain⟨o,e,d⟩:=T.obj _ _ Ln b hb;exact(I9.pin (b,o) (aK _ (aK _ (d3 hb e)))).2.1
  refine cz (hc s3 _ _ s7 σ7 H7 _ I7 q7) λok s8 ⟨H8,I8,q8⟩=> ?_;cases ok with
  | false=>simp only[aw,bi] at q8 ⊢;obtain⟨zs,q8⟩:=q8;exact again rfl (λ_ _ e=>e) I8 q8
  | true =>
   simp only[bP] at q8 ⊢;refine cz (VT s3 _ _ s8 σ7 H8 _ I8 q8) λv2 s9 h9=>cz h9 λQg UF V'=> ?_;obtain⟨AS,QW,tn2,J2,NX,e10,I10,T2,O2,f10,Z,⟨mz,z0,Mr⟩,OC⟩:=V';subst e10;have D_: ∀ {H':Hp},(∀b∈QW,H' b=none) -> ∀b∈QW,jc (bH X N' scope cl fp s3 (cq H s.heap.objs.size (.lst []))) ([]++gh fp s6.heap) H' b:=λhn b hb=>⟨hn b hb,(f10 b hb).2⟩
   have Kf:codeAny (model X.prog X.w) X.A (.compLoop (sU gy tg iter gx iN cB d7 scope pos) 1 (.ref AS) (.ref s.heap.objs.size) (compEnvC scope cl s3.heap.objs.size X.env)) (λr s₆=>match r with
   | .ok _=> ∃m,m<n /\ dH λi ys H'=>eu (Inv (bH X N' scope cl fp s3 (cq H s.heap.objs.size (.lst []))) [] (ja own.length fr σ) H' s₆) (tn i s₆.heap) (∀b∈fp,H' b=none) (W i m ys H')
   | .error _=>False) UF:=by
    refine HV (λk s'=>dH λj zs H'=>eu (Inv (bH X N' scope cl fp s3 (cq H s.heap.objs.size (.lst []))) ([]++gh fp s6.heap) σ7 H' s') (tn2 j s'.heap) (∀b∈QW,H' b=none) (Z j k zs H')) ?_ mz ⟨0,z0,NX,I10,O2,λb hb=>(f10 b hb).1,Mr⟩
    rintro k s11 ⟨j,zs,H11,I11,O1,QV,z11⟩
    obtain⟨abF,aa3⟩:=OC j k zs H11 z11
    rcases aa3 with⟨OZ,qN⟩ | ⟨go2,hsz2,O0⟩
    refine cz (T2.done (bH X N' scope cl fp s3 (cq H s.heap.objs.size (.lst []))) rfl rfl rfl jJ j _ s11 _ H11 (λ_ _=>False) I11 (D_ QV) O1 OZ) λr s12 ⟨hr,I12⟩=> ?_
    subst hr
    exact again rfl (λ_ _ e=>e) I12 qN
    refine cz (T2.item (bH X N' scope cl fp s3 (cq H s.heap.objs.size (.lst []))) rfl rfl rfl jJ j _ s11 _ H11 (λ_ _=>False) I11 (D_ QV) O1 go2) λr s12 ⟨u2,hr,h12⟩=> ?_
    subst hr
    refine cz h12 λ_ s13 ⟨x2,H13,I13,r13,y13,Lo,aaT⟩=> ?_
    have aa5:=I13.pinned (D_ aaT) (T2.obj _ _ Lo)
    have Uv:=Vo _ x2 H13 _ (O0 x2 H13 y13)
    refine cz (Kv s3 _ _ s13 _ H13 x2 u2 _ aa5 r13 Uv) λ_ s14 ⟨σ14,H14,I14,N2,q14⟩=> ?_
    have KN: ∀ {H9:Hp} {s9:Shared} {ws:List V},Inv (bH X N' scope cl fp s3 (cq H s.heap.objs.size (.lst []))) (([]++gh fp s6.heap)++gh QW s13.heap) σ14 H9 s9 ->(∃k',k'<k /\ Z (j+1) k' ws H9) ->∃m,m<k /\ dH λj zs H'=>eu (Inv (bH X N' scope cl fp s3 (cq H s.heap.objs.size (.lst []))) ([]++gh fp s6.heap) σ7 H' s9) (tn2 j s9.heap) (∀b∈QW,H' b=none) (Z j m zs H'):=λ{H9 s9 ws} I9 ⟨k',yf,z9⟩=>by refine⟨k',yf,j+1,ws,H9,(I9.gS).weak N2.1.symm λa v e=> ?_,T2.keep _ _ _ Lo λb hb o e=>(I9.pin (b,o) (aK _ (aK _ (d3 hb e)))).1,λb hb=> ?_,z9⟩;rw[N2.2 a λhS=>wk2 a hS.1 hS.2 v e];exact e;obtain⟨o,e,d⟩:=T2.obj _ _ Lo b hb;exact(I9.pin (b,o) (aK _ (aK _ (d3 hb e)))).2.1
    refine cz (MK s3 _ _ s14 σ14 H14 _ I14 q14) λUT s15 ⟨H15,I15,NE⟩=> ?_
    cases UT with
    | false=>simp only[aw,bi] at NE ⊢;obtain⟨ws,NE⟩:=NE;exact KN I15 NE
    | true=>simp only[bP] at NE ⊢;refine cz (he s3 _ _ s15 σ14 H15 _ I15 NE) λy s16 ⟨yv,H16,I16,ry,ws,VA,Vk,q16⟩=> ?_;refine cz (dE _ s16 σ14 H16 (.ref s.heap.objs.size) [yv] (.ref s.heap.objs.size) [y] (λv H'=>H'=cq H16 s.heap.objs.size (.lst (ws++ [yv]))) I16 rfl (.cons ry .nil) ⟨_,ws,yv,rfl,rfl,VA,Vk,rfl⟩) λv s17 ⟨_,H17,I17,_,e17⟩=> ?_;subst e17;exact KN I17 q16
   show codeAny _ X.A _ _ UF;exact Ea Kf (T2.self _ 0 _ _ _ O2 Kf)
 exact codeAny_compStart_list loop (T.self _ 0 _ _ _ BF loop)
end
section
variable {X:Cx}
theorem n8 {i:Nat}{x:Str}{tg iter gy:Expr}{gx:List Expr}{iN cB:Expr}{d7:List Expr}{pos O3 jw:Pos}{own N':List Str}{fr:List Nat}{n1:Nat}{scope:Scope}{wi:TI}{g:TG}{tc:TT}{Dq:TI}{g2:TG}{zU:TT}{te:TE}(jJ:X.calm=true)(hN:X.N.Nodup)(hx:X.N[i]? =some x)(hl:Loc X.env.scope x)(S:c8 X own fr N' scope)(hi:PI X tg iter wi) (hg: ∀cl fp s3 H3,PG (bH X N' scope cl fp s3 H3) tg g) (Kt:n1<=own.length) (hw:Keeps (λi=>i<n1) g) (hc: ∀cl fp s3 H3,KU (bH X N' scope cl fp s3 H3) gx tc) (VT: ∀cl fp s3 H3,PI (bH X N' scope cl fp s3 H3) iN cB Dq) (Kv: ∀cl fp s3 H3,PG (bH X N' scope cl fp s3 H3) iN g2) (Vo:Keeps (λi=>n1<=i /\ i<own.length) g2) (MK: ∀cl fp s3 H3,KU (bH X N' scope cl fp s3 H3) d7 zU) (he: ∀cl fp s3 H3,PE (bH X N' scope cl fp s3 H3) gy te) (Vs:swapsWith (.ListComp gy [⟨tg,iter,gx,0⟩,⟨iN,cB,d7,0⟩] scope pos) (some (.Name x jw)) O3.line X.env=pure true) (hs: ∀x,foldedSetIterable iter X.env x=pure x:=by intro _;rfl) (Ct: ∀cl fp s3 H3 x,foldedSetIterable cB (bH X N' scope cl fp s3 H3).env x=pure x:=by intro _ _ _ _ _;rfl) (hf:X.fn x=true \/ X.env.scope.names.lookup x=some .local:=by first | exact .inl rfl | exact .inr rfl | assumption): PS X (.Assign [.Name x jw] (.ListComp gy [⟨tg,iter,gx,0⟩,⟨iN,cB,d7,0⟩] scope pos) O3) (DZ (DY wi own.length fr g tc Dq g2 zU te) (jK i)):=by
 intro ae s σ H D I h;obtain⟨cl,Fw,rX,rW⟩:=qX (I.ok.cellsOf S);rw[exec_Assign_Name_used _ _ _ _ Vs];refine ar (wpAny_standAt (ar ?_));show wpAny _ X.A (do let _ <- comprehension (sU gy tg iter gx iN cB d7 scope pos) scope X.env _ (newList []) false (eval iter X.env) (some (assign (.Name x jw) X.env))) _ _ s;refine ar (cz (wpAny_comprehension_free (use:=some (assign (.Name x jw) X.env)) (Q:=λ_ s'=>SP X ae D .next s') rfl hs Fw S.kind S.loc (cz (hi ae s σ H _ I h) λv s1 h1=>cz h1 λQg s2 h2=> ?_)) λ_ s' hq=>aR (aR hq));obtain⟨it,fp,tn,J,H2,e,I2,T,lB,f2,h2⟩:=h2;subst e;refine xB (RR:=λeQ C=>compPost (model X.prog X.w) X.A X.xe (some (assign (.Name x jw) X.env)) (λ_ s'=>SP X ae D .next s') eQ C) jJ S (hg cl fp) Kt hw (hc cl fp) (VT cl fp) (Kv cl fp) Vo (MK cl fp) (he cl fp) (Ct cl fp) rX rW I2 T lB f2 h2 ?_;intro s3 H3 I3 f3 Da σ' H' s' t hD Ic q;obtain⟨m,hn,_⟩:=Ic.loc;have I5:=tQ I3 f3 Ic;show wpAny _ X.A (assign (.Name x jw) X.env (.ref Da)) _ _ s';refine wpAny_assign_Name (sH I5 hN hx hl (show RelV (.ref Da) (.ref Da) from rfl) (λs6 I6 Qu=> ?_) hf);obtain⟨a,sb,ha⟩:=Qu;have pL:s3.heap.objs.size≠a:=by rcases ha with rfl | ha;exact Nat.ne_of_gt I3.lt;obtain⟨v,z⟩:=I3.cell x a ha;exact Nat.ne_of_gt z.lt
 refine⟨m,hn.sameBut sb pL,λh' Vt=>⟨_,H',tP I3 rfl I6 Ic.free Vt,q⟩⟩
end
end L2
namespace WL
open PySem L2
section
variable {K:PySem.W.Frag}
def Qk (zI:List W)(iV:Mp ->Prop)(g2:WG)(c2:WT)(el:WE)(ρ2:cS)(p:Addr)(ys:List W)(M4:Mp)(N:List W ->Mp ->Prop):Prop:=∃I2:Nat ->List W ->Mp ->Prop,eu (I2 0 ys M4) (∀j zs M,j<=zI.length ->I2 j zs M ->iV M /\ M p=some (.lst zs) /\ zs.length<sizeLine) (∀j y zs M,zI[j]? =some y ->I2 j zs M ->g2 y ρ2 M λρ3 M5=>c2 ρ3 M5 λb M6=>if b=true then el ρ3 M6 λz M7=>M7 p=some (.lst zs) /\ I2 (j+1) (zs++ [z]) (um M7 p (.lst (zs++ [z]))) else I2 (j+1) zs M6) (∀zs M,I2 zI.length zs M ->N zs M)
def zl (xs:List W)(keep:Mp ->Prop)(own:Nat)(fr:List Nat)(g:WG)(c:WT)(AS:WI)(g2:WG)(c2:WT)(el:WE)(ρ:cS)(M1:Mp)(q:WK):Prop:= ∀p,M1 p=none -> ∃I:Nat ->List W ->Mp ->Prop,eu (I 0 [] (um M1 p (.lst []))) (∀i ys M,i<=xs.length ->I i ys M ->keep M /\ M p=some (.lst ys)) (∀i x ys M,xs[i]? =some x ->I i ys M ->g x (mH own fr ρ) M λρ2 M2=>c ρ2 M2 λb M3=>if b=true then AS ρ2 M3 λzI iV M4=>Qk zI iV g2 c2 el ρ2 p ys M4 (I (i+1)) else I (i+1) ys M3) (∀ys M,I xs.length ys M ->q (wr p) M)
def DC (it:WI)(own:Nat)(fr:List Nat)(g:WG)(c:WT)(AS:WI)(g2:WG)(c2:WT)(el:WE):WE:=λρ M q=>it ρ M λxs keep M1=>zl xs keep own fr g c AS g2 c2 el ρ M1 q
theorem Ot {it:WI}{own:Nat}{fr:List Nat}{g:WG}{c:WT}{AS:WI}{g2:WG}{c2:WT}{el:WE}{ρ:cS}{M:Mp}{q:WK}:DC it own fr g c AS g2 c2 el ρ M q=it ρ M λxs keep M1=>zl xs keep own fr g c AS g2 c2 el ρ M1 q:=rfl
instance {ti:TI}{own:Nat}{fr:List Nat}{g:TG}{tc:TT}{ti2:TI}{g2:TG}{zU:TT}{te:TE}{it:WI}{w:WG}{c:WT}{AS:WI}{w2:WG}{c2:WT}{el:WE} [ii:II K ti it] [ig:IG K g w] [ic:IT K tc c] [ii2:II K ti2 AS] [ig2:IG K g2 w2] [ic2:IT K zU c2] [ie:IE K te el]: IE K (DY ti own fr g tc ti2 g2 zU te) (DC it own fr w c AS w2 c2 el) where
 imp := λρ M σ H q Q o h k=>ii.imp ρ M σ H _ _ o h λxs keep J M1 H1 h1 t1 m1 ok=>by
  intro p hp;obtain⟨I,h0,hk,hs,hd⟩:=h1 p (m1.fresh hp);have tp:=L2.fi.ts (bV (o:= .lst []) hp);refine⟨λi m vs H'=>m=xs.length - i /\ i<=xs.length /\ ca λys M'=>fo (I i ys M') (aT H1 H') (e_ K M' H') (cy K H' ys vs) (H' p=some (.lst vs)),⟨_,rfl,cZ _,[],_,h0,tp,m1.wE hp cy.nil,cy.nil,bI⟩,?_⟩;rintro i m vs H' ⟨rfl,hi,ys,M',hI,ts,m',rv,hv⟩;refine⟨hv,?_⟩;obtain⟨kp,hMp⟩:=hk i ys M' hi hI;obtain⟨k1,k2,k3⟩:=ok i M' H' ts m' kp;by_cases kH:i<xs.length;refine .inr ⟨k2 kH,λv H2 y=> ?_⟩;obtain⟨ty,my,x,hx,r⟩:=k3 v H2 kH y;replace ts:=ts.trans ty;have oc:Ok K (mH own fr ρ) M' (ja own fr σ) H2:=⟨(o.env.ts (t1.trans ts)).NU own fr,my⟩
  refine ig.imp x v _ M' _ H2 _ _ oc r (hs i x ys M' hx hI) λρ3 M3 σ3 H3 h3 t3 o3=>ic.imp ρ3 M3 σ3 H3 _ _ o3 h3 λb M4 H4 h4 t4 m4=> ?_;cases b with
  | true=>
   simp only[bP] at h4 ⊢;refine ii2.imp ρ3 M4 σ3 H4 _ _ (o3.mv t4 m4) h4 λzI iV J2 M5 H5 h5 t5 m5 UT=> ?_;obtain⟨I2,h20,QH,Ct,hd2⟩:=h5;have tt5:=ts.trans ((t3.trans t4).trans t5);have at5: ∀ {M6:Mp} {H6:Hp} {zs:List W},M6 p=some (.lst zs) ->e_ K M6 H6 -> ∃vs,H6 p=some (.lst vs) /\ cy K H6 zs vs:=λh m=>by obtain⟨vs,hv,rr⟩:=m p _ h;exact⟨vs,hv,rr⟩
   obtain⟨JC,Il,Hk⟩:=at5 (QH 0 ys M5 (cZ _) h20).2.1 m5;refine⟨λj m vs H'=>m=zI.length - j /\ j<=zI.length /\ ca λzs M'=>fo (I2 j zs M') (aT H5 H') (e_ K M' H') (cy K H' zs vs) (H' p=some (.lst vs)),⟨_,JC,rfl,cZ _,ys,M5,h20,aT.refl _,m5,Hk,Il⟩,?_⟩;rintro j m2 vs6 H6 ⟨rfl,hj,zs,M6,V8,OE,m6,rv6,hv6⟩;refine⟨hv6,?_⟩;obtain⟨kp2,abI,SO⟩:=QH j zs M6 hj V8;obtain⟨a1,a2,a3⟩:=UT j M6 H6 OE m6 kp2;by_cases Fo:j<zI.length;refine .inr ⟨a2 Fo,by rw[rv6.length];exact SO,λu7 H7 y7=> ?_⟩;obtain⟨Um,my7,x7,hx7,r7⟩:=a3 u7 H7 Fo y7;have o7:Ok K ρ3 M6 σ3 H7:=⟨o3.env.ts ((t4.trans t5).trans (OE.trans Um)),my7⟩
   refine ig2.imp x7 u7 ρ3 M6 σ3 H7 _ _ o7 r7 (Ct j x7 zs M6 hx7 V8) λρ8 M8 σ8 H8 h8 t8 o8=>ic2.imp ρ8 M8 σ8 H8 _ _ o8 h8 λb9 M9 H9 h9 t9 m9=> ?_;cases b9 with
   | true=>simp only[bP] at h9 ⊢;refine ie.imp ρ8 M9 σ8 H9 _ _ (o8.mv t9 m9) h9 λz Tb u NX ⟨V',h11⟩ t10 m10 r10=> ?_;obtain⟨G9,Fm,Ek⟩:=m10 p _ V';have t11:=iA (u:= .lst (G9++ [u])) Fm;refine⟨G9,Fm,by rw[Ek.length];exact SO,_,?_,rfl,Fo,_,_,h11,((((OE.trans Um).trans t8).trans t9).trans t10).trans t11,m10.putL Fm (Ek.snoc r10),(Ek.snoc r10).ts t11,bI⟩;lia
   | false=>simp only[aw,bi] at h9 ⊢;obtain⟨G9,Fm,Ek⟩:=at5 (QH (j+1) zs M9 Fo h9).2.1 m9;refine⟨G9,_,?_,rfl,Fo,_,_,h9,((OE.trans Um).trans t8).trans t9,m9,Ek,Fm⟩;lia
   have e':j=zI.length:= ∅;subst e';refine .inl ⟨a1 rfl,_,?_,rfl,kH,zs,M6,hd2 zs M6 V8,tt5.trans OE,m6,rv6,hv6⟩;lia
  | false=>simp only[aw,bi] at h4 ⊢;obtain⟨JC,Il,Hk⟩:=m4 p _ (hk (i+1) ys M4 kH h4).2;refine⟨JC,_,?_,rfl,kH,_,_,h4,ts.trans (t3.trans t4),m4,Hk,Il⟩;lia
  have e':i=xs.length:= ∅;subst e';exact .inl ⟨k1 rfl,k _ M' _ H' (hd ys M' hI) (t1.trans ts) m' WR.v⟩
theorem yP {α:Type}{f:α ->W}{l:List α}{i:Nat}{x:W}(h:(l.map f)[i]? =some x): ∃a,l[i]? =some a /\ x=f a:=by
 rw[aG] at h;cases e:l[i]? with
 | none=>rw[e] at h;cases h
 | some a=>rw[e] at h;cases h;exact⟨a,rfl,rfl⟩
theorem CO {α β:Type}{l:List α}{fW:α ->W}(cj:α ->List β)(gW:β ->W)(eW:α ->β ->W){keep:Mp ->Prop}{M1:Mp}{own:Nat}{fr:List Nat}{ρ:cS}{g:WG}{c:WT}{AS:WI}{g2:WG}{c2:WT}{el:WE}{q:WK} (hz:(l.map λa=>(cj a).length).sum<sizeLine) (l_: ∀M,Sm M1 M ->keep M) (hs: ∀a∈l, ∀M,Sm M1 M -> ∀ (B:cS ->List W ->(Mp ->Prop) ->Mp ->Prop) (N0:Mp ->Prop),(∀ρ2 iV,(∀M',Sm M1 M' ->iV M') ->(∀b∈cj a, ∀M',Sm M1 M' -> ∀N:Option W ->Mp ->Prop,N (some (eW a b)) M' ->g2 (gW b) ρ2 M' λρ3 M5=>c2 ρ3 M5 λb M6=>h_ b (el ρ3 M6 λz M7=>N (some z) M7) (N none M6)) ->B ρ2 ((cj a).map gW) iV M) ->g (fW a) (mH own fr ρ) M λρ2 M2=>c ρ2 M2 λb M3=>h_ b (AS ρ2 M3 λzI iV M4=>B ρ2 zI iV M4) (N0 M3)) (hq: ∀p,M1 p=none ->q (wr p) (um M1 p (.lst (l.map λa=>(cj a).map (eW a)).flatten))): zl (l.map fW) keep own fr g c AS g2 c2 el ρ M1 q:=by
 intro p hp;have dL: ∀k:List α,(k.map λa=>(cj a).map (eW a)).flatten.length=(k.map λa=>(cj a).length).sum:=λk=>by rw[List.length_flatten,aY];congr 1;apply List.map_congr_left;intro a _;simp
 have Qq: ∀i:Nat,((l.take i).map λa=>(cj a).length).sum<=(l.map λa=>(cj a).length).sum:=λi=>by
  have e:(l.map λa=>(cj a).length)=((l.take i).map λa=>(cj a).length)++((l.drop i).map λa=>(cj a).length):=by rw[<- br,bu]
  rw[e,List.sum_append];lia
 refine⟨λi ys M=>M=um M1 p (.lst ys) /\ ys=((l.take i).map λa=>(cj a).map (eW a)).flatten,⟨rfl,by simp⟩,?_,?_,?_⟩;rintro i ys M hi ⟨rfl,rfl⟩;exact⟨l_ _ (bB hp),au⟩;rintro i x ys M hx ⟨rfl,rfl⟩;obtain⟨a,ha,rfl⟩:=yP hx;have e:l.take (i+1)=l.take i++ [a]:=by rw[List.take_add_one,ha];rfl
 have eF:((l.take (i+1)).map λa=>(cj a).map (eW a)).flatten=((l.take i).map λa=>(cj a).map (eW a)).flatten++(cj a).map (eW a):=by rw[e,br,List.flatten_append];simp
 have eS:((l.take (i+1)).map λa=>(cj a).length).sum=((l.take i).map λa=>(cj a).length).sum+(cj a).length:=by rw[e,br,List.sum_append];simp
 refine hs a (bq ha) _ (bB hp) (λρ2 zI iV M4=>Qk zI iV g2 c2 el ρ2 p ((l.take i).map λa=>(cj a).map (eW a)).flatten M4 λys M=>M=um M1 p (.lst ys) /\ ys=((l.take (i+1)).map λa=>(cj a).map (eW a)).flatten) (λM=>M=um M1 p (.lst ((l.take i).map λa=>(cj a).map (eW a)).flatten) /\ ((l.take i).map λa=>(cj a).map (eW a)).flatten=((l.take (i+1)).map λa=>(cj a).map (eW a)).flatten) ?_;intro ρ2 iV QH Ct;refine⟨λj zs M=>M=um M1 p (.lst zs) /\ zs=((l.take i).map λa=>(cj a).map (eW a)).flatten++((cj a).take j).map (eW a),⟨rfl,by simp⟩,?_,?_,?_⟩;rintro j zs M hj ⟨rfl,rfl⟩;refine⟨QH _ (bB hp),au,?_⟩;rw[aH,dL,ag,b0];have b3:=Qq (i+1);rw[eS] at b3;lia;rintro j y zs M hy ⟨rfl,rfl⟩;obtain⟨b,hb,rfl⟩:=yP hy;have e2:(cj a).take (j+1)=(cj a).take j++ [b]:=by rw[List.take_add_one,hb];rfl
 refine Ct b (bq hb) _ (bB hp) (λo M4=>match o with
 | some z=>M4 p=some (.lst (((l.take i).map λa=>(cj a).map (eW a)).flatten++((cj a).take j).map (eW a))) /\ (um M4 p (.lst (((l.take i).map λa=>(cj a).map (eW a)).flatten++((cj a).take j).map (eW a)++ [z]))=um M1 p (.lst (((l.take i).map λa=>(cj a).map (eW a)).flatten++((cj a).take j).map (eW a)++ [z])) /\ ((l.take i).map λa=>(cj a).map (eW a)).flatten++((cj a).take j).map (eW a)++ [z]=((l.take i).map λa=>(cj a).map (eW a)).flatten++((cj a).take (j+1)).map (eW a))
 | none=>M4=um M1 p (.lst (((l.take i).map λa=>(cj a).map (eW a)).flatten++((cj a).take j).map (eW a))) /\ ((l.take i).map λa=>(cj a).map (eW a)).flatten++((cj a).take j).map (eW a)=((l.take i).map λa=>(cj a).map (eW a)).flatten++((cj a).take (j+1)).map (eW a)) ?_
 exact⟨au,kN,by rw[e2,br];simp⟩;rintro zs M ⟨rfl,rfl⟩;exact⟨rfl,by rw[eF,ag,List.take_length]⟩;rintro ys M ⟨rfl,rfl⟩;rw[ag,List.take_length];exact hq p hp
theorem FX {α:Type}{l:List α}{fW:α ->W}(pr:α ->Bool)(eW:α ->W){keep:Mp ->Prop}{M1:Mp}{own:Nat}{fr:List Nat}{ρ:cS}{g:WG}{c:WT}{el:WE}{q:WK}(hz:l.length<=sizeLine)(l_: ∀M,Sm M1 M ->keep M) (hs: ∀a∈l, ∀ (M:Mp) (N:Option W ->Mp ->Prop),Sm M1 M ->N (if pr a=true then some (eW a) else none) M ->g (fW a) (mH own fr ρ) M λρ2 M2=>c ρ2 M2 λb M3=>h_ b (el ρ2 M3 λy M4=>N (some y) M4) (N none M3)) (hq: ∀p,M1 p=none ->q (wr p) (um M1 p (.lst ((l.filter pr).map eW)))):xC (l.map fW) keep own fr g c el ρ M1 q:=by
 refine⟨by rw[ag];exact hz,λp hp=>⟨λi ys M=>M=um M1 p (.lst ys) /\ ys=((l.take i).filter pr).map eW,⟨rfl,by simp⟩,?_,?_,?_⟩⟩;rintro i ys M hi ⟨rfl,rfl⟩;refine⟨l_ _ (bB hp),au,?_⟩;rw[ag];refine av (List.length_filter_le _ _) ?_;rw[b0];lia;rintro i x ys M hx ⟨rfl,rfl⟩;obtain⟨a,ha,rfl⟩:=yP hx;have e:l.take (i+1)=l.take i++ [a]:=by rw[List.take_add_one,ha];rfl
 refine hs a (bq ha) _ (λo M4=>match o with
 | some y=>M4 p=some (.lst (((l.take i).filter pr).map eW)) /\ (um M4 p (.lst (((l.take i).filter pr).map eW++ [y]))=um M1 p (.lst (((l.take i).filter pr).map eW++ [y])) /\ ((l.take i).filter pr).map eW++ [y]=((l.take (i+1)).filter pr).map eW)
 | none=>M4=um M1 p (.lst (((l.take i).filter pr).map eW)) /\ ((l.take i).filter pr).map eW=((l.take (i+1)).filter pr).map eW) (bB hp) ?_
 cases hf:pr a with
 | false=>rw[aj (by simp)];exact⟨rfl,by rw[e,List.filter_append];simp[hf]⟩
 | true=>rw[ak rfl];exact⟨au,kN,by rw[e,List.filter_append];simp[hf]⟩
 rintro ys M ⟨rfl,rfl⟩;rw[ag,List.take_length];exact hq p hp
theorem d5 {α:Type}{l:List α}{fW:α ->W}(eW:α ->W){keep:Mp ->Prop}{M1:Mp}{own:Nat}{fr:List Nat}{ρ:cS}{g:WG}{c:WT}{el:WE}{q:WK}(hz:l.length<=sizeLine)(l_: ∀M,Sm M1 M ->keep M) (hs: ∀a∈l, ∀ (M:Mp) (N:Option W ->Mp ->Prop),Sm M1 M ->N (some (eW a)) M ->g (fW a) (mH own fr ρ) M λρ2 M2=>c ρ2 M2 λb M3=>h_ b (el ρ2 M3 λy M4=>N (some y) M4) (N none M3)) (hq: ∀p,M1 p=none ->q (wr p) (um M1 p (.lst (l.map eW)))):xC (l.map fW) keep own fr g c el ρ M1 q:=by refine FX (λ_=>true) eW hz l_ (λa ha M N s h=>hs a ha M N s ⇑h) λp hp=> ?_;have e:l.filter (λ_=>true)=l:=List.filter_eq_self.mpr λ_ _=>rfl;rw[e];exact hq p hp
end
def yE:fh:=λ_ _ _=>False
theorem xa {P:Program}{w:World}{K:PySem.W.Frag}{mg:Str ->Option Value}{base:Heap}{CX:xZ}{k:Nat}{f:Addr}{fd:FuncData}{ps:List Str}:bx P w K mg base CX k f fd ps (fj K yE):=⟨λvs H Q E ⟨_,_,_,_,_,h,_⟩=>h.elim,λA outer s H args us vs Q E hr=>by
 intros;rename_i h;first
 | (obtain⟨_,_,_,_,_,h,_⟩:=h;exact h.elim)⟩
end WL
namespace WQ
open PySem L2 WL WP
def eU (f:Int ->Int)(e:Int):Nat ->Int ->Int
 | 0,_=>0
 | n+1,x=>eU f e n x+f (x - e*n)
def lb (f:Int ->Int)(e:Int):Nat ->Int ->Int
 | 0,_=>0
 | n+1,x=>lb f e n x - f (x+e*(n+1:Nat))
def jh (f:Int ->Int)(e n x:Int):Int:=if n<0 then lb f e (-n).toNat x else eU f e n.toNat x
theorem sG (f:Int ->Int)(e n x:Int):jh f e (n+1) x=jh f e n x+f (x - e*n):=by
 unfold jh;by_cases h:n<0;rw[ak h];obtain⟨m,hm⟩: ∃m:Nat,(-n).toNat=m+1:=⟨(-n).toNat - 1, ∅⟩
 have en:n= -((m:Int)+1):= ∅;have ex:x - e*n=x+e*((m+1:Nat):Int):=by rw[en,Int.mul_neg];push_cast;lia
 rw[hm,lb,ex];by_cases h1:n+1<0;rw[ak h1,show(-(n+1)).toNat=m by lia];lia;rw[aj h1,show(n+1).toNat=0 by lia];have:m=0:= ∅;subst this;simp only[eU,lb];lia;rw[aj h,aj ∅,show(n+1).toNat=n.toNat+1 by lia,eU];have:((n.toNat:Nat):Int)=n:= ∅;rw[this]
theorem BD (f:Int ->Int)(e:Int): ∀ (n:Nat) (x:Int),jh f e n x+jh f e (-n) (x - e*n)=0
 | 0,x=>rfl
 | n + 1,x=>by
  have ih:=BD f e n x;have h1:=sG f e n x;have h2:=sG f e (-(n+1:Nat)) (x - e*(n+1:Nat));have e1:(-((n+1:Nat):Int))+1= -(n:Int):= ∅;rw[e1] at h2;have e2:(((n+1:Nat)):Int)=(n:Int)+1:= ∅;rw[e2] at h2 ⊢;have e3:x - e*((n:Int)+1) - e* -((n:Int)+1)=x:=by rw[Int.mul_neg];lia
  rw[e3] at h2;have sh: ∀ (m:Nat) (z:Int),lb f e m (z - e)=lb f e m z - f z+f (z+e*m):=by
   intro m;induction m with
   | zero=>intro z;simp only[lb];rw[Int.ofNat_zero,Int.mul_zero,Int.add_zero];lia
   | succ m ihm=>
    intro z;have a1:z - e+e*((m+1:Nat):Int)=z+e*m:=by
     push_cast;rw[Int.mul_add,Int.mul_one];lia
    rw[lb,ihm,lb,a1];lia
  have hs:=sh (n+1) (x - e*n);have Ct:jh f e (-((n:Int)+1)) (x - e*((n:Int)+1))=lb f e (n+1) (x - e*n - e):=by unfold jh;rw[ak ∅,show(- -((n:Int)+1)).toNat=n+1 by lia];congr 1;rw[Int.mul_add,Int.mul_one];lia
  have hs3:jh f e (-(n:Int)) (x - e*n)=lb f e n (x - e*n):=by unfold jh;by_cases h0:n=0;subst h0;rfl;rw[ak ∅,show(- -(n:Int)).toNat=n by lia]
  have hs4:lb f e (n+1) (x - e*n)=lb f e n (x - e*n) - f (x - e*n+e*((n+1:Nat):Int)):=rfl;have e5:x - e*n+e*((n+1:Nat):Int)=x+e:=by push_cast;rw[Int.mul_add,Int.mul_one];lia
  rw[Ct,hs,hs4,e5,h1];rw[hs3] at ih;lia
theorem p7 {f g:Int ->Int}{e:Int}(h: ∀x,g x= -f (x+e)): ∀ (n:Nat) (x:Int),eU g (-e) n x=lb f e n x
 | 0,_=>rfl
 | n +1,x=>by
  rw[eU,lb,p7 h n x,h];have:x - -e*n+e=x+e*((n+1:Nat):Int):=by rw[Int.neg_mul];push_cast;rw[Int.mul_add,Int.mul_one];lia
  rw[this];lia
theorem vK {p:Int}{f g:Int ->Int}{e:Int}(h: ∀x,f x % p=g x % p): ∀ (n:Nat) (x:Int),eU f e n x % p=eU g e n x % p
 | 0,_=>rfl
 | n+1,x=>by rw[eU,eU,Int.add_emod,vK h n x,h, <- Int.add_emod]
theorem iB (f:Int ->Int)(x:Int): ∀n:Nat,eU f 0 n x=f x*n
 | 0=>by simp[eU]
 | n+1=>by rw[eU,iB f x n,Int.zero_mul,Int.sub_zero];push_cast;rw[Int.mul_add,Int.mul_one]
structure fR (p:Int)(a:Rd)(n:Int)(r:Rd):Prop where
 en:r.1=a.1*n
 pt:df p r.2
 at_: ∀x,ez r.2 x=jh (ez a.2) a.1 n x % p
theorem fR.eq {p:Int}(hp:0<p){a:Rd}{n:Int}{r r':Rd}(h:fR p a n r)(h':fR p a n r'):r=r':=Lv (h.en.trans h'.en.symm) (yC hp h.pt h'.pt λx=>(h.at_ x).trans (h'.at_ x).symm)
theorem fR.uQ {p:Int}(hp:0<p){a r:Rd}{n:Int}(hn:n<0)(h:fR p (bk p a) (-n) r):fR p a n r:=by refine⟨?_,h.pt,λx=> ?_⟩;rw[h.en];show -a.1* -n=a.1*n;rw[Int.neg_mul_neg];rw[h.at_];unfold jh;rw[aj ∅,ak hn];show eU (ez (bk p a).2) (-a.1) (-n).toNat x % p=_;rw[<- p7 (f:=ez a.2) (g:=λx=> -ez a.2 (x+a.1)) (λ_=>rfl)];exact vK (λy=>by rw[Lg hp,Int.emod_emod_of_dvd _ (Int.dvd_refl p)]) _ _
def lL (e:Int)(n:Nat)(q:Int×Int):Pt:=(List.range n).map λ(k:Nat)=>(q.1+e*k,q.2)
def jE (e:Int)(n:Nat)(l:Pt):Pt:=(l.map (lL e n)).flatten
theorem vE (e x:Int)(q:Int×Int): ∀n:Nat,ez (lL e n q) x=eU (ez [q]) e n x
 | 0=>rfl
 | n +1=>by
  have:lL e (n+1) q=lL e n q++ [(q.1+e*n,q.2)]:=by unfold lL;rw[List.range_succ,br];rfl
  rw[this,fb,vE e x q n,eU];congr 1;simp only[ez];by_cases c:q.1+e*n=x;rw[ak c,ak ∅];rw[aj c,aj ∅]
theorem vL (f g:Int ->Int)(e x:Int): ∀n:Nat,eU (λy=>f y+g y) e n x=eU f e n x+eU g e n x
 | 0=>rfl
 | n+1=>by rw[eU,eU,eU,vL f g e x n];lia
theorem vJ (e x:Int): ∀n:Nat,eU (λ_=>0) e n x=0
 | 0=>rfl
 | n+1=>by rw[eU,vJ e x n];rfl
theorem vF (e:Int)(n:Nat)(x:Int): ∀l:Pt,ez (jE e n l) x=eU (ez l) e n x
 | []=>by have:ez ([]:Pt)=λ_=>0:=rfl;rw[this,vJ];rfl
 | q ::l=>by
  have e1:jE e n (q::l)=lL e n q++jE e n l:=rfl;have e2:ez (q::l)=λy=>ez [q] y+ez l y:=by funext y;have:=fb [q] l y;exact this
  rw[e1,fb,vE,vF e n x l,e2,vL]
theorem qu (e:Int)(n:Nat): ∀l:Pt,(jE e n l).length=l.length*n
 | []=>by simp[jE]
 | q::l=>by have e1:jE e n (q::l)=lL e n q++jE e n l:=rfl;rw[e1,aH,qu e n l,lL,ag,List.length_range,aB,Nat.succ_mul];lia
theorem sD (b:Rd)(x:Int): ∀n:Nat,ez (lO b n) x=eU (ez b.2) b.1 n x
 | 0=>rfl
 | n+1=>by
  rw[lO,fb,sD b x n,yn,eU];have:x - (n:Int)*b.1=x - b.1*n:=by rw[Int.mul_comm]
  rw[this]
def J8:fh:=λxs M q=>dH λ(p:Int) (a:Rd) (n:Int)=>Dk (xs= [wi p,fI a,wi n]) (0<p) (p<1000) (df p a.2) (a.2.length<=40000) (0<=n) (a.1≠0 ->n<100000 /\ a.2.length*n.toNat<=100000) (∀r:Rd,fR p a n r ->(a.1=0 ->r.2.length<=a.2.length) ->(a.1≠0 ->r.2.length<=a.2.length*n.natAbs) ->q (fI r) M)
def LM:fh:=λxs M q=>dH λ(p:Int) (a:Rd) (n:Int)=>KS (xs= [wi p,fI a,wi n]) (0<p) (p<1000) (df p a.2) (a.2.length<=40000) (a.1≠0 -> -100000<n /\ n<100000 /\ a.2.length*n.natAbs<=100000) (∀r:Rd,fR p a n r ->(a.1=0 ->r.2.length<=a.2.length) ->(a.1≠0 ->r.2.length<=a.2.length*n.natAbs) ->q (fI r) M)
end WQ
namespace L2
open PySem PySem.Spec PyProof.Rows
section
variable {X:Cx}{tg:Expr}
def Mo (K:PySem.W.Frag)(tl:TE):TI:=λσ H R=>tl σ H λx H1=> ∃a,x= .ref a /\ (((∃xs,gs K H1 a xs) /\ R (Te K a) H1) \/ ((∃xs,lr K H1 a xs) /\ R (Tc K a) H1))
theorem LC {l:Expr}{tl:TE}(hl:PE X l tl):PI X tg l (Mo X.K tl):=by
 intro ae s σ H R I h;refine cz (hl ae s σ H _ I h) λv s1 ⟨x,H1,I1,r1,q1⟩=> ?_;obtain⟨a,e,q1⟩:=q1;subst e;cases r1;have fin: ∀b∈ [s1.heap.objs.size],jc X ae H1 b:=λb hb=>by have e:b=s1.heap.objs.size:= ⇑hb;subst e;exact I1.zf (ao _) (I1.cF.fresh (ao _))
 rcases q1 with⟨⟨xs,hq⟩,q⟩ | ⟨⟨xs,hq⟩,q⟩
 obtain⟨bD,rv,p,hz⟩:=I1.list hq;refine wpAny_pyIter_list p.isList ?_;exact⟨s1.heap.objs.size,[s1.heap.objs.size],_,_,H1,rfl,I1.kept (t':=s1.toks) λb o e=>aq _ e,sB a _,⟨_,aM _ rfl,rfl,rfl⟩,fin,q⟩;obtain⟨bD,rv,p,hz⟩:=I1.tuple hq;refine wpAny_pyIter_tuple (show s1.heap.IsTuple a bD.toArray from p) ?_;exact⟨s1.heap.objs.size,[s1.heap.objs.size],_,_,H1,rfl,I1.kept (t':=s1.toks) λb o e=>aq _ e,pX a _,⟨_,aM _ rfl,rfl,rfl⟩,fin,q⟩
end
end L2
namespace WL
open PySem L2
section
variable {K:PySem.W.Frag}
def Hg (x:W)(M:Mp)(q:List W ->(Mp ->Prop) ->Mp ->Prop):Prop:=(ca λp l=>cM (x=wr p) (M p=some (.lst l)) (q l (λM'=>M' p=some (.lst l)) M)) \/ ∃l,x= .tup l /\ q l (λ_=>True) M
def Qf (a:WE):WI:=λρ M q=>a ρ M λx M1=>Hg x M1 q
instance {t:TE}{a:WE} [ia:IE K t a]:II K (Mo K t) (Qf a) where
 imp :=λρ M σ H q R o h k=>ia.imp ρ M σ H _ _ o h λx M1 v H1 h1 t1 m1 r1=>by
  rcases h1 with⟨p,l,e,hp,h1⟩ | ⟨l,e,h1⟩
  subst e;obtain⟨vs,hv,rr⟩:=m1 p _ hp;exact⟨p,r1.eq, .inl ⟨⟨vs,gs.of hv⟩,k l _ _ M1 H1 h1 t1 m1 sX⟩⟩;subst e;obtain⟨p,vs,rfl,hv,rr⟩:=r1.tup;exact⟨p,rfl, .inr ⟨⟨vs,hv⟩,k l _ _ M1 H1 h1 t1 m1 (wS hv rr)⟩⟩
theorem Vd {a:WE}{ρ:cS}{M:Mp}{q:List W ->(Mp ->Prop) ->Mp ->Prop}:Qf a ρ M q=a ρ M λx M1=>Hg x M1 q:=rfl
theorem Uz {p:Addr}{M:Mp}{q:List W ->(Mp ->Prop) ->Mp ->Prop}:Hg (.v (.ref p)) M q=lstK (M p) λl=>q l (λM'=>M' p=some (.lst l)) M:=by apply propext;constructor;rintro(⟨_,l,h1,h2,k⟩ | ⟨_,h1,_⟩);cases h1;exact⟨l,h2,k⟩;cases h1;rintro⟨l,h2,k⟩;exact .inl ⟨_,l,rfl,h2,k⟩
theorem Uy {l:List W}{M:Mp}{q:List W ->(Mp ->Prop) ->Mp ->Prop}:Hg (.tup l) M q=q l (λ_=>True) M:=by apply propext;constructor;rintro(⟨_,_,h1,_⟩ | ⟨_,h1,k⟩);cases h1;cases h1;exact k;intro k;exact .inr ⟨l,rfl,k⟩
end
end WL
namespace WQ
open PySem L2 WL WP
def cv (a b:List Int):Nat ->Nat ->Int
 | 0,_=>0
 | k+1,n=>cv a b k n+if k<=n then a.getD k 0*b.getD (n - k) 0 else 0
structure IsPart (p:Int)(one other q r:List Int):Prop where
 qs:KY p q
 rs:KY p r
 len:r.length<other.length
 ql:q.length<=one.length
 eq: ∀n,one.getD n 0 % p=(cv q other q.length n+r.getD n 0) % p
end WQ
namespace L2
open PySem PySem.Spec PyProof.Rows
theorem sy: ∀ {ss:List Str} {us:List Value},bY (ss.map V.str) us -> ∃l:List (Str×Tok),us=strValues l /\ l.map (·.1)=ss
 | [],_,h=>by cases h;exact⟨[],rfl,rfl⟩
 | x ::r,_,h=>by
  cases h with
  | cons h1 h2=>obtain⟨t,rfl⟩:=h1;obtain⟨l,rfl,e⟩:=sy h2;exact⟨(x,t)::l,rfl,by rw[az,e]⟩
section
variable {X:Cx}
def Ep (K:PySem.W.Frag):V ->List V ->Hp ->VK ->Prop:=λx vs H Q=>dH λ(gR:Str) (b:Addr) (ss:List Str)=>kz (x= .str gR) (vs= [.ref b]) (gs K H b (ss.map V.str)) (Builtin.Str.tooLong (ss.toArray.foldl (· + ·.length+gR.length) 0)=false) ((Builtin.Str.glued gR ss).length<=sizeLine) (Q (.str (Builtin.Str.glued gR ss)) H)
theorem HR:Rr X "str.join" (Ep X.K):=by
 intro ae s σ H x xs v us Q I rx rv h;obtain⟨gR,b,ss,rfl,rfl,hb,hl,hg,q⟩:=h;obtain⟨t,rfl⟩:=rx;obtain⟨u,rfl,ru⟩:=vals1 rv;cases ru;obtain⟨bD,r,p,hz⟩:=I.list hb;obtain⟨l,rfl,e⟩:=sy r;refine call_meets PySem.F.slot_str_join (typeIs_str _ _ _) PySem.F.entry_str_join (PySem.F.args_str_join_2 _ _) (meets_str_join_list gR t b l (by rw[e];exact hl)) ⟨p.isList,?_⟩;match l,e with
 | [],e=>have e:ss= []:=e.symm;subst e;exact⟨hg, .str _,H,I.tok _,⟨_,rfl⟩,q⟩
 | [y],e=>have e:ss= [y.1]:=e.symm;subst e;exact⟨.str y.1,H,I,⟨y.2,rfl⟩,q⟩
 | y::z::l',e=>subst e;exact⟨hg, .str _,H,I.tok _,⟨_,rfl⟩,q⟩
def J5:R2:=λx y H Q=>ca λi j=>eu (x= .str i) (y= .str j) (i.length+j.length<=sizeLine) (Q (.str (i++j)) H)
theorem Az:gO X (binaryOp .Add) J5:=yG
end
end L2
namespace WL
open PySem L2
section
variable {K:PySem.W.Frag}
def K8 (r:WM)(a:WE)(b:WA):WE:=λρ M q=>a ρ M λx M1=> ∃y,x=ws y /\ b ρ M1 λxs M2=>r x xs M2 q
instance {r:V ->List V ->Hp ->VK ->Prop}{w:WM}{t:TE}{u:TA}{a:WE}{b:WA} [ir:IM K r w] [ia:IE K t a] [ib:IA K u b]:IE K (Ur K "str" r t u) (K8 w a b) where
 imp :=λρ M σ H q Q o h k=>ia.imp ρ M σ H _ _ o h λx M1 v H1 ⟨y,e,h1⟩ t1 m1 r1=>by subst e;cases r1.eq;exact⟨rfl,ib.imp ρ M1 σ H1 _ _ (o.mv t1 m1) h1 λz M2 u H2 h2 t2 m2 r2=>ir.imp (ws y) (.str y) z u M2 H2 _ _ m2 WR.v r2 h2 λz M3 v3 H3 h3 t3 m3 r3=>k z M3 v3 H3 h3 ((t1.trans t2).trans t3) m3 r3⟩
theorem cy.strs {H:Hp}: ∀ {ss:List Str} {vs:List V},cy K H (ss.map ws) vs ->vs=ss.map V.str
 | [],vs,h=>by simpa only[cG,cy] using h
 | n::r,vs,h=>by simp only[az,cy] at h;obtain⟨v,t,rfl,h1,h2⟩:=h;rw[cy.strs h2,h1.eq];rfl
def Jv:WM:=λx ys M q=>dH λ(gR:Str) (b:Addr) (ss:List Str)=>kz (x=ws gR) (ys= [wr b]) (M b=some (.lst (ss.map ws))) (Builtin.Str.tooLong (ss.toArray.foldl (· + ·.length+gR.length) 0)=false) ((Builtin.Str.glued gR ss).length<=sizeLine) (q (ws (Builtin.Str.glued gR ss)) M)
instance:IM K (Ep K) Jv where
 imp:=by rintro x v ys us M H q Q m r1 r2 ⟨gR,b,ss,rfl,rfl,hb,hl,hg,h⟩ k;cases r1.eq;obtain⟨u,rfl,r⟩:=r2.one;cases r.eq;obtain⟨vs,hv,rr⟩:=m b _ hb;cases rr.strs;exact⟨gR,b,ss,rfl,rfl,gs.of hv,hl,hg,k _ M _ H h (aT.refl H) m WR.v⟩
def JB:oR:=λx y M q=>ca λi j=>eu (x=ws i) (y=ws j) (i.length+j.length<=sizeLine) (q (ws (i++j)) M)
instance:IR K J5 JB where
 imp:=by rintro x y v u M H q Q m r1 r2 ⟨i,j,rfl,rfl,hz,h⟩ k;cases r1.eq;cases r2.eq;exact⟨i,j,rfl,rfl,hz,k _ M _ H h (aT.refl H) m WR.v⟩
theorem R8 {i j:Str}{M:Mp}{q:WK}:JB (.v (.str i)) (.v (.str j)) M q=dD (i.length+j.length<=sizeLine) (q (ws (i++j)) M):=by apply propext;constructor;rintro⟨_,_,h1,h2,h3,k⟩;cases h1;cases h2;exact⟨h3,k⟩;rintro⟨h3,k⟩;exact⟨_,_,rfl,rfl,h3,k⟩
def ue (x:W)(k:Str ->Prop):Prop:= ∃y,x=ws y /\ k y
theorem Uu {y:Str}{k:Str ->Prop}:ue (.v (.str y)) k=k y:=by apply propext;constructor;rintro⟨_,h,k⟩;cases h;exact k;intro h;exact⟨_,rfl,h⟩
theorem Ua {r:WM}{a:WE}{b:WA}{ρ:cS}{M:Mp}{q:WK}:K8 r a b ρ M q=a ρ M λx M1=>ue x λy=>b ρ M1 λxs M2=>r (ws y) xs M2 q:=by unfold K8 ue;congr 1;funext x M1;apply propext;constructor;rintro⟨y,rfl,h⟩;exact⟨y,rfl,h⟩;rintro⟨y,rfl,h⟩;exact⟨y,rfl,h⟩
theorem TY {a:WE}{ρ:cS}{M:Mp}{q:WK}:K5 a ρ M q=a ρ M λx M1=>Cr x λi=>dD (i.natAbs.log2<1920) (q (ws (toString i)) M1):=by unfold K5 Cr dD;congr 1;funext x M1;exact propext ⟨λ⟨i,a,b,c⟩=>⟨i,a,b,c⟩,λ⟨i,a,b,c⟩=>⟨i,a,b,c⟩⟩
theorem TX {a:WE}{ρ:cS}{M:Mp}{q:WK}:K4 a ρ M q=a ρ M λx M1=>ue x λy=>dD (y.length<=sizeLine) (q (ws y) M1):=by unfold K4 ue dD;congr 1;funext x M1;exact propext ⟨λ⟨i,a,b,c⟩=>⟨i,a,b,c⟩,λ⟨i,a,b,c⟩=>⟨i,a,b,c⟩⟩
theorem abd {out:Str}{ρ:cS}{M:Mp}{q:WK}:wJ0 out ρ M q=dD (out.length<=sizeLine) (q (ws out) M):=rfl
theorem abc {a:WE}{f:Str ->WE}{out:Str}{ρ:cS}{M:Mp}{q:WK}:TM a f out ρ M q=a ρ M λx M1=>ue x λy=>dD ((out++y).length<=sizeLine) (f (out++y) ρ M1 q):=by unfold TM ue dD;congr 1;funext x M1;exact propext ⟨λ⟨i,a,b,c⟩=>⟨i,a,b,c⟩,λ⟨i,a,b,c⟩=>⟨i,a,b,c⟩⟩
end
end WL
namespace WQ
open PySem L2 WL WP
theorem Hd {a b:Str}(h:a.cps.toList=b.cps.toList):a=b:=by cases a;cases b;congr 1;exact Array.toList_inj.mp h
theorem Bo (a b:Str):(a++b).cps.toList=a.cps.toList++b.cps.toList:=by show(a.cps++b.cps).toList=_;simp
theorem str_len (a:Str):a.length=a.cps.toList.length:=by show a.cps.size=_;simp
theorem ko (a b:Str):(a++b).length=a.length+b.length:=by rw[str_len,Bo,aH, <- str_len, <- str_len]
theorem tw (gR:Str): ∀ (x:Str) (ss:List Str),(Builtin.Str.glued gR (x::ss)).cps.toList=x.cps.toList++(ss.map λy=>gR.cps.toList++y.cps.toList).flatten:=by
 intro x ss;unfold Builtin.Str.glued;show(ss.foldl (λeQ p=>eQ++gR.cps++p.cps) x.cps).toList=_;generalize x.cps=a;induction ss generalizing a with
 | nil=>simp
 | cons y ss ih=>rw[List.foldl_cons,ih,az,List.flatten_cons];simp
theorem tt (gR:Str):Builtin.Str.glued gR []=Str.empty:=rfl
theorem md (gR:Str){c:Nat}: ∀ (ss:List Str),(∀x∈ss,x.length<=c) ->(Builtin.Str.glued gR ss).length<=ss.length*(c+gR.length)
 | [],_=>by rw[tt];exact cZ _
 | x :: ss,h=>by
  rw[str_len,tw,aH, <- str_len];have h1:=h x (by simp);have h2:((ss.map λy=>gR.cps.toList++y.cps.toList).flatten).length<=ss.length*(c+gR.length):=by
   have: ∀l:List Str,(∀y∈l,y.length<=c) ->((l.map λy=>gR.cps.toList++y.cps.toList).flatten).length<=l.length*(c+gR.length):=by
    intro l hl;induction l with
    | nil=>simp
    | cons y l ih=>rw[az,List.flatten_cons,aH,aH, <- str_len, <- str_len,aB,Nat.succ_mul];have:=hl y (by simp);have:=ih λz hz=>hl z (by simp[hz]);lia
   exact this ss λy hy=>h y (by simp[hy])
  rw[aB,Nat.succ_mul];lia
theorem OH (gR:Str){c:Nat}(ss:List Str)(h: ∀x∈ss,x.length<=c)(hz:ss.length*(c+gR.length) <=sizeLine):Builtin.Str.tooLong (ss.toArray.foldl (· + ·.length+gR.length) 0)=false:=by
 have: ∀ (l:List Str) (n:Nat),(∀y∈l,y.length<=c) ->l.foldl (λ(a:Nat) (y:Str)=>a+y.length+gR.length) n<=n+l.length*(c+gR.length):=by
  intro l;induction l with
  | nil=>intro n _;simp
  | cons y l ih=>intro n hl;rw[List.foldl_cons,aB,Nat.succ_mul];have h1:=hl y (by simp);have h2:=ih (n+y.length+gR.length) λz hz=>hl z (by simp[hz]);lia
 have h1:=this ss 0 h;unfold Builtin.Str.tooLong;rw[decide_eq_false_iff_not,List.foldl_toArray];lia
theorem Mh {M:Mp}{q:WK}{gR:Str}{b:Addr}{ss:List Str}{c:Nat}(hb:M b=some (.lst (ss.map ws)))(h: ∀x∈ss,x.length<=c)(hz:ss.length*(c+gR.length) <=sizeLine)(k:q (ws (Builtin.Str.glued gR ss)) M):Jv (ws gR) [wr b] M q:=⟨gR,b,ss,rfl,rfl,hb,OH gR ss h hz,av (md gR ss h) hz,k⟩
theorem du {n:Nat}(h:n<=5000):n<=sizeLine:=av h (by rw[sizeLine_eq];decide)
def cs (n r:Int)(l:Pt):Int:=((l.filter λz=>decide (z.1 % n=r)).map (·.2)).sum
end WQ
namespace L2
open PySem PySem.Spec PyProof.Rows
section
variable {X:Cx}{tg l:Expr}{tl:TE}{K:PySem.W.Frag}
theorem jx (hK:X.K=K)(hl:PE X l tl):PI X tg l (Fk K tl):=by subst hK;exact pF hl
theorem uC (hK:X.K=K)(hl:PE X l tl):PI X tg l (Mn K tl):=by subst hK;exact m_ hl
theorem Aq (hK:X.K=K)(hl:PE X l tl):PI X tg l (Mo K tl):=by subst hK;exact LC hl
end
end L2
namespace WL
open PySem L2
theorem f7 {X:Cx}{K:PySem.W.Frag}(hK:X.K=K):eN X (.builtin "len") (Lw K):=by subst hK;exact CP
end WL
namespace WQ
open PySem L2 WL WP
abbrev Cf:=Nat ->Int
def S9:Nat ->Cf ->Cf ->Int
 | 0,f,g=>f 0*g 0
 | n+1,f,g=>f 0*g (n+1)+S9 n (λi=>f (i+1)) g
def co (l:List Int):Cf:=λi=>l.getD i 0
def Mult (p:Int)(a g:Cf):Prop:=ca λ(E:Cf) (N:Nat)=>(∀i,N<=i ->E i % p=0) /\ ∀n,a n % p=S9 n E g % p
def tZ (p:Int)(a g h:Cf):Prop:=dH λ(A B:Cf) (N:Nat)=>(∀i,N<=i ->A i % p=0 /\ B i % p=0) /\ ∀n,a n % p=(S9 n A g+S9 n B h) % p
def FV (p:Int)(a:Rd)(v:Int):Prop:=ca λlo hi=>cM (Rs (JR a) lo) (Rt (JR a) hi) (v=fwv p a lo hi)
open Classical in
noncomputable def fv (p:Int) (a:Rd):Int:=if h: ∃v,FV p a v then h.choose else 0
def names:List Str:= ["on","back","up","down"]
def Sh (p:Int)(s:Str):Rd:=if s= "on" then(1,[]) else if s= "back" then(-1,[]) else if s= "up" then(0,[(0,1)]) else(0,[(0,p - 1)])
end WQ
namespace L2
open PySem
theorem EK {X:Cx}{K:PySem.W.Frag}(hK:X.K=K):gO X (compareOp .In) (Pk K false):=by subst hK;exact BS
theorem d9 {X:Cx}{K:PySem.W.Frag}(hK:X.K=K):eN X (.builtin "isinstance") (Lx K):=by subst hK;exact F_
end L2
namespace WQ
open PySem L2 WL WP
def pairsOf (p:Int)(z:Int×Int):Pt:=if z.2<=p - z.2 then List.replicate z.2.toNat (z.1,1) else List.replicate (p - z.2).toNat (z.1, -1)
def Tk:Int ->Pt ->Int
 | _,[]=>0
 | here,z::r=>Rh (here - z.1)+Tk z.1 r
end WQ
namespace L2
open PySem PySem.Spec PyProof.Rows
theorem Inv.freeze {X:Cx}{ae:List (Addr×Obj)}{σ:St}{H:Hp}{s:Shared}{d:Addr}{v:HO}{o:Obj}(I:Inv X ae σ H s)(e:H d=some v)(ho:s.heap.get? d=some o)(n1: ∀xs,HO.tup xs≠v:=by intro _ q;cases q)(n2: ∀a b,HO.jd a b≠v:=by intro _ _ q;cases q)(n3: ∀a,HO.own a≠v:=by intro _ q;cases q)(n4: ∀a,HO.Ha a≠v:=by intro _ q;cases q): Inv X ae σ (cq H d (.jd o v)) s:=by
 have ne: ∀ {b u},H b=some u ->u≠v ->b≠d:=λ{b u} h n z=>by subst z;rw[e] at h;exact n (a8 h).symm
 have HN: ∀ {b},H b=none ->b≠d:=λ{b} h z=>by subst z;rw[e] at h;cases h
 refine⟨I.ok,I.os,I.bare,⟨I.base.keep,I.base.slot,λb u h1 h2 h3=> ?_,I.base.there,λb xs h=> ?_,λb o' u h=> ?_,λb ps h=> ?_⟩,I.loc,I.cell,?_,λx c h=> ?_,λp hp=> ?_,λb u h=> ?_,I.len⟩;have z:=I.base.free b u h1 h2 h3;rw[bC (HN z)];exact z;have z:=I.base.ly b xs h;rw[bC (ne z (n1 _))];exact z;have z:=I.base.kI b o' u h;rw[bC (ne z (n2 _ _))];exact z;obtain⟨more,z⟩:=I.base.mX b ps h;exact⟨more,by rw[bC (ne z (n4 _))];exact z⟩;rw[bC (HN I.free)];exact I.free;rw[bC (HN (I.fB x c h))];exact I.fB x c h;obtain⟨a1,a2,a3⟩:=I.pin p hp;exact⟨a1,by rw[bC (HN a2)];exact a2,a3⟩;have ow: ∀c,H c=some (.own b) ->cq H d (.jd o v) c=some (.own b):=λc r=>by rw[bC (ne r (n3 _))];exact r
 have tu: ∀c xs,H c=some (.tup xs) ->cq H d (.jd o v) c=some (.tup xs):=λc xs r=>by rw[bC (ne r (n1 _))];exact r
 by_cases hb:b=d;subst hb;rw[bI] at h;cases h;exact⟨ho,(I.cF b _ e).p8 (λ_ _ _ h=>h) ow tu⟩;rw[bC hb] at h;exact(I.cF b u h).p8 (λ_ _ _ h=>h) ow tu
def Tf (d:Addr)(o:Obj)(kvs:List (b8×V)):It:=⟨λi H=>i<kvs.length /\ H d=some (.jd o (.dK kvs)),λi H x H'=>H'=H /\ ∃kv,kvs[i]? =some kv /\ x=kv.2,λi H=>kvs.length<=i /\ H d=some (.jd o (.dK kvs))⟩
theorem Kh: ∀ {kvs:List (b8×V)} {vs:List (b8×Value)} {i:Nat} {q:b8×Value},KV kvs vs ->vs[i]? =some q -> ∃p,kvs[i]? =some p /\ RelV p.2 q.2
 | _,_,0,_, .cons ⟨_,r⟩ _,e=>by cases e;exact⟨_,rfl,r⟩
 | _,_,i+1,q, .cons _ t,e=>by have e':_=some q:=e;rw[List.getElem?_cons_succ] at e' ⊢;exact Kh t e'
theorem uW {X:Cx}{ae:List (Addr×Obj)}{σ:St}{H:Hp}{s:Shared}{d:Addr}{o:Obj}{kvs:List (b8×V)}{es:Array DictEntry}{ep:Nat}(I:Inv X ae σ H s)(ho:o.data= .dict es ep)(e:H d=some (.jd o (.dK kvs))): ∃vs,KV kvs vs /\ s.heap.DictAt (cr X.prog X.w) d vs ep:=by
 obtain⟨h0,_,_,vs,e7,o',S6,S8,h1,h2,h3,h4⟩:=(show dt X.prog X.w H s.heap d (.jd o (.dK kvs)) from I.cF d _ e)
 rw[h0] at h1;cases h1;rw[ho] at h3;cases h3;exact⟨vs,e7,o,es,h0,h2,ho,h4⟩
theorem By {P:Program}{w:World}{K:PySem.W.Frag}{tg:Expr}{d it:Addr}{o:Obj}{kvs:List (b8×V)}{es:Array DictEntry}{ep:Nat}(ho:o.data= .dict es ep): vb P w K tg (Tf d o kvs) [it] it (λi h=>h.IsValIter it d i kvs.length ep) where
 mem:=by simp
 obj:=λi h st b hb=>by have e:b=it:= ⇑hb;subst e;obtain⟨o,e,c,d⟩:=st;exact⟨o,e,λv z=>by rw[d] at z;cases z⟩
 keep:=λi h h' st k=>st.at λo e=>k it (by simp) o e
 item:=by
  intro X hP hw hK hc i ae s σ H E I hf st hg;subst hP hw hK;obtain⟨hi,hH⟩:=hg;obtain⟨vs,e7,hd⟩:=uW I ho hH;have hl:=e7.length;rw[hl] at st hi;obtain⟨f0,f1,f2,f3,f4,f5⟩:=hf it (by simp);obtain⟨⟨k,x⟩,hx⟩: ∃q,vs[i]? =some q:=⟨vs[i],by simp[hi]⟩
  obtain⟨p,hp,rp⟩:=Kh e7 hx;refine wpAny_pyNext_values_item st hd hx λh' y_ fA=> ?_;have I1:Inv X ae σ H {s with heap:=h'}:=I.turned (t':=s.toks) (λb o hb e=>(fA.2 b hb).trans e) f0 f1 f3 f4 f5;obtain⟨oo,e,c,dd⟩:=id y_;rw[<- hl] at y_;exact⟨x,rfl,tq (s:= {s with heap:=h'}) e c dd (by decide) ⟨p.2,H,I1,rp,⟨rfl,p,hp,rfl⟩,y_,λb hb=>(hf b hb).1⟩⟩
 done:=by intro X hP hw hK hc i ae s σ H E I hf st hg;subst hP hw hK;obtain⟨hi,hH⟩:=hg;obtain⟨vs,e7,hd⟩:=uW I ho hH;have hl:=e7.length;rw[hl] at st hi;obtain⟨f0,f1,f2,f3,f4,f5⟩:=hf it (by simp);exact wpAny_pyNext_values_end (I.ok.hd hc) st hd (by simp;omega) λh' eb=>⟨rfl,I.turned (t':=s.toks) (λb o hb e=>eb b o hb e) f0 f1 f3 f4 f5⟩
 self:=λ_ _ _ _ _ st h=>wpAny_pyIter_valiter st h
section
variable {X:Cx}{tg o:Expr}{td:TE}{db c9:Pos}
def Kp (td:TE):TI:=λσ H R=>td σ H λx H1=>ca λd kvs=>cM (x= .ref d) (H1 d=some (.dK kvs)) (∀o,R (Tf d o kvs) (cq H1 d (.jd o (.dK kvs))))
theorem Hr (ho:PE X o td)(w_:attributeBase o "values" X.env (eval o X.env)=eval o X.env:=by rfl)(wY:(db.endLine==c9.line)=true:=by rfl):PI X tg (.Call (.Attribute o "values" db) [] [] c9) (Kp td):=by
 intro ae s σ H R I h;refine wpAny_Call_method0_late w_ wY (cz (ho ae s σ H _ I h) λv s1 ⟨x,H1,I1,r1,d,kvs,ex,hd,q1⟩=> ?_);subst ex;obtain rfl:v=Value.ref d:=r1;obtain⟨t1,t2,sys⟩:=yZ I1 (.inl ⟨kvs, .inl hd⟩);refine⟨"dict","dict.values",PySem.F.plainAttrs_dict,PySem.F.slot_dict_values,PySem.F.type_dict_values,t1,t2,Calls.callWith_builtin rfl (PySem.evalArgs_none ?_)⟩;obtain⟨z,Ms,vs,e7,dd⟩:=mx I1.cF (.inl hd);refine call_meetsIn PySem.F.slot_dict_values dd.typeIs PySem.F.entry_dict_values (PySem.F.args_dict_values_1 _) (meets_dict_values (cr X.prog X.w) d Ms) ⟨⟨vs,dd⟩,?_⟩;obtain⟨ob,es,ep,g1,g2,g3,g4⟩:=dd;have da:s1.heap.DictAt (cr X.prog X.w) d vs ep:=⟨ob,es,g1,g2,g3,g4⟩
 refine wpAny_pyIter_values (d:=d) (kvs:=vs) (ep:=ep) (knd:=cr X.prog X.w) ⟨_,aM _ rfl,rfl,rfl⟩ (da.push _) ?_;have I2:=I1.freeze hd g1;refine⟨_,[_],_,Tf d ob kvs,_,rfl,I2.kept (t':=s1.toks) λb o e=>aq _ (aq _ e),By g3,?_,λb hb=> ?_,q1 ob⟩;rw[e7.length];exact⟨_,aM _ rfl,rfl,rfl⟩;have I3:Inv X ae σ (cq H1 d (.jd ob (.dK kvs))) {s1 with heap:=s1.heap.push {cls:= .type "dict_values",data:= .fields #[.ref d]}}:=I2.kept (t':=s1.toks) λb o e=>aq _ e;have e:=be.mp hb;subst e;exact I3.zf (ao _) (I3.cF.fresh (ao _))
end
end L2
namespace WL
open PySem L2
variable {K:PySem.W.Frag}
def Fc (a:WE):WI:=λρ M q=>a ρ M λx M1=>ca λd kvs=>cM (x=wr d) (M1 d=some (.dK kvs)) (∀o ks,q (kvs.map (·.2)) (λM'=>M' d=some (.fz o ks kvs)) (um M1 d (.fz o ks kvs)))
theorem Ki: ∀ {H:Hp} {kvs:List (b8×W)} {vs:List (b8×V)} {i:Nat} {q:b8×V},KR K H kvs vs ->vs[i]? =some q -> ∃p,kvs[i]? =some p /\ WR K H p.2 q.2
 | _,_,_,0,_, .cons ⟨_,r⟩ _,e=>by cases e;exact⟨_,rfl,r⟩
 | _,_,_,i+1,q, .cons _ t,e=>by have e':_=some q:=e;rw[List.getElem?_cons_succ] at e' ⊢;exact Ki t e'
theorem yW {H:Hp}: ∀ {kvs:List (b8×W)} {vs:List (b8×V)},KR K H kvs vs ->kvs.length=vs.length
 | _,_, .nil=>rfl
 | _,_, .cons _ t=>by rw[aB,aB,yW t]
theorem Cn {H1:Hp}{d:Addr}{o:Obj}{kvs:List (b8×W)}{ks:List (b8×V)}:zw K H1 (Tf d o ks) (kvs.map (·.2)) (λM'=>M' d=some (.fz o ks kvs)):=by intro i M H t m hM;obtain⟨e1,r1⟩:=m d _ hM;have hl:=yW r1;rw[ag];refine⟨λh=>⟨by omega,e1⟩,λh=>⟨by omega,e1⟩,λv H' hi ⟨e2,kv,hk,e3⟩=> ?_⟩;subst e2 e3;obtain⟨p,hp,rp⟩:=Ki r1 hk;exact⟨aT.refl _,m,p.2,by rw[aG,hp];rfl,rp⟩
instance {t:TE}{a:WE} [ia:IE K t a]:II K (Kp t) (Fc a) where
 imp:=λρ M σ H q R o h k=>ia.imp ρ M σ H _ _ o h λx M1 v H1 ⟨d,kvs,ex,hd,h1⟩ t1 m1 r1=>by subst ex;obtain⟨ks,e,r⟩:=m1 d _ hd;refine⟨d,ks,r1.eq,e,λob=>k _ _ _ _ _ (h1 ob ks) (t1.trans (jg e)) (m1.put (jg e) ⟨bI,KR.ts (jg e) r⟩) Cn⟩
theorem SI {a:WE}{ρ:cS}{M:Mp}{q:List W ->(Mp ->Prop) ->Mp ->Prop}:Fc a ρ M q=a ρ M λx M1=>dZ x λd=>gz (M1 d) λkvs=> ∀o ks,q (kvs.map (·.2)) (λM'=>M' d=some (.fz o ks kvs)) (um M1 d (.fz o ks kvs)):=by unfold Fc dZ gz;congr 1;funext x M1;apply propext;constructor;(· rintro⟨p,l,h1,h2,h⟩;exact⟨p,h1,l,h2,h⟩);(· rintro⟨p,h1,l,h2,h⟩;exact⟨p,l,h1,h2,h⟩)
end WL
namespace WQ
open PySem L2 WL WP
def Q6 (n:Int):Pt ->Int ->Int
 | [],_=>0
 | z::r,k=>(if z.1 % n=k then z.2 else 0)+Q6 n r k
theorem QY {P:Program}{w:World}{K:PySem.W.Frag}{mg:Str ->Option Value}{base:Heap}{CX:xZ}{k:Nat}{f:Addr}{fd:FuncData}{ps:List Str}{p1 p2 p3:fh}(F1:bx P w K mg base CX k f fd ps (fj K p1))(F2:bx P w K mg base CX k f fd ps (fj K p2)) (h: ∀xs M q,p3 xs M q ->p1 xs M q \/ p2 xs M q):bx P w K mg base CX k f fd ps (fj K p3):=by refine⟨λvs H Q E ⟨xs,M,q,r,m,h3,k⟩=> ?_,λA outer s H args us vs Q E hr e b v ⟨xs,M,q,r,m,h3,k⟩=> ?_⟩;rcases h xs M q h3 with h4 | h4;exact F1.len vs H Q E ⟨xs,M,q,r,m,h4,k⟩;exact F2.len vs H Q E ⟨xs,M,q,r,m,h4,k⟩;rcases h xs M q h3 with h4 | h4;exact F1.run A outer s H args us vs Q E hr e b v ⟨xs,M,q,r,m,h4,k⟩;exact F2.run A outer s H args us vs Q E hr e b v ⟨xs,M,q,r,m,h4,k⟩
def fl (p:Int)(m:Nat)(f:Pt):List Int:=(List.range m).map λ(k:Nat)=>Q6 m f k % p
end WQ
namespace L2
open PySem PySem.Spec PyProof.Rows
section
variable {X:Cx}{k:Nat}{f:Addr}{fd:FuncData}{ps:List Str}{sp:Sp}{E:XK}{x:Str}{p pos:Pos}{e:Expr}{es:List Expr}{t:TA}{st:Stmt}
theorem hV (hP:fN (gu X.prog X.w) X E)(C:gP X.K X.mg x ps st f fd)(F:bx X.prog X.w X.K X.mg X.base (gu X.prog X.w) k f fd ps sp)(hr:dG k X.A)(hg:Gl X x) (ha:PA X (e::es) t) (tf:(x==("__debug__" :Str))=false:=by decide) (he:starEach (e::es) X.env=(false,eval e X.env)::starEach es X.env:=by rfl) (mS:(backTo pos (starEach es X.env)).any (·.1)=false:=by rfl): PE X (.Call (.Name x p) (e::es) [] pos) (sF sp [] E t):=At F hr hg C.at_ C.fn.kp C.bd .nil hP ha tf he mS
end
end L2
namespace WQ
open PySem L2 WL WP
def aaX (s x:Int):Int:=if s=0 then x else x % s
def hI (s x:Int):Int:=if s=0 then 0 else x / s
def Mb:List Int ->Int
 | []=>0
 | a::r=>r.foldl (λm x=>if x<m then x else m) a
def plc (l:Pt):List Int:=l.map (·.1)
end WQ
namespace L2
open PySem
structure NY (K:PySem.W.Frag)(mg:Str ->Option Value)(x qual:Str)(ps:List Str)(st:Stmt)(C f:Addr)(fd:FuncData):Prop where
 at_:mg x=some (.ref C)
 mkr:Mk K C f
 cl:xY K C
 fn:xP K "__init__" qual st f fd
 bd:Binds K fd ps []
section
variable {X:Cx}{k:Nat}{f C:Addr}{fd:FuncData}{ps:List Str}{sp:Sp}{x qual:Str}{st:Stmt}{p pos:Pos}{e:Expr}{es:List Expr}{t:TA}
theorem lP (M:NY X.K X.mg x qual ps st C f fd)(F:bx X.prog X.w X.K X.mg X.base eE k f fd ps sp)(hr:dG (k+1) X.A)(hg:Gl X x) (ha:PA X (e::es) t) (tf:(x==("__debug__" :Str))=false:=by decide) (he:starEach (e::es) X.env=(false,eval e X.env)::starEach es X.env:=by rfl) (mS:(backTo pos (starEach es X.env)).any (·.1)=false:=by rfl): PE X (.Call (.Name x p) (e::es) [] pos) (DS C sp [] E0 t):=Ht M.mkr F hr hg M.at_ M.bd .nil Au ha tf he mS
end
end L2
namespace WL
open PySem L2
section
variable {K:PySem.W.Frag}
theorem wP {H:Hp}{f:Str}{x:W}: ∀ {fs:List (Str×W)} {ks:List (Str×V)},KR K H fs ks ->fs.lookup f=Option.some x -> ∃v,ks.lookup f=Option.some v /\ WR K H x v
 | _,_, .nil,h=>by cases h
 | (g,y)::fs,(g',v)::ks, .cons ⟨e,r⟩ t,h=>by
  cases (show g=g' from e);rw[List.lookup_cons] at h ⊢;cases hb:f==g with
  | true=>rw[hb] at h;cases h;exact⟨v,rfl,r⟩
  | false=>rw[hb] at h;exact wP t h
def gD (f:Str)(v:W):List (Str×W) ->List (Str×W)
 | []=> [(f,v)]
 | (g,x)::r=>if g=f then(g,v)::r else(g,x)::gD f v r
theorem AK {H:Hp}{f:Str}{x:W}{v:V}(rx:WR K H x v): ∀ {fs:List (Str×W)} {ks:List (Str×V)},KR K H fs ks ->KR K H (gD f x fs) (L2.hG f v ks)
 | _,_, .nil=> .cons ⟨rfl,rx⟩ .nil
 | (g,y)::fs,(g',u)::ks, .cons ⟨e,r⟩ t=>by cases (show g=g' from e);unfold gD L2.hG;split;exact .cons ⟨rfl,rx⟩ t;exact .cons ⟨rfl,r⟩ (AK rx t)
theorem AL {H:Hp}: ∀ {kvs:List (Str×W)} {vs:List (Str×V)},KR K H kvs vs ->kvs.length=vs.length
 | _,_, .nil=>rfl
 | _,_, .cons _ t=>by rw[aB,aB,AL t]
def K6 (K:PySem.W.Frag)(a:WE)(f:Str):WE:=λρ M q=>a ρ M λx M1=>se λp C dx fs v=>kz (x=wr p) (M1 p=some (.ins C dx fs)) (xY K C) (dR K C f) (fs.lookup f=some v) (q v M1)
instance {t:TE}{a:WE}{f:Str} [ia:IE K t a]:IE K (Lj K t f) (K6 K a f) where
 imp:=λρ M σ H q Q o h k=>ia.imp ρ M σ H _ _ o h λx M1 v H1 ⟨p,C,dx,fs,y,ex,hp,hc,hn,hl,h1⟩ t1 m1 r1=>by subst ex;obtain⟨ks,e,r⟩:=m1 p _ hp;obtain⟨u,hu,ru⟩:=wP r hl;exact⟨p,C,dx,ks,u,r1.eq,e,hc,hn,hu,k _ _ _ _ h1 t1 m1 ru⟩
def Ei (K:PySem.W.Frag)(a b:WE)(f:Str):WS:=λD ρ M=>b ρ M λy M1=>a ρ M1 λx M2=>fF λp C dx fs=>kz (x=wr p) (M2 p=some (.ins C dx fs)) (xY K C) (dR K C f) (fs.length<1000) (D.nx ρ (um M2 p (.ins C dx (gD f y fs))))
instance {t u:TE}{a b:WE}{f:Str} [ia:IE K t a] [ib:IE K u b]:IS K (O8 K t u f) (Ei K a b f) where
 imp:=λρ M σ H D' D o h e=>ib.imp ρ M σ H _ _ o h λy M1 v1 H1 h1 t1 m1 r1=>ia.imp ρ M1 σ H1 _ _ (o.mv t1 m1) h1 λx M2 v2 H2 ⟨p,C,dx,fs,ex,hp,hc,hn,hl,h2⟩ t2 m2 r2=>by subst ex;obtain⟨ks,ek,r⟩:=m2 p _ hp;have ts:=Le (u:= .ins C dx (hG f v1 ks)) ek;refine⟨p,C,dx,ks,r2.eq,ek,hc,hn,by rw[<- AL r];exact hl,e.nx ρ _ σ _ h2 ((t1.trans t2).trans ts) (o.mv ((t1.trans t2).trans ts) (m2.put ts ⟨_,bI,KR.ts ts (AK (r1.ts t2) r)⟩))⟩
def Jt (C:Addr)(p:fh)(a:WA):WE:=λρ M q=>a ρ M λxs M1=> ∀x dx,M1 x=none ->M1 dx=none ->dx≠x ->p (wr x::xs) (um M1 x (.ins C dx [])) λv M2=>v=wn /\ q (wr x) M2
instance {C:Addr}{p:fh}{E:XK}{t:TA}{a:WA} [ia:IA K t a]:IE K (DS C (fj K p) [] E t) (Jt C p a) where
 imp:=λρ M σ H q Q o h k=>ia.imp ρ M σ H _ _ o h λxs M1 vs H1 h1 t1 m1 r1=>λx dx hx Kx pL=>by
  have hx2:cq H1 dx (.own x) x=none:=by rw[bC (cV pL)];exact hx
  have ts1:aT H1 (cq H1 dx (.own x)):=L2.fi.ts (bV Kx);have OF:aT (cq H1 dx (.own x)) (cq (cq H1 dx (.own x)) x (.ins C dx [])):=L2.fi.ts (bV hx2);refine⟨wr x::xs,um M1 x (.ins C dx []),λv M2=>v=wn /\ q (wr x) M2,cy.cons WR.v (by rw[c4];exact r1.ts (ts1.trans OF)),(m1.new Kx).put OF ⟨[],bI, .nil⟩,h1 x dx (m1.fresh hx) (m1.fresh Kx) pL,?_⟩;rintro y M' u H' ⟨rfl,hq⟩ ts m' r';exact⟨r'.eq,k _ _ _ _ hq (t1.trans ((ts1.trans OF).trans ts)) m' WR.v⟩
def qB (o:Option MO)(k:Addr ->Addr ->List (Str×W) ->Prop):Prop:=dH λC dx fs=>o=some (.ins C dx fs) /\ k C dx fs
theorem Vi {C dx:Addr}{fs:List (Str×W)}{k:Addr ->Addr ->List (Str×W) ->Prop}:qB (some (.ins C dx fs)) k=k C dx fs:=by apply propext;constructor;rintro⟨_,_,_,e,h⟩;cases e;exact h;intro h;exact⟨_,_,_,rfl,h⟩
theorem TZ {a:WE}{f:Str}{ρ:cS}{M:Mp}{q:WK}:K6 K a f ρ M q=a ρ M λx M1=>dZ x λp=>qB (M1 p) λC dx fs=>dD (xY K C) (dD (dR K C f) (lR (fs.lookup f) λv=>q v M1)):=by unfold K6 dZ qB dD lR;congr 1;funext x M1;apply propext;constructor;rintro⟨p,C,dx,fs,v,e1,e2,e3,e4,e5,h⟩;exact⟨p,e1,C,dx,fs,e2,e3,e4,v,e5,h⟩;rintro⟨p,e1,C,dx,fs,e2,e3,e4,v,e5,h⟩;exact⟨p,C,dx,fs,v,e1,e2,e3,e4,e5,h⟩
theorem Sk {a b:WE}{f:Str}{D:eZ}{ρ:cS}{M:Mp}:Ei K a b f D ρ M=b ρ M λy M1=>a ρ M1 λx M2=>dZ x λp=>qB (M2 p) λC dx fs=>dD (xY K C) (dD (dR K C f) (dD (fs.length<1000) (D.nx ρ (um M2 p (.ins C dx (gD f y fs)))))):=by unfold Ei dZ qB dD;congr 1;funext y M1;congr 1;funext x M2;apply propext;constructor;rintro⟨p,C,dx,fs,e1,e2,e3,e4,e5,h⟩;exact⟨p,e1,C,dx,fs,e2,e3,e4,e5,h⟩;rintro⟨p,e1,C,dx,fs,e2,e3,e4,e5,h⟩;exact⟨p,C,dx,fs,e1,e2,e3,e4,e5,h⟩
theorem pB {C:Addr}{p:fh}{a:WA}{ρ:cS}{M:Mp}{q:WK}:Jt C p a ρ M q=a ρ M λxs M1=> ∀x dx,M1 x=none ->M1 dx=none ->dx≠x ->qY p (wr x::xs) (um M1 x (.ins C dx [])) λv M2=>v=wn /\ q (wr x) M2:=rfl
end
end WL
namespace L2
open PySem
def dJ (s:Stmt)(j:Nat):Stmt:=match s with
 | .ClassDef _ _ _ b _ _ _ _ _ _ _=>b.getD j (.Pass ⟨0,0,0,0⟩)
 | _=> .Pass ⟨0,0,0,0⟩
end L2
namespace L2
open PySem PySem.Spec PyProof.Rows
theorem Inv.Up {X:Cx}{ae:List (Addr×Obj)}{σ:St}{H:Hp}{s:Shared}{d:Addr}{kvs:List (b8×V)}{o:Obj}(I:Inv X ae σ H s)(e:H d=some (.jd o (.dK kvs)))(h0: ∀o u,X.H₀ d≠some (.jd o u)): Inv X ae σ (cq H d (.dK kvs)) s:=by
 have ne: ∀ {b u},H b=some u ->u≠ .jd o (.dK kvs) ->b≠d:=λ{b u} h n z=>by subst z;rw[e] at h;exact n (a8 h).symm
 have HN: ∀ {b},H b=none ->b≠d:=λ{b} h z=>by subst z;rw[e] at h;cases h
 refine⟨I.ok,I.os,I.bare,⟨I.base.keep,I.base.slot,λb u h1 h2 h3=> ?_,I.base.there,λb xs h=> ?_,λb o' u h=> ?_,λb ps h=> ?_⟩,I.loc,I.cell,?_,λx c h=> ?_,λp hp=> ?_,λb u h=> ?_,I.len⟩;have z:=I.base.free b u h1 h2 h3;rw[bC (HN z)];exact z;have z:=I.base.ly b xs h;rw[bC (ne z (λq=>nomatch q))];exact z;have z:=I.base.kI b o' u h;have nb:b≠d:=λz=>h0 o' u (z▸h);rw[bC nb];exact z;obtain⟨more,z⟩:=I.base.mX b ps h;exact⟨more,by rw[bC (ne z (λq=>nomatch q))];exact z⟩;rw[bC (HN I.free)];exact I.free;rw[bC (HN (I.fB x c h))];exact I.fB x c h;obtain⟨a1,a2,a3⟩:=I.pin p hp;exact⟨a1,by rw[bC (HN a2)];exact a2,a3⟩;have ow: ∀c,H c=some (.own b) ->cq H d (.dK kvs) c=some (.own b):=λc r=>by rw[bC (ne r (λq=>nomatch q))];exact r
 have tu: ∀c xs,H c=some (.tup xs) ->cq H d (.dK kvs) c=some (.tup xs):=λc xs r=>by rw[bC (ne r (λq=>nomatch q))];exact r
 by_cases hb:b=d;subst hb;rw[bI] at h;cases h;have z:=(I.cF b _ e).p8 (H':=cq H b (.dK kvs)) (h':=s.heap) (λ_ _ _ h=>h) ow tu;exact z.2;rw[bC hb] at h;exact(I.cF b u h).p8 (λ_ _ _ h=>h) ow tu
end L2
namespace WL
open PySem L2
variable {K:PySem.W.Frag}
theorem E7: ∀ {H:Hp} {kvs:List (b8×W)} {vs:List (b8×V)} {i:Nat} {q:b8×V},KR K H kvs vs ->vs[i]? =some q -> ∃p,cM (kvs[i]? =some p) (p.1=q.1) (WR K H p.2 q.2)
 | _,_,_,0,_, .cons ⟨e0,r⟩ _,e=>by cases e;exact⟨_,rfl,e0,r⟩
 | _,_,_,i+1,q, .cons _ t,e=>by have e':_=some q:=e;rw[List.getElem?_cons_succ] at e' ⊢;exact E7 t e'
theorem Lf {H:Hp}{a:Addr}{o:Obj}{xs:List (b8×V)}{u:HO}(h:H a=some (.jd o (.dK xs))):aT H (cq H a u):=zR h (λ_ z=>nomatch z) λ_ _ z=>nomatch z
end WL
set_option maxHeartbeats 4000000
namespace WL
open PySem L2
theorem O_ {a b:WE}{D:eZ}{ρ:cS}{M:Mp}:yx a b D ρ M=a ρ M λx M1=>b ρ M1 λy M2=>dZ x λp=>kG y λk=>gz (M2 p) λkvs=>dD ((eG kvs k).isSome=true) (D.nx ρ (um M2 p (.dK (ip kvs k)))):=by unfold yx dZ kG gz dD;congr 1;funext x M1;congr 1;funext y M2;apply propext;constructor;rintro⟨p,kvs,k,e1,e2,e3,e4,h⟩;exact⟨p,e1,k,e3,kvs,e2,e4,h⟩;rintro⟨p,e1,k,e3,kvs,e2,e4,h⟩;exact⟨p,kvs,k,e1,e2,e3,e4,h⟩
end WL
namespace WQ
open PySem L2 WL WP
abbrev Rl:=Int×Int×Int
def putL (s:Int)(Ut:List Pt)(tl:List Rl):Pt:=tl.flatMap λt=>(Ut.getD t.1.toNat []).map λz=>(z.1+t.2.1*s,z.2*t.2.2)
def hG (s x:Int)(Ut:List Pt)(t:Rl):Int:=ez (Ut.getD t.1.toNat []) (x - t.2.1*s)*t.2.2
end WQ
namespace L2
open PySem
def zH:Nat ->(List Value ->Prop) ->Prop
 | 0,p=>p []
 | n+1,p=> ∀v,zH n λus=>p (v::us)
theorem zH.to: ∀ {n:Nat} {p:List Value ->Prop},zH n p -> ∀us,us.length=n ->p us
 | 0,_,h,[],_=>h
 | _+1,_,h,v::us,e=>zH.to (h v) us (Nat.succ.inj e)
section
variable {K:PySem.W.Frag}{h:Heap}{mg:Str ->Option Value}{x:Str}{ps:List Str}{st:Stmt}{f C:Addr}{oc:Value}{od an:Option Addr}{yF:Array (Option Value)}{kV gN pm cdv ct:Value}
theorem bS (X:K.In h)(G:h.Ns mainGlobals mg)(a:PySem.W.nsIn K mainGlobals x=some (some (.ref f))) (l:K.lookup f=some ⟨oc,od, .func (PySem.W.fnOf x x (dX st) (c5 st) (aO st) .none kV gN pm an cdv ct),yF⟩) (c:PySem.W.codeIn K cdv x=true) (k:PySem.W.keepIn K (.ref f)=true) (b: ∀ (kV gN pm:Value) (an:Option Addr) (cdv ct:Value),zH ps.length λus=>bindArgs (PySem.W.fnOf x x (dX st) (c5 st) (aO st) .none kV gN pm an cdv ct) ⟨us,[]⟩=pure (ps.zip us):=by(repeat intro _);rfl): gP K mg x ps st f (PySem.W.fnOf x x (dX st) (c5 st) (aO st) .none kV gN pm an cdv ct):=⟨PySem.W.mg_of X G a,nE l c k,(nE (st:=st) l c k).binds λkV gN pm an cdv ct us e=>(b kV gN pm an cdv ct).to us e⟩
theorem FZ {q:Str}(X:K.In h)(G:h.Ns mainGlobals mg)(a:PySem.W.nsIn K mainGlobals x=some (some (.ref C)))(g:PySem.W.findIn K (.ref C) "__init__" =some (some (.ref f))) (l:K.lookup f=some ⟨oc,od, .func (PySem.W.fnOf "__init__" q (dX st) (c5 st) (aO st) .none kV gN pm an cdv ct),yF⟩) (c:PySem.W.codeIn K cdv q=true) (k:PySem.W.keepIn K (.ref f)=true) (h1:PySem.W.makesIn K C=true) (h2:PySem.W.isFn K (.ref f)=true) (h3:PySem.W.keepIn K (.ref C)=true) (h4:PySem.W.plainGet K C Str.empty=true) (h5:PySem.W.hasDictIn K C=true) (h6:PySem.W.plainOver K C=true) (h7:PySem.W.findIn K (.ref C) "__setattr__" =some (some (.builtin "object.__setattr__"))) (b: ∀ (kV gN pm:Value) (an:Option Addr) (cdv ct:Value),zH ps.length λus=>bindArgs (PySem.W.fnOf "__init__" q (dX st) (c5 st) (aO st) .none kV gN pm an cdv ct) ⟨us,[]⟩=pure (ps.zip us):=by(repeat intro _);rfl): NY K mg x q ps st C f (PySem.W.fnOf "__init__" q (dX st) (c5 st) (aO st) .none kV gN pm an cdv ct):=⟨PySem.W.mg_of X G a,⟨h1,g,h2,h3⟩,⟨h4,h5,h6,h7⟩,nE l c k,(nE (st:=st) l c k).binds λkV gN pm an cdv ct us e=>(b kV gN pm an cdv ct).to us e⟩
theorem qt {q:Str}{fd:FuncData}(_:NY K mg x q ps st C f fd)(a:Str)(e:PySem.W.findIn K (.ref C) a=some none):dR K C a:=e
theorem NZ {cd:ClassData}(a:PySem.W.nsIn K mainGlobals x=some (some (.ref C)))(e:PySem.W.excIn K C Q7 "ValueError.__new__" =true)(k1:PySem.W.clsIn K C=some cd)(k2:PySem.W.findIn K (.ref C) "__getattribute__" =some (some (.builtin "BaseException.__getattribute__")))(k3:PySem.W.findIn K (.ref C) "__getattr__" =some none)(k4:PySem.W.findIn K (.ref C) "__class__" =some (some (.builtin "object.__class__")))(k5:PySem.W.mroIn K C (.type "object")=some true)(k6:PySem.W.mroIn K C (.type "BaseException")=some true):ls K x C:=⟨a,e,(by rw[k1];rfl),k2,k3,k4,k5,k6⟩
theorem Mc {l:PySem.W.OpenLaw}{w:World}{fa:Addr}{fd:FuncData}{p:Str}{kd:Nat}(T:gP K mg "law" [p] st f fd)(hfa:mg "law" =some (.ref fa))(hb: ∀ (kV gN pm:Value) (an:Option Addr) (cdv ct v:Value),bindArgs (PySem.W.fnOf "law" "law" (dX st) (c5 st) (aO st) .none kV gN pm an cdv ct) ⟨[v],[]⟩=pure [(p,v)]) (ok: ∀base,bx l.prog w K mg base eE kd f fd [p] (WQ.vO K)): ∃fd:FuncData,(∀ (s:Shared) (v:Value),BindsTo s fd ⟨[v],[]⟩ [(p,v)]) /\ ∀base:Heap,K.In base ->base.Ns mainGlobals mg ->bx l.prog w K mg base eE kd fa fd [p] (WQ.vO K):=by have e:=hfa.symm.trans T.at_;cases e;obtain⟨oc,od,kV,gN,pm,an,cdv,ct,yF,rfl,lk,AX⟩:=T.fn.ex;exact⟨_,λs v=> .of_eq (hb kV gN pm an cdv ct v),λbase _ _=>ok base⟩
end
end L2
namespace WQ
open PySem L2 WL WP
def fam (s:Int)(b:Pt):Int ->Nat ->List (Int ->Int)
 | _,0=> []
 | lo,n+1=>(λx=>look b (x - s*lo))::fam s b (lo+1) n
def cps (s:Int)(G:List (Pt×Int×Nat)):List (Int ->Int):=G.flatMap λg=>fam s g.1 g.2.1 g.2.2
def IF (q js:Pt):Pt:=js.flatMap λj=>tm j.2 (mv j.1 q)
def UH (s Z c:Int):Nat:=if s=0 then(Z - c+1).toNat else(s - c).toNat
def fW (s:Int)(a:Pt):W:=if plc a= [] then wn else wi (Mb ((plc a).map (aaX s)))
def mz (s Z K c:Int)(q:Nat):Nat:=UH s Z c*(K.toNat+2)+q
end WQ
namespace L2
open PySem
theorem bW {X:Cx}{K:PySem.W.Frag}{e:Expr}{f:Str}{pos:Pos}{ta:TE}(hK:X.K=K)(he:PE X e ta)(hb:attributeBase e f X.env (eval e X.env)=eval e X.env):PE X (.Attribute e f pos) (Lj K ta f):=by subst hK;exact LF he hb
end L2
namespace L2
open PySem PySem.Spec PyProof.Rows
section
variable {X:Cx}
def Ag:V ->List V ->Hp ->VK ->Prop:=λx vs H Q=>dH λl xs y=> ∃i:Nat,kz (x= .ref l) (vs= [.int i,y]) (H l=some (.lst xs)) (xs.length<sizeLine) (i<=xs.length) (Q .dC (cq H l (.lst (xs.take i++y::xs.drop i))))
theorem sR:Ta X "list.insert" Ag:=by
 intro ae s σ H x vs v us Q I rx rv h;obtain⟨l,xs,y,i,rfl,rfl,hH,hz,hi,q⟩:=h;cases rx;obtain⟨u0,u,rfl,⟨tk,rfl⟩,ru⟩:=rv.two;obtain⟨z,bD,n,r,hl,e⟩:=I.yT hH;have hf:Builtin.List.listFitsIndex (i:Int)=true:=by have hs:=sizeLine_eq;unfold Builtin.List.listFitsIndex;rw[cR,cU,cU];lia
 obtain⟨x,hx⟩: ∃x:Int,x=(i:Int):=⟨_,rfl⟩
 rw[<- hx] at hf ⊢;refine call_meets F.slot_list_insert ⟨_,e,rfl⟩ F.entry_list_insert (F.args_list_insert_3 _ _ _) (PySem.AutoSeq1.list_insert_list_int_val_1 l bD.toArray n x tk u (by simp[hf]) (by rw[aF];lia)) ⟨e,?_⟩;refine⟨.dC,_,I.HU (its':=bD.take i++u::bD.drop i) hH e ?_ ((r.take i).append (.cons ru (r.drop i))) ?_,rfl,q⟩;have hk:(if x<0 then(x+(bD.toArray.size:Int)).toNat else min x.toNat bD.toArray.size)=i:=by rw[aj ∅,aF];lia
 show(bD.toArray.extract 0 (if x<0 then(x+(bD.toArray.size:Int)).toNat else min x.toNat bD.toArray.size)).push u++bD.toArray.extract (if x<0 then(x+(bD.toArray.size:Int)).toNat else min x.toNat bD.toArray.size)=_;rw[hk];apply Array.toList_inj.mp;simp;exact List.take_of_length_le (by simp);rw[aH,aB,b0,List.length_drop];lia
end
end L2
namespace WL
open PySem L2
section
variable {K:PySem.W.Frag}{M:Mp}{q:WK}
def G8:WM:=λx ys M q=>dH λa l y=> ∃i:Nat,kz (x=wr a) (ys= [wi i,y]) (M a=some (.lst l)) (l.length<sizeLine) (i<=l.length) (q wn (um M a (.lst (l.take i++y::l.drop i))))
instance:IM K Ag G8 where
 imp:=by rintro x v ys us M H q Q m r1 r2 ⟨a,l,y,i,rfl,rfl,hl,hn,hi,h⟩ k;cases r1.eq;obtain⟨u0,u,rfl,r0,r⟩:=r2.two;cases r0.eq;obtain⟨vs,hv,rr⟩:=m a _ hl;exact⟨a,vs,u,i,rfl,rfl,hv,by rw[rr.length];exact hn,by rw[rr.length];exact hi,k _ _ _ _ h (iA hv) (m.putL hv ((rr.take i).append (.cons r (rr.drop i)))) WR.v⟩
end
end WL
namespace L2
open PySem
structure mO (K:PySem.W.Frag)(m qual:Str)(ps:List Str)(st:Stmt)(C f:Addr)(fd:FuncData):Prop where
 NG:Gn K C m f
 cl:xY K C
 fn:xP K m qual st f fd
 bd:Binds K fd ps []
section
variable {X:Cx}{k:Nat}{f C:Addr}{fd:FuncData}{ps:List Str}{sp:Sp}{m qual:Str}{st:Stmt}{pos db:Pos}{o e:Expr}{es:List Expr}{ta:TE}{t:TA}
theorem hJ {pl:Sem Bool}(M:mO X.K m qual ps st C f fd)(F:bx X.prog X.w X.K X.mg X.base eE k f fd ps sp)(hr:dG k X.A)(he:PE X o ta)(ha:PA X (e::es) t) (vp:starEach (e::es) X.env=(false,eval e X.env)::starEach es X.env:=by rfl) (mS:(backTo pos (starEach es X.env)).any (·.1)=false:=by rfl) (ht:eval (.Call (.Attribute o m db) (e::es) [] pos) X.env=(do
  let ov <- eval o X.env
  standAt db.atName
  let (f,first) <- holding [ov] (getMethod ov m pl)
  callWith pos f first (backTo pos (starEach (e::es) X.env)) (backToKw pos (keywordEach [] X.env))):=by rfl):
 PE X (.Call (.Attribute o m db) (e::es) [] pos) (nP C m sp [] E0 ta t):=As he M.cl M.NG F hr M.bd .nil Au ha vp mS ht
theorem kl {pl:Sem Bool}(M:mO X.K m qual ps st C f fd)(F:bx X.prog X.w X.K X.mg X.base eE k f fd ps sp)(hr:dG k X.A)(he:PE X o ta) (ht:eval (.Call (.Attribute o m db) [] [] pos) X.env=(do
  let ov <- eval o X.env
  standAt db.atName
  let (f,first) <- holding [ov] (getMethod ov m pl)
  callWith pos f first (backTo pos (starEach [] X.env)) (backToKw pos (keywordEach [] X.env))):=by rfl):
 PE X (.Call (.Attribute o m db) [] [] pos) (nP C m sp [] E0 ta BC):=wq he M.cl M.NG F hr M.bd .nil Au ht
end
section
variable {K:PySem.W.Frag}{h:Heap}{mg:Str ->Option Value}{x:Str}{ps:List Str}{st:Stmt}{f g C:Addr}{oc:Value}{od an:Option Addr}{yF:Array (Option Value)}{kV gN pm cdv ct:Value}
theorem qA {n:Int}{t:Tok}(X:K.In h)(G:h.Ns mainGlobals mg)(a:PySem.W.nsIn K mainGlobals x=some (some (.int n t))): ∃t,mg x=some (.int n t):=⟨t,PySem.W.mg_of X G a⟩
theorem dk {m q q':Str}{ps':List Str}{bw:Stmt}{fd':FuncData}(c0:NY K mg x q' ps' bw C g fd')(a:PySem.W.findIn K (.ref C) m=some (some (.ref f))) (l:K.lookup f=some ⟨oc,od, .func (PySem.W.fnOf m q (dX st) (c5 st) (aO st) .none kV gN pm an cdv ct),yF⟩) (c:PySem.W.codeIn K cdv q=true) (k:PySem.W.keepIn K (.ref f)=true) (h2:PySem.W.isFn K (.ref f)=true) (b: ∀ (kV gN pm:Value) (an:Option Addr) (cdv ct:Value),zH ps.length λus=>bindArgs (PySem.W.fnOf m q (dX st) (c5 st) (aO st) .none kV gN pm an cdv ct) ⟨us,[]⟩=pure (ps.zip us):=by(repeat intro _);rfl): mO K m q ps st C f (PySem.W.fnOf m q (dX st) (c5 st) (aO st) .none kV gN pm an cdv ct):=⟨⟨a,h2,k⟩,c0.cl,nE l c k,(nE (st:=st) l c k).binds λkV gN pm an cdv ct us e=>(b kV gN pm an cdv ct).to us e⟩
end
end L2
namespace WL
open PySem L2
section
variable {K:PySem.W.Frag}
theorem l4 {H:Hp}{f:Str}: ∀ {fs:List (Str×W)} {ks:List (Str×V)},KR K H fs ks ->fs.lookup f=Option.none ->ks.lookup f=Option.none
 | _,_, .nil,_=>rfl
 | (g,y)::fs,(g',v)::ks, .cons ⟨e,r⟩ t,h=>by
  cases (show g=g' from e);rw[List.lookup_cons] at h ⊢;cases hb:f==g with
  | true=>rw[hb] at h;cases h
  | false=>rw[hb] at h;exact l4 t h
def Dz (C:Addr)(m:Str)(p:fh)(a:WE)(b:WA):WE:=λρ M q=>a ρ M λx M1=>dH λ(o dx:Addr) (fs:List (Str×W))=>eu (x=wr o) (M1 o=some (.ins C dx fs)) (fs.lookup m=none) (b ρ M1 λxs M2=>p (x::xs) M2 q)
instance {C:Addr}{m:Str}{p:fh}{E:XK}{t:TE}{u:TA}{a:WE}{b:WA} [ia:IE K t a] [ib:IA K u b]:IE K (nP C m (fj K p) [] E t u) (Dz C m p a b) where
 imp:=λρ M σ H q Q o h k=>ia.imp ρ M σ H _ _ o h λx M1 v H1 ⟨ad,dx,fs,ex,hp,hl,h1⟩ t1 m1 r1=>by subst ex;obtain⟨ks,e,r⟩:=m1 ad _ hp;refine⟨ad,dx,ks,r1.eq,e,l4 r hl,ib.imp ρ M1 σ H1 _ _ (o.mv t1 m1) h1 λxs M2 vs H2 h2 t2 m2 r2=> ?_⟩;refine⟨wr ad::xs,M2,q,cy.cons (r1.ts t2) (by rw[c4];exact r2),m2,h2,?_⟩;intro y M' u H' hq ts m' r';exact k _ _ _ _ hq ((t1.trans t2).trans ts) m' r'
theorem RU {C:Addr}{m:Str}{p:fh}{a:WE}{b:WA}{ρ:cS}{M:Mp}{q:WK}:Dz C m p a b ρ M q=a ρ M λx M1=>dZ x λo=>qB (M1 o) λC' _ fs=>dD (C'=C /\ fs.lookup m=none) (b ρ M1 λxs M2=>qY p (x::xs) M2 q):=by unfold Dz dZ qB dD qY;congr 1;funext x M1;apply propext;constructor;rintro⟨o,dx,fs,e1,e2,e3,h⟩;exact⟨o,e1,C,dx,fs,e2,⟨rfl,e3⟩,h⟩;rintro⟨o,e1,C',dx,fs,e2,⟨rfl,e3⟩,h⟩;exact⟨o,dx,fs,e1,e2,e3,h⟩
end
end WL
namespace WQ
open PySem L2 WL WP
def J7:fh:=λxs M q=>dH λ(p:Int) (a:Rd) (n:Int)=>Dk (xs= [wi p,fI a,wi n]) (0<p) (p<1000) (df p a.2) (a.2.length<=40000) (n<0) (a.1≠0 -> -100000<n /\ n<100000 /\ a.2.length*n.natAbs<=100000) (∀r:Rd,fR p a n r ->(a.1=0 ->r.2.length<=a.2.length) ->(a.1≠0 ->r.2.length<=a.2.length*n.natAbs) ->q (fI r) M)
theorem Hv {xs:List W}{M:Mp}{q:WK}:LM xs M q ->J8 xs M q \/ J7 xs M q:=by rintro⟨p,a,n,rfl,p0,p1,hP,hl,hb,k⟩;by_cases hn:n<0;exact .inr ⟨p,a,n,rfl,p0,p1,hP,hl,hn,hb,k⟩;refine .inl ⟨p,a,n,rfl,p0,p1,hP,hl, ∅,λh=> ?_,k⟩;obtain⟨_,h2,h3⟩:=hb h;have e:n.toNat=n.natAbs:= ∅;rw[e];exact⟨h2,h3⟩
end WQ
namespace L2
open PySem PyProof.Rows PyProof.V PySem.Calls PySem.Spec
inductive vc (X:Cx):List ExceptHandler ->List (Addr×TS) ->Prop
 | nil:vc X [] []
 | cons {x:Str} {np Mv:Pos} {b₀:Stmt} {zX:List Stmt} {C:Addr} {ts:TS} {dh:List ExceptHandler} {al:List (Addr×TS)} (hg:Gl X x) (O:ls X.K x C) (hsu: ∀ea,vw (X.om (.ref ea)) (b₀::zX) ts) (r:vc X dh al) (tf:(x==("__debug__" :Str))=false:=by decide): vc X (.ExceptHandler (some (.Name x np)) none (b₀::zX) Mv::dh) ((C,ts)::al)
def p6 (K:PySem.W.Frag):List (Addr×TS) ->Addr ->TS
 | [],_=>λ_ _ _=>False
 | (D,ts)::r,C=>λE σ H=> ∃b,cM (PySem.W.kitOne K (.ref C) (.ref D)=some b) (b=true ->ts E σ H) (b=false ->p6 K r C E σ H)
theorem IK {K:PySem.W.Frag}{M:Model}{h:Heap}{C D e:Addr}{b:Bool}{oe:Obj}(X:K.In h)(kD:Ry K D)(pL:C≠D)(he:h.get? e=some oe)(hc:oe.cls= .ref C)(hk:PySem.W.kitOne K (.ref C) (.ref D)=some b): PySem.W.Looks M h (excMatches (.ref e) (.ref D)) b:=by
 refine PySem.W.exm_one (cls:= .ref C) X (MU he hc) ?_;have e1:(PySem.W.subIn K (.ref D) (.type "BaseException")==some true)=true:=by show(PySem.W.mroIn K D (.type "BaseException")==some true)=true;rw[kD.mb];rfl
 unfold PySem.W.exmOne;rw[ak e1];unfold PySem.W.kitOne at hk;rwa [aj (λz=>pL (Value.ref.inj (beq_iff_eq.mp z)))] at hk
section
variable {X:Cx}{ae:List (Addr×Obj)}{σ:St}{s':Shared}
theorem oO {E0:XK}{ev:Value}{H1:Hp}{s1:Shared}{D:rA}{hs:List ExceptHandler}{al:List (Addr×TS)}(vp:X.stack=X.env::X.outer)(GV:X.env.frame=some X.env.locals) (I:Inv X ae σ H1 s1) (fl:gu X.prog X.w X.stack H1 s1 E0 ev s') (ph:vc X hs al) (k: ∀cls d H',E0 cls d H' -> ∃C,cls= .ref C /\ ∀ea,H' ea=none ->aT H1 (cq H' ea (.ext (fS ea C))) ->p6 X.K al C D σ (cq H' ea (.ext (fS ea C)))): wpAny (model X.prog X.w) X.A (noteFrame ev X.env) (λ_ s₂=>wpAny (model X.prog X.w) X.A (setFlight ev none) (λ_ s₃=>wpAny (model X.prog X.w) X.A (handleBy ev X.env hs) (SP X ae D) X.xe s₃) X.xe s₂) X.xe s':=by
 obtain⟨ea,cls,a0,B,H2,rfl,os,bare,fl,cF,s_,un,kb,kt,hE⟩:=fl;obtain⟨C,rfl,kk⟩:=k _ _ _ hE;refine wpAny_looks_onW (by rw[I.ok.frames,vp]) GV (vp▸fl) λh₄ QI up₄=> ?_;refine wpAny_landsW QI λh₅ S4 up₅=> ?_;rw[<- vp] at S4;obtain⟨I5,ts5⟩:=qz I os bare fl cF s_ un kb kt S4 (up₄.trans up₅) (tk:=s'.toks);obtain⟨ob,hob,Qx⟩:=S4.there;have lw:=kk ea s_ ts5;clear kk k;induction ph with
 | nil=>exact lw.elim
 | @cons x np Mv b₀ zX D' ts dh al' hg O hsu r tf ih=>
  obtain⟨b,hk,ht,hf⟩:=lw;have O':=Aw I.ok.mod O.ns O.exc;refine wpAny_handleBy_cons (codeAny_handlers_test (HP I5 hg O'.bound ?_ tf)) (by intro q;cases q);have good:b=true ->codeAny (model X.prog X.w) (X.A.mark (some (.ref ea))) (.handlers (.ref ea) [.ExceptHandler none none (b₀::zX) Mv] X.env) (λr s₂=>match r with
  | .ok f=>SP X ae D f s₂
  | .error x=>cameBackBy (model X.prog X.w) X.A X.env X.xe x s₂) {s' with heap:=h₅}:=λhb=>by
   refine codeAny_handlers_suite ?_
   refine PyProof.Rows.lands_againW S4 λh₆ fl₆ up₆=> ?_
   obtain⟨I6,ts⟩:=qz I os bare fl cF s_ un kb kt fl₆ ((up₄.trans up₅).trans up₆) (tk:=s'.toks)
   refine bp (hsu ea ae _ σ _ D (I6.om (.ref ea)) (ht hb)) (λf s8 h8=> ?_) λ_ _ z=>z.elim
   cases f with
   | next=>obtain⟨σ',H3,I8,q⟩:=h8;exact⟨_,_,I8.uF I.ok,q⟩
   | brk=>obtain⟨σ',H3,I8,q⟩:=h8;exact⟨_,_,I8.uF I.ok,q⟩
   | cont=>obtain⟨σ',H3,I8,q⟩:=h8;exact⟨_,_,I8.uF I.ok,q⟩
   | ret u=>obtain⟨v,σ',H3,I8,r,q⟩:=h8;exact⟨v,_,_,I8.uF I.ok,r,q⟩
  by_cases hCD:C=D';subst hCD;have hb:b=true:=by unfold PySem.W.kitOne at hk;rw[ak (beq_self_eq_true _)] at hk;exact(a8 hk).symm
  obtain⟨bm,N,nm,qn,bs,hdct,sn,sub,ab,col,dd,k0,k1,k2,k3,k5,mN,hC,Ky,Qz,TL⟩:=(O'.keeps I5.bk).obj;refine wpAny_excMatches_sub_self hC hob Qx (TL.hasType (by decide+kernel)) ?_;exact good hb;refine(IK (M:=model X.prog X.w) I5.kT O.k hCD hob Qx hk).here ?_;cases b with
  | true=>exact good rfl
  | false=>exact ih (hf rfl)
end
section
variable {X:Cx}
def JG (K:PySem.W.Frag)(sp:Sp)(iy:Nat)(ta:TA)(al:List (Addr×TS)):TS:=λD σ H=>ta σ H λvs H1=>sp (vs++ []) H1 (λv H2=>D.nx (σ.set iy (some v)) H2) λcls _ H'=> ∃C,cls= .ref C /\ ∀ea,H' ea=none ->aT H1 (cq H' ea (.ext (fS ea C))) ->p6 K al C D σ (cq H' ea (.ext (fS ea C)))
theorem Ho {k:Nat}{f:Addr}{fd:FuncData}{ps:List Str}{sp:Sp}{fx y:Str}{p yp c9 db pos:Pos}{e₀:Expr}{es:List Expr}{ta:TA}{iy:Nat}{h₀:ExceptHandler}{hs:List ExceptHandler}{al:List (Addr×TS)}{st:Stmt} (vp:X.stack=X.env::X.outer) (GV:X.env.frame=some X.env.locals) (C:gP X.K X.mg fx ps st f fd) (F:bx X.prog X.w X.K X.mg X.base (gu X.prog X.w) k f fd ps sp) (hr:dG k X.A) (hgf:Gl X fx) (ha:PA X.GJ (e₀::es) ta) (hN:X.N.Nodup) (hiy:X.N[iy]? =some y) (hy:X.env.kindOf y=some .local) (ph:vc X (h₀::hs) al) (fA:swapsWith (.Call (.Name fx p) (e₀::es) [] c9) (some (.Name y yp)) db.line X.env=pure false:=by rfl) (MJ:(fx==("__debug__" :Str))=false:=by decide) (he:starEach (e₀::es) X.env=(false,eval e₀ X.env)::starEach es X.env:=by rfl) (mS:(backTo c9 (starEach es X.env)).any (·.1)=false:=by rfl): PS X (.Try [.Assign [.Name y yp] (.Call (.Name fx p) (e₀::es) [] c9) db] (h₀::hs) [] [] pos) (JG X.K sp iy ta al):=by
 intro ae s σ H D I h;refine wpAny_Try_except (wpAny_execs_cons (wpAny_Assign_Name (wpAny_Call_Name_kw (lW I hgf C.at_ ?_ MJ)) fA));refine PySem.W.callWith_K (h₀:=X.base) I.ok.mod.Kn C.fn.kp (bp (ha c9 ae s σ H _ (I.mU _) h) (λus s1 ⟨vs,H1,I1,r,q⟩=>⟨I1.kT,?_⟩) λ_ _ z=>z.elim) he mS;have I1:=I1.f';have r2:bY (vs++ []) (us++ []):=r.append .nil;have hl:(us++ []).length=ps.length:=by rw[<- r2.length];exact F.len _ _ _ _ q
 refine wpAny_call (codeAny_mono (F.run X.A X.stack s1 H1 ⟨us,[]⟩ (us++ []) (vs++ []) _ _ hr I1.IL (C.bd s1 us I1.kT hl) r2 q) λr s2 hq=> ?_);cases r with
 | error ev=>have Vy:gu X.prog X.w X.stack H1 s1 (λcls _ H'=> ∃C,cls= .ref C /\ ∀ea,H' ea=none ->aT H1 (cq H' ea (.ext (fS ea C))) ->p6 X.K al C D σ (cq H' ea (.ext (fS ea C)))) ev s2:=hq;exact oO vp GV I1 Vy ph λcls d H' z=>z
 | ok fl=>
  cases fl with
  | ret u=>obtain⟨v,H2,I2,r,q2⟩:=I1.after hq;exact lA I2 hN hiy (.inl hy) r (λs3 I3=>wpAny_execs_nil (wpAny_execs_nil ⟨_,_,I3,q2⟩)) (.inr hy)
  | next=>exact False.elim hq
  | brk=>exact False.elim hq
  | cont=>exact False.elim hq
def JF (K:PySem.W.Frag)(C:Addr)(m:Str)(sp:Sp)(te:TE)(ta:TA)(al:List (Addr×TS)):TS:=λD σ H=>te σ H λx H0=>dH λ(a dx:Addr) (fs:List (Str×V))=>eu (x= .ref a) (H0 a=some (.ins C dx fs)) (fs.lookup m=none) (ta σ H0 λvs H1=>sp (.ref a::(vs++ [])) H1 (λv H2=>D.nx σ H2) λcls _ H'=> ∃C,cls= .ref C /\ ∀ea,H' ea=none ->aT H1 (cq H' ea (.ext (fS ea C))) ->p6 K al C D σ (cq H' ea (.ext (fS ea C))))
theorem Hn {k:Nat}{f C:Addr}{fd:FuncData}{ps:List Str}{sp:Sp}{m qual:Str}{c9 db Q3 pos:Pos}{o e₀:Expr}{es:List Expr}{te:TE}{ta:TA}{h₀:ExceptHandler}{hs:List ExceptHandler}{al:List (Addr×TS)}{st:Stmt}{pl:Sem Bool} (vp:X.stack=X.env::X.outer) (GV:X.env.frame=some X.env.locals) (M:mO X.K m qual ps st C f fd) (F:bx X.prog X.w X.K X.mg X.base (gu X.prog X.w) k f fd ps sp) (hr:dG k X.A) (ho:PE X.GJ o te) (ha:PA X.GJ (e₀::es) ta) (ph:vc X (h₀::hs) al) (he:starEach (e₀::es) X.env=(false,eval e₀ X.env)::starEach es X.env:=by rfl) (mS:(backTo c9 (starEach es X.env)).any (·.1)=false:=by rfl) (ht:eval (.Call (.Attribute o m db) (e₀::es) [] c9) X.env=(do
   let ov <- eval o X.env
   standAt db.atName
   let (f,first) <- holding [ov] (getMethod ov m pl)
   callWith c9 f first (backTo c9 (starEach (e₀::es) X.env)) (backToKw c9 (keywordEach [] X.env))):=by rfl)
  (Vs:swapsWith (.Call (.Attribute o m db) (e₀::es) [] c9) none Q3.line X.env=pure false:=by rfl):
  PS X (.Try [.Expr (.Call (.Attribute o m db) (e₀::es) [] c9) Q3] (h₀::hs) [] [] pos) (JF X.K C m sp te ta al):=by
 intro ae s σ H D I h
 refine wpAny_Try_except (wpAny_execs_cons (wpAny_Expr_any ?_ I.quiet Vs))
 refine PySem.W.methodCall_KW (pl:=pl) (bp (ho ae s σ H _ (I.mU _) h) (λu s1 ⟨x,H0,I0,rx,a,dx,fs,ex,ea,l,q⟩=> ?_) λ_ _ z=>z.elim) ht
 subst ex
 obtain rfl:u=Value.ref a:=rx
 have I0:=I0.f'
 refine iI I0 ea M.cl M.NG l ?_
 refine PySem.W.callWith_K (first:= [.ref a]) (h₀:=X.base) I.ok.mod.Kn M.NG.kp (bp (ha c9 ae s1 σ H0 _ (I0.mU _) q) (λus s2 ⟨vs,H1,I1,r,q⟩=>⟨I1.kT,?_⟩) λ_ _ z=>z.elim) he mS
 have I1:=I1.f'
 have r2:bY (.ref a::(vs++ [])) (.ref a::us++ []):= .cons rfl (r.append .nil)
 have hl:(Value.ref a::us++ []).length=ps.length:=by rw[<- r2.length];exact F.len _ _ _ _ q
 refine wpAny_call (codeAny_mono (F.run X.A X.stack s2 H1 ⟨.ref a::us,[]⟩ (.ref a::us++ []) (.ref a::(vs++ [])) _ _ hr I1.IL (M.bd s2 (.ref a::us) I1.kT hl) r2 q) λr s3 hq=> ?_)
 cases r with
 | error ev=>have Vy:gu X.prog X.w X.stack H1 s2 (λcls _ H'=> ∃C,cls= .ref C /\ ∀ea,H' ea=none ->aT H1 (cq H' ea (.ext (fS ea C))) ->p6 X.K al C D σ (cq H' ea (.ext (fS ea C)))) ev s3:=hq;exact oO vp GV I1 Vy ph λcls d H' z=>z
 | ok fl=>
  cases fl with
  | ret u=>obtain⟨v,H2,I2,r,q2⟩:=I1.after hq;exact wpAny_execs_nil (wpAny_execs_nil ⟨_,_,I2,q2⟩)
  | next=>exact False.elim hq
  | brk=>exact False.elim hq
  | cont=>exact False.elim hq
end
section
variable {X:Cx}{k:Nat}{f C:Addr}{fd:FuncData}{ps:List Str}{sp:Sp}{E:XK}{m qual:Str}{st:Stmt}{pos db:Pos}{o e:Expr}{es:List Expr}{ta:TE}{t:TA}
theorem cA {pl:Sem Bool}(hP:fN (gu X.prog X.w) X E)(M:mO X.K m qual ps st C f fd)(F:bx X.prog X.w X.K X.mg X.base (gu X.prog X.w) k f fd ps sp)(hr:dG k X.A)(he:PE X o ta)(ha:PA X (e::es) t) (vp:starEach (e::es) X.env=(false,eval e X.env)::starEach es X.env:=by rfl) (mS:(backTo pos (starEach es X.env)).any (·.1)=false:=by rfl) (ht:eval (.Call (.Attribute o m db) (e::es) [] pos) X.env=(do
  let ov <- eval o X.env
  standAt db.atName
  let (f,first) <- holding [ov] (getMethod ov m pl)
  callWith pos f first (backTo pos (starEach (e::es) X.env)) (backToKw pos (keywordEach [] X.env))):=by rfl):
 PE X (.Call (.Attribute o m db) (e::es) [] pos) (nP C m sp [] E ta t):=As he M.cl M.NG F hr M.bd .nil hP ha vp mS ht
theorem sO {pl:Sem Bool}(hP:fN (gu X.prog X.w) X E)(M:mO X.K m qual ps st C f fd)(F:bx X.prog X.w X.K X.mg X.base (gu X.prog X.w) k f fd ps sp)(hr:dG k X.A)(he:PE X o ta) (ht:eval (.Call (.Attribute o m db) [] [] pos) X.env=(do
  let ov <- eval o X.env
  standAt db.atName
  let (f,first) <- holding [ov] (getMethod ov m pl)
  callWith pos f first (backTo pos (starEach [] X.env)) (backToKw pos (keywordEach [] X.env))):=by rfl):
 PE X (.Call (.Attribute o m db) [] [] pos) (nP C m sp [] E ta BC):=wq he M.cl M.NG F hr M.bd .nil hP ht
theorem bx.calm {P:Program}{w:World}{K:PySem.W.Frag}{mg:Str ->Option Value}{base:Heap}{sp O4:Sp}(F:bx P w K mg base (gu P w) k f fd ps sp)(h: ∀vs H Q E,O4 vs H Q E ->sp vs H Q E0):bx P w K mg base eE k f fd ps O4:=⟨λvs H Q E z=>F.len vs H Q _ (h vs H Q E z),λA outer s H args us vs Q E hr e0 hb hv z=>codeAny_mono (F.run A outer s H args us vs Q E0 hr e0 hb hv (h vs H Q E z)) λr s' hq=>by
 cases r with
 | error ev=>obtain⟨_,_,_,_,_,_,_,_,_,_,_,_,_,_,q⟩:=(show gu P w outer H s E0 ev s' from hq);exact q.elim
 | ok fl=>cases fl<;>exact hq⟩
end
end L2
namespace WL
open PySem L2
section
variable {K:PySem.W.Frag}
def J9:fg:=λ_ _ _ _=>False
theorem qi {P:Program}{w:World}{mg:Str ->Option Value}{base:Heap}{CX:xZ}{k:Nat}{f:Addr}{fd:FuncData}{ps:List Str}:bx P w K mg base CX k f fd ps (nQ K J9):=⟨λvs H Q E ⟨_,_,_,_,_,_,h,_⟩=>h.elim,λA outer s H args us vs Q E _ _ _ _ ⟨_,_,_,_,_,_,h,_⟩=>h.elim⟩
def O5 (p:fg):fh:=λxs M q=>p xs M q λ_ _=>False
theorem KL {P:Program}{w:World}{mg:Str ->Option Value}{base:Heap}{k:Nat}{f:Addr}{fd:FuncData}{ps:List Str}{p:fg}(F:bx P w K mg base (gu P w) k f fd ps (nQ K p)):bx P w K mg base eE k f fd ps (fj K (O5 p)):=F.calm λvs H Q E ⟨xs,M,q,r,m,h,k⟩=>⟨xs,M,q,_,r,m,h,k,λ_ _ _ z=>z.elim⟩
def yi (C:Addr)(m:Str)(p:fg)(e:WX)(a:WE)(b:WA):WE:=λρ M q=>a ρ M λx M1=>dH λ(o dx:Addr) (fs:List (Str×W))=>eu (x=wr o) (M1 o=some (.ins C dx fs)) (fs.lookup m=none) (b ρ M1 λxs M2=>p (x::xs) M2 q (up e))
instance {C:Addr}{m:Str}{p:fg}{e:WX}{t:TE}{u:TA}{a:WE}{b:WA} [ia:IE K t a] [ib:IA K u b]:IE K (nP C m (nQ K p) [] (Ex K e) t u) (yi C m p e a b) where
 imp :=λρ M σ H q Q o h k=>ia.imp ρ M σ H _ _ o h λx M1 v H1 ⟨ad,dx,fs,ex,hp,hl,h1⟩ t1 m1 r1=>by subst ex;obtain⟨ks,e,r⟩:=m1 ad _ hp;refine⟨ad,dx,ks,r1.eq,e,l4 r hl,ib.imp ρ M1 σ H1 _ _ (o.mv t1 m1) h1 λxs M2 vs H2 h2 t2 m2 r2=> ?_⟩;refine⟨wr ad::xs,M2,q,_,cy.cons (r1.ts t2) (by rw[c4];exact r2),m2,h2,?_,?_⟩;intro y M' u H' hq ts m' r';exact k _ _ _ _ hq ((t1.trans t2).trans ts) m' r';rintro C M' H' ⟨M0,s,h⟩ m;exact⟨C,M0,rfl,h,m.sub s⟩
def tS (p:fg)(xs:List W)(M:Mp)(q:WK)(e:WX):Prop:=p xs M q e
theorem Oe {C:Addr}{m:Str}{p:fg}{e:WX}{a:WE}{b:WA}{ρ:cS}{M:Mp}{q:WK}:yi C m p e a b ρ M q=a ρ M λx M1=>dZ x λo=>qB (M1 o) λC' _ fs=>dD (C'=C /\ fs.lookup m=none) (b ρ M1 λxs M2=>tS p (x::xs) M2 q (up e)):=by unfold yi dZ qB dD tS;congr 1;funext x M1;apply propext;constructor;rintro⟨o,dx,fs,e1,e2,e3,h⟩;exact⟨o,e1,C,dx,fs,e2,⟨rfl,e3⟩,h⟩;rintro⟨o,e1,C',dx,fs,e2,⟨rfl,e3⟩,h⟩;exact⟨o,dx,fs,e1,e2,e3,h⟩
theorem Ox {p:fg}{e:WX}{a:WA}{ρ:cS}{M:Mp}{q:WK}:DF p e a ρ M q=a ρ M λxs M1=>tS p xs M1 q (up e):=rfl
theorem N_ {C:Addr}{e:WX}{a:WA}{D:eZ}{ρ:cS}{M:Mp}:Dy C e a D ρ M=a ρ M λxs M'=>dD (xs.length<=sizeLine) (up e C M'):=rfl
def kM (K:PySem.W.Frag):List (Addr×WS) ->Addr ->WS
 | [],_=>λ_ _ _=>False
 | (D,s)::r,C=>λE ρ M=> ∃b,cM (PySem.W.kitOne K (.ref C) (.ref D)=some b) (b=true ->s E ρ M) (b=false ->kM K r C E ρ M)
class Rv (K:PySem.W.Frag) (t:List (Addr×TS)) (w:outParam (List (Addr×WS))):Prop where
 imp: ∀ (C:Addr) (ρ:cS) (M:Mp) (σ:L2.St) (H:Hp) (D':eZ) (D:rA),Ok K ρ M σ H ->kM K w C D' ρ M ->kg K H D' D ->p6 K t C D σ H
instance:Rv K [] [] where
 imp:=λ_ _ _ _ _ _ _ _ h _=>h.elim
instance {D:Addr}{t:TS}{s:WS}{r:List (Addr×TS)}{r':List (Addr×WS)} [is:IS K t s] [ir:Rv K r r']:Rv K ((D,t)::r) ((D,s)::r') where
 imp:=λC ρ M σ H D' D o ⟨b,hk,h1,h2⟩ e=>⟨b,hk,λhb=>is.imp ρ M σ H D' D o (h1 hb) e,λhb=>ir.imp C ρ M σ H D' D o (h2 hb) e⟩
theorem KQ {D C:Addr}{s:WS}{r:List (Addr×WS)}{E:eZ}{ρ:cS}{M:Mp}(hk:PySem.W.kitOne K (.ref C) (.ref D)=some true)(h:s E ρ M):kM K ((D,s)::r) C E ρ M:=⟨true, .mk hk (λ_=>h) λz=>nomatch z⟩
theorem gq {D C:Addr}{s:WS}{r:List (Addr×WS)}{E:eZ}{ρ:cS}{M:Mp}(hk:PySem.W.kitOne K (.ref C) (.ref D)=some false)(h:kM K r C E ρ M):kM K ((D,s)::r) C E ρ M:=⟨false, .mk hk (λz=>nomatch z) λ_=>h⟩
theorem xI {C:Addr}{s:WS}{r:List (Addr×WS)}{E:eZ}{ρ:cS}{M:Mp}(h:s E ρ M):kM K ((C,s)::r) C E ρ M:=KQ (by unfold PySem.W.kitOne;rw[ak (beq_self_eq_true _)]) h
theorem kg.of {H H1 H2:Hp}{D':eZ}{D:rA}(e:kg K H D' D)(t1:aT H H1)(t2:aT H1 H2):kg K H2 D' D:=(e.mv t1).mv t2
def Jp (K:PySem.W.Frag)(p:fg)(iy:Nat)(a:WA)(al:List (Addr×WS)):WS:=λD ρ M=>a ρ M λxs M1=>p xs M1 (λx M2=>D.nx (ρ.set iy (some x)) M2) λC M'=> ∀ea,M' ea=none ->kM K al C D ρ (um M' ea (.exc C))
instance {p:fg}{iy:Nat}{t:TA}{a:WA}{al:List (Addr×TS)}{wl:List (Addr×WS)} [ia:IA K t a] [il:Rv K al wl]:IS K (JG K (nQ K p) iy t al) (Jp K p iy a wl) where
 imp:=λρ M σ H D' D o h CD=>ia.imp ρ M σ H _ _ o h λx M1 v H1 h1 t1 m1 r1=>⟨x,M1,_,_,by rw[c4];exact r1,m1,h1,λy M4 v4 H4 h4 t4 m4 r4=>CD.nx _ _ _ _ h4 (t1.trans t4) ⟨(o.env.ts (t1.trans t4)).set iy r4,m4⟩,λC M' H' h2 m=>⟨C,rfl,λea s_ OD=>il.imp C _ (um M' ea (.exc C)) _ _ D' D ⟨o.env.ts (t1.trans OD),m.put (L2.fi.ts (bV s_)) bI⟩ (h2 ea (m.fresh s_)) (CD.of t1 OD)⟩⟩
def Du (K:PySem.W.Frag)(C:Addr)(m:Str)(p:fg)(a:WE)(b:WA)(al:List (Addr×WS)):WS:=λD ρ M=>a ρ M λx M0=>dH λ(o dx:Addr) (fs:List (Str×W))=>eu (x=wr o) (M0 o=some (.ins C dx fs)) (fs.lookup m=none) (b ρ M0 λxs M1=>p (x::xs) M1 (λ_ M2=>D.nx ρ M2) λC M'=> ∀ea,M' ea=none ->kM K al C D ρ (um M' ea (.exc C)))
instance {C:Addr}{m:Str}{p:fg}{t:TE}{u:TA}{a:WE}{b:WA}{al:List (Addr×TS)}{wl:List (Addr×WS)} [ia:IE K t a] [ib:IA K u b] [il:Rv K al wl]:IS K (JF K C m (nQ K p) t u al) (Du K C m p a b wl) where
 imp :=λρ M σ H D' D o h CD=>ia.imp ρ M σ H _ _ o h λx M1 v H1 ⟨ad,dx,fs,ex,hp,hl,h1⟩ t1 m1 r1=>by subst ex;obtain⟨ks,e,r⟩:=m1 ad _ hp;refine⟨ad,dx,ks,r1.eq,e,l4 r hl,ib.imp ρ M1 σ H1 _ _ (o.mv t1 m1) h1 λxs M2 vs H2 h2 t2 m2 r2=> ?_⟩;have Sf:=t1.trans t2;exact⟨wr ad::xs,M2,_,_,cy.cons WR.v (by rw[c4];exact r2),m2,h2,λy M4 v4 H4 h4 t4 m4 r4=>CD.nx _ _ _ _ h4 (Sf.trans t4) ⟨o.env.ts (Sf.trans t4),m4⟩,λC M' H' h2 m=>⟨C,rfl,λea s_ OD=>il.imp C _ (um M' ea (.exc C)) _ _ D' D ⟨o.env.ts (Sf.trans OD),m.put (L2.fi.ts (bV s_)) bI⟩ (h2 ea (m.fresh s_)) (CD.of Sf OD)⟩⟩
theorem RO {p:fg}{iy:Nat}{a:WA}{al:List (Addr×WS)}{D:eZ}{ρ:cS}{M:Mp}:Jp K p iy a al D ρ M=a ρ M λxs M1=>tS p xs M1 (λx M2=>D.nx (ρ.set iy (some x)) M2) λC M'=> ∀ea,M' ea=none ->kM K al C D ρ (um M' ea (.exc C)):=rfl
theorem RN {C:Addr}{m:Str}{p:fg}{a:WE}{b:WA}{al:List (Addr×WS)}{D:eZ}{ρ:cS}{M:Mp}:Du K C m p a b al D ρ M=a ρ M λx M0=>dZ x λo=>qB (M0 o) λC' _ fs=>dD (C'=C /\ fs.lookup m=none) (b ρ M0 λxs M1=>tS p (x::xs) M1 (λ_ M2=>D.nx ρ M2) λC M'=> ∀ea,M' ea=none ->kM K al C D ρ (um M' ea (.exc C))):=by unfold Du dZ qB dD tS;congr 1;funext x M1;apply propext;constructor;rintro⟨o,dx,fs,e1,e2,e3,h⟩;exact⟨o,e1,C,dx,fs,e2,⟨rfl,e3⟩,h⟩;rintro⟨o,e1,C',dx,fs,e2,⟨rfl,e3⟩,h⟩;exact⟨o,dx,fs,e1,e2,e3,h⟩
end
end WL
namespace L2
open PySem PySem.Spec PyProof.Rows
section
variable {X:Cx}{tg:Expr}
def Pf:V ->Option Int ->Option Int ->Hp ->VK ->Prop:=λx lo hi H Q=> ∃z:Str,cM (x= .str z) (z.length<=sizeLine) (Q (.str (Txt.slice z lo hi)) H)
theorem Ec:SlR X Pf:=by
 intro ae s σ H x v vl vu lo hi sl Q I rx hs pl pu h;obtain⟨z,rfl,hz,q⟩:=h;obtain⟨t,rfl⟩:=rx;refine⟨"str",_,F.slot_str_getitem.lookup,typeIs_str _ _ _,?_⟩;have fin: ∀t' k,EP X ae σ Q (.str (Txt.slice z lo hi) t') {s with toks:=k}:=λt' k=>⟨.str (Txt.slice z lo hi),H,I.tok _,⟨_,rfl⟩,q⟩
 cases pl with
 | none=>
  cases pu with
  | none=>exact wpAny_getItem_str_slice (l:=none) (u:=none) (st:=none) hs rfl (post_val_or_str ⟨av (Txt.slice_le z _ _) hz,fin⟩)
  | int j tj=>exact wpAny_getItem_str_slice (l:=none) (u:=some (j,tj)) (st:=none) hs rfl (post_val_or_str ⟨av (Txt.slice_le z _ _) hz,fin⟩)
 | int i ti=>
  cases pu with
  | none=>exact wpAny_getItem_str_slice (l:=some (i,ti)) (u:=none) (st:=none) hs rfl (post_val_or_str ⟨av (Txt.slice_le z _ _) hz,fin⟩)
  | int j tj=>exact wpAny_getItem_str_slice (l:=some (i,ti)) (u:=some (j,tj)) (st:=none) hs rfl (post_val_or_str ⟨av (Txt.slice_le z _ _) hz,fin⟩)
def f_ (z:Str)(n:Nat):Str:=if n=0 then Str.empty else if n=1 \/ z.length=0 then z else⟨(List.replicate n z.cps).foldl (· ++ ·) #[]⟩
theorem Ac (z:Str)(n:Nat):(⟨(List.replicate n z.cps).foldl (· ++ ·) #[]⟩:Str).length=n*z.length:=by
 have: ∀ (n:Nat) (a:Array Nat),((List.replicate n z.cps).foldl (· ++ ·) a).size=a.size+n*z.cps.size:=by
  intro n;induction n with
  | zero=>intro a;simp
  | succ n ih=>intro a;rw[List.replicate_succ,List.foldl_cons,ih,Array.size_append,Nat.succ_mul];omega
 show((List.replicate n z.cps).foldl (· ++ ·) #[]).size=n*z.cps.size;rw[this];simp
def J0:R2:=λx y H Q=>ca λ(z:Str) (n:Nat)=>fo (x= .str z) (y= .int n) (n<=1000) (z.length<=1000) (Q (.str (f_ z n)) H)
theorem HD:gO X (binaryOp .Mult) J0:=by
 intro ae s σ H x y v u Q I rx ry h;obtain⟨z,n,rfl,rfl,hn,hz,q⟩:=h;obtain⟨t,rfl⟩:=rx;obtain⟨t',rfl⟩:=ry;have hs:z.length*n<=sizeLine:=av (Nat.mul_le_mul hz hn) (by rw[sizeLine_eq];decide);refine PySem.P.mul_str ?_ (λ_ _=> ?_) (λ_ _=> ?_) ?_;have e1:decide ((n:Int) < -(2 ^ 63:Int))=false:=aQ (by omega);have e2:decide ((n:Int)≥2 ^ 63)=false:=aQ (by omega);rw[e1,e2];rfl;intro h;have h1:(2 ^ 63 - 1:Int) / 1000<=(2 ^ 63 - 1) / n:=by rw[Int.le_ediv_iff_mul_le (by omega)];have:((2 ^ 63 - 1:Int) / 1000)*n<=((2 ^ 63 - 1:Int) / 1000)*1000:=Int.mul_le_mul_of_nonneg_left (by omega) (by decide);omega
 omega;unfold Builtin.Str.tooLong;rw[decide_eq_false_iff_not];have:(n:Int).toNat=n:=rfl;rw[this];omega;unfold f_ at q;by_cases h0:n=0;subst h0;rw[ak rfl] at q;rw[ak (by decide)];exact⟨by decide,⟨.str _,H,I.tok _,⟨_,rfl⟩,q⟩⟩;rw [aj h0] at q;rw[aj (by omega)];by_cases h1:n=1 \/ z.length=0;rw[ak h1] at q;rw[ak (by rcases h1 with h | h<;>simp[h])];exact⟨.str z,H,I,⟨t,rfl⟩,q⟩;rw[aj h1] at q;rw[aj (by intro c;rw[Bool.or_eq_true,beq_iff_eq,beq_iff_eq] at c;exact h1 (c.imp (by omega) id))];have e:(n:Int).toNat=n:=rfl;rw[e];refine⟨?_,⟨.str _,H,I.tok _,⟨_,rfl⟩,q⟩⟩;rw[Ac];rw[Nat.mul_comm];exact hs
def ItS (z:Str):It:=⟨λi _=>i<z.cps.size,λi H x H'=>H'=H /\ ∃c,z.cps[i]? =some c /\ x= .str ⟨#[c]⟩,λi _=>z.cps.size<=i⟩
theorem DL {P:Program}{w:World}{K:PySem.W.Frag}{tg:Expr}(z:Str)(t:Tok)(it:Addr):vb P w K tg (ItS z) [it] it (λi h=>h.IsStrIter it "str_ascii_iterator" z t i) where
 mem:=by simp
 obj:=λi h st b hb=>by have e:b=it:= ⇑hb;subst e;obtain⟨o,e,c,d⟩:=st;exact⟨o,e,λv z=>by rw[d] at z;cases z⟩
 keep:=λi h h' ⟨o,ho,r⟩ k=>⟨o,k it (by simp) o ho,r⟩
 item:=by intro X hP hw hK hc i ae s σ H E I hf st hg;subst hP hw hK;obtain⟨f0,f1,f2,f3,f4,f5⟩:=hf it (by simp);have hg:i<z.cps.size:=hg;refine wpAny_pyNext_ascii_item st (c:=z.cps[i]) (by simp[hg]) λh' bw sb=> ?_;have I1:Inv X ae σ H {s with heap:=h',toks:=s.toks+1}:=I.turned (t':=s.toks+1) (λb o hb e=>(sb.2 b hb).trans e) f0 f1 f3 f4 f5;obtain⟨o,e,c,d⟩:=id bw;exact⟨_,rfl,tq (s:= {s with heap:=h',toks:=s.toks+1}) e c d (by decide) ⟨.str ⟨#[z.cps[i]]⟩,H,I1,⟨_,rfl⟩,⟨rfl,_,by simp[hg],rfl⟩,bw,λb hb=>(hf b hb).1⟩⟩
 done:=by intro X hP hw hK hc i ae s σ H E I hf st hg;subst hP hw hK;obtain⟨f0,f1,f2,f3,f4,f5⟩:=hf it (by simp);have hg:z.cps.size<=i:=hg;exact wpAny_pyNext_ascii_end (I.ok.hd hc) st (by simp[hg]) λh' eb=>⟨rfl,I.turned (t':=s.toks) (λb o hb e=>eb b o hb e) f0 f1 f3 f4 f5⟩
 self:=λ_ _ _ _ _ st h=>wpAny_pyIter_striter_ascii st h
def Qm (tl:TE):TI:=λσ H R=>tl σ H λx H1=> ∃z:Str,cM (x= .str z) (z.cps.all (· <128)=true) (R (ItS z) H1)
theorem Ey {l:Expr}{tl:TE}(hl:PE X l tl):PI X tg l (Qm tl):=by intro ae s σ H R I h;refine cz (hl ae s σ H _ I h) λv s1 ⟨x,H1,I1,r1,q1⟩=> ?_;obtain⟨z,e,ha,q⟩:=q1;subst e;obtain⟨t,rfl⟩:=r1;refine wpAny_pyIter_ascii ha ?_;refine⟨s1.heap.objs.size,[s1.heap.objs.size],_,_,H1,rfl,I1.kept (t':=s1.toks) λb o e=>aq _ e,DL z t _,⟨_,aM _ rfl,rfl,rfl⟩,λb hb=> ?_,q⟩;have e:b=s1.heap.objs.size:= ⇑hb;subst e;exact I1.zf (ao _) (I1.cF.fresh (ao _))
def J1:List V ->Hp ->VK ->Prop:=λxs H Q=> ∃z,cM (xs= [.str z]) (z.length<=sizeLine) (Q (.int z.length) H)
theorem nH:eN X (.builtin "len") J1:=u8
def yb (i j:Str):Bool:= !(Builtin.Str.occurrences j i 0 j.length 1).isEmpty
def Pj:R2:=λx y H Q=>ca λi j=>cM (x= .str i) (y= .str j) (Q (.bl (yb i j)) H)
def Ae:R2:=λx y H Q=>ca λi j=>cM (x= .str i) (y= .str j) (Q (.bl (!yb i j)) H)
theorem LX:gO X (compareOp .In) Pj:=BR
theorem BQ:gO X (compareOp .NotIn) Ae:=uI
end
end L2
namespace WL
open PySem L2
section
variable {K:PySem.W.Frag}
def Oh:oR:=λx y M q=>dH λz i c=>fo (x=ws z) (y=wi i) (z.length<=sizeLine) (ix z.cps.toList i=some c) (q (ws ⟨#[c]⟩) M)
instance:IR K Ph Oh where
 imp:=by rintro x y v u M H q Q m r1 r2 ⟨z,i,c,rfl,rfl,hz,e,h⟩ k;cases r1.eq;cases r2.eq;exact⟨z,i,c,rfl,rfl,hz,e,k _ M _ H h (aT.refl H) m WR.v⟩
theorem TQ {z:Str}{i:Int}{M:Mp}{q:WK}:Oh (.v (.str z)) (.v (.int i)) M q=dD (z.length<=sizeLine) (lR (ix z.cps.toList i) λc=>q (ws ⟨#[c]⟩) M):=by apply propext;constructor;rintro⟨_,_,c,h1,h2,h3,h4,k⟩;cases h1;cases h2;exact⟨h3,c,h4,k⟩;rintro⟨h3,c,h4,k⟩;exact⟨_,_,c,rfl,rfl,h3,h4,k⟩
def N8:Ri:=λx lo hi M q=> ∃z:Str,cM (x=ws z) (z.length<=sizeLine) (q (ws (Txt.slice z lo hi)) M)
instance:ISl K Pf N8 where
 imp:=by rintro x v lo hi M H q Q m r1 ⟨z,rfl,hz,h⟩ k;cases r1.eq;exact⟨z,rfl,hz,k _ M _ H h (aT.refl H) m WR.v⟩
theorem Tz {z:Str}{lo hi:Option Int}{M:Mp}{q:WK}:N8 (.v (.str z)) lo hi M q=dD (z.length<=sizeLine) (q (ws (Txt.slice z lo hi)) M):=by apply propext;constructor;rintro⟨_,h1,h3,k⟩;cases h1;exact⟨h3,k⟩;rintro⟨h3,k⟩;exact⟨_,rfl,h3,k⟩
def N9:oR:=λx y M q=>ca λ(z:Str) (n:Nat)=>fo (x=ws z) (y=wi n) (n<=1000) (z.length<=1000) (q (ws (f_ z n)) M)
instance:IR K J0 N9 where
 imp:=by rintro x y v u M H q Q m r1 r2 ⟨z,n,rfl,rfl,hn,hz,h⟩ k;cases r1.eq;cases r2.eq;exact⟨z,n,rfl,rfl,hn,hz,k _ M _ H h (aT.refl H) m WR.v⟩
def Ol:oR:=λx y M q=>ca λi j=>cM (x=ws i) (y=ws j) (q (wb (yb i j)) M)
def zM:oR:=λx y M q=>ca λi j=>cM (x=ws i) (y=ws j) (q (wb (!yb i j)) M)
instance:IR K Pj Ol where
 imp:=by rintro x y v u M H q Q m r1 r2 ⟨i,j,rfl,rfl,h⟩ k;cases r1.eq;cases r2.eq;exact⟨i,j,rfl,rfl,k _ M _ H h (aT.refl H) m WR.v⟩
instance:IR K Ae zM where
 imp:=by rintro x y v u M H q Q m r1 r2 ⟨i,j,rfl,rfl,h⟩ k;cases r1.eq;cases r2.eq;exact⟨i,j,rfl,rfl,k _ M _ H h (aT.refl H) m WR.v⟩
theorem TV {i j:Str}{M:Mp}{q:WK}:Ol (.v (.str i)) (.v (.str j)) M q=q (wb (yb i j)) M:=by apply propext;constructor;rintro⟨_,_,h1,h2,k⟩;cases h1;cases h2;exact k;intro k;exact⟨_,_,rfl,rfl,k⟩
theorem Nr {i j:Str}{M:Mp}{q:WK}:zM (.v (.str i)) (.v (.str j)) M q=q (wb (!yb i j)) M:=by apply propext;constructor;rintro⟨_,_,h1,h2,k⟩;cases h1;cases h2;exact k;intro k;exact⟨_,_,rfl,rfl,k⟩
def Ju:zr:=λxs M q=> ∃z,cM (xs= [ws z]) (z.length<=sizeLine) (q (wi z.length) M)
instance:IC K J1 Ju where
 imp:=by rintro xs v M H q Q m r1 ⟨z,rfl,hz,h⟩ k;obtain⟨v,rfl,r⟩:=r1.one;cases r.eq;exact⟨z,rfl,hz,k _ M _ H h (aT.refl H) m WR.v⟩
theorem RV {z:Str}{M:Mp}{q:WK}:Ju [.v (.str z)] M q=dD (z.length<=sizeLine) (q (wi z.length) M):=by apply propext;constructor;rintro⟨_,h1,h3,k⟩;cases h1;exact⟨h3,k⟩;rintro⟨h3,k⟩;exact⟨_,rfl,h3,k⟩
def ya (z:Str):List Str:=z.cps.toList.map λc=>⟨#[c]⟩
def Mj (a:WE):WI:=λρ M q=>a ρ M λx M1=> ∃z:Str,cM (x=ws z) (z.cps.all (· <128)=true) (q ((ya z).map ws) (λ_=>True) M1)
theorem Fi {H1:Hp}{z:Str}:zw K H1 (ItS z) ((ya z).map ws) (λ_=>True):=by
 intro i M H ts m _;have hl:((ya z).map ws).length=z.cps.size:=by unfold ya;simp
 refine⟨λh=>by show z.cps.size<=i;omega,λh=>by show i<z.cps.size;omega,λv H' hi y=> ?_⟩;obtain⟨rfl,c,hc,rfl⟩:=y;refine⟨aT.refl _,m,ws ⟨#[c]⟩,?_,WR.v⟩;unfold ya;rw[aY,aG,Array.getElem?_toList,hc];rfl
instance {t:TE}{a:WE} [ia:IE K t a]:II K (Qm t) (Mj a) where
 imp:=λρ M σ H q R o h k=>ia.imp ρ M σ H _ _ o h λx M1 v H1 ⟨z,e,ha,h1⟩ t1 m1 r1=>by subst e;exact⟨z,r1.eq,ha,k _ _ _ M1 H1 h1 t1 m1 Fi⟩
theorem Vc {a:WE}{ρ:cS}{M:Mp}{q:List W ->(Mp ->Prop) ->Mp ->Prop}:Mj a ρ M q=a ρ M λx M1=>ue x λz=>dD (z.cps.all (· <128)=true) (q ((ya z).map ws) (λ_=>True) M1):=by unfold Mj ue dD;congr 1;funext x M1;exact propext ⟨λ⟨i,a,b,c⟩=>⟨i,a,b,c⟩,λ⟨i,a,b,c⟩=>⟨i,a,b,c⟩⟩
end
end WL
namespace TS
open PySem PyProof.Rows
def qw (x y:Keyed):Bool:=decide ((strOf x.1).cps.toList< (strOf y.1).cps.toList)
theorem UO:Ord qw:=by refine⟨λx y h=> ?_,λx y z h1 h2=> ?_⟩;unfold qw at*;rw[cU] at h;exact aQ λh'=>List.lt_irrefl _ (List.lt_trans h h');unfold LE qw at*;rw[decide_eq_false_iff_not] at*;exact λh=>(List.le_trans (List.not_lt.mp h1) (List.not_lt.mp h2)) h
section
variable {prog:Program}{w:World}{A:Around}{E:Value ->Shared ->Prop}{s:Shared}
theorem ltS {vs:List Value}(h0: ∀v,v∈vs -> ∃x t,v= .str x t):gt prog w A E s oneType' (pairsOf vs) qw:=by
 intro x y st Q hx hy hk hq;have hm: ∀p:Keyed,p∈(pairsOf vs).toList -> ∃a t,p.1= .str a t:=λp hp=>by rw[pairsOf_toList] at hp;exact h0 _ (mem_zip_self hp).2
 obtain⟨n,t,e1⟩:=hm x hx;obtain⟨m,u,e2⟩:=hm y hy;rw[lt'_eq];refine ap (wpS_get ?_);rw[hk,keyLt'_oneType,e1,e2];refine ap (wpS_lift (wpAny_attempt (oneLt_str ⟨rfl,?_⟩)));have e:qw x y=decide (n.cps.toList<m.cps.toList):=by unfold qw;rw[e1,e2];rfl
 rw[e] at hq;exact ax hq
theorem BG {a:Addr}{vs:List Value}{ss:List Str}{n:Nat}{P:Fin ->Shared ->Prop}(ho:s.heap.get? a=some (seqObj "list" vs.toArray n)) (hI:StrsAre vs ss) (hsz:vs.length<=sizeLine) (h: ∀ (out:Array Value) (Uw:List Str),StrsAre out.toList Uw ->Uw.Perm ss ->Uw.Pairwise (λx y=>¬y.cps.toList<x.cps.toList) ->P (.done (.ret .none)) {s with heap:=sortedHeap s.heap a vs out}): wpAny (model prog w) A (Builtin.«list.sort» ⟨[.ref a],[]⟩) P E s:=by
 refine vP UO ho hsz (kd:=oneType') (λh2 Q hq=> ?_) (ltS hI.all) λus hp hs=> ?_;obtain⟨v₁,v₂,dh,rfl⟩:dH λv₁ v₂ dh=>vs=v₁::v₂::dh:=by
  match vs,h2 with
  | [],h2=>simp at h2
  | [_],h2=>simp at h2
  | v₁::v₂::dh,_=>exact⟨v₁,v₂,dh,rfl⟩
 rw[keyKind_strs hI];exact aR hq;have Fx: ∀v,v∈us -> ∃x t,v= .str x t:=λv hv=>hI.all v (hp.mem_iff.mp hv);refine h us.toArray (us.map strOf) ⇑(strsAre_map us Fx) ?_ ?_;have:=hp.map strOf;rwa [hI.strs] at this;rw[List.pairwise_map];refine hs.imp λ{x y} e=> ?_;unfold qw at e;rw[decide_eq_false_iff_not] at e;exact e
end
end TS
namespace L2
open PySem PySem.Spec PyProof.Rows
theorem zY: ∀ {ks:List Str} {vs:List Value},vs.length=ks.length ->(∀ (j:Nat) (v:Value),vs[j]? =some v ->ca λ(k:Str) (t:Tok)=>ks[j]? =some k /\ v= .str k t) ->StrsAre vs ks
 | [],[],_,_=> .nil
 | [],_::_,h,_=>by simp at h
 | _::_,[],h,_=>by simp at h
 | k::ks,v::vs,h,hv=>by obtain⟨k',t,e1,e2⟩:=hv 0 v rfl;simp at e1;subst e1 e2;exact .cons k t (zY ⇑h λj u e=> ⇑(hv (j+1) u ⇑e))
theorem lx: ∀ {ks:List Str} {vs:List Value},StrsAre vs ks ->bY (ks.map V.str) vs
 | _,_, .nil=> .nil
 | _,_, .cons x t r=> .cons ⟨t,rfl⟩ (lx r)
section
variable {X:Cx}{tg o e:Expr}{td ty:TE}{db c9:Pos}
def we:List V ->Hp ->VK ->Prop:=λxs H Q=>dH λ(d:Addr) (kvs:List (b8×V)) (ks:List Str)=>fo (xs= [.ref d]) (H d=some (.dK kvs)) (kvs.map (·.1)=ks.map Sum.inr) (ks.length<=sizeLine) (∀ (p:Addr) (ns:List Str),H p=none ->ns.Perm ks ->ns.Pairwise (λx y=>¬y.cps.toList<x.cps.toList) ->Q (.ref p) (cq H p (.lst (ns.map V.str))))
theorem fY (hc:X.calm=true):eN X (.builtin "sorted") we:=by
 intro ae s σ H xs us Q I r h;obtain⟨d,kvs,ks,rfl,hd,hk,Iw,q⟩:=h;obtain⟨u,rfl,ru⟩:=vals1 r;cases ru;have hh:X.A.in1.handled=none:=I.ok.hd hc;obtain⟨hz,lo,vs,e7,dd⟩:=tJ I.cF hd;obtain⟨ep,V3⟩:=dd.dictAt;have dL:vs.length=ks.length:=by have e1:=congrArg List.length hk;rw[ag,ag] at e1;rw[<- e7.length,e1]
 refine Calls.call_function_entry kind_sorted plain_sorted entry_sorted (args_sorted1 _) ?_;unfold Builtin.«sorted»;refine ar (m:=checkCount "sorted" 1 1 _) (aR ?_);refine ar (PySem.W.kdu_collect (A:=X.A.in1) (PySem.W.kdl_dict (knd:=cr X.prog X.w) (kvs:=vs) (ep:=ep) lo) hh V3 (by rw[<- e7.length];exact hz) λh' tk eQ VQ zc=> ?_);have hl:eQ.toList.length=ks.length:=by rw[cX,zc.1,dL]
 have hI:StrsAre eQ.toList ks:=zY hl λj v e=>by
  obtain⟨k,x,hx,QG⟩:=zc.2 j v (by rw[<- Array.getElem?_toList];exact e);have Fp:(kvs.map (·.1))[j]? =some k:=by
   have:(vs.map (·.1))[j]? =some k:=by rw[aG,hx];rfl
   rw[<- e7.keys] at this;exact this
  rw[hk,aG] at Fp;cases e2:ks[j]? with
  | none=>rw[e2] at Fp;cases Fp
  | some n=>
   rw[e2] at Fp;cases Fp;have MD:l5 (Sum.inr n) v=true:=QG;rcases cN MD with⟨i,t,e3,e4⟩ | ⟨x,t,e3,e4⟩
   cases e3;cases e3;exact⟨n,t,rfl,e4⟩
 refine ar (wpAny_newList ?_ (by rw[hl];exact Iw));have ho:(h'.push (seqObj "list" eQ.toList.toArray 0)).get? h'.objs.size=some (seqObj "list" eQ.toList.toArray 0):=aM _ rfl;refine ar (wpAny_holding (wpAny_call_entry slot_list_sort ⟨_,ho,rfl⟩ entry_list_sort (TS.BG (s:= {s with heap:=h'.push (seqObj "list" eQ.toList.toArray 0),toks:=tk}) ho hI (by rw[hl];exact Iw) λout yc a1 a2 a3=>⟨_,rfl,?_⟩) (args_list_sort _)));obtain⟨ee,MN⟩:=sortedHeap_at (out:=out) ho;have I':Inv X ae σ H {s with heap:=h',toks:=tk}:=I.kept (t':=tk) VQ;refine aR ⟨_,rfl, .ref h'.objs.size,_,I'.laid (t':=tk) (o:= .lst (yc.map V.str)) (λb o hb=> ?_) (ao _) ?_,rfl,q _ yc (I'.cF.fresh (ao _)) a2 a3⟩;have kH:b<h'.objs.size:=aE hb;rw[sortedHeap_old (bg kH) (by rw[Heap.size_push];exact Nat.lt_succ_of_lt kH)];exact aq _ hb;refine⟨?_,out.toList,ee,lx a1, ⇑MN⟩;rw[ag,a2.length_eq];exact Iw
def Er:List V ->Hp ->VK ->Prop:=λxs H Q=>ca λ(d:Addr) (kvs:List (b8×V))=>cM (xs= [.ref d]) (H d=some (.dK kvs)) (∀p,H p=none ->Q (.ref p) (cq H p (.dK kvs)))
theorem ln:eN X (.type "dict") Er:=by intro ae s σ H xs us Q I r h;obtain⟨d,kvs,rfl,hd,q⟩:=h;obtain⟨u,rfl,ru⟩:=vals1 r;cases ru;obtain⟨hz,lo,vs,e7,dd⟩:=tJ I.cF hd;refine kt_call_dict lo dd (by rw[<- e7.length];exact hz) λh' QK sb=> ?_;have big:=I.big;refine⟨.ref s.heap.objs.size,_,I.laid (a:=s.heap.objs.size) (o:= .dK kvs) (t':=s.toks) (λb u e=> ?_) (ao _) ⟨hz,?_,vs,e7,QK⟩,rfl,q _ (I.cF.fresh (ao _))⟩;rw[sb.2 b (bg (aE e))];exact aq _ e;exact beq_eq_false_iff_ne.mpr (λz=>by rw[z] at big;exact Nat.lt_irrefl _ big)
def Je (d:Addr)(o:Obj)(kvs:List (b8×V)):It:=⟨λi H=>i<kvs.length /\ H d=some (.jd o (.dK kvs)),λi H x H'=>H'=H /\ ∃kv,kvs[i]? =some kv /\ x=kV kv.1,λi H=>kvs.length<=i /\ H d=some (.jd o (.dK kvs))⟩
theorem E6: ∀ {kvs:List (b8×V)} {vs:List (b8×Value)} {i:Nat} {q:b8×Value},KV kvs vs ->vs[i]? =some q -> ∃p,kvs[i]? =some p /\ p.1=q.1
 | _,_,0,_, .cons ⟨e0,r⟩ _,e=>by cases e;exact⟨_,rfl,e0⟩
 | _,_,i+1,q, .cons _ t,e=>by have e':_=some q:=e;rw[List.getElem?_cons_succ] at e' ⊢;exact E6 t e'
theorem Bz {P:Program}{w:World}{K:PySem.W.Frag}{tg:Expr}{d it:Addr}{o:Obj}{kvs:List (b8×V)}{es:Array DictEntry}{ep:Nat}(ho:o.data= .dict es ep): vb P w K tg (Je d o kvs) [it] it (λi h=>h.IsKeyIter it d i kvs.length ep) where
 mem:=by simp
 obj:=λi h st b hb=>by have e:b=it:= ⇑hb;subst e;obtain⟨o,e,c,d⟩:=st;exact⟨o,e,λv z=>by rw[d] at z;cases z⟩
 keep:=λi h h' st k=>st.at λo e=>k it (by simp) o e
 item:=by
  intro X hP hw hK hc i ae s σ H E I hf st hg;subst hP hw hK;obtain⟨hi,hH⟩:=hg;obtain⟨vs,e7,hd⟩:=uW I ho hH;have hl:=e7.length;rw[hl] at st hi;obtain⟨f0,f1,f2,f3,f4,f5⟩:=hf it (by simp);obtain⟨⟨k,x⟩,hx⟩: ∃q,vs[i]? =some q:=⟨vs[i],by simp[hi]⟩
  obtain⟨p,hp,rp⟩:=E6 e7 hx;refine wpAny_pyNext_dict_item st hd hx λlw h' y9 y_ fA=> ?_;have I1:Inv X ae σ H {s with heap:=h'}:=I.turned (t':=s.toks) (λb o hb e=>(fA.2 b hb).trans e) f0 f1 f3 f4 f5;obtain⟨oo,e,c,dd⟩:=id y_;rw[<- hl] at y_;have rk:RelV (kV p.1) lw:=by
   rw[show p.1=k from rp];rcases cN (show l5 k lw=true from y9) with⟨i,t,e,e2⟩ | ⟨x,t,e,e2⟩
   subst e;exact⟨t,e2⟩;subst e;exact⟨t,e2⟩
  exact⟨lw,rfl,tq (s:= {s with heap:=h'}) e c dd (by decide) ⟨kV p.1,H,I1,rk,⟨rfl,p,hp,rfl⟩,y_,λb hb=>(hf b hb).1⟩⟩
 done:=by intro X hP hw hK hc i ae s σ H E I hf st hg;subst hP hw hK;obtain⟨hi,hH⟩:=hg;obtain⟨vs,e7,hd⟩:=uW I ho hH;have hl:=e7.length;rw[hl] at st hi;obtain⟨f0,f1,f2,f3,f4,f5⟩:=hf it (by simp);exact wpAny_pyNext_dict_end (I.ok.hd hc) st hd (by simp;omega) λh' eb=>⟨rfl,I.turned (t':=s.toks) (λb o hb e=>eb b o hb e) f0 f1 f3 f4 f5⟩
 self:=λ_ _ _ _ _ st h=>wpAny_pyIter_keyiter st h
def Kr (td:TE):TI:=λσ H R=>td σ H λx H1=>ca λd kvs=>cM (x= .ref d) (H1 d=some (.dK kvs)) (∀o,R (Je d o kvs) (cq H1 d (.jd o (.dK kvs))))
theorem Hs (ho:PE X o td):PI X tg o (Kr td):=by
 intro ae s σ H R I h;refine cz (ho ae s σ H _ I h) λv s1 ⟨x,H1,I1,r1,d,kvs,ex,hd,q1⟩=> ?_;subst ex;obtain rfl:v=Value.ref d:=r1;obtain⟨z,Ms,vs,e7,dd⟩:=mx I1.cF (.inl hd);obtain⟨ob,es,ep,g1,g2,g3,g4⟩:=dd;have da:s1.heap.DictAt (cr X.prog X.w) d vs ep:=⟨ob,es,g1,g2,g3,g4⟩
 refine wpAny_pyIter_dict (knd:=cr X.prog X.w) Ms da ?_;have I2:=I1.freeze hd g1;refine⟨_,[_],_,Je d ob kvs,_,rfl,I2.kept (t':=s1.toks) λb o e=>aq _ e,Bz g3,?_,λb hb=> ?_,q1 ob⟩;rw[e7.length];exact⟨_,aM _ rfl,rfl,rfl⟩;have e:=be.mp hb;subst e;exact I2.zf (ao _) (I2.cF.fresh (ao _))
def JI (t:TE):TE:=λσ H Q=>ca λd kvs=>H d=some (.dK kvs) /\ t σ H λv H'=>ca λo us=>H' d=some (.jd o (.dK us)) /\ Q v (cq H' d (.dK us))
theorem Ar {e:Expr}{t:TE}(h:PE X e t):PE X e (JI t):=by
 rintro ae s σ H Q I ⟨d,kvs,hd,ht⟩;have h0: ∀o u,X.H₀ d≠some (.jd o u):=λo u e=>by have:=I.base.kI d o u e;rw[hd] at this;cases this
 refine cz (h ae s σ H _ I ht) λv s' ⟨x,H',I',r,o,us,e,q⟩=>⟨x,_,I'.Up e h0,?_,q⟩
 exact r
structure Nh (K:PySem.W.Frag)(mg:Str ->Option Value)(x:Str)(ns:List Int):Prop where
 ex: ∃a,mg x=some (.ref a) /\ ∀H,lr K H a (ns.map V.int)
def tGT (K:PySem.W.Frag)(ns:List Int):TE:=λ_ H Q=> ∀a,lr K H a (ns.map V.int) ->Q (.ref a) H
theorem Hu {x:Str}{ns:List Int}{pos:Pos}(hg:Gl X x)(T:Nh X.K X.mg x ns)(hd:(x==("__debug__" :Str))=false:=by decide):PE X (.Name x pos) (tGT X.K ns):=by obtain⟨a,hm,hs⟩:=T.ex;intro ae s σ H Q I h;exact fU (v:= .ref a) hg hm rfl hd ae s σ H Q I (h a (hs H))
end
end L2
namespace WL
open PySem L2
section
variable {K:PySem.W.Frag}
def wGT (ns:List Int):WE:=λ_ M q=>q (.tup (ns.map wi)) M
instance {ns:List Int}:IE K (tGT K ns) (wGT ns) where
 imp:=λρ M σ H q Q o h k=>λa hs=>k _ M _ H h (aT.refl H) o.hp (WR.SE hs (by
  refine cy.mk (by simp) λj d v e1 e2=> ?_;rw[aG] at e1 e2;cases hj:ns[j]? with
  | none=>rw[hj] at e1;cases e1
  | some n=>rw[hj] at e1 e2;cases e1;cases e2;exact WR.v))
theorem abf {ns:List Int}{ρ:cS}{M:Mp}{q:WK}:wGT ns ρ M q=q (.tup (ns.map wi)) M:=rfl
def Dw:zr:=λxs M q=>dH λ(d:Addr) (kvs:List (b8×W)) (ks:List Str)=>fo (xs= [wr d]) (M d=some (.dK kvs)) (kvs.map (·.1)=ks.map Sum.inr) (ks.length<=sizeLine) (∀ (p:Addr) (ns:List Str),M p=none ->ns.Perm ks ->ns.Pairwise (λx y=>¬y.cps.toList<x.cps.toList) ->q (wr p) (um M p (.lst (ns.map ws))))
theorem AM {H:Hp}: ∀ {kvs:List (b8×W)} {vs:List (b8×V)},KR K H kvs vs ->kvs.map (·.1)=vs.map (·.1)
 | _,_, .nil=>rfl
 | _,_, .cons ⟨e,_⟩ t=>by rw[az,az,AM t,e]
theorem vB {H:Hp}: ∀ (ns:List Str),cy K H (ns.map ws) (ns.map V.str)
 | []=>cy.nil
 | _::r=>cy.cons WR.v (vB r)
instance:IC K we Dw where
 imp:=by rintro xs v M H q Q m r1 ⟨d,kvs,ks,rfl,hd,hk,hl,h⟩ k;obtain⟨v,rfl,r⟩:=r1.one;cases r.eq;obtain⟨us,e,rr⟩:=m d _ hd;exact⟨d,us,ks,rfl,e,by rw[<- AM rr];exact hk,hl,λp ns hp h1 h2=>k _ _ _ _ (h p ns (m.fresh hp) h1 h2) (L2.fi.ts (bV hp)) (m.wE hp (vB ns)) WR.v⟩
def DA:zr:=λxs M q=>ca λ(d:Addr) (kvs:List (b8×W))=>cM (xs= [wr d]) (M d=some (.dK kvs)) (∀p,M p=none ->q (wr p) (um M p (.dK kvs)))
instance:IC K Er DA where
 imp:=by rintro xs v M H q Q m r1 ⟨d,kvs,rfl,hd,h⟩ k;obtain⟨v,rfl,r⟩:=r1.one;cases r.eq;obtain⟨us,e,rr⟩:=m d _ hd;exact⟨d,us,rfl,e,λp hp=>k _ _ _ _ (h p (m.fresh hp)) (L2.fi.ts (bV hp)) (m.put (L2.fi.ts (bV hp)) ⟨us,bI,KR.ts (L2.fi.ts (bV hp)) rr⟩) WR.v⟩
theorem Oo {d:Addr}{M:Mp}{q:WK}:DA [.v (.ref d)] M q=gz (M d) λkvs=> ∀p,M p=none ->q (wr p) (um M p (.dK kvs)):=by apply propext;constructor;rintro⟨_,kvs,h1,h2,k⟩;cases h1;exact⟨kvs,h2,k⟩;rintro⟨kvs,h2,k⟩;exact⟨_,kvs,rfl,h2,k⟩
def Ff (a:WE):WI:=λρ M q=>a ρ M λx M1=>ca λd kvs=>cM (x=wr d) (M1 d=some (.dK kvs)) (∀o ks,q (kvs.map λkv=>gM kv.1) (λM'=>M' d=some (.fz o ks kvs)) (um M1 d (.fz o ks kvs)))
theorem Co {H1:Hp}{d:Addr}{o:Obj}{kvs:List (b8×W)}{ks:List (b8×V)}:zw K H1 (Je d o ks) (kvs.map λkv=>gM kv.1) (λM'=>M' d=some (.fz o ks kvs)):=by intro i M H t m hM;obtain⟨e1,r1⟩:=m d _ hM;have hl:=yW r1;rw[ag];refine⟨λh=>⟨by omega,e1⟩,λh=>⟨by omega,e1⟩,λv H' hi ⟨e2,kv,hk,e3⟩=> ?_⟩;subst e2 e3;obtain⟨p,hp,e4,rp⟩:=E7 r1 hk;refine⟨aT.refl _,m,gM p.1,by rw[aG,hp];rfl,?_⟩;rw[e4];cases kv.1<;>exact WR.v
instance {t:TE}{a:WE} [ia:IE K t a]:II K (Kr t) (Ff a) where
 imp:=λρ M σ H q R o h k=>ia.imp ρ M σ H _ _ o h λx M1 v H1 ⟨d,kvs,ex,hd,h1⟩ t1 m1 r1=>by subst ex;obtain⟨ks,e,r⟩:=m1 d _ hd;refine⟨d,ks,r1.eq,e,λob=>k _ _ _ _ _ (h1 ob ks) (t1.trans (jg e)) (m1.put (jg e) ⟨bI,KR.ts (jg e) r⟩) Co⟩
theorem SM {a:WE}{ρ:cS}{M:Mp}{q:List W ->(Mp ->Prop) ->Mp ->Prop}:Ff a ρ M q=a ρ M λx M1=>dZ x λd=>gz (M1 d) λkvs=> ∀o ks,q (kvs.map λkv=>gM kv.1) (λM'=>M' d=some (.fz o ks kvs)) (um M1 d (.fz o ks kvs)):=by unfold Ff dZ gz;congr 1;funext x M1;apply propext;constructor;rintro⟨d,kvs,e1,e2,h⟩;exact⟨d,e1,kvs,e2,h⟩;rintro⟨d,e1,kvs,e2,h⟩;exact⟨d,kvs,e1,e2,h⟩
def N7 (t:WE):WE:=λρ M q=>ca λd kvs=>M d=some (.dK kvs) /\ t ρ M λv M'=>dH λo ks us=>M' d=some (.fz o ks us) /\ q v (um M' d (.dK us))
instance {t:TE}{a:WE} [ia:IE K t a]:IE K (JI t) (N7 a) where
 imp:=λρ M σ H q Q o ⟨d,kvs,hd,h⟩ k=>by obtain⟨ks,ek,r⟩:=o.hp d _ hd;refine⟨d,ks,ek,ia.imp ρ M σ H _ _ o h ?_⟩;rintro x M' v H' ⟨ob,us,ws,hM,hq⟩ ts m' r';obtain⟨e1,r1⟩:=m' d _ hM;have t2:=Lf (u:= .dK us) e1;exact⟨ob,us,e1,k _ _ _ _ hq (ts.trans t2) (m'.put t2 ⟨us,bI,KR.ts t2 r1⟩) (r'.ts t2)⟩
end
end WL
namespace L2
open PySem
theorem sP {X:Cx}{K:PySem.W.Frag}(hK:X.K=K):gO X (compareOp .NotIn) (Pk K true):=by subst hK;exact uJ
theorem gl {K:PySem.W.Frag}{h:Heap}{mg:Str ->Option Value}{x:Str}{C:Addr}(X:K.In h)(G:h.Ns mainGlobals mg)(a:PySem.W.nsIn K mainGlobals x=some (some (.ref C))):mg x=some (.ref C):=PySem.W.mg_of X G a
theorem f9 {K:PySem.W.Frag}{h:Heap}{x:Str}{C:Addr}{cd:ClassData}(_:K.In h)(a:PySem.W.nsIn K mainGlobals x=some (some (.ref C)))(e:PySem.W.excIn K C Q7 "ValueError.__new__" =true)(k1:PySem.W.clsIn K C=some cd)(k2:PySem.W.findIn K (.ref C) "__getattribute__" =some (some (.builtin "BaseException.__getattribute__")))(k3:PySem.W.findIn K (.ref C) "__getattr__" =some none)(k4:PySem.W.findIn K (.ref C) "__class__" =some (some (.builtin "object.__class__")))(k5:PySem.W.mroIn K C (.type "object")=some true)(k6:PySem.W.mroIn K C (.type "BaseException")=some true):ls K x C:=NZ a e k1 k2 k3 k4 k5 k6
theorem Ll {K:PySem.W.Frag}{h:Heap}{mg:Str ->Option Value}{x z:Str}{t:Tok}(X:K.In h)(G:h.Ns mainGlobals mg)(a:PySem.W.nsIn K mainGlobals x=some (some (.str z t))): ∃t,mg x=some (.str z t):=⟨t,PySem.W.mg_of X G a⟩
theorem Ld {K:PySem.W.Frag}{h:Heap}{mg:Str ->Option Value}{x:Str}{ad:Addr}{n1 n2 n3 n4:Int}{t1 t2 t3 t4:Tok}{n:Nat}{sl:Array (Option Value)}(X:K.In h)(G:h.Ns mainGlobals mg)(a:PySem.W.nsIn K mainGlobals x=some (some (.ref ad))) (l:K.lookup ad=some ⟨.type "tuple",none, .seq #[.int n1 t1, .int n2 t2, .int n3 t3, .int n4 t4] n,sl⟩):Nh K mg x [n1,n2,n3,n4]:=⟨ad,PySem.W.mg_of X G a,λH=> .inr ⟨_,_,_,l,rfl,rfl,rfl,by show 4<=sizeLine;decide, .cons ⟨_,rfl⟩ (.cons ⟨_,rfl⟩ (.cons ⟨_,rfl⟩ (.cons ⟨_,rfl⟩ .nil)))⟩⟩
end L2
namespace WL
open PySem L2
section
variable {K:PySem.W.Frag}
def yj (a b:WE):WE:=λρ M q=>a ρ M λx M1=> ∃p,cM (x=wr p) (∃kvs,M1 p=some (.dK kvs)) (b ρ M1 λy M2=>dH λkvs k z=>eu (M2 p=some (.dK kvs)) (y=gM k) (eG kvs k=some z) (q z (um M2 p (.dK (ip kvs k)))))
instance {t u:TE}{a b:WE} [ia:IE K t a] [ib:IE K u b]:IE K (DT t u) (yj a b) where
 imp :=λρ M σ H q Q o h k=>ia.imp ρ M σ H _ _ o h λx M1 v H1 ⟨p,e,⟨kvs,hp⟩,h1⟩ t1 m1 r1=>by
  subst e;obtain⟨ks,hk,rr⟩:=m1 p _ hp;refine⟨p,r1.eq, .inl ⟨ks, .inl hk⟩,ib.imp ρ M1 σ H1 _ _ (o.mv t1 m1) h1 λy M2 u H2 ⟨kvs,ky,z,e2,e3,e4,h2⟩ t2 m2 r2=> ?_⟩;subst e3;obtain⟨ks,hk,rr⟩:=m2 p _ e2;have ts:=jg (u:= .dK (jX ks ky)) hk;rcases rr.val ky with⟨n1,_⟩ | ⟨x',v',n1,n2,rx⟩
  rw[n1] at e4;cases e4;rw[n1] at e4;cases e4;exact⟨ks,ky,v',hk,iH r2,n2,k _ _ _ _ h2 ((t1.trans t2).trans ts) (m2.putD hk rr.drop) (rx.ts ts)⟩
theorem Op {a b:WE}{ρ:cS}{M:Mp}{q:WK}:yj a b ρ M q=a ρ M λx M1=>dZ x λp=>gz (M1 p) λ_=>b ρ M1 λy M2=>kG y λk=>gz (M2 p) λkvs=>lR (eG kvs k) λz=>q z (um M2 p (.dK (ip kvs k))):=by
 unfold yj dZ gz kG lR;congr 1;funext x M1;apply propext;constructor;rintro⟨p,e1,⟨kvs,e2⟩,h⟩;refine⟨p,e1,kvs,e2,?_⟩;have:(λy M2=>dH λkvs k z=>eu (M2 p=some (.dK kvs)) (y=gM k) (eG kvs k=some z) (q z (um M2 p (.dK (ip kvs k)))))=(λy M2=> ∃k,y=gM k /\ ∃l,M2 p=some (.dK l) /\ ∃z,eG l k=some z /\ q z (um M2 p (.dK (ip l k)))):=by funext y M2;apply propext;constructor;rintro⟨kvs,k,z,h1,h2,h3,h4⟩;exact⟨k,h2,kvs,h1,z,h3,h4⟩;rintro⟨k,h2,kvs,h1,z,h3,h4⟩;exact⟨kvs,k,z,h1,h2,h3,h4⟩
 rw[this] at h;exact h;rintro⟨p,e1,kvs,e2,h⟩;refine⟨p,e1,⟨kvs,e2⟩,?_⟩;have:(λy M2=>dH λkvs k z=>eu (M2 p=some (.dK kvs)) (y=gM k) (eG kvs k=some z) (q z (um M2 p (.dK (ip kvs k)))))=(λy M2=> ∃k,y=gM k /\ ∃l,M2 p=some (.dK l) /\ ∃z,eG l k=some z /\ q z (um M2 p (.dK (ip l k)))):=by funext y M2;apply propext;constructor;rintro⟨kvs,k,z,h1,h2,h3,h4⟩;exact⟨k,h2,kvs,h1,z,h3,h4⟩;rintro⟨k,h2,kvs,h1,z,h3,h4⟩;exact⟨kvs,k,z,h1,h2,h3,h4⟩
 rw[this];exact h
end
end WL
namespace WQ
open PySem L2 WL WP
section
variable {α:Type}
def rE (f:α ->W)(l:List (Str×α)):List (b8×W):=l.map λz=>(.inr z.1,f z.2)
def c7 (l:List (Str×α))(n:Str):Option α:=(l.find? λz=>decide (z.1=n)).map (·.2)
def kC (l:List (Str×α))(n:Str)(a:α):List (Str×α):=if(l.any λz=>decide (z.1=n))=true then l.map (λz=>if z.1=n then(z.1,a) else z) else l++ [(n,a)]
def qR (l:List (Str×α))(n:Str):List (Str×α):=l.filter λz=>decide (z.1≠n)
theorem pJ {a b:Str}:((Sum.inr a:b8)= .inr b)↔a=b:=⟨Sum.inr.inj,λh=>by rw[h]⟩
theorem dS (f:α ->W)(l:List (Str×α))(n:Str):eG (rE f l) (.inr n)=(c7 l n).map f:=by
 unfold eG rE c7;induction l with
 | nil=>rfl
 | cons z l ih=>rw[az,cH,cH];simp only[pJ];by_cases h:z.1=n;simp[h];simpa [h] using ih
theorem kj (f:α ->W)(l:List (Str×α))(n:Str)(a:α):ux (rE f l) (.inr n) (f a)=rE f (kC l n a):=by
 have e:((rE f l).any λkv=>decide (kv.1= .inr n))=(l.any λz=>decide (z.1=n)):=by unfold rE;rw[List.any_map];congr 1;funext z;simp only[Function.comp,pJ]
 unfold ux kC;rw[e];split;unfold rE;rw[aY,aY];apply List.map_congr_left;intro z _;simp only[Function.comp,pJ];split<;>rfl;unfold rE;rw[br];rfl
theorem xm (f:α ->W)(l:List (Str×α))(n:Str):ip (rE f l) (.inr n)=rE f (qR l n):=by unfold ip rE qR;rw[List.filter_map];congr 2;funext z;simp only[Function.comp,ne_eq,pJ]
theorem pZ (f:α ->W)(l:List (Str×α)):(rE f l).map (·.1)=(l.map (·.1)).map Sum.inr:=by unfold rE;rw[aY,aY];rfl
theorem ud (f:α ->W)(l:List (Str×α)):(rE f l).length=l.length:=by unfold rE;rw[ag]
theorem Ak (l:List (Str×α))(n:Str)(a:α):(kC l n a).length<=l.length+1:=by unfold kC;split<;>simp
theorem Bb (l:List (Str×α))(n:Str):(qR l n).length<=l.length:=List.length_filter_le _ _
theorem fX {l:List (Str×α)}{n:Str}{a:α}(h:c7 l n=some a): ∃z∈l,z.1=n /\ z.2=a:=by
 unfold c7 at h;cases e:l.find? λz=>decide (z.1=n) with
 | none=>rw[e] at h;cases h
 | some z=>rw[e] at h;cases h;exact⟨z,List.mem_of_find?_eq_some e, ⇑(List.find?_some e),rfl⟩
theorem Iy {l:List (Str×α)}{z:Str×α}(h:z∈l): ∃a,c7 l z.1=some a:=by
 unfold c7;cases e:l.find? λy=>decide (y.1=z.1) with
 | none=>simpa using List.find?_eq_none.mp e z h
 | some y=>exact⟨_,rfl⟩
theorem Aj {l:List (Str×α)}{n:Str}{a:α}{z:Str×α}(h:z∈kC l n a):z∈l \/ z=(n,a):=by unfold kC at h;split at h;obtain⟨y,hy,rfl⟩:=List.mem_map.mp h;split;rename_i e;rw[e];exact .inr rfl;exact .inl hy;rcases a_.mp h with h | h;exact .inl h;exact .inr (be.mp h)
theorem Ba {l:List (Str×α)}{n:Str}{z:Str×α}(h:z∈qR l n):z∈l:=(List.mem_filter.mp h).1
theorem Et (l:List (Str×α))(n:Str)(a:α):(kC l n a).map (·.1)=if(l.any λz=>decide (z.1=n))=true then l.map (·.1) else l.map (·.1)++ [n]:=by unfold kC;split;rw[aY];apply List.map_congr_left;intro z _;simp only[Function.comp];split<;>rfl;rw[br];rfl
theorem Lz {l:List (Str×α)}{n:Str}{a:α}(h:(l.map (·.1)).Nodup):((kC l n a).map (·.1)).Nodup:=by rw[Et];split;exact h;rename_i hn;rw[List.nodup_append];refine⟨h,by simp,λx hx y hy=> ?_⟩;rw[be.mp hy];rintro rfl;apply hn;obtain⟨z,hz,e⟩:=List.mem_map.mp hx;exact List.any_eq_true.mpr ⟨z,hz, ⇑e⟩
theorem MZ {l:List (Str×α)}{n:Str}(h:(l.map (·.1)).Nodup):((qR l n).map (·.1)).Nodup:=h.sublist (List.Sublist.map _ List.filter_sublist)
theorem Eb {a b c:List Str}(h1:a.Perm c)(h2:b.Perm c)(s1:a.Pairwise λx y=>¬y.cps.toList<x.cps.toList)(s2:b.Pairwise λx y=>¬y.cps.toList<x.cps.toList):a=b:=by refine List.Perm.eq_of_pairwise (le:=λx y=>¬y.cps.toList<x.cps.toList) (λx y _ _ SQ hyx=> ?_) s1 s2 (h1.trans h2.symm);exact Hd (List.le_antisymm SQ hyx)
end
inductive Rf where
 | BadName | NoDeed | NoRound | NoCrew | Taken | InUse | TooMany | TooFar | NoMore | NoState
def ND:Rf ->Str
 | .BadName=> "BadName" | .NoDeed=> "NoDeed" | .NoRound=> "NoRound" | .NoCrew=> "NoCrew" | .Taken=> "Taken" | .InUse=> "InUse" | .TooMany=> "TooMany" | .TooFar=> "TooFar" | .NoMore=> "NoMore" | .NoState=> "NoState"
abbrev vx:Str:= "abcdefghijklmnopqrstuvwxyz"
abbrev Rm:=List (Str×Rd)
abbrev Tm:=List (Str×List Str)
def vG (l:List Str):W:= .tup (l.map ws)
abbrev sN (R:Rm):List (b8×W):=rE fI R
abbrev BA (T:Tm):List (b8×W):=rE vG T
def SN (n:Str)(l:List Str):Bool:=Ko (.str n) (l.map V.str)
def DI (T:Tm)(n:Str):Bool:=T.any λz=>SN n z.2
def cD (n:Str):Bool:=decide (1<=n.length) && decide (n.length<=12) && (ya n).all λc=>yb c vx
def jN (a:Rd)(m r:Int):Bool:= !(decide ((if a.1<0 then -a.1 else a.1) <=m) && a.2.all λz=>decide ((if z.1<0 then -z.1 else z.1) <=r))
abbrev fE (n:Str):Prop:=n.cps.all (· <128)=true
def lf (r t:Addr):List (Str×W):= [("rounds",wr r),("teams",wr t)]
def fC (p:Int)(now la lu lh:Addr):List (Str×W):= [("p",wi p),("now",wr now),("past",wr la),("undone",wr lu),("held",wr lh)]
section
variable {p:Int}{r t now la lu lh x:Addr}
theorem qe:(lf r t).lookup ("rounds" :Str)=some (wr r):=rfl
theorem oT:(lf r t).lookup ("teams" :Str)=some (wr t):=rfl
theorem CT:(fC p now la lu lh).lookup ("p" :Str)=some (wi p):=rfl
theorem kK:(fC p now la lu lh).lookup ("now" :Str)=some (wr now):=rfl
theorem aa1:(fC p now la lu lh).lookup ("past" :Str)=some (wr la):=rfl
theorem aaZ:gD "now" (wr x) (fC p now la lu lh)=fC p x la lu lh:=rfl
theorem aaY:gD "undone" (wr x) (fC p now la lu lh)=fC p now la x lh:=rfl
theorem aa0:((fC p now la lu lh).length<1000)=True:=aC (by show 5<1000;decide)
theorem xF:(fC p now la lu lh).lookup ("settings" :Str)=none:=rfl
theorem lp:(fC p now la lu lh).lookup ("turn_to" :Str)=none:=rfl
theorem q0:(fC p now la lu lh).lookup ("put" :Str)=none:=rfl
theorem oP:(fC p now la lu lh).lookup ("enlisted" :Str)=none:=rfl
theorem IW:(fC p now la lu lh).lookup ("team" :Str)=none:=rfl
theorem Bq:(fC p now la lu lh).lookup ("tell" :Str)=none:=rfl
theorem zm:(fC p now la lu lh).lookup ("join_as" :Str)=none:=rfl
theorem zn:(fC p now la lu lh).lookup ("back_as" :Str)=none:=rfl
theorem xE:(fC p now la lu lh).lookup ("times_as" :Str)=none:=rfl
theorem IX:(fC p now la lu lh).lookup ("drop" :Str)=none:=rfl
theorem Gd:(fC p now la lu lh).lookup ("names" :Str)=none:=rfl
theorem Ge:(fC p now la lu lh).lookup ("crews" :Str)=none:=rfl
theorem eM:(fC p now la lu lh).lookup ("round_of" :Str)=none:=rfl
end
theorem DN {α:Type}(f:α ->W)(l:List (Str×α)):(rE f l).map (λx=>x.2)=l.map λz=>f z.2:=by unfold rE;rw[aY];rfl
theorem CC (l:List Str):(l.map V.str).all jM=true:=by rw[List.all_map];exact List.all_eq_true.mpr λ_ _=>rfl
theorem Ii {n:Str}{l:List Str}{M:Mp}{q:WK}(h:q (wb (SN n l)) M):wIn false (ws n) (vG l) M q:=⟨.str n,l.map V.str,rfl, .inl (by unfold vG;rw[aY];rfl),rfl,CC l,h⟩
theorem zS {M:Mp}{t u:Addr}{o f:MO}{l:MO}(h:M t=some o)(hu:um M t f u=none):Sm M (um (um (um M t f) u l) t o):=λa x e=>by by_cases ht:a=t;subst ht;rw[au];rw[h] at e;exact e;rw[aN ht,aN (cb (M:=um M t f) (by rw[aN ht];exact e) hu),aN ht];exact e
def Pg (C:Addr)(M:Mp)(a:Addr)(R:Rm)(T:Tm):Prop:=dH λ(dx r t:Addr)=>cM (M a=some (.ins C dx (lf r t))) (M r=some (.dK (sN R))) (M t=some (.dK (BA T)))
structure Bk (B C:Addr)(M:Mp)(b la lu lh:Addr)(p:Int)(now:Addr)(pa un he:List Addr)(R:Rm)(T:Tm):Prop where
 ob: ∃dx,M b=some (.ins B dx (fC p now la lu lh))
 pa:M la=some (.lst (pa.map wr))
 un:M lu=some (.lst (un.map wr))
 he:M lh=some (.lst (he.map wr))
 ne:la≠lu /\ la≠lh /\ lu≠lh
 pg:Pg C M now R T
def zx (b la:Addr)(M M':Mp):Prop:= ∀a o,M a=some o ->a≠b ->a≠la ->M' a=some o
theorem Pg.sm {C a:Addr}{M M':Mp}{R:Rm}{T:Tm}(h:Pg C M a R T)(s:Sm M M'):Pg C M' a R T:=by obtain⟨dx,r,t,h1,h2,h3⟩:=h;exact⟨dx,r,t,s _ _ h1,s _ _ h2,s _ _ h3⟩
theorem Bk.sm {B C b la lu lh now:Addr}{M M':Mp}{p:Int}{pa un he:List Addr}{R:Rm}{T:Tm}(h:Bk B C M b la lu lh p now pa un he R T)(s:Sm M M'):Bk B C M' b la lu lh p now pa un he R T:=by obtain⟨⟨dx,h1⟩,h2,h3,h4,h5,h6⟩:=h;exact⟨⟨dx,s _ _ h1⟩,s _ _ h2,s _ _ h3,s _ _ h4,h5,h6.sm s⟩
theorem zx.sm {b la:Addr}{M M1 M':Mp}(F:zx b la M1 M')(s:Sm M M1):zx b la M M':=λa o h n1 n2=>F a o (s a o h) n1 n2
theorem zx.IN {b la:Addr}{M M':Mp}(F:zx b la M M'){B dx:Addr}{fs:List (Str×W)}{l:List W}(hb:M b=some (.ins B dx fs))(ha:M la=some (.lst l)){r:Addr}{kvs:List (b8×W)}(h:M r=some (.dK kvs)):M' r=some (.dK kvs):=F _ _ h (λz=>by subst z;rw[hb] at h;cases h) λz=>by subst z;rw[ha] at h;cases h
theorem zx.pg {b la:Addr}{M M':Mp}(F:zx b la M M'){B C dx now la' lu lh a:Addr}{p:Int}{l:List W}{R:Rm}{T:Tm}(hb:M b=some (.ins B dx (fC p now la' lu lh)))(ha:M la=some (.lst l))(h:Pg C M a R T):Pg C M' a R T:=by obtain⟨mq,r,t,h1,h2,h3⟩:=h;refine⟨mq,r,t,F _ _ h1 (λz=> ?_) (λz=> ?_),F.IN hb ha h2,F.IN hb ha h3⟩;subst z;rw[hb] at h1;injection h1 with h1;injection h1 with _ _ h1;have:=congrArg List.length h1;revert this;show 5=2 ->False;decide;subst z;rw[ha] at h1;cases h1
def Fs (s:Addr)(M M':Mp):Prop:= ∀a o,M a=some o ->a≠s ->M' a=some o
theorem Fs.trans {s:Addr}{M M1 M2:Mp}(f:Fs s M M1)(g:Fs s M1 M2):Fs s M M2:=λa o h n=>g a o (f a o h n) n
theorem Fs.self {s:Addr}{M:Mp}{o:MO}:Fs s M (um M s o):=λa u h n=>by rw[aN n];exact h
theorem Fs.new {s p:Addr}{M M':Mp}{o:MO}(f:Fs s M M')(hp:M' p=none):Fs s M (um M' p o):=λa u h n=>by rw[aN (cb (f a u h n) hp)];exact f a u h n
theorem Fs.put {s:Addr}{M M':Mp}{o:MO}(f:Fs s M M'):Fs s M (um M' s o):=λa u h n=>by rw[aN n];exact f a u h n
theorem Fs.free {s p:Addr}{M M':Mp}(f:Fs s M M')(hp:M' p=none)(n:p≠s):M p=none:=by
 cases e:M p with
 | none=>rfl
 | some o=>rw[f p o e n] at hp;cases hp
structure nK (p:Int)(R:Rm):Prop where
 nd:(R.map (·.1)).Nodup
 len:R.length<=1000
 ok: ∀z∈R,df p z.2.2 /\ z.2.2.length<=401 /\ jN z.2 200 200=false
def LS (C:Addr):fg:=λxs M q e=> ∃n:Str,fo (xs= [ws n]) (fE n) (n.length<=100) (cD n=true ->q wn M) (cD n=false ->e C M)
def LI:fh:=λxs M q=>fF λ(d:Addr) (kvs:List (b8×W)) (n:Str) (x:W)=>eu (xs= [wr d,ws n,x]) (M d=some (.dK kvs)) (kvs.length<=2000) (∀r,M r=none ->q (wr r) (um M r (.dK (ux kvs (.inr n) x))))
def EF:fh:=λxs M q=>dH λ(d:Addr) (kvs:List (b8×W)) (n:Str)=>eu (xs= [wr d,ws n]) (M d=some (.dK kvs)) ((eG kvs (.inr n)).isSome=true) (∀r,M r=none ->q (wr r) (um M r (.dK (ip kvs (.inr n)))))
def Pu (C:Addr):fh:=λxs M q=>fF λ(s dx r t:Addr)=>cM (xs= [wr s,wr r,wr t]) (M s=some (.ins C dx [])) (q wn (um M s (.ins C dx (lf r t))))
def PD (B C:Addr):fh:=λxs M q=>dH λ(s dx:Addr) (p:Int)=>eu (xs= [wr s,wi p]) (p=2 \/ p=3 \/ p=5 \/ p=7) (M s=some (.ins B dx [])) (∀M' la lu lh now,Bk B C M' s la lu lh p now [] [] [] [] [] ->Fs s M M' ->M la=none ->M lu=none ->M lh=none ->la≠s ->q wn M')
def BN (B C:Addr):fh:=λxs M q=>se λ(b la lu lh now:Addr)=>fF λ(p:Int) (pa un he:List Addr)=>ca λ(R:Rm) (T:Tm)=>cM (xs= [wr b]) (Bk B C M b la lu lh p now pa un he R T) (q (wi p) M)
def Pq (B C:Addr):fh:=λxs M q=>S' λ(b la lu lh now pg:Addr)=>fF λ(p:Int) (pa un he:List Addr)=>fF λ(R:Rm) (T:Tm) (R':Rm) (T':Tm)=>fo (xs= [wr b,wr pg]) (Bk B C M b la lu lh p now pa un he R T) (Pg C M pg R' T') (pa.length<=1000) (∀M' iz,Bk B C M' b la iz lh p pg (pa++ [now]) [] he R' T' ->zx b la M M' ->M iz=none ->q wn M')
def BP (B C:Addr):fh:=λxs M q=>se λ(b la lu lh now:Addr)=>fF λ(p:Int) (pa un he:List Addr)=>dH λ(R:Rm) (T:Tm) (n:Str)=>eu (xs= [wr b,ws n]) (Bk B C M b la lu lh p now pa un he R T) (T.length<=1000) (q (wb (DI T n)) M)
def cT (T:Tm)(n:Str)(a:Rd):Bool:=jN a 200 200 || (DI T n && jN a 8 24)
def BO (B C X:Addr):fg:=λxs M q e=>se λ(b la lu lh now:Addr)=>fF λ(p:Int) (pa un he:List Addr)=>fF λ(R:Rm) (T:Tm) (n:Str) (a:Rd)=>Dk (xs= [wr b,ws n,fI a]) (Bk B C M b la lu lh p now pa un he R T) (pa.length<=1000) (R.length<=1000) (T.length<=1000) (a.2.length<=1000000) (cT T n a=false -> ∀M' iz pg,Bk B C M' b la iz lh p pg (pa++ [now]) [] he (kC R n a) T ->zx b la M M' ->M iz=none ->M pg=none ->q wn M') (cT T n a=true ->e X M)
def EG:fh:=λxs M q=>dH λ(a:Rd) (e r:Int)=>cM (xs= [fI a,wi e,wi r]) (a.2.length<=1000000) (q (wb (!jN a e r)) M)
def LR:fh:=λxs M q=> ∃a:Rd,cM (xs= [fI a]) (a.2.length<=1000000) (q (wb (!jN a 8 24)) M)
inductive dm where
 | tell (n:Str) (ds:List (Str×Int)) | join (n x y:Str) | back (n x:Str) | times (n x:Str) (k:Int) | drop (n:Str)
inductive Oc (α:Type) where
 | ok (R:α) | bad (r:Rf)
noncomputable def En (p:Int) (a:Rd) (n:Int):Rd:=Classical.epsilon λr=>fR p a n r
theorem Ad {p:Int}(hp:0<p){a r:Rd}{n:Int}(h:fR p a n r):En p a n=r:=(Classical.epsilon_spec (p:=λr=>fR p a n r) ⟨r,h⟩).eq hp h
theorem Pd {p:Int}(hp:0<p){a:Rd}(h:df p a.2):fR p a 1 a:=by
 refine⟨by rw[Int.mul_one],h,λx=> ?_⟩;have e:jh (ez a.2) a.1 1 x=ez a.2 x:=by simp[jh,eU]
 rw[e, <- ki hp,ER hp h]
theorem Lu {p:Int}(hp:0<p){a:Rd}:fR p a (-1) (bk p a):=(Pd hp (zo hp a)).uQ hp (by decide)
def fL (ds:List (Str×Int)):Bool:=ds.all λd=>decide (d.1= "go") || decide (d.1= "turn")
theorem qI {ds:List (Str×Int)}:fL ds=true↔ ∀d∈ds,Good d:=by unfold fL Good;rw[List.all_eq_true];simp only[Bool.or_eq_true,cU]
def gw (R:Rm)(T:Tm)(n:Str)(a:Rd):Oc Rm:=if cT T n a=true then .bad .TooFar else .ok (kC R n a)
noncomputable def bR (p:Int) (R:Rm) (T:Tm):dm ->Oc Rm
 | .tell n ds=>if cD n=false then .bad .BadName else if fL ds=false then .bad .NoDeed else gw R T n ((dN ds).1,nq p (dN ds).2)
 | .join n x y=>if cD n=false then .bad .BadName else match c7 R x,c7 R y with
  | some a,some b=>gw R T n (jn p a b)
  | _,_=> .bad .NoRound
 | .back n x=>if cD n=false then .bad .BadName else match c7 R x with
  | some a=>gw R T n (bk p a)
  | none=> .bad .NoRound
 | .times n x k=>if cD n=false then .bad .BadName else match c7 R x with
  | some a=>gw R T n (En p a k)
  | none=> .bad .NoRound
 | .drop n=>match c7 R n with
  | none=> .bad .NoRound
  | some _=>if DI T n=true then .bad .InUse else .ok (qR R n)
structure Nm (n:Str):Prop where
 as:fE n
 len:n.length<=100
def zG:dm ->Prop
 | .tell n ds=>cM (Nm n) (ds.length<=50) (∀d∈ds,d.1.length<=100)
 | .join n x y=>cM (Nm n) (Nm x) (Nm y)
 | .back n x=>Nm n /\ Nm x
 | .times n x k=>eu (Nm n) (Nm x) (-100<=k) (k<=100)
 | .drop n=>Nm n
structure De (p:Int)(R:Rm)(T:Tm)(pa:List Addr):Prop where
 p4:p=2 \/ p=3 \/ p=5 \/ p=7
 pa:pa.length<=900
 r:nK p R
 t:T.length<=900
def Bt (B C:Addr)(M:Mp)(b la lh:Addr)(p:Int)(now:Addr)(pa he:List Addr)(R:Rm)(T:Tm)(q:WK):Prop:=∀M' iz pg,Bk B C M' b la iz lh p pg (pa++ [now]) [] he R T ->zx b la M M' ->M iz=none ->M pg=none ->q wn M'
def PB (B C:Addr)(vv:Rf ->Addr)(f:List W ->Mp ->dm ->Prop):fg:=λxs M q e=>se λ(b la lu lh now:Addr)=>fF λ(p:Int) (pa un he:List Addr)=>fF λ(R:Rm) (T:Tm) (dd:dm) (ys:List W)=>KS (xs=wr b::ys) (f ys M dd) (zG dd) (Bk B C M b la lu lh p now pa un he R T) (De p R T pa) (∀R',bR p R T dd= .ok R' ->Bt B C M b la lh p now pa he R' T q) (∀r,bR p R T dd= .bad r ->e (vv r) M)
theorem uw {B C X:Addr}{M:Mp}{b la lu lh now:Addr}{p:Int}{pa un he:List Addr}{R:Rm}{T:Tm}{n:Str}{a:Rd}{O:Oc Rm}{q:WK}{e:WX}{vv:Rf ->Addr}(hB:Bk B C M b la lu lh p now pa un he R T)(hS:De p R T pa)(hl:a.2.length<=1000000)(ho:O=gw R T n a) (kq: ∀R',O= .ok R' ->Bt B C M b la lh p now pa he R' T q) (ke: ∀r,O= .bad r ->up e (vv r) M) (hX:X=vv .TooFar:=by rfl):BO B C X [wr b,ws n,fI a] M (λ_ M1=> ∃M0,Sm M0 M1 /\ q wn M0) (up e):=by have h1:=hS.pa;have h2:=hS.r.len;have h3:=hS.t;refine⟨b,la,lu,lh,now,p,pa,un,he,R,T,n,a,rfl,hB,by omega,h2,by omega,hl,λhb M' iz pg B' F hu hp=>fM (kq _ (by rw[ho,gw,aj (by rw[hb];decide)]) M' iz pg B' F hu hp),λhb=> ?_⟩;rw[hX];exact ke .TooFar (by rw[ho,gw,ak hb])
def QZ (ys:List W)(M:Mp)(dd:dm):Prop:=dH λ(n:Str) (a:Addr) (ds:List (Str×Int))=>cM (ys= [ws n,wr a]) (dd= .tell n ds) (M a=some (.lst (ds.map eC)))
def Q0 (ys:List W)(_:Mp)(dd:dm):Prop:=dH λ(n x y:Str)=>ys= [ws n,ws x,ws y] /\ dd= .join n x y
def Q2 (ys:List W)(_:Mp)(dd:dm):Prop:=ca λ(n x:Str)=>ys= [ws n,ws x] /\ dd= .back n x
def MT (ys:List W)(_:Mp)(dd:dm):Prop:=dH λ(n x:Str) (k:Int)=>ys= [ws n,ws x,wi k] /\ dd= .times n x k
def Q1 (ys:List W)(_:Mp)(dd:dm):Prop:= ∃n:Str,ys= [ws n] /\ dd= .drop n
def EH (B C X:Addr):fg:=λxs M q e=>se λ(b la lu lh now:Addr)=>fF λ(p:Int) (pa un he:List Addr)=>dH λ(R:Rm) (T:Tm) (n:Str)=>fo (xs= [wr b,ws n]) (Bk B C M b la lu lh p now pa un he R T) (n.length<=100) (∀a,c7 R n=some a ->q (fI a) M) (c7 R n=none ->e X M)
def Hx (B C:Addr):fh:=λxs M q=>se λ(b la lu lh now:Addr)=>fF λ(p:Int) (pa un he:List Addr)=>ca λ(R:Rm) (T:Tm)=>eu (xs= [wr b]) (Bk B C M b la lu lh p now pa un he R T) (R.length<=1000) (∀ (u:Addr) (ns:List Str),M u=none ->ns.Perm (R.map (·.1)) ->ns.Pairwise (λx y=>¬y.cps.toList<x.cps.toList) ->q (wr u) (um M u (.lst (ns.map ws))))
def HB (B C:Addr):fh:=λxs M q=>se λ(b la lu lh now:Addr)=>fF λ(p:Int) (pa un he:List Addr)=>ca λ(R:Rm) (T:Tm)=>eu (xs= [wr b]) (Bk B C M b la lu lh p now pa un he R T) (T.length<=1000) (∀ (u:Addr) (ns:List Str),M u=none ->ns.Perm (T.map (·.1)) ->ns.Pairwise (λx y=>¬y.cps.toList<x.cps.toList) ->q (wr u) (um M u (.lst (ns.map ws))))
theorem S3 {a n:Str}(h:a.length<=100)(hn:n.length<=100):(a++n).length<=sizeLine:=du (by rw[ko];omega)
theorem S2 {a n c:Str}(h:a.length<=100)(hn:n.length<=100)(hc:c.length<=100):(a++n++c).length<=sizeLine:=du (by rw[ko,ko];omega)
theorem v_ {lo hi:Int}: ∀ {l:Pt} {a:Int},l.Pairwise (λx y=>x.1<y.1) ->(∀z∈l,a<=z.1 /\ z.1<=hi) ->a<=hi+1 ->(l.length:Int) <=hi+1 - a
 | [],a,_,_,h=>by simp;omega
 | z::l,a,hp,hb,h=>by have h0:=hb z (by simp);have:=v_ (lo:=lo) (hi:=hi) (l:=l) (a:=z.1+1) (bO.mp hp).2 (λy hy=>⟨by have:=(bO.mp hp).1 y hy;omega,(hb y (by simp[hy])).2⟩) (by omega);rw[aB];push_cast;omega
theorem IH {a:Rd}{p:Int}(h:jN a 200 200=false)(hp:df p a.2):a.2.length<=401:=by unfold jN at h;rw[Bool.not_eq_false',cR,List.all_eq_true] at h;have:=v_ (lo:=0) (hi:=200) (a:= -200) hp.2 (λz hz=>by have:=bJ (h.2 z hz);split at this<;>omega) (by decide);omega
theorem nK.put {p:Int}{R:Rm}{T:Tm}{n:Str}{a:Rd}(h:nK p R)(hl:R.length<1000)(ha:df p a.2)(hb:cT T n a=false):nK p (kC R n a):=by
 have hf:jN a 200 200=false:=by unfold cT at hb;rw[Bool.or_eq_false_iff] at hb;exact hb.1
 exact⟨Lz h.nd,av (Ak _ _ _) hl,λz hz=>(Aj hz).elim (h.ok z) λe=>by rw[e];exact⟨ha,IH hf ha,hf⟩⟩
theorem nK.del {p:Int}{R:Rm}{n:Str}(h:nK p R):nK p (qR R n):=⟨MZ h.nd,av (Bb _ _) h.len,λz hz=>h.ok z (Ba hz)⟩
theorem kf {x:Str}:fE x↔ ∀c∈x.cps.toList,c<128:=by unfold fE;rw[<- Array.all_toList,List.all_eq_true];simp only[cU]
theorem Nm.app {x y:Str}(hx:fE x)(hy:fE y):fE (x++y):=by rw[kf] at*;intro c hc;rw[Bo] at hc;exact(a_.mp hc).elim (hx c) (hy c)
theorem xH {x:Str}{lo hi:Option Int}(hx:fE x):fE (Txt.slice x lo hi):=by unfold Txt.slice;split;exact hx;rw[kf] at*;intro c hc;rw[List.mem_filterMap] at hc;obtain⟨i,_,hi⟩:=hc;exact hx c (Array.mem_toList_iff.mpr (Array.mem_of_getElem? hi))
theorem Gh {x:Str}{n:Nat}(hx:fE x):fE (f_ x n):=by
 unfold f_;split;decide+kernel;split;exact hx;rw [kf] at*;have: ∀ (n:Nat) (a:Array Nat),(∀c∈a.toList,c<128) -> ∀c∈((List.replicate n x.cps).foldl (· ++ ·) a).toList,c<128:=by
  intro n;induction n with
  | zero=>intro a ha c hc;exact ha c hc
  | succ n ih=>intro a ha c hc;rw[List.replicate_succ,List.foldl_cons] at hc;refine ih (a++x.cps) (λc hc=> ?_) c hc;rw[bG] at hc;exact(a_.mp hc).elim (ha c) (hx c)
 exact this n #[] (by simp)
theorem BB {x:Str}{n:Nat}:(f_ x n).length<=n*x.length:=by unfold f_;split;show 0<=_;omega;split;rename_i h0 h;rcases h with h | h;subst h;omega;rw[h];omega;rw[Ac];exact ao _
theorem Gi {ss:List Str}{gR:Str}(h0:fE gR)(h: ∀x∈ss,fE x):fE (Builtin.Str.glued gR ss):=by
 cases ss with
 | nil=>rw[tt];decide+kernel
 | cons x ss=>rw[kf];intro c hc;rw[tw,a_] at hc;rcases hc with hc | hc;exact kf.mp (h x (by simp)) c hc;obtain⟨l,hl,hc⟩:=List.mem_flatten.mp hc;obtain⟨y,hy,rfl⟩:=List.mem_map.mp hl;rcases a_.mp hc with hc | hc;exact kf.mp h0 c hc;exact kf.mp (h y (by simp[hy])) c hc
theorem EX {i:Int}(h0:0<=i)(h1:i<26): ∃c,ix vx.cps.toList i=some c /\ fE ⟨#[c]⟩:=by
 have hl:vx.cps.toList.length=26:=by decide+kernel
 have hj:i.toNat<vx.cps.toList.length:=by omega
 have ha: ∀c∈vx.cps.toList,c<128:=by decide+kernel
 refine⟨vx.cps.toList[i.toNat],mL h0 (aD hj),kf.mpr λc hc=> ?_⟩;have e:c=vx.cps.toList[i.toNat]:= ⇑hc;rw[e];exact ha _ (List.getElem_mem _)
def Hw:fh:=λxs M q=>dH λ(d l:Addr) (m:Int)=>fo (xs= [wr d,wi m]) (Dr M d l) (0<=m) (m<=20) (∀ (u:Addr) (ns:List Str) (M':Mp),M' u=some (.lst (ns.map ws)) ->(ns.length:Int)=m ->(∀n∈ns,Nm n) ->u≠d ->u≠l ->Dr M' d l ->q (wr u) M')
end WQ
namespace WL
open PySem L2
section
variable {K:PySem.W.Frag}
def DD:WM:=λx ys M q=>ca λa l=>eu (x=wr a) (ys= []) (M a=some (.lst l)) (q wn (um M a (.lst [])))
instance:IM K Es DD where
 imp:=by
  rintro x v ys us M H q Q m r1 r2 ⟨a,l,rfl,rfl,ha,h⟩ k;cases r1.eq;obtain⟨vs,hv,rr⟩:=m a _ ha;have e:us= []:=by simpa only[cy] using r2
  subst e;exact⟨a,vs,rfl,rfl,hv,k _ _ _ _ h (iA hv) (m.putL hv cy.nil) WR.v⟩
theorem Ou {a:Addr}{M:Mp}{q:WK}:DD (.v (.ref a)) [] M q=lstK (M a) λ_=>q wn (um M a (.lst [])):=by apply propext;constructor;rintro⟨_,l,h1,_,h2,k⟩;cases h1;exact⟨l,h2,k⟩;rintro⟨l,h2,k⟩;exact⟨_,l,rfl,rfl,h2,k⟩
end
end WL
namespace WQ
open PySem L2 WL WP
theorem Qj (x:Str):Ko (.str x) [.str "go", .str "turn"]=(decide (x= "go") || decide (x= "turn")):=by
 show(Dj (.str "go") (.str x) || (Dj (.str "turn") (.str x) || false))=_;rw[Bool.or_false,Bool.eq_iff_iff,Bool.or_eq_true,Bool.or_eq_true,cU,cU];have e: ∀y:Str,Dj (.str y) (.str x)=true↔x=y:=λy=>by simp[Dj];exact eq_comm
 rw[e,e]
theorem uY:IV ws Dt.str:=λ_=>rfl
theorem FM (l:List Str):nG (.lst (l.map Dt.str)) <=50:=by
 have: ∀l:List Str,i_ (l.map Dt.str) <=1:=λl=>by
  induction l with
  | nil=>simp[i_]
  | cons x l ih=>simp[i_,nG];omega
 have:=this l;simp only[nG];omega
theorem Lp {p:fg}{xs:List W}{M:Mp}{q:WK}(h:p xs M q λ_ _=>False):qY (O5 p) xs M q:=h
theorem lQ {xs:List W}{y:Int}{k:W ->Prop}(P:W ->Prop)(h0:0<=y)(h1:y<xs.length)(hP: ∀x∈xs,P x)(hk: ∀x,P x ->k x):lR (ix xs y) k:=by
 have hj:y.toNat<xs.length:=by omega
 exact⟨xs[y.toNat],mL h0 (aD hj),hk _ (hP _ (List.getElem_mem _))⟩
def El (M:Mp)(h:Addr):Mp:=λa=>if a=h then none else M a
theorem m7 {M:Mp}{h a:Addr}(n:a≠h):El M h a=M a:=aj n
theorem Hl {M M2:Mp}{h:Addr}{o:MO}(s:Sm M M2):Sm (El M h) (um M2 h o):=λa u e=>by by_cases n:a=h;subst n;unfold El at e;rw[ak rfl] at e;cases e;rw[m7 n] at e;rw[aN n];exact s _ _ e
theorem Bk.El {B C b la lu lh now h:Addr}{M:Mp}{p:Int}{pa un he:List Addr}{R:Rm}{T:Tm}{l:List W}(hB:Bk B C M b la lu lh p now pa un he R T)(hh:M h=some (.lst l))(n1:la≠h)(n2:lu≠h)(n3:lh≠h):Bk B C (El M h) b la lu lh p now pa un he R T:=by
 obtain⟨⟨dx,h1⟩,h2,h3,h4,h5,mq,r,t,h6,h7,h8⟩:=hB;have ni: ∀ {a:Addr} {o:MO},M a=some o ->(∀l,o≠ .lst l) ->WQ.El M h a=some o:=λ{a o} e n=>by rw[m7 (λz=>by subst z;rw[e] at hh;cases hh;exact n _ rfl)];exact e
 exact⟨⟨dx,ni h1 (λ_ z=>nomatch z)⟩,by rw[m7 n1];exact h2,by rw[m7 n2];exact h3,by rw[m7 n3];exact h4,h5,mq,r,t,ni h6 (λ_ z=>nomatch z),ni h7 (λ_ z=>nomatch z),ni h8 (λ_ z=>nomatch z)⟩
theorem zx.El {b la h:Addr}{M M1 M':Mp}(F:zx b la M1 M')(s:Sm M M1)(hh:M h=none):zx b la M (El M' h):=λa o e n1 n2=>by rw[m7 (cb e hh)];exact F a o (s a o e) n1 n2
def DV (M:Mp):dm ->W ->Prop
 | .tell n ds,w=> ∃a:Addr,w= .tup [ws "tell",ws n,wr a] /\ M a=some (.lst (ds.map eC))
 | .join n x y,w=>w= .tup [ws "join",ws n, .tup [ws x,ws y]]
 | .back n x,w=>w= .tup [ws "back",ws n, .tup [ws x],wi (-1)]
 | .times n x k,w=>w= .tup [ws "times",ws n, .tup [ws x],wi k]
 | .drop n,w=>w= .tup [ws "drop",ws n]
theorem DV.mv {M M':Mp}{dd:dm}{w:W}(h:DV M dd w)(f: ∀a l,M a=some (.lst l) ->(∃n,w= .tup [ws "tell",n,wr a]) ->M' a=some (.lst l)):DV M' dd w:=by
 cases dd with
 | tell n ds=>obtain⟨a,rfl,ha⟩:=h;exact⟨a,rfl,f a _ ha ⟨_,rfl⟩⟩
 | _=>exact h
theorem DV.sm {M M':Mp}{dd:dm}{w:W}(h:DV M dd w)(s:Sm M M'):DV M' dd w:=h.mv λa l e _=>s a _ e
noncomputable def fO (p:Int) (R:Rm):dm ->Option Rd
 | .tell _ ds=>some ((dN ds).1,nq p (dN ds).2)
 | .join _ x y=>match c7 R x,c7 R y with
  | some a,some b=>some (jn p a b)
  | _,_=>none
 | .back _ x=>(c7 R x).map λa=>En p a (-1)
 | .times _ x k=>(c7 R x).map λa=>En p a k
 | .drop _=>none
def yM:dm ->Str
 | .tell n _=>n | .join n _ _=>n | .back n _=>n | .times n _ _=>n | .drop n=>n
def kdOf:dm ->Str
 | .tell _ _=> "tell" | .join _ _ _=> "join" | .back _ _=> "back" | .times _ _ _=> "times" | .drop _=> "drop"
def Hz:fh:=λxs M q=> ∃n:Str,cM (xs= [ws n]) (Nm n) (q (wb (cD n)) M)
def Py:fh:=λxs M q=>dH λ(a:Rd) (m r:Int)=>cM (xs= [fI a,wi m,wi r]) (a.2.length<=1000000) (q (wb (jN a m r)) M)
def LK:fh:=λxs M q=>se λ(p:Int) (r:Addr) (R:Rm) (dd:dm) (w:W)=>Dk (xs= [wi p,wr r,w]) (p=2 \/ p=3 \/ p=5 \/ p=7) (M r=some (.dK (sN R))) (nK p R) (DV M dd w) (zG dd) ((fO p R dd).isSome=true) (∀a,fO p R dd=some a ->df p a.2 ->a.2.length<=1000000 ->q (fI a) M)
def Pz:fh:=λxs M q=>XE7 λ(p:Int) (r t:Addr) (R:Rm) (T:Tm) (dd:dm) (w:W)=>Dk (xs= [wi p, .tup [wr r,wr t],w]) (p=2 \/ p=3 \/ p=5 \/ p=7) (M r=some (.dK (sN R)) /\ M t=some (.dK (BA T))) (nK p R /\ T= []) (DV M dd w) (zG dd) (∀R',bR p R T dd= .ok R' ->nK p R /\ (R.length<1000 ->nK p R') -> ∀r' M',Sm M M' ->M r'=none ->M' r'=some (.dK (sN R')) ->q (.tup [ws "", .tup [wr r',wr t]]) M') (∀f,bR p R T dd= .bad f ->q (.tup [ws (ND f), .tup [wr r,wr t]]) M)
theorem pH {p:Int}{R:Rm}{T:Tm}{dd:dm}(h:cD (yM dd)=false)(hd: ∀n,dd≠ .drop n):bR p R T dd= .bad .BadName:=by
 cases dd with
 | drop n=>exact absurd rfl (hd n)
 | _=>rw[bR];exact ak h
theorem uR {p:Int}(p0:0<p){R:Rm}{T:Tm}{dd:dm}{a:Rd}(h:cD (yM dd)=true)(hg: ∀n ds,dd= .tell n ds ->fL ds=true)(hv:fO p R dd=some a):bR p R T dd=gw R T (yM dd) a:=by
 have hn:¬cD (yM dd)=false:=by rw[h];decide
 cases dd with
 | tell n ds=>replace hn:¬cD n=false:=hn;rw[bR,aj hn,aj (by rw[hg n ds rfl];decide)];cases hv;rfl
 | join n x y=>
  replace hn:¬cD n=false:=hn;rw[bR,aj hn];rw[fO] at hv;cases hx:c7 R x with
  | none=>rw[hx] at hv;cases hv
  | some a1=>
   cases hy:c7 R y with
   | none=>rw[hx,hy] at hv;cases hv
   | some a2=>rw[hx,hy] at hv;cases hv;rfl
 | back n x=>
  replace hn:¬cD n=false:=hn;rw[bR,aj hn];rw[fO] at hv;cases hx:c7 R x with
  | none=>rw[hx] at hv;cases hv
  | some a1=>rw[hx] at hv;cases hv;show gw R T n (bk p a1)=gw R T n (En p a1 (-1));rw[Ad p0 (Lu p0)]
 | times n x k=>
  replace hn:¬cD n=false:=hn;rw[bR,aj hn];rw[fO] at hv;cases hx:c7 R x with
  | none=>rw[hx] at hv;cases hv
  | some a1=>rw[hx] at hv;cases hv;rfl
 | drop n=>cases hv
theorem Ax {R:Rm}{T:Tm}{n:Str}{a:Rd}{r:Rf}(h:gw R T n a= .bad r):r= .TooFar:=by unfold gw at h;split at h;cases h;rfl;cases h
theorem PN {p:Int}{R:Rm}{T:Tm}{dd:dm}{r:Rf}(h:bR p R T dd= .bad r):r= .BadName \/ r= .NoDeed \/ r= .NoRound \/ r= .InUse \/ r= .TooFar:=by
 cases dd<;>rw[bR] at h;all_goals
  repeat' split at h
  all_goals first
  | (cases h;done)
  | (cases h;simp;done)
  | (have:=Ax h;simp[this];done)
theorem HI {p:Int}{R:Rm}{T:Tm}{n:Str}{ds:List (Str×Int)}{r:Rf}(h:bR p R T (.tell n ds)= .bad r):r= .BadName \/ r= .NoDeed \/ r= .TooFar:=by
 rw[bR] at h;repeat' split at h
 all_goals first
 | (cases h;simp;done)
 | (have:=Ax h;simp[this];done)
def IJ (la:Addr)(w:W):Prop:= ∀n,w≠ .tup [ws "tell",n,wr la]
def UM (B C:Addr)(vv:Rf ->Addr):fg:=λxs M q e=>se λ(b la lu lh now:Addr)=>fF λ(p:Int) (pa un he:List Addr)=>fF λ(R:Rm) (T:Tm) (dd:dm) (w:W)=>Dk (xs= [wr b,w]) (DV M dd w) (IJ la w) (zG dd) (Bk B C M b la lu lh p now pa un he R T) (De p R T pa) (∀R',bR p R T dd= .ok R' ->Bt B C M b la lh p now pa he R' T q) (∀r,bR p R T dd= .bad r ->e (vv r) M)
def LU (B C:Addr):fh:=λxs M q=>se λ(b la lu lh now:Addr)=>fF λ(p:Int) (pa un he:List Addr)=>fF λ(R:Rm) (T:Tm) (dd:dm) (w:W)=>Dk (xs= [wr b,w]) (DV M dd w) (IJ la w) (zG dd) (Bk B C M b la lu lh p now pa un he R T) (De p R T pa) (∀R',bR p R T dd= .ok R' ->Bt B C M b la lh p now pa he R' T λ_ M'=>q (.tup [ws "",wn]) M') (∀r,bR p R T dd= .bad r ->q (.tup [ws (ND r),wn]) M)
def Pw (B C:Addr):fh:=λxs M q=>se λ(b la lu lh now:Addr)=>fF λ(p:Int) (pa un he:List Addr)=>S' λ(R:Rm) (T:Tm) (n:Str) (ds:List (Str×Int)) (w:W) (r:Rf)=>Dk (xs= [wr b,w]) (DV M (.tell n ds) w) (IJ la w) (zG (.tell n ds)) (Bk B C M b la lu lh p now pa un he R T) (De p R T pa) (bR p R T (.tell n ds)= .bad r) (q (wb true) M)
def uE (B C:Addr):fh:=λxs M q=>XE7 λ(b la lu lh now r t:Addr)=>fF λ(p:Int) (pa un he:List Addr)=>ca λ(R:Rm) (T:Tm)=>kz (xs= [wi p,wr b, .tup [wr r,wr t]]) (Bk B C M b la lu lh p now pa un he R T) (M r=some (.dK (sN R)) /\ M t=some (.dK (BA T))) (nK p R) (T= [] /\ ∀z∈R,z.1.length<=100) (q (wb true) M)
def HA:fh:=λxs M q=>ca λ(d l:Addr)=>cM (xs= [wr d]) (Dr M d l) (∀ (u:Addr) (ds:List (Str×Int)) (M':Mp),M u=none ->M' u=some (.lst (ds.map eC)) ->ds.length<=50 ->(∀z∈ds,z.1.length<=100) ->Dr M' d l ->Fs d M M' ->q (wr u) M')
def Av:fh:=λxs M q=>fF λ(d l nl:Addr) (ns:List Str)=>KS (xs= [wr d,wr nl]) (Dr M d l) (M nl=some (.lst (ns.map ws))) (nl≠d) (0<ns.length /\ ns.length<=100) (∀n∈ns,Nm n) (∀ (n:Str) (M':Mp),Nm n ->Dr M' d l ->NB d M M' ->q (ws n) M')
def LN:fh:=λxs M q=>fF λ(d l nl:Addr) (ns:List Str)=>KS (xs= [wr d,wr nl]) (Dr M d l) (M nl=some (.lst (ns.map ws))) (nl≠d) (0<ns.length /\ ns.length<=100) (∀n∈ns,Nm n) (∀ (dd:dm) (w:W) (M':Mp),DV M' dd w ->zG dd ->(∀a n,w= .tup [ws "tell",n,wr a] ->M a=none) ->Dr M' d l ->Fs d M M' ->q w M')
def Pr (B C X:Addr):fg:=λxs M q e=>se λ(b la lu lh now:Addr)=>fF λ(p:Int) (pa un he:List Addr)=>dH λ(R:Rm) (T:Tm) (n:Str)=>fo (xs= [wr b,ws n]) (Bk B C M b la lu lh p now pa un he R T) (n.length<=100) (∀a,c7 T n=some a ->q (vG a) M) (c7 T n=none ->e X M)
def EI (B C X:Addr):fg:=λxs M q e=>se λ(b la lu lh now:Addr)=>fF λ(p:Int) (pa un he:List Addr)=>dH λ(R:Rm) (T:Tm) (n:Str)=>fo (xs= [wr b,ws n]) (Bk B C M b la lu lh p now pa un he R T) (n.length<=100) (∀a,c7 T n=some a -> ∀u,M u=none ->q (wr u) (um M u (.lst (a.map ws)))) (c7 T n=none ->e X M)
theorem uG {R R':Rm}{T:Tm}{n:Str}{a:Rd}(h:gw R T n a= .ok R'):R'=kC R n a:=by unfold gw at h;split at h;cases h;cases h;rfl
theorem PP {p:Int}{R R':Rm}{T:Tm}{dd:dm}(h:bR p R T dd= .ok R'):(∃a,R'=kC R (yM dd) a /\ cD (yM dd)=true) \/ R'=qR R (yM dd):=by
 cases dd<;>rw[bR] at h;case drop n=>
  repeat' split at h
  all_goals first
  | (cases h;done)
  | (cases h;exact .inr rfl)
 all_goals
  repeat' split at h
  all_goals first
  | (cases h;done)
  | (rename_i h1 _;refine .inl ⟨_,uG h,?_⟩;exact(Bool.not_eq_false _).mp h1)
  | (rename_i h1 _ _ _;refine .inl ⟨_,uG h,?_⟩;exact(Bool.not_eq_false _).mp h1)
  | (rename_i h1 _ _ _ _ _ _;refine .inl ⟨_,uG h,?_⟩;exact(Bool.not_eq_false _).mp h1)
theorem EV {n:Str}(h:cD n=true):n.length<=100:=by unfold cD at h;rw[cR,cR] at h;have:=bJ h.1.2;omega
theorem HJ {p:Int}{R R':Rm}{T:Tm}{dd:dm}(h:bR p R T dd= .ok R')(hk: ∀z∈R,z.1.length<=100):(∀z∈R',z.1.length<=100) /\ R'.length<=R.length+1:=by
 rcases PP h with⟨a,rfl,hn⟩ | rfl
 exact⟨λz hz=>(Aj hz).elim (hk z) λe=>by rw[e];exact EV hn,Ak _ _ _⟩;exact⟨λz hz=>hk z (Ba hz),av (Bb _ _) (by omega)⟩
theorem DV.head {M:Mp}{dd:dm}{w:W}(h:DV M dd w): ∃dh,w= .tup (ws (kdOf dd)::dh):=by
 cases dd with
 | tell n ds=>obtain⟨a,rfl,_⟩:=h;exact⟨_,rfl⟩
 | _=>cases h;exact⟨_,rfl⟩
theorem Bk.fs {B C b la lu lh now d:Addr}{M M':Mp}{p:Int}{pa un he:List Addr}{R:Rm}{T:Tm}{x:List W}(hB:Bk B C M b la lu lh p now pa un he R T)(F:Fs d M M')(hd:M d=some (.lst x))(n1:la≠d)(n2:lu≠d)(n3:lh≠d):Bk B C M' b la lu lh p now pa un he R T:=by obtain⟨⟨dx,h1⟩,h2,h3,h4,h5,mq,r,t,h6,h7,h8⟩:=hB;have ni: ∀ {a:Addr} {o:MO},M a=some o ->(∀l,o≠ .lst l) ->M' a=some o:=λ{a o} e n=>F a o e (λz=>by subst z;rw[e] at hd;cases hd;exact n _ rfl);exact⟨⟨dx,ni h1 (λ_ z=>nomatch z)⟩,F _ _ h2 n1,F _ _ h3 n2,F _ _ h4 n3,h5,mq,r,t,ni h6 (λ_ z=>nomatch z),ni h7 (λ_ z=>nomatch z),ni h8 (λ_ z=>nomatch z)⟩
theorem Fs.IN {d r:Addr}{M M':Mp}{x:List W}{kvs:List (b8×W)}(F:Fs d M M')(hd:M d=some (.lst x))(h:M r=some (.dK kvs)):M' r=some (.dK kvs):=F _ _ h λz=>by subst z;rw[hd] at h;cases h
theorem A8 {M M':Mp}{d l:Addr}(h:Dr M d l)(s:Sm M M'):Dr M' d l:=by obtain⟨ns,i,c,sd,h1,h2,h3,h4⟩:=h;exact⟨ns,i,c,sd,s _ _ h1,s _ _ h2,h3,h4⟩
theorem MX {M M':Mp}{d l b la B dx:Addr}{fs:List (Str×W)}(h:Dr M d l)(F:zx b la M M')(hb:M b=some (.ins B dx fs))(n1:la≠d)(n2:la≠l):Dr M' d l:=by obtain⟨ns,i,c,sd,h1,h2,h3,h4⟩:=h;exact⟨ns,i,c,sd,F _ _ h1 (λz=>by subst z;rw[hb] at h1;cases h1) n1.symm,F _ _ h2 (λz=>by subst z;rw[hb] at h2;cases h2) n2.symm,h3,h4⟩
theorem A9 {M:Mp}{d l:Addr}(h:Dr M d l): ∃x,M d=some (.lst x):=by obtain⟨ns,i,c,sd,h1,h2,h3,h4⟩:=h;exact⟨_,h1⟩
theorem Pc (f:Rf):ND f≠ "" :=by cases f<;>decide+kernel
theorem Ih {dd:dm}(h:kdOf dd= "tell"): ∃n ds,dd= .tell n ds:=by
 cases dd with
 | tell n ds=>exact⟨n,ds,rfl⟩
 | join n x y=>exact absurd h (by show ¬(("join" :Str)= "tell");decide+kernel)
 | back n x=>exact absurd h (by show ¬(("back" :Str)= "tell");decide+kernel)
 | times n x k=>exact absurd h (by show ¬(("times" :Str)= "tell");decide+kernel)
 | drop n=>exact absurd h (by show ¬(("drop" :Str)= "tell");decide+kernel)
end WQ
set_option synthInstance.maxSize 100000
set_option synthInstance.maxHeartbeats 0
open PySem L2 WL WP WQ PyProof.Rows
local macro_rules | `(tactic| simp? [$xs,*]) => do let a <- ("U6 aaV UQ aa2 Ve Vf abq UI Uo U' U9 Tw Tv Tu Tt Ts Tr Tq Tp To Tn RM RL RK RJ RI RH RG RF RE RD RC RB RA Rz abB aa' aa7 abA abe abz abh abb abg aba RP Ue aa9 TC R1 TB RT Ov TD RY Tx TH TR TN Nt Vh RS aa8 abi R0 TK TJ Ug Nv Nu K1 TU abj Ub Ny Nw T_ RW RX T9 Nx Oq Si Sl UB abk UE UD O9 UC R9 Uk R_ Ui Uj RQ SK Vb UR SJ RZ Tl Ot R8 Uu Ua TY TX abd abc Vd Uz Uy TZ Sk Vi O_ Vc TQ Tz TV Nr RV Oo SM SI abf Oe RU Ox N_ RO RN Op Ou".splitOn " ").toArray.mapM λs => `(Lean.Parser.Tactic.simpLemma| ↓ $(Lean.mkIdent s.toName):term); let b <- ("Km Ib Kl GR Ia Ig GU Ie Fa GS Kk HY Kj GO HX Cj AQ Ci yX AO GN E9 GL Dg E8 H_ GQ HZ E_ GP sl1 Ux sl3 sl4 sl5 sl0 List.map_cons List.map_nil List.length_cons List.length_nil Nat.zero_add List.cons_append List.nil_append List.set_cons_zero List.set_cons_succ au kN abx abw abv abu abo abn abm Bool.not_true Bool.not_false List.getElem?_cons_zero List.getElem?_cons_succ Option.join_some and_self and_true true_and Option.getD_some Option.getD_none Sa mH".splitOn " ").toArray.mapM λs => `(Lean.Parser.Tactic.simpLemma| $(Lean.mkIdent s.toName):term); `(tactic| try simp only [$a,*, $b,*, Nat.reduceAdd, Nat.reduceSub, List.reduceReplicate, $xs,*])
local macro_rules | `(tactic| dsimp? [$xs,*]) => `(tactic| (simp? [↓cg, $xs,*]; repeat (with_reducible refine eo ?_; simp? [↓cg, $xs,*])))
local macro_rules | `(tactic| trivial) => `(tactic| first | exact Or.inl rfl | exact Or.inr rfl)
local macro_rules | `(tactic| right) => `(tactic| decide +kernel)
local macro_rules | `(tactic| left) => `(tactic| (intro _ _ _ h; (repeat (cases h; rename_i h)); subst_vars; rfl))
set_option hygiene false
local macro_rules | `(tactic| exists $a, $n, $c) => `(tactic| (have nd : List.Nodup ($n : List Str) := (by decide +kernel); refine US (N := $n) $a ⟨rfl, rfl, rfl, nd, rfl, by decide +kernel, by decide +kernel⟩ (by left) λcdv A' outer s H E hr => ?_; refine ⟨_, $c, ?_⟩; (try dsimp only [d4]); refine ⟨_, inferInstance, ?_⟩))
set_option hygiene true
namespace ed
open PySem L2 WL WP WQ PyProof.Rows
def top (i:Nat):Stmt:=PySem.Challenge.pw_duskround_k44_rounds_of_a_book.main.body.getD i (.Pass ⟨0,0,0,0⟩)
abbrev yt:Stmt:=top 15
abbrev Aa:Stmt:=top 16
abbrev ul:Stmt:=top 17
abbrev uk:Stmt:=top 18
abbrev yu:Stmt:=top 21
abbrev vY:Stmt:=top 22
abbrev qd:Stmt:=top 23
abbrev gb:Stmt:=top 24
abbrev gJ:Stmt:=top 25
abbrev nV:Stmt:=top 53
abbrev iD:Stmt:=top 64
abbrev lF:Stmt:=top 65
abbrev sI:Stmt:=top 66
abbrev Eg:Stmt:=dJ (top 67) 0
abbrev Eh:Stmt:=dJ (top 68) 0
abbrev iR:Stmt:=dJ (top 68) 1
abbrev jo:Stmt:=dJ (top 68) 2
abbrev lc:Stmt:=dJ (top 68) 3
abbrev iS:Stmt:=dJ (top 68) 4
abbrev iT:Stmt:=dJ (top 68) 5
abbrev jq:Stmt:=dJ (top 68) 6
abbrev jp:Stmt:=dJ (top 68) 7
abbrev gd:Stmt:=dJ (top 68) 8
abbrev ge:Stmt:=dJ (top 68) 9
abbrev fG:Stmt:=dJ (top 68) 10
abbrev jr:Stmt:=dJ (top 68) 11
abbrev lJ:Stmt:=dJ (top 68) 12
abbrev ju:Stmt:=dJ (top 68) 13
abbrev kQ:Stmt:=dJ (top 68) 14
abbrev jt:Stmt:=dJ (top 68) 15
abbrev nY:Stmt:=dJ (top 68) 16
abbrev nZ:Stmt:=dJ (top 68) 17
abbrev n6:Stmt:=dJ (top 68) 18
abbrev gZ:Stmt:=dJ (top 68) 19
abbrev lI:Stmt:=dJ (top 68) 21
abbrev lK:Stmt:=dJ (top 68) 22
abbrev fH:Stmt:=dJ (top 68) 23
abbrev gc:Stmt:=dJ (top 68) 24
abbrev mZ:Stmt:=top 70
abbrev vT:Stmt:=top 71
abbrev JS:Stmt:=top 72
abbrev sL:Stmt:=top 73
abbrev vS:Stmt:=top 74
abbrev z7:Stmt:=top 75
abbrev vV:Stmt:=top 76
abbrev vX:Stmt:=top 77
abbrev sK:Stmt:=top 78
abbrev nT:Stmt:=top 79
abbrev z_:Stmt:=top 80
abbrev vR:Stmt:=top 81
abbrev sJ:Stmt:=top 82
abbrev kP:Stmt:=top 83
abbrev uo:Stmt:=top 84
abbrev vW:Stmt:=top 85
abbrev z8:Stmt:=top 86
abbrev jl:Stmt:=top 87
abbrev lH:Stmt:=top 88
abbrev qc:Stmt:=top 89
abbrev jm:Stmt:=top 90
abbrev qb:Stmt:=top 91
abbrev jk:Stmt:=top 92
abbrev vU:Stmt:=top 93
abbrev Ef:Stmt:=top 94
set_option genInjectivity false in
set_option genSizeOf false in
structure Ti where
 FD:Addr
 FQ:FuncData
 A6:Addr
 Bn:FuncData
 A1:Addr
 Bh:FuncData
 A0:Addr
 Bg:FuncData
 FE:Addr
 FR:FuncData
 xk:Addr
 xy:FuncData
 qL:Addr
 qU:FuncData
 gi:Addr
 gj:FuncData
 kU:Addr
 kY:FuncData
 ox:Addr
 oG:FuncData
 mj:Addr
 mD:FuncData
 mf:Addr
 mB:FuncData
 tE:Addr
 tK:FuncData
 FF:Addr
 FS:FuncData
 FG:Addr
 FT:FuncData
 iY:Addr
 i6:FuncData
 jR:Addr
 j6:FuncData
 qM:Addr
 qV:FuncData
 pe:Addr
 pf:FuncData
 i0:Addr
 i8:FuncData
 oA:Addr
 oJ:FuncData
 oz:Addr
 oI:FuncData
 jT:Addr
 j8:FuncData
 jW:Addr
 ka:FuncData
 iX:Addr
 i5:FuncData
 oE:Addr
 oN:FuncData
 mm:Addr
 mF:FuncData
 jV:Addr
 j_:FuncData
 kX:Addr
 k7:FuncData
 jU:Addr
 j9:FuncData
 oy:Addr
 oH:FuncData
 oB:Addr
 oK:FuncData
 oC:Addr
 oM:FuncData
 im:Addr
 iq:FuncData
 ml:Addr
 mE:FuncData
 mn:Addr
 mG:FuncData
 iZ:Addr
 i7:FuncData
 jS:Addr
 j7:FuncData
 tI:Addr
 tO:FuncData
 xf:Addr
 xt:FuncData
 KD:Addr
 KI:FuncData
 tH:Addr
 tN:FuncData
 xc:Addr
 xr:FuncData
 A2:Addr
 Bi:FuncData
 xh:Addr
 xv:FuncData
 xj:Addr
 xx:FuncData
 tG:Addr
 tM:FuncData
 ou:Addr
 oF:FuncData
 A5:Addr
 Bm:FuncData
 xb:Addr
 xq:FuncData
 tF:Addr
 tL:FuncData
 kW:Addr
 kZ:FuncData
 A3:Addr
 Bj:FuncData
 xi:Addr
 xw:FuncData
 A4:Addr
 Bl:FuncData
 jP:Addr
 jZ:FuncData
 mh:Addr
 mC:FuncData
 qK:Addr
 qT:FuncData
 jQ:Addr
 j5:FuncData
 qJ:Addr
 qS:FuncData
 jO:Addr
 jY:FuncData
 xg:Addr
 xu:FuncData
 KC:Addr
 KH:FuncData
 d_:Addr
 fZ:Addr
 gp:Addr
 eY:Addr
 qZ:Addr
 eL:Addr
 nI:Addr
 dM:Addr
 mJ:Addr
 c_:Addr
 kr:Addr
 bE:Addr
 aZ:Addr
structure e8 (K:PySem.W.Frag)(mg:Str ->Option Value)(A:Ti):Prop where
 oQ:mg "abs" =none
 tY:mg "all" =none
 KP:mg "any" =none
 Nd:mg "bool" =none
 zq:mg "dict" =none
 KO:mg "int" =none
 de:mg "isinstance" =none
 mK:mg "len" =none
 fe:mg "list" =none
 gI:mg "range" =none
 iu:mg "sorted" =none
 ku:mg "tuple" =none
 tidy:gP K mg "tidy" ["p","pairs"] yt A.FD A.FQ
 added:gP K mg "added" ["p","one","other"] Aa A.A6 A.Bn
 moved:gP K mg "moved" ["pattern","by"] ul A.A1 A.Bh
 timed:gP K mg "timed" ["p","pattern","n"] uk A.A0 A.Bg
 gone:gP K mg "gone" ["p","deeds"] yu A.FE A.FR
 joined:gP K mg "joined" ["p","one","other"] vY A.xk A.xy
 backward:gP K mg "backward" ["p","one"] qd A.qL A.qU
 repeated:gP K mg "repeated" ["p","one","n"] gb A.gi A.gj
 lies_within:gP K mg "lies_within" ["one","farthest_end","farthest_place"] gJ A.kU A.kY
 fits_crew:gP K mg "fits_crew" ["one"] nV A.ox A.oG
 check_name:gP K mg "check_name" ["name"] iD A.mj A.mD
 with_thing:gP K mg "with_thing" ["things","name","thing"] lF A.mf A.mB
 without:gP K mg "without" ["things","name"] sI A.tE A.tK
 Page:NY K mg "Page" "Page.__init__" ["self","rounds","teams"] Eg A.bE A.FF A.FS
 Book:NY K mg "Book" "Book.__init__" ["self","p"] Eh A.aZ A.FG A.FT
 k9:mO K "settings" "Book.settings" ["self"] iR A.aZ A.iY A.i6
 iM:mO K "turn_to" "Book.turn_to" ["self","page"] jo A.aZ A.jR A.j6
 kh:mO K "put" "Book.put" ["self","name","one"] lc A.aZ A.qM A.qV
 G3:mO K "put_team" "Book.put_team" ["self","crew","team"] iS A.aZ A.pe A.pf
 gQ:mO K "enlisted" "Book.enlisted" ["self","name"] iT A.aZ A.i0 A.i8
 t0:mO K "team" "Book.team" ["self","crew"] jq A.aZ A.oA A.oJ
 nO:mO K "tell" "Book.tell" ["self","name","deeds"] jp A.aZ A.oz A.oI
 mQ:mO K "join_as" "Book.join_as" ["self","name","one","other"] gd A.aZ A.jT A.j8
 mR:mO K "back_as" "Book.back_as" ["self","name","one"] ge A.aZ A.jW A.ka
 k8:mO K "times_as" "Book.times_as" ["self","name","one","n"] fG A.aZ A.iX A.i5
 t7:mO K "drop" "Book.drop" ["self","name"] jr A.aZ A.oE A.oN
 zF:mO K "found" "Book.found" ["self","crew"] lJ A.aZ A.mm A.mF
 vn:mO K "disband" "Book.disband" ["self","crew"] ju A.aZ A.jV A.j_
 x_:mO K "enlist" "Book.enlist" ["self","crew","name"] kQ A.aZ A.kX A.k7
 vm:mO K "dismiss" "Book.dismiss" ["self","crew","name"] jt A.aZ A.jU A.j9
 Db:mO K "undo" "Book.undo" ["self"] nY A.aZ A.oy A.oH
 Dc:mO K "redo" "Book.redo" ["self"] nZ A.aZ A.oB A.oK
 Dd:mO K "hold" "Book.hold" ["self"] n6 A.aZ A.oC A.oM
 rB:mO K "return_to" "Book.return_to" ["self","k"] gZ A.aZ A.im A.iq
 rC:mO K "names" "Book.names" ["self"] lI A.aZ A.ml A.mE
 rD:mO K "crews" "Book.crews" ["self"] lK A.aZ A.mn A.mG
 dB:mO K "round_of" "Book.round_of" ["self","name"] fH A.aZ A.iZ A.i7
 mP:mO K "members" "Book.members" ["self","crew"] gc A.aZ A.jS A.j7
 AJ:gP K mg "_law_begin" ["_law_script"] mZ A.tI A.tO
 dc:gP K mg "_law_take" ["_law_draw","_law_many"] vT A.xf A.xt
 l_p:gP K mg "_law_p" ["_law_draw"] JS A.KD A.KI
 AH:gP K mg "_law_names" ["_law_draw","_law_many"] sL A.tH A.tN
 uT:gP K mg "_law_tidy" ["_law_p_here","_law_pairs"] vS A.xc A.xr
 AG:gP K mg "_law_sum" ["_law_p_here","_law_one","_law_other","_law_by","_law_many"] z7 A.A2 A.Bi
 E2:gP K mg "_law_join" ["_law_p_here","_law_one","_law_other"] vV A.xh A.xv
 E5:gP K mg "_law_back" ["_law_p_here","_law_one"] vX A.xj A.xx
 AF:gP K mg "_law_times" ["_law_p_here","_law_one","_law_n"] sK A.tG A.tM
 sV:gP K mg "_law_is_name" ["_law_name"] nT A.ou A.oF
 E3:gP K mg "_law_far" ["_law_one","_law_most","_law_reach"] z_ A.A5 A.Bm
 EZ:gP K mg "_law_walk" ["_law_p_here","_law_deeds"] vR A.xb A.xq
 AE:gP K mg "_law_value" ["_law_p_here","_law_rounds","_law_deed"] sJ A.tF A.tL
 oj:gP K mg "_law_due_round" ["_law_p_here","_law_stand","_law_deed"] kP A.kW A.kZ
 Kg:gP K mg "_law_run" ["_law_book","_law_deed"] uo A.A3 A.Bj
 E4:gP K mg "_law_call" ["_law_book","_law_deed"] vW A.xi A.xw
 AI:gP K mg "_law_int" ["_law_thing"] z8 A.A4 A.Bl
 lZ:gP K mg "_law_is_pattern" ["_law_p_here","_law_thing"] jl A.jP A.jZ
 qy:gP K mg "_law_is_round" ["_law_p_here","_law_thing"] lH A.mh A.mC
 wN:gP K mg "_law_stands" ["_law_p_here","_law_book","_law_stand"] qc A.qK A.qT
 l0:gP K mg "_law_draw_deeds" ["_law_draw"] jm A.jQ A.j5
 lX:gP K mg "_law_target" ["_law_draw","_law_names_here"] qb A.qJ A.qS
 lY:gP K mg "_law_round_deed" ["_law_draw","_law_names_here"] jk A.jO A.jY
 E1:gP K mg "_law_left" ["_law_book","_law_deed"] vU A.xg A.xu
 law:gP K mg "law" ["_law_script"] Ef A.KC A.KH
 n_Book_held:dR K A.aZ "held"
 n_Book_now:dR K A.aZ "now"
 n_Book_p:dR K A.aZ "p"
 n_Book_past:dR K A.aZ "past"
 n_Book_undone:dR K A.aZ "undone"
 n_Page_rounds:dR K A.bE "rounds"
 n_Page_teams:dR K A.bE "teams"
 k_: ∃t,mg "FARTHEST" =some (.int 200 t)
 pV: ∃t,mg "FARTHEST_END" =some (.int 8 t)
 mW: ∃t,mg "FARTHEST_PLACE" =some (.int 24 t)
 jf: ∃t,mg "LONGEST_NAME" =some (.int 12 t)
 DH: ∃t,mg "MOST_MEMBERS" =some (.int 6 t)
 Bx: ∃t,mg "LETTERS" =some (.str "abcdefghijklmnopqrstuvwxyz" t)
 DO:Nh K mg "COUNTS" [2,3,5,7]
 NK:mg "BadName" =some (.ref A.d_)
 SG:mg "InUse" =some (.ref A.fZ)
 Qb:mg "NoCrew" =some (.ref A.gp)
 Qa:mg "NoDeed" =some (.ref A.eY)
 P_:mg "NoMore" =some (.ref A.qZ)
 NJ:mg "NoRound" =some (.ref A.eL)
 NI:mg "NoState" =some (.ref A.nI)
 GK:mg "StreetError" =some (.ref A.dM)
 SF:mg "Taken" =some (.ref A.mJ)
 P':mg "TooFar" =some (.ref A.c_)
 NH:mg "TooMany" =some (.ref A.kr)
 sx:ls K "BadName" A.d_
 zJ:ls K "InUse" A.fZ
 vz:ls K "NoCrew" A.gp
 vy:ls K "NoDeed" A.eY
 Dm:ls K "NoMore" A.qZ
 sw:ls K "NoRound" A.eL
 Bv:ls K "NoState" A.nI
 rH:ls K "StreetError" A.dM
 G4:ls K "Taken" A.mJ
 pR:ls K "TooFar" A.c_
 Bu:ls K "TooMany" A.kr
 i9:PySem.W.kitOne K (.ref A.d_) (.ref A.dM)=some true
 pc:PySem.W.kitOne K (.ref A.fZ) (.ref A.d_)=some false
 qF:PySem.W.kitOne K (.ref A.fZ) (.ref A.gp)=some false
 qE:PySem.W.kitOne K (.ref A.fZ) (.ref A.eY)=some false
 o_:PySem.W.kitOne K (.ref A.fZ) (.ref A.eL)=some false
 rT:PySem.W.kitOne K (.ref A.fZ) (.ref A.mJ)=some false
 nD:PySem.W.kitOne K (.ref A.eY) (.ref A.d_)=some false
 jG:PySem.W.kitOne K (.ref A.eY) (.ref A.dM)=some true
 l7:PySem.W.kitOne K (.ref A.eL) (.ref A.d_)=some false
 nC:PySem.W.kitOne K (.ref A.eL) (.ref A.eY)=some false
 nB:PySem.W.kitOne K (.ref A.c_) (.ref A.d_)=some false
 qD:PySem.W.kitOne K (.ref A.c_) (.ref A.fZ)=some false
 o9:PySem.W.kitOne K (.ref A.c_) (.ref A.gp)=some false
 o6:PySem.W.kitOne K (.ref A.c_) (.ref A.eY)=some false
 nA:PySem.W.kitOne K (.ref A.c_) (.ref A.eL)=some false
 jF:PySem.W.kitOne K (.ref A.c_) (.ref A.dM)=some true
 qC:PySem.W.kitOne K (.ref A.c_) (.ref A.mJ)=some false
 nz:PySem.W.kitOne K (.ref A.c_) (.ref A.kr)=some false
theorem z6:cJ ["p","deeds","place","pairs","deed","word"] ["p","deeds"] (aO yu):=⟨rfl,rfl,rfl,by right,rfl,by right,by right⟩
theorem gA:cJ ["p","one","n","end","pattern","pairs"] ["p","one","n"] (aO gb):=⟨rfl,rfl,rfl,by right,rfl,by right,by right⟩
theorem kO:cJ ["name"] ["name"] (aO iD):=⟨rfl,rfl,rfl,by right,rfl,by right,by right⟩
theorem nR:cJ ["self","name","one"] ["self","name","one"] (aO lc):=⟨rfl,rfl,rfl,by right,rfl,by right,by right⟩
theorem lD:cJ ["self","crew"] ["self","crew"] (aO jq):=⟨rfl,rfl,rfl,by right,rfl,by right,by right⟩
theorem lC:cJ ["self","name","deeds"] ["self","name","deeds"] (aO jp):=⟨rfl,rfl,rfl,by right,rfl,by right,by right⟩
theorem iP:cJ ["self","name","one","other"] ["self","name","one","other"] (aO gd):=⟨rfl,rfl,rfl,by right,rfl,by right,by right⟩
theorem iQ:cJ ["self","name","one"] ["self","name","one"] (aO ge):=⟨rfl,rfl,rfl,by right,rfl,by right,by right⟩
theorem gX:cJ ["self","name","one","n"] ["self","name","one","n"] (aO fG):=⟨rfl,rfl,rfl,by right,rfl,by right,by right⟩
theorem lE:cJ ["self","name"] ["self","name"] (aO jr):=⟨rfl,rfl,rfl,by right,rfl,by right,by right⟩
theorem gY:cJ ["self","name"] ["self","name"] (aO fH):=⟨rfl,rfl,rfl,by right,rfl,by right,by right⟩
theorem iO:cJ ["self","crew"] ["self","crew"] (aO gc):=⟨rfl,rfl,rfl,by right,rfl,by right,by right⟩
theorem qa:cJ ["_law_script"] ["_law_script"] (aO mZ):=⟨rfl,rfl,rfl,by right,rfl,by right,by right⟩
theorem vQ:cJ ["_law_book","_law_deed","_law_handed","_law_told"] ["_law_book","_law_deed"] (aO uo):=⟨rfl,rfl,rfl,by right,rfl,by right,by right⟩
theorem Ee:cJ ["_law_script","_law_draw","_law_p_here","_law_names_here","_law_book","_law_stand","_law_k","_law_deed","_law_due","_law_settings"] ["_law_script"] (aO Ef):=⟨rfl,rfl,rfl,by right,rfl,by right,by right⟩
def vv (A:Ti):Rf ->Addr
 | .BadName=>A.d_ | .NoDeed=>A.eY | .NoRound=>A.eL | .NoCrew=>A.gp | .Taken=>A.mJ | .InUse=>A.fZ | .TooMany=>A.kr | .TooFar=>A.c_ | .NoMore=>A.qZ | .NoState=>A.nI
section
variable {P:Program}{w:World}{K:PySem.W.Frag}{mg:Str ->Option Value}{base:Heap}{A:Ti}
theorem yL (T:e8 K mg A):bx P w K mg base eE 1 A.tI A.tO ["_law_script"] (zZ K):=by
 refine T.AJ.fn.ok qa (λvs H Q E h=> ?_) (λcdv A' outer s H vs Q E hr h=> ?_);obtain⟨a,ns,rfl,_⟩:=h;rfl;obtain⟨a,ns,rfl,hs,k⟩:=h;have nd:=qa.nd;refine⟨_,(am (aJ (gL (aa (cL dz (by rfl) T.fe Boot.«list» (aa (qf He (pv 0) uA (uz ah)) af)) (aa ah (aa ah (aa ah af))))))),?_⟩;have ec: ∃ms:List Int,CL (ns.map V.int) none (some 63)=ms.map V.int:=by refine⟨(ns.drop (HT.vo (ns.map V.int).length 0 none)).take (HT.vo (ns.map V.int).length (ns.map V.int).length (some 63) - HT.vo (ns.map V.int).length 0 none),?_⟩;unfold CL;rw[List.map_take,List.map_drop]
 obtain⟨ms,em⟩:=ec;refine⟨_,rfl,_,rfl,_,_,rfl,hs,λp hp=>⟨_,_,rfl, .inl (gs.of bI),λl hl=>⟨by show 4<=sizeLine;decide,λd hd=> ?_⟩⟩⟩;have hld:l≠d:=λe=>by rw[e,bI] at hd;cases hd
 refine k d l ms _ hld.symm bI ?_;rw[bC hld,bI,em]
theorem bK (T:e8 K mg A):bx P w K mg base eE 1 A.xf A.xt ["_law_draw","_law_many"] (fj K Ps):=by
 exists T.dc.fn,["_law_draw","_law_many","_law_number","_law_got"],(ai (bF (jv (a6 n9 (aI (show cI _ (kB K) from dW) (pv 0) ah (λ_ _=>rfl)) (pv 1) (bj _)) (iF (a6 n9 (aI (show cI _ (kB K) from dW) (pv 0) ah (λ_ _=>rfl)) (bf (f7 (K:=K) rfl) (by rfl) T.mK Boot.«len» (aa (aI (show cI _ (kB K) from dW) (pv 0) ah (λ_ _=>rfl)) af)) (bj _)))).pt (ai (a9 (i:=2) nd rfl (by trivial) (aI (show cI _ (kB K) from dW) (aI (show cI _ (kB K) from dW) (pv 0) ah (λ_ _=>rfl)) (aI (show cI _ (kB K) from dW) (pv 0) ah (λ_ _=>rfl)) (λ_ _=>rfl))) (ai (fJ (bU dQ (aI (show cI _ (kB K) from dW) (pv 0) ah (λ_ _=>rfl)) ah) (nc (pv 0) ah gV)) (ai (fJ ah (nc (pv 0) ah gV)) (am (bF (a6 EM (bf eK (by rfl) T.oQ Boot.«abs» (aa (pv 2) af)) (bU LW ah ah) (bj _)) (am (fJ (bf eK (by rfl) T.oQ Boot.«abs» (aa (pv 2) af)) (nc (pv 0) ah gV))) (am (fJ (bU jy (bU dQ (bU dQ (bU fK (aI (show cI _ (kB K) from dW) (pv 0) ah (λ_ _=>rfl)) ah) (bU fK (bU jy (pv 2) ah) ah)) ah) ah) (nc (pv 0) ah gV)))))))) aX) (ai (bF (a6 EM (aI (show cI _ (kB K) from dW) (pv 0) ah (λ_ _=>rfl)) (pv 1) (bj _)) (ai (a9 (i:=3) nd rfl (by trivial) (bU jy (aI (show cI _ (kB K) from dW) (pv 0) ah (λ_ _=>rfl)) (pv 1))) (ai (fJ (bU Ay (aI (show cI _ (kB K) from dW) (pv 0) ah (λ_ _=>rfl)) (pv 1)) (nc (pv 0) ah gV)) (am (aJ (pv 3))))) aX) (ai (fJ (bU jy (bU dQ (bU fK (aI (show cI _ (kB K) from dW) (pv 0) ah (λ_ _=>rfl)) ah) ah) ah) (nc (pv 0) ah gV)) (am (aJ (bU jy (bU Ay (aI (show cI _ (kB K) from dW) (pv 0) ah (λ_ _=>rfl)) ah) (pv 1)))))))
 rintro vs M q ⟨d,l,n,rfl,⟨ns,i,c,sd,hd,hl,hi,pL⟩,n0,n1,k⟩;refine uU (λρ M'=>se λ(o1 o2:Option W) (i' c' s':Int)=>eu (ρ= [some (wr d),some (wi n),o1,o2]) (M' d=some (.lst [wr l,wi i',wi c',wi s'])) (NB d M M') (0<=i')) ?_ λN hN=> ?_;rintro ρ M' ⟨o1,o2,i',c',s',rfl,h,nb,ot⟩;have fin: ∀ (r c' s':Int),0<=r ->r<n -> ∃M0,Sm M0 (um M' d (.lst [wr l,wi i',wi c',wi s'])) /\ q (wi r) M0:=λr c' s' h0 h1=>fM (k r _ h0 h1 ⟨ns,i',c',s',au,by rw[aN (cV pL),nb l (cV pL)];exact hl,ot,pL⟩ (nb.trans NB.put));have cm3: ∀x,kL x 16807=True:=λx=>by simp[kL]
 have cd1: ∀x,GH x n=True:=λx=>by simp[GH,n0,n1]
 have cd2: ∀x,GH x 64=True:=λx=>by simp[GH]
 have z2:((0:Int) <2147483647)=True:=by decide
 simp? [↓bn,h,n0,cm3,cd1,cd2,z2];exact dF (λ_=>fin _ _ _ (Int.emod_nonneg _ ∅) (Int.emod_lt_of_pos _ n0)) λ_=>fin _ _ _ (Int.emod_nonneg _ ∅) (Int.emod_lt_of_pos _ n0);have nx: ∀ (o1 o2:Option W) (i' c' s':Int),0<=i' ->N [some (wr d),some (wi n),o1,o2] (um M d (.lst [wr l,wi i',wi c',wi s'])):=λ_ _ _ _ _ h=>hN _ _ ⟨_,_,_,_,_,rfl,au,NB.put,h⟩;have Sx: ∀ (o1 o2:Option W),N [some (wr d),some (wi n),o1,o2] M:=λ_ _=>hN _ _ ⟨_,_,_,_,_,rfl,hd,NB.refl d M,hi⟩;have cp:Np 10 18=True:=by simp[Np]
 have cm: ∀x,kL x 48271=True:=λx=>by simp[kL]
 have cm2: ∀x,kL x 69621=True:=λx=>by simp[kL]
 have z1:((0:Int) <2147483629)=True:=by decide
 have z2:((0:Int) <2147483647)=True:=by decide
 by_cases kH:i<ns.length;have hx:ix (ns.map wi) i=some (wi (ns[i.toNat]'∅)):=mL hi (by rw[aG,aD ∅];rfl);simp? [↓bn,hd,hl,hx,ag,cp,cm,cm2,z1,z2];exact dF (λ_=>dF (λ_=>dF (λ_=>nx _ _ _ _ _ ∅) λ_=>nx _ _ _ _ _ ∅) λ_=>Sx _ _) λ_=>Sx _ _;simp? [↓bn,hd,hl,kH,ag,decide_false];exact dF (λ_=>Sx _ _) λ_=>Sx _ _
theorem L4 (T:e8 K mg A):bx P w K mg base eE 2 A.KD A.KI ["_law_draw"] (fj K pP):=by
 exists T.l_p.fn,["_law_draw"],(am (aJ (aI (show cI _ (bA K) from aA) (bh (aa ah (aa ah (aa ah (aa ah af))))) (ay T.dc (bK T) hr (aa (pv 0) (aa ah af))) (λ_ _=>rfl))))
 rintro vs M q ⟨d,l,rfl,hD,k⟩;simp? [↓bn];refine⟨d,l,4,rfl,hD,by decide,by decide,λr M1 r0 r1 D1 b1=> ?_⟩;have Vx:r=0 \/ r=1 \/ r=2 \/ r=3:=by omega
 rcases Vx with rfl | rfl | rfl | rfl<;> simp? [↓bn];exact fM (k 2 _ (by decide) D1 b1);exact fM (k 3 _ (by decide) D1 b1);exact fM (k 5 _ (by decide) D1 b1);exact fM (k 7 _ (by decide) D1 b1)
theorem qk (T:e8 K mg A):bx P w K mg base eE 1 A.A4 A.Bl ["_law_thing"] (fj K UN):=by
 exists T.AI.fn,["_law_thing"],(am (aJ (ng (bf (d9 (K:=K) rfl) (by rfl) T.de Boot.«isinstance» (aa (pv 0) (aa (fV (by rfl) T.KO Boot.«int» (show RelV (.ty "int") _ from rfl)) af))) (lg (yB (bf (d9 (K:=K) rfl) (by rfl) T.de Boot.«isinstance» (aa (pv 0) (aa (fV (by rfl) T.Nd Boot.«bool» (show RelV (.ty "bool") _ from rfl)) af))))))))
 rintro vs M q ⟨i,rfl,k⟩;simp? [↓bn];exact fM k
theorem lS (T:e8 K mg A):bx P w K mg base eE 1 A.FD A.FQ ["p","pairs"] (fj K J6):=by
 exists T.tidy.fn,["p","pairs","turned","place","setting"],(ai (a9 (i:=2) nd rfl (by trivial) hU) (ai (gg PassesOwn.never rfl (pF (pv 1)) (dP (n:=2) rfl (bt (a4 (i:=3) nd rfl (by trivial)) (bt (a4 (i:=4) nd rfl (by trivial)) dn))) (am (pE (eh hr) (pv 2) (pv 3) (bU jy (bU dQ (wt (eh hr) (pv 2) (pv 3) ah ⟨by rfl,by rfl,by rfl,by rfl⟩) (pv 4)) (pv 0)) rfl))) (am (aJ (cL kc (by rfl) T.ku Boot.«tuple» (aa (dI rfl (c8.of (sc:=aO yt) (N:= ["p","pairs","turned","place","setting"]) (own:= ["place"]) (fr:= [2]) (N':= ["place","turned"])) (pF (bf (mI rfl) (by rfl) T.iu Boot.«sorted» (aa (pv 2) af))) (λ_ _ _ _=>(a4 (i:=0) (by show(["place","turned"]:List Str).Nodup;decide+kernel) rfl (by trivial))) eJ (λ_ _ _ _=>(An (a6 wv (eB (eh hr) (pv 1) (pv 0) (λ_ _=>rfl)) ah (bj _)))) (λ_ _ _ _=>(bh (aa (pv 0) (aa (eB (eh hr) (pv 1) (pv 0) (λ_ _=>rfl)) af))))) af))))))
 rintro vs M q ⟨a,p,ps,rfl,ha,p0,Iw,V1,k⟩;simp? [↓bn];intro d hd;have PZ:a≠d:=cb ha hd;simp? [↓bn,aN PZ,ha];refine jL (λi ρ M'=>dH λ(o1 o2:Option W) (m:Pt)=>kz (ρ= [some (wi p),some (wr a),some (wr d),o1,o2]) (M'=um M d (.dK (rG m))) ((m.map (·.1)).Nodup) (m.length<=i) (∀x,look m x=ez (ps.take i) x % p) (∀k∈m.map (·.1), ∃q∈ps,q.1=k)) ⟨none,none,[],rfl,rfl,List.nodup_nil,ao _,λx=>by simp[look,ez],by simp⟩ ?_ ?_ ?_;rintro i ρ M' _ ⟨o1,o2,m,rfl,rfl,_⟩;rw[aN PZ];exact ha;rintro i x ρ M' hx ⟨o1,o2,m,rfl,rfl,hn,hl,ht,za⟩ N hN;obtain⟨z,hz,rfl⟩:=pairs_at hx;have VS:=(a5.mp hz).1;have hs:((rG m).length<sizeLine)=True:=by rw[rG,ag];exact aC (pi (by omega))
 simp? [↓bn,bQ,AZ,p0,hs,Al];refine hN _ _ ⟨_,_,_,rfl,rfl,AB hn,av wM (by omega),λx=> ?_,λk hk=>(wK hk).elim (λe=>⟨z,bq hz,e.symm⟩) (za k)⟩;rw[sT,List.take_add_one,hz];show _=ez (ps.take i++ [z]) x % p;rw[pY];by_cases hx:x=z.1;subst hx;rw[ak rfl,ak rfl,ht,Int.emod_add_emod];rw[aj hx,aj (cV hx),Int.add_zero];exact ht x;rintro ρ M' ⟨o1,o2,m,rfl,rfl,hn,hl,ht,za⟩;rw[ag] at hl ht;rw[List.take_length] at ht;simp? [↓bn];refine⟨d,rG m,m.map (·.1),rfl,au,wO m,(by rw[ag];exact big (by omega)),λsp ns ye ij wX=> ?_⟩;have MG:d≠sp:=cb au ye;have vt:ns.length<=16000000:=by rw[ij.length_eq,ag];omega
 simp? [↓bn];refine gk (λx=>match x with | .v (.int n)=>if look m n=0 then none else some (bQ (n,look m n)) | _=>none) (by rw[ag];exact big vt) (λM3 s3=>s3 _ _ au) ?_ λt Vr=> ?_;intro i x hx M3 N s3 hN;obtain⟨n,MB,rfl⟩:=wV hx;have VZ:M3 d=some (.dK (rG m)):=s3 _ _ (by rw[aN MG,au]);have VF:n∈m.map (·.1):=ij.mem_iff.mp (bq MB);simp? [↓bn,VZ,DG VF];refine Ml (λh=> ?_) λh=> ?_;simp only[h,bi] at hN;exact hN;simp only[h,bP] at hN;exact hN;simp? [↓bn];refine⟨M,((Sm.um (Sm.refl M) hd).trans (bB ye)).trans (bB Vr),?_⟩;have e:(ns.map wi).filterMap (λx=>match x with | .v (.int n)=>if look m n=0 then none else some (bQ (n,look m n)) | _=>none)=(nq p ps).map bQ:=by rw[<- z4 p0 hn ht ij wX,List.filterMap_map];unfold NC;rw[List.map_filterMap];congr 1;funext n;simp only[Function.comp];split<;>rfl
 rw[e];exact k
theorem nk (T:e8 K mg A):bx P w K mg base eE 1 A.xc A.xr ["_law_p_here","_law_pairs"] (fj K J6):=by
 exists T.uT.fn,["_law_p_here","_law_pairs","_law_sums","_law_place","_law_setting"],(ai (a9 (i:=2) nd rfl (by trivial) hU) (ai (gg PassesOwn.never rfl (jx (K:=K) rfl (pv 1)) (dP (n:=2) rfl (bt (a4 (i:=3) nd rfl (by trivial)) (bt (a4 (i:=4) nd rfl (by trivial)) dn))) (am (pE (eh hr) (pv 2) (pv 3) (bU jy (bU dQ (wt (eh hr) (pv 2) (pv 3) ah ⟨by rfl,by rfl,by rfl,by rfl⟩) (pv 4)) (pv 0)) rfl))) (am (aJ (cL kc (by rfl) T.ku Boot.«tuple» (aa (dI rfl (c8.of (sc:=_) (N:= ["_law_p_here","_law_pairs","_law_sums","_law_place","_law_setting"]) (own:= ["_law_place"]) (fr:= [2]) (N':= ["_law_place","_law_sums"]) rfl rfl rfl (by right) rfl (by right) (by right) (by right) (by right) (bJ rfl)) (jx (K:=K) rfl (bf (mI rfl) (by rfl) T.iu Boot.«sorted» (aa (pv 2) af))) (λ_ _ _ _=>(a4 (i:=0) (by show(["_law_place","_law_sums"]:List Str).Nodup;decide+kernel) rfl (by trivial))) eJ (λ_ _ _ _=>(An (a6 EL (eB (eh hr) (pv 1) (pv 0) (λ_ _=>rfl)) ah (bj _)))) (λ_ _ _ _=>(bh (aa (pv 0) (aa (eB (eh hr) (pv 1) (pv 0) (λ_ _=>rfl)) af))))) af))))))
 rintro vs M q ⟨a,p,ps,rfl,ha,p0,Iw,V1,k⟩;simp? [↓bn];intro d hd;have PZ:a≠d:=cb ha hd;simp? [↓bn,aN PZ,ha];refine jL (λi ρ M'=>dH λ(o1 o2:Option W) (m:Pt)=>kz (ρ= [some (wi p),some (wr a),some (wr d),o1,o2]) (M'=um M d (.dK (rG m))) ((m.map (·.1)).Nodup) (m.length<=i) (∀x,look m x=ez (ps.take i) x % p) (∀k∈m.map (·.1), ∃q∈ps,q.1=k)) ⟨none,none,[],rfl,rfl,List.nodup_nil,ao _,λx=>by simp[look,ez],by simp⟩ ?_ ?_ ?_;rintro i ρ M' _ ⟨o1,o2,m,rfl,rfl,_⟩;rw[aN PZ];exact ha;rintro i x ρ M' hx ⟨o1,o2,m,rfl,rfl,hn,hl,ht,za⟩ N hN;obtain⟨z,hz,rfl⟩:=pairs_at hx;have VS:=(a5.mp hz).1;have hs:((rG m).length<sizeLine)=True:=by rw[rG,ag];exact aC (pi (by omega))
 simp? [↓bn,bQ,AZ,p0,hs,Al];refine hN _ _ ⟨_,_,_,rfl,rfl,AB hn,av wM (by omega),λx=> ?_,λk hk=>(wK hk).elim (λe=>⟨z,bq hz,e.symm⟩) (za k)⟩;rw[sT,List.take_add_one,hz];show _=ez (ps.take i++ [z]) x % p;rw[pY];by_cases hx:x=z.1;subst hx;rw[ak rfl,ak rfl,ht,Int.emod_add_emod];rw[aj hx,aj (cV hx),Int.add_zero];exact ht x;rintro ρ M' ⟨o1,o2,m,rfl,rfl,hn,hl,ht,za⟩;rw[ag] at hl ht;rw[List.take_length] at ht;simp? [↓bn];refine⟨d,rG m,m.map (·.1),rfl,au,wO m,(by rw[ag];exact big (by omega)),λsp ns ye ij wX=> ?_⟩;have MG:d≠sp:=cb au ye;have vt:ns.length<=16000000:=by rw[ij.length_eq,ag];omega
 simp? [↓bn];refine gk (λx=>match x with | .v (.int n)=>if look m n=0 then none else some (bQ (n,look m n)) | _=>none) (by rw[ag];exact big vt) (λM3 s3=>s3 _ _ au) ?_ λt Vr=> ?_;intro i x hx M3 N s3 hN;obtain⟨n,MB,rfl⟩:=wV hx;have VZ:M3 d=some (.dK (rG m)):=s3 _ _ (by rw[aN MG,au]);have VF:n∈m.map (·.1):=ij.mem_iff.mp (bq MB);simp? [↓bn,VZ,DG VF];have VV:0<=look m n:=by rw[ht];exact Int.emod_nonneg _ (by omega)
 refine dF (λh=> ?_) λh=> ?_;have h':¬look m n=0:=by omega
 simp only[h',bi] at hN;exact hN;have h':look m n=0:=by omega
 simp only[h',bP] at hN;exact hN;simp? [↓bn];refine⟨M,((Sm.um (Sm.refl M) hd).trans (bB ye)).trans (bB Vr),?_⟩;have e:(ns.map wi).filterMap (λx=>match x with | .v (.int n)=>if look m n=0 then none else some (bQ (n,look m n)) | _=>none)=(nq p ps).map bQ:=by rw[<- z4 p0 hn ht ij wX,List.filterMap_map];unfold NC;rw[List.map_filterMap];congr 1;funext n;simp only[Function.comp];split<;>rfl
 rw[e];exact k
theorem wx (T:e8 K mg A):bx P w K mg base eE 1 A.A1 A.Bh ["pattern","by"] (fj K LO):=by
 exists T.moved.fn,["pattern","by"],(am (aJ (cL kc (by rfl) T.ku Boot.«tuple» (aa (dI rfl (c8.of (sc:=aO ul) (N:= ["pattern","by"]) (own:= ["place","setting"]) (fr:= [1]) (N':= ["place","setting","by"])) (m_ (pv 0)) (λ_ _ _ _=>(dP (n:=2) rfl (bt (a4 (i:=0) (by show(["place","setting","by"]:List Str).Nodup;decide+kernel) rfl (by trivial)) (bt (a4 (i:=1) (by show(["place","setting","by"]:List Str).Nodup;decide+kernel) rfl (by trivial)) dn)))) gm (λ_ _ _ _=>dv) (λ_ _ _ _=>(bh (aa (bU dQ (pv 0) (pv 2)) (aa (pv 1) af))))) af))))
 rintro vs M q ⟨rN,b,rfl,hl,k⟩;simp? [↓bn,ft];refine gk (λx=>match x with | .tup [.v (.int x),s]=>some (.tup [wi (x+b),s]) | _=>none) (by rw[ag];exact big hl) (λ_ _=>trivial) ?_ λt ht=> ?_;intro i x hx M3 N s3 hN;obtain⟨z,hz,rfl⟩:=pairs_at hx;simp? [↓bn,bQ];exact hN;simp? [↓bn];refine⟨M,bB ht,?_⟩;have e:(rN.map bQ).filterMap (λx=>match x with | .tup [.v (.int x),s]=>some (.tup [wi (x+b),s]) | _=>none)=(mv b rN).map bQ:=by rw[List.filterMap_map,mv,aY];exact List.filterMap_eq_map.symm▸rfl
 rw[e];exact k
theorem oV (T:e8 K mg A):bx P w K mg base eE 2 A.jP A.jZ ["_law_p_here","_law_thing"] (fj K LP):=by
 exists T.lZ.fn,["_law_p_here","_law_thing","_law_k","_law_pair"],(ai (bF (dO (di (bf (d9 (K:=K) rfl) (by rfl) T.de Boot.«isinstance» (aa (pv 1) (aa (fV (by rfl) T.ku Boot.«tuple» (show RelV (.ty "tuple") _ from rfl)) af))))) (am (aJ fP)) aX) (ai (gg PassesOwn.never rfl (eI (by rfl) T.gI (aa (bf (f7 (K:=K) rfl) (by rfl) T.mK Boot.«len» (aa (pv 1) af)) af)) (a4 (i:=2) nd rfl (by trivial)) (ai (a9 (i:=3) nd rfl (by trivial) (aI (show cI _ (bA K) from aA) (pv 1) (pv 2) (λ_ _=>rfl))) (ai (bF (kR (dO (di (bf (d9 (K:=K) rfl) (by rfl) T.de Boot.«isinstance» (aa (pv 3) (aa (fV (by rfl) T.ku Boot.«tuple» (show RelV (.ty "tuple") _ from rfl)) af))))) (iE (a6 wv (bf (f7 (K:=K) rfl) (by rfl) T.mK Boot.«len» (aa (pv 3) af)) ah (bj _)))).pt (am (aJ fP)) aX) (ai (bF (kR (dO (di (ay T.AI (qk T) hr (aa (aI (show cI _ (bA K) from aA) (pv 3) ah (λ_ _=>rfl)) af)))) (kR (dO (di (ay T.AI (qk T) hr (aa (aI (show cI _ (bA K) from aA) (pv 3) ah (λ_ _=>rfl)) af)))) (iE (dO (wo n9 n9 ah (aI (show cI _ (bA K) from aA) (pv 3) ah (λ_ _=>rfl)) (pv 0)))))).pt (am (aJ fP)) aX) (am (bF (jv (a6 EL (pv 2) ah (bj _)) (iF (a6 EM (aI (show cI _ (bA K) from aA) (aI (show cI _ (bA K) from aA) (pv 1) (bU uH (pv 2) ah) (λ_ _=>rfl)) ah (λ_ _=>rfl)) (aI (show cI _ (bA K) from aA) (pv 3) ah (λ_ _=>rfl)) (bj _)))).pt (am (aJ fP)) aX)))))) (am (aJ fP))))
 rintro vs M q ⟨p,rN,rfl,⟨h1,h2⟩,hl,k⟩;have oq:(rN.map bQ).length=rN.length:=ag _;simp? [↓bn,ft,oq];refine⟨⟨by omega,by omega⟩,jL (λi ρ M'=>ca λ(o1 o2:Option W)=>ρ= [some (wi p),some (ft rN),o1,o2] /\ M'=M) ⟨none,none,rfl,rfl⟩ (λ_ _ _ _ _=>trivial) ?_ ?_⟩;rintro i x ρ M' hx ⟨o1,o2,rfl,rfl⟩ N hN;obtain⟨hi,rfl⟩:=g_ hx;have ot:i<rN.length:=by omega
 have ha:ix (rN.map bQ) (0+(i:Int))=some (bQ rN[i]):=by rw[Int.zero_add];exact eD (by rw[aG,aD ot];rfl)
 have hz:=h1 rN[i] (List.getElem_mem ot);simp? [↓bn,ft,ha,bQ];refine⟨_,rfl,?_⟩;simp? [↓bn];refine⟨_,rfl,?_⟩;simp? [↓bn,hz.1,hz.2,cC];refine dF (λh=> ?_) λh=>hN _ _ ⟨_,_,rfl,rfl⟩;have hi1:i - 1<rN.length:=by omega
 have ha':ix (rN.map bQ) (0+(i:Int) - 1)=some (bQ rN[i - 1]):=by
  have:(0+(i:Int) - 1)=((i - 1:Nat):Int):=by omega
  rw[this];exact eD (by rw[aG,aD hi1];rfl)
 have kH:=List.pairwise_iff_getElem.mp h2 (i - 1) i hi1 ot (by omega);simp? [↓bn,ha',bQ];exact dF (λh=>by omega) λ_=>hN _ _ ⟨_,_,rfl,rfl⟩;rintro ρ M' ⟨o1,o2,rfl,rfl⟩;simp? [↓bn];exact fM k
theorem EQ (T:e8 K mg A):bx P w K mg base eE 2 A.A6 A.Bn ["p","one","other"] (fj K LV):=by
 exists T.added.fn,["p","one","other"],(am (aJ (ay T.tidy (lS T) hr (aa (pv 0) (aa (bU EN (cL dz (by rfl) T.fe Boot.«list» (aa (pv 1) af)) (cL dz (by rfl) T.fe Boot.«list» (aa (pv 2) af))) af)))))
 rintro vs M q ⟨p,a,b,rfl,p0,hf,ha,hb,k⟩;simp? [↓bn,ft];intro u hu;simp? [↓bn];intro v hv;have huv:u≠v:=cb au hv;have hs:((a.map bQ).length+(b.map bQ).length<=sizeLine)=True:=aC (big (by rw[ag,ag];omega));simp? [↓bn,aN huv,hs];intro c hc;simp? [↓bn];refine⟨c,p,a++b,rfl,by rw[au,br],p0,hf,by rw[aH];omega,?_⟩;exact⟨M,((bB hu).trans (bB hv)).trans (bB hc),k⟩
theorem qh (T:e8 K mg A):bx P w K mg base eE 2 A.A0 A.Bg ["p","pattern","n"] (fj K LL):=by
 exists T.timed.fn,["p","pattern","n"],(am (aJ (ay T.tidy (lS T) hr (aa (pv 0) (aa (dI rfl (c8.of (sc:=aO uk) (N:= ["p","pattern","n"]) (own:= ["place","setting"]) (fr:= [2]) (N':= ["place","setting","n"])) (m_ (pv 1)) (λ_ _ _ _=>(dP (n:=2) rfl (bt (a4 (i:=0) (by show(["place","setting","n"]:List Str).Nodup;decide+kernel) rfl (by trivial)) (bt (a4 (i:=1) (by show(["place","setting","n"]:List Str).Nodup;decide+kernel) rfl (by trivial)) dn)))) gm (λ_ _ _ _=>dv) (λ_ _ _ _=>(bh (aa (pv 0) (aa (bU fK (pv 1) (pv 2)) af))))) af)))))
 rintro vs M q ⟨p,a,n,rfl,p0,hf,ha,hz,k⟩;simp? [↓bn,ft];refine gk (λx=>match x with | .tup [x, .v (.int s)]=>some (.tup [x,wi (s*n)]) | _=>none) (by rw[ag];exact big (by omega)) (λ_ _=>trivial) ?_ λt ht=> ?_;intro i x hx M3 N s3 hN;obtain⟨z,Fl,rfl⟩:=pairs_at hx;have:=hz z (bq Fl);have cm:kL z.2 n=True:=aC (.inl ⟨by omega,by omega⟩);simp? [↓bn,bQ,cm];exact hN;have e:(a.map bQ).filterMap (λx=>match x with | .tup [x, .v (.int s)]=>some (.tup [x,wi (s*n)]) | _=>none)=(tm n a).map bQ:=by rw[List.filterMap_map,tm,aY];exact List.filterMap_eq_map.symm▸rfl
 rw[e];simp? [↓bn];refine⟨t,p,tm n a,rfl,au,p0,hf,by rw[tm,ag];omega,M,bB ht,k⟩
theorem qj (T:e8 K mg A):bx P w K mg base eE 2 A.A2 A.Bi ["_law_p_here","_law_one","_law_other","_law_by","_law_many"] (fj K UL):=by
 exists T.AG.fn,["_law_p_here","_law_one","_law_other","_law_by","_law_many"],(am (aJ (ay T.uT (nk T) hr (aa (pv 0) (aa (bU EN (cL dz (by rfl) T.fe Boot.«list» (aa (pv 1) af)) (dI rfl (c8.of (sc:=_) (N:= ["_law_p_here","_law_one","_law_other","_law_by","_law_many"]) (own:= ["_law_place","_law_setting"]) (fr:= [3,4]) (N':= ["_law_place","_law_setting","_law_by","_law_many"]) rfl rfl rfl (by right) rfl (by right) (by right) (by right) (by right) (bJ rfl)) (uC (K:=K) rfl (pv 2)) (λ_ _ _ _=>(dP (n:=2) rfl (bt (a4 (i:=0) (by show(["_law_place","_law_setting","_law_by","_law_many"]:List Str).Nodup;decide+kernel) rfl (by trivial)) (bt (a4 (i:=1) (by show(["_law_place","_law_setting","_law_by","_law_many"]:List Str).Nodup;decide+kernel) rfl (by trivial)) dn)))) gm (λ_ _ _ _=>dv) (λ_ _ _ _=>(bh (aa (bU dQ (pv 0) (pv 2)) (aa (bU fK (pv 1) (pv 3)) af)))))) af)))))
 rintro vs M q ⟨p,a,b,y,n,rfl,p0,hf,ha,hb,hz,k⟩;simp? [↓bn,ft];intro u hu;simp? [↓bn];refine gk (λx=>match x with | .tup [.v (.int x), .v (.int s)]=>some (.tup [wi (x+y),wi (s*n)]) | _=>none) (by rw[ag];exact big (by omega)) (λ_ _=>trivial) ?_ λt ht=> ?_;intro i x hx M3 N s3 hN;obtain⟨z,Fl,rfl⟩:=pairs_at hx;have:=hz z (bq Fl);have cm:kL z.2 n=True:=aC (.inl ⟨by omega,by omega⟩);simp? [↓bn,bQ,cm];exact hN;have e:(b.map bQ).filterMap (λx=>match x with | .tup [.v (.int x), .v (.int s)]=>some (.tup [wi (x+y),wi (s*n)]) | _=>none)=(AC y n b).map bQ:=by rw[List.filterMap_map,AC,aY];exact List.filterMap_eq_map.symm▸rfl
 rw[e];have hut:u≠t:=cb au ht;have hs:((a.map bQ).length+((AC y n b).map bQ).length<=sizeLine)=True:=aC (big (by rw[ag,ag,AC,ag];omega));simp? [↓bn,aN hut,hs];intro c hc;simp? [↓bn];refine⟨c,p,a++AC y n b,rfl,by rw[au,br],p0,hf,by rw[aH,AC,ag];omega,?_⟩;exact⟨M,((bB hu).trans (bB ht)).trans (bB hc),k⟩
end
end ed
open PySem L2 WL WP WQ PyProof.Rows
namespace ed
open PySem L2 WL WP WQ PyProof.Rows
section
variable {P:Program}{w:World}{K:PySem.W.Frag}{mg:Str ->Option Value}{base:Heap}{A:Ti}
theorem BZ (T:e8 K mg A):bx P w K mg base eE 3 A.xk A.xy ["p","one","other"] (fj K Hy):=by
 exists T.joined.fn,["p","one","other","end","pattern","more","behind"],(ai (fJ (pv 1) (dP (n:=2) rfl (bt (a4 (i:=3) nd rfl (by trivial)) (bt (a4 (i:=4) nd rfl (by trivial)) dn)))) (ai (fJ (pv 2) (dP (n:=2) rfl (bt (a4 (i:=5) nd rfl (by trivial)) (bt (a4 (i:=6) nd rfl (by trivial)) dn)))) (am (aJ (bh (aa (bU dQ (pv 3) (pv 5)) (aa (ay T.added (EQ T) hr (aa (pv 0) (aa (pv 4) (aa (ay T.moved (wx T) hr (aa (pv 6) (aa (pv 3) af))) af)))) af)))))))
 rintro vs M q ⟨p,a,b,rfl,p0,hf,ha,hb,k⟩;simp? [↓bn,fI];refine⟨b.2,a.1,rfl,by omega,?_⟩;simp? [↓bn];refine⟨p,a.2,mv a.1 b.2,rfl,p0,hf,av ha (by decide),by rw[nu];exact av hb (by decide),?_⟩;simp? [↓bn];exact fM k
theorem jB (T:e8 K mg A):bx P w K mg base eE 3 A.qL A.qU ["p","one"] (fj K J_):=by
 exists T.backward.fn,["p","one","end","pattern"],(ai (fJ (pv 1) (dP (n:=2) rfl (bt (a4 (i:=2) nd rfl (by trivial)) (bt (a4 (i:=3) nd rfl (by trivial)) dn)))) (am (aJ (bh (aa (fq dY (pv 2)) (aa (ay T.timed (qh T) hr (aa (pv 0) (aa (ay T.moved (wx T) hr (aa (pv 3) (aa (fq dY (pv 2)) af))) (aa (fq dY ah) af)))) af))))))
 rintro vs M q ⟨p,a,rfl,p0,hf,ha,hz,k⟩;simp? [↓bn,fI];refine⟨a.2, -a.1,rfl,by omega,?_⟩;simp? [↓bn];refine⟨p,mv (-a.1) a.2, -1,rfl,p0,FC hf,by rw[nu];exact ha,λz Fl=> ?_,?_⟩;obtain⟨y,hy,rfl⟩:=List.mem_map.mp Fl;exact hz y hy;simp? [↓bn];exact fM k
theorem BW (T:e8 K mg A):bx P w K mg base eE 3 A.xh A.xv ["_law_p_here","_law_one","_law_other"] (fj K Px):=by
 exists T.E2.fn,["_law_p_here","_law_one","_law_other"],(am (aJ (bh (aa (bU dQ (aI (show cI _ (bA K) from aA) (pv 1) ah (λ_ _=>rfl)) (aI (show cI _ (bA K) from aA) (pv 2) ah (λ_ _=>rfl))) (aa (ay T.AG (qj T) hr (aa (pv 0) (aa (aI (show cI _ (bA K) from aA) (pv 1) ah (λ_ _=>rfl)) (aa (aI (show cI _ (bA K) from aA) (pv 2) ah (λ_ _=>rfl)) (aa (aI (show cI _ (bA K) from aA) (pv 1) ah (λ_ _=>rfl)) (aa ah af)))))) af)))))
 rintro vs M q ⟨p,a,b,rfl,p0,hf,ha,hb,hz,k⟩;have e:AC a.1 1 b.2=mv a.1 b.2:=by rw[yN,Lh]
 simp? [↓bn,fI];refine⟨p,a.2,b.2,a.1,1,rfl,p0,by rw[e];exact hf,av ha (by decide),av hb (by decide),hz,?_⟩;rw[e];simp? [↓bn];exact fM k
theorem BY (T:e8 K mg A):bx P w K mg base eE 3 A.xj A.xx ["_law_p_here","_law_one"] (fj K J_):=by
 exists T.E5.fn,["_law_p_here","_law_one"],(am (aJ (bh (aa (fq dY (aI (show cI _ (bA K) from aA) (pv 1) ah (λ_ _=>rfl))) (aa (ay T.AG (qj T) hr (aa (pv 0) (aa (bh af) (aa (aI (show cI _ (bA K) from aA) (pv 1) ah (λ_ _=>rfl)) (aa (fq dY (aI (show cI _ (bA K) from aA) (pv 1) ah (λ_ _=>rfl))) (aa (fq dY ah) af)))))) af)))))
 rintro vs M q ⟨p,a,rfl,p0,hf,ha,hz,k⟩;have e:AC (-a.1) (-1) a.2=tm (-1) (mv (-a.1) a.2):=yN;simp? [↓bn,fI];refine⟨p,[],a.2, -a.1, -1,rfl,p0,by rw[e];exact FC hf,by decide,av ha (by decide),hz,?_⟩;rw[e,List.nil_append];simp? [↓bn];exact fM k
theorem rP (T:e8 K mg A):bx P w K mg base eE 3 A.mh A.mC ["_law_p_here","_law_thing"] (fj K EJ):=by
 exists T.qy.fn,["_law_p_here","_law_thing"],(ai (bF (kR (dO (di (bf (d9 (K:=K) rfl) (by rfl) T.de Boot.«isinstance» (aa (pv 1) (aa (fV (by rfl) T.ku Boot.«tuple» (show RelV (.ty "tuple") _ from rfl)) af))))) (iE (a6 wv (bf (f7 (K:=K) rfl) (by rfl) T.mK Boot.«len» (aa (pv 1) af)) ah (bj _)))).pt (am (aJ fP)) aX) (am (aJ (ng (ay T.AI (qk T) hr (aa (aI (show cI _ (bA K) from aA) (pv 1) ah (λ_ _=>rfl)) af)) (lg (ay T.lZ (oV T) hr (aa (pv 0) (aa (aI (show cI _ (bA K) from aA) (pv 1) ah (λ_ _=>rfl)) af))))))))
 rintro vs M q ⟨p,a,rfl,hp,hl,k⟩;have e2:decide ((((0+1+1:Nat)):Int)=2)=true:=by decide
 have e2':decide (((2:Nat):Int)=2)=true:=by decide
 simp? [↓bn,fI,e2,e2'];refine⟨_,rfl,?_⟩;simp? [↓bn];exact⟨p,a.2,rfl,hp,av hl (by decide),fM k⟩
theorem HF (T:e8 K mg A):bx P w K mg base (gu P w) 2 A.FE A.FR ["p","deeds"] (nQ K (LQ A.eY)):=by
 refine Df T.gone.fn z6 (by rintro vs M q e ⟨a,p,ds,rfl,_⟩;rfl) λcdv A' outer s H E e hr hF hP=> ?_;have nd:=z6.nd;refine⟨_,(ai (a9 (i:=2) nd rfl (by trivial) ah) (ai (a9 (i:=3) nd rfl (by trivial) (gL af)) (ai (gg HC rfl (pF (pv 1)) (a4 (i:=4) nd rfl (by trivial)) (ai (a9 (i:=5) nd rfl (by trivial) (aI aA (pv 4) ah (λ_ _=>rfl))) (am (bF (a6 dq (pv 5) aP (bj _)) (am (LB (i:=2) nd rfl (Or.inl rfl) (aI aA (pv 4) ah (λ_ _=>rfl)) Mm)) (am (bF (a6 dq (pv 5) aP (bj _)) (am (ce (hW a7 bN bM dE (pv 3) (aa (bh (aa (pv 2) (aa (aI aA (pv 4) ah (λ_ _=>rfl)) af))) af)))) (am (fc hF rfl (by rfl) T.vy (aa (km (dU aP (dU (uD (pv 5)) m8))) af))))))))) (am (aJ (bh (aa (pv 2) (aa (ay T.tidy (lS T) hr (aa (pv 0) (aa (pv 3) af))) af)))))))),?_⟩;try dsimp only[d4]
 refine⟨_,inferInstance,?_⟩;rintro vs M q ⟨a,p,ds,rfl,ha,p0,hf,hl,hw,kq,ke⟩;simp? [↓cg];refine eo ?_; simp? [↓cg];intro b hb;have AY:a≠b:=cb ha hb;refine eo ?_; simp? [↓cg,aN AY,ha];refine jL (λi ρ M'=> ∃ (o1 o2:Option W),(∀d∈ds.take i,Good d) /\ ρ= [some (wi p),some (wr a),some (wi (dN (ds.take i)).1),some (wr b),o1,o2] /\ M'=um M b (.lst ((dN (ds.take i)).2.map bQ))) ⟨none,none,by simp,rfl,rfl⟩ ?_ ?_ ?_;rintro i ρ M' _ ⟨o1,o2,_,rfl,rfl⟩;rw[aN AY];exact ha
 ·rintro i x ρ M' hx ⟨o1,o2,NP,rfl,rfl⟩ N hN;obtain⟨z,hz,rfl⟩:=KG hx;have VS:=(a5.mp hz).1;have et:ds.take (i+1)=ds.take i++ [z]:=by rw[List.take_add_one,hz];rfl
  have dL:(((dN (ds.take i)).2.map bQ).length<sizeLine)=True:=aC (pi (by have:=gU (ds.take i);rw[ag];rw[b0] at this;omega));have Iu:Good z -> ∀d∈ds.take (i+1),Good d:=λhg d hd=>by rw[et,a_] at hd;rcases hd with hd | hd;exact NP d hd;simp at hd;rw[hd];exact hg
  have hzm:z∈ds:=bq hz;obtain⟨z1,z2⟩:=z;have SO:=hw _ hzm;have e3:decide (("go" :Str)= "go")=true:=by right
  have e1:decide (("turn" :Str)= "go")=false:=by right
  have e2:decide (("turn" :Str)= "turn")=true:=by right
  by_cases h1:z1= "go";subst h1;have hs:sstep (dN (ds.take i)) ("go",z2)=((dN (ds.take i)).1+z2,(dN (ds.take i)).2):=ak rfl;simp? [↓cg,eC];refine eo ?_; simp? [↓cg,e3];simp only[et,gT,hs] at hN Iu;exact hN _ _ ⟨_,_,Iu (.inl rfl),rfl,rfl⟩;by_cases h2:z1= "turn";subst h2;have hs:sstep (dN (ds.take i)) ("turn",z2)=((dN (ds.take i)).1,(dN (ds.take i)).2++ [((dN (ds.take i)).1,z2)]):=aj (show ¬((("turn" :Str),z2).1=("go" :Str)) from(by right:¬(("turn" :Str)=("go" :Str))));simp? [↓cg,eC];refine eo ?_; simp? [↓cg,e1,e2,dL];simp only[et,gT,hs,br,az,cG] at hN Iu;exact hN _ _ ⟨_,_,Iu (.inr rfl),rfl,rfl⟩;have f1:decide (z1= "go")=false:=aQ h1;have f2:decide (z1= "turn")=false:=aQ h2;simp? [↓cg,eC];refine eo ?_; simp? [↓cg,f1,f2];have Qo:z1.length<=100:=SO;(repeat (refine⟨by first | decide | decide+kernel | exact du (by omega) | exact S3 (by right) Qo | exact S2 (by right) Qo (by right),?_⟩));exact⟨M,bB hb,ke ⟨(z1,z2),hzm,λh=>h.elim h1 h2⟩⟩
 rintro ρ M' ⟨o1,o2,NP,rfl,rfl⟩;rw[ag,List.take_length] at*;dsimp only;refine eo ?_; simp? [↓cg];have:=gU ds;refine⟨b,p,(dN ds).2,rfl,au,p0,hf,by omega,?_⟩;simp? [↓cg];exact⟨M,bB hb,kq NP⟩
theorem BU (T:e8 K mg A):bx P w K mg base eE 2 A.xb A.xq ["_law_p_here","_law_deeds"] (fj K LJ):=by
 exists T.EZ.fn,["_law_p_here","_law_deeds","_law_here","_law_pairs","_law_word","_law_number"],(ai (a9 (i:=2) nd rfl (by trivial) ah) (ai (a9 (i:=3) nd rfl (by trivial) (gL af)) (ai (gg PassesOwn.never rfl (jx (K:=K) rfl (pv 1)) (dP (n:=2) rfl (bt (a4 (i:=4) nd rfl (by trivial)) (bt (a4 (i:=5) nd rfl (by trivial)) dn))) (am (bF (a6 dq (pv 4) aP (bj _)) (am (a9 (i:=2) nd rfl (by trivial) (bU dQ (pv 2) (pv 5)))) (am (ce (hW a7 bN bM dE (pv 3) (aa (bh (aa (pv 2) (aa (pv 5) af))) af))))))) (am (aJ (bh (aa (pv 2) (aa (ay T.uT (nk T) hr (aa (pv 0) (aa (pv 3) af))) af))))))))
 rintro vs M q ⟨a,p,ds,rfl,ha,p0,hf,hl,k⟩;simp? [↓cg];refine eo ?_; simp? [↓cg];intro b hb;have AY:a≠b:=cb ha hb;refine eo ?_; simp? [↓cg,aN AY,ha];refine jL (λi ρ M'=> ∃ (o1 o2:Option W),ρ= [some (wi p),some (wr a),some (wi (dN (ds.take i)).1),some (wr b),o1,o2] /\ M'=um M b (.lst ((dN (ds.take i)).2.map bQ))) ⟨none,none,rfl,rfl⟩ ?_ ?_ ?_;rintro i ρ M' _ ⟨o1,o2,rfl,rfl⟩;rw[aN AY];exact ha;rintro i x ρ M' hx ⟨o1,o2,rfl,rfl⟩ N hN;obtain⟨z,hz,rfl⟩:=KG hx;have VS:=(a5.mp hz).1;have et:ds.take (i+1)=ds.take i++ [z]:=by rw[List.take_add_one,hz];rfl
 have dL:(((dN (ds.take i)).2.map bQ).length<sizeLine)=True:=aC (pi (by have:=gU (ds.take i);rw[ag];rw[b0] at this;omega));obtain⟨z1,z2⟩:=z;have e3:decide (("go" :Str)= "go")=true:=by right
 by_cases h1:z1= "go";subst h1;have hs:sstep (dN (ds.take i)) ("go",z2)=((dN (ds.take i)).1+z2,(dN (ds.take i)).2):=ak rfl;simp? [↓cg,eC,e3];simp only[et,gT,hs] at hN;exact hN _ _ ⟨_,_,rfl,rfl⟩;have hs:sstep (dN (ds.take i)) (z1,z2)=((dN (ds.take i)).1,(dN (ds.take i)).2++ [((dN (ds.take i)).1,z2)]):=aj h1;have f1:decide (z1= "go")=false:=aQ h1;simp? [↓cg,eC,f1,dL];simp only[et,gT,hs,br,az,cG] at hN;exact hN _ _ ⟨_,_,rfl,rfl⟩;rintro ρ M' ⟨o1,o2,rfl,rfl⟩;rw[ag,List.take_length];dsimp only;refine eo ?_; simp? [↓cg];have:=gU ds;refine⟨b,p,(dN ds).2,rfl,au,p0,hf,by omega,?_⟩;simp? [↓cg];exact⟨M,bB hb,k⟩
theorem lT (T:e8 K mg A):bx P w K mg base eE 4 A.gi A.gj ["p","one","n"] (fj K J8):=by
 have Nj:bx P w K mg base eE 3 A.gi A.gj ["p","one","n"] (fj K yE):=xa;refine US T.repeated.fn gA (by left) λcdv A' outer s H E hr=> ?_;have nd:=gA.nd;refine⟨_,(ai (bF (a6 n9 (pv 2) ah (bj _)) (am (aJ (ay T.repeated Nj hr (aa (pv 0) (aa (ay T.backward (jB T) hr (aa (pv 0) (aa (pv 1) af))) (aa (fq dY (pv 2)) af)))))) aX) (ai (fJ (pv 1) (dP (n:=2) rfl (bt (a4 (i:=3) nd rfl (by trivial)) (bt (a4 (i:=4) nd rfl (by trivial)) dn)))) (ai (bF (a6 dq (pv 3) ah (bj _)) (am (aJ (bh (aa ah (aa (ay T.timed (qh T) hr (aa (pv 0) (aa (pv 4) (aa (pv 2) af)))) af))))) aX) (ai (n8 (i:=5) (n1:=2) rfl nd rfl (Or.inl rfl) (c8.of (sc:=aO gb) (N:= ["p","one","n","end","pattern","pairs"]) (own:= ["place","setting","k"]) (fr:= [3,2]) (N':= ["place","setting","k","end","n"])) (m_ (pv 4)) (λ_ _ _ _=>(dP (n:=2) rfl (bt (a4 (i:=0) (by show(["place","setting","k","end","n"]:List Str).Nodup;decide+kernel) rfl (by trivial)) (bt (a4 (i:=1) (by show(["place","setting","k","end","n"]:List Str).Nodup;decide+kernel) rfl (by trivial)) dn)))) (by decide) (AN (by show _<_;decide) (by show _<_;decide)) (λ_ _ _ _=>dv) (λ_ _ _ _=>(eI (by rfl) T.gI (aa (pv 4) af))) (λ_ _ _ _=>(a4 (i:=2) (by show(["place","setting","k","end","n"]:List Str).Nodup;decide+kernel) rfl (by trivial))) (wQ (by show _<=_ /\ _<_;decide)) (λ_ _ _ _=>dv) (λ_ _ _ _=>(bh (aa (bU dQ (pv 0) (bU fK (pv 3) (pv 2))) (aa (pv 1) af)))) rfl) (am (aJ (bh (aa (bU fK (pv 3) (pv 2)) (aa (ay T.tidy (lS T) hr (aa (pv 0) (aa (pv 5) af))) af))))))))),?_⟩;try dsimp only[d4]
 refine⟨_,inferInstance,?_⟩;rintro vs M q ⟨p,a,n,rfl,p0,p1,hP,hl,n0,hb,k⟩;have Mz:decide (n<0)=false:=aQ (by omega);have sA:=jj hP p1;dsimp? [fI,Mz];refine dF (λh=> ?_) λh=> ?_;simp? [↓cg];refine⟨p,a.2,n,rfl,p0,zg,hl,sA,?_⟩;simp? [↓cg];refine fM (k (0,nq p (tm n a.2)) ⟨?_,eX p0 _,λx=> ?_⟩ (λ_=> ?_) λh'=>absurd h h');rw[h,Int.zero_mul];rw[ki p0,ym];unfold jh;rw[aj (by omega),h,iB];have:((n.toNat:Nat):Int)=n:=by omega
 rw[this];exact av (gF _ _) (by rw[tm,ag];exact ao _);obtain⟨nb,dL⟩:=hb h;have cm: ∀j:Int,j<100000 ->0<=j ->kL a.1 j=True:=λj h1 h2=>aC (.inr ⟨by omega,by omega⟩);dsimp? [ft];refine CO (λ_=>List.range n.toNat) (λ(k:Nat)=>wi (0+(k:Int))) (λz k=>bQ (z.1+a.1*(0+(k:Int)),z.2)) ?_ (λ_ _=>trivial) ?_ λt ht=> ?_;refine pi ?_;simp only[List.length_range];rw[List.map_const',List.sum_replicate_nat];exact av dL (by decide);intro z hz M3 s3 B N0 hB;simp? [↓bn,bQ];refine⟨⟨by omega,by omega⟩,hB _ _ (λ_ _=>trivial) ?_⟩;intro j hj M4 s4 N hN;have hj:=List.mem_range.mp hj;simp? [↓bn,cm (0+(j:Int)) (by omega) (by omega)];exact hN;have e:(a.2.map λz=>(List.range n.toNat).map λ(k:Nat)=>bQ (z.1+a.1*(0+(k:Int)),z.2)).flatten=(jE a.1 n.toNat a.2).map bQ:=by rw[jE,List.map_flatten,aY];congr 1;apply List.map_congr_left;intro z _;simp only[Function.comp_apply,lL,aY];apply List.map_congr_left;intro j _;rw[Int.zero_add];rfl
 rw[e];have cn:kL a.1 n=True:=cm n nb n0;dsimp? [cn];refine⟨t,p,jE a.1 n.toNat a.2,rfl,au,p0,zg,by rw[qu];exact av dL (by decide),?_⟩;simp? [↓cg];refine⟨M,bB ht,k (a.1*n,nq p (jE a.1 n.toNat a.2)) ⟨rfl,eX p0 _,λx=> ?_⟩ (λh'=>absurd h' h) λ_=> ?_⟩;rw[ki p0,vF];unfold jh;rw[aj (by omega)];refine av (gF _ _) ?_;rw[qu];have:n.toNat=n.natAbs:=by omega
 rw[this];exact ao _
theorem uK (T:e8 K mg A):bx P w K mg base eE 5 A.gi A.gj ["p","one","n"] (fj K J7):=by
 have Nj:=lT (P:=P) (w:=w) (base:=base) T;refine US T.repeated.fn gA (by left) λcdv A' outer s H E hr=> ?_;have nd:=gA.nd;refine⟨_,(ai (bF (a6 n9 (pv 2) ah (bj _)) (am (aJ (ay T.repeated Nj hr (aa (pv 0) (aa (ay T.backward (jB T) hr (aa (pv 0) (aa (pv 1) af))) (aa (fq dY (pv 2)) af)))))) aX) (ai (fJ (pv 1) (dP (n:=2) rfl (bt (a4 (i:=3) nd rfl (by trivial)) (bt (a4 (i:=4) nd rfl (by trivial)) dn)))) (ai (bF (a6 dq (pv 3) ah (bj _)) (am (aJ (bh (aa ah (aa (ay T.timed (qh T) hr (aa (pv 0) (aa (pv 4) (aa (pv 2) af)))) af))))) aX) (ai (n8 (i:=5) (n1:=2) rfl nd rfl (Or.inl rfl) (c8.of (sc:=aO gb) (N:= ["p","one","n","end","pattern","pairs"]) (own:= ["place","setting","k"]) (fr:= [3,2]) (N':= ["place","setting","k","end","n"])) (m_ (pv 4)) (λ_ _ _ _=>(dP (n:=2) rfl (bt (a4 (i:=0) (by show(["place","setting","k","end","n"]:List Str).Nodup;decide+kernel) rfl (by trivial)) (bt (a4 (i:=1) (by show(["place","setting","k","end","n"]:List Str).Nodup;decide+kernel) rfl (by trivial)) dn)))) (by decide) (AN (by show _<_;decide) (by show _<_;decide)) (λ_ _ _ _=>dv) (λ_ _ _ _=>(eI (by rfl) T.gI (aa (pv 4) af))) (λ_ _ _ _=>(a4 (i:=2) (by show(["place","setting","k","end","n"]:List Str).Nodup;decide+kernel) rfl (by trivial))) (wQ (by show _<=_ /\ _<_;decide)) (λ_ _ _ _=>dv) (λ_ _ _ _=>(bh (aa (bU dQ (pv 0) (bU fK (pv 3) (pv 2))) (aa (pv 1) af)))) rfl) (am (aJ (bh (aa (bU fK (pv 3) (pv 2)) (aa (ay T.tidy (lS T) hr (aa (pv 0) (aa (pv 5) af))) af))))))))),?_⟩;try dsimp only[d4]
 refine⟨_,inferInstance,?_⟩;rintro vs M q ⟨p,a,n,rfl,p0,p1,hP,hl,hn,hb,k⟩;have Mz:decide (n<0)=true:=cE hn;have sA:=jj hP p1;dsimp? [Mz];refine⟨p,a,rfl,p0,zg,hl,sA,?_⟩;dsimp? [];have hB:=zp p a;refine⟨p,bk p a, -n,rfl,p0,p1,zo p0 a,by omega,by omega,λhe=> ?_,λr hr QD Ip=> ?_⟩;have he':a.1≠0:=λz=>he (by show -a.1=0;omega);obtain⟨h1,h2,h3⟩:=hb he';refine⟨by omega,av (Nat.mul_le_mul hB (Nat.le_of_eq ?_)) h3⟩;omega;dsimp? [];have e:(-n).natAbs=n.natAbs:=by omega
 rw[e] at Ip;have hm:(bk p a).2.length*n.natAbs<=a.2.length*n.natAbs:=Nat.mul_le_mul_right _ hB;exact fM (k r (hr.uQ p0 hn) (λh=>av (QD (by show -a.1=0;omega)) hB) λh=>av (Ip (by show -a.1≠0;omega)) hm)
theorem ww (T:e8 K mg A):bx P w K mg base eE 5 A.gi A.gj ["p","one","n"] (fj K LM):=QY ((lT T).mono (by decide)) (uK T) λ_ _ _=>Hv
theorem yJ (T:e8 K mg A):bx P w K mg base eE 4 A.tG A.tM ["_law_p_here","_law_one","_law_n"] (fj K LM):=by
 exists T.AF.fn,["_law_p_here","_law_one","_law_n","_law_base","_law_pairs","_law_k"],(ai (bF (a6 dq (aI (show cI _ (bA K) from aA) (pv 1) ah (λ_ _=>rfl)) ah (bj _)) (am (aJ (bh (aa ah (aa (ay T.AG (qj T) hr (aa (pv 0) (aa (bh af) (aa (aI (show cI _ (bA K) from aA) (pv 1) ah (λ_ _=>rfl)) (aa ah (aa (pv 2) af)))))) af))))) aX) (ai (a9 (i:=3) nd rfl (by trivial) (pv 1)) (ai (bF (a6 n9 (pv 2) ah (bj _)) (am (a9 (i:=3) nd rfl (by trivial) (ay T.E5 (BY T) hr (aa (pv 0) (aa (pv 1) af))))) aX) (ai (a9 (i:=4) nd rfl (by trivial) (gL af)) (ai (gg PassesOwn.never rfl (eI (by rfl) T.gI (aa (bf eK (by rfl) T.oQ Boot.«abs» (aa (pv 2) af)) af)) (a4 (i:=5) nd rfl (by trivial)) (am (ce (hW a7 PySem.F.slot_list_extend PySem.F.type_list_extend Cb (pv 4) (aa (dI rfl (c8.of (sc:=_) (N:= ["_law_p_here","_law_one","_law_n","_law_base","_law_pairs","_law_k"]) (own:= ["_law_place","_law_setting"]) (fr:= [5,3]) (N':= ["_law_place","_law_setting","_law_k","_law_base"]) rfl rfl rfl (by right) rfl (by right) (by right) (by right) (by right) (bJ rfl)) (uC (K:=K) rfl (aI (show cI _ (bA K) from aA) (pv 3) ah (λ_ _=>rfl))) (λ_ _ _ _=>(dP (n:=2) rfl (bt (a4 (i:=0) (by show(["_law_place","_law_setting","_law_k","_law_base"]:List Str).Nodup;decide+kernel) rfl (by trivial)) (bt (a4 (i:=1) (by show(["_law_place","_law_setting","_law_k","_law_base"]:List Str).Nodup;decide+kernel) rfl (by trivial)) dn)))) gm (λ_ _ _ _=>dv) (λ_ _ _ _=>(bh (aa (bU dQ (pv 0) (bU fK (pv 2) (aI (show cI _ (bA K) from aA) (pv 3) ah (λ_ _=>rfl)))) (aa (pv 1) af))))) af))))) (am (aJ (bh (aa (bU fK (aI (show cI _ (bA K) from aA) (pv 3) ah (λ_ _=>rfl)) (bf eK (by rfl) T.oQ Boot.«abs» (aa (pv 2) af))) (aa (ay T.uT (nk T) hr (aa (pv 0) (aa (pv 4) af))) af))))))))))
 rintro vs M q ⟨p,a,n,rfl,p0,p1,hP,hl,hb,k⟩;have sA:=jj hP p1;dsimp? [fI];refine dF (λh=> ?_) λh=> ?_;refine⟨p,[],a.2,0,n,rfl,p0,zg,by decide,by omega,sA,?_⟩;dsimp? [];refine fM (k (0,nq p (AC 0 n a.2)) ⟨by rw[h,Int.zero_mul],eX p0 _,λx=> ?_⟩ (λ_=> ?_) λh'=>absurd h h');rw[ki p0,yN,ym,HQ,h];unfold jh;by_cases hn:n<0;rw[ak hn, <- p7 (f:=ez a.2) (g:=λx=> -ez a.2 (x+0)) (λ_=>rfl)];show _=eU (λx=> -ez a.2 (x+0)) 0 (-n).toNat x % p;rw[iB,Int.add_zero];have:(((-n).toNat:Nat):Int)= -n:=by omega
 rw[this,Int.neg_mul_neg];rw[aj hn,iB];have:((n.toNat:Nat):Int)=n:=by omega
 rw[this];refine av (gF _ _) ?_;rw[AC,ag];exact ao _;obtain⟨b1,b2,b3⟩:=hb h;refine eo ?_; simp? [↓cg];refine eo (uU (λρ M'=>M'=M /\ ∃b:WQ.Rd,fo (ρ= [some (wi p),some (fI a),some (wi n),some (fI b),none,none]) (df p b.2) (b.2.length<=a.2.length) (b.2.length*n.natAbs<=100000) (∀r,fR p b n.natAbs r ->fR p a n r)) ?_ λN hN=> ?_);rintro ρ M' ⟨rfl,b,rfl,hPb,hlb,hbn,Vv⟩;have QO:(if n<0 then -n else n)=(n.natAbs:Int):=by split<;>omega
 dsimp? [];intro t ht;dsimp? [QO];refine⟨⟨by omega,by omega⟩,jL (λi ρ KW=> ∃o1:Option W,ρ= [some (wi p),some (fI a),some (wi n),some (fI b),some (wr t),o1] /\ KW t=some (.lst ((lO b i).map bQ)) /\ Sm M' KW) ⟨none,rfl,au,bB ht⟩ (λ_ _ _ _ _=>trivial) ?_ ?_⟩;rintro i x ρ KW hx ⟨o1,rfl,hM,sM⟩ N hN;obtain⟨hi,rfl⟩:=g_ hx;have cm:kL (0+(i:Int)) b.1=True:=aC (.inl ⟨by omega,by omega⟩);dsimp? [hM,fI,ft];refine d5 (λz=>bQ (z.1+(0+(i:Int))*b.1,z.2)) (big (by omega)) (λ_ _=>trivial) ?_ λu hu=> ?_;intro z hz M3 N3 s3 mT;simp? [↓bn,bQ,cm];exact mT;have e:b.2.map (λz=>bQ (z.1+(0+(i:Int))*b.1,z.2))=(mv ((i:Int)*b.1) b.2).map bQ:=by rw[mv,aY,Int.zero_add];rfl
 rw[e];have htu:t≠u:=cb hM hu;have dL:(((lO b i).map bQ).length+((mv ((i:Int)*b.1) b.2).map bQ).length<=sizeLine)=True:=aC (big (by rw[ag,ag,lN,nu];have h1:(i+1)*b.2.length<=n.natAbs*b.2.length:=Nat.mul_le_mul_right _ (by omega);rw[Nat.succ_mul] at h1;rw[Nat.mul_comm n.natAbs] at h1;omega));dsimp? [aN htu,hM,dL];refine hN _ _ ⟨_,rfl,?_,λc o e=> ?_⟩;rw[au,lO,br];rw[aN (cb e ht)];exact(bB hu) _ _ (sM c o e);rintro ρ KW ⟨o1,rfl,hM,sM⟩;rw[g0] at hM;have en:((n.natAbs:Int)).toNat=n.natAbs:=by omega
 rw[en] at hM;dsimp only;have cm:kL b.1 (n.natAbs:Int)=True:=aC (.inr ⟨by omega,by omega⟩);dsimp? [QO,fI,cm];refine⟨t,p,lO b n.natAbs,rfl,hM,p0,zg,by rw[lN,Nat.mul_comm];omega,?_⟩;dsimp? [];refine⟨M',sM,k (b.1*(n.natAbs:Int),nq p (lO b n.natAbs)) (Vv _ ⟨rfl,eX p0 _,λx=> ?_⟩) (λh'=>absurd h' h) λ_=> ?_⟩;rw[ki p0,sD];unfold jh;rw[aj (by omega)];have:((n.natAbs:Int)).toNat=n.natAbs:=by omega
 rw[this];refine av (gF _ _) ?_;rw[lN,Nat.mul_comm];exact Nat.mul_le_mul_right _ hlb;dsimp? [];have hB:=zp p a;refine dF (λhn=> ?_) λhn=> ?_;dsimp? [];refine⟨p,a,rfl,p0,zg,hl,sA,?_⟩;dsimp? [];refine hN _ _ ⟨rfl,bk p a,rfl,zo p0 a,hB,av (Nat.mul_le_mul_right _ hB) b3,λr hr=> ?_⟩;have e:((n.natAbs:Nat):Int)= -n:=by omega
 rw[e] at hr;exact hr.uQ p0 hn;dsimp? [];refine hN _ _ ⟨rfl,a,rfl,hP,ao _,b3,λr hr=> ?_⟩;have e:((n.natAbs:Nat):Int)=n:=by omega
 rw[e] at hr;exact hr
theorem fk (T:e8 K mg A):bx P w K mg base (gu P w) 1 A.mj A.mD ["name"] (nQ K (LS A.d_)):=by
 refine Df T.check_name.fn kO (by rintro vs M q e ⟨n,rfl,_⟩;rfl) λcdv A' outer s H E e hr hF hP=> ?_;have nd:=kO.nd;refine⟨_,(am (bF (kR (dO (wo qg qg ah (bf nH (by rfl) T.mK Boot.«len» (aa (pv 0) af)) (fU (by rfl) T.jf.choose_spec (show RelV (.int 12) _ from⟨_,rfl⟩)))) (iE (di (bf (tR rfl) (by rfl) T.KP Boot.«any» (aa (dI rfl (c8.of (sc:=_) (N:= ["name"]) (own:= ["sign"]) (fr:= []) (N':= ["sign"]) rfl rfl rfl (by right) rfl (by right) (by right) (by right) (by right) (bJ rfl)) (Ey (pv 0)) (λ_ _ _ _=>(a4 (i:=0) (by show(["sign"]:List Str).Nodup;decide+kernel) rfl (by trivial))) eJ (λ_ _ _ _=>dv) (λ_ _ _ _=>(eV BQ (pv 0) (fU (by rfl) T.Bx.choose_spec (show RelV (.str "abcdefghijklmnopqrstuvwxyz") _ from⟨_,rfl⟩)) (by rfl)))) af))))).pt (am (fc hF rfl (by rfl) T.sx (aa (km (dU aP (dU (EA (fU (by rfl) T.jf.choose_spec (show RelV (.int 12) _ from⟨_,rfl⟩))) (dU aP m8)))) af))) aX)),?_⟩;try dsimp only[d4]
 refine⟨_,inferInstance,?_⟩;rintro vs M q ⟨n,rfl,ha,hl,kq,ke⟩;have hz:n.length<=sizeLine:=du (by omega);have Fl:(n.length<=sizeLine)=True:=aC hz;dsimp? [Fl];by_cases h1:1<=n.length
 ·have e1:decide (1<=(n.length:Int))=true:=cE (by omega);by_cases h2:n.length<=12
  ·have e2:decide ((n.length:Int) <=12)=true:=cE (by omega);dsimp? [e1,e2,ha,aL];refine d5 (λc=>wb (!yb c vx)) (by unfold ya;rw[ag, <- str_len];exact hz) (λ_ _=>trivial) ?_ λu hu=> ?_;intro c hc M3 N3 s3 mT;dsimp? [];exact mT;refine⟨u,(ya n).map λc=> !yb c vx,rfl,by rw[au,aY];rfl,?_⟩;have e3:((ya n).map λc=> !yb c vx).any id= !cD n:=by have d1:decide (1<=n.length)=true:=cE h1;have d2:decide (n.length<=12)=true:=cE h2;unfold cD;rw[d1,d2,List.any_map,Bool.true_and,Bool.true_and,List.not_all_eq_any_not];rfl
   rw[e3];dsimp? [];cases hn:cD n with
   | true=> dsimp? [aL];exact⟨M,bB hu,kq hn⟩
   | false=> dsimp? [bv];(repeat (refine⟨by first | decide | decide+kernel,?_⟩));exact⟨M,bB hu,ke hn⟩
  ·have e2:decide ((n.length:Int) <=12)=false:=aQ (by omega);dsimp? [e1,e2,bv];(repeat (refine⟨by first | decide | decide+kernel,?_⟩));exact⟨M,Sm.refl M,ke (by unfold cD;rw[aQ h2];simp)⟩
 ·have e1:decide (1<=(n.length:Int))=false:=aQ (by omega);dsimp? [e1];(repeat (refine⟨by first | decide | decide+kernel,?_⟩));exact⟨M,Sm.refl M,ke (by unfold cD;rw[aQ h1];simp)⟩
theorem rO (T:e8 K mg A):bx P w K mg base eE 1 A.mf A.mB ["things","name","thing"] (fj K LI):=by
 exists T.with_thing.fn,["things","name","thing","changed"],(ai (a9 (i:=3) nd rfl (by trivial) (cL ln (by rfl) T.zq Boot.«dict» (aa (pv 0) af))) (ai (pE (eh hr) (pv 3) (pv 1) (pv 2) rfl) (am (aJ (pv 3)))))
 rintro vs M q ⟨d,kvs,n,x,rfl,hd,hl,k⟩;dsimp? [hd];intro u hu;have hs:(kvs.length<sizeLine)=True:=aC (pi (by omega));refine eo ?_; simp? [↓cg,hs];exact fM (k u hu)
theorem yH (T:e8 K mg A):bx P w K mg base eE 1 A.tE A.tK ["things","name"] (fj K EF):=by
 exists T.without.fn,["things","name","changed"],(ai (a9 (i:=2) nd rfl (by trivial) (cL ln (by rfl) T.zq Boot.«dict» (aa (pv 0) af))) (ai (Hq (pv 2) (pv 1)) (am (aJ (pv 2)))))
 rintro vs M q ⟨d,kvs,n,rfl,hd,hl,k⟩;dsimp? [hd];intro u hu;refine eo ?_; simp? [↓cg,hl];exact fM (k u hu)
theorem uN (T:e8 K mg A):bx P w K mg base eE 1 A.FF A.FS ["self","rounds","teams"] (fj K (Pu A.bE)):=by
 have cl:=aC T.Page.cl;have n1:=aC T.n_Page_rounds;have n2:=aC T.n_Page_teams;exists T.Page.fn,["self","rounds","teams"],(ai (iG (pv 0) (pv 1) rfl) (am (iG (pv 0) (pv 2) rfl)))
 rintro vs M q ⟨s,dx,r,t,rfl,hs,k⟩;have e1:gD "rounds" (wr r) []= [(("rounds" :Str),wr r)]:=rfl;have e2:gD "teams" (wr t) [(("rounds" :Str),wr r)]=lf r t:=rfl;dsimp? [hs,cl,n1,n2,e1,e2,Nat.reduceLT];exact fM k
theorem HG (T:e8 K mg A):bx P w K mg base eE 3 A.FG A.FT ["self","p"] (fj K (PD A.aZ A.bE)):=by
 have cl:=aC T.Book.cl;have n1:=aC T.n_Book_p;have n2:=aC T.n_Book_now;have n3:=aC T.n_Book_past;have n4:=aC T.n_Book_undone;have n5:=aC T.n_Book_held;exists T.Book.fn,["self","p"],(ai (bF (a6 (sP (K:=K) rfl) (pv 1) (Hu (by rfl) T.DO) (by rfl)) (am Ew) aX) (ai (iG (pv 0) (pv 1) rfl) (ai (iG (pv 0) (lP T.Page (uN T) (hr.mono (by decide)) (by rfl) (aa hU (aa hU af))) rfl) (ai (iG (pv 0) (gL af) rfl) (ai (iG (pv 0) (gL af) rfl) (am (iG (pv 0) (gL af) rfl)))))))
 rintro vs M q ⟨s,dx,p,rfl,hp,hs,k⟩;dsimp? [];refine⟨.int p,[.int 2, .int 3, .int 5, .int 7],rfl, .inl rfl,rfl,rfl,?_⟩;have za:(if true=true then !Ko (.int p) [.int 2, .int 3, .int 5, .int 7] else Ko (.int p) [.int 2, .int 3, .int 5, .int 7])=false:=by rcases hp with rfl | rfl | rfl | rfl<;>decide+kernel
 rw[za];have e1:gD "p" (wi p) []= [(("p" :Str),wi p)]:=rfl;dsimp? [hs,cl,n1,e1,Nat.reduceLT];intro r jH;dsimp? [];intro t ht;dsimp? [];intro pg mq rV Kx pL;refine⟨pg,mq,r,t,rfl,au,rfl,?_⟩;have h1:Fs s M (um M s (.ins A.aZ dx [("p",wi p)])):=Fs.self;have h2:=h1.new (o:= .dK []) jH;have h3:=h2.new (o:= .dK []) ht;have h4:=(h3.new (o:= .ins A.bE mq []) rV)
 have Sz:s≠r:=cb au jH;have UX:s≠t:=cb (by rw[aN Sz];exact au) ht;have nps:s≠pg:=cb (by rw[aN UX,aN Sz];exact au) rV;have nrt:r≠t:=cb au ht;have nrp:r≠pg:=cb (by rw[aN nrt];exact au) rV;have ntp:t≠pg:=cb au rV;have f5:Fs s M (um (um (um (um (um M s (.ins A.aZ dx [("p",wi p)])) r (.dK [])) t (.dK [])) pg (.ins A.bE mq [])) pg (.ins A.bE mq (lf r t))):=by rw[kN];exact h3.new rV
 have g1:(um (um (um (um (um M s (.ins A.aZ dx [("p",wi p)])) r (.dK [])) t (.dK [])) pg (.ins A.bE mq [])) pg (.ins A.bE mq (lf r t))) s=some (.ins A.aZ dx [("p",wi p)]):=by rw[kN,aN nps,aN UX,aN Sz];exact au
 have g2:(um (um (um (um (um M s (.ins A.aZ dx [("p",wi p)])) r (.dK [])) t (.dK [])) pg (.ins A.bE mq [])) pg (.ins A.bE mq (lf r t))) r=some (.dK []):=by rw[kN,aN nrp,aN nrt];exact au
 have g3:(um (um (um (um (um M s (.ins A.aZ dx [("p",wi p)])) r (.dK [])) t (.dK [])) pg (.ins A.bE mq [])) pg (.ins A.bE mq (lf r t))) t=some (.dK []):=by rw[kN,aN ntp];exact au
 have g4:(um (um (um (um (um M s (.ins A.aZ dx [("p",wi p)])) r (.dK [])) t (.dK [])) pg (.ins A.bE mq [])) pg (.ins A.bE mq (lf r t))) pg=some (.ins A.bE mq (lf r t)):=au;generalize (um (um (um (um (um M s (.ins A.aZ dx [("p",wi p)])) r (.dK [])) t (.dK [])) pg (.ins A.bE mq [])) pg (.ins A.bE mq (lf r t)))=M4 at f5 g1 g2 g3 g4;clear h1 h2 h3 h4 jH ht rV Kx;have e2:gD "now" (wr pg) [(("p" :Str),wi p)]= [(("p" :Str),wi p),("now",wr pg)]:=rfl;dsimp? [g1,cl,n2,e2,aB,List.length_nil,Nat.reduceLT];intro la Di;have ET:s≠la:=cb au Di;have e3:gD "past" (wr la) [(("p" :Str),wi p),("now",wr pg)]= [(("p" :Str),wi p),("now",wr pg),("past",wr la)]:=rfl;dsimp? [aN ET,cl,n3,e3,aB,List.length_nil,Nat.reduceLT];intro lu AV;have L7:s≠lu:=cb au AV;have HM:la≠lu:=cb (by rw[aN ET.symm];exact au) AV;have e4:gD "undone" (wr lu) [(("p" :Str),wi p),("now",wr pg),("past",wr la)]= [(("p" :Str),wi p),("now",wr pg),("past",wr la),("undone",wr lu)]:=rfl;dsimp? [aN L7,cl,n4,e4,aB,List.length_nil,Nat.reduceLT];intro lh Iq;have Kb:s≠lh:=cb au Iq;have L8:la≠lh:=cb (by rw[aN ET.symm,aN HM,aN ET.symm];exact au) Iq;have L6:lu≠lh:=cb (by rw[aN L7.symm];exact au) Iq;have e5:gD "held" (wr lh) [(("p" :Str),wi p),("now",wr pg),("past",wr la),("undone",wr lu)]=fC p pg la lu lh:=rfl;dsimp? [aN Kb,cl,n5,e5,aB,List.length_nil,Nat.reduceLT];have F:=((((((Fs.self (M:=M4) (s:=s)).new Di (o:= .lst [])).put (o:= .ins A.aZ dx [(("p" :Str),wi p),("now",wr pg),("past",wr la)])).new AV (o:= .lst [])).put (o:= .ins A.aZ dx [(("p" :Str),wi p),("now",wr pg),("past",wr la),("undone",wr lu)])).new Iq (o:= .lst [])).put (o:= .ins A.aZ dx (fC p pg la lu lh));refine fM (k _ la lu lh pg ⟨⟨dx,au⟩,?_,?_,?_,⟨HM,L8,L6⟩,mq,r,t,F _ _ g4 nps.symm,F _ _ g2 Sz.symm,F _ _ g3 UX.symm⟩ (f5.trans F) ?_ ?_ ?_ ET.symm);rw[aN ET.symm,aN L8,aN ET.symm,aN HM,aN ET.symm];exact au;rw[aN L7.symm,aN L6,aN L7.symm];exact au;rw[aN Kb.symm];exact au;rw[aN ET.symm] at Di;exact f5.free Di ET.symm;rw[aN L7.symm,aN HM.symm,aN L7.symm] at AV;exact f5.free AV L7.symm;rw[aN Kb.symm,aN L6.symm,aN Kb.symm,aN L8.symm,aN Kb.symm] at Iq;exact f5.free Iq Kb.symm
theorem no (T:e8 K mg A):bx P w K mg base eE 1 A.iY A.i6 ["self"] (fj K (BN A.aZ A.bE)):=by
 have cl:=aC T.Book.cl;have n1:=aC T.n_Book_p;exists T.k9.fn,["self"],(am (aJ (bW (K:=K) rfl (pv 0) rfl)))
 rintro vs M q ⟨b,la,lu,lh,now,p,pa,un,he,R,T',rfl,hB,k⟩;obtain⟨dx,hb⟩:=hB.ob;dsimp? [hb,cl,n1,CT];exact fM k
theorem jz (T:e8 K mg A):bx P w K mg base eE 1 A.kU A.kY ["one","farthest_end","farthest_place"] (fj K EG):=by
 exists T.lies_within.fn,["one","farthest_end","farthest_place","end","pattern"],(ai (fJ (pv 0) (dP (n:=2) rfl (bt (a4 (i:=3) nd rfl (by trivial)) (bt (a4 (i:=4) nd rfl (by trivial)) dn)))) (am (aJ (ng (eV qg (bf eK (by rfl) T.oQ Boot.«abs» (aa (pv 3) af)) (pv 1) (bj _)) (lg (bf (f8 rfl) (by rfl) T.tY Boot.«all» (aa (dI rfl (c8.of (sc:=aO gJ) (N:= ["one","farthest_end","farthest_place","end","pattern"]) (own:= ["place","setting"]) (fr:= [2]) (N':= ["place","setting","farthest_place"])) (m_ (pv 4)) (λ_ _ _ _=>(dP (n:=2) rfl (bt (a4 (i:=0) (by show(["place","setting","farthest_place"]:List Str).Nodup;decide+kernel) rfl (by trivial)) (bt (a4 (i:=1) (by show(["place","setting","farthest_place"]:List Str).Nodup;decide+kernel) rfl (by trivial)) dn)))) gm (λ_ _ _ _=>dv) (λ_ _ _ _=>(eV qg (bf eK (by rfl) T.oQ Boot.«abs» (aa (pv 0) af)) (pv 2) (bj _)))) af)))))))
 rintro vs M q ⟨a,e,r,rfl,hl,k⟩;have sm: ∀u o,M u=none ->Sm M (um M u o):=λu o h=>bB h;have ef:jN a e r= !(decide ((if a.1<0 then -a.1 else a.1) <=e) && a.2.all λz=>decide ((if z.1<0 then -z.1 else z.1) <=r)):=rfl;dsimp? [fI,ft];cases h1:decide ((if a.1<0 then -a.1 else a.1) <=e) with
 | false=>rw[h1,Bool.false_and] at ef;rw[ef] at k;dsimp? [];exact fM k
 | true=>rw[h1,Bool.true_and] at ef;rw[ef,Bool.not_not] at k;dsimp? [];refine d5 (λz=>wb (decide ((if z.1<0 then -z.1 else z.1) <=r))) (big (by omega)) (λ_ _=>trivial) ?_ λu hu=> ?_;intro z hz M3 N3 s3 mT;dsimp? [bQ];exact mT;refine⟨u,a.2.map λz=>decide ((if z.1<0 then -z.1 else z.1) <=r),rfl,by rw[au,aY];rfl,?_⟩;rw[List.all_map];exact⟨M,bB hu,k⟩
theorem uM (T:e8 K mg A):bx P w K mg base eE 2 A.ox A.oG ["one"] (fj K LR):=by
 exists T.fits_crew.fn,["one"],(am (aJ (ay T.lies_within (jz T) hr (aa (pv 0) (aa (fU (by rfl) T.pV.choose_spec (show RelV (.int 8) _ from⟨_,rfl⟩)) (aa (fU (by rfl) T.mW.choose_spec (show RelV (.int 24) _ from⟨_,rfl⟩)) af))))))
 rintro vs M q ⟨a,rfl,hl,k⟩;dsimp? [];exact⟨a,8,24,rfl,hl,fM k⟩
theorem iU (T:e8 K mg A):bx P w K mg base eE 1 A.jR A.j6 ["self","page"] (fj K (Pq A.aZ A.bE)):=by
 have cl:=aC T.Book.cl;have n2:=aC T.n_Book_now;have n3:=aC T.n_Book_past;have n4:=aC T.n_Book_undone;exists T.iM.fn,["self","page"],(ai (ce (hW a7 bN bM dE (bW (K:=K) rfl (pv 0) rfl) (aa (bW (K:=K) rfl (pv 0) rfl) af))) (ai (iG (pv 0) (gL af) rfl) (am (iG (pv 0) (pv 1) rfl))))
 rintro vs M q ⟨b,la,lu,lh,now,pg,p,pa,un,he,R,T',R',T1,rfl,hB,hP,hl,k⟩;obtain⟨dx,hb⟩:=hB.ob;have hs:((pa.map wr).length<sizeLine)=True:=aC (pi (by rw[ag];omega));have ha:=hB.pa;have U0:b≠la:=λz=>by subst z;rw[hb] at ha;cases ha
 dsimp? [hb,cl,n2,n3,n4,kK,aa1,ha,hs];intro iz hu;have U1:la≠iz:=cb au hu;have nbu:b≠iz:=cb (by rw[aN U0];exact hb) hu;dsimp? [aN nbu,aN U0,hb,cl,n2,n4,aa0,aaY,aaZ];have NN:M iz=none:=by rwa [aN U1.symm] at hu
 have F:zx b la M (um (um (um M la (.lst (pa.map wr++ [wr now]))) iz (.lst [])) b (.ins A.aZ dx (fC p pg la iz lh))):=λa o h n1 n2=>by rw[aN n1,aN (cb h NN),aN n2];exact h
 have hh:=hB.he;refine fM (k _ iz ⟨⟨dx,au⟩,?_,?_,F _ _ hh (λz=>by subst z;rw[hb] at hh;cases hh) hB.ne.2.1.symm,⟨U1,hB.ne.2.1,(cb hh NN).symm⟩,F.pg hb ha hP⟩ F NN);rw[aN U0.symm,aN U1,au,br];rfl;rw[aN nbu.symm];exact au
theorem hZ (T:e8 K mg A):bx P w K mg base eE 1 A.i0 A.i8 ["self","name"] (fj K (BP A.aZ A.bE)):=by
 have cl:=aC T.Book.cl;have rZ:=aC T.Page.cl;have n2:=aC T.n_Book_now;have n3:=aC T.n_Page_teams;exists T.gQ.fn,["self","name"],(am (aJ (bf (tR rfl) (by rfl) T.KP Boot.«any» (aa (Ar (dI rfl (c8.of (sc:=_) (N:= ["self","name"]) (own:= ["team"]) (fr:= [1]) (N':= ["team","name"]) rfl rfl rfl (by right) rfl (by right) (by right) (by right) (by right) (bJ rfl)) (Hr (bW (K:=K) rfl (bW (K:=K) rfl (pv 0) rfl) rfl)) (λ_ _ _ _=>(a4 (i:=0) (by show(["team","name"]:List Str).Nodup;decide+kernel) rfl (by trivial))) eJ (λ_ _ _ _=>dv) (λ_ _ _ _=>(eV (EK (K:=K) rfl) (pv 1) (pv 0) (by rfl))))) af))))
 rintro vs M q ⟨b,la,lu,lh,now,p,pa,un,he,R,T',n,rfl,hB,hl,k⟩;obtain⟨dx,hb⟩:=hB.ob;obtain⟨mq,r,t,h1,h2,h3⟩:=hB.pg;dsimp? [];refine⟨t,_,h3,?_⟩;dsimp? [hb,h1,cl,rZ,n2,n3,kK,oT,h3];intro o ks;rw[DN];refine d5 (λz=>wb (SN n z.2)) (big (by omega)) (λM2 s2=>s2 _ _ au) ?_ λu hu=> ?_;intro z hz M3 N3 s3 mT;dsimp? [];exact Ii mT;have nut:t≠u:=cb au hu;refine⟨o,ks,_,by rw[aN nut];exact au,u,T'.map λz=>SN n z.2,rfl,by rw[aN nut.symm,au,aY];rfl,M,zS h3 hu,?_⟩;rw[List.any_map];exact k
theorem gE (T:e8 K mg A):bx P w K mg base (gu P w) 4 A.qM A.qV ["self","name","one"] (nQ K (BO A.aZ A.bE A.c_)):=by
 have cl:=aC T.Book.cl;have rZ:=aC T.Page.cl;have n2:=aC T.n_Book_now;have n3:=aC T.n_Page_teams;have n4:=aC T.n_Page_rounds;refine Df T.kh.fn nR (by rintro vs M q e ⟨b,la,lu,lh,now,p,pa,un,he,R,T',n,a,rfl,_⟩;rfl) λcdv A' outer s H E e hr hF hP=> ?_;have nd:=nR.nd;refine⟨_,(ai (bF (dO (di (ay T.lies_within (jz T) hr (aa (pv 2) (aa (fU (by rfl) T.k_.choose_spec (show RelV (.int 200) _ from⟨_,rfl⟩)) (aa (fU (by rfl) T.k_.choose_spec (show RelV (.int 200) _ from⟨_,rfl⟩)) af)))))) (am (fc hF rfl (by rfl) T.pR (aa (km (dU aP (dU (EA (fU (by rfl) T.k_.choose_spec (show RelV (.int 200) _ from⟨_,rfl⟩))) (dU aP m8)))) af))) aX) (ai (bF (jv (di (hJ T.gQ (hZ T) (hr.mono (by decide)) (pv 0) (aa (pv 1) af))) (iF (dO (di (ay T.fits_crew (uM T) hr (aa (pv 2) af)))))).pt (am (fc hF rfl (by rfl) T.pR (aa aP af))) aX) (am (ce (hJ T.iM (iU T) (hr.mono (by decide)) (pv 0) (aa (lP T.Page (uN T) (hr.mono (by decide)) (by rfl) (aa (ay T.with_thing (rO T) hr (aa (bW (K:=K) rfl (bW (K:=K) rfl (pv 0) rfl) rfl) (aa (pv 1) (aa (pv 2) af)))) (aa (bW (K:=K) rfl (bW (K:=K) rfl (pv 0) rfl) rfl) af))) af)))))),?_⟩;try dsimp only[d4]
 refine⟨_,inferInstance,?_⟩;rintro vs M q ⟨b,la,lu,lh,now,p,pa,un,he,R,T',n,a,rfl,hB,hl,hlR,hlT,Di,kq,ke⟩;obtain⟨dx,hb⟩:=hB.ob;obtain⟨mq,r,t,h1,h2,h3⟩:=hB.pg;have up: ∀C,e C M ->WL.up e C M:=λC h=>⟨M,Sm.refl M,h⟩
 dsimp? [];refine⟨a,200,200,rfl,Di,?_⟩;cases hf:jN a 200 200 with
 | true=>dsimp? [aL,bv];(repeat (refine⟨by first | decide | decide+kernel,?_⟩));exact up _ (ke (by unfold cT;rw[hf];rfl))
 | false=>
  dsimp? [aL,bv,hb,oP];refine⟨b,la,lu,lh,now,p,pa,un,he,R,T',n,rfl,hB,hlT,?_⟩;cases hu:DI T' n with
  | false=>
   have lj:cT T' n a=false:=by unfold cT;rw[hf,hu];rfl
   dsimp? [hb,h1,cl,rZ,n2,n3,n4,kK,oT,qe,lp];rw[pB];dsimp? [hb,h1,cl,rZ,n2,n3,n4,kK,oT,qe];refine⟨r,_,n,_,rfl,h2,by rw[ud];omega,λu hu=> ?_⟩;have QB:=cb hb hu;have pd:=cb h1 hu;dsimp? [aN QB,aN pd,hb,h1,cl,rZ,n2,n3,n4,kK,oT,qe];intro pg FL rV Kx pL;rw[kj] at rV ⊢;refine⟨pg,FL,u,t,rfl,au,rfl,?_⟩;rw[kN];have s2:=(bB hu (o:= .dK (rE fI (kC R n a)))).trans (bB rV (o:= .ins A.bE FL (lf u t)));have PR:=cb au rV;exact⟨b,la,lu,lh,now,pg,p,pa,un,he,R,T',_,T',rfl,hB.sm s2,⟨FL,u,t,au,by rw[aN PR];exact au,s2 _ _ h3⟩,hl,λM' iz B' F AV=>fM (kq lj M' iz pg B' (F.sm s2) (s2.free AV) ((bB hu).free rV))⟩
  | true=>
   dsimp? [];refine⟨a,rfl,Di,?_⟩;cases SW:jN a 8 24 with
   | true=>dsimp? [aL,bv];(repeat (refine⟨by first | decide | decide+kernel,?_⟩));exact up _ (ke (by unfold cT;rw[hu,SW,hf];rfl))
   | false=>
    have lj:cT T' n a=false:=by unfold cT;rw[hf,hu,SW];rfl
    dsimp? [aL,bv,hb,h1,cl,rZ,n2,n3,n4,kK,oT,qe,lp];rw[pB];dsimp? [hb,h1,cl,rZ,n2,n3,n4,kK,oT,qe];refine⟨r,_,n,_,rfl,h2,by rw[ud];omega,λu hu=> ?_⟩;have QB:=cb hb hu;have pd:=cb h1 hu;dsimp? [aN QB,aN pd,hb,h1,cl,rZ,n2,n3,n4,kK,oT,qe];intro pg FL rV Kx pL;rw[kj] at rV ⊢;refine⟨pg,FL,u,t,rfl,au,rfl,?_⟩;rw[kN];have s2:=(bB hu (o:= .dK (rE fI (kC R n a)))).trans (bB rV (o:= .ins A.bE FL (lf u t)));have PR:=cb au rV;exact⟨b,la,lu,lh,now,pg,p,pa,un,he,R,T',_,T',rfl,hB.sm s2,⟨FL,u,t,au,by rw[aN PR];exact au,s2 _ _ h3⟩,hl,λM' iz B' F AV=>fM (kq lj M' iz pg B' (F.sm s2) (s2.free AV) ((bB hu).free rV))⟩
theorem dg (T:e8 K mg A):bx P w K mg base (gu P w) 1 A.iZ A.i7 ["self","name"] (nQ K (EH A.aZ A.bE A.eL)):=by
 have cl:=aC T.Book.cl;have rZ:=aC T.Page.cl;have n2:=aC T.n_Book_now;have n4:=aC T.n_Page_rounds;refine Df T.dB.fn gY (by rintro vs M q e ⟨b,la,lu,lh,now,p,pa,un,he,R,T',n,rfl,_⟩;rfl) λcdv A' outer s H E e hr hF hP=> ?_;have nd:=gY.nd;refine⟨_,(ai (bF (yA (nh (eh hr) (pv 1) (bW (K:=K) rfl (bW (K:=K) rfl (pv 0) rfl) rfl))) (am (fc hF rfl (by rfl) T.sw (aa (km (dU aP (dU (uD (pv 1)) m8))) af))) aX) (am (aJ (eB (eh hr) (bW (K:=K) rfl (bW (K:=K) rfl (pv 0) rfl) rfl) (pv 1) (λ_ _=>rfl))))),?_⟩;try dsimp only[d4]
 refine⟨_,inferInstance,?_⟩;rintro vs M q ⟨b,la,lu,lh,now,p,pa,un,he,R,T',n,rfl,hB,hl,kq,ke⟩;obtain⟨dx,hb⟩:=hB.ob;obtain⟨mq,r,t,h1,h2,h3⟩:=hB.pg;dsimp? [hb,h1,h2,cl,rZ,n2,n4,kK,qe,dS];cases hg:c7 R n with
 | some a=>dsimp? [cf,Option.isSome_some,aL];dsimp? [hb,h1,h2,cl,rZ,n2,n4,kK,qe,dS,hg,cf];exact fM (kq a hg)
 | none=>dsimp? [Option.map_none,Option.isSome_none,bv];(repeat (refine⟨by first | decide | decide+kernel | exact du (by omega) | exact S3 (by right) hl | exact S2 (by right) hl (by right),?_⟩));exact⟨M,Sm.refl M,ke hg⟩
theorem rQ (T:e8 K mg A):bx P w K mg base eE 1 A.ml A.mE ["self"] (fj K (Hx A.aZ A.bE)):=by
 have cl:=aC T.Book.cl;have rZ:=aC T.Page.cl;have n2:=aC T.n_Book_now;have n4:=aC T.n_Page_rounds;exists T.rC.fn,["self"],(am (aJ (bf (fY rfl) (by rfl) T.iu Boot.«sorted» (aa (bW (K:=K) rfl (bW (K:=K) rfl (pv 0) rfl) rfl) af))))
 rintro vs M q ⟨b,la,lu,lh,now,p,pa,un,he,R,T',rfl,hB,hl,k⟩;obtain⟨dx,hb⟩:=hB.ob;obtain⟨mq,r,t,h1,h2,h3⟩:=hB.pg;dsimp? [hb,h1,h2,cl,rZ,n2,n4,kK,qe];exact⟨r,_,R.map (·.1),rfl,h2,pZ _ _,by rw[ag];exact big (by omega),λu ns hu h3 h4=>fM (k u ns hu h3 h4)⟩
theorem rR (T:e8 K mg A):bx P w K mg base eE 1 A.mn A.mG ["self"] (fj K (HB A.aZ A.bE)):=by
 have cl:=aC T.Book.cl;have rZ:=aC T.Page.cl;have n2:=aC T.n_Book_now;have n4:=aC T.n_Page_teams;exists T.rD.fn,["self"],(am (aJ (bf (fY rfl) (by rfl) T.iu Boot.«sorted» (aa (bW (K:=K) rfl (bW (K:=K) rfl (pv 0) rfl) rfl) af))))
 rintro vs M q ⟨b,la,lu,lh,now,p,pa,un,he,R,T',rfl,hB,hl,k⟩;obtain⟨dx,hb⟩:=hB.ob;obtain⟨mq,r,t,h1,h2,h3⟩:=hB.pg;dsimp? [hb,h1,h3,cl,rZ,n2,n4,kK,oT];exact⟨t,_,T'.map (·.1),rfl,h3,pZ _ _,by rw[ag];exact big (by omega),λu ns hu h3 h4=>fM (k u ns hu h3 h4)⟩
theorem lU (T:e8 K mg A):bx P w K mg base (gu P w) 5 A.oz A.oI ["self","name","deeds"] (nQ K (PB A.aZ A.bE (vv A) QZ)):=by
 have cl:=aC T.Book.cl;have n1:=aC T.n_Book_p;refine Df T.nO.fn lC (by rintro vs M q e ⟨b,la,lu,lh,now,p,pa,un,he,R,T',dd,ys,rfl,⟨n,a,ds,rfl,_⟩,_⟩;rfl) λcdv A' outer s H E e hr hF hP=> ?_;have nd:=lC.nd;refine⟨_,(ai (ce (hV hP T.check_name (fk T) (hr.mono (by decide)) (by rfl) (aa (pv 1) af))) (am (ce (cA hP T.kh (gE T) (hr.mono (by decide)) (pv 0) (aa (pv 1) (aa (hV hP T.gone (HF T) (hr.mono (by decide)) (by rfl) (aa (bW (K:=K) rfl (pv 0) rfl) (aa (pv 2) af))) af)))))),?_⟩;try dsimp only[d4]
 refine⟨_,inferInstance,?_⟩;rintro vs M q ⟨b,la,lu,lh,now,p,pa,un,he,R,T',dd,ys,rfl,⟨n,a,ds,rfl,rfl,ha⟩,⟨hn,hd,hw⟩,hB,hS,kq,ke⟩;obtain⟨dx,hb⟩:=hB.ob;have p0:0<p:=by have:=hS.p4;omega
 have up: ∀C,e C M ->WL.up e C M:=λC h=>⟨M,Sm.refl M,h⟩
 refine⟨n,rfl,hn.as,hn.len,λjI=> ?_,λjI=>up _ (ke .BadName (by rw[bR,ak jI]))⟩;have y8: ∀ (a':WQ.Rd),a'.2.length<=1000000 ->bR p R T' (.tell n ds)=gw R T' n a' ->BO A.aZ A.bE A.c_ [wr b,ws n,fI a'] M (λ_ M1=> ∃M0,Sm M0 M1 /\ q wn M0) (WL.up e):=λa' hl ho=>uw hB hS hl ho kq λr h=>up _ (ke r h);dsimp? [hb,cl,n1,CT,q0];refine⟨a,p,ds,rfl,ha,p0,zg,by omega,hw,λhg=> ?_,λhg=>up _ (ke .NoDeed ?_)⟩;dsimp? [];exact y8 _ (av (gF _ _) (av (gU _) (by omega))) (by rw[bR,aj (by rw[jI];decide),aj (by rw[qI.mpr hg];decide)]);have:fL ds=false:=by
  cases h:fL ds with
  | false=>rfl
  | true=>obtain⟨d,h1,h2⟩:=hg;exact absurd (qI.mp h d h1) h2
 rw[bR,aj (by rw[jI];decide),ak this]
theorem oY (T:e8 K mg A):bx P w K mg base (gu P w) 5 A.jT A.j8 ["self","name","one","other"] (nQ K (PB A.aZ A.bE (vv A) Q0)):=by
 have cl:=aC T.Book.cl;have n1:=aC T.n_Book_p;refine Df T.mQ.fn iP (by rintro vs M q e ⟨b,la,lu,lh,now,p,pa,un,he,R,T',dd,ys,rfl,⟨n,x,y,rfl,_⟩,_⟩;rfl) λcdv A' outer s H E e hr hF hP=> ?_;have nd:=iP.nd;refine⟨_,(ai (ce (hV hP T.check_name (fk T) (hr.mono (by decide)) (by rfl) (aa (pv 1) af))) (am (ce (cA hP T.kh (gE T) (hr.mono (by decide)) (pv 0) (aa (pv 1) (aa (ay T.joined (BZ T) hr (aa (bW (K:=K) rfl (pv 0) rfl) (aa (cA hP T.dB (dg T) (hr.mono (by decide)) (pv 0) (aa (pv 2) af)) (aa (cA hP T.dB (dg T) (hr.mono (by decide)) (pv 0) (aa (pv 3) af)) af)))) af)))))),?_⟩;try dsimp only[d4]
 refine⟨_,inferInstance,?_⟩;rintro vs M q ⟨b,la,lu,lh,now,p,pa,un,he,R,T',dd,ys,rfl,⟨n,x,y,rfl,rfl⟩,⟨hn,hx,hy⟩,hB,hS,kq,ke⟩;obtain⟨dx,hb⟩:=hB.ob;have p0:0<p:=by have:=hS.p4;omega
 have up: ∀C,e C M ->WL.up e C M:=λC h=>⟨M,Sm.refl M,h⟩
 dsimp? [];refine⟨n,rfl,hn.as,hn.len,λjI=> ?_,λjI=>up _ (ke .BadName (by rw[bR,ak jI]))⟩;have y8: ∀ (a':WQ.Rd),a'.2.length<=1000000 ->bR p R T' (.join n x y)=gw R T' n a' ->BO A.aZ A.bE A.c_ [wr b,ws n,fI a'] M (λ_ M1=> ∃M0,Sm M0 M1 /\ q wn M0) (WL.up e):=λa' hl ho=>uw hB hS hl ho kq λr h=>up _ (ke r h);have pd:¬cD n=false:=by rw[jI];decide
 dsimp? [hb,cl,n1,CT,q0,eM];refine⟨b,la,lu,lh,now,p,pa,un,he,R,T',x,rfl,hB,hx.len,λa hg=> ?_,λhg=>up _ (ke .NoRound (by rw[bR,aj pd,hg]))⟩;dsimp? [hb,cl,n1,CT,q0,eM];refine⟨b,la,lu,lh,now,p,pa,un,he,R,T',y,rfl,hB,hy.len,λa2 Kv=> ?_,λKv=>up _ (ke .NoRound (by rw[bR,aj pd,hg,Kv]))⟩;dsimp? [];obtain⟨z,hz,rfl,rfl⟩:=fX hg;obtain⟨z2,Mq,rfl,rfl⟩:=fX Kv;have l1:=(hS.r.ok z hz).2.1;have l2:=(hS.r.ok z2 Mq).2.1;refine⟨p,z.2,z2.2,rfl,p0,zg,by omega,by omega,?_⟩;dsimp? [];exact y8 _ (av (Fb _ _ _) (by omega)) (by rw[bR,aj pd,hg,Kv])
theorem oZ (T:e8 K mg A):bx P w K mg base (gu P w) 5 A.jW A.ka ["self","name","one"] (nQ K (PB A.aZ A.bE (vv A) Q2)):=by
 have cl:=aC T.Book.cl;have n1:=aC T.n_Book_p;refine Df T.mR.fn iQ (by rintro vs M q e ⟨b,la,lu,lh,now,p,pa,un,he,R,T',dd,ys,rfl,⟨n,x,rfl,_⟩,_⟩;rfl) λcdv A' outer s H E e hr hF hP=> ?_;have nd:=iQ.nd;refine⟨_,(ai (ce (hV hP T.check_name (fk T) (hr.mono (by decide)) (by rfl) (aa (pv 1) af))) (am (ce (cA hP T.kh (gE T) (hr.mono (by decide)) (pv 0) (aa (pv 1) (aa (ay T.backward (jB T) hr (aa (bW (K:=K) rfl (pv 0) rfl) (aa (cA hP T.dB (dg T) (hr.mono (by decide)) (pv 0) (aa (pv 2) af)) af))) af)))))),?_⟩;try dsimp only[d4]
 refine⟨_,inferInstance,?_⟩;rintro vs M q ⟨b,la,lu,lh,now,p,pa,un,he,R,T',dd,ys,rfl,⟨n,x,rfl,rfl⟩,⟨hn,hx⟩,hB,hS,kq,ke⟩;obtain⟨dx,hb⟩:=hB.ob;have p0:0<p:=by have:=hS.p4;omega
 have p1:p<1000:=by have:=hS.p4;omega
 have up: ∀C,e C M ->WL.up e C M:=λC h=>⟨M,Sm.refl M,h⟩
 dsimp? [];refine⟨n,rfl,hn.as,hn.len,λjI=> ?_,λjI=>up _ (ke .BadName (by rw[bR,ak jI]))⟩;have y8: ∀ (a':WQ.Rd),a'.2.length<=1000000 ->bR p R T' (.back n x)=gw R T' n a' ->BO A.aZ A.bE A.c_ [wr b,ws n,fI a'] M (λ_ M1=> ∃M0,Sm M0 M1 /\ q wn M0) (WL.up e):=λa' hl ho=>uw hB hS hl ho kq λr h=>up _ (ke r h);have pd:¬cD n=false:=by rw[jI];decide
 dsimp? [hb,cl,n1,CT,q0,eM];refine⟨b,la,lu,lh,now,p,pa,un,he,R,T',x,rfl,hB,hx.len,λa hg=> ?_,λhg=>up _ (ke .NoRound (by rw[bR,aj pd,hg]))⟩;dsimp? [];obtain⟨z,hz,rfl,rfl⟩:=fX hg;have l1:=(hS.r.ok z hz).2.1;refine⟨p,z.2,rfl,p0,zg,by omega,jj (hS.r.ok z hz).1 p1,?_⟩;dsimp? [];exact y8 _ (av (zp _ _) (by omega)) (by rw[bR,aj pd,hg])
theorem nn (T:e8 K mg A):bx P w K mg base (gu P w) 6 A.iX A.i5 ["self","name","one","n"] (nQ K (PB A.aZ A.bE (vv A) MT)):=by
 have cl:=aC T.Book.cl;have n1:=aC T.n_Book_p;refine Df T.k8.fn gX (by rintro vs M q e ⟨b,la,lu,lh,now,p,pa,un,he,R,T',dd,ys,rfl,⟨n,x,j,rfl,_⟩,_⟩;rfl) λcdv A' outer s H E e hr hF hP=> ?_;have nd:=gX.nd;refine⟨_,(ai (ce (hV hP T.check_name (fk T) (hr.mono (by decide)) (by rfl) (aa (pv 1) af))) (am (ce (cA hP T.kh (gE T) (hr.mono (by decide)) (pv 0) (aa (pv 1) (aa (ay T.repeated (ww T) hr (aa (bW (K:=K) rfl (pv 0) rfl) (aa (cA hP T.dB (dg T) (hr.mono (by decide)) (pv 0) (aa (pv 2) af)) (aa (pv 3) af)))) af)))))),?_⟩;try dsimp only[d4]
 refine⟨_,inferInstance,?_⟩;rintro vs M q ⟨b,la,lu,lh,now,p,pa,un,he,R,T',dd,ys,rfl,⟨n,x,j,rfl,rfl⟩,⟨hn,hx,j0,j1⟩,hB,hS,kq,ke⟩;obtain⟨dx,hb⟩:=hB.ob;have p0:0<p:=by have:=hS.p4;omega
 have p1:p<1000:=by have:=hS.p4;omega
 have up: ∀C,e C M ->WL.up e C M:=λC h=>⟨M,Sm.refl M,h⟩
 dsimp? [];refine⟨n,rfl,hn.as,hn.len,λjI=> ?_,λjI=>up _ (ke .BadName (by rw[bR,ak jI]))⟩;have y8: ∀ (a':WQ.Rd),a'.2.length<=1000000 ->bR p R T' (.times n x j)=gw R T' n a' ->BO A.aZ A.bE A.c_ [wr b,ws n,fI a'] M (λ_ M1=> ∃M0,Sm M0 M1 /\ q wn M0) (WL.up e):=λa' hl ho=>uw hB hS hl ho kq λr h=>up _ (ke r h);have pd:¬cD n=false:=by rw[jI];decide
 dsimp? [hb,cl,n1,CT,q0,eM];refine⟨b,la,lu,lh,now,p,pa,un,he,R,T',x,rfl,hB,hx.len,λa hg=> ?_,λhg=>up _ (ke .NoRound (by rw[bR,aj pd,hg]))⟩;dsimp? [];obtain⟨z,hz,rfl,rfl⟩:=fX hg;have l1:=(hS.r.ok z hz).2.1;have l3:z.2.2.length*j.natAbs<=401*100:=Nat.mul_le_mul l1 (by omega);refine⟨p,z.2,j,rfl,p0,p1,(hS.r.ok z hz).1,by omega,λ_=>⟨by omega,by omega,by omega⟩,λr hr QD Ip=> ?_⟩;dsimp? [];refine y8 _ ?_ (by rw[bR,aj pd,hg];simp only[Ad p0 hr]);by_cases h0:z.2.1=0;have:=QD h0;omega;have:=Ip h0;omega
theorem uP (T:e8 K mg A):bx P w K mg base (gu P w) 3 A.oE A.oN ["self","name"] (nQ K (PB A.aZ A.bE (vv A) Q1)):=by
 have cl:=aC T.Book.cl;have rZ:=aC T.Page.cl;have n2:=aC T.n_Book_now;have n3:=aC T.n_Page_teams;have n4:=aC T.n_Page_rounds;refine Df T.t7.fn lE (by rintro vs M q e ⟨b,la,lu,lh,now,p,pa,un,he,R,T',dd,ys,rfl,⟨n,rfl,_⟩,_⟩;rfl) λcdv A' outer s H E e hr hF hP=> ?_;have nd:=lE.nd;refine⟨_,(ai (ce (cA hP T.dB (dg T) (hr.mono (by decide)) (pv 0) (aa (pv 1) af))) (ai (bF (di (hJ T.gQ (hZ T) (hr.mono (by decide)) (pv 0) (aa (pv 1) af))) (am (fc hF rfl (by rfl) T.zJ (aa (km (dU (uD (pv 1)) (dU aP m8))) af))) aX) (am (ce (hJ T.iM (iU T) (hr.mono (by decide)) (pv 0) (aa (lP T.Page (uN T) (hr.mono (by decide)) (by rfl) (aa (ay T.without (yH T) hr (aa (bW (K:=K) rfl (bW (K:=K) rfl (pv 0) rfl) rfl) (aa (pv 1) af))) (aa (bW (K:=K) rfl (bW (K:=K) rfl (pv 0) rfl) rfl) af))) af)))))),?_⟩;try dsimp only[d4]
 refine⟨_,inferInstance,?_⟩;rintro vs M q ⟨b,la,lu,lh,now,p,pa,un,he,R,T',dd,ys,rfl,⟨n,rfl,rfl⟩,hn,hB,hS,kq,ke⟩;obtain⟨dx,hb⟩:=hB.ob;obtain⟨mq,r,t,h1,h2,h3⟩:=hB.pg;have up: ∀C,e C M ->WL.up e C M:=λC h=>⟨M,Sm.refl M,h⟩
 have hT:=hS.t;have hPa:=hS.pa;dsimp? [hb,eM];refine⟨b,la,lu,lh,now,p,pa,un,he,R,T',n,rfl,hB,hn.len,λa hg=> ?_,λhg=>up _ (ke .NoRound (by rw[bR,hg]))⟩;dsimp? [hb,oP];refine⟨b,la,lu,lh,now,p,pa,un,he,R,T',n,rfl,hB,by omega,?_⟩;cases hu:DI T' n with
 | true=>dsimp? [];have Cu:=hn.len;(repeat (refine⟨by first | decide | decide+kernel | exact du (by omega) | exact S3 (by right) Cu | exact S2 (by right) Cu (by right),?_⟩));exact up _ (ke .InUse (by rw[bR,hg];exact ak hu))
 | false=>
  have ho:bR p R T' (.drop n)= .ok (qR R n):=by rw[bR,hg];exact aj (by rw[hu];decide)
  dsimp? [hb,lp];rw[pB];dsimp? [hb,h1,cl,rZ,n2,n3,n4,kK,oT,qe];refine⟨r,_,n,rfl,h2,by rw[dS,hg];rfl,λu hu=> ?_⟩;have QB:=cb hb hu;have pd:=cb h1 hu;dsimp? [aN QB,aN pd,hb,h1,cl,rZ,n2,n3,n4,kK,oT,qe];intro pg FL rV Kx pL;rw[xm] at rV ⊢;refine⟨pg,FL,u,t,rfl,au,rfl,?_⟩;rw[kN];have s2:=(bB hu (o:= .dK (rE fI (qR R n)))).trans (bB rV (o:= .ins A.bE FL (lf u t)));have PR:=cb au rV;exact⟨b,la,lu,lh,now,pg,p,pa,un,he,R,T',_,T',rfl,hB.sm s2,⟨FL,u,t,au,by rw[aN PR];exact au,s2 _ _ h3⟩,by omega,λM' iz B' F AV=>fM (kq _ ho M' iz pg B' (F.sm s2) (s2.free AV) ((bB hu).free rV))⟩
theorem yK (T:e8 K mg A):bx P w K mg base eE 2 A.tH A.tN ["_law_draw","_law_many"] (fj K Hw):=by
 exists T.AH.fn,["_law_draw","_law_many","_law_letters","_law_body","_law_cut","_law_start","_law_names_here","_law_k","_law_sign"],(ai (a9 (i:=2) nd rfl (by trivial) aP) (ai (a9 (i:=3) nd rfl (by trivial) (hW PySem.F.plainAttrs_str PySem.F.slot_str_join PySem.F.type_str_join (show Rr _ _ (Ep K) from HR) aP (aa (dI rfl (c8.of (sc:=_) (N:= ["_law_draw","_law_many","_law_letters","_law_body","_law_cut","_law_start","_law_names_here","_law_k","_law_sign"]) (own:= ["_law_k"]) (fr:= [2,0]) (N':= ["_law_k","_law_letters","_law_draw"]) rfl rfl rfl (by right) rfl (by right) (by right) (by right) (by right) (bJ rfl)) (eI (by rfl) T.gI (aa (ay T.dc (bK T) hr (aa (pv 0) (aa ah af))) af)) (λ_ _ _ _=>(a4 (i:=0) (by show(["_law_k","_law_letters","_law_draw"]:List Str).Nodup;decide+kernel) rfl (by trivial))) eJ (λ_ _ _ _=>dv) (λ_ _ _ _=>(aI Fg (pv 1) (ay T.dc (bK T) hr (aa (pv 2) (aa ah af))) (λ_ _=>rfl)))) af))) (ai (a9 (i:=4) nd rfl (by trivial) (ay T.dc (bK T) hr (aa (pv 0) (aa (bU dQ (bf nH (by rfl) T.mK Boot.«len» (aa (pv 3) af)) ah) af)))) (ai (a9 (i:=5) nd rfl (by trivial) (ay T.dc (bK T) hr (aa (pv 0) (aa ah af)))) (ai (a9 (i:=6) nd rfl (by trivial) (gL af)) (ai (gg PassesOwn.never rfl (eI (by rfl) T.gI (aa (pv 1) af)) (a4 (i:=7) nd rfl (by trivial)) (ai (a9 (i:=8) nd rfl (by trivial) (bU HD (aI Fg (pv 2) (bU jy (bU dQ (pv 5) (bU fK ah (pv 7))) ah) (λ_ _=>rfl)) (bU dQ ah (ay T.dc (bK T) hr (aa (pv 0) (aa ah af)))))) (am (ce (hW a7 bN bM dE (pv 6) (aa (bU Az (bU Az (qf Ec (pv 3) uA (uz (pv 4))) (pv 8)) (qf Ec (pv 3) (uz (pv 4)) uA)) af)))))) (am (aJ (pv 6)))))))))
 rintro vs M q ⟨d,l,m,rfl,hD,m0,m1,k⟩;have hLz:(vx.length<=sizeLine)=True:=aC (by right);dsimp? [];refine⟨d,l,11,rfl,hD,by decide,by decide,λj M1 j0 j1 D1 b1=> ?_⟩;dsimp? [];refine⟨⟨by omega,by omega⟩,Na (by rw[g0];exact big (by omega)) λu hu=> ?_⟩;obtain⟨B_,nul⟩:=D1.ne hu;refine⟨λi ys M'=> ∃ss:List Str,fo (ys=ss.map ws) (ss.length=i) (∀x∈ss,fE x /\ x.length=1) (M' u=some (.lst ys)) (Dr M' d l),⟨[],rfl,rfl,by simp,au,D1.put hu⟩,?_,?_,?_⟩;rintro i ys M' _ ⟨ss,rfl,hl,_,hM,_⟩;exact⟨trivial,hM,by rw[ag];omega⟩;rintro i x ys M' hx ⟨ss,rfl,hl,hs,hM,D2⟩ N hN;obtain⟨hi,rfl⟩:=g_ hx;dsimp? [];refine⟨d,l,26,rfl,D2,by decide,by decide,λr M3 r0 r1 D3 b3=> ?_⟩;obtain⟨c,hc,ac⟩:=EX r0 r1;dsimp? [hLz,hc];refine⟨by rw[b3 u B_];exact hM,hN _ _ ⟨ss++ [⟨#[c]⟩],by rw[br];rfl,by simp[hl],λx hx=> ?_,by rw[au],D3.LA B_ nul⟩⟩;rcases a_.mp hx with h | h;exact hs x h;rw[be.mp h];exact⟨ac,rfl⟩;rintro ys M' ⟨ss,rfl,hl,hs,hM,D2⟩;rw[g0] at hl;refine Mh hM (c:=1) (λx hx=>by rw[(hs x hx).2];exact ao _) (du (by
  have:(Str.ofString "").length=0:=by right
  rw[this];omega)) ?_
 have NR:(Builtin.Str.glued (Str.ofString "") ss).length<=10:=av (md _ ss (c:=1) λx hx=>by rw[(hs x hx).2];exact ao _) (by
  have:(Str.ofString "").length=0:=by right
  rw[this];omega)
 have V4:fE (Builtin.Str.glued (Str.ofString "") ss):=Gi (by right) λx hx=>(hs x hx).1;generalize Builtin.Str.glued (Str.ofString "") ss=bo at NR V4;have hbz:(bo.length<=sizeLine)=True:=aC (du (by omega));clear hM hs hl hu b1 D1;dsimp? [hbz];refine⟨d,l,_,rfl,D2,by omega,by omega,λcu M3 c0 c1 D3 b3=> ?_⟩;dsimp? [];refine⟨d,l,26,rfl,D3,by decide,by decide,λsta M4 s0 s1 D4 b4=> ?_⟩;dsimp? [];intro v hv;obtain⟨UV,nvl⟩:=D4.ne hv;dsimp? [];refine⟨⟨by omega,by omega⟩,jL (λi ρ M'=>dH λ(o1 o2:Option W) (ns:List Str)=>fo (ρ= [some (wr d),some (wi m),some (ws vx),some (ws bo),some (wi cu),some (wi sta),some (wr v),o1,o2]) (ns.length=i) (∀n∈ns,Nm n) (M' v=some (.lst (ns.map ws))) (Dr M' d l)) ⟨none,none,[],rfl,rfl,by simp,au,D4.put hv⟩ (λ_ _ _ _ _=>trivial) ?_ ?_⟩;rintro i x ρ M5 hx ⟨o1,o2,ns,rfl,hl,vt,hM,D5⟩ N hN;obtain⟨hi,rfl⟩:=g_ hx;have cm:kL 7 (0+(i:Int))=True:=aC (.inl ⟨by omega,by omega⟩);have h26:((0:Int) <26)=True:=aC (by decide);obtain⟨c,hc,ac⟩:=EX (i:=(sta+7*(0+(i:Int))) % 26) (by omega) (by omega);dsimp? [cm,h26,hLz,hc];refine⟨d,l,2,rfl,D5,by decide,by decide,λr M6 r0 r1 D6 b6=> ?_⟩;dsimp? [];obtain⟨w,rfl⟩:=Int.eq_ofNat_of_zero_le r0;refine⟨⟨#[c]⟩,1+w,rfl,by push_cast;rfl,by omega,by show 1<=1000;decide,?_⟩;have tl:=BB (x:=⟨#[c]⟩) (n:=1+w);have tl':(f_ ⟨#[c]⟩ (1+w)).length<=2:=av tl (by show(1+w)*1<=2;omega);have l1:=Txt.slice_le bo none (some cu);have l2:=Txt.slice_le bo (some cu) none;have z1:((Txt.slice bo none (some cu)).length+(f_ ⟨#[c]⟩ (1+w)).length<=sizeLine)=True:=aC (du (by omega));have z2:(((Txt.slice bo none (some cu))++(f_ ⟨#[c]⟩ (1+w))).length+(Txt.slice bo (some cu) none).length<=sizeLine)=True:=aC (du (by rw[ko];omega));have Iv:M6 v=some (.lst (ns.map ws)):=by rw[b6 v UV];exact hM
 have hls:((ns.map ws).length<sizeLine)=True:=aC (pi (by rw[ag];omega));dsimp? [hbz,z1,z2,Iv,hls];refine hN _ _ ⟨_,_,ns++ [Txt.slice bo none (some cu)++f_ ⟨#[c]⟩ (1+w)++Txt.slice bo (some cu) none],rfl,by simp[hl],λn hn=> ?_,by rw[au,br];rfl,D6.LA UV nvl⟩;rcases a_.mp hn with h | h;exact vt n h;rw[be.mp h];exact⟨Nm.app (Nm.app (xH V4) (Gh ac)) (xH V4),by rw[ko,ko];omega⟩;rintro ρ M5 ⟨o1,o2,ns,rfl,hl,vt,hM,D5⟩;rw[g0] at hl;dsimp? [];exact fM (k v ns M5 hM (by omega) vt UV nvl D5)
theorem uL (T:e8 K mg A):bx P w K mg base eE 1 A.ou A.oF ["_law_name"] (fj K Hz):=by
 exists T.sV.fn,["_law_name","_law_good"],(ai (a9 (i:=1) nd rfl (by trivial) (bf (f8 rfl) (by rfl) T.tY Boot.«all» (aa (dI rfl (c8.of (sc:=_) (N:= ["_law_name","_law_good"]) (own:= ["_law_sign"]) (fr:= []) (N':= ["_law_sign"]) rfl rfl rfl (by right) rfl (by right) (by right) (by right) (by right) (bJ rfl)) (Ey (pv 0)) (λ_ _ _ _=>(a4 (i:=0) (by show(["_law_sign"]:List Str).Nodup;decide+kernel) rfl (by trivial))) eJ (λ_ _ _ _=>dv) (λ_ _ _ _=>(eV LX (pv 0) aP (by rfl)))) af))) (am (aJ (ng (pv 1) (lg (EC qg qg ah (bf nH (by rfl) T.mK Boot.«len» (aa (pv 0) af)) ah))))))
 rintro vs M q ⟨n,rfl,hn,k⟩;have hz:n.length<=sizeLine:=du (by have:=hn.len;omega);have Fl:(n.length<=sizeLine)=True:=aC hz;have ha:=hn.as;dsimp? [Fl,ha];refine d5 (λc=>wb (yb c vx)) (by unfold ya;rw[ag, <- str_len];exact hz) (λ_ _=>trivial) ?_ λu hu=> ?_;intro c hc M3 N3 s3 mT;dsimp? [];exact mT;refine⟨u,(ya n).map λc=>yb c vx,rfl,by rw[au,aY];rfl,?_⟩;have e3:((ya n).map λc=>yb c vx).all id=(ya n).all λc=>yb c vx:=by rw[List.all_map];rfl
 rw[e3];have ek:cD n=(decide (1<=n.length) && decide (n.length<=12) && (ya n).all λc=>yb c vx):=rfl;dsimp? [Fl];cases hA:(ya n).all λc=>yb c vx with
 | false=>rw[hA,Bool.and_false] at ek;rw[ek] at k;dsimp? [];exact⟨M,bB hu,k⟩
 | true=>rw[hA,Bool.and_true] at ek;dsimp? [Fl];by_cases h1:1<=n.length;have e1:decide (1<=(n.length:Int))=true:=cE (by omega);have e2:decide ((n.length:Int) <=12)=decide (n.length<=12):=decide_eq_decide.mpr (by omega);rw[cE h1,Bool.true_and] at ek;rw[ek] at k;dsimp? [e1,e2];exact⟨M,bB hu,k⟩;have e1:decide (1<=(n.length:Int))=false:=aQ (by omega);rw[aQ h1,Bool.false_and] at ek;rw[ek] at k;dsimp? [e1];exact⟨M,bB hu,k⟩
theorem wA (T:e8 K mg A):bx P w K mg base eE 1 A.A5 A.Bm ["_law_one","_law_most","_law_reach"] (fj K Py):=by
 exists T.E3.fn,["_law_one","_law_most","_law_reach"],(am (aJ (Pp (eV EL (bf eK (by rfl) T.oQ Boot.«abs» (aa (aI (show cI _ (bA K) from aA) (pv 0) ah (λ_ _=>rfl)) af)) (pv 1) (bj _)) (lg (yB (bf (f8 rfl) (by rfl) T.tY Boot.«all» (aa (dI rfl (c8.of (sc:=_) (N:= ["_law_one","_law_most","_law_reach"]) (own:= ["_law_place","_law_setting"]) (fr:= [2]) (N':= ["_law_place","_law_setting","_law_reach"]) rfl rfl rfl (by right) rfl (by right) (by right) (by right) (by right) (bJ rfl)) (uC (K:=K) rfl (aI (show cI _ (bA K) from aA) (pv 0) ah (λ_ _=>rfl))) (λ_ _ _ _=>(dP (n:=2) rfl (bt (a4 (i:=0) (by show(["_law_place","_law_setting","_law_reach"]:List Str).Nodup;decide+kernel) rfl (by trivial)) (bt (a4 (i:=1) (by show(["_law_place","_law_setting","_law_reach"]:List Str).Nodup;decide+kernel) rfl (by trivial)) dn)))) gm (λ_ _ _ _=>dv) (λ_ _ _ _=>(eV qg (bf eK (by rfl) T.oQ Boot.«abs» (aa (pv 0) af)) (pv 2) (bj _)))) af)))))))
 rintro vs M q ⟨a,m,r,rfl,hl,k⟩;have ef:jN a m r= !(decide ((if a.1<0 then -a.1 else a.1) <=m) && a.2.all λz=>decide ((if z.1<0 then -z.1 else z.1) <=r)):=rfl;dsimp? [fI,ft];by_cases h1:(if a.1<0 then -a.1 else a.1) <=m;have e1:decide (m<if a.1<0 then -a.1 else a.1)=false:=aQ (by omega);rw[cE h1,Bool.true_and] at ef;rw[ef] at k;dsimp? [e1];refine d5 (λz=>wb (decide ((if z.1<0 then -z.1 else z.1) <=r))) (big (by omega)) (λ_ _=>trivial) ?_ λu hu=> ?_;intro z hz M3 N3 s3 mT;dsimp? [bQ];exact mT;refine⟨u,a.2.map λz=>decide ((if z.1<0 then -z.1 else z.1) <=r),rfl,by rw[au,aY];rfl,?_⟩;rw[List.all_map];dsimp? [];exact⟨M,bB hu,k⟩;have e1:decide (m<if a.1<0 then -a.1 else a.1)=true:=cE (by omega);rw[aQ h1,Bool.false_and] at ef;rw[ef] at k;dsimp? [e1];exact fM k
theorem yI (T:e8 K mg A):bx P w K mg base eE 5 A.tF A.tL ["_law_p_here","_law_rounds","_law_deed"] (fj K LK):=by
 exists T.AE.fn,["_law_p_here","_law_rounds","_law_deed"],(ai (bF (a6 dq (aI (show cI _ (bA K) from aA) (pv 2) ah (λ_ _=>rfl)) aP (bj _)) (am (aJ (ay T.EZ (BU T) hr (aa (pv 0) (aa (aI (show cI _ (bA K) from aA) (pv 2) ah (λ_ _=>rfl)) af))))) aX) (ai (bF (a6 dq (aI (show cI _ (bA K) from aA) (pv 2) ah (λ_ _=>rfl)) aP (bj _)) (am (aJ (ay T.E2 (BW T) hr (aa (pv 0) (aa (eB (eh hr) (pv 1) (aI (show cI _ (bA K) from aA) (aI (show cI _ (bA K) from aA) (pv 2) ah (λ_ _=>rfl)) ah (λ_ _=>rfl)) (λ_ _=>rfl)) (aa (eB (eh hr) (pv 1) (aI (show cI _ (bA K) from aA) (aI (show cI _ (bA K) from aA) (pv 2) ah (λ_ _=>rfl)) ah (λ_ _=>rfl)) (λ_ _=>rfl)) af)))))) aX) (am (aJ (ay T.AF (yJ T) hr (aa (pv 0) (aa (eB (eh hr) (pv 1) (aI (show cI _ (bA K) from aA) (aI (show cI _ (bA K) from aA) (pv 2) ah (λ_ _=>rfl)) ah (λ_ _=>rfl)) (λ_ _=>rfl)) (aa (aI (show cI _ (bA K) from aA) (pv 2) ah (λ_ _=>rfl)) af))))))))
 rintro vs M q ⟨p,r,R,dd,w,rfl,hp,jH,hR,hD,hO,Dh,k⟩;have p0:0<p:=by omega
 have p1:p<1000:=by omega
 have s1:decide (("tell" :Str)= "tell")=true:=by right
 have s2:decide (("join" :Str)= "tell")=false:=by right
 have s3:decide (("join" :Str)= "join")=true:=by right
 have s4:decide (("back" :Str)= "tell")=false:=by right
 have s5:decide (("back" :Str)= "join")=false:=by right
 have s6:decide (("times" :Str)= "tell")=false:=by right
 have s7:decide (("times" :Str)= "join")=false:=by right
 cases dd with
 | tell n ds=>obtain⟨c,rfl,hc⟩:=hD;obtain⟨hn,hds,hw⟩:=hO;dsimp? [s1];exact⟨c,p,ds,rfl,hc,p0,zg,by omega,fM (k _ rfl (eX p0 _) (av (gF _ _) (av (gU _) (by omega))))⟩
 | join n x y=>
  cases hD;rw[fO] at Dh k;cases hx:c7 R x with
  | none=>rw[hx] at Dh;cases Dh
  | some a1=>
  cases hy:c7 R y with
  | none=>rw[hx,hy] at Dh;cases Dh
  | some a2=>
  rw[hx,hy] at k;obtain⟨z,hz,_,rfl⟩:=fX hx;obtain⟨z2,Mq,_,rfl⟩:=fX hy;have l1:=(hR.ok z hz).2.1;have l2:=(hR.ok z2 Mq).2.1;dsimp? [s2,cC,jH,dS,hx,hy,cf];exact⟨p,z.2,z2.2,rfl,p0,zg,by omega,by omega,jj (hR.ok z2 Mq).1 p1,fM (k _ rfl (Mi p0 _ _) (av (Fb _ _ _) (by omega)))⟩
 | back n x=>
  cases hD;rw[fO] at Dh k;cases hx:c7 R x with
  | none=>rw[hx] at Dh;cases Dh
  | some a1=>
  rw[hx] at k;obtain⟨z,hz,_,rfl⟩:=fX hx;have l1:=(hR.ok z hz).2.1;dsimp? [s4,s5,jH,dS,hx,cf];refine⟨p,z.2, -1,rfl,p0,p1,(hR.ok z hz).1,by omega,λ_=>⟨by omega,by omega,by show z.2.2.length*1<=100000;omega⟩,λr hr h0 h1=>fM (k _ (by rw[cf,Ad p0 hr]) hr.pt ?_)⟩;by_cases Mr:z.2.1=0;have:=h0 Mr;omega
  ·have:=h1 Mr;try simp only[Int.natAbs_neg,Int.natAbs_one,Nat.mul_one] at this
   omega
 | times n x j=>
  cases hD;obtain⟨hn,Qp,j0,j1⟩:=hO;rw[fO] at Dh k;cases hx:c7 R x with
  | none=>rw[hx] at Dh;cases Dh
  | some a1=>
  rw[hx] at k;obtain⟨z,hz,_,rfl⟩:=fX hx;have l1:=(hR.ok z hz).2.1;have l3:z.2.2.length*j.natAbs<=401*100:=Nat.mul_le_mul l1 (by omega);dsimp? [s6,s7,jH,dS,hx,cf];refine⟨p,z.2,j,rfl,p0,p1,(hR.ok z hz).1,by omega,λ_=>⟨by omega,by omega,by omega⟩,λr hr h0 h1=>fM (k _ (by rw[cf,Ad p0 hr]) hr.pt ?_)⟩;by_cases Mr:z.2.1=0;have:=h0 Mr;omega
  ·have:=h1 Mr;try simp only[Int.natAbs_neg,Int.natAbs_one,Nat.mul_one] at this
   omega
 | drop n=>cases Dh
theorem qm (T:e8 K mg A):bx P w K mg base eE 6 A.kW A.kZ ["_law_p_here","_law_stand","_law_deed"] (fj K Pz):=by
 exists T.oj.fn,["_law_p_here","_law_stand","_law_deed","_law_rounds","_law_used","_law_one"],(ai (a9 (i:=3) nd rfl (by trivial) (cL ln (by rfl) T.zq Boot.«dict» (aa (aI (show cI _ (bA K) from aA) (pv 1) ah (λ_ _=>rfl)) af))) (ai (a9 (i:=4) nd rfl (by trivial) (yB (bf (f8 rfl) (by rfl) T.tY Boot.«all» (aa (Ar (dI rfl (c8.of (sc:=_) (N:= ["_law_p_here","_law_stand","_law_deed","_law_rounds","_law_used","_law_one"]) (own:= ["_law_crew"]) (fr:= [2,1]) (N':= ["_law_crew","_law_deed","_law_stand"]) rfl rfl rfl (by right) rfl (by right) (by right) (by right) (by right) (bJ rfl)) (Hs (aI (show cI _ (bA K) from aA) (pv 1) ah (λ_ _=>rfl))) (λ_ _ _ _=>(a4 (i:=0) (by show(["_law_crew","_law_deed","_law_stand"]:List Str).Nodup;decide+kernel) rfl (by trivial))) eJ (λ_ _ _ _=>dv) (λ_ _ _ _=>(eV (sP (K:=K) rfl) (aI (show cI _ (bA K) from aA) (pv 1) ah (λ_ _=>rfl)) (eB (eh hr) (aI (show cI _ (bA K) from aA) (pv 2) ah (λ_ _=>rfl)) (pv 0) (λ_ _=>rfl)) (by rfl))))) af)))) (ai (bF (a6 dq (aI (show cI _ (bA K) from aA) (pv 2) ah (λ_ _=>rfl)) aP (bj _)) (ai (bF (yA (nh (eh hr) (aI (show cI _ (bA K) from aA) (pv 2) ah (λ_ _=>rfl)) (pv 3))) (am (aJ (bh (aa aP (aa (pv 1) af))))) aX) (ai (bF (di (pv 4)) (am (aJ (bh (aa aP (aa (pv 1) af))))) aX) (ai (ce (EB (pv 3) (aI (show cI _ (bA K) from aA) (pv 2) ah (λ_ _=>rfl)) ⟨by rfl,by rfl,by rfl,by rfl⟩)) (am (aJ (bh (aa aP (aa (bh (aa (pv 3) (aa (aI (show cI _ (bA K) from aA) (pv 1) ah (λ_ _=>rfl)) af))) af)))))))) aX) (ai (bF (dO (di (ay T.sV (uL T) hr (aa (aI (show cI _ (bA K) from aA) (pv 2) ah (λ_ _=>rfl)) af)))) (am (aJ (bh (aa aP (aa (pv 1) af))))) aX) (ai (bF (jv (a6 dq (aI (show cI _ (bA K) from aA) (pv 2) ah (λ_ _=>rfl)) aP (bj _)) (iF (dO (di (bf (f8 rfl) (by rfl) T.tY Boot.«all» (aa (dI rfl (c8.of (sc:=_) (N:= ["_law_p_here","_law_stand","_law_deed","_law_rounds","_law_used","_law_one"]) (own:= ["_law_word","_law_number"]) (fr:= []) (N':= ["_law_word","_law_number"]) rfl rfl rfl (by right) rfl (by right) (by right) (by right) (by right) (bJ rfl)) (Aq (K:=K) rfl (aI (show cI _ (bA K) from aA) (pv 2) ah (λ_ _=>rfl))) (λ_ _ _ _=>(dP (n:=2) rfl (bt (a4 (i:=0) (by show(["_law_word","_law_number"]:List Str).Nodup;decide+kernel) rfl (by trivial)) (bt (a4 (i:=1) (by show(["_law_word","_law_number"]:List Str).Nodup;decide+kernel) rfl (by trivial)) dn)))) gm (λ_ _ _ _=>dv) (λ_ _ _ _=>(eV (EK (K:=K) rfl) (pv 0) (bh (aa aP (aa aP af))) (by rfl)))) af)))))).pt (am (aJ (bh (aa aP (aa (pv 1) af))))) aX) (ai (bF (jv (a6 wv (aI (show cI _ (bA K) from aA) (pv 2) ah (λ_ _=>rfl)) aP (bj _)) (iF (dO (di (bf (f8 rfl) (by rfl) T.tY Boot.«all» (aa (dI rfl (c8.of (sc:=_) (N:= ["_law_p_here","_law_stand","_law_deed","_law_rounds","_law_used","_law_one"]) (own:= ["_law_name"]) (fr:= [3]) (N':= ["_law_name","_law_rounds"]) rfl rfl rfl (by right) rfl (by right) (by right) (by right) (by right) (bJ rfl)) (Aq (K:=K) rfl (aI (show cI _ (bA K) from aA) (pv 2) ah (λ_ _=>rfl))) (λ_ _ _ _=>(a4 (i:=0) (by show(["_law_name","_law_rounds"]:List Str).Nodup;decide+kernel) rfl (by trivial))) eJ (λ_ _ _ _=>dv) (λ_ _ _ _=>(LG (LH (eh hr) (pv 0) (pv 1))))) af)))))).pt (am (aJ (bh (aa aP (aa (pv 1) af))))) aX) (ai (a9 (i:=5) nd rfl (by trivial) (ay T.AE (yI T) hr (aa (pv 0) (aa (pv 3) (aa (pv 2) af))))) (ai (bF (kR (di (ay T.E3 (wA T) hr (aa (pv 5) (aa ah (aa ah af))))) (iE (jv (di (pv 4)) (iF (di (ay T.E3 (wA T) hr (aa (pv 5) (aa ah (aa ah af))))))).pt)).pt (am (aJ (bh (aa aP (aa (pv 1) af))))) aX) (ai (pE (eh hr) (pv 3) (aI (show cI _ (bA K) from aA) (pv 2) ah (λ_ _=>rfl)) (pv 5) rfl) (am (aJ (bh (aa aP (aa (bh (aa (pv 3) (aa (aI (show cI _ (bA K) from aA) (pv 1) ah (λ_ _=>rfl)) af))) af))))))))))))))
 rintro vs M q ⟨p,r,t,R,T',dd,w,rfl,hp,⟨jH,ht⟩,⟨hR,rfl⟩,hD,hO,kq,ke⟩;have p0:0<p:=by omega
 have nS:decide (("tell" :Str)= "drop")=false:=by right
 have gB:decide (("join" :Str)= "tell")=false:=by right
 have nU:decide (("join" :Str)= "drop")=false:=by right
 have gC:decide (("back" :Str)= "tell")=false:=by right
 have nX:decide (("back" :Str)= "drop")=false:=by right
 have fT:decide (("times" :Str)= "tell")=false:=by right
 have lG:decide (("times" :Str)= "drop")=false:=by right
 have nW:decide (("drop" :Str)= "tell")=false:=by right
 have n_:decide (("join" :Str)≠ "tell")=true:=by right
 have oa:decide (("back" :Str)≠ "tell")=true:=by right
 have lV:decide (("times" :Str)≠ "tell")=true:=by right
 have Kd:decide (("drop" :Str)≠ "tell")=true:=by right
 dsimp? [jH];intro u hu;have hsz:((sN R).length<sizeLine)=True:=aC (pi (by rw[ud];have:=hR.len;omega));have wW:um M u (.dK (sN R)) t=some (.dK (BA [])):=by rw[aN (cb ht hu)];exact ht
 dsimp? [];refine⟨t,_,wW,?_⟩;dsimp? [wW];intro o ks;refine d5 (l:=([]:List Str)) (fW:=ws) (λ_=>wb true) (by decide) (λM2 s2=>s2 _ _ au) (λa ha=>nomatch ha) λv hv=> ?_;have UU:t≠v:=cb au hv;refine⟨o,ks,_,by rw[aN UU];exact au,v,[],rfl,by rw[aN UU.symm,au];rfl,?_⟩;have s1:=zS (l:= .lst (([]:List Str).map λ_=>wb true)) wW hv;generalize um (um (um (um M u (.dK (sN R))) t (.fz o ks (BA []))) v (.lst (([]:List Str).map λ_=>wb true))) t (.dK (BA []))=M1 at s1;have l9:M1 u=some (.dK (sN R)):=s1 _ _ au;have st:Sm M M1:=(bB hu).trans s1;have zd:=hD.sm st;clear hv UU s1 wW;cases dd with
 | tell n ds=>
  obtain⟨c,rfl,hc⟩:=zd;obtain⟨hn,hds,hw⟩:=id hO;have zd:DV M1 (.tell n ds) (.tup [ws "tell",ws n,wr c]):=⟨c,rfl,hc⟩
  dsimp? [nS,hc,List.all_nil,aL];refine⟨n,rfl,hn,?_⟩;cases jI:cD n with
  | false=>dsimp? [bv];exact⟨M,st,ke .BadName (pH jI (λ_ z=>nomatch z))⟩
  | true=>
  dsimp? [aL,nS,hc,cC,hc];refine d5 (l:=ds) (fW:=eC) (λz:Str×Int=>wb (decide (z.1= "go") || decide (z.1= "turn"))) (big (by omega)) (λM2 s2=>s2 _ _ hc) ?_ λv hv=> ?_;intro z hz M3 N3 s3 mT;dsimp? [eC];exact⟨.str z.1,[.str "go", .str "turn"],rfl, .inl rfl,rfl,rfl,by rw[Qj];exact mT⟩;refine⟨v,ds.map λz:Str×Int=>(decide (z.1= "go") || decide (z.1= "turn")),rfl,by rw[au,aY];rfl,?_⟩;have eg:(ds.map λz:Str×Int=>(decide (z.1= "go") || decide (z.1= "turn"))).all id=fL ds:=by rw[List.all_map];rfl
  rw[eg];have st:=st.trans (bB hv (o:= .lst (ds.map λz:Str×Int=>wb (decide (z.1= "go") || decide (z.1= "turn")))));have l9:um M1 v (.lst (ds.map λz:Str×Int=>wb (decide (z.1= "go") || decide (z.1= "turn")))) u=some (.dK (sN R)):=by rw[aN (cb l9 hv)];exact l9
  have hc:um M1 v (.lst (ds.map λz:Str×Int=>wb (decide (z.1= "go") || decide (z.1= "turn")))) c=some (.lst (ds.map eC)):=by rw[aN (cb hc hv)];exact hc
  generalize um M1 v (.lst (ds.map λz:Str×Int=>wb (decide (z.1= "go") || decide (z.1= "turn"))))=M1 at st l9 hc;have zd:DV M1 (.tell n ds) (.tup [ws "tell",ws n,wr c]):=⟨c,rfl,hc⟩
  cases NP:fL ds with
  | false=>dsimp? [bv];exact⟨M,st,ke .NoDeed (by rw[bR,aj (by rw[jI];decide),ak NP])⟩
  | true=>
  have qH: ∀n' CF,dm.tell n ds= .tell n' CF ->fL CF=true:=λ_ _ z=>by cases z;exact NP
  have qG:(fO p R (.tell n ds)).isSome=true:=rfl;have nt:(("tell" :Str)≠ "tell")=False:=by simp
  dsimp? [aL,nt,decide_false,ne_eq,not_true,not_true_eq_false];refine⟨p,u,R,_,_,rfl,hp,l9,hR,zd,hO,qG,λa ha hP hl=> ?_⟩;have ho:=uR (T:= []) (dd:= .tell n ds) p0 jI qH ha;dsimp? [];refine⟨a,200,200,rfl,hl,?_⟩;cases hf:jN a 200 200 with
  | true=>dsimp? [];exact⟨M,st,ke .TooFar (by rw[ho,gw,ak (by unfold cT;rw[hf];rfl)])⟩
  | false=>
   have lj:cT [] n a=false:=by unfold cT;rw[hf];rfl
   have pK:=ho.trans (aj (by show ¬cT [] n a=true;rw[lj];decide));dsimp? [l9,hsz];refine⟨_,Sm.refl _,kq _ pK ⟨hR,λoq=>hR.put oq hP lj⟩ u _ (st.um hu) hu ?_⟩;rw[au,kj];rfl
 | join n x y=>
  cases zd;have zd:DV M1 (.join n x y) (.tup [ws "join",ws n, .tup [ws x,ws y]]):=rfl;dsimp? [nU,gB,n_,List.all_nil,aL];refine⟨n,rfl,hO.1,?_⟩;cases jI:cD n with
  | false=>dsimp? [bv];exact⟨M,st,ke .BadName (pH jI (λ_ z=>nomatch z))⟩
  | true=>
  dsimp? [aL,nU,gB,n_,cC];refine d5 (l:= [x,y]) (fW:=ws) (λz=>wb (c7 R z).isSome) (big (by simp)) (λ_ _=>trivial) ?_ λv hv=> ?_;intro z hz M3 N3 s3 mT;dsimp? [s3 _ _ l9,dS,Option.isSome_map];exact mT;refine⟨v,[x,y].map λz=>(c7 R z).isSome,rfl,by rw[au,aY];rfl,?_⟩;have st:=st.trans (bB hv (o:= .lst ([x,y].map λz=>wb (c7 R z).isSome)));have l9:um M1 v (.lst ([x,y].map λz=>wb (c7 R z).isSome)) u=some (.dK (sN R)):=by rw[aN (cb l9 hv)];exact l9
  generalize um M1 v (.lst ([x,y].map λz=>wb (c7 R z).isSome))=M1 at st l9;clear hv;have zd:DV M1 (.join n x y) (.tup [ws "join",ws n, .tup [ws x,ws y]]):=rfl;have qH: ∀n' CF,dm.join n x y= .tell n' CF ->fL CF=true:=λ_ _ z=>nomatch z
  cases hx:c7 R x with
  | none=>dsimp? [az,cG,List.all_cons,hx,Option.isSome_none,id,Bool.false_and,bv];exact⟨M,st,ke .NoRound (by rw[bR,aj (by rw[jI];decide),hx])⟩
  | some a1=>
  cases hy:c7 R y with
  | none=>dsimp? [az,cG,List.all_cons,hx,hy,Option.isSome_none,Option.isSome_some,id,Bool.false_and,Bool.true_and,bv];exact⟨M,st,ke .NoRound (by rw[bR,aj (by rw[jI];decide),hx,hy])⟩
  | some a2=>
  have qG:(fO p R (.join n x y)).isSome=true:=by rw[fO,hx,hy];rfl
  dsimp? [az,cG,List.all_cons,List.all_nil,hx,hy,Option.isSome_some,id,Bool.true_and,Bool.and_true,aL];refine⟨p,u,R,_,_,rfl,hp,l9,hR,zd,hO,qG,λa ha hP hl=> ?_⟩;have ho:=uR (T:= []) (dd:= .join n x y) p0 jI qH ha;dsimp? [];refine⟨a,200,200,rfl,hl,?_⟩;cases hf:jN a 200 200 with
  | true=>dsimp? [];exact⟨M,st,ke .TooFar (by rw[ho,gw,ak (by unfold cT;rw[hf];rfl)])⟩
  | false=>
   have lj:cT [] n a=false:=by unfold cT;rw[hf];rfl
   have pK:=ho.trans (aj (by show ¬cT [] n a=true;rw[lj];decide));dsimp? [l9,hsz];refine⟨_,Sm.refl _,kq _ pK ⟨hR,λoq=>hR.put oq hP lj⟩ u _ (st.um hu) hu ?_⟩;rw[au,kj];rfl
 | back n x=>
  cases zd;dsimp? [nX,gC,oa,List.all_nil,aL];refine⟨n,rfl,hO.1,?_⟩;cases jI:cD n with
  | false=>dsimp? [bv];exact⟨M,st,ke .BadName (pH jI (λ_ z=>nomatch z))⟩
  | true=>
  dsimp? [aL,nX,gC,oa,cC];refine d5 (l:= [x]) (fW:=ws) (λz=>wb (c7 R z).isSome) (big (by simp)) (λ_ _=>trivial) ?_ λv hv=> ?_;intro z hz M3 N3 s3 mT;dsimp? [s3 _ _ l9,dS,Option.isSome_map];exact mT;refine⟨v,[x].map λz=>(c7 R z).isSome,rfl,by rw[au,aY];rfl,?_⟩;have st:=st.trans (bB hv (o:= .lst ([x].map λz=>wb (c7 R z).isSome)));have l9:um M1 v (.lst ([x].map λz=>wb (c7 R z).isSome)) u=some (.dK (sN R)):=by rw[aN (cb l9 hv)];exact l9
  generalize um M1 v (.lst ([x].map λz=>wb (c7 R z).isSome))=M1 at st l9;clear hv;have zd:DV M1 (.back n x) (.tup [ws "back",ws n, .tup [ws x],wi (-1)]):=rfl;have qH: ∀n' CF,dm.back n x= .tell n' CF ->fL CF=true:=λ_ _ z=>nomatch z
  cases hx:c7 R x with
  | none=>dsimp? [az,cG,List.all_cons,hx,Option.isSome_none,id,Bool.false_and,bv];exact⟨M,st,ke .NoRound (by rw[bR,aj (by rw[jI];decide),hx])⟩
  | some a1=>
  have qG:(fO p R (.back n x)).isSome=true:=by rw[fO,hx];rfl
  dsimp? [az,cG,List.all_cons,List.all_nil,hx,Option.isSome_some,id,Bool.true_and,Bool.and_true,aL];refine⟨p,u,R,_,_,rfl,hp,l9,hR,zd,hO,qG,λa ha hP hl=> ?_⟩;have ho:=uR (T:= []) (dd:= .back n x) p0 jI qH ha;dsimp? [];refine⟨a,200,200,rfl,hl,?_⟩;cases hf:jN a 200 200 with
  | true=>dsimp? [];exact⟨M,st,ke .TooFar (by rw[ho,gw,ak (by unfold cT;rw[hf];rfl)])⟩
  | false=>
   have lj:cT [] n a=false:=by unfold cT;rw[hf];rfl
   have pK:=ho.trans (aj (by show ¬cT [] n a=true;rw[lj];decide));dsimp? [l9,hsz];refine⟨_,Sm.refl _,kq _ pK ⟨hR,λoq=>hR.put oq hP lj⟩ u _ (st.um hu) hu ?_⟩;rw[au,kj];rfl
 | times n x j=>
  cases zd;dsimp? [lG,fT,lV,List.all_nil,aL];refine⟨n,rfl,hO.1,?_⟩;cases jI:cD n with
  | false=>dsimp? [bv];exact⟨M,st,ke .BadName (pH jI (λ_ z=>nomatch z))⟩
  | true=>
  dsimp? [aL,lG,fT,lV,cC];refine d5 (l:= [x]) (fW:=ws) (λz=>wb (c7 R z).isSome) (big (by simp)) (λ_ _=>trivial) ?_ λv hv=> ?_;intro z hz M3 N3 s3 mT;dsimp? [s3 _ _ l9,dS,Option.isSome_map];exact mT;refine⟨v,[x].map λz=>(c7 R z).isSome,rfl,by rw[au,aY];rfl,?_⟩;have st:=st.trans (bB hv (o:= .lst ([x].map λz=>wb (c7 R z).isSome)));have l9:um M1 v (.lst ([x].map λz=>wb (c7 R z).isSome)) u=some (.dK (sN R)):=by rw[aN (cb l9 hv)];exact l9
  generalize um M1 v (.lst ([x].map λz=>wb (c7 R z).isSome))=M1 at st l9;clear hv;have zd:DV M1 (.times n x j) (.tup [ws "times",ws n, .tup [ws x],wi j]):=rfl;have qH: ∀n' CF,dm.times n x j= .tell n' CF ->fL CF=true:=λ_ _ z=>nomatch z
  cases hx:c7 R x with
  | none=>dsimp? [az,cG,List.all_cons,hx,Option.isSome_none,id,Bool.false_and,bv];exact⟨M,st,ke .NoRound (by rw[bR,aj (by rw[jI];decide),hx])⟩
  | some a1=>
  have qG:(fO p R (.times n x j)).isSome=true:=by rw[fO,hx];rfl
  dsimp? [az,cG,List.all_cons,List.all_nil,hx,Option.isSome_some,id,Bool.true_and,Bool.and_true,aL];refine⟨p,u,R,_,_,rfl,hp,l9,hR,zd,hO,qG,λa ha hP hl=> ?_⟩;have ho:=uR (T:= []) (dd:= .times n x j) p0 jI qH ha;dsimp? [];refine⟨a,200,200,rfl,hl,?_⟩;cases hf:jN a 200 200 with
  | true=>dsimp? [];exact⟨M,st,ke .TooFar (by rw[ho,gw,ak (by unfold cT;rw[hf];rfl)])⟩
  | false=>
   have lj:cT [] n a=false:=by unfold cT;rw[hf];rfl
   have pK:=ho.trans (aj (by show ¬cT [] n a=true;rw[lj];decide));dsimp? [l9,hsz];refine⟨_,Sm.refl _,kq _ pK ⟨hR,λoq=>hR.put oq hP lj⟩ u _ (st.um hu) hu ?_⟩;rw[au,kj];rfl
 | drop n=>
  cases zd;dsimp? [cC,List.all_nil,aL,l9,dS,Option.isSome_map];cases hx:c7 R n with
  | none=>dsimp? [Option.isSome_none,bv];exact⟨M,st,ke .NoRound (by rw[bR,hx])⟩
  | some a1=>dsimp? [Option.isSome_some,aL,l9,dS,hx,cf];refine⟨_,Sm.refl _,kq (qR R n) (by rw[bR,hx];rfl) ⟨hR,λ_=>hR.del⟩ u _ (st.um hu) hu ?_⟩;rw[au,xm]
theorem uO (T:e8 K mg A):bx P w K mg base (gu P w) 1 A.oA A.oJ ["self","crew"] (nQ K (Pr A.aZ A.bE A.gp)):=by
 have cl:=aC T.Book.cl;have rZ:=aC T.Page.cl;have n2:=aC T.n_Book_now;have n4:=aC T.n_Page_teams;refine Df T.t0.fn lD (by rintro vs M q e ⟨b,la,lu,lh,now,p,pa,un,he,R,T',n,rfl,_⟩;rfl) λcdv A' outer s H E e hr hF hP=> ?_;have nd:=lD.nd;refine⟨_,(ai (bF (yA (nh (eh hr) (pv 1) (bW (K:=K) rfl (bW (K:=K) rfl (pv 0) rfl) rfl))) (am (fc hF rfl (by rfl) T.vz (aa (km (dU aP (dU (uD (pv 1)) m8))) af))) aX) (am (aJ (eB (eh hr) (bW (K:=K) rfl (bW (K:=K) rfl (pv 0) rfl) rfl) (pv 1) (λ_ _=>rfl))))),?_⟩;try dsimp only[d4]
 refine⟨_,inferInstance,?_⟩;rintro vs M q ⟨b,la,lu,lh,now,p,pa,un,he,R,T',n,rfl,hB,hl,kq,ke⟩;obtain⟨dx,hb⟩:=hB.ob;obtain⟨mq,r,t,h1,h2,h3⟩:=hB.pg;dsimp? [hb,h1,h3,cl,rZ,n2,n4,kK,oT,dS];cases hg:c7 T' n with
 | some a=>dsimp? [cf,Option.isSome_some,aL];dsimp? [hb,h1,h3,cl,rZ,n2,n4,kK,oT,dS,hg,cf];exact fM (kq a hg)
 | none=>dsimp? [Option.map_none,Option.isSome_none,bv];(repeat (refine⟨by first | decide | decide+kernel | exact du (by omega) | exact S3 (by right) hl | exact S2 (by right) hl (by right),?_⟩));exact⟨M,Sm.refl M,ke hg⟩
theorem oX (T:e8 K mg A):bx P w K mg base (gu P w) 2 A.jS A.j7 ["self","crew"] (nQ K (EI A.aZ A.bE A.gp)):=by
 refine Df T.mP.fn iO (by rintro vs M q e ⟨b,la,lu,lh,now,p,pa,un,he,R,T',n,rfl,_⟩;rfl) λcdv A' outer s H E e hr hF hP=> ?_;have nd:=iO.nd;refine⟨_,(am (aJ (cL dz (by rfl) T.fe Boot.«list» (aa (cA hP T.t0 (uO T) (hr.mono (by decide)) (pv 0) (aa (pv 1) af)) af)))),?_⟩;try dsimp only[d4]
 refine⟨_,inferInstance,?_⟩;rintro vs M q ⟨b,la,lu,lh,now,p,pa,un,he,R,T',n,rfl,hB,hl,kq,ke⟩;obtain⟨dx,hb⟩:=hB.ob;dsimp? [hb,IW];refine⟨b,la,lu,lh,now,p,pa,un,he,R,T',n,rfl,hB,hl,λa hg=> ?_,λhg=>⟨M,Sm.refl M,ke hg⟩⟩;dsimp? [vG];exact λu hu=>fM (kq a hg u hu)
theorem EO (T:e8 K mg A):bx P w K mg base (gu P w) 7 A.A3 A.Bj ["_law_book","_law_deed"] (nQ K (UM A.aZ A.bE (vv A))):=by
 have ve:bx P w K mg base (gu P w) 0 A.mm A.mF ["self","crew"] (nQ K J9):=qi;have rb:bx P w K mg base (gu P w) 0 A.jV A.j_ ["self","crew"] (nQ K J9):=qi;have sk:bx P w K mg base (gu P w) 0 A.kX A.k7 ["self","crew","name"] (nQ K J9):=qi;have ra:bx P w K mg base (gu P w) 0 A.jU A.j9 ["self","crew","name"] (nQ K J9):=qi;have xM:bx P w K mg base (gu P w) 0 A.oy A.oH ["self"] (nQ K J9):=qi;have xN:bx P w K mg base (gu P w) 0 A.oB A.oK ["self"] (nQ K J9):=qi;have nM:bx P w K mg base (gu P w) 0 A.im A.iq ["self","k"] (nQ K J9):=qi;have xO:bx P w K mg base eE 0 A.oC A.oM ["self"] (fj K yE):=xa;refine Df T.Kg.fn vQ (by rintro vs M q e ⟨b,la,lu,lh,now,p,pa,un,he,R,T',dd,w,rfl,_⟩;rfl) λcdv A' outer s H E e hr hF hP=> ?_;have nd:=vQ.nd;refine⟨_,(ai (bF (a6 dq (aI (show cI _ (bA K) from aA) (pv 1) ah (λ_ _=>rfl)) aP (bj _)) (ai (a9 (i:=2) nd rfl (by trivial) (cL dz (by rfl) T.fe Boot.«list» (aa (aI (show cI _ (bA K) from aA) (pv 1) ah (λ_ _=>rfl)) af))) (ai (a9 (i:=3) nd rfl (by trivial) (cA hP T.nO (lU T) (hr.mono (by decide)) (pv 0) (aa (aI (show cI _ (bA K) from aA) (pv 1) ah (λ_ _=>rfl)) (aa (pv 2) af)))) (ai (bF (a6 (show gO _ _ (wj K) from nj (by exact hr.La)) (pv 2) (cL dz (by rfl) T.fe Boot.«list» (aa (aI (show cI _ (bA K) from aA) (pv 1) ah (λ_ _=>rfl)) af)) (bj _)) (am (aJ aP)) aX) (ai (ce (hW a7 bN bM dE (pv 2) (aa (bh (aa aP (aa ah af))) af))) (am (aJ (pv 3))))))) aX) (ai (bF (a6 dq (aI (show cI _ (bA K) from aA) (pv 1) ah (λ_ _=>rfl)) aP (bj _)) (am (aJ (cA hP T.mQ (oY T) (hr.mono (by decide)) (pv 0) (aa (aI (show cI _ (bA K) from aA) (pv 1) ah (λ_ _=>rfl)) (aa (aI (show cI _ (bA K) from aA) (aI (show cI _ (bA K) from aA) (pv 1) ah (λ_ _=>rfl)) ah (λ_ _=>rfl)) (aa (aI (show cI _ (bA K) from aA) (aI (show cI _ (bA K) from aA) (pv 1) ah (λ_ _=>rfl)) ah (λ_ _=>rfl)) af)))))) aX) (ai (bF (a6 dq (aI (show cI _ (bA K) from aA) (pv 1) ah (λ_ _=>rfl)) aP (bj _)) (am (aJ (cA hP T.mR (oZ T) (hr.mono (by decide)) (pv 0) (aa (aI (show cI _ (bA K) from aA) (pv 1) ah (λ_ _=>rfl)) (aa (aI (show cI _ (bA K) from aA) (aI (show cI _ (bA K) from aA) (pv 1) ah (λ_ _=>rfl)) ah (λ_ _=>rfl)) af))))) aX) (ai (bF (a6 dq (aI (show cI _ (bA K) from aA) (pv 1) ah (λ_ _=>rfl)) aP (bj _)) (am (aJ (cA hP T.k8 (nn T) (hr.mono (by decide)) (pv 0) (aa (aI (show cI _ (bA K) from aA) (pv 1) ah (λ_ _=>rfl)) (aa (aI (show cI _ (bA K) from aA) (aI (show cI _ (bA K) from aA) (pv 1) ah (λ_ _=>rfl)) ah (λ_ _=>rfl)) (aa (aI (show cI _ (bA K) from aA) (pv 1) ah (λ_ _=>rfl)) af)))))) aX) (ai (bF (a6 dq (aI (show cI _ (bA K) from aA) (pv 1) ah (λ_ _=>rfl)) aP (bj _)) (am (aJ (cA hP T.t7 (uP T) (hr.mono (by decide)) (pv 0) (aa (aI (show cI _ (bA K) from aA) (pv 1) ah (λ_ _=>rfl)) af)))) aX) (ai (bF (a6 dq (aI (show cI _ (bA K) from aA) (pv 1) ah (λ_ _=>rfl)) aP (bj _)) (am (aJ (cA hP T.zF ve (hr.mono (by decide)) (pv 0) (aa (aI (show cI _ (bA K) from aA) (pv 1) ah (λ_ _=>rfl)) af)))) aX) (ai (bF (a6 dq (aI (show cI _ (bA K) from aA) (pv 1) ah (λ_ _=>rfl)) aP (bj _)) (am (aJ (cA hP T.vn rb (hr.mono (by decide)) (pv 0) (aa (aI (show cI _ (bA K) from aA) (pv 1) ah (λ_ _=>rfl)) af)))) aX) (ai (bF (a6 dq (aI (show cI _ (bA K) from aA) (pv 1) ah (λ_ _=>rfl)) aP (bj _)) (am (aJ (cA hP T.x_ sk (hr.mono (by decide)) (pv 0) (aa (aI (show cI _ (bA K) from aA) (pv 1) ah (λ_ _=>rfl)) (aa (aI (show cI _ (bA K) from aA) (pv 1) ah (λ_ _=>rfl)) af))))) aX) (ai (bF (a6 dq (aI (show cI _ (bA K) from aA) (pv 1) ah (λ_ _=>rfl)) aP (bj _)) (am (aJ (cA hP T.vm ra (hr.mono (by decide)) (pv 0) (aa (aI (show cI _ (bA K) from aA) (pv 1) ah (λ_ _=>rfl)) (aa (aI (show cI _ (bA K) from aA) (pv 1) ah (λ_ _=>rfl)) af))))) aX) (ai (bF (a6 dq (aI (show cI _ (bA K) from aA) (pv 1) ah (λ_ _=>rfl)) aP (bj _)) (am (aJ (sO hP T.Db xM (hr.mono (by decide)) (pv 0)))) aX) (ai (bF (a6 dq (aI (show cI _ (bA K) from aA) (pv 1) ah (λ_ _=>rfl)) aP (bj _)) (am (aJ (sO hP T.Dc xN (hr.mono (by decide)) (pv 0)))) aX) (ai (bF (a6 dq (aI (show cI _ (bA K) from aA) (pv 1) ah (λ_ _=>rfl)) aP (bj _)) (am (aJ (kl T.Dd xO (hr.mono (by decide)) (pv 0)))) aX) (am (aJ (cA hP T.rB nM (hr.mono (by decide)) (pv 0) (aa (aI (show cI _ (bA K) from aA) (pv 1) ah (λ_ _=>rfl)) af)))))))))))))))),?_⟩;try dsimp only[d4]
 refine⟨_,inferInstance,?_⟩;rintro vs M q ⟨b,la,lu,lh,now,p,pa,un,he,R,T',dd,w,rfl,hD,S0,hO,hB,hS,kq,ke⟩;obtain⟨dx,hb⟩:=hB.ob;have gB:decide (("join" :Str)= "tell")=false:=by right
 have gC:decide (("back" :Str)= "tell")=false:=by right
 have v7:decide (("back" :Str)= "join")=false:=by right
 have fT:decide (("times" :Str)= "tell")=false:=by right
 have ui:decide (("times" :Str)= "join")=false:=by right
 have uj:decide (("times" :Str)= "back")=false:=by right
 have nW:decide (("drop" :Str)= "tell")=false:=by right
 have vZ:decide (("drop" :Str)= "join")=false:=by right
 have v6:decide (("drop" :Str)= "back")=false:=by right
 have uq:decide (("drop" :Str)= "times")=false:=by right
 have up: ∀C,e C M ->WL.up e C M:=λC h=>⟨M,Sm.refl M,h⟩
 cases dd with
 | tell n ds=>obtain⟨c,rfl,hc⟩:=hD;dsimp? [cC,hc];intro h hh;have s1:Sm M (um M h (.lst (ds.map eC))):=bB hh;have SD:=cb hb hh;dsimp? [aN SD,hb,Bq];refine⟨b,la,lu,lh,now,p,pa,un,he,R,T', .tell n ds,_,rfl,⟨n,h,ds,rfl,rfl,au⟩,hO,hB.sm s1,hS,λR' ho M' iz pg B' F y3 vq=> ?_,λr ho=>⟨M,s1,ke r ho⟩⟩;have nah:=cb hB.pa hh;have Kb:=cb hB.he hh;have nuh:h≠iz:=cb au y3;have ML:M' c=some (.lst (ds.map eC)):=F _ _ (s1 _ _ hc) (λz=>by subst z;rw[hb] at hc;cases hc) (λz=>by subst z;exact S0 _ rfl);have Is:M' h=some (.lst (ds.map eC)):=F _ _ au SD.symm nah.symm;dsimp? [ML];intro g hg;refine qq (DR.list uZ (by rw[aN (cb Is hg)];exact Is)) (DR.list uZ au) (FN ds) rfl ?_;have hsz:((ds.map eC).length<sizeLine)=True:=aC (pi (by rw[ag];have:=hO.2;omega));dsimp? [aN (cb Is hg),Is,hsz];exact⟨El M' h,Hl (bB hg),kq R' ho _ iz pg (B'.El Is nah nuh.symm Kb) (F.El s1 hh) (s1.free y3) (s1.free vq)⟩
 | join n x y=>cases hD;dsimp? [cC,gB,hb,zm];refine⟨b,la,lu,lh,now,p,pa,un,he,R,T', .join n x y,_,rfl,⟨n,x,y,rfl,rfl⟩,hO,hB,hS,λR' ho M' iz pg B' F y3 vq=> ?_,λr ho=>up _ (ke r ho)⟩;dsimp? [];exact fM (kq R' ho M' iz pg B' F y3 vq)
 | back n x=>cases hD;dsimp? [cC,gC,v7,hb,zn];refine⟨b,la,lu,lh,now,p,pa,un,he,R,T', .back n x,_,rfl,⟨n,x,rfl,rfl⟩,hO,hB,hS,λR' ho M' iz pg B' F y3 vq=> ?_,λr ho=>up _ (ke r ho)⟩;dsimp? [];exact fM (kq R' ho M' iz pg B' F y3 vq)
 | times n x j=>cases hD;dsimp? [cC,fT,ui,uj,hb,xE];refine⟨b,la,lu,lh,now,p,pa,un,he,R,T', .times n x j,_,rfl,⟨n,x,j,rfl,rfl⟩,hO,hB,hS,λR' ho M' iz pg B' F y3 vq=> ?_,λr ho=>up _ (ke r ho)⟩;dsimp? [];exact fM (kq R' ho M' iz pg B' F y3 vq)
 | drop n=>cases hD;dsimp? [cC,nW,vZ,v6,uq,hb,IX];refine⟨b,la,lu,lh,now,p,pa,un,he,R,T', .drop n,_,rfl,⟨n,rfl,rfl⟩,hO,hB,hS,λR' ho M' iz pg B' F y3 vq=> ?_,λr ho=>up _ (ke r ho)⟩;dsimp? [];exact fM (kq R' ho M' iz pg B' F y3 vq)
theorem BX (T:e8 K mg A):bx P w K mg base eE 8 A.xi A.xw ["_law_book","_law_deed"] (fj K (LU A.aZ A.bE)):=by
 exists T.E4.fn,["_law_book","_law_deed","_law_told","_law_value_here"],(ai (a9 (i:=2) nd rfl (by trivial) aP) (ai (a9 (i:=3) nd rfl (by trivial) Ez) (ai (Ho (iy:=3) rfl rfl T.Kg (EO T) (hr.mono (by decide)) (by rfl) (aa (pv 0) (aa (pv 1) af)) nd rfl (by rfl) (vc.cons (by rfl) T.sx (λea=>(am (a9 (i:=2) nd rfl (by trivial) aP))) (vc.cons (by rfl) T.vy (λea=>(am (a9 (i:=2) nd rfl (by trivial) aP))) (vc.cons (by rfl) T.sw (λea=>(am (a9 (i:=2) nd rfl (by trivial) aP))) (vc.cons (by rfl) T.vz (λea=>(am (a9 (i:=2) nd rfl (by trivial) aP))) (vc.cons (by rfl) T.G4 (λea=>(am (a9 (i:=2) nd rfl (by trivial) aP))) (vc.cons (by rfl) T.zJ (λea=>(am (a9 (i:=2) nd rfl (by trivial) aP))) (vc.cons (by rfl) T.Bu (λea=>(am (a9 (i:=2) nd rfl (by trivial) aP))) (vc.cons (by rfl) T.pR (λea=>(am (a9 (i:=2) nd rfl (by trivial) aP))) (vc.cons (by rfl) T.Dm (λea=>(am (a9 (i:=2) nd rfl (by trivial) aP))) (vc.cons (by rfl) T.Bv (λea=>(am (a9 (i:=2) nd rfl (by trivial) aP))) vc.nil))))))))))) (am (aJ (bh (aa (pv 2) (aa (pv 3) af))))))))
 rintro vs M q ⟨b,la,lu,lh,now,p,pa,un,he,R,T',dd,w,rfl,hD,S0,hO,hB,hS,kq,ke⟩;dsimp? [];refine⟨b,la,lu,lh,now,p,pa,un,he,R,T',dd,w,rfl,hD,S0,hO,hB,hS,λR' ho M' iz pg B' F y3 vq=> ?_,λr ho ea s_=> ?_⟩;dsimp? [];exact fM (kq R' ho M' iz pg B' F y3 vq);have fin: ∃M0,Sm M0 (um M ea (.exc (vv A r))) /\ q (.tup [ws (ND r),wn]) M0:=⟨M,bB s_,ke r ho⟩
 rcases PN ho with rfl | rfl | rfl | rfl | rfl;refine xI ?_;dsimp? [];exact fin;refine gq T.nD (xI ?_);dsimp? [];exact fin;refine gq T.l7 (gq T.nC (xI ?_));dsimp? [];exact fin;refine gq T.pc (gq T.qE (gq T.o_ (gq T.qF (gq T.rT (xI ?_)))));dsimp? [];exact fin;refine gq T.nB (gq T.o6 (gq T.nA (gq T.o9 (gq T.qC (gq T.qD (gq T.nz (xI ?_)))))));dsimp? [];exact fin
theorem BV (T:e8 K mg A):bx P w K mg base eE 6 A.xg A.xu ["_law_book","_law_deed"] (fj K (Pw A.aZ A.bE)):=by
 exists T.E1.fn,["_law_book","_law_deed","_law_handed","_law_refused"],(ai (a9 (i:=2) nd rfl (by trivial) (cL dz (by rfl) T.fe Boot.«list» (aa (aI (show cI _ (bA K) from aA) (pv 1) ah (λ_ _=>rfl)) af))) (ai (a9 (i:=3) nd rfl (by trivial) fP) (ai (Hn rfl rfl T.nO (lU T) (hr.mono (by decide)) (pv 0) (aa (aI (show cI _ (bA K) from aA) (pv 1) ah (λ_ _=>rfl)) (aa (pv 2) af)) (vc.cons (by rfl) T.rH (λea=>(am (a9 (i:=3) nd rfl (by trivial) fP))) vc.nil)) (am (aJ (ng (pv 3) (lg (eV (show gO _ _ (Ly K) from LY (by exact hr.La)) (pv 2) (cL dz (by rfl) T.fe Boot.«list» (aa (aI (show cI _ (bA K) from aA) (pv 1) ah (λ_ _=>rfl)) af)) (bj _)))))))))
 rintro vs M q ⟨b,la,lu,lh,now,p,pa,un,he,R,T',n,ds,w,r,rfl,⟨c,rfl,hc⟩,S0,hO,hB,hS,ho,k⟩;obtain⟨dx,hb⟩:=hB.ob;dsimp? [hc];intro h hh;have s1:Sm M (um M h (.lst (ds.map eC))):=bB hh;have SD:=cb hb hh;dsimp? [aN SD,hb,Bq];refine⟨b,la,lu,lh,now,p,pa,un,he,R,T', .tell n ds,_,rfl,⟨n,h,ds,rfl,rfl,au⟩,hO,hB.sm s1,hS,λR' pK=> ?_,λr' pK ea s_=> ?_⟩;rw[ho] at pK;cases pK;have s2:=s1.trans (bB s_ (o:= .exc (vv A r')));have Is:um (um M h (.lst (ds.map eC))) ea (.exc (vv A r')) h=some (.lst (ds.map eC)):=bB s_ _ _ au;have ML:=s2 _ _ hc;generalize um (um M h (.lst (ds.map eC))) ea (.exc (vv A r'))=M5 at s2 Is ML;have hk:PySem.W.kitOne K (.ref (vv A r')) (.ref A.dM)=some true:=by rcases HI pK with rfl | rfl | rfl;exact T.i9;exact T.jG;exact T.jF
 refine KQ hk ?_;dsimp? [ML];intro g hg;refine MW (DR.list uZ (by rw[aN (cb Is hg)];exact Is)) (DR.list uZ au) (FN ds) rfl ?_;exact⟨M,s2.trans (bB hg),k⟩
theorem wz (T:e8 K mg A):bx P w K mg base eE 4 A.qK A.qT ["_law_p_here","_law_book","_law_stand"] (fj K (uE A.aZ A.bE)):=by
 have nL:=KL (dg (P:=P) (w:=w) (base:=base) T);have pk:=KL (oX (P:=P) (w:=w) (base:=base) T);exists T.wN.fn,["_law_p_here","_law_book","_law_stand","_law_names_here","_law_crews","_law_name","_law_one","_law_crew","_law_members"],(ai (a9 (i:=3) nd rfl (by trivial) (kl T.rC (rQ T) (hr.mono (by decide)) (pv 1))) (ai (a9 (i:=4) nd rfl (by trivial) (kl T.rD (rR T) (hr.mono (by decide)) (pv 1))) (ai (bF (kR (dO (di (bf (d9 (K:=K) rfl) (by rfl) T.de Boot.«isinstance» (aa (pv 3) (aa (fV (by rfl) T.fe Boot.«list» (show RelV (.ty "list") _ from rfl)) af))))) (iE (a6 (show gO _ _ (wj K) from nj (by exact hr.La)) (pv 3) (bf (fY rfl) (by rfl) T.iu Boot.«sorted» (aa (aI (show cI _ (bA K) from aA) (pv 2) ah (λ_ _=>rfl)) af)) (bj _)))).pt (am (aJ fP)) aX) (ai (bF (kR (dO (di (bf (d9 (K:=K) rfl) (by rfl) T.de Boot.«isinstance» (aa (pv 4) (aa (fV (by rfl) T.fe Boot.«list» (show RelV (.ty "list") _ from rfl)) af))))) (iE (a6 (show gO _ _ (wj K) from nj (by exact hr.La)) (pv 4) (bf (fY rfl) (by rfl) T.iu Boot.«sorted» (aa (aI (show cI _ (bA K) from aA) (pv 2) ah (λ_ _=>rfl)) af)) (bj _)))).pt (am (aJ fP)) aX) (ai (gg PassesOwn.never rfl (jx (K:=K) rfl (pv 3)) (a4 (i:=5) nd rfl (by trivial)) (ai (a9 (i:=6) nd rfl (by trivial) (hJ T.dB nL (hr.mono (by decide)) (pv 1) (aa (pv 5) af))) (am (bF (kR (dO (di (ay T.qy (rP T) hr (aa (pv 0) (aa (pv 6) af))))) (iE (a6 (show gO _ _ (wj K) from nj (by exact hr.La)) (pv 6) (eB (eh hr) (aI (show cI _ (bA K) from aA) (pv 2) ah (λ_ _=>rfl)) (pv 5) (λ_ _=>rfl)) (bj _)))).pt (am (aJ fP)) aX)))) (ai (gg PassesOwn.never rfl (jx (K:=K) rfl (pv 4)) (a4 (i:=7) nd rfl (by trivial)) (ai (a9 (i:=8) nd rfl (by trivial) (hJ T.mP pk (hr.mono (by decide)) (pv 1) (aa (pv 7) af))) (ai (bF (kR (dO (di (bf (d9 (K:=K) rfl) (by rfl) T.de Boot.«isinstance» (aa (pv 8) (aa (fV (by rfl) T.fe Boot.«list» (show RelV (.ty "list") _ from rfl)) af))))) (iE (a6 (show gO _ _ (wj K) from nj (by exact hr.La)) (pv 8) (cL dz (by rfl) T.fe Boot.«list» (aa (eB (eh hr) (aI (show cI _ (bA K) from aA) (pv 2) ah (λ_ _=>rfl)) (pv 7) (λ_ _=>rfl)) af)) (bj _)))).pt (am (aJ fP)) aX) (am (ce (hW a7 PySem.F.slot_list_insert PySem.F.type_list_insert sR (pv 8) (aa ah (aa aP af)))))))) (ai (ce (ED a7 PySem.F.slot_list_clear PySem.F.type_list_clear wF (pv 3))) (ai (ce (ED a7 PySem.F.slot_list_clear PySem.F.type_list_clear wF (pv 4))) (am (aJ fP))))))))))
 rintro vs M q ⟨b,la,lu,lh,now,r,t,p,pa,un,he,R,T',rfl,hB,⟨jH,ht⟩,hR,⟨rfl,dL⟩,k⟩;obtain⟨dx,hb⟩:=hB.ob;have hRl:=hR.len;dsimp? [hb,Gd];refine⟨b,la,lu,lh,now,p,pa,un,he,R,[],rfl,hB,hRl,λnl ns Cu ij wX=> ?_⟩;have s1:Sm M (um M nl (.lst (ns.map ws))):=bB Cu;have hB1:=hB.sm s1;have Kt:um M nl (.lst (ns.map ws)) nl=some (.lst (ns.map ws)):=au;generalize um M nl (.lst (ns.map ws))=M1 at s1 hB1 Kt;have hb1:=s1 _ _ hb;dsimp? [hb1,Ge];refine⟨b,la,lu,lh,now,p,pa,un,he,R,[],rfl,hB1,by simp,λcl cs rX hpc hsc=> ?_⟩;have ec:cs= []:=List.perm_nil.mp hpc;subst ec;have s2:=s1.trans (bB rX (o:= .lst (([]:List Str).map ws)));have hB2:=hB.sm s2;have Cv:um M1 cl (.lst (([]:List Str).map ws)) nl=some (.lst (ns.map ws)):=bB rX _ _ Kt;have MK:um M1 cl (.lst (([]:List Str).map ws)) cl=some (.lst (([]:List Str).map ws)):=au;generalize um M1 cl (.lst (([]:List Str).map ws))=M2 at s2 hB2 Cv MK;dsimp? [Cv,MK];refine⟨r,_,R.map (·.1),rfl,s2 _ _ jH,pZ _ _,by rw[ag];exact big (by omega),λv yc hv vq fA=> ?_⟩;have en:=Eb vq ij fA wX;subst en;refine qq (DR.list uY (by rw[aN (cb Cv hv)];exact Cv)) (DR.list uY au) (FM _) rfl ?_;have s3:=s2.trans (bB hv (o:= .lst (yc.map ws)));have hB3:=hB.sm s3;have VI:=bB hv (o:= .lst (yc.map ws)) _ _ Cv;have QM:=bB hv (o:= .lst (yc.map ws)) _ _ MK;generalize um M2 v (.lst (yc.map ws))=M3 at s3 hB3 VI QM;dsimp? [VI,QM];refine⟨t,_,[],rfl,s3 _ _ ht,rfl,by decide,λv2 cs' SR Vz Ct=> ?_⟩;have ec:cs'= []:=List.perm_nil.mp Vz;subst ec;refine qq (DR.list (l:=([]:List Str)) uY (by rw[aN (cb QM SR)];exact QM)) (DR.list (l:=([]:List Str)) uY au) (FM _) rfl ?_;have s4:=s3.trans (bB SR (o:= .lst (([]:List Str).map ws)));have hB4:=hB.sm s4;have MA:=bB SR (o:= .lst (([]:List Str).map ws)) _ _ VI;have QL:=bB SR (o:= .lst (([]:List Str).map ws)) _ _ QM;generalize um M3 v2 (.lst (([]:List Str).map ws))=M4 at s4 hB4 MA QL;have Vx:=s4 _ _ jH;have hb4:=s4 _ _ hb;dsimp? [MA];refine jL (λi ρ M'=>ca λ(o1 o2:Option W)=>ρ= [some (wi p),some (wr b),some (.tup [wr r,wr t]),some (wr nl),some (wr cl),o1,o2,none,none] /\ M'=M4) ⟨none,none,rfl,rfl⟩ (by rintro i ρ M' _ ⟨o1,o2,rfl,rfl⟩;exact MA) ?_ ?_;rintro i x ρ M' hx ⟨o1,o2,rfl,rfl⟩ N hN;obtain⟨nm,jI,rfl⟩: ∃nm,yc[i]? =some nm /\ x=ws nm:=by
  rw[aG] at hx;cases e:yc[i]? with
  | none=>rw[e] at hx;cases hx
  | some y=>rw[e] at hx;cases hx;exact⟨y,rfl,rfl⟩
 have za:nm∈R.map (·.1):=ij.mem_iff.mp (bq jI);obtain⟨z,hz,rfl⟩:=List.mem_map.mp za;obtain⟨a,hg⟩:=Iy hz;obtain⟨z2,Mq,_,rfl⟩:=fX hg;dsimp? [hb4,eM];refine Lp ?_;refine⟨b,la,lu,lh,now,p,pa,un,he,R,[],z.1,rfl,hB4,dL z hz,λa' Cz=> ?_,λCz=>by rw[hg] at Cz;cases Cz⟩;have ea:a'=z2.2:=by rw[hg] at Cz;exact(a8 Cz).symm
 subst ea;dsimp? [];refine⟨p,z2.2,rfl,(hR.ok z2 Mq).1,by have:=(hR.ok z2 Mq).2.1;omega,?_⟩;dsimp? [Vx,dS,hg,cf];refine PV rfl ?_;dsimp? [];exact hN _ _ ⟨_,_,rfl,rfl⟩;rintro ρ M5 ⟨o1,o2,rfl,rfl⟩;dsimp? [QL];refine jL (λi ρ M'=>ρ= [some (wi p),some (wr b),some (.tup [wr r,wr t]),some (wr nl),some (wr cl),o1,o2,none,none] /\ M'=M5) ⟨rfl,rfl⟩ (by rintro i ρ M' _ ⟨rfl,rfl⟩;exact QL) ?_ ?_;intro i x ρ M' hx;cases hx;rintro ρ M6 ⟨rfl,rfl⟩;dsimp? [MA,QL];by_cases hcn:cl=nl;subst hcn;dsimp? [au];exact⟨M,s4.um (s1.free rX),k⟩;dsimp? [aN hcn,QL];exact⟨M,(s4.um Cu).um (s1.free rX),k⟩
theorem oW (T:e8 K mg A):bx P w K mg base eE 2 A.jQ A.j5 ["_law_draw"] (fj K HA):=by
 exists T.l0.fn,["_law_draw","_law_deeds","_law_k","_law_word","_law_way"],(ai (a9 (i:=1) nd rfl (by trivial) (gL af)) (ai (gg PassesOwn.never rfl (eI (by rfl) T.gI (aa (ay T.dc (bK T) hr (aa (pv 0) (aa ah af))) af)) (a4 (i:=2) nd rfl (by trivial)) (ai (a9 (i:=3) nd rfl (by trivial) (aI (show cI _ (bA K) from aA) (bh (aa aP (aa aP (aa aP af)))) (ay T.dc (bK T) hr (aa (pv 0) (aa ah af))) (λ_ _=>rfl))) (am (ce (hW a7 bN bM dE (pv 1) (aa (bh (aa (pv 3) (aa (bU uH (ay T.dc (bK T) hr (aa (pv 0) (aa ah af))) ah) af))) af)))))) (ai (a9 (i:=4) nd rfl (by trivial) (ay T.dc (bK T) hr (aa (pv 0) (aa ah af)))) (ai (bF (a6 dq (pv 4) ah (bj _)) (ai (ce (hW a7 bN bM dE (pv 1) (aa (bh (aa aP (aa (aI (show cI _ (bA K) from aA) (bh (aa ah (aa ah (aa (fq dY ah) (aa (fq dY ah) (aa ah (aa ah (aa (fq dY ah) (aa (fq dY ah) (aa ah (aa ah (aa (fq dY ah) (aa (fq dY ah) af))))))))))))) (ay T.dc (bK T) hr (aa (pv 0) (aa ah af))) (λ_ _=>rfl)) af))) af))) (ai (ce (hW a7 bN bM dE (pv 1) (aa (bh (aa aP (aa (ay T.dc (bK T) hr (aa (pv 0) (aa ah af))) af))) af))) (am (ce (hW a7 bN bM dE (pv 1) (aa (bh (aa aP (aa (aI (show cI _ (bA K) from aA) (bh (aa ah (aa (fq dY ah) (aa ah (aa (fq dY ah) (aa ah af)))))) (ay T.dc (bK T) hr (aa (pv 0) (aa ah af))) (λ_ _=>rfl)) af))) af)))))) aX) (ai (bF (a6 dq (pv 4) ah (bj _)) (am (ce (hW a7 PySem.F.slot_list_insert PySem.F.type_list_insert sR (pv 1) (aa (ay T.dc (bK T) hr (aa (pv 0) (aa (bU dQ (bf (f7 (K:=K) rfl) (by rfl) T.mK Boot.«len» (aa (pv 1) af)) ah) af))) (aa (bh (aa (aI (show cI _ (bA K) from aA) (bh (aa aP (aa aP (aa aP af)))) (ay T.dc (bK T) hr (aa (pv 0) (aa ah af))) (λ_ _=>rfl)) (aa ah af))) af))))) aX) (am (aJ (pv 1))))))))
 rintro vs M q ⟨d,l,rfl,hD,k⟩;dsimp? [];intro u hu;obtain⟨B_,nul⟩:=hD.ne hu;have D0:=hD.put hu (o:= .lst []);have F0:Fs d M (um M u (.lst [])):=λa o h n=>by rw[aN (cb h hu)];exact h
 have NN:um M u (.lst []) u=some (.lst (([]:List (Str×Int)).map eC)):=au;generalize um M u (.lst [])=M1 at D0 F0 NN;dsimp? [];refine⟨d,l,5,rfl,D0,by decide,by decide,λm M2 m0 m1 D2 b2=> ?_⟩;have F2:Fs d M M2:=λa o h n=>by rw[b2 a n];exact F0 a o h n
 have hu2:M2 u=some (.lst (([]:List (Str×Int)).map eC)):=by rw[b2 u B_];exact NN
 have put: ∀ (M':Mp) (o:MO),Dr M' d l ->Fs d M M' ->Dr (um M' u o) d l /\ Fs d M (um M' u o):=λM' o hD' hF=>⟨hD'.LA B_ nul,λa o' h n=>by rw[aN (cb h hu)];exact hF a o' h n⟩
 have dr: ∀ (M' KW:Mp),NB d M' KW ->Fs d M M' ->Fs d M KW:=λM' KW hb hF a o h n=>by rw[hb a n];exact hF a o h n
 have wd: ∀ {ds:List (Str×Int)} {z:Str×Int},(∀y∈ds,y.1.length<=100) ->z.1.length<=100 -> ∀y∈ds++ [z],y.1.length<=100:=λ{ds z} h hz y hy=>by rcases a_.mp hy with h' | h';exact h y h';rw[be.mp h'];exact hz
 have sz: ∀ {ds:List (Str×Int)},ds.length<=50 ->((ds.map eC).length<sizeLine)=True:=λ{ds} h=>aC (pi (by rw[ag];omega));have snoc: ∀ (ds:List (Str×Int)) (z:Str×Int),(MO.lst (ds.map eC++ [eC z]))= .lst ((ds++ [z]).map eC):=λds z=>by rw[br];rfl
 simp? [↓cg];refine⟨⟨by omega,by omega⟩,jL (λi ρ M'=>dH λ(o1 o2:Option W) (ds:List (Str×Int))=>kz (ρ= [some (wr d),some (wr u),o1,o2,none]) (ds.length=i) (∀y∈ds,y.1.length<=100) (M' u=some (.lst (ds.map eC))) (Dr M' d l) (Fs d M M')) ⟨none,none,[],rfl,rfl,by simp,hu2,D2,F2⟩ (λ_ _ _ _ _=>trivial) ?_ ?_⟩
 ·rintro i x ρ M3 hx ⟨o1,o2,ds,rfl,hl,hw,hM,D3,F3⟩ N hN;obtain⟨hi,rfl⟩:=g_ hx;dsimp? [];refine⟨d,l,3,rfl,D3,by decide,by decide,λr M4 r0 r1 D4 b4=> ?_⟩;have MQ:M4 u=some (.lst (ds.map eC)):=by rw[b4 u B_];exact hM
  have F4:=dr _ _ b4 F3;have hr3:r=0 \/ r=1 \/ r=2:=by omega
  rcases hr3 with rfl | rfl | rfl;all_goals
   dsimp? [Q8,MQ]
   refine⟨d,l,7,rfl,D4,by decide,by decide,λx M5 x0 x1 D5 b5=> ?_⟩
   have MP:M5 u=some (.lst (ds.map eC)):=by rw[b5 u B_];exact MQ
   have F5:=dr _ _ b5 F4
   dsimp? [MP,sz (ds:=ds) (by omega)]
   refine hN _ _ ⟨_,_,ds++ [(_,x - 3)],rfl,by simp[hl],wd hw ?_,by rw[au];exact congrArg some (snoc ds (_,x - 3)),(put _ _ D5 F5).1,(put _ _ D5 F5).2⟩
   first | exact(by right:Str.length "go" <=100) | exact(by right:Str.length "turn" <=100)
 rintro ρ M3 ⟨o1,o2,ds,rfl,hl,hw,hM,D3,F3⟩;rw[g0] at hl;have hl4:ds.length<=4:=by omega
 clear hl;simp? [↓cg];refine eo ?_;simp? [↓cg];refine⟨d,l,12,rfl,D3,by decide,by decide,λwy M4 w0 w1 D4 b4=> ?_⟩;have MQ:M4 u=some (.lst (ds.map eC)):=by rw[b4 u B_];exact hM
 have F4:=dr _ _ b4 F3;simp? [↓cg];refine eo (uU (λρ M'=> ∃ds:List (Str×Int),kz (ρ= [some (wr d),some (wr u),o1,o2,some (wi wy)]) (ds.length<=7) (∀y∈ds,y.1.length<=100) (M' u=some (.lst (ds.map eC))) (Dr M' d l) (Fs d M M')) ?_ λN hN=> ?_);clear MQ F4 hM D3 F3 hl4 hw;rintro ρ M5 ⟨ds,rfl,hl,hw,MP,D5,F5⟩;refine uU (λρ M'=> ∃ds:List (Str×Int),kz (ρ= [some (wr d),some (wr u),o1,o2,some (wi wy)]) (ds.length<=8) (∀y∈ds,y.1.length<=100) (M' u=some (.lst (ds.map eC))) (Dr M' d l) (Fs d M M')) ?_ λN hN=> ?_;rintro ρ M6 ⟨ds,rfl,hl,hw,Iv,D6,F6⟩;dsimp? [];exact fM (k u ds M6 hu Iv (by omega) hw D6 F6);simp? [↓cg];refine dF (λh=> ?_) λh=>hN _ _ ⟨ds,rfl,by omega,hw,MP,D5,F5⟩;dsimp? [MP,ag];refine⟨d,l,_,rfl,D5,by omega,by omega,λj M6 j0 j1 D6 b6=> ?_⟩;have Iv:M6 u=some (.lst (ds.map eC)):=by rw[b6 u B_];exact MP
 have F6:=dr _ _ b6 F5;dsimp? [];refine⟨d,l,3,rfl,D6,by decide,by decide,λr M7 r0 r1 D7 b7=> ?_⟩;have V7:M7 u=some (.lst (ds.map eC)):=by rw[b7 u B_];exact Iv
 have F7:=dr _ _ b7 F6;dsimp? [];refine lQ (λx=> ∃e:Str,x=ws e /\ e.length<=100) r0 (by show r< ((3:Nat):Int);omega) (λx hx=> ?_) ?_;simp only[aS,List.not_mem_nil,or_false] at hx;rcases hx with h | h | h<;>exact⟨_,h,by right⟩;rintro _ ⟨v,rfl,hv⟩;obtain⟨jn,rfl⟩:=Int.eq_ofNat_of_zero_le j0;refine⟨u,_,eC (v,1),jn,rfl,rfl,V7,pi (by rw[ag];omega),by rw[ag];omega,?_⟩;have em:(ds.map eC).take jn++eC (v,1)::(ds.map eC).drop jn=(ds.take jn++(v,1)::ds.drop jn).map eC:=by rw[br,az,List.map_take,List.map_drop]
 rw[em];refine hN _ _ ⟨ds.take jn++(v,1)::ds.drop jn,rfl,by simp;omega,λy hy=> ?_,au,(put _ _ D7 F7).1,(put _ _ D7 F7).2⟩;rcases a_.mp hy with h' | h';exact hw y (List.mem_of_mem_take h');rcases aS.mp h' with h' | h';rw[h'];exact hv;exact hw y (List.mem_of_mem_drop h');simp? [↓cg];refine dF (λh=> ?_) λh=>hN _ _ ⟨ds,rfl,by omega,hw,MQ,D4,F4⟩;dsimp? [MQ];refine⟨by decide,d,l,12,rfl,D4,by decide,by decide,λj M5 j0 j1 D5 b5=> ?_⟩;have MP:M5 u=some (.lst (ds.map eC)):=by rw[b5 u B_];exact MQ
 have F5:=dr _ _ b5 F4;dsimp? [];refine lQ (λx=> ∃e:Int,x=wi e) j0 (by show j< ((12:Nat):Int);omega) (λx hx=> ?_) ?_;simp only[aS,List.not_mem_nil,or_false] at hx;rcases hx with h | h | h | h | h | h | h | h | h | h | h | h<;>exact⟨_,h⟩;rintro _ ⟨v,rfl⟩;dsimp? [MP,sz (ds:=ds) (by omega)];have P6:=put M5 (.lst (ds.map eC++ [eC ("go",v)])) D5 F5;have Iv:um M5 u (.lst (ds.map eC++ [eC ("go",v)])) u=some (.lst ((ds++ [(("go" :Str),v)]).map eC)):=by rw[au,snoc]
 have w6:=wd (z:=("go",v)) hw (by show Str.length "go" <=100;decide+kernel);have l6:(ds++ [(("go" :Str),v)]).length<=5:=by simp;omega
 change qY _ _ (um M5 u (.lst (ds.map eC++ [eC ("go",v)]))) _;generalize um M5 u (.lst (ds.map eC++ [eC ("go",v)]))=M6 at P6 Iv ⊢;generalize ds++ [(("go" :Str),v)]=d6 at Iv w6 l6;obtain⟨D6,F6⟩:=P6;refine⟨d,l,2,rfl,D6,by decide,by decide,λx7 M7 _ _ D7 b7=> ?_⟩;have V7:M7 u=some (.lst (d6.map eC)):=by rw[b7 u B_];exact Iv
 have F7:=dr _ _ b7 F6;dsimp? [V7,sz (ds:=d6) (by omega)];have P8:=put M7 (.lst (d6.map eC++ [eC ("turn",x7)])) D7 F7;have V6:um M7 u (.lst (d6.map eC++ [eC ("turn",x7)])) u=some (.lst ((d6++ [(("turn" :Str),x7)]).map eC)):=by rw[au,snoc]
 have w8:=wd (z:=("turn",x7)) w6 (by show Str.length "turn" <=100;decide+kernel);have l8:(d6++ [(("turn" :Str),x7)]).length<=6:=by simp;omega
 change qY _ _ (um M7 u (.lst (d6.map eC++ [eC ("turn",x7)]))) _;generalize um M7 u (.lst (d6.map eC++ [eC ("turn",x7)]))=M8 at P8 V6 ⊢;generalize d6++ [(("turn" :Str),x7)]=d8 at V6 w8 l8;obtain⟨D8,F8⟩:=P8;refine⟨d,l,5,rfl,D8,by decide,by decide,λx9 M9 x90 x91 D9 b9=> ?_⟩;have hM9:M9 u=some (.lst (d8.map eC)):=by rw[b9 u B_];exact V6
 have F9:=dr _ _ b9 F8;dsimp? [];refine lQ (λx=> ∃e:Int,x=wi e) x90 (by show x9< ((5:Nat):Int);omega) (λx hx=> ?_) ?_;simp only[aS,List.not_mem_nil,or_false] at hx;rcases hx with h | h | h | h | h<;>exact⟨_,h⟩;rintro _ ⟨v9,rfl⟩;dsimp? [hM9,sz (ds:=d8) (by omega)];exact hN _ _ ⟨d8++ [(("go" :Str),v9)],rfl,by simp;omega,wd (z:=("go",v9)) w8 (by show Str.length "go" <=100;decide+kernel),by rw[au];exact congrArg some (snoc d8 ("go",v9)),(put _ _ D9 F9).1,(put _ _ D9 F9).2⟩
theorem jA (T:e8 K mg A):bx P w K mg base eE 2 A.qJ A.qS ["_law_draw","_law_names_here"] (fj K Av):=by
 exists T.lX.fn,["_law_draw","_law_names_here"],(ai (bF (a6 dq (ay T.dc (bK T) hr (aa (pv 0) (aa ah af))) ah (bj _)) (am (aJ (aI (show cI _ (bA K) from aA) (bh (aa aP (aa aP (aa aP (aa aP (aa aP (aa aP (aa aP (aa aP (aa aP (aa aP af))))))))))) (ay T.dc (bK T) hr (aa (pv 0) (aa ah af))) (λ_ _=>rfl)))) aX) (am (aJ (aI (show cI _ (kB K) from dW) (pv 1) (ay T.dc (bK T) hr (aa (pv 0) (aa (bf (f7 (K:=K) rfl) (by rfl) T.mK Boot.«len» (aa (pv 1) af)) af))) (λ_ _=>rfl)))))
 rintro vs M q ⟨d,l,nl,ns,rfl,hD,Cu,HL,⟨n0,n1⟩,vt,k⟩;dsimp? [];refine⟨d,l,15,rfl,hD,by decide,by decide,λm M2 m0 m1 D2 b2=> ?_⟩;dsimp? [];refine dF (λh=> ?_) λh=> ?_;dsimp? [];refine⟨by decide,d,l,10,rfl,D2,by decide,by decide,λj M3 j0 j1 D3 b3=> ?_⟩;dsimp? [];refine lQ (λx=> ∃e:Str,x=ws e /\ Nm e) j0 (by show j< ((10:Nat):Int);omega) (λx hx=> ?_) ?_;simp only[aS,List.not_mem_nil,or_false] at hx;rcases hx with h | h | h | h | h | h | h | h | h | h<;>exact⟨_,h,by right,by right⟩;rintro _ ⟨v,rfl,hv⟩;exact fM (k v _ hv D3 (NB.trans b2 b3));have Qy:M2 nl=some (.lst (ns.map ws)):=by rw[b2 nl HL];exact Cu
 dsimp? [Qy,ag];refine⟨d,l,_,rfl,D2,by omega,by omega,λj M3 j0 j1 D3 b3=> ?_⟩;have VE:M3 nl=some (.lst (ns.map ws)):=by rw[b3 nl HL];exact Qy
 obtain⟨z,hz⟩: ∃z,ns[j.toNat]? =some z:=⟨_,aD (by omega)⟩
 have ek:ix (ns.map ws) j=some (ws z):=mL j0 (by rw[aG,hz];rfl);dsimp? [VE,ek];exact fM (k z _ (vt z (bq hz)) D3 (NB.trans b2 b3))
theorem oU (T:e8 K mg A):bx P w K mg base eE 3 A.jO A.jY ["_law_draw","_law_names_here"] (fj K LN):=by
 exists T.lY.fn,["_law_draw","_law_names_here","_law_name","_law_one","_law_way"],(ai (a9 (i:=2) nd rfl (by trivial) (ay T.lX (jA T) hr (aa (pv 0) (aa (pv 1) af)))) (ai (a9 (i:=3) nd rfl (by trivial) (ay T.lX (jA T) hr (aa (pv 0) (aa (pv 1) af)))) (ai (a9 (i:=4) nd rfl (by trivial) (ay T.dc (bK T) hr (aa (pv 0) (aa ah af)))) (ai (bF (a6 n9 (pv 4) ah (bj _)) (am (aJ (bh (aa aP (aa (pv 2) (aa (ay T.l0 (oW T) hr (aa (pv 0) af)) af)))))) aX) (ai (bF (a6 dq (pv 4) ah (bj _)) (am (aJ (bh (aa aP (aa (pv 2) (aa (bh (aa (pv 3) (aa (ay T.lX (jA T) hr (aa (pv 0) (aa (pv 1) af))) af))) af)))))) aX) (ai (bF (a6 dq (pv 4) ah (bj _)) (am (aJ (bh (aa aP (aa (pv 2) (aa (bh (aa (pv 3) af)) (aa (fq dY ah) af))))))) aX) (ai (bF (a6 dq (pv 4) ah (bj _)) (am (aJ (bh (aa aP (aa (pv 2) (aa (bh (aa (pv 3) af)) (aa (aI (show cI _ (bA K) from aA) (bh (aa (bU uH (ay T.dc (bK T) hr (aa (pv 0) (aa ah af))) ah) (aa (bU uH (ay T.dc (bK T) hr (aa (pv 0) (aa ah af))) ah) af))) (ay T.dc (bK T) hr (aa (pv 0) (aa ah af))) (λ_ _=>rfl)) af))))))) aX) (am (aJ (bh (aa aP (aa (pv 2) af))))))))))))
 rintro vs M q ⟨d,l,nl,ns,rfl,hD,Cu,HL,n0,vt,k⟩;have tg: ∀ (M':Mp) (q':WK),Dr M' d l ->NB d M M' ->(∀ (n:Str) (M2:Mp),Nm n ->Dr M2 d l ->NB d M M2 ->q' (ws n) M2) ->Av [wr d,wr nl] M' q':=λM' q' D' b' k'=>⟨d,l,nl,ns,rfl,D',by rw[b' nl HL];exact Cu,HL,n0,vt,λn M2 hn D2 b2=>k' n M2 hn D2 (NB.trans b' b2)⟩
 have fs: ∀M':Mp,NB d M M' ->Fs d M M':=λM' b a o h n=>by rw[b a n];exact h
 dsimp? [];refine tg M _ hD (λ_ _=>rfl) λn M1 hn D1 b1=> ?_;dsimp? [];refine tg M1 _ D1 b1 λx M2 hx D2 b2=> ?_;dsimp? [];refine⟨d,l,8,rfl,D2,by decide,by decide,λwy M3 w0 w1 D3 b3=> ?_⟩;replace b3:=NB.trans b2 b3;dsimp? [];refine dF (λh=> ?_) λh=> ?_;dsimp? [];refine⟨d,l,rfl,D3,λu ds M4 hu hM hl hw D4 F4=> ?_⟩;dsimp? [];exact fM (k (.tell n ds) _ M4 ⟨u,rfl,hM⟩ ⟨hn,hl,hw⟩ (λa n' e=>by cases e;rw[<- b3 u (D3.ne hu).1];exact hu) D4 (λa o h n=>F4 a o (by rw[b3 a n];exact h) n));dsimp? [];refine dF (λh=> ?_) λh=> ?_;refine tg M3 _ D3 b3 λy M4 hy D4 b4=> ?_;dsimp? [];exact fM (k (.join n x y) _ M4 rfl ⟨hn,hx,hy⟩ (λa n' e=>nomatch e) D4 (fs _ b4));dsimp? [];refine dF (λh=> ?_) λh=> ?_;dsimp? [];exact fM (k (.back n x) _ M3 rfl ⟨hn,hx⟩ (λa n' e=>nomatch e) D3 (fs _ b3));dsimp? [];refine dF (λh=> ?_) λh=> ?_;dsimp? [];refine⟨d,l,7,rfl,D3,by decide,by decide,λy1 M4 y0 y2 D4 b4=> ?_⟩;dsimp? [];refine⟨d,l,101,rfl,D4,by decide,by decide,λz1 M5 z0 z2 D5 b5=> ?_⟩;dsimp? [];refine⟨d,l,2,rfl,D5,by decide,by decide,λr M6 r0 r1 D6 b6=> ?_⟩;dsimp? [];refine lQ (λx=> ∃e:Int,cM (x=wi e) (-100<=e) (e<=100)) r0 (by show r< ((2:Nat):Int);omega) (λx hx=> ?_) ?_;simp only[aS,List.not_mem_nil,or_false] at hx;rcases hx with h | h<;>exact⟨_,h,by omega,by omega⟩;rintro _ ⟨v,rfl,v0,v1⟩;dsimp? [];exact fM (k (.times n x v) _ M6 rfl ⟨hn,hx,v0,v1⟩ (λa n' e=>nomatch e) D6 (fs _ (NB.trans (NB.trans (NB.trans b3 b4) b5) b6)));dsimp? [];exact fM (k (.drop n) _ M3 rfl hn (λa n' e=>nomatch e) D3 (fs _ b3))
theorem L3 (T:e8 K mg A):bx P w K mg base eE 9 A.KC A.KH ["_law_script"] (vO K):=by
 have cl:=aC T.Book.cl;refine PM T.law.fn Ee (by decide) λcdv A' outer s H E hr=> ?_;have nd:=Ee.nd;refine⟨_,(ai (a9 (i:=1) nd rfl (by trivial) (ay T.AJ (yL T) hr (aa (pv 0) af))) (ai (a9 (i:=2) nd rfl (by trivial) (ay T.l_p (L4 T) hr (aa (pv 1) af))) (ai (a9 (i:=3) nd rfl (by trivial) (ay T.AH (yK T) hr (aa (pv 1) (aa ah af)))) (ai (a9 (i:=4) nd rfl (by trivial) (lP T.Book (HG T) (hr.mono (by decide)) (by rfl) (aa (pv 2) af))) (ai (a9 (i:=5) nd rfl (by trivial) (bh (aa hU (aa hU af)))) (ai (gg PassesOwn.never rfl (eI (by rfl) T.gI (aa (ay T.dc (bK T) hr (aa (pv 1) (aa ah af))) af)) (a4 (i:=6) nd rfl (by trivial)) (ai (a9 (i:=7) nd rfl (by trivial) (ay T.lY (oU T) hr (aa (pv 1) (aa (pv 3) af)))) (ai (a9 (i:=8) nd rfl (by trivial) (ay T.oj (qm T) hr (aa (pv 2) (aa (pv 5) (aa (pv 7) af))))) (ai (bF (a6 (show gO _ _ (wj K) from nj (by exact hr.La)) (ay T.E4 (BX T) hr (aa (pv 4) (aa (pv 7) af))) (bh (aa (aI (show cI _ (bA K) from aA) (pv 8) ah (λ_ _=>rfl)) (aa Ez af))) (bj _)) (am (aJ fP)) aX) (ai (bF (jv (a6 dq (aI (show cI _ (bA K) from aA) (pv 7) ah (λ_ _=>rfl)) aP (bj _)) (jv (a6 wv (aI (show cI _ (bA K) from aA) (pv 8) ah (λ_ _=>rfl)) aP (bj _)) (iF (dO (di (ay T.E1 (BV T) hr (aa (pv 4) (aa (pv 7) af)))))))).pt (am (aJ fP)) aX) (ai (a9 (i:=5) nd rfl (by trivial) (aI (show cI _ (bA K) from aA) (pv 8) ah (λ_ _=>rfl))) (am (bF (dO (di (ay T.wN (wz T) hr (aa (pv 2) (aa (pv 4) (aa (pv 5) af)))))) (am (aJ fP)) aX)))))))) (ai (a9 (i:=9) nd rfl (by trivial) (kl T.k9 (no T) (hr.mono (by decide)) (pv 4))) (am (aJ (ng (bf (d9 (K:=K) rfl) (by rfl) T.de Boot.«isinstance» (aa (pv 9) (aa (fV (by rfl) T.KO Boot.«int» (show RelV (.ty "int") _ from rfl)) af))) (lg (eV dq (pv 9) (pv 2) (bj _))))))))))))),?_⟩;try dsimp only[d4]
 refine⟨_,inferInstance,?_⟩;intro d l M hD;dsimp? [];refine⟨d,l,rfl,hD,λp M1 hp D1 _=> ?_⟩;dsimp? [];refine⟨d,l,5,rfl,D1,by decide,by decide,λnl ns M2 Cu hln vt HL nnl D2=> ?_⟩;dsimp? [];rw[pB];dsimp? [];intro b dxb NR VY pL;refine⟨b,dxb,p,rfl,hp,au,λM4 la lu lh now B4 F4 Di AV Iq ET=>⟨rfl,?_⟩⟩;have F4': ∀a o,M2 a=some o ->M4 a=some o:=λa o h=>F4 a o (by rw[aN (cb h NR)];exact h) (cb h NR);have D4:Dr M4 d l:=A8 D2 F4';have MA:=F4' _ _ Cu;obtain⟨xd,Ik⟩:=A9 D2;have fr: ∀ {a c:Addr} {o:MO},um M2 b (.ins A.aZ dxb []) a=none ->M2 c=some o ->a≠c:=λ{a c o} h1 h2 e=>by subst e;rw[aN (cb h2 NR),h2] at h1;cases h1
 have q1:=fr Di Ik;have q2:=fr AV Ik;have q3:=fr Iq Ik;have q4:la≠l:=by obtain⟨_,_,_,_,_,h2,_,_⟩:=D2;exact fr Di h2
 have q5:=fr Di Cu;clear fr Di AV Iq F4 F4' Ik NR VY Cu D2 D1 hD;dsimp? [];intro r jH;dsimp? [];intro t ht;have s5:=(bB jH (o:= .dK (sN []))).trans (bB ht (o:= .dK (BA [])));have Vw:um (um M4 r (.dK (sN []))) t (.dK (BA [])) r=some (.dK (sN [])):=bB ht _ _ au;have Vq:um (um M4 r (.dK (sN []))) t (.dK (BA [])) t=some (.dK (BA [])):=au;change hold _ _ (um (um M4 r (.dK (sN []))) t (.dK (BA [])));generalize um (um M4 r (.dK (sN []))) t (.dK (BA []))=M5 at s5 Vw Vq ⊢;have B5:=B4.sm s5;have D5:=A8 D4 s5;have hn5:=s5 _ _ MA;clear B4 D4 MA s5 jH ht M4;dsimp? [];refine⟨d,l,17,rfl,D5,by decide,by decide,λm M6 m0 m1 D6 b6=> ?_⟩;obtain⟨xd5,Ij⟩:=A9 D5;have F6:Fs d M5 M6:=λa o h n=>by rw[b6 a n];exact h
 have B6:=B5.fs F6 Ij q1 q2 q3;dsimp? [];refine⟨⟨by omega,by omega⟩,jL (λi ρ M'=>dH λ(o1 o2 o3:Option W)=>S' λ(r t la lu lh now:Addr)=>fF λ(pa un he:List Addr) (R:Rm)=>Dk (ρ= [none,some (wr d),some (wi p),some (wr nl),some (wr b),some (.tup [wr r,wr t]),o1,o2,o3,none]) (Bk A.aZ A.bE M' b la lu lh p now pa un he R []) (Dr M' d l /\ M' nl=some (.lst (ns.map ws))) (fo (la≠d) (lu≠d) (lh≠d) (la≠l) (la≠nl)) (M' r=some (.dK (sN R)) /\ M' t=some (.dK (BA []))) (nK p R) (R.length<=i /\ pa.length<=i) (∀z∈R,z.1.length<=100)) ⟨none,none,none,r,t,la,lu,lh,now,[],[],[],[],rfl,B6,⟨D6,F6 _ _ hn5 HL⟩,⟨q1,q2,q3,q4,q5⟩,⟨F6.IN Ij Vw,F6.IN Ij Vq⟩,⟨List.nodup_nil,by simp,by simp⟩,⟨by simp,by simp⟩,by simp⟩ (λ_ _ _ _ _=>trivial) ?_ ?_⟩;clear B6 D6 b6 Vw Vq hn5 B5 D5 Ij F6 q1 q2 q3 q4 q5;rintro i x ρ M7 hx ⟨o1,o2,o3,r,t,la,lu,lh,now,pa,un,he,R,rfl,B7,⟨D7,VH⟩,⟨q1,q2,q3,q4,q5⟩,⟨hr7,ht7⟩,hR,⟨hlR,hlp⟩,y9⟩ N hN;obtain⟨hi,rfl⟩:=g_ hx;obtain⟨xd,Ik⟩:=A9 D7;dsimp? [];refine⟨d,l,nl,ns,rfl,D7,VH,HL,⟨by omega,by omega⟩,vt,λdd wd M8 NS hO GV D8 F8=> ?_⟩;have B8:=B7.fs F8 Ik q1 q2 q3;have SS:=F8.IN Ik hr7;have Qr:=F8.IN Ik ht7;have VG:=F8 _ _ VH HL;have Mu:IJ la wd:=λn e=>by have:=GV la n e;rw[B7.pa] at this;cases this
 have hS:De p R [] pa:=⟨hp,by omega,hR,by simp⟩
 obtain⟨dh,rfl⟩:=NS.head;clear GV B7 D7 VH hr7 ht7 F8 Ik;obtain⟨dx,hb8⟩:=B8.ob;have e0:ix (ws (kdOf dd)::dh) 0=some (ws (kdOf dd)):=mL (by decide) rfl;dsimp? [];cases ho:bR p R [] dd with
 | ok R'=>
  refine⟨p,r,t,R,[],dd,_,rfl,hp,⟨SS,Qr⟩,⟨hR,rfl⟩,NS,hO,λR2 sZ hRR r' M9 s9 hrn hr9=> ?_,λf sZ=>by rw[ho] at sZ;cases sZ⟩;have eR:R2=R':=by rw[ho] at sZ;cases sZ;rfl
  subst eR;have B9:=B8.sm s9;have SX:=s9 _ _ hb8;dsimp? [];refine⟨b,la,lu,lh,now,p,pa,un,he,R,[],dd,_,rfl,NS.sm s9,Mu,hO,B9,hS,λR3 ho3 Tb iz pg B10 Th y3 vq=> ?_,λf sZ=>by rw[ho] at sZ;cases sZ⟩;have eR:R3=R2:=by rw[ho] at ho3;cases ho3;rfl
  subst eR;dsimp? [];refine qq (d:= .tup [.str "", .dC]) (.inl rfl) (.inl rfl) (by decide) rfl ?_;have D10:=MX (A8 D8 s9) Th SX q1 q4;have VJ:=Th _ _ (s9 _ _ VG) (λz=>by subst z;have:=s9 _ _ VG;rw[SX] at this;cases this) q5.symm;have Qv:=Th.IN SX B9.pa hr9;have Qs:=Th.IN SX B9.pa (s9 _ _ Qr);obtain⟨Ku,abH⟩:=HJ ho y9;have q2':iz≠d:=λz=>by subst z;obtain⟨x,hx⟩:=A9 (A8 D8 s9);rw[hx] at y3;cases y3
  have fin: ∀ (o1 o2 o3:Option W),N [none,some (wr d),some (wi p),some (wr nl),some (wr b),some (.tup [wr r',wr t]),o1,o2,o3,none] Tb:=λo1 o2 o3=>hN _ _ ⟨o1,o2,o3,r',t,la,iz,lh,pg,pa++ [now],[],he,R3,rfl,B10,⟨D10,VJ⟩,⟨q1,q2',q3,q4,q5⟩,⟨Qv,Qs⟩,hRR.2 (by omega),⟨by omega,by rw[aH];simp;omega⟩,Ku⟩;have p_: ∀q':WK,q' (wb true) Tb ->uE A.aZ A.bE [wi p,wr b, .tup [wr r',wr t]] Tb q':=λq' hq=>⟨b,la,iz,lh,pg,r',t,p,_,[],he,R3,[],rfl,B10,⟨Qv,Qs⟩,hRR.2 (by omega),⟨rfl,Ku⟩,hq⟩
  dsimp? [e0];refine dF (λh=> ?_) λh=> ?_;dsimp? [cC,aL];refine p_ _ ?_;dsimp? [aL];exact fin _ _ _;dsimp? [];refine p_ _ ?_;dsimp? [aL];exact fin _ _ _
 | bad f=>
  refine⟨p,r,t,R,[],dd,_,rfl,hp,⟨SS,Qr⟩,⟨hR,rfl⟩,NS,hO,λR2 sZ=>(by rw[ho] at sZ;cases sZ),λf2 sZ=> ?_⟩;have ef:f2=f:=by rw[ho] at sZ;cases sZ;rfl
  subst ef;dsimp? [];refine⟨b,la,lu,lh,now,p,pa,un,he,R,[],dd,_,rfl,NS,Mu,hO,B8,hS,λR2 sZ=>(by rw[ho] at sZ;cases sZ),λf3 sZ=> ?_⟩;have ef:f3=f2:=by rw[ho] at sZ;cases sZ;rfl
  subst ef;dsimp? [];refine qq (d:= .tup [.str (ND f3), .dC]) (.inl rfl) (.inl rfl) (by simp[nG,i_]) rfl ?_;have fin: ∀ (o1 o2 o3:Option W),N [none,some (wr d),some (wi p),some (wr nl),some (wr b),some (.tup [wr r,wr t]),o1,o2,o3,none] M8:=λo1 o2 o3=>hN _ _ ⟨o1,o2,o3,r,t,la,lu,lh,now,pa,un,he,R,rfl,B8,⟨D8,VG⟩,⟨q1,q2,q3,q4,q5⟩,⟨SS,Qr⟩,hR,⟨by omega,by omega⟩,y9⟩;have p_: ∀q':WK,q' (wb true) M8 ->uE A.aZ A.bE [wi p,wr b, .tup [wr r,wr t]] M8 q':=λq' hq=>⟨b,la,lu,lh,now,r,t,p,pa,un,he,R,[],rfl,B8,⟨SS,Qr⟩,hR,⟨rfl,y9⟩,hq⟩
  have hfe:decide (ND f3=Str.ofString "")=false:=aQ (Pc f3);dsimp? [e0];refine dF (λh=> ?_) λh=> ?_;obtain⟨n,ds,rfl⟩:=Ih h;dsimp? [hfe,bv];refine⟨b,la,lu,lh,now,p,pa,un,he,R,[],n,ds,_,f3,rfl,NS,Mu,hO,B8,hS,ho,?_⟩;dsimp? [aL];refine p_ _ ?_;dsimp? [aL];exact fin _ _ _;dsimp? [];refine p_ _ ?_;dsimp? [aL];exact fin _ _ _
 rintro ρ M7 ⟨o1,o2,o3,r,t,la,lu,lh,now,pa,un,he,R,rfl,B7,_,_,_,_,_,_⟩;obtain⟨dx,hb7⟩:=B7.ob;dsimp? [hb7,xF];refine⟨b,la,lu,lh,now,p,pa,un,he,R,[],rfl,B7,?_⟩;dsimp? [];simp
end
end ed
namespace ed
open PySem L2 WL WQ PyProof.Rows
theorem walk {l:PySem.W.OpenLaw}{q:Program}{sS:List Str}{XP:(Str ->Option Value) ->Heap ->Prop}{YP:World ->Heap ->Prop}{d:DefRec}{K:Params ->PySem.W.Frag}(hn:l.most=some 63)(MJ:d.params.defaults= []) (hY: ∀ (w:World) (h:Heap),YP w h ->(K w.params).In h) (nm:d.name= "law") (F: ∀ (w:World) (mg:Str ->Option Value) (h:Heap),(K w.params).In h ->h.Ns mainGlobals mg -> ∃A,e8 (K w.params) mg A): PySem.W.WalkO q sS XP YP l.row.toRowW d [] (λf vs=>PySem.call f vs):=L2.G7 (n:=63) (k:=9) (x:= "_law_script") (CX:=λ_=>eE) (sp:=λw=>vO (K w.params)) hn (by decide) MJ ⟨rfl,by decide,by decide⟩ hY (λw mg fa h X G e=>(F w mg h X G).elim λ_ T=>Mc T.law (nm▸e) (λ_ _ _ _ _ _ _=>rfl) λ_=>L3 T) (λ_ _ a ns hl _ hS=>⟨a,ns,rfl,hS,λ_=>rfl⟩) λ_ _ _ _ _ z=>z
end ed
def PySem.W.Fast.tw17221222293152581307:Nat:=0
def PySem.W.Fast.tw9233159163681901860:Nat:=0
def PySem.W.Fast.tw7054904617341426948:Nat:=0
def PySem.W.Fast.tw9450905362081487465:Nat:=0
def PySem.W.Fast.tw13944117664305968798:Nat:=0
def PySem.W.Fast.tw7903532470391349922:Nat:=0
def PySem.W.Fast.tw4727314397808034896:Nat:=0
def PySem.W.Fast.tw12645614195306396956:Nat:=0
def PySem.W.Fast.tw15322682531491904457:Nat:=0
def PySem.W.Fast.tw16386670458509275933:Nat:=0
def PySem.W.Fast.tw10299817876440718052:Nat:=0
def PySem.W.Fast.tw10565465063426977548:Nat:=0
def PySem.W.Fast.tw2584283524414022638:Nat:=0
def PySem.W.Fast.tw1800421027160153238:Nat:=0
def PySem.W.Fast.tw9135639799632707313:Nat:=0
def PySem.W.Fast.tw2244822679660710462:Nat:=0
def PySem.W.Fast.tw201844606067113423:Nat:=0
def PySem.W.Fast.tw18078324163684124529:Nat:=0
def PySem.W.Fast.tw3123921666809844658:Nat:=0
def PySem.W.Fast.tw9777625372691391119:Nat:=0
def PySem.W.Fast.tw15566560845921720920:Nat:=0
def PySem.W.Fast.tw3914560648717453317:Nat:=0
def PySem.W.Fast.tw3691427962876737771:Nat:=0
def PySem.W.Fast.tw3329769956980824633:Nat:=0
def PySem.W.Fast.tw2522207084932544584:Nat:=0
def PySem.W.Fast.tw16404880696511922590:Nat:=0
def PySem.W.Fast.tw4130905954060515100:Nat:=0
def PySem.W.Fast.tw15719791955886280513:Nat:=0
def PySem.W.Fast.tw15232368678051943088:Nat:=0
def PySem.W.Fast.tw600109575960044839:Nat:=0
def PySem.W.Fast.tw8285921892623512864:Nat:=0
def PySem.W.Fast.tw6070043286080465980:Nat:=0
def PySem.W.Fast.tw8325542426887509749:Nat:=0
def PySem.W.Fast.tw1485280512277251445:Nat:=0
def PySem.W.Fast.tw11596189152724241273:Nat:=0
def PySem.W.Fast.tw666031604909483349:Nat:=0
def PySem.W.Fast.tw13546750450774669543:Nat:=0
def PySem.W.Fast.tw3032811635618035521:Nat:=0
def PySem.W.Fast.tw16150193754460277108:Nat:=0
def PySem.W.Fast.tw10584993265716957355:Nat:=0
def PySem.W.Fast.tw16496115817894288886:Nat:=0
def PySem.W.Fast.tw6599832831902069288:Nat:=0
def PySem.W.Fast.tw13179613858752407206:Nat:=0
def PySem.W.Fast.tw6011851953495286615:Nat:=0
def PySem.W.Fast.tw11812044215414328351:Nat:=0
def PySem.W.Fast.tw8130857794089367288:Nat:=0
def PySem.W.Fast.tw3696746983366907309:Nat:=0
def PySem.W.Fast.tw13940350726465764407:Nat:=0
def PySem.W.Fast.tw9972821609791466714:Nat:=0
def PySem.W.Fast.tw12225276046906033088:Nat:=0
def PySem.W.Fast.tw14409087717245909180:Nat:=0
def PySem.W.Fast.tw15947780485779884521:Nat:=0
def PySem.W.Fast.tw7951079359657450890:Nat:=0
def PySem.W.Fast.tw10950591809759663399:Nat:=0
def PySem.W.Fast.tw2480180834454044587:Nat:=0
def PySem.W.Fast.tw11935816321658932680:Nat:=0
def PySem.W.Fast.tw5787305349822706347:Nat:=0
def PySem.W.Fast.tw6371538057238786287:Nat:=0
def PySem.W.Fast.tw9251904550713980869:Nat:=0
def PySem.W.Fast.tw15730705750882212345:Nat:=0
def PySem.W.Fast.tw6105041349796004269:Nat:=0
def PySem.W.Fast.tw17001848302625211223:Nat:=0
def PySem.W.Fast.tw4125555606479676224:Nat:=0
def PySem.W.Fast.tw584100158524236771:Nat:=0
def PySem.W.Fast.tw3667403751122764564:Nat:=0
def PySem.W.Fast.tw15250737438398496761:Nat:=0
def PySem.W.Fast.tw14556838302470888660:Nat:=0
def PySem.W.Fast.tw8084590744729499749:Nat:=0
def PySem.W.Fast.tw14814373868684464818:Nat:=0
def PySem.W.Fast.tw1735686150558546737:Nat:=0
def PySem.W.Fast.tw5512956166839785027:Nat:=0
def PySem.W.Fast.tw10753085177638626839:Nat:=0
def PySem.W.Fast.tw7186297693505142877:Nat:=0
def PySem.W.Fast.tw1592379632046305090:Nat:=0
def PySem.W.Fast.tw17676679162535171028:Nat:=0
def PySem.W.Fast.tw14190687946635801444:Nat:=0
def PySem.W.Fast.tw5397714661965987105:Nat:=0
def PySem.W.Fast.tw6644137488298947540:Nat:=0
def PySem.W.Fast.tw4363058690289217442:Nat:=0
def PySem.W.Fast.tw16336725351421467904:Nat:=0
def PySem.W.Fast.tw11929025293271651592:Nat:=0
def PySem.W.Fast.tw13792888527610214581:Nat:=0
def PySem.W.Fast.tw13446439445568793070:Nat:=0
def PySem.W.Fast.tw9177997366083588778:Nat:=0
def PySem.W.Fast.tw9027213252011583829:Nat:=0
def PySem.W.Fast.tw2788068222554681095:Nat:=0
def PySem.W.Fast.tw9280743676561123324:Nat:=0
def PySem.W.Fast.tw5126472401049076265:Nat:=0
def PySem.W.Fast.tw12170922333960419437:Nat:=0
def PySem.W.Fast.tw4183961193717325802:Nat:=0
def PySem.W.Fast.tw1176504411338021834:Nat:=0
def PySem.W.Fast.tw18156588862333543106:Nat:=0
def PySem.W.Fast.tw14836201669096405052:Nat:=0
def PySem.W.Fast.tw4186391536155928016:Nat:=0
def PySem.W.Fast.tw14174362597923244189:Nat:=0
def PySem.W.Fast.tw1344484855739931193:Nat:=0
def PySem.W.Fast.tw12641670481839987268:Nat:=0
def PySem.W.Fast.tw573205279354810105:Nat:=0
def PySem.W.Fast.tw2665153279182248469:Nat:=0
def PySem.W.Fast.tw8936330486778844924:Nat:=0
def PySem.W.Fast.tw10544682511652779681:Nat:=0
def PySem.W.Fast.tw9849918734964716094:Nat:=0
def PySem.W.Fast.tw3034820532052506008:Nat:=0
def PySem.W.Fast.tw12621124862237498371:Nat:=0
def PySem.W.Fast.tw6713587647444750863:Nat:=0
def PySem.W.Fast.tw2009236593842782471:Nat:=0
def PySem.W.Fast.tw3320837150214874727:Nat:=0
def PySem.W.Fast.tw11100021674825391195:Nat:=0
def PySem.W.Fast.tw15656508850076002645:Nat:=0
def PySem.W.Fast.tw15069852276797923707:Nat:=0
def PySem.W.Fast.tw4405427296912364905:Nat:=0
def PySem.W.Fast.tw1527723146516911963:Nat:=0
def PySem.W.Fast.tw16870221915270426454:Nat:=0
def PySem.W.Fast.tw15952582066870238892:Nat:=0
def PySem.W.Fast.tw5980729247240325085:Nat:=0
def PySem.W.Fast.tw8143775424123404112:Nat:=0
def PySem.W.Fast.tw1820795344849718262:Nat:=0
def PySem.W.Fast.tw6160348151342342336:Nat:=0
def PySem.W.Fast.tw16967166298776376517:Nat:=0
def PySem.W.Fast.tw10885707262258280273:Nat:=0
def PySem.W.Fast.tw2554247929388273333:Nat:=0
def PySem.W.Fast.tw7781783316234111655:Nat:=0
def PySem.W.Fast.tw9342758881435059846:Nat:=0
def PySem.W.Fast.tw6348744472575477985:Nat:=0
def PySem.W.Fast.tw11942217111622225323:Nat:=0
def PySem.W.Fast.tw2111521256906885011:Nat:=0
def PySem.W.Fast.tw3598468064420548362:Nat:=0
def PySem.W.Fast.tw16758657079355694592:Nat:=0
def PySem.W.Fast.tw5485705465428317378:Nat:=0
def PySem.W.Fast.tw3100306022085872617:Nat:=0
def PySem.W.Fast.tw18432346295530918119:Nat:=0
def PySem.W.Fast.tw8349026053059192273:Nat:=0
def PySem.W.Fast.tw5337250054371398452:Nat:=0
def PySem.W.Fast.tw9872028465305600513:Nat:=0
def PySem.W.Fast.tw3288286298418263020:Nat:=0
def PySem.W.Fast.tw6904130677047245140:Nat:=0
def PySem.W.Fast.tw3170312925249870151:Nat:=0
def PySem.W.Fast.tw3810656495410162539:Nat:=0
def PySem.W.Fast.tw11601134056872085628:Nat:=0
def PySem.W.Fast.tw3744427124814794176:Nat:=0
def PySem.W.Fast.tw1394389441891469133:Nat:=0
def PySem.W.Fast.tw3383407446122450843:Nat:=0
def PySem.W.Fast.tw10661681423451738865:Nat:=0
def PySem.W.Fast.tw3877557577149705199:Nat:=0
def PySem.W.Fast.tw17326460402540690904:Nat:=0
def PySem.W.Fast.tw7275455328070645303:Nat:=0
def PySem.W.Fast.tw3359806003468860931:Nat:=0
def PySem.W.Fast.tw12885652176791973067:Nat:=0
def PySem.W.Fast.tw17119919158273173632:Nat:=0
def PySem.W.Fast.tw12584861946262346936:Nat:=0
def PySem.W.Fast.tw12822085319415547200:Nat:=0
def PySem.W.Fast.tw14580832388740899729:Nat:=0
def PySem.W.Fast.tw5042217635855089046:Nat:=0
def PySem.W.Fast.tw15775885348312556468:Nat:=0
def PySem.W.Fast.tw4588789908657771628:Nat:=0
def PySem.W.Fast.tw6488509689401455971:Nat:=0
def PySem.W.Fast.tw16205149288632499231:Nat:=0
def PySem.W.Fast.tw2598505133512372451:Nat:=0
def PySem.W.Fast.tw2224514653217449199:Nat:=0
def PySem.W.Fast.tw17640026125352158873:Nat:=0
def PySem.W.Fast.tw6142861979295329858:Nat:=0
def PySem.W.Fast.tw1414408436762026166:Nat:=0
def PySem.W.Fast.tw12057039617274025832:Nat:=0
def PySem.W.Fast.tw10175359594893895115:Nat:=0
def PySem.W.Fast.tw12801181489745058239:Nat:=0
def PySem.W.Fast.tw10244026421711646729:Nat:=0
def PySem.W.Fast.tw16286724618977567379:Nat:=0
def PySem.W.Fast.tw5036922394145835449:Nat:=0
def PySem.W.Fast.tw17748465193509870838:Nat:=0
def PySem.W.Fast.tw15983962704384311902:Nat:=0
def PySem.W.Fast.tw14778771366559204787:Nat:=0
def PySem.W.Fast.tw13076169015738271013:Nat:=0
def PySem.W.Fast.tw1503490617750148359:Nat:=0
def PySem.W.Fast.tw13487168372849041748:Nat:=0
def PySem.W.Fast.tw4664489424330272724:Nat:=0
def PySem.W.Fast.tw9374446365199210258:Nat:=0
def PySem.W.Fast.tw2862952196043625022:Nat:=0
def PySem.W.Fast.tw4121127909485612501:Nat:=0
def PySem.W.Fast.tw4842206477114200423:Nat:=0
def PySem.W.Fast.tw3747649686780262496:Nat:=0
def PySem.W.Fast.tw16755214902934388925:Nat:=0
def PySem.W.Fast.tw3565873076260840726:Nat:=0
def PySem.W.Fast.tw16618719578591586304:Nat:=0
def PySem.W.Fast.tw10984615336849497839:Nat:=0
def PySem.W.Fast.tw6921600102221344675:Nat:=0
def PySem.W.Fast.tw10953954344726442324:Nat:=0
def PySem.W.Fast.tw3069500654497686436:Nat:=0
def PySem.W.Fast.tw10815462272508931120:Nat:=0
def PySem.W.Fast.tw14317352443330331948:Nat:=0
def PySem.W.Fast.tw13709336227110777779:Nat:=0
def PySem.W.Fast.tw6216895869847676276:Nat:=0
def PySem.W.Fast.tw1068189623271135212:Nat:=0
def PySem.W.Fast.tw5741275211941661287:Nat:=0
def PySem.W.Fast.tw5716771542967202714:Nat:=0
def PySem.W.Fast.tw16071694150360702686:Nat:=0
def PySem.W.Fast.tw15631438142860173905:Nat:=0
def PySem.W.Fast.tw14636686982817514799:Nat:=0
def PySem.W.Fast.tw3755186541793163700:Nat:=0
def PySem.W.Fast.tw7496938599728987897:Nat:=0
def PySem.W.Fast.tw1887691392896588096:Nat:=0
def PySem.W.Fast.tw5733890718753991704:Nat:=0
def PySem.W.Fast.tw9561645584728420135:Nat:=0
def PySem.W.Fast.tw6230745016412224704:Nat:=0
def PySem.W.Fast.tw9614846002488852927:Nat:=0
def PySem.W.Fast.tw16110869878851485271:Nat:=0
def PySem.W.Fast.tw18429324117527181521:Nat:=0
def PySem.W.Fast.tw8402231468931135974:Nat:=0
def PySem.W.Fast.tw14972718502436983623:Nat:=0
def PySem.W.Fast.tw4085929170547188173:Nat:=0
def PySem.W.Fast.tw16118362124816816782:Nat:=0
def PySem.W.Fast.tw4331558229749623267:Nat:=0
def PySem.W.Fast.tw11920212138808620126:Nat:=0
def PySem.W.Fast.tw12385774148224738005:Nat:=0
def PySem.W.Fast.tw3893017060370277056:Nat:=0
def PySem.W.Fast.tw1420387805649882305:Nat:=0
def PySem.W.Fast.tw10042430559251636283:Nat:=0
def PySem.W.Fast.tw1827634627233620678:Nat:=0
def PySem.W.Fast.tw17810306162912296221:Nat:=0
def PySem.W.Fast.tw2189851425454096030:Nat:=0
def PySem.W.Fast.tw1737705819838366590:Nat:=0
def PySem.W.Fast.tw6439158596509045066:Nat:=0
def PySem.W.Fast.tw5768977737973154627:Nat:=0
def PySem.W.Fast.tw9673220460911840101:Nat:=0
def PySem.W.Fast.tw16196237384870454952:Nat:=0
def PySem.W.Fast.tw11928317467441165280:Nat:=0
def PySem.W.Fast.tw17048969191216866508:Nat:=0
def PySem.W.Fast.tw2438414754471448537:Nat:=0
def PySem.W.Fast.tw15691478051101204362:Nat:=0
def PySem.W.Fast.tw16336512123869445402:Nat:=0
def PySem.W.Fast.tw10621441438320538188:Nat:=0
def PySem.W.Fast.tw9035245659359356300:Nat:=0
def PySem.W.Fast.tw5426603320224370971:Nat:=0
def PySem.W.Fast.tw1727009283762782964:Nat:=0
def PySem.W.Fast.tw9059103864142788060:Nat:=0
def PySem.W.Fast.tw4656761343006391457:Nat:=0
def PySem.W.Fast.tw5094508793391985382:Nat:=0
def PySem.W.Fast.tw5866409634650369560:Nat:=0
def PySem.W.Fast.tw3157367620798557719:Nat:=0
def PySem.W.Fast.tw14234360807457314709:Nat:=0
def PySem.W.Fast.tw15481419134399094708:Nat:=0
def PySem.W.Fast.tw13802151852062432985:Nat:=0
def PySem.W.Fast.tw13274353197877202930:Nat:=0
def PySem.W.Fast.tw8749615047609905877:Nat:=0
def PySem.W.Fast.tw11764413444016920531:Nat:=0
def PySem.W.Fast.tw14165523235142359746:Nat:=0
def PySem.W.Fast.tw11057812735027995025:Nat:=0
def PySem.W.Fast.tw17854034664668465081:Nat:=0
def PySem.W.Fast.tw3238305864283712235:Nat:=0
def PySem.W.Fast.tw12684907160372614134:Nat:=0
def PySem.W.Fast.tw743172307904022955:Nat:=0
def PySem.W.Fast.tw7566696152271077738:Nat:=0
open PySem PySem.W PyProof.Rows L2
set_option maxRecDepth 100000 in
set_option maxHeartbeats 0 in
theorem PySem.Challenge.cw_duskround_k44_rounds_of_a_book_holds : PySem.Challenge.rw_duskround_k44_rounds_of_a_book.Holds := by
 w_on;o_law;k_head;(case hw=>w_witness2)
 k_fill
 refine ed.walk (l:=PySem.Challenge.rw_duskround_k44_rounds_of_a_book) rfl rfl (λw h Y=>PySem.W.kIn_of Y) rfl λw mg h X G=> ?_
 have' Nk:=bS (x:= "tidy") (ps:= ["p","pairs"]) (st:=ed.yt) X G ?g13 ?g14 ?g15 ?g16;(case g13 | g14 | g15 | g16=>k_is);have' Jl:=bS (x:= "added") (ps:= ["p","one","other"]) (st:=ed.Aa) X G ?g17 ?g18 ?g19 ?g20;(case g17 | g18 | g19 | g20=>k_is);have' Jg:=bS (x:= "moved") (ps:= ["pattern","by"]) (st:=ed.ul) X G ?g21 ?g22 ?g23 ?g24;(case g21 | g22 | g23 | g24=>k_is);have' Jf:=bS (x:= "timed") (ps:= ["p","pattern","n"]) (st:=ed.uk) X G ?g25 ?g26 ?g27 ?g28;(case g25 | g26 | g27 | g28=>k_is);have' Nl:=bS (x:= "gone") (ps:= ["p","deeds"]) (st:=ed.yu) X G ?g29 ?g30 ?g31 ?g32;(case g29 | g30 | g31 | g32=>k_is);have' GA:=bS (x:= "joined") (ps:= ["p","one","other"]) (st:=ed.vY) X G ?g33 ?g34 ?g35 ?g36;(case g33 | g34 | g35 | g36=>k_is);have' zB:=bS (x:= "backward") (ps:= ["p","one"]) (st:=ed.qd) X G ?g37 ?g38 ?g39 ?g40;(case g37 | g38 | g39 | g40=>k_is);have' zy:=bS (x:= "repeated") (ps:= ["p","one","n"]) (st:=ed.gb) X G ?g41 ?g42 ?g43 ?g44;(case g41 | g42 | g43 | g44=>k_is);have' sq:=bS (x:= "lies_within") (ps:= ["one","farthest_end","farthest_place"]) (st:=ed.gJ) X G ?g45 ?g46 ?g47 ?g48;(case g45 | g46 | g47 | g48=>k_is);have' xR:=bS (x:= "fits_crew") (ps:= ["one"]) (st:=ed.nV) X G ?g49 ?g50 ?g51 ?g52;(case g49 | g50 | g51 | g52=>k_is);have' vh:=bS (x:= "check_name") (ps:= ["name"]) (st:=ed.iD) X G ?g53 ?g54 ?g55 ?g56;(case g53 | g54 | g55 | g56=>k_is);have' vf:=bS (x:= "with_thing") (ps:= ["things","name","thing"]) (st:=ed.lF) X G ?g57 ?g58 ?g59 ?g60;(case g57 | g58 | g59 | g60=>k_is);have' C2:=bS (x:= "without") (ps:= ["things","name"]) (st:=ed.sI) X G ?g61 ?g62 ?g63 ?g64;(case g61 | g62 | g63 | g64=>k_is);have' zC:=FZ (x:= "Page") (ps:= ["self","rounds","teams"]) (st:=ed.Eg) X G ?g65 ?g66 ?g67 ?g68 ?g69 ?g70 ?g71 ?g72 ?g73 ?g74 ?g75 ?g76;(case g65 | g66 | g67 | g68 | g69 | g70 | g71 | g72 | g73 | g74 | g75 | g76=>k_is);have' cK:=FZ (x:= "Book") (ps:= ["self","p"]) (st:=ed.Eh) X G ?g77 ?g78 ?g79 ?g80 ?g81 ?g82 ?g83 ?g84 ?g85 ?g86 ?g87 ?g88;(case g77 | g78 | g79 | g80 | g81 | g82 | g83 | g84 | g85 | g86 | g87 | g88=>k_is);have' px:=dk (m:= "settings") (ps:= ["self"]) (st:=ed.iR) cK ?g89 ?g90 ?g91 ?g92 ?g93;(case g89 | g90 | g91 | g92 | g93=>k_is);have' rg:=dk (m:= "turn_to") (ps:= ["self","page"]) (st:=ed.jo) cK ?g94 ?g95 ?g96 ?g97 ?g98;(case g94 | g95 | g96 | g97 | g98=>k_is);have' zD:=dk (m:= "put") (ps:= ["self","name","one"]) (st:=ed.lc) cK ?g99 ?g100 ?g101 ?g102 ?g103;(case g99 | g100 | g101 | g102 | g103=>k_is);have' pz:=dk (m:= "put_team") (ps:= ["self","crew","team"]) (st:=ed.iS) cK ?g104 ?g105 ?g106 ?g107 ?g108;(case g104 | g105 | g106 | g107 | g108=>k_is);have' pA:=dk (m:= "enlisted") (ps:= ["self","name"]) (st:=ed.iT) cK ?g109 ?g110 ?g111 ?g112 ?g113;(case g109 | g110 | g111 | g112 | g113=>k_is);have' xU:=dk (m:= "team") (ps:= ["self","crew"]) (st:=ed.jq) cK ?g114 ?g115 ?g116 ?g117 ?g118;(case g114 | g115 | g116 | g117 | g118=>k_is);have' xT:=dk (m:= "tell") (ps:= ["self","name","deeds"]) (st:=ed.jp) cK ?g119 ?g120 ?g121 ?g122 ?g123;(case g119 | g120 | g121 | g122 | g123=>k_is);have' rj:=dk (m:= "join_as") (ps:= ["self","name","one","other"]) (st:=ed.gd) cK ?g124 ?g125 ?g126 ?g127 ?g128;(case g124 | g125 | g126 | g127 | g128=>k_is);have' rq:=dk (m:= "back_as") (ps:= ["self","name","one"]) (st:=ed.ge) cK ?g129 ?g130 ?g131 ?g132 ?g133;(case g129 | g130 | g131 | g132 | g133=>k_is);have' pq:=dk (m:= "times_as") (ps:= ["self","name","one","n"]) (st:=ed.fG) cK ?g134 ?g135 ?g136 ?g137 ?g138;(case g134 | g135 | g136 | g137 | g138=>k_is);have' xX:=dk (m:= "drop") (ps:= ["self","name"]) (st:=ed.jr) cK ?g139 ?g140 ?g141 ?g142 ?g143;(case g139 | g140 | g141 | g142 | g143=>k_is);have' vj:=dk (m:= "found") (ps:= ["self","crew"]) (st:=ed.lJ) cK ?g144 ?g145 ?g146 ?g147 ?g148;(case g144 | g145 | g146 | g147 | g148=>k_is);have' rn:=dk (m:= "disband") (ps:= ["self","crew"]) (st:=ed.ju) cK ?g149 ?g150 ?g151 ?g152 ?g153;(case g149 | g150 | g151 | g152 | g153=>k_is);have' su:=dk (m:= "enlist") (ps:= ["self","crew","name"]) (st:=ed.kQ) cK ?g154 ?g155 ?g156 ?g157 ?g158;(case g154 | g155 | g156 | g157 | g158=>k_is);have' rm:=dk (m:= "dismiss") (ps:= ["self","crew","name"]) (st:=ed.jt) cK ?g159 ?g160 ?g161 ?g162 ?g163;(case g159 | g160 | g161 | g162 | g163=>k_is);have' xS:=dk (m:= "undo") (ps:= ["self"]) (st:=ed.nY) cK ?g164 ?g165 ?g166 ?g167 ?g168;(case g164 | g165 | g166 | g167 | g168=>k_is);have' xV:=dk (m:= "redo") (ps:= ["self"]) (st:=ed.nZ) cK ?g169 ?g170 ?g171 ?g172 ?g173;(case g169 | g170 | g171 | g172 | g173=>k_is);have' xW:=dk (m:= "hold") (ps:= ["self"]) (st:=ed.n6) cK ?g174 ?g175 ?g176 ?g177 ?g178;(case g174 | g175 | g176 | g177 | g178=>k_is);have' nN:=dk (m:= "return_to") (ps:= ["self","k"]) (st:=ed.gZ) cK ?g179 ?g180 ?g181 ?g182 ?g183;(case g179 | g180 | g181 | g182 | g183=>k_is);have' vi:=dk (m:= "names") (ps:= ["self"]) (st:=ed.lI) cK ?g184 ?g185 ?g186 ?g187 ?g188;(case g184 | g185 | g186 | g187 | g188=>k_is);have' vk:=dk (m:= "crews") (ps:= ["self"]) (st:=ed.lK) cK ?g189 ?g190 ?g191 ?g192 ?g193;(case g189 | g190 | g191 | g192 | g193=>k_is);have' py:=dk (m:= "round_of") (ps:= ["self","name"]) (st:=ed.fH) cK ?g194 ?g195 ?g196 ?g197 ?g198;(case g194 | g195 | g196 | g197 | g198=>k_is);have' rh:=dk (m:= "members") (ps:= ["self","crew"]) (st:=ed.gc) cK ?g199 ?g200 ?g201 ?g202 ?g203;(case g199 | g200 | g201 | g202 | g203=>k_is);have' C6:=bS (x:= "_law_begin") (ps:= ["_law_script"]) (st:=ed.mZ) X G ?g204 ?g205 ?g206 ?g207;(case g204 | g205 | g206 | g207=>k_is);have' Gv:=bS (x:= "_law_take") (ps:= ["_law_draw","_law_many"]) (st:=ed.vT) X G ?g208 ?g209 ?g210 ?g211;(case g208 | g209 | g210 | g211=>k_is);have' Rx:=bS (x:= "_law_p") (ps:= ["_law_draw"]) (st:=ed.JS) X G ?g212 ?g213 ?g214 ?g215;(case g212 | g213 | g214 | g215=>k_is);have' C5:=bS (x:= "_law_names") (ps:= ["_law_draw","_law_many"]) (st:=ed.sL) X G ?g216 ?g217 ?g218 ?g219;(case g216 | g217 | g218 | g219=>k_is);have' Gu:=bS (x:= "_law_tidy") (ps:= ["_law_p_here","_law_pairs"]) (st:=ed.vS) X G ?g220 ?g221 ?g222 ?g223;(case g220 | g221 | g222 | g223=>k_is);have' Jh:=bS (x:= "_law_sum") (ps:= ["_law_p_here","_law_one","_law_other","_law_by","_law_many"]) (st:=ed.z7) X G ?g224 ?g225 ?g226 ?g227;(case g224 | g225 | g226 | g227=>k_is);have' Gx:=bS (x:= "_law_join") (ps:= ["_law_p_here","_law_one","_law_other"]) (st:=ed.vV) X G ?g228 ?g229 ?g230 ?g231;(case g228 | g229 | g230 | g231=>k_is);have' Gz:=bS (x:= "_law_back") (ps:= ["_law_p_here","_law_one"]) (st:=ed.vX) X G ?g232 ?g233 ?g234 ?g235;(case g232 | g233 | g234 | g235=>k_is);have' C4:=bS (x:= "_law_times") (ps:= ["_law_p_here","_law_one","_law_n"]) (st:=ed.sK) X G ?g236 ?g237 ?g238 ?g239;(case g236 | g237 | g238 | g239=>k_is);have' xQ:=bS (x:= "_law_is_name") (ps:= ["_law_name"]) (st:=ed.nT) X G ?g240 ?g241 ?g242 ?g243;(case g240 | g241 | g242 | g243=>k_is);have' Jk:=bS (x:= "_law_far") (ps:= ["_law_one","_law_most","_law_reach"]) (st:=ed.z_) X G ?g244 ?g245 ?g246 ?g247;(case g244 | g245 | g246 | g247=>k_is);have' Gs:=bS (x:= "_law_walk") (ps:= ["_law_p_here","_law_deeds"]) (st:=ed.vR) X G ?g248 ?g249 ?g250 ?g251;(case g248 | g249 | g250 | g251=>k_is);have' C3:=bS (x:= "_law_value") (ps:= ["_law_p_here","_law_rounds","_law_deed"]) (st:=ed.sJ) X G ?g252 ?g253 ?g254 ?g255;(case g252 | g253 | g254 | g255=>k_is);have' sr:=bS (x:= "_law_due_round") (ps:= ["_law_p_here","_law_stand","_law_deed"]) (st:=ed.kP) X G ?g256 ?g257 ?g258 ?g259;(case g256 | g257 | g258 | g259=>k_is);have' Ji:=bS (x:= "_law_run") (ps:= ["_law_book","_law_deed"]) (st:=ed.uo) X G ?g260 ?g261 ?g262 ?g263;(case g260 | g261 | g262 | g263=>k_is);have' Gy:=bS (x:= "_law_call") (ps:= ["_law_book","_law_deed"]) (st:=ed.vW) X G ?g264 ?g265 ?g266 ?g267;(case g264 | g265 | g266 | g267=>k_is);have' Jj:=bS (x:= "_law_int") (ps:= ["_law_thing"]) (st:=ed.z8) X G ?g268 ?g269 ?g270 ?g271;(case g268 | g269 | g270 | g271=>k_is);have' re:=bS (x:= "_law_is_pattern") (ps:= ["_law_p_here","_law_thing"]) (st:=ed.jl) X G ?g272 ?g273 ?g274 ?g275;(case g272 | g273 | g274 | g275=>k_is);have' vg:=bS (x:= "_law_is_round") (ps:= ["_law_p_here","_law_thing"]) (st:=ed.lH) X G ?g276 ?g277 ?g278 ?g279;(case g276 | g277 | g278 | g279=>k_is);have' zA:=bS (x:= "_law_stands") (ps:= ["_law_p_here","_law_book","_law_stand"]) (st:=ed.qc) X G ?g280 ?g281 ?g282 ?g283;(case g280 | g281 | g282 | g283=>k_is);have' rf:=bS (x:= "_law_draw_deeds") (ps:= ["_law_draw"]) (st:=ed.jm) X G ?g284 ?g285 ?g286 ?g287;(case g284 | g285 | g286 | g287=>k_is);have' zz:=bS (x:= "_law_target") (ps:= ["_law_draw","_law_names_here"]) (st:=ed.qb) X G ?g288 ?g289 ?g290 ?g291;(case g288 | g289 | g290 | g291=>k_is);have' rc:=bS (x:= "_law_round_deed") (ps:= ["_law_draw","_law_names_here"]) (st:=ed.jk) X G ?g292 ?g293 ?g294 ?g295;(case g292 | g293 | g294 | g295=>k_is);have' Gw:=bS (x:= "_law_left") (ps:= ["_law_book","_law_deed"]) (st:=ed.vU) X G ?g296 ?g297 ?g298 ?g299;(case g296 | g297 | g298 | g299=>k_is);have' Rw:=bS (x:= "law") (ps:= ["_law_script"]) (st:=ed.Ef) X G ?g300 ?g301 ?g302 ?g303;(case g300 | g301 | g302 | g303=>k_is);have' xK:=qt cK "held" ?n_Book_held;(case n_Book_held=>k_is);have' zu:=qt cK "now" ?n_Book_now;(case n_Book_now=>k_is);have' Gm:=qt cK "p" ?n_Book_p;(case n_Book_p=>k_is);have' xJ:=qt cK "past" ?n_Book_past;(case n_Book_past=>k_is);have' si:=qt cK "undone" ?n_Book_undone;(case n_Book_undone=>k_is);have' sf:=qt zC "rounds" ?n_Page_rounds;(case n_Page_rounds=>k_is);have' vd:=qt zC "teams" ?n_Page_teams;(case n_Page_teams=>k_is);have' C1:=gl (x:= "BadName") X G ?g312;(case g312=>k_is);have' Jd:=gl (x:= "InUse") X G ?g313;(case g313=>k_is);have' Gr:=gl (x:= "NoCrew") X G ?g314;(case g314=>k_is);have' Gq:=gl (x:= "NoDeed") X G ?g315;(case g315=>k_is);have' Gp:=gl (x:= "NoMore") X G ?g316;(case g316=>k_is);have' C0:=gl (x:= "NoRound") X G ?g317;(case g317=>k_is);have' CZ:=gl (x:= "NoState") X G ?g318;(case g318=>k_is);have' sj:=gl (x:= "StreetError") X G ?g319;(case g319=>k_is);have' Jc:=gl (x:= "Taken") X G ?g320;(case g320=>k_is);have' Go:=gl (x:= "TooFar") X G ?g321;(case g321=>k_is);have' CY:=gl (x:= "TooMany") X G ?g322;(case g322=>k_is);have' C_:=f9 (x:= "BadName") X ?g323 ?g324 ?g325 ?g326 ?g327 ?g328 ?g329 ?g330;(case g323=>k_is);(case g324=>k_exc);(case g325 | g326 | g327 | g328 | g329 | g330=>k_is);have' Jn:=f9 (x:= "InUse") X ?g331 ?g332 ?g333 ?g334 ?g335 ?g336 ?g337 ?g338;(case g331=>k_is);(case g332=>k_exc);(case g333 | g334 | g335 | g336 | g337 | g338=>k_is);have' GF:=f9 (x:= "NoCrew") X ?g339 ?g340 ?g341 ?g342 ?g343 ?g344 ?g345 ?g346;(case g339=>k_is);(case g340=>k_exc);(case g341 | g342 | g343 | g344 | g345 | g346=>k_is);have' GD:=f9 (x:= "NoDeed") X ?g347 ?g348 ?g349 ?g350 ?g351 ?g352 ?g353 ?g354;(case g347=>k_is);(case g348=>k_exc);(case g349 | g350 | g351 | g352 | g353 | g354=>k_is);have' GC:=f9 (x:= "NoMore") X ?g355 ?g356 ?g357 ?g358 ?g359 ?g360 ?g361 ?g362;(case g355=>k_is);(case g356=>k_exc);(case g357 | g358 | g359 | g360 | g361 | g362=>k_is);have' C9:=f9 (x:= "NoRound") X ?g363 ?g364 ?g365 ?g366 ?g367 ?g368 ?g369 ?g370;(case g363=>k_is);(case g364=>k_exc);(case g365 | g366 | g367 | g368 | g369 | g370=>k_is);have' C8:=f9 (x:= "NoState") X ?g371 ?g372 ?g373 ?g374 ?g375 ?g376 ?g377 ?g378;(case g371=>k_is);(case g372=>k_exc);(case g373 | g374 | g375 | g376 | g377 | g378=>k_is);have' sv:=f9 (x:= "StreetError") X ?g379 ?g380 ?g381 ?g382 ?g383 ?g384 ?g385 ?g386;(case g379=>k_is);(case g380=>k_exc);(case g381 | g382 | g383 | g384 | g385 | g386=>k_is);have' Jm:=f9 (x:= "Taken") X ?g387 ?g388 ?g389 ?g390 ?g391 ?g392 ?g393 ?g394;(case g387=>k_is);(case g388=>k_exc);(case g389 | g390 | g391 | g392 | g393 | g394=>k_is);have' GB:=f9 (x:= "TooFar") X ?g395 ?g396 ?g397 ?g398 ?g399 ?g400 ?g401 ?g402;(case g395=>k_is);(case g396=>k_exc);(case g397 | g398 | g399 | g400 | g401 | g402=>k_is);have' C7:=f9 (x:= "TooMany") X ?g403 ?g404 ?g405 ?g406 ?g407 ?g408 ?g409 ?g410;(case g403=>k_is);(case g404=>k_exc);(case g405 | g406 | g407 | g408 | g409 | g410=>k_is)
 refine' ⟨⟨_,_,_,_,_,_,_,_,_,_,_,_,_,_,_,_,_,_,_,_,_,_,_,_,_,_,_,_,_,_,_,_,_,_,_,_,_,_,_,_,_,_,_,_,_,_,_,_,_,_,_,_,_,_,_,_,_,_,_,_,_,_,_,_,_,_,_,_,_,_,_,_,_,_,_,_,_,_,_,_,_,_,_,_,_,_,_,_,_,_,_,_,_,_,_,_,_,_,_,_,_,_,_,_,_,_,_,_,_,_,_,_,_,_,_,_,_,_,_,_,_,_,_,_,_,_,_,_,_,_,_,_,_,_,_,_,_,_,_⟩,bL X G ?g1,bL X G ?g2,bL X G ?g3,bL X G ?g4,bL X G ?g5,bL X G ?g6,bL X G ?g7,bL X G ?g8,bL X G ?g9,bL X G ?g10,bL X G ?g11,bL X G ?g12,Nk,Jl,Jg,Jf,Nl,GA,zB,zy,sq,xR,vh,vf,C2,zC,cK,px,rg,zD,pz,pA,xU,xT,rj,rq,pq,xX,vj,rn,su,rm,xS,xV,xW,nN,vi,vk,py,rh,C6,Gv,Rx,C5,Gu,Jh,Gx,Gz,C4,xQ,Jk,Gs,C3,sr,Ji,Gy,Jj,re,vg,zA,rf,zz,rc,Gw,Rw,xK,zu,Gm,xJ,si,sf,vd,qA X G ?g304,qA X G ?g305,qA X G ?g306,qA X G ?g307,qA X G ?g308,Ll X G ?g309,Ld X G ?g310 ?g311,C1,Jd,Gr,Gq,Gp,C0,CZ,sj,Jc,Go,CY,C_,Jn,GF,GD,GC,C9,C8,sv,Jm,GB,C7,?g411,?g412,?g413,?g414,?g415,?g416,?g417,?g418,?g419,?g420,?g421,?g422,?g423,?g424,?g425,?g426,?g427,?g428⟩
 (case g1 | g2 | g3 | g4 | g5 | g6 | g7 | g8 | g9 | g10 | g11 | g12 | g304 | g305 | g306 | g307 | g308 | g309 | g310 | g311=>k_is);(case g411 | g412 | g413 | g414 | g415 | g416 | g417 | g418 | g419 | g420 | g421 | g422 | g423 | g424 | g425 | g426 | g427 | g428=>kit_is)
