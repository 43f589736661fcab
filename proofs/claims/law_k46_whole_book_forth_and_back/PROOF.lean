import PyProof.Rows.All
import Wide.All
import OpenK.AllK
import Wide.FinOn
import Lean
import PyProof.EqAt
import PyProof.EqKinds
import PyProof.TupleCall
import PyProof.NeKinds
import PyProof.SumAny
import PyProof.ConsumeS
import PyProof.WalkInts
import PyProof.Draws
import PyProof.EnumMake
import PyProof.Rows.Range3
import PyProof.MeetsStr
import KE.KDictLaws
import PyProof.Rows.CallKwBuiltin
import PyProof.DictItems
import KE.KPairComp
import PyProof.AttrMissHeap
import KE.KDictOf
import KE.KItemsList
import KE.KTryMore
import PyProof.StrBlockG
import PyProof.StrWalks
import PyProof.Rows.SortStr
import PyProof.Rows.SortKeyStr
import PySem.Challenge.RW_duskround_k46_whole_book_forth_and_back
set_option linter.all false
set_option genSizeOf false
set_option genInjectivity false
abbrev cA:=@List
abbrev c7:=@PySem.Value
abbrev dz:=@PySem.Shared
abbrev e9:=@Option
abbrev fP:=@PySem.Addr
abbrev gG:=@PyProof.Rows.Keyed
abbrev gH:=@Array
abbrev WV:=@PySem.W.Frag
abbrev WW:=@PyProof.Rows.SortSt
def af:=@List.length_map
def ak:=@if_neg
def ao:=@if_pos
def aq:=@Nat.le_refl
def ar:=@Nat.le_trans
def au:=@eq_true
def av:=@PySem.Heap.get?_push_of_some
def aw:=@PyProof.Rows.wpS_bind
def az:=@PySem.wpAny_bind
def aA:=@List.map_append
def aB:=@List.length_cons
def aC:=@Bool.false_eq_true
def aD:=@List.length_append
def aF:=@decide_eq_false
def aG:=@Bool.not_true
def aH:=@PyProof.Rows.wpS_pure
def aI:=@List.getElem?_map
def aL:=@PySem.F.plainAttrs_list
def aM:=@List.size_toArray
def aN:=@List.map_cons
def aO:=@List.getElem?_eq_getElem
def aR:=@PySem.Heap.lt_size
def aT:=@List.mem_cons
def aU:=@Bool.not_false
def aV:=@List.mem_of_getElem?
def aY:=@List.mem_append_right
def aZ:=@List.map_map
def a4:=@PySem.Heap.get?_push_size
def a6:=@decide_eq_true
def a9:=@List.mem_append
def a_:=@PySem.wpAny_pure
def be:=@List.mem_singleton
def bf:=@List.getElem?_append_right
def bj:=@Bool.false_ne_true
def bn:=@List.getElem?_append_left
def br:=@PySem.F.type_list_append
def bt:=@PySem.F.slot_list_append
def bu:=@Option.some.inj
def bv:=@List.getElem?_eq_some_iff
def bx:=@Nat.lt_of_lt_of_le
def bA:=@Nat.ne_of_lt
def bB:=@Option.map_some
def bC:=@if_false
def bE:=@PySem.wpAny_mono
def bG:=@List.take_append_drop
def bI:=@decide_true
def bP:=@List.length_take
def bQ:=@List.append_assoc
def bR:=@PySem.W.mg_none_of
def bS:=@Array.toList_append
def bW:=@Option.isSome_map
def bX:=@List.mem_map
def bZ:=@List.pairwise_cons
def b0:=@if_true
def cj:=@Option.isSome_some
def cq:=@PySem.wpAny_truthy_bool
def cx:=@PyProof.Rows.wpS_forRange
def cy:=@PySem.W.kia_one
def cz:=@Bool.and_eq_true
def cD:=@List.take_add_one
def cJ:=@List.find?_cons
def cP:=@List.take_length
def cR:=@PySem.sizeLine_eq
def cT:=@PySem.PassesOwn.never
def c6:=@PySem.F.slot_str_join
def db:=@Option.isSome_none
def de:=@Nat.zero_le
def df:=@List.pairwise_append
def dg:=@List.mem_cons_of_mem
def dh:=@List.getElem?_replicate
def dq:=@decide_eq_true_eq
def dt:=@PySem.F.plainAttrs_str
def du:=@Ne.symm
def dA:=@PySem.mem_of_lookup
def dB:=@List.map_congr_left
def dD:=@Array.length_toList
def dI:=@List.append_nil
def dN:=@PySem.F.type_str_join
def dO:=@List.perm_append_comm
inductive cg {T0 T1:Type}(P:T0 ->T1 ->Prop):Prop | mk (x0:T0) (x1:T1) (h:P x0 x1):cg P
inductive eQ {T0 T1 T2:Type}(P:T0 ->T1 ->T2 ->Prop):Prop | mk (x0:T0) (x1:T1) (x2:T2) (h:P x0 x1 x2):eQ P
inductive fY {T0 T1 T2 T3:Type}(P:T0 ->T1 ->T2 ->T3 ->Prop):Prop | mk (x0:T0) (x1:T1) (x2:T2) (x3:T3) (h:P x0 x1 x2 x3):fY P
inductive sO {T0 T1 T2 T3 T4:Type}(P:T0 ->T1 ->T2 ->T3 ->T4 ->Prop):Prop | mk (x0:T0) (x1:T1) (x2:T2) (x3:T3) (x4:T4) (h:P x0 x1 x2 x3 x4):sO P
inductive UE {T0 T1 T2 T3 T4 T5:Type}(P:T0 ->T1 ->T2 ->T3 ->T4 ->T5 ->Prop):Prop | mk (x0:T0) (x1:T1) (x2:T2) (x3:T3) (x4:T4) (x5:T5) (h:P x0 x1 x2 x3 x4 x5):UE P
inductive ZO {T0 T1 T2 T3 T4 T5 T6:Type}(P:T0 ->T1 ->T2 ->T3 ->T4 ->T5 ->T6 ->Prop):Prop | mk (x0:T0) (x1:T1) (x2:T2) (x3:T3) (x4:T4) (x5:T5) (x6:T6) (h:P x0 x1 x2 x3 x4 x5 x6):ZO P
inductive ZN {T0 T1 T2 T3 T4 T5 T6 T7:Type}(P:T0 ->T1 ->T2 ->T3 ->T4 ->T5 ->T6 ->T7 ->Prop):Prop | mk (x0:T0) (x1:T1) (x2:T2) (x3:T3) (x4:T4) (x5:T5) (x6:T6) (x7:T7) (h:P x0 x1 x2 x3 x4 x5 x6 x7):ZN P
inductive cW (P0 P1 P2:Prop):Prop | mk (Xw:P0) (Xv:P1) (Xu:P2):cW P0 P1 P2
inductive fj (P0 P1 P2 P3:Prop):Prop | mk (Xw:P0) (Xv:P1) (Xu:P2) (ZF:P3):fj P0 P1 P2 P3
inductive gm (P0 P1 P2 P3 P4:Prop):Prop | mk (Xw:P0) (Xv:P1) (Xu:P2) (ZF:P3) (hP4:P4):gm P0 P1 P2 P3 P4
inductive lm (P0 P1 P2 P3 P4 P5:Prop):Prop | mk (Xw:P0) (Xv:P1) (Xu:P2) (ZF:P3) (hP4:P4) (hP5:P5):lm P0 P1 P2 P3 P4 P5
inductive Ld (P0 P1 P2 P3 P4 P5 P6:Prop):Prop | mk (Xw:P0) (Xv:P1) (Xu:P2) (ZF:P3) (hP4:P4) (hP5:P5) (hP6:P6):Ld P0 P1 P2 P3 P4 P5 P6
inductive BG (P0 P1 P2 P3 P4 P5 P6 P7:Prop):Prop | mk (Xw:P0) (Xv:P1) (Xu:P2) (ZF:P3) (hP4:P4) (hP5:P5) (hP6:P6) (hP7:P7):BG P0 P1 P2 P3 P4 P5 P6 P7
set_option Elab.async false
set_option maxRecDepth 100000
set_option genSizeOf false
set_option genInjectivity false
local macro_rules | `(∅) => `(by lia)
local macro_rules | `(⇑$x) => `(by simpa using $x)
set_option compiler.extract_closed false
noncomputable section
local macro_rules|`(⋯)=>`(by decide)
local macro_rules|`(tactic|symm)=>`(tactic|constructor)
local macro_rules|`(tactic|exact $e)=>`(tactic|refine $e)
local macro_rules|`(tactic|show $e)=>`(tactic|refine $e)
local macro_rules|`(def $i $s:optDeclSig:=by $v)=>do let d:=Lean.mkNode ``Lean.Parser.Command.declSig #[s.raw[0],s.raw[1][0]];`(theorem $i $(⟨d⟩):declSig:=by $v)|`(def $i $s:optDeclSig $v:declVal)=>`(noncomputable def $i $s:optDeclSig $v:declVal)|`(abbrev $i $s:optDeclSig $v:declVal)=>`(noncomputable abbrev $i $s:optDeclSig $v:declVal)
local macro_rules|`(tactic|let $p:term$[:$t]?:=$e)=>do let r:=p.raw.rewriteBottomUp (λs=>let k:=s.getKind;if s.isIdent then Lean.mkNode `Lean.Parser.Tactic.rcasesPat.one #[s] else if k==`Lean.Parser.Term.hole then Lean.mkNode `Lean.Parser.Tactic.rcasesPat.ignore s.getArgs else if k==`Lean.Parser.Term.anonymousCtor then Lean.mkNode `Lean.Parser.Tactic.rcasesPat.tuple (s.getArgs.modify 1 λa=>.node .none `null (a.getArgs.map λq=>if q.isAtom then q else Lean.mkNode `Lean.Parser.Tactic.rcasesPatLo #[Lean.mkNode `Lean.Parser.Tactic.rcasesPatMed #[Lean.mkNullNode #[q]],Lean.mkNullNode])) else s);`(tactic|obtain $(⟨Lean.mkNode `Lean.Parser.Tactic.rcasesPatMed #[Lean.mkNullNode #[r]]⟩):rcasesPatMed$[:$t]?:=$e)
local macro_rules|`(tactic|simp![$x,*]$[$l]?)=>`(tactic|simp only[$x,*]$[$l]?)
local macro_rules|`(#[$x,$y])=>`(⟨$x,$y⟩)|`(#[$x,$y,$z,*])=>`(⟨$x,$y,$z,*⟩)
namespace TS
open PySem PyProof.Rows
def LE (less:gG ->gG ->Bool)(x y:gG):Prop:=less y x=false
structure Ord (less:Keyed ->Keyed ->Bool):Prop where
 X0: ∀x y,less x y=true ->less y x=false
 trans: ∀x y z,LE less x y ->LE less y z ->LE less x z
def Ord.refl (O:Ord less)(x:gG):LE less x x:=by
 unfold LE;cases h:less x x with
 | false=>rfl
 | true=>show(O.X0 x x h).symm.trans h▸rfl
theorem Ord.le (O:Ord less)(h:less x y=true):LE less x y:=O.X0 x y h
def Ord.Wx (O:Ord less)(h:LE less x y)(h':less y z=true):less x z=true:=by
 cases e:less x z with
 | true=>rfl
 | false=>have:=O.trans z x y e h;unfold LE at this;rw[h'] at this;cases this
def cB (xs:gH gG)(i:Nat):gG:=(xs[i]?).getD (.none, .none)
def K9 (h:i<xs.size):xs[i]? =some (cB xs i):=by unfold cB;rw[getElem?_pos xs i h];rfl
def jS (h:xs[i]? =ys[j]?):cB xs i=cB ys j:=by unfold cB;rw[h]
def zC (h:i<xs.size):cB xs i∈xs.toList:=by unfold cB;rw[getElem?_pos xs i h];simp
def Sg (less:gG ->gG ->Bool)(xs:gH gG)(lo hi:Nat):Prop:= ∀i j,lo<=i ->i<=j ->j<hi ->LE less (cB xs i) (cB xs j)
def Ng (less:gG ->gG ->Bool)(xs:gH gG)(lo hi:Nat):Prop:= ∀i j,lo<=i ->i<=j ->j<hi ->LE less (cB xs j) (cB xs i)
structure SB (kd:SortKind)(a₀:Array Keyed)(st:SortSt):Prop where
 perm:(arrOf st).Perm a₀
 kd:kindOf st=kd
 fl:failedOf st=none
theorem SB.size {kd:SortKind}{st:WW}(h:SB kd a₀ st):(arrOf st).size=a₀.size:=h.perm.size_eq
theorem SB.mem {kd:SortKind}{st:WW}(h:SB kd a₀ st)(hi:i<a₀.size):cB (arrOf st) i∈a₀.toList:=(Array.perm_iff_toList_perm.mp h.perm).mem_iff.mp (zC (by rw[h.size];show hi))
theorem SB.arr {kd:SortKind}{st:WW}(h:SB kd a₀ st)(hp:xs.Perm (arrOf st)):SB kd a₀ (setArr st xs):=#[hp.trans h.perm,h.kd,h.fl]
def iU (prog:Program)(w:World)(A:Around)(E:c7 ->dz ->Prop)(s:dz)(kd:SortKind)(a₀:gH gG)(less:gG ->gG ->Bool):Prop:=∀ (x y:gG) (st:WW) (Q:e9 Bool ->WW ->Prop),x∈a₀.toList ->y∈a₀.toList ->kindOf st=kd ->Q (some (less x y)) st ->wpS (model prog w) A E s (lt' x y) Q st
def wp_elem {st:WW}(hi:i<xs.size)(h:Q (cB xs i) st):wpS (model prog w) A E s (elem' xs i) Q st:=by rw[elem'_eq,K9 hi];show aH h
def wp_lt (L:iU prog w A E s kd a₀ less){st:WW}(B:SB kd a₀ st)(hi:i<a₀.size)(hj:j<a₀.size)(h:Q (some (less (cB (arrOf st) i) (cB (arrOf st) j))) st):wpS (model prog w) A E s (ltAt' i j) Q st:=by rw[ltAt'_eq];exact aw (wpS_get ?_);show aw (wp_elem (by rw[B.size];show hi) (aw (wp_elem (by rw[B.size];show hj) (L _ _ _ _ (B.mem hi) (B.mem hj) B.kd h))))
def wp_rev {st:WW}(h:Q () (setArr st (mirror (arrOf st) i j ((j - i) / 2)))):wpS (model prog w) A E s (reverseSlice' i j) Q st:=by rw[reverseSlice'_eq];show wpS_modify h
def eG (hj:j<=xs.size)(k:Nat):cB (mirror xs i j ((j - i) / 2)) k=if i<=k /\ k<j then cB xs (i+j - 1 - k) else cB xs k:=by have e:=getElem?_mirror_all (i:=i) hj k;by_cases c:i<=k /\ k<j;rw[ao c] at e ⊢;show jS e;rw[ak c] at e ⊢;show jS e
def oh (hs:LH<xs.size)(hd:d<=LH)(k:Nat):cB (bubble xs LH d) k=if k=LH - d then cB xs LH else if LH - d<k /\ k<=LH then cB xs (k - 1) else cB xs k:=by have e:=getElem?_bubble hs d hd k;by_cases c:k=LH - d;rw[ao c] at e ⊢;show jS e;rw[ak c] at e ⊢;by_cases c':LH - d<k /\ k<=LH;rw[ao c'] at e ⊢;show jS e;rw[ak c'] at e ⊢;show jS e
def K_ (lo a dF:Nat):StateT WW Sem AscSt:=forIn [a:dF] ((none,a):AscSt) λ_ c=>do
 let x <- ltAt' (lo+c.snd) (lo+c.snd - 1)
 match x with
 | some b=>if b=true then pure (ForInStep.done (none,c.snd)) else pure (ForInStep.yield (none,c.snd+1))
 | _=>pure (ForInStep.done (some none,c.snd))
def z8 (lo n dF:Nat):StateT WW Sem (e9 Nat):=do
 reverseSlice' lo (lo+n)
 let c <- K_ lo n dF
 match c.fst with
 | some r=>pure r
 | none=>pure (some c.snd)
def Fj (lo n dF:Nat):StateT WW Sem DescSt:=forIn [n:dF] ((none,n,0):DescSt) λ_ c=>do
 let x <- ltAt' (lo+c.snd.fst) (lo+c.snd.fst - 1)
 match x with
 | some b=>
  if b=true then
   if c.snd.snd >0 then do
    reverseSlice' (lo+c.snd.fst - (c.snd.snd+1)) (lo+c.snd.fst)
    pure (ForInStep.yield (none,c.snd.fst+1,0))
   else pure (ForInStep.yield (none,c.snd.fst+1,0))
  else do
   let y <- ltAt' (lo+c.snd.fst - 1) (lo+c.snd.fst)
   match y with
   | some d=>
    if d=true then pure (ForInStep.done (none,c.snd.fst,c.snd.snd))
    else pure (ForInStep.yield (none,c.snd.fst+1,c.snd.snd+1))
   | _=>pure (ForInStep.done (some none,c.snd.fst,c.snd.snd))
 | _=>pure (ForInStep.done (some none,c.snd.fst,c.snd.snd))
def AA (lo n dF:Nat):StateT WW Sem (e9 Nat):=do
 liftM (rule "list.sort.descending-run")
 let c <- Fj lo (n+1) dF
 match c.fst with
 | some r=>pure r
 | none=>
  if c.snd.snd >0 then do
   reverseSlice' (lo+c.snd.fst - (c.snd.snd+1)) (lo+c.snd.fst)
   z8 lo c.snd.fst dF
  else z8 lo c.snd.fst dF
theorem MA (lo dF:Nat):countRun' lo dF=(do
  let c <- K_ lo 1 dF
  match c.fst with
  | some r=>pure r
  | none =>
   if(c.snd==dF)=true then pure (some c.snd)
   else if c.snd >1 then do
    let x <- ltAt' lo (lo+c.snd - 1)
    match x with
    | some b=>if b=true then pure (some c.snd) else do
     reverseSlice' lo (lo+c.snd)
     AA lo c.snd dF
    | _=>pure none
   else AA lo c.snd dF):=by
 rw[countRun'_eq]
 dsimp only
 unfold AA z8 Fj K_
 congr 1
 funext c
 let⟨r,n⟩:=c
 cases r with
 | some r=>rfl
 | none =>
  dsimp only;split;rfl;split;congr 1;funext x;cases x with
  | none=>rfl
  | some b=>
   dsimp only;split;rfl;congr 1;funext _r;congr 1;funext _u;congr 1;congr 1;funext s2;let⟨r2,n2,q2⟩:=s2;cases r2 with
   | some r2=>rfl
   | none=>dsimp only;split;congr 1;funext _v;congr 1;funext _w;congr 1;funext s3;let⟨r3,n3⟩:=s3;cases r3<;>rfl;congr 1;funext _w;congr 1;funext s3;let⟨r3,n3⟩:=s3;cases r3<;>rfl
  congr 1;funext _u;congr 1;congr 1;funext s2;let⟨r2,n2,q2⟩:=s2;cases r2 with
  | some r2=>rfl
  | none=>dsimp only;split;congr 1;funext _v;congr 1;funext _w;congr 1;funext s3;let⟨r3,n3⟩:=s3;cases r3<;>rfl;congr 1;funext _w;congr 1;funext s3;let⟨r3,n3⟩:=s3;cases r3<;>rfl
def tS (lo hi:Nat)(xs ys:gH gG):Prop:= ∀k,k<lo \/ hi<=k ->cB ys k=cB xs k
theorem tS.refl {lo hi:Nat}:tS lo hi xs xs:=λ_ _=>rfl
theorem tS.trans {lo hi:Nat}(a:tS lo hi xs ys)(b:tS lo hi ys zs):tS lo hi xs zs:=λk h=>(b k h).trans (a k h)
def wp_ascL (O:Ord less)(L:iU prog w A E s kd a₀ less){st:WW}{lo a dF:Nat}(hn:lo+dF<=a₀.size)(ha:1<=a)(han:a<=dF)(B:SB kd a₀ st)(hs:Sg less (arrOf st) lo (lo+a))(h: ∀n,a<=n ->n<=dF ->Sg less (arrOf st) lo (lo+n) ->(n=dF \/ less (cB (arrOf st) (lo+n)) (cB (arrOf st) (lo+n - 1))=true) ->Q (none,n) st): wpS (model prog w) A E s (K_ lo a dF) Q st:=by
 unfold K_;exact cx (I:=λx c bH=>bH=st /\ c=(none,x) /\ Sg less (arrOf st) lo (lo+x)) ?step ?fin #[rfl,rfl,hs];case fin=>
  rintro c bH ⟨rfl,rfl,gJ⟩
  rw[show max a dF=dF by lia] at gJ ⊢
  show h dF han (aq _) gJ (.inl rfl)
 case step=>
  rintro x c bH hax hxn ⟨rfl,rfl,gJ⟩
  dsimp only
  exact aw (wp_lt L B ∅ ∅ ?_)
  cases e:less (cB (arrOf bH) (lo+x)) (cB (arrOf bH) (lo+x - 1)) with
  | true=>simp![b0];show aH (h x hax ∅ gJ (.inr e))
  | false=>simp![aC,bC];exact aH #[rfl,rfl,λi j hi kK hj=> ?_];by_cases c:j<lo+x;show gJ i j hi kK c;have:j=lo+x:= ∅;subst this;by_cases c2:i=lo+x;subst c2;show O.refl _;show O.trans _ _ _ (gJ i (lo+x - 1) hi ∅ ∅) e
def wp_tailL (O:Ord less)(L:iU prog w A E s kd a₀ less){st:WW}{lo n dF:Nat}(hn:lo+dF<=a₀.size)(h1:1<=n)(nZ:n<=dF)(B:SB kd a₀ st)(hs:Ng less (arrOf st) lo (lo+n))(h: ∀m bH,SB kd a₀ bH ->1<=m ->m<=dF ->Sg less (arrOf bH) lo (lo+m) ->pendingOf bH=pendingOf st ->tS lo (lo+dF) (arrOf st) (arrOf bH) ->Q (some m) bH): wpS (model prog w) A E s (z8 lo n dF) Q st:=by
 unfold z8;have hsz:lo+n<=(arrOf st).size:=by rw[B.size];lia
 exact aw (wp_rev ?_);have B':SB kd a₀ (setArr st (mirror (arrOf st) lo (lo+n) ((lo+n - lo) / 2))):=B.arr (mirror_perm _ _ _ _);exact aw (wp_ascL O L hn h1 nZ B' ?_ λm hm1 ZA hsm _=>aH (h m _ B' ∅ ZA hsm rfl ?_));intro i j hi kK hj;change LE less (cB (mirror (arrOf st) lo (lo+n) ((lo+n - lo) / 2)) i) (cB (mirror (arrOf st) lo (lo+n) ((lo+n - lo) / 2)) j);rw[eG hsz,eG hsz,ao ∅,ao ∅];show hs _ _ ∅ ∅ ∅;intro k hk;change cB (mirror (arrOf st) lo (lo+n) ((lo+n - lo) / 2)) k=_;rw[eG hsz,ak ∅]
def qI (O:Ord less){lo i m:Nat}(hj:m<=xs.size)(hli:lo<=i)(hs:Ng less xs lo m)(he: ∀k,i<=k ->k<m ->LE less (cB xs k) (cB xs (m - 1))):Ng less (mirror xs i m ((m - i) / 2)) lo m:=by intro a b ha E6 hb;rw[eG hj,eG hj];by_cases c1:i<=a;rw[ao ∅,ao ∅];exact O.trans _ _ _ (he (i+m - 1 - b) ∅ ∅) (hs _ _ ∅ ∅ ∅);rw[ak (show ¬(i<=a /\ a<m) by lia)];by_cases c2:i<=b;rw[ao ∅];show hs _ _ ∅ ∅ ∅;rw[ak ∅];show hs _ _ ∅ ∅ ∅
theorem nU {lo hi i j:Nat}(hj:j<=xs.size)(h1:lo<=i)(h2:j<=hi):tS lo hi xs (mirror xs i j ((j - i) / 2)):=λk hk=>by rw[eG hj,ak ∅]
def wp_descL (O:Ord less)(L:iU prog w A E s kd a₀ less){st:WW}{lo n dF:Nat}(hn:lo+dF<=a₀.size)(h1:1<=n)(nZ:n<=dF)(B:SB kd a₀ st)(hs:Ng less (arrOf st) lo (lo+n))(h: ∀m xu bH,SB kd a₀ bH ->n<=m ->m<=dF ->Ng less (arrOf bH) lo (lo+m) ->xu+1<=m ->(∀i,lo+m - (xu+1) <=i ->i<lo+m ->LE less (cB (arrOf bH) i) (cB (arrOf bH) (lo+m - 1))) ->pendingOf bH=pendingOf st ->tS lo (lo+dF) (arrOf st) (arrOf bH) ->Q (none,m,xu) bH): wpS (model prog w) A E s (Fj lo n dF) Q st:=by
 unfold Fj;exact cx (I:=λx c bH=> ∃xu,Ld (c=(none,x,xu)) (SB kd a₀ bH) (Ng less (arrOf bH) lo (lo+x)) (xu+1<=x) (∀i,lo+x - (xu+1) <=i ->i<lo+x ->LE less (cB (arrOf bH) i) (cB (arrOf bH) (lo+x - 1))) (pendingOf bH=pendingOf st) (tS lo (lo+dF) (arrOf st) (arrOf bH))) ?step ?fin #[0,rfl,B,hs, ∅,λi h1 h2=>by rw[show i=lo+n - 1 by lia];show O.refl _,rfl,tS.refl];case fin=>
  rintro c bH ⟨xu,rfl,B',gJ,hq,he,hp,ho⟩
  rw[show max n dF=dF by lia] at gJ hq he ⊢
  show h dF xu bH B' nZ (aq _) gJ hq he hp ho
 case step =>
  rintro x c bH hax hxn ⟨xu,rfl,B',gJ,hq,he,hp,ho⟩
  dsimp only
  have hsz:lo+x<=(arrOf bH).size:=by rw[B'.size];lia
  exact aw (wp_lt L B' ∅ ∅ ?_)
  cases e:less (cB (arrOf bH) (lo+x)) (cB (arrOf bH) (lo+x - 1)) with
  | true =>simp![b0];by_cases Ke:xu >0;rw [ao Ke];exact aw (wp_rev (aH #[0,rfl,B'.arr (mirror_perm _ _ _ _),?_, ∅,λi h1 h2=>by rw[show i=lo+(x+1) - 1 by lia];show O.refl _,hp,ho.trans (nU hsz ∅ ∅)]));have hm:=qI O (i:=lo+x - (xu+1)) hsz ∅ gJ he;intro i j hi kK hj;by_cases c:j<lo+x;show hm i j hi kK c;have:j=lo+x:= ∅;subst this;by_cases c2:i=lo+x;subst c2;show O.refl _;exact O.trans _ _ _ ?_ (hm i (lo+x - 1) hi ∅ ∅);change LE less (cB (mirror (arrOf bH) (lo+x - (xu+1)) (lo+x) ((lo+x - (lo+x - (xu+1))) / 2)) (lo+x)) (cB (mirror (arrOf bH) (lo+x - (xu+1)) (lo+x) ((lo+x - (lo+x - (xu+1))) / 2)) (lo+x - 1));rw[eG hsz,eG hsz,ak ∅,ao ∅];show O.trans _ _ _ (O.le e) (gJ _ _ ∅ ∅ ∅);rw[ak Ke];exact aH #[0,rfl,B',λi j hi kK hj=> ?_, ∅,λi h1 h2=>by rw[show i=lo+(x+1) - 1 by lia];show O.refl _,hp,ho];by_cases c:j<lo+x;show gJ i j hi kK c;have:j=lo+x:= ∅;subst this;by_cases c2:i=lo+x;subst c2;show O.refl _;show O.trans _ _ _ (O.le e) (gJ i (lo+x - 1) hi ∅ ∅)
  | false =>
   simp![aC,bC];exact aw (wp_lt L B' ∅ ∅ ?_);cases e2:less (cB (arrOf bH) (lo+x - 1)) (cB (arrOf bH) (lo+x)) with
   | true=>simp![b0];show aH (h x xu bH B' hax ∅ gJ hq he hp ho)
   | false=>simp![aC,bC];exact aH #[xu+1,rfl,B',λi j hi kK hj=> ?_, ∅,λi h1 h2=> ?_,hp,ho];by_cases c:j<lo+x;show gJ i j hi kK c;have:j=lo+x:= ∅;subst this;by_cases c2:i=lo+x;subst c2;show O.refl _;show O.trans _ _ _ e2 (gJ i (lo+x - 1) hi ∅ ∅);rw[show lo+(x+1) - 1=lo+x by lia];by_cases c:i=lo+x;subst c;show O.refl _;show O.trans _ _ _ (he i ∅ ∅) e
def wp_partL (O:Ord less)(L:iU prog w A E s kd a₀ less){st:WW}{lo n dF:Nat}(hn:lo+dF<=a₀.size)(nZ:n+1<=dF)(B:SB kd a₀ st)(hs:Ng less (arrOf st) lo (lo+(n+1)))(h: ∀m bH,SB kd a₀ bH ->1<=m ->m<=dF ->Sg less (arrOf bH) lo (lo+m) ->pendingOf bH=pendingOf st ->tS lo (lo+dF) (arrOf st) (arrOf bH) ->Q (some m) bH): wpS (model prog w) A E s (AA lo n dF) Q st:=by
 unfold AA;exact aw (wpS_lift (wpAny_rule #[rfl,?_]));exact aw (wp_descL O L hn ∅ nZ B hs λm xu bH B' hm1 ZA gJ hq he hp ho=> ?_);dsimp only;have hsz:lo+m<=(arrOf bH).size:=by rw[B'.size];lia
 by_cases Ke:xu >0;rw[ao Ke];exact aw (wp_rev (wp_tailL O L hn ∅ ZA (B'.arr (mirror_perm _ _ _ _)) (qI O hsz ∅ gJ he) λm2 oB b1 b2 b3 b4 b5 b6=>h m2 oB b1 b2 b3 b4 (b5.trans hp) (ho.trans ((nU hsz ∅ ∅).trans b6))));rw[ak Ke];show wp_tailL O L hn ∅ ZA B' gJ λm2 oB b1 b2 b3 b4 b5 b6=>h m2 oB b1 b2 b3 b4 (b5.trans hp) (ho.trans b6)
def wp_run (O:Ord less)(L:iU prog w A E s kd a₀ less){st:WW}{lo dF:Nat}(hn:lo+dF<=a₀.size)(h1:1<=dF)(B:SB kd a₀ st)(h: ∀m bH,SB kd a₀ bH ->1<=m ->m<=dF ->Sg less (arrOf bH) lo (lo+m) ->pendingOf bH=pendingOf st ->tS lo (lo+dF) (arrOf st) (arrOf bH) ->Q (some m) bH): wpS (model prog w) A E s (countRun' lo dF) Q st:=by
 rw[MA];exact aw (wp_ascL O L hn (aq 1) h1 B (λi j hi kK hj=>by rw[show i=j by lia];show O.refl _) λn Qg wt W9 hor=> ?_);dsimp only;by_cases nZ:n=dF;rw[ao ⇑nZ];show aH (h n st B Qg wt W9 rfl tS.refl);rw [ak ⇑nZ];have m8:=hor.resolve_left nZ;have hsz:lo+n<=(arrOf st).size:=by rw[B.size];lia
 by_cases hgt:n >1;rw [ao hgt];exact aw (wp_lt L B ∅ ∅ ?_);cases e:less (cB (arrOf st) lo) (cB (arrOf st) (lo+n - 1)) with
 | true=>simp![b0];show aH (h n st B Qg wt W9 rfl tS.refl)
 | false=>simp![aC,bC];have hng:Ng less (arrOf st) lo (lo+n):=λi j hi kK hj=>O.trans _ _ _ (O.trans _ _ _ (W9 j (lo+n - 1) ∅ ∅ ∅) e) (W9 lo i (aq _) hi ∅);exact aw (wp_rev (wp_partL O L hn ∅ (B.arr (mirror_perm _ _ _ _)) ?_ λm2 oB b1 b2 b3 b4 b5 b6=>h m2 oB b1 b2 b3 b4 b5 ((nU hsz ∅ ∅).trans b6)));have hm:=qI O (i:=lo) hsz (aq _) hng λk _ _=>W9 k (lo+n - 1) ∅ ∅ ∅;intro i j hi kK hj;by_cases c:j<lo+n;show hm i j hi kK c;have:j=lo+n:= ∅;subst this;by_cases c2:i=lo+n;subst c2;show O.refl _;exact O.trans _ _ _ ?_ (hm i (lo+n - 1) hi ∅ ∅);change LE less (cB (mirror (arrOf st) lo (lo+n) ((lo+n - lo) / 2)) (lo+n)) (cB (mirror (arrOf st) lo (lo+n) ((lo+n - lo) / 2)) (lo+n - 1));rw[eG hsz,eG hsz,ak ∅,ao ∅];show O.trans _ _ _ (O.le m8) (hng _ _ ∅ ∅ ∅)
 rw[ak hgt];have abc:n=1:= ∅;subst abc;exact wp_partL O L hn ∅ B (λi j hi kK hj=> ?_) h;by_cases c:i=j;subst c;show O.refl _;rw[show i=lo+1 - 1 by lia,show j=lo+1 by lia];show O.le m8
def wp_bin (O:Ord less)(L:iU prog w A E s kd a₀ less){st:WW}{lo n ok:Nat}(hn:lo+n<=a₀.size)(cN:ok<=n)(B:SB kd a₀ st)(hs:Sg less (arrOf st) lo (lo+ok))(h: ∀bH,SB kd a₀ bH ->Sg less (arrOf bH) lo (lo+n) ->pendingOf bH=pendingOf st ->tS lo (lo+n) (arrOf st) (arrOf bH) ->Q true bH):wpS (model prog w) A E s (binarySort' lo n ok) Q st:=by
 rw[binarySort'_eq];exact aw (wpS_mono (cx (I:=λk c bH=>c=(none,()) /\ SB kd a₀ bH /\ Sg less (arrOf bH) lo (lo+min k n) /\ pendingOf bH=pendingOf st /\ tS lo (lo+n) (arrOf st) (arrOf bH)) (Q:=λc bH=>c=(none,()) /\ SB kd a₀ bH /\ Sg less (arrOf bH) lo (lo+n) /\ pendingOf bH=pendingOf st /\ tS lo (lo+n) (arrOf st) (arrOf bH)) ?step ?fin ?init) ?post);case post=>
  rintro c bH ⟨rfl,B',gJ,hp,ho⟩
  show aH (h bH B' gJ hp ho)
 case init=>
  exact#[rfl,B,λi j hi kK hj=> ?_,rfl,tS.refl]
  by_cases c:ok=0
  rw[show i=j by lia];show O.refl _
  show hs i j hi kK ∅
 case fin=>
  rintro c bH ⟨hc,B',gJ,hp,ho⟩
  exact#[hc,B',?_,hp,ho]
  rwa [show min (max (max ok 1) n) n=n by lia] at gJ
 case step=>
  rintro k c bH hak hkn ⟨rfl,B',gJ,hp,ho⟩
  rw[show min k n=k by lia] at gJ
  have hk:lo+k<a₀.size:= ∅
  exact aw (wpS_mono (cx (I:=λx c fT=>fT=bH /\ cg λl r=>lm (c=(none,l,r)) (l<=r) (r<=k) (r - l<=k - x) (∀i,i<l ->LE less (cB (arrOf bH) (lo+i)) (cB (arrOf bH) (lo+k))) (∀i,r<=i ->i<k ->LE less (cB (arrOf bH) (lo+k)) (cB (arrOf bH) (lo+i)))) (Q:=λc fT=>fT=bH /\ cg λl r=>fj (c=(none,l,r)) (l<=k) (∀i,i<l ->LE less (cB (arrOf bH) (lo+i)) (cB (arrOf bH) (lo+k))) (∀i,l<=i ->i<k ->LE less (cB (arrOf bH) (lo+k)) (cB (arrOf bH) (lo+i)))) ?istep ?ifin ?iinit) ?ipost)
  case iinit=>show#[rfl,0,k,rfl, ∅, ∅, ∅,λi hi=> ∅,λi h1 h2=> ∅]
  case ifin=>
   rintro c fT ⟨rfl,l,r,rfl,Xf,hrk,hm,S6,Uu⟩
   have:l=r:= ∅
   subst this
   show#[rfl,l,l,rfl,hrk,S6,Uu]
  case istep=>
   rintro x c fT _ hxk ⟨rfl,l,r,rfl,Xf,hrk,hm,S6,Uu⟩
   dsimp only
   by_cases hge:l≥r
   rw[ao hge]
   have:l=r:= ∅
   subst this
   show aH #[rfl,l,l,rfl,hrk,S6,Uu]
   rw[ak hge]
   exact aw (wp_lt L B' hk ∅ ?_)
   cases e:less (cB (arrOf fT) (lo+k)) (cB (arrOf fT) (lo+(l+r) / 2)) with
   | true=>simp![b0];exact aH #[rfl,l,(l+r) / 2,rfl, ∅, ∅, ∅,S6,λi h1 h2=> ?_];show O.trans _ _ _ (O.le e) (gJ _ _ ∅ ∅ ∅)
   | false=>simp![aC,bC];exact aH #[rfl,(l+r) / 2+1,r,rfl, ∅, ∅, ∅,λi h1=> ?_,Uu];show O.trans _ _ _ (gJ (lo+i) (lo+(l+r) / 2) ∅ ∅ ∅) e
  case ipost=>
   rintro c fT ⟨rfl,l,r,rfl,hlk,S6,Uu⟩
   change wpS _ _ _ _ (do moveDown' (lo+k) (lo+l);pure (ForInStep.yield (none,()))) _ _
   rw[moveDown'_eq]
   have hks:lo+k< (arrOf fT).size:=by rw[B'.size];show hk
   exact aw (wpS_modify (aH #[rfl,B'.arr (bubble_perm _ _ _),?_,hp,ho.trans λj hj=> ?_]))
   .rw[show min (k+1) n=k+1 by lia];intro i j hi kK hj;change LE less (cB (bubble (arrOf fT) (lo+k) (lo+k - (lo+l))) i) (cB (bubble (arrOf fT) (lo+k) (lo+k - (lo+l))) j);rw[oh hks ∅,oh hks ∅,show lo+k - (lo+k - (lo+l))=lo+l by lia];have abd: ∀i,lo<=i ->i<lo+l ->LE less (cB (arrOf fT) i) (cB (arrOf fT) (lo+k)):=λi h1 h2=>by have:=S6 (i - lo) ∅;rwa [show lo+(i - lo)=i by lia] at this
    have abf: ∀i,lo+l<=i ->i<lo+k ->LE less (cB (arrOf fT) (lo+k)) (cB (arrOf fT) i):=λi h1 h2=>by have:=Uu (i - lo) ∅ ∅;rwa [show lo+(i - lo)=i by lia] at this
    repeat' split
    all_goals first
    | (exfalso;lia)
    | show O.refl _
    | show abd _ ∅ ∅
    | show abf _ ∅ ∅
    | show gJ _ _ ∅ ∅ ∅
   change cB (bubble (arrOf fT) (lo+k) (lo+k - (lo+l))) j=_
   rw[oh hks ∅,ak ∅,ak ∅]
def NZ:Bool ->gG ->gH gG ->Nat ->Nat ->Nat ->StateT WW Sem (e9 Nat):=sortPriv% PySem.Builtin.gallop
def mLo:gH gG ->gH gG ->StateT WW Sem (gH gG):=sortPriv% PySem.Builtin.mergeLo
def mHi:gH gG ->gH gG ->StateT WW Sem (gH gG):=sortPriv% PySem.Builtin.mergeHi
abbrev cS (st:WW)(g:Nat):WW:=SortSt.mk' (kindOf st) (arrOf st) (pendingOf st) g (failedOf st)
def bey (left:Bool)(key:gG)(arr:gH gG)(base i:Nat):StateT WW Sem (e9 Bool):=do
 let x <- elem' arr (base+i)
 if left then lt' x key else return(<- lt' key x).map (!·)
def wp_gal0 {st:WW}(Bf:Nat ->Bool)(hh:fH<n)(hb: ∀i,i<n -> ∀Q':e9 Bool ->WW ->Prop,Q' (some (Bf i)) st ->wpS (model prog w) A E s (bey left key arr base i) Q' st)(mono: ∀i j,i<=j ->j<n ->Bf j=true ->Bf i=true)(h: ∀k,k<=n ->(∀i,i<k ->Bf i=true) ->(∀i,k<=i ->i<n ->Bf i=false) ->Q (some k) st): wpS (model prog w) A E s (NZ left key arr base n fH) Q st:=by
 have EG: ∀i j,i<=j ->j<n ->Bf i=false ->Bf j=false:=λi j kK hj e=>by
  cases e2:Bf j with
  | false=>rfl
  | true=>rw[mono i j kK hj e2] at e;cases e
 exact aw (hb fH hh _ ?_);dsimp only;cases hB:Bf fH with
 | true =>
  simp![b0];exact aw (wpS_mono (cx (I:=λi c bH=>bH=st /\ cg λla f=>gm (c=(none,la,f)) (i+1<=f) (la<f) (fH+la<n) (Bf (fH+la)=true)) (Q:=λc bH=>bH=st /\ cg λla f=>gm (c=(none,la,f)) (la<f) (fH+la<n) (Bf (fH+la)=true) (n - fH<=f \/ (fH+f<n /\ Bf (fH+f)=false))) ?_ ?_ #[rfl,0,1,rfl,by omega,by omega,by omega,hB]) ?_);rintro i c bH _ hi ⟨rfl,la,f,rfl,h1,h2,h3,h4⟩;dsimp only;by_cases c1:f≥n - fH;rw[ao c1];show aH #[rfl,la,f,rfl,h2,h3,h4, .inl c1];rw[ak c1];exact aw (hb _ (by omega) _ ?_);cases e:Bf (fH+f) with
  | true=>simp![aG,aC,bC];show aH #[rfl,f,2*f+1,rfl,by omega,by omega,by omega,e]
  | false=>simp![aU,b0];show aH #[rfl,la,f,rfl,h2,h3,h4, .inr #[by omega,e]]
  rintro c bH ⟨rfl,la,f,rfl,h1,h2,h3,h4⟩;show#[rfl,la,f,rfl,h2,h3,h4, .inl (by omega)];rintro c bH ⟨rfl,la,f,rfl,h2,h3,h4,h5⟩;dsimp only;exact aw (wpS_mono (cx (I:=λi c fT=>fT=bH /\ cg λlo hi=>lm (c=(none,lo,hi)) (lo<=hi) (hi<=n) (hi - lo<=n - i) (∀i,i<lo ->Bf i=true) (∀i,hi<=i ->i<n ->Bf i=false)) (Q:=λc fT=>fT=bH /\ cg λlo hi=>fj (c=(none,lo,hi)) (hi<=n) (∀i,i<hi ->Bf i=true) (∀i,hi<=i ->i<n ->Bf i=false)) ?_ ?_ #[rfl,_,_,rfl,by omega,by omega,by omega,λi hi=>mono i (fH+la) (by omega) h3 h4,λi hi A6=> ?_]) ?_);rintro i c fT _ hi ⟨rfl,lo,rZ,rfl,g1,g2,g3,g4,g5⟩;dsimp only;by_cases c1:lo≥rZ;rw[ao c1];have:lo=rZ:=by omega
  subst this;show aH #[rfl,_,_,rfl,g2,g4,g5];rw[ak c1];exact aw (hb _ (by omega) _ ?_);cases e:Bf (lo+(rZ - lo) / 2) with
  | true=>simp![b0];show aH #[rfl,_,_,rfl,by omega,g2,by omega,λj hj=>mono j _ (by omega) (by omega) e,g5]
  | false=>simp![aC,bC];show aH #[rfl,_,_,rfl,by omega,by omega,by omega,g4,λj hj hjn=>EG _ j hj hjn e]
  rintro c fT ⟨rfl,lo,rZ,rfl,g1,g2,g3,g4,g5⟩;have:lo=rZ:=by omega
  subst this;show#[rfl,_,_,rfl,g2,g4,g5];obtain h5 | ⟨h5,h6⟩:=h5;omega;show EG (fH+f) i (by omega) A6 h6;rintro c fT ⟨rfl,lo,rZ,rfl,g2,g4,g5⟩;show aH (h _ g2 g4 g5)
 | false =>
  simp![aC,bC];exact aw (wpS_mono (cx (I:=λi c bH=>bH=st /\ cg λla f=>gm (c=(none,la,f)) (i+1<=f) (la<f) (la<=fH) (Bf (fH - la)=false)) (Q:=λc bH=>bH=st /\ cg λla f=>gm (c=(none,la,f)) (la<f) (la<=fH) (Bf (fH - la)=false) (fH+1<=f \/ (f<=fH /\ Bf (fH - f)=true))) ?_ ?_ #[rfl,0,1,rfl,by omega,by omega,by omega,hB]) ?_);rintro i c bH _ hi ⟨rfl,la,f,rfl,h1,h2,h3,h4⟩;dsimp only;by_cases c1:f≥fH+1;rw[ao c1];show aH #[rfl,la,f,rfl,h2,h3,h4, .inl c1];rw[ak c1];exact aw (hb _ (by omega) _ ?_);cases e:Bf (fH - f) with
  | false=>simp![aC,bC];show aH #[rfl,f,2*f+1,rfl,by omega,by omega,by omega,e]
  | true=>simp![b0];show aH #[rfl,la,f,rfl,h2,h3,h4, .inr #[by omega,e]]
  rintro c bH ⟨rfl,la,f,rfl,h1,h2,h3,h4⟩;show#[rfl,la,f,rfl,h2,h3,h4, .inl (by omega)];rintro c bH ⟨rfl,la,f,rfl,h2,h3,h4,h5⟩;dsimp only;exact aw (wpS_mono (cx (I:=λi c fT=>fT=bH /\ cg λlo hi=>lm (c=(none,lo,hi)) (lo<=hi) (hi<=n) (hi - lo<=n - i) (∀i,i<lo ->Bf i=true) (∀i,hi<=i ->i<n ->Bf i=false)) (Q:=λc fT=>fT=bH /\ cg λlo hi=>fj (c=(none,lo,hi)) (hi<=n) (∀i,i<hi ->Bf i=true) (∀i,hi<=i ->i<n ->Bf i=false)) ?_ ?_ #[rfl,_,_,rfl,by omega,by omega,by omega,λi hi=> ?_,λi hi A6=>EG (fH - la) i (by omega) A6 h4]) ?_);rintro i c fT _ hi ⟨rfl,lo,rZ,rfl,g1,g2,g3,g4,g5⟩;dsimp only;by_cases c1:lo≥rZ;rw[ao c1];have:lo=rZ:=by omega
  subst this;show aH #[rfl,_,_,rfl,g2,g4,g5];rw[ak c1];exact aw (hb _ (by omega) _ ?_);cases e:Bf (lo+(rZ - lo) / 2) with
  | true=>simp![b0];show aH #[rfl,_,_,rfl,by omega,g2,by omega,λj hj=>mono j _ (by omega) (by omega) e,g5]
  | false=>simp![aC,bC];show aH #[rfl,_,_,rfl,by omega,by omega,by omega,g4,λj hj hjn=>EG _ j hj hjn e]
  rintro c fT ⟨rfl,lo,rZ,rfl,g1,g2,g3,g4,g5⟩;have:lo=rZ:=by omega
  subst this;show#[rfl,_,_,rfl,g2,g4,g5];obtain h5 | ⟨h5,h6⟩:=h5;omega;show mono i (fH - f) (by omega) (by omega) h6;rintro c fT ⟨rfl,lo,rZ,rfl,g2,g4,g5⟩;show aH (h _ g2 g4 g5)
def wp_galL (O:Ord less)(L:iU prog w A E s kd a₀ less){st:WW}(B:kindOf st=kd)(hk:key∈a₀.toList)(hm: ∀i,i<n ->base+i<arr.size /\ cB arr (base+i)∈a₀.toList)(hh:fH<n)(hs:Sg less arr base (base+n))(h: ∀k,k<=n ->(∀i,i<k ->less (cB arr (base+i)) key=true) ->(∀i,k<=i ->i<n ->LE less key (cB arr (base+i))) ->Q (some k) st): wpS (model prog w) A E s (NZ true key arr base n fH) Q st:=by exact wp_gal0 (λi=>less (cB arr (base+i)) key) hh (λi hi Q' hq=> ?_) (λi j kK hj e=>O.Wx (hs (base+i) (base+j) (by omega) (by omega) (by omega)) e) h;unfold bey;exact aw (wp_elem (hm i hi).1 ?_);simp![b0];show L _ _ _ _ (hm i hi).2 hk B hq
def wp_galR (O:Ord less)(L:iU prog w A E s kd a₀ less){st:WW}(B:kindOf st=kd)(hk:key∈a₀.toList)(hm: ∀i,i<n ->base+i<arr.size /\ cB arr (base+i)∈a₀.toList)(hh:fH<n)(hs:Sg less arr base (base+n))(h: ∀k,k<=n ->(∀i,i<k ->LE less (cB arr (base+i)) key) ->(∀i,k<=i ->i<n ->less key (cB arr (base+i))=true) ->Q (some k) st): wpS (model prog w) A E s (NZ false key arr base n fH) Q st:=by exact wp_gal0 (λi=> !less key (cB arr (base+i))) hh (λi hi Q' hq=> ?_) (λi j kK hj e=> ?_) (λk h1 h2 h3=>h k h1 (λi hi=> ?_) λi h4 h5=> ?_);unfold bey;exact aw (wp_elem (hm i hi).1 ?_);simp![aC,bC];show aw (L _ _ _ _ hk (hm i hi).2 B (aH hq));simp![Bool.not_eq_true'] at e ⊢;show O.trans _ _ _ (hs (base+i) (base+j) (by omega) (by omega) (by omega)) e;have:=h2 i hi;simp![Bool.not_eq_true'] at this;show this;have:=h3 i h4 h5;simpa using this
structure MI (less:Keyed ->Keyed ->Bool)(al bl o:List Keyed)(i j:Nat):Prop where
 pm:o.Perm (al.take i++bl.take j)
 so:o.Pairwise (LE less)
 ba: ∀x∈o, ∀y∈al.drop i,LE less x y
 bb: ∀x∈o, ∀y∈bl.drop j,LE less x y
section
variable {less:gG ->gG ->Bool}{al bl o:cA gG}{i j:Nat}
theorem MI.swap (h:MI less al bl o i j):MI less bl al o j i:=#[h.pm.trans dO,h.so,h.bb,h.ba]
def take_add {α:Type}(l:cA α)(i k:Nat):l.take (i+k)=l.take i++(l.drop i).take k:=by rw[List.take_add]
def MI.Ot (h:MI less al bl o i j)(sa:al.Pairwise (LE less))(k:Nat)(hk: ∀x∈(al.drop i).take k, ∀y∈bl.drop j,LE less x y):MI less al bl (o++(al.drop i).take k) (i+k) j:=by
 have sd:(al.drop i).Pairwise (LE less):=sa.sublist (List.drop_sublist _ _);have e:(al.drop i).take k++al.drop (i+k)=al.drop i:=by rw[<- List.drop_drop,bG]
 have Rk:=sd;rw[<- e,df] at Rk;exact#[?_,?_,?_,?_];rw[take_add,bQ];exact(h.pm.append_right _).trans ?_;rw[bQ];show List.Perm.append_left _ dO;rw[df];show#[h.so,Rk.1,λx hx y hy=>h.ba x hx y (List.mem_of_mem_take hy)];intro x hx y hy;obtain hx | hx:=a9.mp hx;show h.ba x hx y (by rw[<- e];show aY _ hy);show Rk.2.2 x hx y hy;intro x hx y hy;obtain hx | hx:=a9.mp hx;show h.bb x hx y hy;show hk x hx y hy
def MI.fin (h:MI less al bl o i j)(sa:al.Pairwise (LE less))(sb:bl.Pairwise (LE less))(hk: ∀x∈bl.drop j, ∀y∈al.drop i,LE less x y):(o++bl.drop j++al.drop i).Perm (al++bl) /\ (o++bl.drop j++al.drop i).Pairwise (LE less):=by
 symm;rw[bQ];exact(h.pm.append_right _).trans ?_;have e1:(al++bl).Perm ((al.take i++al.drop i)++(bl.take j++bl.drop j)):=by rw[bG,bG]
 exact List.Perm.trans ?_ e1.symm;rw[bQ,bQ];exact List.Perm.append_left _ ?_;rw[<- bQ];show dO;rw[df,df];exact#[#[h.so,sb.sublist (List.drop_sublist _ _),h.bb],sa.sublist (List.drop_sublist _ _),λx hx y hy=> ?_];obtain hx | hx:=a9.mp hx;show h.ba x hx y hy;show hk x hx y hy
structure MH (less:Keyed ->Keyed ->Bool)(al bl t:List Keyed)(i j:Nat):Prop where
 pm:t.Perm (al.drop i++bl.drop j)
 so:t.Pairwise (LE less)
 ba: ∀x∈t, ∀y∈al.take i,LE less y x
 bb: ∀x∈t, ∀y∈bl.take j,LE less y x
theorem MH.swap (h:MH less al bl t i j):MH less bl al t j i:=#[h.pm.trans dO,h.so,h.bb,h.ba]
def MH.Ot (h:MH less al bl t i j)(sa:al.Pairwise (LE less))(Xj:k<=i)(hk: ∀x∈(al.take i).drop k, ∀y∈bl.take j,LE less y x):MH less al bl ((al.take i).drop k++t) k j:=by
 have sd:(al.take i).Pairwise (LE less):=sa.sublist (List.take_sublist _ _);have e0:(al.take i).take k=al.take k:=by rw[List.take_take,Nat.min_eq_left Xj]
 have e:al.take k++(al.take i).drop k=al.take i:=by rw[<- e0,bG]
 have Rk:=sd;rw[<- e,df] at Rk;have e3:al.drop k=(al.take i).drop k++al.drop i:=by
  have:=bG i al;have e4:al.drop k=(al.take i++al.drop i).drop k:=by rw[this]
  rw[e4];by_cases c:i<=al.length;rw[List.drop_append_of_le_length (by rw[bP];lia)];have z:al.drop i= []:=List.drop_eq_nil_of_le ∅;rw[z,dI,dI]
 exact#[?_,?_,?_,?_];rw[e3,bQ];show List.Perm.append_left _ h.pm;rw[df];show#[Rk.2.1,h.so,λx hx y hy=>h.ba y hy x (by rw[<- e];show aY _ hx)];intro x hx y hy;obtain hx | hx:=a9.mp hx;show Rk.2.2 y hy x hx;show h.ba x hx y (by rw[<- e];show List.mem_append_left _ hy);intro x hx y hy;obtain hx | hx:=a9.mp hx;show hk x hx y hy;show h.bb x hx y hy
def MH.fin (h:MH less al bl t i j)(sa:al.Pairwise (LE less))(sb:bl.Pairwise (LE less))(hk: ∀x∈al.take i, ∀y∈bl.take j,LE less x y):(al.take i++bl.take j++t).Perm (al++bl) /\ (al.take i++bl.take j++t).Pairwise (LE less):=by
 symm;exact(List.Perm.append_left _ h.pm).trans ?_;have e1:(al++bl).Perm ((al.take i++al.drop i)++(bl.take j++bl.drop j)):=by rw[bG,bG]
 exact List.Perm.trans ?_ e1.symm;rw[bQ,bQ];exact List.Perm.append_left _ ?_;rw[<- bQ, <- bQ];show List.Perm.append_right _ dO;rw[df,df];exact#[#[sa.sublist (List.take_sublist _ _),sb.sublist (List.take_sublist _ _),hk],h.so,λx hx y hy=> ?_];obtain hx | hx:=a9.mp hx;show h.ba y hy x hx;show h.bb y hy x hx
end
abbrev R5:=e9 (gH gG)×gH gG×Nat×Nat×Nat
abbrev R6:=e9 (gH gG)×gH gG×Nat×Nat×Nat×Nat
abbrev R7:=e9 (gH gG)×gH gG×Nat×Nat×Nat×Nat×Nat
section
variable (a b:gH gG)
abbrev L4 (o:gH gG)(i j:Nat):gH gG:=o++a.extract i a.size++b.extract j b.size
abbrev Ul (o:gH gG)(i j:Nat):gH gG:=o++b.extract j b.size++a.extract i a.size
def R1 (mg:Nat)(o:gH gG)(i j ac bc:Nat):StateT WW Sem (ForInStep R6):=do
 let x <- elem' b j
 let y <- elem' a i
 let g <- lt' x y
 match g with
 | some g=>
  if g=true then do
   let x <- elem' b j
   if(j+1==b.size)=true then pure (.done (some (L4 a b (o.push x) i (j+1)),o.push x,i,j+1,0,bc+1))
   else if bc+1≥mg then pure (.done (none,o.push x,i,j+1,0,bc+1))
   else pure (.yield (none,o.push x,i,j+1,0,bc+1))
  else do
   let x <- elem' a i
   if(i+1+1==a.size)=true then pure (.done (some (Ul a b (o.push x) (i+1) j),o.push x,i+1,j,ac+1,0))
   else if ac+1≥mg then pure (.done (none,o.push x,i+1,j,ac+1,0))
   else pure (.yield (none,o.push x,i+1,j,ac+1,0))
 | _=>pure (.done (some (L4 a b o i j),o,i,j,ac,bc))
def Y7 (mg ac bc:Nat)(o:gH gG)(i j:Nat):StateT WW Sem (ForInStep R7):=do
 let x <- elem' a i
 if(i+1+1==a.size)=true then pure (.done (some (Ul a b (o.push x) (i+1) j),o.push x,i+1,j,mg,ac,bc))
 else if(decide (ac<7) && decide (bc<7))=true then pure (.done (none,o.push x,i+1,j,mg,ac,bc))
 else pure (.yield (none,o.push x,i+1,j,mg,ac,bc))
def Y9 (mg ac bc:Nat)(o:gH gG)(i j:Nat):StateT WW Sem (ForInStep R7):=do
 let x <- elem' b j
 if(j+1==b.size)=true then pure (.done (some (L4 a b (o.push x) i (j+1)),o.push x,i,j+1,mg,ac,bc))
 else do
  let y <- elem' a i
  let r <- NZ true y b (j+1) (b.size - (j+1)) 0
  match r with
  | some k=>
   if k >0 then
    if(j+1+k==b.size)=true then pure (.done (some (L4 a b (o.push x++b.extract (j+1) (j+1+k)) i (j+1+k)),o.push x++b.extract (j+1) (j+1+k),i,j+1+k,mg,ac,k))
    else Y7 a b mg ac k (o.push x++b.extract (j+1) (j+1+k)) i (j+1+k)
   else Y7 a b mg ac k (o.push x) i (j+1)
  | _=>pure (.done (some (L4 a b (o.push x) i (j+1)),o.push x,i,j+1,mg,ac,bc))
def Y_ (mg ac bc:Nat)(o:gH gG)(i j:Nat):StateT WW Sem (ForInStep R7):=do
 modify λs=>cS s mg
 let x <- elem' b j
 let r <- NZ false x a i (a.size - i) 0
 match r with
 | some k=>
  if k >0 then
   if(i+k+1==a.size)=true then pure (.done (some (Ul a b (o++a.extract i (i+k)) (i+k) j),o++a.extract i (i+k),i+k,j,mg,k,bc))
   else if(i+k==a.size)=true then pure (.done (some (L4 a b (o++a.extract i (i+k)) (i+k) j),o++a.extract i (i+k),i+k,j,mg,k,bc))
   else Y9 a b mg k bc (o++a.extract i (i+k)) (i+k) j
  else Y9 a b mg k bc o i j
 | _=>pure (.done (some (L4 a b o i j),o,i,j,mg,ac,bc))
def We (c:R5):StateT WW Sem (ForInStep R5):=do
 let d <- forIn [:a.size+b.size] ((none,c.2.1,c.2.2.1,c.2.2.2.1,0,0):R6) λ_ d=>R1 a b c.2.2.2.2 d.2.1 d.2.2.1 d.2.2.2.1 d.2.2.2.2.1 d.2.2.2.2.2
 match d.1 with
 | some r=>pure (.done (some r,d.2.1,d.2.2.1,d.2.2.2.1,c.2.2.2.2))
 | none=>do
  liftM (rule "list.sort.gallop")
  let e <- forIn [:a.size+b.size] ((none,d.2.1,d.2.2.1,d.2.2.2.1,c.2.2.2.2+1,d.2.2.2.2.1,d.2.2.2.2.2):R7) λ_ e=>if e.2.2.2.2.1 >1 then Y_ a b (e.2.2.2.2.1 - 1) e.2.2.2.2.2.1 e.2.2.2.2.2.2 e.2.1 e.2.2.1 e.2.2.2.1 else Y_ a b e.2.2.2.2.1 e.2.2.2.2.2.1 e.2.2.2.2.2.2 e.2.1 e.2.2.1 e.2.2.2.1
  match e.1 with
  | some r=>pure (.done (some r,e.2.1,e.2.2.1,e.2.2.2.1,e.2.2.2.2.1))
  | none=>do
   modify λs=>cS s (e.2.2.2.2.1+1)
   pure (.yield (none,e.2.1,e.2.2.1,e.2.2.2.1,e.2.2.2.2.1+1))
end
def yb {f g:α ->StateT σ Sem β}(h: ∀x,f x=g x):(m >>=f)=(m >>=g):=by rw[funext h]
def G2 {f g:α ->StateT σ Sem β}(e:m=m')(h: ∀x,f x=g x):(m >>=f)=(m' >>=g):=by rw[e,funext h]
def GI [Decidable c]{x y x' y':α}(h:x=x')(h':y=y'):(if c then x else y)=(if c then x' else y'):=by rw[h,h']
def GR {r:Std.Legacy.Range}{f g:Nat ->β ->StateT σ Sem (ForInStep β)}(h: ∀i c,f i c=g i c):forIn r c f=forIn r c g:=by rw[funext λi=>funext (h i)]
section
variable (a b:gH gG)
theorem Gv:mLo a b=(do
  liftM (rule "list.sort.merge-lo")
  let x <- elem' b 0
  if(1==b.size)=true then pure (L4 a b #[x] 0 1)
  else if(0+1==a.size)=true then pure (Ul a b #[x] 0 1)
  else do
   let g <- get
   let c <- forIn [:a.size+b.size] ((none, #[x],0,1,gallopOf g):R5) λ_ c=>We a b c
   match c.1 with
   | some r=>pure r
   | none=>unsupported "internal:list.sort.merge-bound"):=by
 exact yb λ_=>yb λx=> ?_
 exact GI rfl (GI rfl (yb λg=>G2 (GR λ_ c=> ?_) λc=> ?_))
 exact G2 (GR λ_ d=>rfl) λd=> ?_
 let⟨r,d⟩:=d
 cases r with
 | some r=>rfl
 | none =>
  exact yb λ_=>G2 (GR λ_ e=> ?_) λe=> ?_;exact GI ?_ ?_<;>
  .refine yb λ_=>yb λx=>yb λr=> ?_;cases r with
   | none=>rfl
   | some k=>
    exact GI (GI rfl (GI rfl ?_)) ?_<;>
    .exact yb λy=>GI rfl (yb λz=>yb λr=> ?_);cases r<;>rfl
  let⟨r,e⟩:=e;cases r<;>rfl
 let⟨r,c⟩:=c
 cases r<;>rfl
abbrev L7 (o:gH gG)(i j:Nat):gH gG:=a.extract 0 i++b.extract 0 j++o.reverse
abbrev UA (o:gH gG)(i j:Nat):gH gG:=b.extract 0 j++a.extract 0 i++o.reverse
def Q0 (mg:Nat)(i j:Nat)(o:gH gG)(ac bc:Nat):StateT WW Sem (ForInStep (e9 (gH gG)×Nat×Nat×gH gG×Nat×Nat)):=do
 let x <- elem' b (j - 1)
 let y <- elem' a (i - 1)
 let g <- lt' x y
 match g with
 | some g=>
  if g=true then do
   let x <- elem' a (i - 1)
   if(i - 1==0)=true then pure (.done (some (L7 a b (o.push x) (i - 1) j),i - 1,j,o.push x,ac+1,0))
   else if ac+1≥mg then pure (.done (none,i - 1,j,o.push x,ac+1,0))
   else pure (.yield (none,i - 1,j,o.push x,ac+1,0))
  else do
   let x <- elem' b (j - 1)
   if(j - 1==1)=true then pure (.done (some (UA a b (o.push x) i (j - 1)),i,j - 1,o.push x,0,bc+1))
   else if bc+1≥mg then pure (.done (none,i,j - 1,o.push x,0,bc+1))
   else pure (.yield (none,i,j - 1,o.push x,0,bc+1))
 | _=>pure (.done (some (L7 a b o i j),i,j,o,ac,bc))
abbrev S7:=e9 (gH gG)×Nat×Nat×gH gG×Nat×Nat×Nat
def Y8 (mg ac bc:Nat)(i j:Nat)(o:gH gG):StateT WW Sem (ForInStep S7):=do
 let x <- elem' a (i - 1)
 if(i - 1==0)=true then pure (.done (some (L7 a b (o.push x) (i - 1) j),i - 1,j,o.push x,mg,ac,bc))
 else if(decide (ac<7) && decide (bc<7))=true then pure (.done (none,i - 1,j,o.push x,mg,ac,bc))
 else pure (.yield (none,i - 1,j,o.push x,mg,ac,bc))
def Y' (mg ac bc:Nat)(i j:Nat)(o:gH gG):StateT WW Sem (ForInStep S7):=do
 let x <- elem' b (j - 1)
 if(j - 1==1)=true then pure (.done (some (UA a b (o.push x) i (j - 1)),i,j - 1,o.push x,mg,ac,bc))
 else do
  let y <- elem' a (i - 1)
  let r <- NZ true y b 0 (j - 1) (j - 1 - 1)
  match r with
  | some k=>
   if j - 1 - k >0 then
    if(k==1)=true then pure (.done (some (UA a b (o.push x++(b.extract k (j - 1)).reverse) i k),i,k,o.push x++(b.extract k (j - 1)).reverse,mg,ac,j - 1 - k))
    else if(k==0)=true then pure (.done (some (L7 a b (o.push x++(b.extract k (j - 1)).reverse) i k),i,k,o.push x++(b.extract k (j - 1)).reverse,mg,ac,j - 1 - k))
    else Y8 a b mg ac (j - 1 - k) i k (o.push x++(b.extract k (j - 1)).reverse)
   else Y8 a b mg ac (j - 1 - k) i (j - 1) (o.push x)
  | _=>pure (.done (some (L7 a b (o.push x) i (j - 1)),i,j - 1,o.push x,mg,ac,bc))
def Za (mg ac bc:Nat)(i j:Nat)(o:gH gG):StateT WW Sem (ForInStep S7):=do
 modify λs=>cS s mg
 let x <- elem' b (j - 1)
 let r <- NZ false x a 0 i (i - 1)
 match r with
 | some k=>
  if i - k >0 then
   if(k==0)=true then pure (.done (some (L7 a b (o++(a.extract k i).reverse) k j),k,j,o++(a.extract k i).reverse,mg,i - k,bc))
   else Y' a b mg (i - k) bc k j (o++(a.extract k i).reverse)
  else Y' a b mg (i - k) bc i j o
 | _=>pure (.done (some (L7 a b o i j),i,j,o,mg,ac,bc))
abbrev S5:=e9 (gH gG)×Nat×Nat×gH gG×Nat
def Wf (c:S5):StateT WW Sem (ForInStep S5):=do
 let d <- forIn [:a.size+b.size] ((none,c.2.1,c.2.2.1,c.2.2.2.1,0,0):e9 (gH gG)×Nat×Nat×gH gG×Nat×Nat) λ_ d=>Q0 a b c.2.2.2.2 d.2.1 d.2.2.1 d.2.2.2.1 d.2.2.2.2.1 d.2.2.2.2.2
 match d.1 with
 | some r=>pure (.done (some r,d.2.1,d.2.2.1,d.2.2.2.1,c.2.2.2.2))
 | none=>do
  liftM (rule "list.sort.gallop")
  let e <- forIn [:a.size+b.size] ((none,d.2.1,d.2.2.1,d.2.2.2.1,c.2.2.2.2+1,d.2.2.2.2.1,d.2.2.2.2.2):S7) λ_ e=>if e.2.2.2.2.1 >1 then Za a b (e.2.2.2.2.1 - 1) e.2.2.2.2.2.1 e.2.2.2.2.2.2 e.2.1 e.2.2.1 e.2.2.2.1 else Za a b e.2.2.2.2.1 e.2.2.2.2.2.1 e.2.2.2.2.2.2 e.2.1 e.2.2.1 e.2.2.2.1
  match e.1 with
  | some r=>pure (.done (some r,e.2.1,e.2.2.1,e.2.2.2.1,e.2.2.2.2.1))
  | none=>do
   modify λs=>cS s (e.2.2.2.2.1+1)
   pure (.yield (none,e.2.1,e.2.2.1,e.2.2.2.1,e.2.2.2.2.1+1))
theorem Gw:mHi a b=(do
  liftM (rule "list.sort.merge-hi")
  let x <- elem' a (a.size - 1)
  if(a.size - 1==0)=true then pure (L7 a b #[x] (a.size - 1) b.size)
  else if(b.size==1)=true then pure (UA a b #[x] (a.size - 1) b.size)
  else do
   let g <- get
   let c <- forIn [:a.size+b.size] ((none,a.size - 1,b.size, #[x],gallopOf g):S5) λ_ c=>Wf a b c
   match c.1 with
   | some r=>pure r
   | none=>unsupported "internal:list.sort.merge-bound"):=by
 exact yb λ_=>yb λx=> ?_
 exact GI rfl (GI rfl (yb λg=>G2 (GR λ_ c=> ?_) λc=> ?_))
 exact G2 (GR λ_ d=>rfl) λd=> ?_
 let⟨r,d⟩:=d
 cases r with
 | some r=>rfl
 | none =>
  exact yb λ_=>G2 (GR λ_ e=> ?_) λe=> ?_;exact GI ?_ ?_<;>
  .refine yb λ_=>yb λx=>yb λr=> ?_;cases r with
   | none=>rfl
   | some k=>
    exact GI (GI rfl ?_) ?_<;>
    .exact yb λy=>GI rfl (yb λz=>yb λr=> ?_);cases r<;>rfl
  let⟨r,e⟩:=e;cases r<;>rfl
 let⟨r,c⟩:=c
 cases r<;>rfl
end
def gO (h:i<xs.size):xs.toList[i]? =some (cB xs i):=by rw[<- K9 h];simp
def GS (h:i<xs.size):xs.toList.drop i=cB xs i::xs.toList.drop (i+1):=by have h':i<xs.toList.length:= ⇑h;have e:=gO h;rw[aO h'] at e;rw[List.drop_eq_getElem_cons h',bu e]
def z7 (h:i<xs.size):(xs.toList.drop i).take 1= [cB xs i]:=by rw[GS h];rfl
def jf (h:y∈xs.toList.drop i): ∃k,cW (i<=k) (k<xs.size) (y=cB xs k):=by let⟨n,hn⟩:=List.mem_iff_getElem?.mp h;rw[List.getElem?_drop] at hn;have hl:=(bv.mp hn).1;have rY:i+n<xs.size:= ⇑hl;rw[gO rY] at hn;show#[i+n, ∅,rY,(bu hn).symm]
def yu (h:y∈(xs.toList.drop i).take k): ∃n,fj (i<=n) (n<i+k) (n<xs.size) (y=cB xs n):=by let⟨n,hn⟩:=List.mem_iff_getElem?.mp h;rw[List.getElem?_take] at hn;split at hn;rename_i hk;rw[List.getElem?_drop] at hn;have hl:=(bv.mp hn).1;have rY:i+n<xs.size:= ⇑hl;rw[gO rY] at hn;show#[i+n, ∅, ∅,rY,(bu hn).symm];cases hn
def nu (O:Ord less)(h:xs.toList.Pairwise (LE less))(kK:i<=j)(hj:j<xs.size):LE less (cB xs i) (cB xs j):=by
 by_cases c:i=j;subst c;show O.refl _;rw[List.pairwise_iff_getElem] at h;have rZ:i<xs.toList.length:=by simp;lia
 have S_:j<xs.toList.length:= ⇑hj;have:=h i j rZ S_ ∅;have e1:=gO (xs:=xs) (i:=i) ∅;have e2:=gO hj;rw[aO rZ] at e1;rw[aO S_] at e2;rwa [bu e1,bu e2] at this
theorem yB (O:Ord less)(h:xs.toList.Pairwise (LE less))(hn:i+n<=xs.size):Sg less xs i (i+n):=λx y _ Zv hy=>nu O h Zv ∅
def Bg (xs:gH gG)(i k:Nat):(xs.extract i (i+k)).toList=(xs.toList.drop i).take k:=by rw[Array.toList_extract,List.extract_eq_take_drop];congr 1;lia
def uo (xs:gH gG)(i:Nat):(xs.extract i xs.size).toList=xs.toList.drop i:=by rw[Array.toList_extract,List.extract_eq_take_drop];show List.take_of_length_le (by simp)
section
variable {prog:Program}{w:World}{A:Around}{E:c7 ->dz ->Prop}{s:dz}{kd:SortKind}{a₀:gH gG}{less:gG ->gG ->Bool}
structure yh (less:Keyed ->Keyed ->Bool)(a₀ a b:Array Keyed):Prop where
 sa:a.toList.Pairwise (LE less)
 sb:b.toList.Pairwise (LE less)
 ma: ∀i,i<a.size ->cB a i∈a₀.toList
 mb: ∀i,i<b.size ->cB b i∈a₀.toList
 na:1<=a.size
 nb:1<=b.size
 h0:less (cB b 0) (cB a 0)=true
 hl: ∀j,j<b.size ->less (cB b j) (cB a (a.size - 1))=true
def vU (less:gG ->gG ->Bool)(a b r:gH gG):Prop:=r.toList.Perm (a.toList++b.toList) /\ r.toList.Pairwise (LE less)
structure JL (less:Keyed ->Keyed ->Bool)(a b o:Array Keyed)(i j:Nat):Prop where
 mi:MI less a.toList b.toList o.toList i j
 hi:i+1<a.size
 hj:j<b.size
variable {a b:gH gG}
def yJ (T:yh less a₀ a b)(h:MI less a.toList b.toList o.toList i j)(hj:b.size<=j \/ a.size<=i):vU less a b (L4 a b o i j):=by
 unfold vU L4;rw[bS,bS,uo,uo];have:=h.swap.fin T.sb T.sa λx hx y hy=>by obtain hj | hj:=hj;let⟨k,h1,h2,_⟩:=jf hy;lia;let⟨k,h1,h2,_⟩:=jf hx;lia
 show#[this.1.trans dO,this.2]
def yI (O:Ord less)(T:yh less a₀ a b)(h:MI less a.toList b.toList o.toList i j)(hi:i+1=a.size):vU less a b (Ul a b o i j):=by unfold vU Ul;rw[bS,bS,uo,uo];exact h.fin T.sa T.sb λx hx y hy=> ?_;let⟨k,h1,h2,rfl⟩:=jf hx;let⟨k',ZG,Ql,rfl⟩:=jf hy;rw[show k'=a.size - 1 by lia];show O.le (T.hl k h2)
def Cv (O:Ord less)(T:yh less a₀ a b){o:gH gG}(h:MI less a.toList b.toList o.toList i j)(hj:j<b.size)(hc:i<a.size ->LE less (cB b j) (cB a i)):MI less a.toList b.toList (o.push (cB b j)).toList i (j+1):=by have:=(h.swap.Ot T.sb 1 λx hx y hy=>by rw[z7 hj] at hx;rw[be.mp hx];let⟨k,h1,h2,rfl⟩:=jf hy;show O.trans _ _ _ (hc ∅) (nu O T.sa h1 h2)).swap;rw[z7 hj] at this;rwa [Array.toList_push]
def Ja (O:Ord less)(T:yh less a₀ a b){o:gH gG}(h:MI less a.toList b.toList o.toList i j)(hi:i<a.size)(hc:j<b.size ->LE less (cB a i) (cB b j)):MI less a.toList b.toList (o.push (cB a i)).toList (i+1) j:=by
 have:=h.Ot T.sa 1 λx hx y hy=>by rw[z7 hi] at hx;rw[be.mp hx];let⟨k,h1,h2,rfl⟩:=jf hy;show O.trans _ _ _ (hc ∅) (nu O T.sb h1 h2)
 rw[z7 hi] at this;rwa [Array.toList_push]
def TU (less:gG ->gG ->Bool)(a b:gH gG)(st:WW)(N:Nat)(r:ForInStep R7)(bH:WW):Prop:=(∃g,bH=cS st g) /\ ((cg λx c=>r= .done (some x,c) /\ vU less a b x) \/ (fY λo i j c=>cW (r= .done (none,o,i,j,c) \/ r= .yield (none,o,i,j,c)) (JL less a b o i j) (N<=i+j)))
def wp_p3L (O:Ord less)(T:yh less a₀ a b){st bH:WW}(hg: ∃g,bH=cS st g)(J:JL less a b o i j)(hc:LE less (cB a i) (cB b j))(hN:N<=i+j):wpS (model prog w) A E s (Y7 a b mg ac bc o i j) (TU less a b st N) bH:=by
 unfold Y7;have hi:=J.hi;exact aw (wp_elem ∅ ?_);have m:=Ja O T J.mi ∅ λ_=>hc;by_cases c:i+1+1=a.size;rw[ao ⇑c];show aH #[hg, .inl #[_,_,rfl,yI O T m c]];rw[ak ⇑c];have J':JL less a b (o.push (cB a i)) (i+1) j:=#[m, ∅,J.hj]
 split;show aH #[hg, .inr #[_,_,_,_, .inl rfl,J', ∅]];show aH #[hg, .inr #[_,_,_,_, .inr rfl,J', ∅]]
def wp_p2L (O:Ord less)(L:iU prog w A E s kd a₀ less)(T:yh less a₀ a b){st bH:WW}(hk:kindOf bH=kd)(hg: ∃g,bH=cS st g)(J:JL less a b o i j)(hc:less (cB b j) (cB a i)=true)(hN:N<=i+j):wpS (model prog w) A E s (Y9 a b mg ac bc o i j) (TU less a b st N) bH:=by
 unfold Y9;have hi:=J.hi;have hj:=J.hj;exact aw (wp_elem hj ?_);have m:=Cv O T J.mi hj λ_=>O.le hc;by_cases c:j+1=b.size;rw[ao ⇑c];show aH #[hg, .inl #[_,_,rfl,yJ T m (.inl ∅)]];rw [ak ⇑c];exact aw (wp_elem ∅ ?_);exact aw (wp_galL O L hk (T.ma i ∅) (λk hk=>#[∅,T.mb _ ∅]) ∅ (yB O T.sb ∅) λk h1 h2 h3=> ?_);dsimp only;by_cases ck:k >0;rw[ao ck];have m2:MI less a.toList b.toList (o.push (cB b j)++b.extract (j+1) (j+1+k)).toList i (j+1+k):=by rw[bS,Bg];exact(m.swap.Ot T.sb k λx hx y hy=> ?_).swap;let⟨n,n1,n2,n3,rfl⟩:=yu hx;let⟨k',k1,k2,rfl⟩:=jf hy;have:=h2 (n - (j+1)) ∅;rw[show j+1+(n - (j+1))=n by lia] at this;show O.trans _ _ _ (O.le this) (nu O T.sa k1 k2)
 by_cases c2:j+1+k=b.size;rw[ao ⇑c2];show aH #[hg, .inl #[_,_,rfl,yJ T m2 (.inl ∅)]];rw[ak ⇑c2];show wp_p3L O T hg #[m2,hi, ∅] (h3 k (aq _) ∅) ∅;rw[ak ck];have:k=0:= ∅;subst this;show wp_p3L O T hg #[m,hi, ∅] (h3 0 (aq _) ∅) ∅
def wp_p1L (O:Ord less)(L:iU prog w A E s kd a₀ less)(T:yh less a₀ a b){st bH:WW}(hk:kindOf st=kd)(hg: ∃g,bH=cS st g)(J:JL less a b o i j)(hN:N<=i+j):wpS (model prog w) A E s (Y_ a b mg ac bc o i j) (TU less a b st N) bH:=by
 unfold Y_;have hi:=J.hi;have hj:=J.hj;exact aw (wpS_modify ?_);have n6: ∃g,cS bH mg=cS st g:=by let⟨g,rfl⟩:=hg;show#[mg,rfl]
 have B6:kindOf (cS bH mg)=kd:=by let⟨g,rfl⟩:=hg;show hk
 exact aw (wp_elem hj ?_);exact aw (wp_galR O L B6 (T.mb j hj) (λk hk=>#[∅,T.ma _ ∅]) ∅ (yB O T.sa ∅) λk h1 h2 h3=> ?_);dsimp only;have hkl:i+k<a.size:=by by_cases c:i+k<a.size;show c;have:=h2 (a.size - 1 - i) ∅;rw[show i+(a.size - 1 - i)=a.size - 1 by lia] at this;unfold LE at this;rw[T.hl j hj] at this;cases this
 have Qf:=h3 k (aq _) ∅;by_cases ck:k >0;rw[ao ck];have m2:MI less a.toList b.toList (o++a.extract i (i+k)).toList (i+k) j:=by rw[bS,Bg];exact J.mi.Ot T.sa k λx hx y hy=> ?_;let⟨n,n1,n2,n3,rfl⟩:=yu hx;let⟨k',k1,k2,rfl⟩:=jf hy;have:=h2 (n - i) ∅;rw[show i+(n - i)=n by lia] at this;show O.trans _ _ _ this (nu O T.sb k1 k2)
 by_cases c2:i+k+1=a.size;rw[ao ⇑c2];show aH #[n6, .inl #[_,_,rfl,yI O T m2 c2]];rw[ak ⇑c2,ak (by simp;lia)];show wp_p2L O L T B6 n6 #[m2, ∅,hj] Qf ∅;rw[ak ck];have:k=0:= ∅;subst this;show wp_p2L O L T B6 n6 J Qf hN
def wp_one1 (O:Ord less)(L:iU prog w A E s kd a₀ less)(T:yh less a₀ a b)(hk:kindOf bH=kd)(J:JL less a b o i j)(h1: ∀x c,vU less a b x ->Q (.done (some x,c)) bH)(h2: ∀o i' j' c,JL less a b o i' j' ->i'+j'=i+j+1 ->Q (.done (none,o,i',j',c)) bH /\ Q (.yield (none,o,i',j',c)) bH): wpS (model prog w) A E s (R1 a b mg o i j ac bc) Q bH:=by
 unfold R1;have hi:=J.hi;have hj:=J.hj;exact aw (wp_elem hj (aw (wp_elem ∅ (aw (L _ _ _ _ (T.mb j hj) (T.ma i ∅) hk ?_)))));dsimp only;cases e:less (cB b j) (cB a i) with
 | true=>simp![b0];exact aw (wp_elem hj ?_);have m:=Cv O T J.mi hj λ_=>O.le e;by_cases c:j+1=b.size;rw[ao ⇑c];show aH (h1 _ _ (yJ T m (.inl ∅)));rw[ak ⇑c];have:=h2 _ i (j+1) (0,bc+1) #[m,hi, ∅] ∅;split;show aH this.1;show aH this.2
 | false=>simp![aC,bC];exact aw (wp_elem ∅ ?_);have m:=Ja O T J.mi ∅ λ_=>e;by_cases c:i+1+1=a.size;rw[ao ⇑c];show aH (h1 _ _ (yI O T m c));rw[ak ⇑c];have:=h2 _ (i+1) j (ac+1,0) #[m, ∅,hj] ∅;split;show aH this.1;show aH this.2
def wp_mLo (O:Ord less)(L:iU prog w A E s kd a₀ less)(T:yh less a₀ a b){st:WW}(hk:kindOf st=kd)(h: ∀r g,vU less a b r ->Q r (cS st g)):wpS (model prog w) A E s (mLo a b) Q st:=by
 rw[Gv];have na:=T.na;have nb:=T.nb;exact aw (wpS_lift (wpAny_rule #[rfl,?_]));exact aw (wp_elem ∅ ?_);have h': ∀r,vU less a b r ->Q r st:=λr hr=>h r (gallopOf st) hr;have m:MI less a.toList b.toList (#[cB b 0]:gH gG).toList 0 1:=by
  have m0:MI less a.toList b.toList (#[]:gH gG).toList 0 0:=#[by simp,by simp,by simp,by simp]
  show Cv O T m0 ∅ λ_=>O.le T.h0
 by_cases c:1=b.size;rw[ao ⇑c];show aH (h' _ (yJ T m (.inl ∅)));rw[ak ⇑c];by_cases c2:0+1=a.size;rw[ao ⇑c2];show aH (h' _ (yI O T m c2));rw[ak ⇑c2];exact aw (wpS_get ?_);exact aw (wpS_mono (cx (I:=λn c bH=>(∃g,bH=cS st g) /\ fY λo i j mg=>cW (c=(none,o,i,j,mg)) (JL less a b o i j) (n+1<=i+j)) (Q:=λc bH=>(∃g,bH=cS st g) /\ cg λx d=>c=(some x,d) /\ vU less a b x) ?_ ?_ #[#[gallopOf st,rfl],_,0,1,_,rfl,#[m, ∅, ∅], ∅]) ?_)
 .rintro n c bH _ hn ⟨hg,o,i,j,mg,rfl,J,hN⟩;unfold We;dsimp only;have B6:kindOf bH=kd:=by let⟨g,rfl⟩:=hg;show hk
  exact aw (wpS_mono (cx (I:=λx c oB=>oB=bH /\ fY λo' i' j' d=>cW (c=(none,o',i',j',d)) (JL less a b o' i' j') (i'+j'=i+j+x)) (Q:=λc oB=>oB=bH /\ ((cg λx d=>c=(some x,d) /\ vU less a b x) \/ fY λo' i' j' d=>cW (c=(none,o',i',j',d)) (JL less a b o' i' j') (i+j+1<=i'+j'))) ?_ ?_ #[rfl,o,i,j,_,rfl,J,rfl]) ?_);rintro x c oB _ hx ⟨rfl,o',i',j',⟨ac,bc⟩,rfl,J',Qj⟩;dsimp only;exact wp_one1 O L T B6 J' (λx c hr=>#[rfl, .inl #[x,c,rfl,hr]]) λo2 i2 j2 c J2 h2=>#[#[rfl, .inr #[o2,i2,j2,c,rfl,J2, ∅]],#[rfl,o2,i2,j2,c,rfl,J2, ∅]]
  rintro c oB ⟨rfl,o',i',j',d,rfl,J',Qj⟩;show#[rfl, .inr #[o',i',j',d,rfl,J', ∅]]
  .rintro c oB ⟨rfl,⟨x,d,rfl,hr⟩ | ⟨o',i',j',⟨ac,bc⟩,rfl,J',Qj⟩⟩;show aH #[hg,x,_,rfl,hr]
   .dsimp only;exact aw (wpS_lift (wpAny_rule #[rfl,?_]));exact aw (wpS_mono (cx (I:=λx c wj=>(∃g,wj=cS st g) /\ fY λo' i' j' d=>cW (c=(none,o',i',j',d)) (JL less a b o' i' j') (i+j+1<=i'+j')) (Q:=λc wj=>(∃g,wj=cS st g) /\ ((cg λx d=>c=(some x,d) /\ vU less a b x) \/ fY λo' i' j' d=>cW (c=(none,o',i',j',d)) (JL less a b o' i' j') (i+j+1<=i'+j'))) ?_ ?_ #[hg,o',i',j',_,rfl,J',Qj]) ?_)
    .rintro x c wj _ hx ⟨GN,o3,i3,j3,⟨mg3,ac3,bc3⟩,rfl,J3,jo⟩;dsimp only;split;all_goals
      exact wpS_mono (wp_p1L O L T hk GN J3 jo) ?_
      rintro r fU ⟨Ta,⟨x,c,rfl,hr⟩ | ⟨o,i,j,c,rfl | rfl,J4,h4⟩⟩
      show#[Ta, .inl #[x,c,rfl,hr]]
      show#[Ta, .inr #[o,i,j,c,rfl,J4,h4]]
      show#[Ta,o,i,j,c,rfl,J4,h4]
    rintro c wj ⟨GN,o3,i3,j3,d,rfl,J3,jo⟩;show#[GN, .inr #[o3,i3,j3,d,rfl,J3,jo]];rintro c wj ⟨GN,⟨x,d,rfl,hr⟩ | ⟨o3,i3,j3,⟨mg3,ac3,bc3⟩,rfl,J3,jo⟩⟩;show aH #[GN,x,_,rfl,hr];dsimp only;exact aw (wpS_modify (aH #[?_,o3,i3,j3,_,rfl,J3, ∅]));let⟨g,rfl⟩:=GN;show#[_,rfl]
 rintro c bH ⟨hg,o,i,j,mg,rfl,J,hN⟩;have:=J.hi;have:=J.hj;lia;rintro c bH ⟨⟨g,rfl⟩,x,d,rfl,hr⟩;show aH (h x g hr)
end
def xf (h:y∈xs.toList.take i): ∃n,cW (n<i) (n<xs.size) (y=cB xs n):=by let⟨n,hn⟩:=List.mem_iff_getElem?.mp h;rw[List.getElem?_take] at hn;split at hn;have hl:=(bv.mp hn).1;have rY:n<xs.size:= ⇑hl;rw[gO rY] at hn;show#[n, ∅,rY,(bu hn).symm];cases hn
def DN (h:y∈(xs.toList.take i).drop k): ∃n,fj (k<=n) (n<i) (n<xs.size) (y=cB xs n):=by rw[List.drop_take] at h;let⟨n,h1,h2,h3,e⟩:=yu h;show#[n,h1, ∅,h3,e]
def YX (h0:1<=i)(h:i<=xs.size):(xs.toList.take i).drop (i - 1)= [cB xs (i - 1)]:=by rw[List.drop_take,show i - (i - 1)=1 by lia,z7 ∅]
def n_ (xs:gH gG)(k i:Nat):(xs.extract k i).toList=(xs.toList.take i).drop k:=by rw[Array.toList_extract,List.extract_eq_take_drop,List.drop_take]
def Fh (xs:gH gG)(i:Nat):(xs.extract 0 i).toList=xs.toList.take i:=by rw[n_,List.drop_zero]
section
variable {prog:Program}{w:World}{A:Around}{E:c7 ->dz ->Prop}{s:dz}{kd:SortKind}{a₀:gH gG}{less:gG ->gG ->Bool}
structure JH (less:Keyed ->Keyed ->Bool)(a b o:Array Keyed)(i j:Nat):Prop where
 mi:MH less a.toList b.toList o.toList.reverse i j
 hi:1<=i
 hj:2<=j
 ia:i<=a.size
 jb:j<=b.size
variable {a b:gH gG}
def oQ (T:yh less a₀ a b)(h:MH less a.toList b.toList o.toList.reverse i j)(hj:i=0 \/ j=0):vU less a b (L7 a b o i j):=by unfold vU L7;rw[bS,bS,Fh,Fh,Array.toList_reverse];exact h.fin T.sa T.sb λx hx y hy=> ?_;obtain hj | hj:=hj;subst hj;simp at hx;subst hj;simp at hy
def uc (O:Ord less)(T:yh less a₀ a b)(h:MH less a.toList b.toList o.toList.reverse i j)(hj:j=1):vU less a b (UA a b o i j):=by
 unfold vU UA;rw[bS,bS,Fh,Fh,Array.toList_reverse];have:=h.swap.fin T.sb T.sa λx hx y hy=>by let⟨n,n1,n2,rfl⟩:=xf hx;let⟨k,k1,k2,rfl⟩:=xf hy;rw[show n=0 by lia];show O.trans _ _ _ (O.le T.h0) (nu O T.sa (de _) k2)
 show#[this.1.trans dO,this.2]
def yM (O:Ord less)(T:yh less a₀ a b){o:gH gG}(h:MH less a.toList b.toList o.toList.reverse i j)(h1:1<=i)(hi:i<=a.size)(hj:j<=b.size)(hc:1<=j ->LE less (cB b (j - 1)) (cB a (i - 1))):MH less a.toList b.toList (o.push (cB a (i - 1))).toList.reverse (i - 1) j:=by
 have:=h.Ot T.sa (k:=i - 1) ∅ λx hx y hy=>by rw[YX h1 hi] at hx;rw[be.mp hx];let⟨k,k1,k2,rfl⟩:=xf hy;show O.trans _ _ _ (nu O T.sb (show k<=j - 1 by lia) ∅) (hc ∅)
 rw[YX h1 hi] at this;rw[Array.toList_push,List.reverse_append];show this
def Eo (O:Ord less)(T:yh less a₀ a b){o:gH gG}(h:MH less a.toList b.toList o.toList.reverse i j)(h1:1<=j)(hi:i<=a.size)(hj:j<=b.size)(hc:1<=i ->LE less (cB a (i - 1)) (cB b (j - 1))):MH less a.toList b.toList (o.push (cB b (j - 1))).toList.reverse i (j - 1):=by have:=(h.swap.Ot T.sb (k:=j - 1) ∅ λx hx y hy=>by rw[YX h1 hj] at hx;rw[be.mp hx];let⟨k,k1,k2,rfl⟩:=xf hy;show O.trans _ _ _ (nu O T.sa (show k<=i - 1 by lia) ∅) (hc ∅)).swap;rw[YX h1 hj] at this;rw[Array.toList_push,List.reverse_append];show this
def Ef (o x:gH gG):(o++x.reverse).toList.reverse=x.toList++o.toList.reverse:=by rw[bS,Array.toList_reverse,List.reverse_append,List.reverse_reverse]
def TR (less:gG ->gG ->Bool)(a b:gH gG)(st:WW)(N:Nat)(r:ForInStep S7)(bH:WW):Prop:=(∃g,bH=cS st g) /\ ((cg λx c=>r= .done (some x,c) /\ vU less a b x) \/ (fY λi j o c=>cW (r= .done (none,i,j,o,c) \/ r= .yield (none,i,j,o,c)) (JH less a b o i j) (i+j<=N)))
def wp_p3H (O:Ord less)(T:yh less a₀ a b){st bH:WW}(hg: ∃g,bH=cS st g)(J:JH less a b o i j)(hc:LE less (cB b (j - 1)) (cB a (i - 1)))(hN:i+j<=N):wpS (model prog w) A E s (Y8 a b mg ac bc i j o) (TR less a b st N) bH:=by
 unfold Y8;have hi:=J.hi;have ia:=J.ia;exact aw (wp_elem ∅ ?_);have m:=yM O T J.mi J.hi J.ia J.jb λ_=>hc;by_cases c:i - 1=0;rw[ao ⇑c];show aH #[hg, .inl #[_,_,rfl,oQ T m (.inl c)]];rw[ak ⇑c];have J':JH less a b (o.push (cB a (i - 1))) (i - 1) j:=#[m, ∅,J.hj, ∅,J.jb]
 split;show aH #[hg, .inr #[_,_,_,_, .inl rfl,J', ∅]];show aH #[hg, .inr #[_,_,_,_, .inr rfl,J', ∅]]
def wp_p2H (O:Ord less)(L:iU prog w A E s kd a₀ less)(T:yh less a₀ a b){st bH:WW}(hk:kindOf bH=kd)(hg: ∃g,bH=cS st g)(J:JH less a b o i j)(hc:LE less (cB a (i - 1)) (cB b (j - 1)))(hN:i+j<=N):wpS (model prog w) A E s (Y' a b mg ac bc i j o) (TR less a b st N) bH:=by
 unfold Y';have hi:=J.hi;have hj:=J.hj;have ia:=J.ia;have jb:=J.jb;exact aw (wp_elem ∅ ?_);have m:=Eo O T J.mi ∅ ia jb λ_=>hc;by_cases c:j - 1=1;rw[ao ⇑c];show aH #[hg, .inl #[_,_,rfl,uc O T m c]];rw [ak ⇑c];exact aw (wp_elem ∅ ?_);have sg:=yB O T.sb (i:=0) (n:=j - 1) ∅;exact aw (wp_galL O L hk (T.ma (i - 1) ∅) (λk hk=>#[∅,T.mb _ ∅]) ∅ sg λk h1 h2 h3=> ?_);dsimp only;simp![Nat.zero_add] at h2 h3;by_cases ck:j - 1 - k >0;rw[ao ck];have m2:MH less a.toList b.toList (o.push (cB b (j - 1))++(b.extract k (j - 1)).reverse).toList.reverse i k:=by rw[Ef,n_];exact(m.swap.Ot T.sb ∅ λx hx y hy=> ?_).swap;let⟨n,n1,n2,n3,rfl⟩:=DN hx;let⟨k',k1,k2,rfl⟩:=xf hy;show O.trans _ _ _ (nu O T.sa (show k'<=i - 1 by lia) ∅) (h3 n n1 n2)
 by_cases c2:k=1;rw[ao ⇑c2];show aH #[hg, .inl #[_,_,rfl,uc O T m2 c2]];rw[ak ⇑c2];by_cases c3:k=0;rw[ao ⇑c3];show aH #[hg, .inl #[_,_,rfl,oQ T m2 (.inr c3)]];rw[ak ⇑c3];show wp_p3H O T hg #[m2,hi, ∅,ia, ∅] (O.le (h2 (k - 1) ∅)) ∅;rw[ak ck];show wp_p3H O T hg #[m,hi, ∅,ia, ∅] (O.le (h2 (j - 1 - 1) ∅)) ∅
def wp_p1H (O:Ord less)(L:iU prog w A E s kd a₀ less)(T:yh less a₀ a b){st bH:WW}(hk:kindOf st=kd)(hg: ∃g,bH=cS st g)(J:JH less a b o i j)(hN:i+j<=N):wpS (model prog w) A E s (Za a b mg ac bc i j o) (TR less a b st N) bH:=by
 unfold Za;have hi:=J.hi;have hj:=J.hj;have ia:=J.ia;have jb:=J.jb;exact aw (wpS_modify ?_);have n6: ∃g,cS bH mg=cS st g:=by let⟨g,rfl⟩:=hg;show#[mg,rfl]
 have B6:kindOf (cS bH mg)=kd:=by let⟨g,rfl⟩:=hg;show hk
 exact aw (wp_elem ∅ ?_);have sg:=yB O T.sa (i:=0) (n:=i) ∅;exact aw (wp_galR O L B6 (T.mb (j - 1) ∅) (λk hk=>#[∅,T.ma _ ∅]) ∅ sg λk h1 h2 h3=> ?_);dsimp only;simp![Nat.zero_add] at h2 h3;by_cases ck:i - k >0;rw[ao ck];have m2:MH less a.toList b.toList (o++(a.extract k i).reverse).toList.reverse k j:=by rw[Ef,n_];exact J.mi.Ot T.sa ∅ λx hx y hy=> ?_;let⟨n,n1,n2,n3,rfl⟩:=DN hx;let⟨k',k1,k2,rfl⟩:=xf hy;show O.trans _ _ _ (nu O T.sb (show k'<=j - 1 by lia) ∅) (O.le (h3 n n1 n2))
 by_cases c2:k=0;rw[ao ⇑c2];show aH #[n6, .inl #[_,_,rfl,oQ T m2 (.inl c2)]];rw[ak ⇑c2];show wp_p2H O L T B6 n6 #[m2, ∅,hj, ∅,jb] (h2 (k - 1) ∅) ∅;rw[ak ck];show wp_p2H O L T B6 n6 J (h2 (i - 1) ∅) hN
def wp_two1 (O:Ord less)(L:iU prog w A E s kd a₀ less)(T:yh less a₀ a b)(hk:kindOf bH=kd)(J:JH less a b o i j)(h1: ∀x c,vU less a b x ->Q (.done (some x,c)) bH)(h2: ∀i' j' o c,JH less a b o i' j' ->i'+j'+1=i+j ->Q (.done (none,i',j',o,c)) bH /\ Q (.yield (none,i',j',o,c)) bH): wpS (model prog w) A E s (Q0 a b mg i j o ac bc) Q bH:=by
 unfold Q0;have hi:=J.hi;have hj:=J.hj;have ia:=J.ia;have jb:=J.jb;exact aw (wp_elem ∅ (aw (wp_elem ∅ (aw (L _ _ _ _ (T.mb (j - 1) ∅) (T.ma (i - 1) ∅) hk ?_)))));dsimp only;cases e:less (cB b (j - 1)) (cB a (i - 1)) with
 | true=>simp![b0];exact aw (wp_elem ∅ ?_);have m:=yM O T J.mi hi ia jb λ_=>O.le e;by_cases c:i - 1=0;rw[ao ⇑c];show aH (h1 _ _ (oQ T m (.inl c)));rw[ak ⇑c];have:=h2 (i - 1) j _ (ac+1,0) #[m, ∅,hj, ∅,jb] ∅;split;show aH this.1;show aH this.2
 | false=>simp![aC,bC];exact aw (wp_elem ∅ ?_);have m:=Eo O T J.mi ∅ ia jb λ_=>e;by_cases c:j - 1=1;rw[ao ⇑c];show aH (h1 _ _ (uc O T m c));rw[ak ⇑c];have:=h2 i (j - 1) _ (0,bc+1) #[m,hi, ∅,ia, ∅] ∅;split;show aH this.1;show aH this.2
def wp_mHi (O:Ord less)(L:iU prog w A E s kd a₀ less)(T:yh less a₀ a b){st:WW}(hk:kindOf st=kd)(h: ∀r g,vU less a b r ->Q r (cS st g)):wpS (model prog w) A E s (mHi a b) Q st:=by
 rw[Gw];have na:=T.na;have nb:=T.nb;exact aw (wpS_lift (wpAny_rule #[rfl,?_]));exact aw (wp_elem ∅ ?_);have h': ∀r,vU less a b r ->Q r st:=λr hr=>h r (gallopOf st) hr;have m:MH less a.toList b.toList (#[cB a (a.size - 1)]:gH gG).toList.reverse (a.size - 1) b.size:=by
  have m0:MH less a.toList b.toList (#[]:gH gG).toList.reverse a.size b.size:=#[by simp,by simp,by simp,by simp]
  show yM O T m0 ∅ (aq _) (aq _) λ_=>O.le (T.hl _ ∅)
 by_cases c:a.size - 1=0;rw[ao ⇑c];show aH (h' _ (oQ T m (.inl c)));rw[ak ⇑c];by_cases c2:b.size=1;rw[ao ⇑c2];show aH (h' _ (uc O T m c2));rw[ak ⇑c2];exact aw (wpS_get ?_);exact aw (wpS_mono (cx (I:=λn c bH=>(∃g,bH=cS st g) /\ fY λi j o mg=>cW (c=(none,i,j,o,mg)) (JH less a b o i j) (i+j+n<a.size+b.size)) (Q:=λc bH=>(∃g,bH=cS st g) /\ cg λx d=>c=(some x,d) /\ vU less a b x) ?_ ?_ #[#[gallopOf st,rfl],_,_,_,_,rfl,#[m, ∅, ∅, ∅, ∅], ∅]) ?_)
 .rintro n c bH _ hn ⟨hg,i,j,o,mg,rfl,J,hN⟩;unfold Wf;dsimp only;have B6:kindOf bH=kd:=by let⟨g,rfl⟩:=hg;show hk
  exact aw (wpS_mono (cx (I:=λx c oB=>oB=bH /\ fY λi' j' o' d=>cW (c=(none,i',j',o',d)) (JH less a b o' i' j') (i'+j'+x=i+j)) (Q:=λc oB=>oB=bH /\ ((cg λx d=>c=(some x,d) /\ vU less a b x) \/ fY λi' j' o' d=>cW (c=(none,i',j',o',d)) (JH less a b o' i' j') (i'+j'+1<=i+j))) ?_ ?_ #[rfl,i,j,o,_,rfl,J,rfl]) ?_);rintro x c oB _ hx ⟨rfl,i',j',o',⟨ac,bc⟩,rfl,J',Qj⟩;dsimp only;exact wp_two1 O L T B6 J' (λx c hr=>#[rfl, .inl #[x,c,rfl,hr]]) λi2 j2 o2 c J2 h2=>#[#[rfl, .inr #[i2,j2,o2,c,rfl,J2, ∅]],#[rfl,i2,j2,o2,c,rfl,J2, ∅]]
  rintro c oB ⟨rfl,i',j',o',d,rfl,J',Qj⟩;show#[rfl, .inr #[i',j',o',d,rfl,J', ∅]]
  .rintro c oB ⟨rfl,⟨x,d,rfl,hr⟩ | ⟨i',j',o',⟨ac,bc⟩,rfl,J',Qj⟩⟩;show aH #[hg,x,_,rfl,hr]
   .dsimp only;exact aw (wpS_lift (wpAny_rule #[rfl,?_]));exact aw (wpS_mono (cx (I:=λx c wj=>(∃g,wj=cS st g) /\ fY λi' j' o' d=>cW (c=(none,i',j',o',d)) (JH less a b o' i' j') (i'+j'+1<=i+j)) (Q:=λc wj=>(∃g,wj=cS st g) /\ ((cg λx d=>c=(some x,d) /\ vU less a b x) \/ fY λi' j' o' d=>cW (c=(none,i',j',o',d)) (JH less a b o' i' j') (i'+j'+1<=i+j))) ?_ ?_ #[hg,i',j',o',_,rfl,J',Qj]) ?_)
    .rintro x c wj _ hx ⟨GN,i3,j3,o3,⟨mg3,ac3,bc3⟩,rfl,J3,jo⟩;dsimp only;split;all_goals
      exact wpS_mono (wp_p1H O L T (N:=i+j - 1) hk GN J3 ∅) ?_
      rintro r fU ⟨Ta,⟨x,c,rfl,hr⟩ | ⟨i4,j4,o4,c,rfl | rfl,J4,h4⟩⟩
      show#[Ta, .inl #[x,c,rfl,hr]]
      show#[Ta, .inr #[i4,j4,o4,c,rfl,J4, ∅]]
      show#[Ta,i4,j4,o4,c,rfl,J4, ∅]
    rintro c wj ⟨GN,i3,j3,o3,d,rfl,J3,jo⟩;show#[GN, .inr #[i3,j3,o3,d,rfl,J3,jo]];rintro c wj ⟨GN,⟨x,d,rfl,hr⟩ | ⟨i3,j3,o3,⟨mg3,ac3,bc3⟩,rfl,J3,jo⟩⟩;show aH #[GN,x,_,rfl,hr];dsimp only;exact aw (wpS_modify (aH #[?_,i3,j3,o3,_,rfl,J3, ∅]));let⟨g,rfl⟩:=GN;show#[_,rfl]
 rintro c bH ⟨hg,i,j,o,mg,rfl,J,hN⟩;have:=J.hi;have:=J.hj;lia;rintro c bH ⟨⟨g,rfl⟩,x,d,rfl,hr⟩;show aH (h x g hr)
end
def DF (xs:gH gG)(at_:Nat)(l:cA (gG×Nat)):gH gG:=l.foldl (λa (p,j)=>a.setIfInBounds (at_+j) p) xs
theorem Ca (at_ n:Nat): ∀ (ms:cA gG) (k:Nat) (xs:gH gG),at_+k+ms.length<=xs.size ->(DF xs at_ (ms.zipIdx k))[n]? =if at_+k<=n /\ n<at_+k+ms.length then ms[n - (at_+k)]? else xs[n]?
 | [],k,xs,h=>by rw[ak (by simp)];rfl
 | p ::ms,k,xs,h=>by rw[aB] at h;change(DF (xs.setIfInBounds (at_+k) p) at_ (ms.zipIdx (k+1)))[n]? =_;rw[Ca at_ n ms (k+1) _ (by rw[Array.size_setIfInBounds];lia)];rw[aB];by_cases c:n=at_+k;subst c;rw[ak ∅,ao ∅,Array.getElem?_setIfInBounds_self_of_lt ∅];simp;rw[Array.getElem?_setIfInBounds_ne (du c)];by_cases c2:at_+(k+1) <=n /\ n<at_+(k+1)+ms.length;rw[ao c2,ao ∅,show n - (at_+k)=(n - (at_+(k+1)))+1 by lia,List.getElem?_cons_succ];rw[ak c2,ak ∅]
def Hz (h:at_+ms.length<=xs.size):(DF xs at_ ms.zipIdx).toList=xs.toList.take at_++(ms++xs.toList.drop (at_+ms.length)):=by
 apply List.ext_getElem?;intro n;have e:=Ca at_ n ms 0 xs ∅;rw[Nat.add_zero] at e;have e':(DF xs at_ ms.zipIdx).toList[n]? =(DF xs at_ ms.zipIdx)[n]? :=by simp
 rw[e',e];have hx: ∀k:Nat,xs.toList[k]? =xs[k]? :=λk=>Array.getElem?_toList ..;by_cases c1:n<at_;rw[ak ∅,bn (by rw[bP];simp;lia),List.getElem?_take,ao c1,hx];have lt:(xs.toList.take at_).length=at_:=by rw[bP];simp;lia
 rw[bf ∅,lt];by_cases c2:n<at_+ms.length;rw[ao ∅,bn ∅];rw[ak ∅,bf ∅,List.getElem?_drop,hx];congr 1;lia
def Vl (l:cA gG)(i j k:Nat)(kK:i<=j)(hjk:j<=k)(hk:k<=l.length):l=l.take i++((l.take j).drop i++((l.take k).drop j++l.drop k)):=by
 have e1:(l.take k).drop j++l.drop k=l.drop j:=by rw[List.drop_take];have:=bG (k - j) (l.drop j);rw[List.drop_drop,show j+(k - j)=k by lia] at this;show this
 have e2:(l.take j).drop i++l.drop j=l.drop i:=by rw[List.drop_take];have:=bG (j - i) (l.drop i);rw[List.drop_drop,show i+(j - i)=j by lia] at this;show this
 rw[e1,e2,bG]
def Ky (O:Ord less){i j lo hi:Nat}(h:Sg less xs lo hi)(h1:lo<=i)(h2:j<=hi)(h3:hi<=xs.size):(xs.extract i j).toList.Pairwise (LE less):=by
 rw[List.pairwise_iff_getElem];intro x y hx hy Zv;have e: ∀n (hn:n< (xs.extract i j).toList.length),(xs.extract i j).toList[n]=cB xs (i+n):=λn hn=>by
  have A4:n< (xs.extract i j).size:=by rw[dD] at hn;show hn
  rw[Array.size_extract] at A4;unfold cB;rw[getElem?_pos xs (i+n) ∅];simp
 rw[e x hx,e y hy];have hy':y< (xs.extract i j).size:=by rw[dD] at hy;show hy
 rw[Array.size_extract] at hy';show h _ _ ∅ ∅ ∅
def mX (h:n< (xs.extract i j).size):cB (xs.extract i j) n=cB xs (i+n):=by unfold cB;rw[Array.size_extract] at h;rw[Array.getElem?_extract,ao ∅]
abbrev Rn:=Nat×Nat×Nat
theorem Sh (i:Nat):mergeAt' i=(do
 let s <- get
 let (some (sa,na,pw),some (sb,nb,_)):=((pendingOf s)[i]?,(pendingOf s)[i+1]?) | unsupported "internal:list.sort.pending"
 set (setPending s (((pendingOf s).setIfInBounds i (sa,na+nb,pw)).eraseIdxIfInBounds (i+1)))
 let some k <- NZ false (<- elem' (arrOf s) sb) (arrOf s) sa na 0 | return false
 let (sa,na):=(sa+k,na - k)
 if na==0 then return true
 let some nb <- NZ true (<- elem' (arrOf s) (sa+na - 1)) (arrOf s) sb nb (nb - 1) | return false
 if nb==0 then return true
 let x:=(arrOf s).extract sa sb
 let y:=(arrOf s).extract sb (sb+nb)
 let r <- if na<=nb then mLo x y else mHi x y
 modify λs=>setArr s (DF (arrOf s) sa r.toList.zipIdx)
 return(failedOf (<- get)).isNone):=rfl
def Mc {st:σ}(h:Q ⟨⟩ v):wpS M A E s (set v:StateT σ Sem PUnit) Q st:=by unfold wpS;rw[StateT.run_set];show a_ #[rfl,h]
def wp_mAt (O:Ord less)(L:iU prog w A E s kd a₀ less){st:WW}{l1 l2:cA Rn}(B:SB kd a₀ st)(hp:pendingOf st=(l1++(sa,na,pw)::(sb,nb,pw2)::l2).toArray)(hi:i=l1.length)(W':sb=sa+na)(h1:1<=na)(h2:1<=nb)(hz:sb+nb<=a₀.size)(s1:Sg less (arrOf st) sa sb)(s2:Sg less (arrOf st) sb (sb+nb))(h: ∀bH,SB kd a₀ bH ->pendingOf bH=(l1++(sa,na+nb,pw)::l2).toArray ->Sg less (arrOf bH) sa (sb+nb) ->tS sa (sb+nb) (arrOf st) (arrOf bH) ->Q true bH):wpS (model prog w) A E s (mergeAt' i) Q st:=by
 subst hi;rw[Sh];exact aw (wpS_get ?_);have p1:(pendingOf st)[l1.length]? =some (sa,na,pw):=by rw[hp];simp
 have p2:(pendingOf st)[l1.length+1]? =some (sb,nb,pw2):=by rw[hp];simp[bf]
 rw[p1,p2];dsimp only;exact aw (Mc ?_);have hpd:((pendingOf st).setIfInBounds l1.length (sa,na+nb,pw)).eraseIdxIfInBounds (l1.length+1)=(l1++(sa,na+nb,pw)::l2).toArray:=by rw[hp];simp![List.setIfInBounds_toArray,List.eraseIdxIfInBounds_toArray];congr 1;rw[List.set_append_right _ _ (aq _),Nat.sub_self,List.set_cons_zero];rw[List.eraseIdx_append_of_length_le ∅,show l1.length+1 - l1.length=1 by lia];rfl
 rw[hpd];let FT:WW:=setPending st (l1++(sa,na+nb,pw)::l2).toArray
 have B1:SB kd a₀ FT:=#[B.perm,B.kd,B.fl]
 have hsz:=B.size;change wpS _ _ _ _ _ Q FT;exact aw (wp_elem ∅ ?_);exact aw (wp_galR O L B.kd (B.mem ∅) (λk hk=>#[∅,B.mem ∅]) ∅ (by rw[<- W'];show s1) λk g1 g2 g3=> ?_);dsimp only;by_cases c1:na - k=0;rw [ao ⇑c1];exact aH (h FT B1 rfl (λi j hi kK hj=> ?_) tS.refl);change LE less (cB (arrOf st) i) (cB (arrOf st) j);by_cases c2:j<sb;show s1 i j hi kK c2;by_cases c3:sb<=i;show s2 i j c3 kK hj;have:=g2 (i - sa) ∅;rw[show sa+(i - sa)=i by lia] at this;show O.trans _ _ _ this (s2 sb j (aq _) ∅ hj);rw [ak ⇑c1];exact aw (wp_elem ∅ ?_);rw[show sa+k+(na - k) - 1=sb - 1 by lia];exact aw (wp_galL O L B.kd (B.mem ∅) (λk hk=>#[∅,B.mem ∅]) ∅ s2 λm f1 f2 f3=> ?_);dsimp only;by_cases c2:m=0;rw [ao ⇑c2];exact aH (h FT B1 rfl (λi j hi kK hj=> ?_) tS.refl);change LE less (cB (arrOf st) i) (cB (arrOf st) j);by_cases c2:j<sb;show s1 i j hi kK c2;by_cases c3:sb<=i;show s2 i j c3 kK hj;have:=f3 (j - sb) ∅ ∅;rw[show sb+(j - sb)=j by lia] at this;show O.trans _ _ _ (s1 i (sb - 1) hi ∅ ∅) this;rw [ak ⇑c2];have hxs:((arrOf st).extract (sa+k) sb).size=na - k:=by rw[Array.size_extract];lia
 have hys:((arrOf st).extract sb (sb+m)).size=m:=by rw[Array.size_extract];lia
 have T:yh less a₀ ((arrOf st).extract (sa+k) sb) ((arrOf st).extract sb (sb+m)):=by exact#[Ky O s1 ∅ (aq _) ∅,Ky O s2 (aq _) ∅ ∅,λi hi=> ?_,λi hi=> ?_, ∅, ∅,?_,λj hj=> ?_];rw[mX hi];rw[hxs] at hi;show B.mem ∅;rw[mX hi];rw[hys] at hi;show B.mem ∅;rw[mX ∅,mX ∅];show g3 k (aq _) ∅;rw[mX hj,mX ∅];rw[hys] at hj;rw[hxs,show sa+k+(na - k - 1)=sb - 1 by lia];show f2 j hj
 have fin : ∀ (r:gH gG) (g:Nat),vU less ((arrOf st).extract (sa+k) sb) ((arrOf st).extract sb (sb+m)) r ->wpS (model prog w) A E s (do modify λs=>setArr s (DF (arrOf s) (sa+k) r.toList.zipIdx);return(failedOf (<- get)).isNone) Q (cS FT g):=by
  rintro r g ⟨rp,rs⟩;have rl:r.toList.length=sb+m - (sa+k):=by
   rw[rp.length_eq,aD];have e1:((arrOf st).extract (sa+k) sb).toList.length=na - k:=by rw[dD];show hxs
   have e2:((arrOf st).extract sb (sb+m)).toList.length=m:=by rw[dD];show hys
   rw[e1,e2];lia
  have wl:=Hz (xs:=arrOf st) (at_:=sa+k) (ms:=r.toList) (by rw[rl,hsz];lia);rw[rl,show sa+k+(sb+m - (sa+k))=sb+m by lia] at wl;have wa: ∀n,cB (DF (arrOf st) (sa+k) r.toList.zipIdx) n=if sa+k<=n /\ n<sb+m then(r.toList[n - (sa+k)]?).getD (.none, .none) else cB (arrOf st) n:=λn=>by have e:=Ca (sa+k) n r.toList 0 (arrOf st) (by rw[rl,hsz];lia);rw[Nat.add_zero,rl,show sa+k+(sb+m - (sa+k))=sb+m by lia] at e;unfold cB;rw[e];split<;>rfl
  have wm: ∀n,sa+k<=n ->n<sb+m -> ∃n',cW (sa+k<=n') (n'<sb+m) (cB (DF (arrOf st) (sa+k) r.toList.zipIdx) n=cB (arrOf st) n'):=λn n1 n2=>by rw[wa,ao #[n1,n2],aO ∅];have hm:=rp.mem_iff.mp (List.getElem_mem (l:=r.toList) (n:=n - (sa+k)) ∅);obtain hm | hm:=a9.mp hm;rw[n_] at hm;let⟨q,q1,q2,q3,e⟩:=DN hm;show#[q,q1, ∅,e];rw[n_] at hm;let⟨q,q1,q2,q3,e⟩:=DN hm;show#[q, ∅,q2,e]
  exact aw (wpS_modify ?_);exact aw (wpS_get (aH ?_));have ef:(failedOf (setArr (cS FT g) (DF (arrOf (cS FT g)) (sa+k) r.toList.zipIdx))).isNone=true:=by change(failedOf st).isNone=true;rw[B.fl];rfl
  rw[ef];exact h _ #[?_,B.kd,B.fl] rfl (λi j hi kK hj=> ?_) (λn hn=> ?_);change(DF (arrOf st) (sa+k) r.toList.zipIdx).Perm a₀;exact Array.Perm.trans ?_ B.perm;rw[Array.perm_iff_toList_perm,wl];have e3:=Vl (arrOf st).toList (sa+k) sb (sb+m) ∅ ∅ (by simp;lia);exact List.Perm.trans ?_ (List.Perm.of_eq e3.symm);exact List.Perm.append_left _ ?_;rw[<- bQ];exact List.Perm.append_right _ ?_;rw[n_,n_] at rp;show rp;change LE less (cB (DF (arrOf st) (sa+k) r.toList.zipIdx) i) (cB (DF (arrOf st) (sa+k) r.toList.zipIdx) j);have Wy: ∀x y,sa<=x ->x<sa+k ->sa+k<=y ->y<sb+nb ->LE less (cB (arrOf st) x) (cB (arrOf st) y):=λx y x1 x2 y1 y2=>by by_cases c:y<sb;show s1 x y x1 ∅ c;have:=g2 (x - sa) ∅;rw[show sa+(x - sa)=x by lia] at this;show O.trans _ _ _ this (s2 sb y (aq _) ∅ y2)
  have aaC: ∀x y,sa+k<=x ->x<sb+m ->sb+m<=y ->y<sb+nb ->LE less (cB (arrOf st) x) (cB (arrOf st) y):=λx y x1 x2 y1 y2=>by by_cases c:x<sb;have:=f3 (y - sb) ∅ ∅;rw[show sb+(y - sb)=y by lia] at this;show O.trans _ _ _ (s1 x (sb - 1) ∅ ∅ ∅) this;show s2 x y ∅ ∅ y2
  by_cases i1:i<sa+k;have ei:=wa i;rw[ak ∅] at ei;rw[ei];by_cases j1:j<sa+k;have ej:=wa j;rw[ak ∅] at ej;rw[ej];show s1 i j hi kK ∅;by_cases j2:j<sb+m;let⟨n',n1,n2,e⟩:=wm j ∅ j2;rw[e];show Wy i n' hi i1 n1 ∅;have ej:=wa j;rw[ak ∅] at ej;rw[ej];show Wy i j hi i1 ∅ hj;by_cases i2:i<sb+m;by_cases j2:j<sb+m;rw[wa i,wa j,ao ∅,ao ∅,aO ∅,aO ∅];by_cases cij:i=j;subst cij;show O.refl _;show List.pairwise_iff_getElem.mp rs _ _ ∅ ∅ ∅;let⟨n',n1,n2,e⟩:=wm i ∅ i2;have ej:=wa j;rw[ak ∅] at ej;rw[e,ej];show aaC n' j n1 n2 ∅ hj;have ei:=wa i;have ej:=wa j;rw[ak ∅] at ei ej;rw[ei,ej];show s2 i j ∅ kK hj;change cB (DF (arrOf st) (sa+k) r.toList.zipIdx) n=_;rw[wa n,ak ∅]
 by_cases c3:na - k<=m;rw[ao c3];show aw (wp_mLo O L T B.kd λr g hr=>fin r g hr);rw[ak c3];show aw (wp_mHi O L T B.kd λr g hr=>fin r g hr)
def Runs (less:gG ->gG ->Bool)(xs:gH gG):cA Rn ->Nat ->Nat ->Prop
 | [],lo,hi=>lo=hi
 | (a,n,_)::r,lo,hi=>a=lo /\ 1<=n /\ Sg less xs lo (lo+n) /\ Runs less xs r (lo+n) hi
theorem Runs.le {less:gG ->gG ->Bool}{xs:gH gG}: ∀ {l:cA Rn} {lo hi:Nat},Runs less xs l lo hi ->lo+l.length<=hi
 | [],lo,hi,h=>Nat.le_of_eq h
 | (a,n,p)::r,lo,hi,h=>by have:=Runs.le h.2.2.2;have:=h.2.1;rw[aB];lia
theorem Runs.app {less:gG ->gG ->Bool}{xs:gH gG}: ∀ {l1 l2:cA Rn} {lo hi:Nat},Runs less xs (l1++l2) lo hi↔ ∃m,Runs less xs l1 lo m /\ Runs less xs l2 m hi
 | [],l2,lo,hi=>#[λh=>#[lo,rfl,h],λ⟨m,e,h⟩=>by cases e;show h]
 | (a,n,p)::r,l2,lo,hi=>by symm;rintro⟨h1,h2,h3,h4⟩;let⟨m,a1,a2⟩:=Runs.app.mp h4;show#[m,#[h1,h2,h3,a1],a2];rintro⟨m,⟨h1,h2,h3,a1⟩,a2⟩;show#[h1,h2,h3,Runs.app.mpr #[m,a1,a2]]
theorem Runs.out {less:gG ->gG ->Bool}{xs ys:gH gG}{e1 e2:Nat}(o:tS e1 e2 xs ys): ∀ {l:cA Rn} {lo hi:Nat},(hi<=e1 \/ e2<=lo) ->Runs less xs l lo hi ->Runs less ys l lo hi
 | [],lo,hi,_,h=>h
 | (a,n,p)::r,lo,hi,hc,⟨h1,h2,h3,h4⟩=>by have:=Runs.le h4;exact#[h1,h2,λi j hi kK hj=> ?_,Runs.out o ∅ h4];rw[o i ∅,o j ∅];show h3 i j hi kK hj
theorem Iv {e1 e2 lo hi:Nat}(o:tS e1 e2 xs ys)(hc:hi<=e1 \/ e2<=lo)(h:Sg less xs lo hi):Sg less ys lo hi:=λi j hi kK hj=>by rw[o i ∅,o j ∅];show h i j hi kK hj
def HV {l:cA α}(h:2<=l.length):eQ λl1 x y=>l=l1++ [x,y]:=by exact#[l.take (l.length - 2),l[l.length - 2],l[l.length - 1],?_];have:=bG (l.length - 2) l;rw[List.drop_eq_getElem_cons ∅,List.drop_eq_getElem_cons ∅,List.drop_eq_nil_of_le ∅] at this;have e:l.length - 2+1=l.length - 1:= ∅;simp![e] at this;show this.symm
theorem ij {α:Type}{l:cA α}(h:l≠ []): ∃l1 x,l=l1++ [x]:=#[l.dropLast,l.getLast h,(List.dropLast_concat_getLast h).symm]
def AJ (l1:cA Rn)(x:Rn)(f:Rn ->Rn):(l1++ [x]).modify l1.length f=l1++ [f x]:=by
 induction l1 with
 | nil=>rfl
 | cons a l ih=>rw[List.cons_append,aB,List.modify_succ_cons,ih];rfl
def wp_mR (O:Ord less)(L:iU prog w A E s kd a₀ less){st:WW}{x y:Rn}{i lo:Nat}(B:SB kd a₀ st)(hp:pendingOf st=(l1++x::y::l2).toArray)(hi:i=l1.length)(hz:lo<=a₀.size)(R:Runs less (arrOf st) (l1++x::y::l2) 0 lo)(h: ∀bH z,SB kd a₀ bH ->pendingOf bH=(l1++z::l2).toArray ->Runs less (arrOf bH) (l1++z::l2) 0 lo ->tS 0 lo (arrOf st) (arrOf bH) ->Q true bH):wpS (model prog w) A E s (mergeAt' i) Q st:=by let⟨sa,na,pw⟩:=x;let⟨sb,nb,pw2⟩:=y;let⟨m,r1,rfl,h1,s1,rfl,h2,s2,r2⟩:=Runs.app.mp R;have hle:=r2.le;exact wp_mAt O L B hp hi rfl h1 h2 ∅ s1 s2 λbH B' vz s' o'=>h bH _ B' vz ?_ λk hk=>o' k ∅;exact Runs.app.mpr #[_,r1.out o' (.inl (aq _)),rfl, ∅,?_,?_];rw[<- Nat.add_assoc];show s';rw[<- Nat.add_assoc];show r2.out o' (.inr (aq _))
def Ar {a n p q lo hi:Nat}(h:Runs less xs (l1++ [(a,n,p)]) lo hi):Runs less xs (l1++ [(a,n,q)]) lo hi:=by let⟨m,r1,h1,h2,h3,h4⟩:=Runs.app.mp h;show Runs.app.mpr #[m,r1,h1,h2,h3,h4]
def wp_sort (O:Ord less)(L:iU prog w A E s kd a₀ less){st:WW}(B:SB kd a₀ st)(hp0:pendingOf st= #[])(h2:2<=a₀.size)(h: ∀bH,(arrOf bH).Perm a₀ ->failedOf bH=none ->Sg less (arrOf bH) 0 a₀.size ->Q () bH):wpS (model prog w) A E s sortRuns' Q st:=by
 rw[sortRuns'_eq];exact aw (wpS_get ?_);dsimp only;simp![B.size];generalize minRun' a₀.size a₀.size 0=mr;exact aw (wpS_mono (cx (I:=λx c bH=>cg λlo pl=>lm (c=(none,lo)) (x<=lo) (lo<=a₀.size) (SB kd a₀ bH) (pendingOf bH=pl.toArray) (Runs less (arrOf bH) pl 0 lo)) (Q:=λc bH=> ∃pl,fj (c=(none,a₀.size)) (SB kd a₀ bH) (pendingOf bH=pl.toArray) (Runs less (arrOf bH) pl 0 a₀.size)) ?step ?fin #[0,[],rfl,aq _,de _,B,hp0,rfl]) ?post);case fin=>
  rintro c bH ⟨lo,pl,rfl,h1,Ql,B',hp,R⟩
  have:lo=a₀.size:= ∅
  subst this
  show#[pl,rfl,B',hp,R]
 case step =>
  rintro x c bH _ hx ⟨lo,pl,rfl,h1,Ql,B',hp,R⟩
  dsimp only
  by_cases c1:lo≥a₀.size
  rw[ao c1]
  have:lo=a₀.size:= ∅
  subst this
  show aH #[pl,rfl,B',hp,R]
  rw[ak c1]
  exact aw (wp_run O L ∅ ∅ B' λm oB B2 m1 m2 s2 p2 o2=> ?_)
  dsimp only
  have R2:Runs less (arrOf oB) pl 0 lo:=R.out o2 (.inl (aq _))
  by_cases c2:m<mr
  rw [ao c2]
  exact aw (wpS_lift (wpAny_rule #[rfl,?_]))
  exact aw (wp_bin O L ∅ ∅ B2 s2 λwj B3 s3 p3 o3=> ?_)
  simp![aG,aC,bC]
  have R3:=R2.out o3 (.inl (aq _))
  have n1:1<=min (a₀.size - lo) mr:= ∅
  have n2:lo+min (a₀.size - lo) mr<=a₀.size:= ∅
  rw[p2,hp] at p3
  clear o3
  revert s3 n1 n2
  generalize min (a₀.size - lo) mr=n
  intro s3 n1 n2
  exact aw (wpS_get ?_)
  cases hb:(pendingOf wj).back? with
  | none=>dsimp only;exact aw (wpS_modify (aH #[lo+n,pl++ [(lo,n,0)],rfl, ∅,n2,#[B3.perm,B3.kd,B3.fl],?_,Runs.app.mpr #[lo,R3,rfl,n1,s3,rfl]]));change(pendingOf wj).push (lo,n,0)=_;rw[p3];simp
  | some q=>
   let⟨s1,Sd,p1⟩:=q;dsimp only;have lT:pl≠ []:=λe=>by subst e;rw[p3] at hb;simp at hb
   exact aw (wpS_mono (cx (I:=λ_ c fU=>c=(none,()) /\ ∃pl,gm (pl≠ []) (SB kd a₀ fU) (Sg less (arrOf fU) lo (lo+n)) (pendingOf fU=pl.toArray) (Runs less (arrOf fU) pl 0 lo)) (Q:=λc fU=>c=(none,()) /\ ∃pl,gm (pl≠ []) (SB kd a₀ fU) (Sg less (arrOf fU) lo (lo+n)) (pendingOf fU=pl.toArray) (Runs less (arrOf fU) pl 0 lo)) ?_ (λc fU h=>h) #[rfl,pl,lT,B3,s3,p3,R3]) ?_);rintro y c fU _ hy ⟨rfl,yN,ne4,B4,s4,p4,R4⟩;exact aw (wpS_get ?_);by_cases c2:(pendingOf fU).size >1;rw[ao c2];have hl:2<=yN.length:=by rw[p4] at c2;simp at c2;lia
   let⟨l1,u,v,e4⟩:=HV hl;have e5:(pendingOf fU).size - 2=l1.length:=by rw[p4,e4];simp
   have e6:(pendingOf fU)[(pendingOf fU).size - 2]? =some u:=by rw[e5,p4,e4];simp
   rw[e6];let⟨u1,u2,u3⟩:=u;dsimp only;split;show aH #[rfl,yN,ne4,B4,s4,p4,R4];subst e4;exact aw (wp_mR O L (l2:= []) B4 p4 e5 ∅ R4 λUc z B5 p5 R5 o5=> ?_);simp![aG,aC,bC];show aH #[rfl,_,by simp,B5,Iv o5 (.inr (aq _)) s4,p5,R5];rw[ak c2];show aH #[rfl,yN,ne4,B4,s4,p4,R4];rintro c fU ⟨rfl,yN,ne4,B4,s4,p4,R4⟩;dsimp only;exact aw (wpS_modify (aw (wpS_modify (aH ?_))));let⟨l1,⟨u1,u2,u3⟩,rfl⟩:=ij ne4;exact#[lo+n,(l1++ [(u1,u2,power' a₀.size (2*s1+Sd) (2*s1+Sd+Sd+n) a₀.size)])++ [(lo,n,0)],rfl, ∅,n2,#[B4.perm,B4.kd,B4.fl],?_,Runs.app.mpr #[lo,Ar R4,rfl,n1,s4,rfl]];change((pendingOf fU).modify ((pendingOf fU).size - 1) _).push (lo,n,0)=_;rw[p4];simp![List.modify_toArray,List.push_toArray,aM];congr 2;rw[aD,List.length_singleton,Nat.add_sub_cancel];show AJ l1 _ _
  rw [ak c2]
  have s3:=s2
  have n1:=m1
  have n2:lo+m<=a₀.size:= ∅
  have p3:pendingOf oB=pl.toArray:=by rw[p2,hp]
  have B3:=B2
  have R3:=R2
  clear p2 o2 B2 R2 s2 m1 m2 c2
  revert s3 n1 n2
  generalize m=n
  intro s3 n1 n2
  revert p3 B3 R3 s3
  generalize oB=wj
  intro p3 B3 R3 s3
  exact aw (wpS_get ?_)
  cases hb:(pendingOf wj).back? with
  | none=>dsimp only;exact aw (wpS_modify (aH #[lo+n,pl++ [(lo,n,0)],rfl, ∅,n2,#[B3.perm,B3.kd,B3.fl],?_,Runs.app.mpr #[lo,R3,rfl,n1,s3,rfl]]));change(pendingOf wj).push (lo,n,0)=_;rw[p3];simp
  | some q=>
   let⟨s1,Sd,p1⟩:=q;dsimp only;have lT:pl≠ []:=λe=>by subst e;rw[p3] at hb;simp at hb
   exact aw (wpS_mono (cx (I:=λ_ c fU=>c=(none,()) /\ ∃pl,gm (pl≠ []) (SB kd a₀ fU) (Sg less (arrOf fU) lo (lo+n)) (pendingOf fU=pl.toArray) (Runs less (arrOf fU) pl 0 lo)) (Q:=λc fU=>c=(none,()) /\ ∃pl,gm (pl≠ []) (SB kd a₀ fU) (Sg less (arrOf fU) lo (lo+n)) (pendingOf fU=pl.toArray) (Runs less (arrOf fU) pl 0 lo)) ?_ (λc fU h=>h) #[rfl,pl,lT,B3,s3,p3,R3]) ?_);rintro y c fU _ hy ⟨rfl,yN,ne4,B4,s4,p4,R4⟩;exact aw (wpS_get ?_);by_cases c2:(pendingOf fU).size >1;rw[ao c2];have hl:2<=yN.length:=by rw[p4] at c2;simp at c2;lia
   let⟨l1,u,v,e4⟩:=HV hl;have e5:(pendingOf fU).size - 2=l1.length:=by rw[p4,e4];simp
   have e6:(pendingOf fU)[(pendingOf fU).size - 2]? =some u:=by rw[e5,p4,e4];simp
   rw[e6];let⟨u1,u2,u3⟩:=u;dsimp only;split;show aH #[rfl,yN,ne4,B4,s4,p4,R4];subst e4;exact aw (wp_mR O L (l2:= []) B4 p4 e5 ∅ R4 λUc z B5 p5 R5 o5=> ?_);simp![aG,aC,bC];show aH #[rfl,_,by simp,B5,Iv o5 (.inr (aq _)) s4,p5,R5];rw[ak c2];show aH #[rfl,yN,ne4,B4,s4,p4,R4];rintro c fU ⟨rfl,yN,ne4,B4,s4,p4,R4⟩;dsimp only;exact aw (wpS_modify (aw (wpS_modify (aH ?_))));let⟨l1,⟨u1,u2,u3⟩,rfl⟩:=ij ne4;exact#[lo+n,(l1++ [(u1,u2,power' a₀.size (2*s1+Sd) (2*s1+Sd+Sd+n) a₀.size)])++ [(lo,n,0)],rfl, ∅,n2,#[B4.perm,B4.kd,B4.fl],?_,Runs.app.mpr #[lo,Ar R4,rfl,n1,s4,rfl]];change((pendingOf fU).modify ((pendingOf fU).size - 1) _).push (lo,n,0)=_;rw[p4];simp![List.modify_toArray,List.push_toArray,aM];congr 2;rw[aD,List.length_singleton,Nat.add_sub_cancel];show AJ l1 _ _
 case post =>
  rintro c bH ⟨pl,rfl,B',hp,R⟩
  dsimp only
  have hle:=R.le
  exact aw (wpS_mono (cx (I:=λx c fU=>c=(none,()) /\ ∃pl,fj (SB kd a₀ fU) (pendingOf fU=pl.toArray) (Runs less (arrOf fU) pl 0 a₀.size) (pl.length<=1 \/ pl.length+x<=a₀.size)) (Q:=λc fU=>c=(none,()) /\ ∃pl,cW (SB kd a₀ fU) (Runs less (arrOf fU) pl 0 a₀.size) (pl.length<=1)) ?_ ?_ #[rfl,pl,B',hp,R, .inr ∅]) ?_)
  rintro x c fU _ hx ⟨rfl,yN,B4,p4,R4,hl⟩
  exact aw (wpS_get ?_)
  have esz:(pendingOf fU).size=yN.length:=by rw[p4];simp
  by_cases c1:(pendingOf fU).size<=1
  rw[ao c1]
  show aH #[rfl,yN,B4,R4, ∅]
  rw [ak c1]
  generalize aiM:Option.any _ _=cnd
  have mk: ∀k,k+2<=yN.length -> ∀ (Q':ForInStep (e9 Unit×Unit) ->WW ->Prop),(∀bH pl,SB kd a₀ bH ->pendingOf bH=pl.toArray ->Runs less (arrOf bH) pl 0 a₀.size ->(pl.length<=1 \/ pl.length+(x+1) <=a₀.size) ->Q' (.yield (none,())) bH) ->wpS (model prog w) A E s (do
    let b <- mergeAt' k
    if(!b)=true then pure (ForInStep.done ((some (),()):e9 Unit×Unit)) else pure (ForInStep.yield (none,()))) Q' fU:=by
   intro k hk Q' hQ
   have e:=bG k yN
   rw[List.drop_eq_getElem_cons ∅,List.drop_eq_getElem_cons ∅] at e
   have B6:(yN.take k).length=k:=by rw[bP];lia
   rw[<- e] at p4 R4
   exact aw (wp_mR O L B4 p4 B6.symm (aq _) R4 λUc z B5 p5 R5 o5=> ?_)
   simp![aG,aC,bC]
   exact aH (hQ _ _ B5 p5 R5 (.inr ?_))
   rw[aD,B6,aB,List.length_drop]
   lia
  cases cnd with
  | true=>simp![b0];show mk ((pendingOf fU).size - 2 - 1) ∅ _ λbH pl b1 b2 b3 b4=>#[rfl,pl,b1,b2,b3,b4]
  | false=>simp![aC,bC];show mk ((pendingOf fU).size - 2) ∅ _ λbH pl b1 b2 b3 b4=>#[rfl,pl,b1,b2,b3,b4]
  rintro c fU ⟨rfl,yN,B4,p4,R4,hl⟩
  show#[rfl,yN,B4,R4, ∅]
  rintro c fU ⟨rfl,yN,B4,R4,hl⟩
  exact aH (h _ B4.perm B4.fl ?_)
  match yN,R4,hl with
  | [],R4,_=>show absurd R4 (by change ¬(0=a₀.size);lia)
  | [(u1,u2,u3)],⟨_,_,h3,h4⟩,_=>have h4:0+u2=a₀.size:=h4;rw[h4] at h3;show h3
  | _::_::_,_,hl=>simp at hl
def Gu (h:Heap)(a:fP)(vs:cA c7):Heap:=((h.update a (Obj.mapSeq λ_=> #[])).push (seqObj "tuple" vs.toArray 0)).push (seqObj "list" #[] 0)
def Nu (ho:h.get? a=some (seqObj "list" vs.toArray n)):(Gu h a vs).get? a=some (seqObj "list" #[] (if((#[]:gH c7)).size==vs.toArray.size then n else n+1)):=by have ha:=aR ho;unfold Gu;rw[Heap.get?_push_ne _ _ _ (by rw[size_push',Heap.size_update];show bA (Nat.lt_succ_of_lt ha)),Heap.get?_push_ne _ _ _ (by rw[Heap.size_update];show bA ha)];show get?_update_seq ho (λ_=> #[])
def Af (O:Ord less)(ho:s.heap.get? a=some (seqObj "list" vs.toArray n))(hsz:vs.length<=sizeLine)(hk:2<=vs.length -> ∀ (Q:SortKind ->dz ->Prop),Q kd {s with heap:=Gu s.heap a vs} ->wpAny (model prog w) A (keyKind' vs.toArray) Q E {s with heap:=Gu s.heap a vs})(L:iU prog w A E {s with heap:=Gu s.heap a vs} kd (pairsOf vs) less)(h: ∀ (us:cA c7),us.Perm vs ->us.Pairwise (λx y=>less (y,y) (x,x)=false) ->P (.done (.ret .none)) {s with heap:=sortedHeap s.heap a vs us.toArray}): wpAny (model prog w) A (Builtin.«list.sort» #[[.ref a],[]]) P E s:=by
 rw[list_sort_plain];exact az (listItems_at ho rfl ?_);exact az (listUpdate_at ho rfl ?_ (hsz:= ⇑hsz));exact az (seqEpoch_at (get?_update_seq ho (λ_=> #[])) rfl ?_);exact az (wpAny_newTuple ?_);exact az (wpAny_newList ?_);exact wpAny_holding ?_;have Zz:=Nu ho;change wpAny (model prog w) A _ P E {s with heap:=Gu s.heap a vs};dsimp only;have fin: ∀xs:gH gG,xs.Perm (pairsOf vs) ->Sg less xs 0 (pairsOf vs).size ->P (.done (.ret .none)) {s with heap:=sortedHeap s.heap a vs (xs.map (·.2))}:=by
  intro xs hp hs;have hl:xs.toList.Perm (vs.zip vs):=by rw[<- pairsOf_toList];show Array.perm_iff_toList_perm.mp hp
  have Xe: ∀p,p∈xs.toList ->p.1=p.2 /\ p.1∈vs:=λp vz=>mem_zip_self (hl.mem_iff.mp vz);have:=h (xs.toList.map (·.2)) ?_ ?_;have e:(xs.toList.map (·.2)).toArray=xs.map (·.2):=by apply Array.toList_inj.mp;simp
  rwa [e] at this;have h1:=hl.map (λp:gG=>p.2);rwa [List.map_snd_zip (aq _)] at h1;rw[List.pairwise_iff_getElem];intro i j hi hj kK;have rZ:i<xs.size:= ⇑hi;have S_:j<xs.size:= ⇑hj;have h1:=hs i j (de _) (Nat.le_of_lt kK) (by rw[<- hp.size_eq];show S_);have e1:cB xs i=((xs.toList.map (·.2))[i],(xs.toList.map (·.2))[i]):=by rw[List.getElem_map];have hm:=zC rZ;have e:=gO rZ;rw[aO ⇑rZ] at e;have e:=bu e;rw[e];show Prod.ext (Xe _ hm).1 rfl
  have e2:cB xs j=((xs.toList.map (·.2))[j],(xs.toList.map (·.2))[j]):=by rw[List.getElem_map];have hm:=zC S_;have e:=gO S_;rw[aO ⇑S_] at e;have e:=bu e;rw[e];show Prod.ext (Xe _ hm).1 rfl
  rw[e1,e2] at h1;show h1
 have ai3:vs.toArray.size=vs.length:=by simp
 by_cases h2:vs.toArray.size<2;rw[ao h2,ao h2];exact az (a_ ?_);rw[StateT.run_pure];exact az (a_ ?_);dsimp only;exact az (seqEpoch_at Zz rfl ?_);exact az (listUpdate_at Zz rfl ?_ (hsz2:=by rw[Array.size_map];change(pairsOf vs).size<=_;rw[pairsOf_size];lia));simp![bne_self_eq_false,aC,bC];exact a_ (fin (pairsOf vs) (Array.Perm.refl _) ?_);intro i j _ kK hj;have:i=j:=by rw[pairsOf_size] at hj;lia
 subst this;show O.refl _;rw[ak h2,ak h2];exact az (hk ∅ _ ?_);exact az (bE (wp_sort O L (st:=SortSt.mk' kd (vs.toArray.zip vs.toArray) #[] 7 none) (Q:=λ_ bH=>(arrOf bH).Perm (pairsOf vs) /\ failedOf bH=none /\ Sg less (arrOf bH) 0 (pairsOf vs).size) #[Array.Perm.refl _,rfl,rfl] rfl (by rw[pairsOf_size];lia) λbH a1 a2 a3=>#[a1,a2,a3]) ?_ λ_ _ e=>e);rintro⟨⟨⟩,bH⟩ s' ⟨rfl,hp,hf,hs⟩;dsimp only;exact az (seqEpoch_at Zz rfl ?_);exact az (listUpdate_at Zz rfl ?_ (hsz2:=by exact ar (Nat.le_of_eq ((Array.size_map ..).trans (hp.size_eq.trans (pairsOf_size _)))) ?_;lia));rw[hf];simp![bne_self_eq_false,aC,bC];show a_ (fin _ hp hs)
def vd (x y:gG):Bool:=decide (numOf x.1<numOf y.1)
def aar:Ord vd:=by exact#[λx y h=> ?_,λx y z h1 h2=> ?_];unfold vd at*;rw[dq] at h;show aF ∅;unfold LE vd at*;rw[decide_eq_false_iff_not] at*;lia
def ltI {a₀:gH gG}(h0:IntKeys a₀):iU prog w A E s oneType' a₀ vd:=by
 intro x y st Q hx hy hk hq;let⟨n,t,e1⟩:=h0 x hx;let⟨m,u,e2⟩:=h0 y hy;rw[lt'_eq];exact aw (wpS_get ?_);rw[hk,keyLt'_oneType,e1,e2];exact aw (wpS_lift (wpAny_attempt (oneLt_int #[rfl,?_])));have e:vd x y=decide (n<m):=by unfold vd;rw[e1,e2];rfl
 rw[e] at hq;show aH hq
def FW (ho:s.heap.get? a=some (seqObj "list" vs.toArray n))(hI:IntsAre vs ns)(hsz:vs.length<=sizeLine)(h: ∀ (out:gH c7) (B0:cA Int),IntsAre out.toList B0 ->B0.Perm ns ->B0.Pairwise (· <= ·) ->P (.done (.ret .none)) {s with heap:=sortedHeap s.heap a vs out}): wpAny (model prog w) A (Builtin.«list.sort» #[[.ref a],[]]) P E s:=by
 exact Af aar ho hsz (kd:=oneType') (λh2 Q hq=> ?_) (ltI hI.intKeys) λus hp hs=> ?_;let⟨v₁,v₂,cQ,rfl⟩:eQ λv₁ v₂ cQ=>vs=v₁::v₂::cQ:=by
  match vs,h2 with
  | [],h2=>simp at h2
  | [_],h2=>simp at h2
  | v₁::v₂::cQ,_=>show#[v₁,v₂,cQ,rfl]
 rw[keyKind_ints hI];show a_ hq;have wK: ∀v,v∈us -> ∃n t,v= .int n t:=λv hv=>hI.all v (hp.mem_iff.mp hv);exact h us.toArray (us.map numOf) ⇑(intsAre_map us wK) ?_ ?_;have:=hp.map numOf;rwa [hI.nums] at this;rw[List.pairwise_map];exact hs.imp λ{x y} e=> ?_;unfold vd at e;rw[decide_eq_false_iff_not] at e;simp only at e;lia
end TS
namespace L2
open PySem PySem.Spec PyProof.Rows
abbrev b8:=Sum Int Str
def px:b8 ->c7 ->Bool
 | .inl k,v=>Value.isInt k v
 | .inr x,v=>Value.isStrOf x v
def aaB (w:World):b8 ->Int
 | .inl k=>hashInt k
 | .inr x=>hashStr w x
theorem dc: ∀ {k:b8} {v:c7},px k v=true ->(cg λi t=>k=Sum.inl i /\ v=Value.int i t) \/ (cg λx t=>k=Sum.inr x /\ v=Value.str x t)
 | .inl i,v,h=>by let⟨t,e⟩:=Value.isInt_shape (k:=i) (v:=v) h;show .inl #[i,t,rfl,e]
 | .inr x,v,h=>by let⟨t,e⟩:=Value.isStrOf_shape (x:=x) (v:=v) h;show .inr #[x,t,rfl,e]
def GB (i:Int)(t:Tok):px (.inl i) (.int i t)=true:=by simp[px,Value.isInt]
def GA (x:Str)(t:Tok):px (.inr x) (.str x t)=true:=by simp[px,Value.isStrOf]
def Sq (a b:Int):decide ((Sum.inl a:b8)=Sum.inl b)=(a==b):=by by_cases e:a=b;subst e;simp;have h:¬(Sum.inl a:b8)=Sum.inl b:=λq=>e (Sum.inl.inj q);rw[aF h];show(beq_eq_false_iff_ne.mpr e).symm
def Sl (a b:Str):decide ((Sum.inr a:b8)=Sum.inr b)=decide (a=b):=by by_cases e:a=b;subst e;simp;have h:¬(Sum.inr a:b8)=Sum.inr b:=λq=>e (Sum.inr.inj q);rw[aF h,aF e]
theorem So (a:Int)(b:Str):decide ((Sum.inl a:b8)=Sum.inr b)=false:=aF (λq=>nomatch q)
theorem Sn (a:Str)(b:Int):decide ((Sum.inr a:b8)=Sum.inl b)=false:=aF (λq=>nomatch q)
def cH (prog:Program)(w:World):PySem.KeyKind prog w b8 where
 is:=px
 hash:=aaB w
 inj :=λv a b ha hb=>by
  rcases dc ha with⟨i,t,rfl,rfl⟩ | ⟨x,t,rfl,rfl⟩
  rcases dc hb with⟨j,u,rfl,e⟩ | ⟨y,u,rfl,e⟩
  injection e with e1 _;rw[e1];show nomatch e
  rcases dc hb with⟨j,u,rfl,e⟩ | ⟨y,u,rfl,e⟩
  show nomatch e
  injection e with e1 _;rw[e1]
 byValue:=λk v h=>by rcases dc h with⟨i,t,rfl,rfl⟩ | ⟨x,t,rfl,rfl⟩ <;>rfl
 pyHash:=λhv h=>by
  rcases dc hv with⟨i,t,rfl,rfl⟩ | ⟨x,t,rfl,rfl⟩
  show wpAny_pyHash_int h;show wpAny_pyHash_str h
 eqBool:=λhu hv h=>by
  rcases dc hu with⟨i,t,rfl,rfl⟩ | ⟨x,t,rfl,rfl⟩
  rcases dc hv with⟨j,u,rfl,rfl⟩ | ⟨y,u,rfl,rfl⟩
  rw[Sq] at h;show wpAny_eqBool_int h;rw[So] at h;show SeqAt.EqAt.int_str i t y u _ _ _ _ h;rcases dc hv with⟨j,u,rfl,rfl⟩ | ⟨y,u,rfl,rfl⟩
  rw[Sn] at h;show SeqAt.EqAt.str_int x t j u _ _ _ _ h;rw[Sl] at h;show wpAny_eqBool_str h
 «strs» :=λk x t v h=>by
  rcases dc h with⟨i,u,rfl,e⟩ | ⟨y,u,rfl,e⟩
  show nomatch e
  injection e with e1 _;subst e1;cases v<;>rfl
theorem AL (prog:Program)(w:World)(i:Int)(t:Tok):(cH prog w).is (.inl i) (.int i t)=true:=GB i t
theorem AK (prog:Program)(w:World)(x:Str)(t:Tok):(cH prog w).is (.inr x) (.str x t)=true:=GA x t
set_option genInjectivity true in
inductive V where
  | d3 | bl (b:Bool) | int (i:Int) | str (x:Str) | Dg (b:Array UInt8) | N5 (b:UInt64) | ref (a:Addr) | ty (n:String)
 deriving DecidableEq
def RelV:V ->c7 ->Prop
 | .d3,u=>u=Value.none
 | .bl b,u=>u=Value.bool b
 | .int i,u=> ∃t,u=Value.int i t
 | .str x,u=> ∃t,u=Value.str x t
 | .Dg b,u=> ∃t,u=Value.bytes b t
 | .N5 b,u=> ∃t,u=Value.float b t
 | .ref a,u=>u=Value.ref a
 | .ty n,u=>u=Value.type n
abbrev cb:cA V ->cA c7 ->Prop:=Paired RelV
theorem cb.length (r:cb xs us):xs.length=us.length:=Paired.length r
theorem cb.get: ∀ {xs:cA V} {us:cA c7} {i:Nat} {x:V},cb xs us ->xs[i]? =some x -> ∃u,us[i]? =some u /\ RelV x u
 | _,_,_,_, .nil,e=>by simp at e
 | _,_,0,_, .cons r _,e=>by simp at e;subst e;show#[_,rfl,r]
 | _,_,i+1,x, .cons _ t,e=>by let⟨u,h1,h2⟩:=cb.get (i:=i) (x:=x) t ⇑e;show#[u, ⇑h1,h2]
theorem cb.set {x:V}{u:c7}(r:RelV x u): ∀ {xs:cA V} {us:cA c7} (i:Nat),cb xs us ->cb (xs.set i x) (us.set i u)
 | _,_,_, .nil=> .nil
 | _,_,0, .cons _ t=> .cons r t
 | _,_,i+1, .cons q t=> .cons q (cb.set r i t)
theorem cb.append: ∀ {xs ys:cA V} {us ws:cA c7},cb xs us ->cb ys ws ->cb (xs++ys) (us++ws)
 | _,_,_,_, .nil,s=>s
 | _,_,_,_, .cons r t,s=> .cons r (cb.append t s)
theorem cb.take: ∀ {xs:cA V} {us:cA c7} (n:Nat),cb xs us ->cb (xs.take n) (us.take n)
 | _,_,0,_=> .nil
 | _,_,_+1, .nil=> .nil
 | _,_,n+1, .cons r t=> .cons r (cb.take n t)
theorem cb.drop: ∀ {xs:cA V} {us:cA c7} (n:Nat),cb xs us ->cb (xs.drop n) (us.drop n)
 | _,_,0,r=>r
 | _,_,_+1, .nil=> .nil
 | _,_,n+1, .cons _ t=>cb.drop n t
def ki:e9 V ->e9 c7 ->Prop
 | some v,some u=>RelV v u
 | none,none=>True
 | _,_=>False
def KV {κ:Type}:cA (κ×V) ->cA (κ×c7) ->Prop:=Paired λ(p:κ×V) (q:κ×c7)=>p.1=q.1 /\ RelV p.2 q.2
def kV:b8 ->V
 | .inl i=> .int i
 | .inr x=> .str x
set_option genInjectivity true in
inductive HO where
 /-- a list -/
 | lst (xs:List V)
 /-- a tuple (never changes) -/
 | tup (xs:List V)
 /-- a dict UO keys are ints and texts;one UO keys are tuples of ints and texts (Ub empty one is both) -/
 | dK (kvs:List (b8×V)) | dT (kvs:List (List b8×V))
 /-- a set of ints:bJ members,bJ size -/
 | set (S:Int ->Bool) (n:Nat)
 /-- an instance of Ub class at C,bJ dict at dx,bJ attributes -/
 | ins (C dx:Addr) (fs:List (Str×V))
 /-- Ub dict of Ub instance at x -/
 | own (x:Addr)
 /-- Ub dict of an exception -/
 | xd (fs:List (Str×V))
 /-- a bound method,f of x -/
 | met (f x:Addr)
 /-- a range object lo,lo+1, .. below hi -/
 | Y5 (lo hi:Int)
 /-- a thing aiV is known to Ub object (Ub aae;a dict while a loop walks it):read,never written while it is so -/
 | lg (o:Obj) (u:HO)
 /-- a code Wm table -/
 | Mt (ps:Array Value)
 /-- any other thing,by aiR is true of bJ one object (a def of ah7 own:ai7 a S n:=HO.ext λh=> ..) -/
 | ext (φ:Heap ->Prop)
abbrev Hp:=fP ->e9 HO
def cK (H:Hp)(a:fP)(o:HO):Hp:=λb=>if b=a then some o else H b
def bU:cK H a o a=some o:=by unfold cK;rw[ao rfl]
def bN (h:b≠a):cK H a o b=H b:=by unfold cK;rw[ak h]
def Wp {H:Hp}(h:H a=some o)(h':H b=some u)(d:o≠u):a≠b:=by intro e;subst e;rw[h] at h';show d (bu h')
def fm {H:Hp}(h:H a=some o)(h':H b=none):a≠b:=by intro e;subst e;rw[h] at h';cases h'
def zI (h:Heap)(a:fP)(bJ:gH c7):Prop:= ∃o,h.get? a=some o /\ o.cls= .type "tuple" /\ ∃n,o.data= .seq bJ n /\ o.dict=none
theorem zI.t (x:zI h a bJ):IsTup h a bJ:=let ⟨o,e,c,n,d,_⟩:=x;#[o,e,c,n,d]
theorem zI.lt (x:zI h a bJ):a<h.objs.size:=let ⟨_,e,_⟩:=x;aR e
theorem zI.new (h:Heap)(bJ:gH c7):zI (h.push {cls:= .type "tuple",data:= .seq bJ}) h.objs.size bJ:=#[_,a4 _ rfl,rfl,_,rfl,rfl]
section
variable (P:Program)(w:World)
def d7 (H:Hp)(h:Heap)(a:fP):HO ->Prop
 | .lst xs=>xs.length<=sizeLine /\ cg λ(bJ:cA c7) (n:Nat)=>cb xs bJ /\ h.get? a=some {cls:= .type "list",data:= .seq bJ.toArray n}
 | .tup xs=>xs.length<=sizeLine /\ ∃bJ:cA c7,cb xs bJ /\ zI h a bJ.toArray
 | .dK kvs=>kvs.length<=sizeLine /\ (a==sysModules)=false /\ ∃vs,KV kvs vs /\ h.DictOf (cH P w) a vs
 | .dT kvs=>kvs.length<=sizeLine /\ (a==sysModules)=false /\ ∃xs:cA (cA b8×fP×c7),Paired (λ(p:cA b8×V) (q:cA b8×fP×c7)=>p.1=q.1 /\ H q.2.1=some (.tup (p.1.map kV)) /\ RelV p.2 q.2.2) kvs xs /\∃o es ep,h.get? a=some o /\ o.ExactDict /\ o.data= .dict es ep /\ es.toList=xs.map (entryOfKey (tupleKind (cH P w))) /\ (xs.map (·.1)).Nodup
 | .set S n=>h.SetOf (intKind P w) a S n
 | .ins C dx fs=>H dx=some (.own a) /\ fs.length<=1000 /\ dx≠a /\ h.get? a=some (W.instObj C dx) /\∃mA,h.Ns1 dx mA /\ (∀f,ki (fs.lookup f) (mA f)) /\ PySem.Within mA (fs.map (·.1))
 | .own _=> ∃o,h.get? a=some o
 | .xd fs=> ∃mA,h.Ns1 a mA /\ ∀f,ki (fs.lookup f) (mA f)
 | .Y5 lo hi=>eQ λt u v=>h.get? a=some {cls:= .type "range",data:= .fields (List.toArray [.int lo t, .int hi u, .int 1 v])}
 | .lg o u=>h.get? a=some o /\ d7 H h a u
 | .Mt ps=>h.get? a=some {cls:= .none,data:= .fields ps}
 | .met f x=>h.get? a=some (W.methodObj (.ref f) (.ref x))
 | .ext φ=>φ h /\ (∃o,h.get? a=some o) /\ ∀h1 h2:Heap,φ h1 ->(∀o,h1.get? a=some o ->h2.get? a=some o) ->φ h2
def mY (H:Hp)(h:Heap):Prop:= ∀a o,H a=some o ->d7 P w H h a o
end
def d7.lt (x:d7 P w H h a o):a<h.objs.size:=by
 cases o with
 | lst xs=>let⟨_,_,_,_,e⟩:=x;show aR e
 | tup xs=>let⟨_,_,_,p⟩:=x;show p.lt
 | dK kvs=>let⟨_,_,_,_,o,_,_,e,_⟩:=x;show aR e
 | dT kvs=>let⟨_,_,_,_,o,_,_,e,_⟩:=x;show aR e
 | set S n=>let⟨o,_,_,_,e,_⟩:=x;show aR e
 | ins C dx fs=>let⟨_,_,_,e,_⟩:=x;show aR e
 | own y=>let⟨_,e⟩:=x;show aR e
 | xd fs=>let⟨_,⟨_,_,_,e,_⟩,_⟩:=x;show aR e
 | Y5 lo hi=>let⟨_,_,_,e⟩:=x;show aR e
 | lg ob u=>let⟨e,_⟩:=x;show aR e
 | Mt ps=>show aR (show h.get? a=some _ from x)
 | met f y=>show aR (show h.get? a=some _ from x)
 | ext φ=>let⟨_,⟨_,e⟩,_⟩:=x;show aR e
theorem Paired.Sf {α β:Type}{F G:α ->β ->Prop}: ∀ {l₁:cA α} {l₂:cA β},Paired F l₁ l₂ ->(∀a b,F a b ->G a b) ->Paired G l₁ l₂
 | _,_, .nil,_=> .nil
 | _,_, .cons r t,f=> .cons (f _ _ r) (Paired.Sf t f)
def d7.uG (x:d7 P w H h a o)(k: ∀b u,(b=a \/ H b=some (.own a)) ->h.get? b=some u ->h'.get? b=some u)(ho: ∀b,H b=some (.own a) ->H' b=some (.own a))(ht: ∀b xs,H b=some (.tup xs) ->H' b=some (.tup xs)):d7 P w H' h' a o:=by
 induction o with
 | lst xs=>let⟨z,bJ,n,r,e⟩:=x;show#[z,bJ,n,r,k _ _ (.inl rfl) e]
 | tup xs=>let⟨z,bJ,r,ob,e,c⟩:=x;show#[z,bJ,r,ob,k _ _ (.inl rfl) e,c]
 | dK kvs=>let⟨z,y,vs,r,ob,es,ep,e,c⟩:=x;show#[z,y,vs,r,ob,es,ep,k _ _ (.inl rfl) e,c]
 | dT kvs=>let⟨z,y,xs,r,ob,es,ep,e,c⟩:=x;show#[z,y,xs,Paired.Sf r λp q z=>#[z.1,ht _ _ z.2.1,z.2.2],ob,es,ep,k _ _ (.inl rfl) e,c]
 | set S n=>let⟨ob,es,ep,t,e,c⟩:=x;show#[ob,es,ep,t,k _ _ (.inl rfl) e,c]
 | ins C dx fs=>let⟨d,z,ne,e,mA,⟨od,es,ep,e2,c⟩,r⟩:=x;show#[ho _ d,z,ne,k _ _ (.inl rfl) e,mA,#[od,es,ep,k _ _ (.inr d) e2,c],r]
 | own y=>let⟨ob,e⟩:=x;show#[ob,k _ _ (.inl rfl) e]
 | xd fs=>let⟨mA,⟨od,es,ep,e,c⟩,r⟩:=x;show#[mA,#[od,es,ep,k _ _ (.inl rfl) e,c],r]
 | Y5 lo hi=>let⟨t,u,v,e⟩:=x;show#[t,u,v,k _ _ (.inl rfl) e]
 | lg ob u ih=>let⟨e,q⟩:=x;show#[k _ _ (.inl rfl) e,ih q]
 | Mt ps=>have e:h.get? a=some {cls:= .none,data:= .fields ps}:=x;change h'.get? a=some {cls:= .none,data:= .fields ps};show k a _ (.inl rfl) e
 | met f y=>have e:h.get? a=some (W.methodObj (.ref f) (.ref y)):=x;change h'.get? a=some (W.methodObj (.ref f) (.ref y));show k a _ (.inl rfl) e
 | ext φ=>let⟨p,⟨o,e⟩,st⟩:=x;show#[st _ _ p λo q=>k _ _ (.inl rfl) q,#[o,k _ _ (.inl rfl) e],st]
theorem mY.lt (x:mY P w H h)(e:H a=some o):a<h.objs.size:=(x a o e).lt
def mY.fresh {a:fP}(x:mY P w H h)(e:h.objs.size<=a):H a=none:=by
 cases q:H a with
 | none=>rfl
 | some u=>show absurd (bx (x.lt q) e) (Nat.lt_irrefl _)
theorem mY.kept (x:mY P w H h)(k: ∀b u,h.get? b=some u ->h'.get? b=some u):mY P w H h':=λa o e=>(x a o e).uG (λb u _ q=>k b u q) (λ_ q=>q) λ_ _ q=>q
theorem mY.laid {a:fP}(x:mY P w H h)(k: ∀b u,h.get? b=some u ->h'.get? b=some u)(hp:h.objs.size<=a)(new:d7 P w (cK H a o) h' a o):mY P w (cK H a o) h':=λb u e=>by have hn:=x.fresh hp;by_cases hb:b=a;subst hb;rw[bU] at e;cases e;show new;rw[bN hb] at e;show(x b u e).uG (λc v _ q=>k c v q) (λc q=>by rw[bN (fm q hn)];show q) λc xs q=>by rw[bN (fm q hn)];show q
def Rd (H:Hp)(a:fP)(u:HO):Prop:=H a=some u \/ ∃o,H a=some (.lg o u)
def Rd.ok (r:Rd H a u)(x:mY P w H h):d7 P w H h a u:=by obtain r | ⟨o,r⟩:=r;show x a u r;let⟨_,q⟩:=x a _ r;show q
def X8:e9 HO ->Prop
 | some (.lst _)=>True
 | some (.dK _)=>True
 | some (.dT _)=>True
 | some (.set _ _)=>True
 | some (.ins _ _ _)=>True
 | some (.ext _)=>True
 | _=>False
theorem mY.write (ok:mY P w H h)(mu:X8 (H x))(he:e=x \/ H e=some (.own x))(k: ∀b u,b≠e ->h.get? b=some u ->h'.get? b=some u)(Uw: ∃u,h'.get? e=some u)(new:d7 P w (cK H x o') h' x o'):mY P w (cK H x o') h':=λb u q=>by
 have Wn: ∀c y,H c=some (.own y) ->c≠x:=λc y r z=>by subst z;rw[r] at mu;show mu
 have aat: ∀c xs,H c=some (.tup xs) ->c≠x:=λc xs r z=>by subst z;rw[r] at mu;show mu
 by_cases hb:b=x;subst hb;rw[bU] at q;cases q;show new;rw [bN hb] at q;by_cases Te:b=e;have q':H b=some (.own x):=by obtain z | z:=he;show absurd (Te.trans z) hb;rw[Te];show z
 rw[q] at q';cases q';let⟨v,hv⟩:=Uw;show#[v,by rw[Te];show hv];exact(ok b u q).uG (λc v hc r=>k c v ?_ r) (λc r=>by rw[bN (Wn c b r)];show r) λc xs r=>by rw[bN (aat c xs r)];show r
 obtain rfl | hc:=hc;show Te;rintro rfl;obtain z | z:=he;show Wn c b hc z;rw[hc] at z;cases z;show hb rfl
structure Un (fs ex:List Addr)(H H':Hp)(h h':Heap):Prop where
 keep: ∀b o,h.get? b=some o ->H b=none ->b∉fs ->b∉ex ->h'.get? b=some o
 slot: ∀b o,h.get? b=some o ->H b=none ->b∈fs ->b∉ex -> ∃sl,h'.get? b=some {o with slots:=sl}
 free: ∀b o,h.get? b=some o ->H b=none ->b∉ex ->H' b=none
 there: ∀b o,h.get? b=some o ->b∉ex -> ∃o',h'.get? b=some o'
 ou: ∀b xs,H b=some (.tup xs) ->H' b=some (.tup xs)
 m_: ∀b o u,H b=some (.lg o u) ->H' b=some (.lg o u)
 qq: ∀b ps,H b=some (.Mt ps) -> ∃more,H' b=some (.Mt (ps++more))
section
variable {fs fs' ex ex':cA fP}{H H1 H2:Hp}{h h1 h2 h':Heap}{a x e:fP}{o:HO}
def Un.any (u:Un fs ex H H1 h h1)(q:h.get? b=some ob)(n:H b=none)(hx:b∉ex): ∃sl,h1.get? b=some {ob with slots:=sl}:=by by_cases hb:b∈fs;show u.slot b ob q n hb hx;show#[ob.slots,u.keep b ob q n hb hx]
theorem Un.kept (k: ∀b u,h.get? b=some u ->h'.get? b=some u):Un fs ex H H h h':=#[λb ob q _ _ _=>k b ob q,λb ob q _ _ _=>#[ob.slots,k b ob q],λ_ _ _ n _=>n,λb ob q _=>#[ob,k b ob q],λ_ _ q=>q,λ_ _ _ q=>q,λ_ ps q=>#[#[],by rw[q];simp]]
theorem Un.refl:Un fs ex H H h h:=Un.kept λ_ _ q=>q
theorem Un.laid (k: ∀b u,h.get? b=some u ->h'.get? b=some u)(hp:h.objs.size<=a)(hn:H a=none):Un fs ex H (cK H a o) h h' where
 keep:=λb u q _ _ _=>k b u q
 slot:=λb u q _ _ _=>#[u.slots,k b u q]
 free:=λb u q n _=>by rw[bN (bA (bx (aR q) hp))];show n
 there:=λb u q _=>#[u,k b u q]
 ou:=λb xs q=>by rw[bN (fm q hn)];show q
 m_:=λb u xs q=>by rw[bN (fm q hn)];show q
 qq:=λb ps q=>#[#[],by rw[bN (fm q hn),q];simp]
def Un.write (mu:X8 (H x))(he:e=x \/ H e=some (.own x))(k: ∀b u,b≠e ->h.get? b=some u ->h'.get? b=some u)(Uw: ∃u,h'.get? e=some u):Un fs ex H (cK H x o) h h':=by
 have hx: ∀b,H b=none ->b≠x:=λb n z=>by subst z;rw[n] at mu;show mu
 have hb: ∀b,H b=none ->b≠e:=λb n z=>by subst z;obtain r | r:=he;show hx b n r;rw[n] at r;cases r
 have hm: ∀b u,H b=some u ->¬X8 (some u) ->b≠x:=λb u q nm z=>by subst z;rw[q] at mu;show nm mu
 exact#[λb u q n _ _=>k b u (hb b n) q,λb u q n _ _=>#[u.slots,k b u (hb b n) q],λb u q n _=>by rw[bN (hx b n)];show n,λb u q _=> ?_,λb xs q=>by rw[bN (hm b _ q λz=>z)];show q,λb u xs q=>by rw[bN (hm b _ q λz=>z)];show q,λb ps q=>#[#[],by rw[bN (hm b _ q λz=>z),q];simp]];by_cases Te:b=e;subst Te;show Uw;show#[u,k b u Te q]
end
def YW (h:Heap)(H:Hp):cA fP:=(List.range h.objs.size).filter λa=>(H a).isSome
def zj (h:Heap)(H:Hp):Heap:=W.hideAll h (YW h H)
theorem GL (h:Heap)(H:Hp):(zj h H).objs.size=h.objs.size:=W.hideAll_size _ _
theorem Kk (e:h.get? b=some o)(n:H b=none):(zj h H).get? b=some o:=W.hideAll_get _ e λhm=>by have q:(H b).isSome=true:=(List.mem_filter.mp hm).2;rw[n] at q;simp at q
def Nh (e:(zj h H).get? b=some o):h.get? b=some o /\ H b=none:=by
 have e':h.get? b=some o:=W.of_hideAll (YW h H) e;exact#[e',?_];cases q:H b with
 | none=>rfl
 | some x=>have hm:b∈YW h H:=List.mem_filter.mpr #[List.mem_range.mpr (aR e'),by simp[q]];have z:(zj h H).get? b=none:=W.hideAll_none (YW h H) hm;rw[z] at e;cases e
def Ox (g h:Heap)(L:fP):cA (fP×Obj):=(List.range h.objs.size).filterMap λa=>if a=L \/ (g.get? a).isSome=true then none else(h.get? a).map λo=>(a,o)
def cQ (g h:Heap)(L d:fP):cA (fP×Obj):=(Ox g h L).filter λp=>decide (p.1≠d)
structure Mod (K:PySem.W.Frag)(mg:Str ->Option Value)(base:Heap):Prop where
 PY:K.In base
 glob:base.Ns mainGlobals mg
 blt: ∃mb,base.Ns builtinsNs mb /\ ∀x:Str,x≠ "__name__" ->mb x=bootBuiltins x
 nolimit:base.NoLimit
structure Cx where
 prog:Program
 w:World
 K:PySem.W.Frag
 mg:Str ->Option Value
 base:Heap
 A:Around
 N:List Str
 s₀:Shared
 H₀:Hp
 env:Env
 outer:List Env
 stack:List Env
 ex:List Addr
 fn:Str ->Bool
 calm:Bool
 pn:List (Addr×Obj)
 xe:Value ->Shared ->Prop
def li (l:cA Env):cA fP:=l.filterMap (·.frame)
abbrev Cx.fs (X:Cx):cA fP:=li X.outer
def X4 (sc:Scope)(x:Str):Prop:=sc.names.lookup x=some .local \/ sc.names.lookup x=some .cell \/ sc.names.lookup x=some .free
def Loc (sc:Scope)(x:Str):Prop:=sc.names.lookup x=some .local \/ sc.names.lookup x=some .cell
def Look (env:Env)(h:Heap)(m:Str ->e9 c7)(x:Str)(u:c7):Prop:=(env.kindOf x=some .local /\ m x=some u) \/ ((env.kindOf x=some .cell \/ env.kindOf x=some .free) /\ ∃c,env.cells.lookup x=some c /\ h.IsCell c (some u))
structure Cx.Ok (X:Cx):Prop where
 mod:Mod X.K X.mg X.base
 kind:X.env.scope.kind= .function
 glob:X.env.globals=mainGlobals
 blt:X.env.builtins=builtinsNs
 above:X.s₀.heap.objs.size<=X.env.locals
 inj: ∀x y c,X.env.cells.lookup x=some c ->X.env.cells.lookup y=some c ->x=y
 has: ∀x,(X.env.kindOf x=some .cell \/ X.env.kindOf x=some .free) -> ∃c,X.env.cells.lookup x=some c
 UD: ∀x c,X.fn x=true ->X.env.cells.lookup x=some c ->X.s₀.heap.objs.size<=c
 hd:X.calm=true ->X.A.handled=none
 frames:X.A.frames=some X.stack
 Rg:X.stack=X.outer \/ (X.stack=X.env::X.outer /\ X.env.frame=some X.env.locals)
 exf: ∀b∈X.ex,b≠X.env.locals /\ ∀x c,X.env.cells.lookup x=some c ->c≠b
 bs: ∀b o,X.base.get? b=some o ->X.s₀.heap.get? b=some o /\ X.H₀ b=none
 K6:X.base.objs.size<=X.s₀.heap.objs.size
 Gs: ∀b o,X.base.get? b=some o ->b∉X.ex
 C8: ∀b∈X.ex,b∉X.fs
 n9:X.s₀.heap.FunFrames X.base X.outer
 L3: ∀b∈X.fs,X.H₀ b=none
structure Inv (X:Cx)(ah:List (Addr×Obj))(σ:List (Option V))(H:Hp)(s:Shared):Prop where
 ok:X.Ok
 os:s.os=X.s₀.os
 bare:AllBare s.gens
 base:Un X.fs X.ex X.H₀ H X.s₀.heap s.heap
 loc: ∃m,s.heap.Ns X.env.locals m /\ ∀ (i:Nat) (x:Str) (v:V),X.N[i]? =some x ->σ[i]? =some (some v) ->X4 X.env.scope x -> ∃u,RelV v u /\ Look X.env s.heap m x u
 cell: ∀x c,X.env.cells.lookup x=some c -> ∃v,s.heap.IsCell c v
 free:H X.env.locals=none
 gK: ∀x c,X.env.cells.lookup x=some c ->H c=none
 pin: ∀p∈X.pn++ah,s.heap.get? p.1=some p.2 /\ H p.1=none /\ p.1≠X.env.locals /\ p.1∉X.fs /\ ∀v,p.2.data≠ .cell v
 cN:mY X.prog X.w H s.heap
 len:σ.length=X.N.length
theorem Cx.Ok.aav {X:Cx}(ok:X.Ok)(e:X.base.get? b=some o):b∉X.fs:=λhb=>by have:=(ok.n9.mem hb).1;rw[e] at this;cases this
theorem Inv.bs (I:Inv X ah σ H s): ∀b o,X.base.get? b=some o ->s.heap.get? b=some o /\ H b=none:=λb o e=>#[I.base.keep b o (I.ok.bs b o e).1 (I.ok.bs b o e).2 (I.ok.aav e) (I.ok.Gs b o e),I.base.free b o (I.ok.bs b o e).1 (I.ok.bs b o e).2 (I.ok.Gs b o e)]
theorem Inv.bk (I:Inv X ah σ H s): ∀b o,X.base.get? b=some o ->s.heap.get? b=some o:=λb o e=>(I.bs b o e).1
theorem Inv.mod (I:Inv X ah σ H s):Mod X.K X.mg X.base:=I.ok.mod
theorem Inv.nz (I:Inv X ah σ H s):X.K.In s.heap:=I.ok.mod.PY.keeps I.bk
theorem Inv.fr (I:Inv X ah σ H s): ∃m,Fr X.base X.env.locals s.heap m:=
 let ⟨m,hn,_⟩:=I.loc
 #[m,hn,I.bk,ar I.ok.K6 I.ok.above]
theorem Inv.lt (I:Inv X ah σ H s):X.env.locals<s.heap.objs.size:=let ⟨_,hn,_⟩:=I.loc;hn.lt
theorem Inv.sz (I:Inv X ah σ H s):X.s₀.heap.objs.size<=s.heap.objs.size:=ar I.ok.above (Nat.le_of_lt I.lt)
theorem Inv.aau (I:Inv X ah σ H s){a:fP}(h:s.heap.objs.size<=a):a∉X.fs:=λhb=>by let⟨_,o,ho,_⟩:=I.ok.n9.mem hb;show absurd (bx (aR ho) (ar I.sz h)) (Nat.lt_irrefl _)
theorem Inv.Tu (I:Inv X ah σ H s): ∀x c,X.env.cells.lookup x=some c ->c≠X.env.locals:=λx c e z=>by let⟨v,o,ho,hd⟩:=I.cell x c e;let⟨m,⟨o',es,ep,zi,Xp,_⟩,_⟩:=I.loc;rw[z,zi] at ho;cases ho;rw[Xp] at hd;cases hd
def Inv.n9 (I:Inv X ah σ H s):s.heap.FunFrames X.base X.outer:=by
 have all: ∀ (l:cA Env),(∀b∈li l,b∈X.fs) ->X.s₀.heap.FunFrames X.base l ->s.heap.FunFrames X.base l:=by
  intro l;induction l with
  | nil=>intro _ _;trivial
  | cons env r ih=>intro hs hl;let⟨hk,⟨L,o,hf,hn,ho,hd⟩,hr⟩:=hl;have hL:L∈X.fs:=hs L (by unfold li;rw[List.filterMap_cons,hf];show List.mem_cons_self);let⟨sl,e⟩:=I.base.slot L o ho (I.ok.L3 L hL) hL λz=>I.ok.C8 L z hL;show#[hk,#[L,_,hf,hn,e,hd],ih (λb hb=>hs b (by unfold li;rw[List.filterMap_cons,hf];show dg _ hb)) hr]
 show all X.outer (λ_ hb=>hb) I.ok.n9
def Inv.stack (I:Inv X ah σ H s):s.heap.FunFrames X.base X.stack:=by obtain e | ⟨e,hf⟩:=I.ok.Rg;rw[e];show I.n9;rw[e];let⟨m,hn,_⟩:=I.loc;exact .cons (by rw[I.ok.kind];decide) hf hn ?_ I.n9;show Heap.get?_none_of_le (ar I.ok.K6 I.ok.above)
theorem Inv.yx (I:Inv X ah σ H s): ∀b∈li X.stack,b∈X.env.locals::X.fs:=λb hb=>by obtain e | ⟨e,hf⟩:=I.ok.Rg;rw[e] at hb;show dg _ hb;rw[e] at hb;unfold li at hb;rw[List.filterMap_cons,hf] at hb;show hb
theorem Inv.t7 (I:Inv X ah σ H s): ∀b∈li X.stack,H b=none:=λb hb=>by obtain e | hb:=aT.mp (I.yx b hb);rw[e];show I.free;let⟨_,o,ho,_⟩:=I.ok.n9.mem hb;show I.base.free b o ho (I.ok.L3 b hb) λz=>I.ok.C8 b z hb
def Inv.step {ch:cA fP}(I:Inv X ah σ H s)(L0: ∀b∈ch,(b∈X.ex \/ X.s₀.heap.objs.size<=b) /\ b≠X.env.locals /\ (∀x c,X.env.cells.lookup x=some c ->c≠b) /\ ∀p∈X.pn++ah,p.1≠b)(keep: ∀b o,b≠X.env.locals ->b∉X.fs ->b∉ch ->s.heap.get? b=some o ->H b=none ->h'.get? b=some o)(slot: ∀b o,b≠X.env.locals ->b∈X.fs ->b∉ch ->s.heap.get? b=some o ->H b=none -> ∃sl,h'.get? b=some {o with slots:=sl})(free: ∀b o,b∉ch ->s.heap.get? b=some o ->H b=none ->H' b=none)(there: ∀b o,b∉ch ->s.heap.get? b=some o -> ∃o',h'.get? b=some o')(ou: ∀b xs,H b=some (.tup xs) ->H' b=some (.tup xs))(m_: ∀b o u,H b=some (.lg o u) ->H' b=some (.lg o u))(qq: ∀b ps,H b=some (.Mt ps) -> ∃more,H' b=some (.Mt (ps++more)))(ns: ∀m,s.heap.Ns X.env.locals m ->h'.Ns X.env.locals m)(cN:mY X.prog X.w H' h')(hg:AllBare g'): Inv X ah σ H' {s with heap:=h',gens:=g',drawn:=d',toks:=t'}:=by
 have neL: ∀b o,X.s₀.heap.get? b=some o ->b≠X.env.locals:=λb o e=>bA (bx (aR e) I.ok.above);have Zf: ∀b o,X.s₀.heap.get? b=some o ->b∉X.ex ->b∉ch:=λb o e hx hb=>by obtain z | z:=(L0 b hb).1;show hx z;show absurd (bx (aR e) z) (Nat.lt_irrefl _)
 have cellK: ∀x c,X.env.cells.lookup x=some c -> ∀v,s.heap.IsCell c v ->h'.IsCell c v:=λx c e v ⟨o,ho,hd⟩=>by have Wq:c∉ch:=λz=>(L0 c z).2.2.1 x c e rfl;by_cases hc:c∈X.fs;let⟨sl,q⟩:=slot c o (I.Tu x c e) hc Wq ho (I.gK x c e);show#[_,q,hd];show#[o,keep c o (I.Tu x c e) hc Wq ho (I.gK x c e),hd]
 exact#[I.ok,I.os,hg,#[λb o e n hb hx=> ?_,λb o e n hb hx=> ?_,λb o e n hx=> ?_,λb o e hx=> ?_,λb xs e=>ou b xs (I.base.ou b xs e),λb o xs e=>m_ b o xs (I.base.m_ b o xs e),λb ps e=> ?_],?_,λx c e=> ?_,?_,λx c e=> ?_,λp hp=> ?_,cN,I.len];show keep b o (neL b o e) hb (Zf b o e hx) (I.base.keep b o e n hb hx) (I.base.free b o e n hx);let⟨sl,e1⟩:=I.base.slot b o e n hb hx;let⟨sl',e2⟩:=slot b _ (neL b o e) hb (Zf b o e hx) e1 (I.base.free b o e n hx);show#[sl',e2];let⟨o',e1⟩:=I.base.there b o e hx;show free b o' (Zf b o e hx) e1 (I.base.free b o e n hx);let⟨o',e1⟩:=I.base.there b o e hx;show there b o' (Zf b o e hx) e1;let⟨m1,e1⟩:=I.base.qq b ps e;let⟨m2,e2⟩:=qq b _ e1;show#[m1++m2,by rw[e2,Array.append_assoc]];let⟨m,hn,hl⟩:=I.loc;exact#[m,ns m hn,λi x v e1 e2 e3=> ?_];let⟨u,r,l⟩:=hl i x v e1 e2 e3;exact#[u,r,?_];obtain l | ⟨k,c,e,z⟩:=l;show .inl l;show .inr #[k,c,e,cellK x c e _ z];let⟨v,z⟩:=I.cell x c e;show#[v,cellK x c e v z];let⟨m,⟨o,_,_,ho,_⟩,_⟩:=I.loc;show free _ o (λz=>(L0 _ z).2.1 rfl) ho I.free;let⟨v,o,ho,hd⟩:=I.cell x c e;show free c o (λz=>(L0 c z).2.2.1 x c e rfl) ho (I.gK x c e);let⟨e,n,ne,nf,d⟩:=I.pin p hp;have Wq:p.1∉ch:=λz=>(L0 p.1 z).2.2.2 p hp rfl;show#[keep p.1 p.2 ne nf Wq e n,free p.1 p.2 Wq e n,ne,nf,d]
def Inv.un (I:Inv X ah σ H s)(u:Un X.fs [] H H' s.heap h')(cN:mY X.prog X.w H' h'):Inv X ah σ H' {s with heap:=h',toks:=t'}:=by let⟨m,⟨o,es,ep,ho,r⟩,_⟩:=id I.loc;let⟨sl,hL⟩:=u.any ho I.free (by simp);show I.step (g':=s.gens) (d':=s.drawn) (ch:= []) (λ_ z=>nomatch z) (λb o _ hb _ e n=>u.keep b o e n hb (by simp)) (λb o _ hb _ e n=>u.slot b o e n hb (by simp)) (λb o _ e n=>u.free b o e n (by simp)) (λb o _ e=>u.there b o e (by simp)) u.ou u.m_ u.qq (λm' hm=>by let⟨o',ZJ,ZK,zi,r'⟩:=hm;rw[ho] at zi;cases zi;show#[_,ZJ,ZK,hL,r']) cN I.bare
def Inv.call (I:Inv X ah σ H s)(u:Un (li X.stack) ch H H' s.heap h')(cN:mY X.prog X.w H' h')(hg:AllBare g')(L0: ∀b∈ch,(b∈X.ex \/ X.s₀.heap.objs.size<=b) /\ b≠X.env.locals /\ (∀x c,X.env.cells.lookup x=some c ->c≠b) /\ ∀p∈X.pn++ah,p.1≠b): Inv X ah σ H' {s with heap:=h',gens:=g',drawn:=d',toks:=t'}:=by let⟨m,⟨o,es,ep,ho,r⟩,_⟩:=id I.loc;let⟨sl,hL⟩:=u.any ho I.free λz=>(L0 _ z).2.1 rfl;show I.step (ch:=ch) L0 (λb o hL hb hc e n=>u.keep b o e n (λz=>(aT.mp (I.yx b z)).elim hL hb) hc) (λb o _ _ hc e n=>u.any e n hc) (λb o hc e n=>u.free b o e n hc) (λb o hc e=>u.there b o e hc) u.ou u.m_ u.qq (λm' hm=>by let⟨o',ZJ,ZK,zi,r'⟩:=hm;rw[ho] at zi;cases zi;show#[_,ZJ,ZK,hL,r']) cN hg
def Inv.turned (I:Inv X ah σ H s)(k: ∀b o,b≠it ->s.heap.get? b=some o ->h'.get? b=some o)(hn:H it=none)(hL:it≠X.env.locals)(h1:it∈X.ex \/ X.s₀.heap.objs.size<=it)(h2: ∀x c,X.env.cells.lookup x=some c ->c≠it)(h3: ∀p∈X.pn++ah,p.1≠it):Inv X ah σ H {s with heap:=h',toks:=t'}:=by
 have nit: ∀b u,H b=some u ->b≠it:=λb u e z=>by rw[z,hn] at e;cases e
 exact I.step (g':=s.gens) (d':=s.drawn) (ch:= [it]) (λb hb=> ?_) (λb o _ _ hc e _=>k b o (λz=>hc (by simp[z])) e) (λb o _ _ hc e _=>#[o.slots,k b o (λz=>hc (by simp[z])) e]) (λ_ _ _ _ n=>n) (λb o hc e=>#[o,k b o (λz=>hc (by simp[z])) e]) (λ_ _ e=>e) (λ_ _ _ e=>e) (λb ps e=>#[#[],by rw[e];simp]) (λm hm=> ?_) (λb u e=> ?_) I.bare;have e:b=it:=by simpa using hb
 subst e;show#[h1,hL,h2,h3];let⟨o,es,ep,ho,r⟩:=hm;show#[o,es,ep,k _ o (du hL) ho,r];exact(I.cN b u e).uG (λc v hc q=>k c v ?_ q) (λ_ q=>q) λ_ _ q=>q;obtain z | z:=hc;rw[z];show nit b u e;show nit c _ z
theorem Inv.tok (I:Inv X ah σ H s)(t:Nat):Inv X ah σ H {s with toks:=t}:=I.un (h':=s.heap) (t':=t) Un.refl I.cN
theorem Inv.kept (I:Inv X ah σ H s)(k: ∀b u,s.heap.get? b=some u ->h'.get? b=some u):Inv X ah σ H {s with heap:=h',toks:=t'}:=I.un (Un.kept k) (I.cN.kept k)
theorem Inv.laid {a:fP}(I:Inv X ah σ H s)(k: ∀b u,s.heap.get? b=some u ->h'.get? b=some u)(hp:s.heap.objs.size<=a)(new:d7 X.prog X.w (cK H a o) h' a o): Inv X ah σ (cK H a o) {s with heap:=h',toks:=t'}:=I.un (Un.laid k hp (I.cN.fresh hp)) (I.cN.laid k hp new)
theorem Inv.write (I:Inv X ah σ H s)(mu:X8 (H x))(he:e=x \/ H e=some (.own x))(k: ∀b u,b≠e ->s.heap.get? b=some u ->h'.get? b=some u)(Uw: ∃u,h'.get? e=some u)(new:d7 X.prog X.w (cK H x o) h' x o):Inv X ah σ (cK H x o) {s with heap:=h',toks:=t'}:=I.un (Un.write mu he k Uw) (I.cN.write mu he k Uw new)
theorem Inv.weak (I:Inv X ah σ H s)(hl:σ'.length=σ.length)(w: ∀ (i:Nat) v,σ'[i]? =some (some v) ->σ[i]? =some (some v)):Inv X ah σ' H s:=#[I.ok,I.os,I.bare,I.base,let ⟨m,hn,rY⟩:=I.loc;#[m,hn,λi x v e1 e2 e3=>rY i x v e1 (w i v e2) e3],I.cell,I.free,I.gK,I.pin,I.cN,hl.trans I.len]
theorem Inv.Ep (I:Inv X ah σ H s)(h: ∀p∈Er,s.heap.get? p.1=some p.2 /\ H p.1=none /\ p.1≠X.env.locals /\ p.1∉X.fs /\ ∀v,p.2.data≠ .cell v):Inv X Er σ H s:=#[I.ok,I.os,I.bare,I.base,I.loc,I.cell,I.free,I.gK,λp hp=>(a9.mp hp).elim (λz=>I.pin p (List.mem_append_left _ z)) (h p),I.cN,I.len]
def AG {N:cA Str}(hN:N.Nodup){i j:Nat}(a:N[i]? =some x)(b:N[j]? =some x):i=j:=by let⟨h1,e1⟩:=bv.mp a;let⟨h2,e2⟩:=bv.mp b;show(List.getElem_inj hN).mp (e1.trans e2.symm)
def xi (I:Inv X ah σ H s)(hN:X.N.Nodup)(hi:X.N[i]? =some x)(hx:Loc X.env.scope x)(r:RelV v u)(h: ∀s',Inv X ah (σ.set i (some v)) H s' ->(∃a,Heap.SameBut a s.heap s'.heap /\ (a=X.env.locals \/ X.env.cells.lookup x=some a)) ->Q () s')(hf:X.fn x=true \/ X.env.scope.names.lookup x=some .local:=by first | show .inl rfl | show .inr rfl | assumption):wpAny M A (storeName X.env x u) Q E s:=by
 let⟨m,hn,hl⟩:=id I.loc;have abh:(X.env.scope.kind== .class || (X.env.scope.kind== .module && X.env.locals !=X.env.globals))=false:=by rw[I.ok.kind];rfl
 have hiσ:i<σ.length:=by rw[I.len];show(bv.mp hi).1
 have Tu:=I.Tu;have tracked: ∀ {a:fP} {h':Heap},(∃o,s.heap.get? a=some o /\ H a=none) ->Heap.SameBut a s.heap h' ->mY X.prog X.w H h':=λ{a h'} ha hs b ob e=>by let⟨_,_,Qh⟩:=ha;exact(I.cN b ob e).uG (λc w' hc q=>(hs.2 c ?_).trans q) (λ_ q=>q) λ_ _ q=>q;rintro rfl;obtain rfl | hc:=hc;rw[Qh] at e;cases e;rw[Qh] at hc;cases hc
 obtain hk | hk:=hx;exact wpAny_storeName_local hk hn (λh' A4 hs=> ?_) abh;let⟨oL,_,_,hoL,_⟩:=id hn;exact h _ #[I.ok,I.os,I.bare,#[λb o e n hb hx=> ?_,λb o e n hb hx=> ?_,I.base.free,λb o e hx=> ?_,I.base.ou,I.base.m_,I.base.qq],#[_,A4,λj y v' e1 e2 e3=> ?_],λy c e=> ?_,I.free,I.gK,λp hp=> ?_,tracked #[oL,hoL,I.free] hs, ⇑I.len] #[_,hs, .inl rfl];show(hs.2 b (bA (bx (aR e) I.ok.above))).trans (I.base.keep b o e n hb hx);let⟨sl,e1⟩:=I.base.slot b o e n hb hx;show#[sl,(hs.2 b (bA (bx (aR e) I.ok.above))).trans e1];let⟨o',e1⟩:=I.base.there b o e hx;show#[o',(hs.2 b (bA (bx (aR e) I.ok.above))).trans e1];by_cases hj:j=i;subst hj;rw[hi] at e1;cases e1;rw[List.getElem?_set_self hiσ] at e2;cases e2;show#[u,r, .inl #[hk,by simp]];rw[List.getElem?_set_ne (du hj)] at e2;let⟨u',r',q⟩:=hl j y v' e1 e2 e3;exact#[u',r',?_];rcases q with⟨k,e⟩ | ⟨k,c,e,z⟩
 exact .inl #[k,?_];have:y≠x:=λe=>hj (AG hN e1 (e▸hi));simp[this,e];show .inr #[k,c,e,z.sameBut hs (Tu y c e)];let⟨w',z⟩:=I.cell y c e;show#[w',z.sameBut hs (Tu y c e)];let⟨e,n,ne,nf,d⟩:=I.pin p hp;show#[(hs.2 p.1 ne).trans e,n,ne,nf,d];have hfn:X.fn x=true:=by obtain z | z:=hf;show z;rw[z] at hk;cases hk
 let⟨c,hc⟩:=I.ok.has x (.inl hk);let⟨w',z⟩:=I.cell x c hc;exact wpAny_storeName_cell I.ok.kind hk hc z (λh' ZD hs=> ?_);let⟨oc,hoc,aba⟩:=id z;exact h {s with heap:=h'} #[I.ok,I.os,I.bare,#[λb o e n hb hx=> ?_,λb o e n hb hx=> ?_,I.base.free,λb o e hx=> ?_,I.base.ou,I.base.m_,I.base.qq],#[m,hn.sameBut hs (du (Tu x c hc)),λj y v' e1 e2 e3=> ?_],λy c' e=> ?_,I.free,I.gK,λp hp=> ?_,tracked #[oc,hoc,I.gK x c hc] hs, ⇑I.len] #[c,hs, .inr hc];show(hs.2 b (bA (bx (aR e) (I.ok.UD x c hfn hc)))).trans (I.base.keep b o e n hb hx);let⟨sl,e1⟩:=I.base.slot b o e n hb hx;show#[sl,(hs.2 b (bA (bx (aR e) (I.ok.UD x c hfn hc)))).trans e1];let⟨o',e1⟩:=I.base.there b o e hx;show#[o',(hs.2 b (bA (bx (aR e) (I.ok.UD x c hfn hc)))).trans e1];by_cases hj:j=i;subst hj;rw[hi] at e1;cases e1;rw[List.getElem?_set_self hiσ] at e2;cases e2;show#[u,r, .inr #[.inl hk,c,hc,ZD]];rw[List.getElem?_set_ne (du hj)] at e2;let⟨u',r',q⟩:=hl j y v' e1 e2 e3;exact#[u',r',?_];obtain q | ⟨k,c',e,z'⟩:=q;show .inl q;exact .inr #[k,c',e,z'.sameBut hs ?_];rintro rfl;show hj (AG hN e1 (I.ok.inj _ _ _ e hc▸hi));by_cases hcc:c'=c;subst hcc;show#[_,ZD];let⟨w2,z2⟩:=I.cell y c' e;show#[w2,z2.sameBut hs hcc];let⟨e,n,ne,nf,d⟩:=I.pin p hp;exact#[(hs.2 p.1 ?_).trans e,n,ne,nf,d];intro q;rw[q,hoc] at e;have q':oc=p.2:=bu e;show d w' (by rw[<- q'];show aba)
theorem oz (I:Inv X ah σ H s)(hN:X.N.Nodup)(hi:X.N[i]? =some x)(hx:Loc X.env.scope x)(r:RelV v u)(h: ∀s',Inv X ah (σ.set i (some v)) H s' ->Q () s')(hf:X.fn x=true \/ X.env.scope.names.lookup x=some .local:=by first | show .inl rfl | show .inr rfl | assumption):wpAny M A (storeName X.env x u) Q E s:=xi I hN hi hx r (λs' I' _=>h s' I') hf
def Inv.K5 (I:Inv X ah σ H s)(ho:s'.os=s.os)(u:Un (li X.stack) ch H H' s.heap s'.heap)(cN:mY X.prog X.w H' s'.heap)(hg:AllBare s'.gens)(L0: ∀b∈ch,(b∈X.ex \/ X.s₀.heap.objs.size<=b) /\ b≠X.env.locals /\ (∀x c,X.env.cells.lookup x=some c ->c≠b) /\ ∀p∈X.pn++ah,p.1≠b):Inv X ah σ H' s':=by let⟨h',g',d',t',o'⟩:=s';have e:o'=s.os:=ho;subst e;show I.call (g':=g') (t':=t') (d':=d') u cN hg L0
abbrev XK:=c7 ->e9 fP ->Hp ->Prop
abbrev St:=cA (e9 V)
abbrev VK:=V ->Hp ->Prop
abbrev TE:=St ->Hp ->VK ->Prop
abbrev TT:=St ->Hp ->(Bool ->Hp ->Prop) ->Prop
abbrev TA:=St ->Hp ->(cA V ->Hp ->Prop) ->Prop
structure we where
 nx:St ->Hp ->Prop
 rt:VK
 bk:St ->Hp ->Prop:=λ_ _=>False
 ct:St ->Hp ->Prop:=λ_ _=>False
abbrev TS:=we ->St ->Hp ->Prop
def EP (X:Cx)(ah:cA (fP×Obj))(σ:St)(Q:VK)(u:c7)(s':dz):Prop:=cg λv H'=>cW (Inv X ah σ H' s') (RelV v u) (Q v H')
def TP (X:Cx)(ah:cA (fP×Obj))(σ:St)(Q:Bool ->Hp ->Prop)(b:Bool)(s':dz):Prop:= ∃H',Inv X ah σ H' s' /\ Q b H'
def AP (X:Cx)(ah:cA (fP×Obj))(σ:St)(Q:cA V ->Hp ->Prop)(us:cA c7)(s':dz):Prop:=cg λvs H'=>cW (Inv X ah σ H' s') (cb vs us) (Q vs H')
def SP (X:Cx)(ah:cA (fP×Obj))(D:we)(f:Flow)(s':dz):Prop:=
 match f with
 | .next=>cg λσ' H'=>Inv X ah σ' H' s' /\ D.nx σ' H'
 | .brk=>cg λσ' H'=>Inv X ah σ' H' s' /\ D.bk σ' H'
 | .cont=>cg λσ' H'=>Inv X ah σ' H' s' /\ D.ct σ' H'
 | .ret u=>eQ λv σ' H'=>cW (Inv X ah σ' H' s') (RelV v u) (D.rt v H')
def PE (X:Cx)(e:Expr)(t:TE):Prop:=∀ (ah:cA (fP×Obj)) (s:dz) (σ:St) (H:Hp) (Q:VK),Inv X ah σ H s ->t σ H Q ->wpAny (model X.prog X.w) X.A (eval e X.env) (EP X ah σ Q) X.xe s
def PT (X:Cx)(e:Expr)(t:TT):Prop:=∀ (ah:cA (fP×Obj)) (s:dz) (σ:St) (H:Hp) (Q:Bool ->Hp ->Prop),Inv X ah σ H s ->t σ H Q ->wpAny (model X.prog X.w) X.A (isTrue e X.env (eval e X.env)) (TP X ah σ Q) X.xe s
def PW (X:Cx)(e:Expr)(t:TT):Prop:=∀ (nj:Sem c7) (ah:cA (fP×Obj)) (s:dz) (σ:St) (H:Hp) (Q:Bool ->Hp ->Prop),Inv X ah σ H s ->t σ H Q ->wpAny (model X.prog X.w) X.A (isTrue e X.env nj) (TP X ah σ Q) X.xe s
theorem PW.pt (h:PW X e t):PT X e t:=h _
def PA (X:Cx)(es:cA Expr)(t:TA):Prop:=∀ (pos:Pos) (ah:cA (fP×Obj)) (s:dz) (σ:St) (H:Hp) (Q:cA V ->Hp ->Prop),Inv X ah σ H s ->t σ H Q ->wpAny (model X.prog X.w) X.A (spliced (backTo pos (starEach es X.env))) (AP X ah σ Q) X.xe s
def PS (X:Cx)(st:Stmt)(t:TS):Prop:=∀ (ah:cA (fP×Obj)) (s:dz) (σ:St) (H:Hp) (D:we),Inv X ah σ H s ->t D σ H ->wpAny (model X.prog X.w) X.A (exec st X.env) (SP X ah D) X.xe s
def zS (X:Cx)(st:cA Stmt)(t:TS):Prop:=∀ (ah:cA (fP×Obj)) (s:dz) (σ:St) (H:Hp) (D:we),Inv X ah σ H s ->t D σ H ->wpAny (model X.prog X.w) X.A (execs st X.env) (SP X ah D) X.xe s
theorem cV {Q Q':α ->dz ->Prop}(h:wpAny M A t Q E s)(hQ: ∀a s,Q a s ->Q' a s):wpAny M A t Q' E s:=bE h hQ λ_ _ x=>x
section
variable {X:Cx}
def bin (ha:PE X a ta)(hb:PE X b tb){σ:St}{R:V ->V ->Hp ->Prop}(I:Inv X ah σ H s)(h:ta σ H λx H1=>tb σ H1 λy H2=>R x y H2){f:c7 ->c7 ->Sem α}(hf: ∀v u s2 x y H2,Inv X ah σ H2 s2 ->RelV x v ->RelV y u ->R x y H2 ->wpAny (model X.prog X.w) X.A (f v u) Q X.xe s2): wpAny (model X.prog X.w) X.A (eval a X.env) (λv s₁=>wpAny (model X.prog X.w) X.A (eval b X.env) (λu s₂=>wpAny (model X.prog X.w) X.A (f v u) Q X.xe s₂) X.xe s₁) X.xe s:=by exact cV (ha ah s σ H _ I h) λv s1 ⟨x,H1,I1,r1,q1⟩=> ?_;exact cV (hb ah s1 σ H1 _ I1 q1) λu s2 ⟨y,H2,I2,r2,q2⟩=> ?_;show hf v u s2 x y H2 I2 r1 r2 q2
def Mu (i:Nat):TE:=λσ H Q=> ∃v,σ[i]? =some (some v) /\ Q v H
def tC (v:V):TE:=λ_ H Q=>Q v H
def RE {pos:Pos}(hN:X.N[i]? =some x)(hv:X4 X.env.scope x)(hd:(x==("__debug__" :Str))=false:=by decide)(E5:(x==("__classdict__" :Str))=false:=by decide):PE X (.Name x pos) (Mu i):=by
 intro ah s σ H Q I h;let⟨v,e,h⟩:=h;let⟨m,hn,hl⟩:=I.loc;let⟨u,r,l⟩:=hl i x v hN e hv;have fin:EP X ah σ Q u s:=#[v,H,I,r,h]
 rcases l with⟨hk,hm⟩ | ⟨hk,c,hc,E4⟩
 show wpAny_Name (wpAny_loadName_local I.ok.kind hk hn hm fin) hd;obtain hk | hk:=hk;show wpAny_Name (wpAny_loadName_cell I.ok.kind hk hc E4 fin) hd;show wpAny_Name (wpAny_loadName_free I.ok.kind hk hc E4 fin E5) hd
theorem ai {i j pos}:PE X (.Constant (.int i) j pos) (tC (.int i)):=λ_ _ _ H _ I h=>wpAny_Constant_int #[.int i,H,I.tok _,#[_,rfl],h]
theorem ja {b j pos}:PE X (.Constant (.bool b) j pos) (tC (.bl b)):=λ_ _ _ H _ I h=>Constant_bool #[.bl b,H,I,rfl,h]
theorem jl {j pos}:PE X (.Constant .none j pos) (tC .d3):=λ_ _ _ H _ I h=>Constant_none #[.d3,H,I,rfl,h]
theorem ay {x j pos}:PE X (.Constant (.str x) j pos) (tC (.str x)):=λ_ _ _ H _ I h=>Calls.Constant_str #[.str x,H,I.tok _,#[_,rfl],h]
def Gl (X:Cx)(x:Str):Prop:=X.env.kindOf x=some .globalImplicit
theorem pi {σ:St}(I:Inv X ah σ H s)(hg:Gl X x)(hm:X.mg x=some u)(h:Q u s)(hd:(x==("__debug__" :Str))=false:=by decide):wpAny (model X.prog X.w) X.A (eval (.Name x pos) X.env) Q E s:=Calls.Name_function_global I.ok.kind hg (Calls.loadGlobal_global (by rw[I.ok.glob];show I.mod.glob.keeps I.bk) hm h) hd
def zc {E:c7 ->dz ->Prop}{σ:St}{pos:Pos}(I:Inv X ah σ H s)(hg:Gl X x)(hm:X.mg x=none)(hv:bootBuiltins x=some u)(h:Q u s)(hn:x≠ "__name__" :=by decide)(hd:(x==("__debug__" :Str))=false:=by decide):wpAny (model X.prog X.w) X.A (eval (.Name x pos) X.env) Q E s:=by let⟨mb,h1,h2⟩:=I.mod.blt;show Calls.Name_function_global I.ok.kind hg (Calls.loadGlobal_builtin (by rw[I.ok.glob];show I.mod.glob.keeps I.bk) hm (by rw[I.ok.blt];show h1.keeps I.bk) ((h2 x hn).trans hv) h) hd
theorem f8 (hg:Gl X x)(hm:X.mg x=some u)(r:RelV v u)(hd:(x==("__debug__" :Str))=false:=by decide):PE X (.Name x pos) (tC v):=λ_ _ _ H _ I h=>pi I hg hm #[v,H,I,r,h] hd
theorem i_ {pos:Pos}(hg:Gl X x)(hm:X.mg x=none)(hv:bootBuiltins x=some u)(r:RelV v u)(hn:x≠ "__name__" :=by decide)(hd:(x==("__debug__" :Str))=false:=by decide):PE X (.Name x pos) (tC v):=λ_ _ _ H _ I h=>zc I hg hm hv #[v,H,I,r,h] hn hd
variable {a b:Expr}{ta tb:TE}{pos:Pos}
def PC (X:Cx)(op:CmpOp)(a b:Expr)(t:TE):Prop:=∀ (ah:cA (fP×Obj)) (s:dz) (σ:St) (H:Hp) (Q:VK),Inv X ah σ H s ->t σ H Q ->wpAny (model X.prog X.w) X.A (eval a X.env) (λv s₁=>wpAny (model X.prog X.w) X.A (eval b X.env) (λu s₂=>wpAny (model X.prog X.w) X.A (compareOp op v u) (EP X ah σ Q) X.xe s₂) X.xe s₁) X.xe s
def AH (b:Expr)(h:op≠ .In)(h2:op≠ .NotIn):behindInMarks op b=false:=by
 have e1:(op==CmpOp.In)=false:=by cases op<;>first | rfl | show absurd rfl h
 have e2:(op==CmpOp.NotIn)=false:=by cases op<;>first | rfl | show absurd rfl h2
 cases b<;>simp[behindInMarks,e1,e2]
def tB (t:TE):TT:=λσ H Q=>t σ H λx H1=> ∃c,x= .bl c /\ Q c H1
theorem RG (h:PC X op a b t)(h1:behindInMarks op b=false:=by first | show AH _ ⋯ ⋯ | rfl):PE X (.Compare a [op] [b] pos) t:=λah s σ H Q I hw=>wpAny_Compare1 (h ah s σ H Q I hw) h1
def nS (h:PC X op a b t)(h1:behindInMarks op b=false:=by first | show AH _ ⋯ ⋯ | rfl):PT X (.Compare a [op] [b] pos) (tB t):=by intro ah s σ H Q I hw;exact wpAny_isTrue_Compare1 (cV (h ah s σ H _ I hw) λv s1 h1=>cV h1 λu s2 h2=>cV h2 λc s3 ⟨x,H1,I1,r1,q1⟩=> ?_) h1;let⟨d,rfl,q⟩:=q1;cases r1;show cq #[H1,I1,q]
def dE (h:PE X e t)(he: ∀nj,isTrue e X.env nj=(do let v <- nj;standAt e.pos;holding [v] (truthy v)):=by intro _;rfl):PT X e (tB t):=by intro ah s σ H Q I hw;exact isTrue_plain (cV (h ah s σ H _ I hw) λv s1 ⟨x,H1,I1,r1,q1⟩=> ?_) (he _);let⟨d,rfl,q⟩:=q1;cases r1;show cq #[H1,I1,q]
variable {tA YZ:TT}{cQ:cA Expr}
def VC (t u:TT):TT:=λσ H Q=>t σ H λc H1=>if c=true then u σ H1 Q else Q false H1
def tOr (t u:TT):TT:=λσ H Q=>t σ H λc H1=>if c=true then Q true H1 else u σ H1 Q
def Vt (t:TT):TT:=λσ H Q=>t σ H λc H1=>Q (!c) H1
def jY (ha:PT X a tA):PW X (.BoolOp .And [a] pos) tA:=by
 intro wh ah s σ H Q I h;exact isTrue_and (cV (ha ah s σ H Q I h) λc s1 e=> ?_);cases c with
 | true=>show isTrue_and_nil e
 | false=>show e
def iK (ha:PT X a tA):PW X (.BoolOp .Or [a] pos) tA:=by
 intro wh ah s σ H Q I h;exact isTrue_or (cV (ha ah s σ H Q I h) λc s1 e=> ?_);cases c with
 | false=>show isTrue_or_nil e
 | true=>show e
def nR (ha:PT X a tA)(hb:PW X (.BoolOp .And (b::cQ) pos) YZ):PW X (.BoolOp .And (a::b::cQ) pos) (VC tA YZ):=by
 intro wh ah s σ H Q I h;exact isTrue_and (cV (ha ah s σ H _ I h) λc s1 ⟨H1,I1,q1⟩=> ?_);cases c with
 | true=>show hb wh ah s1 σ H1 Q I1 q1
 | false=>show#[H1,I1,q1]
def kG (ha:PT X a tA)(hb:PW X (.BoolOp .Or (b::cQ) pos) YZ):PW X (.BoolOp .Or (a::b::cQ) pos) (tOr tA YZ):=by
 intro wh ah s σ H Q I h;exact isTrue_or (cV (ha ah s σ H _ I h) λc s1 ⟨H1,I1,q1⟩=> ?_);cases c with
 | true=>show#[H1,I1,q1]
 | false=>show hb wh ah s1 σ H1 Q I1 q1
def dS (ha:PT X a tA):PT X (.UnaryOp .Not a pos) (Vt tA):=by intro ah s σ H Q I h;show isTrue_not (ha ah s σ H (λc H1=>Q (!c) H1) I h)
def Pa (ta tb:TE):TE:=λσ H Q=>ta σ H λx H1=> ∃c,x= .bl c /\ if c=true then tb σ H1 Q else Q (.bl false) H1
def Vr (ta tb:TE):TE:=λσ H Q=>ta σ H λx H1=> ∃c,x= .bl c /\ if c=true then Q (.bl true) H1 else tb σ H1 Q
def O7 (ta:TE):TE:=λσ H Q=>ta σ H λx H1=> ∃c,x= .bl c /\ Q (.bl (!c)) H1
theorem uO {op}(h:PE X a t):PE X (.BoolOp op [a] pos) t:=λah s σ H Q I hw=>BoolOp_one (h ah s σ H Q I hw)
def yP (ha:PE X a ta)(hb:PE X (.BoolOp .And (b::cQ) pos) tb):PE X (.BoolOp .And (a::b::cQ) pos) (Pa ta tb):=by
 intro ah s σ H Q I h;exact BoolOp_and (cV (ha ah s σ H _ I h) λv s1 ⟨x,H1,I1,r1,q1⟩=> ?_);let⟨c,rfl,q1⟩:=q1;cases r1;exact cq ?_;cases c with
 | true=>show hb ah s1 σ H1 Q I1 q1
 | false=>show#[.bl false,H1,I1,rfl,q1]
def V1 (ha:PE X a ta)(hb:PE X (.BoolOp .Or (b::cQ) pos) tb):PE X (.BoolOp .Or (a::b::cQ) pos) (Vr ta tb):=by
 intro ah s σ H Q I h;exact BoolOp_or (cV (ha ah s σ H _ I h) λv s1 ⟨x,H1,I1,r1,q1⟩=> ?_);let⟨c,rfl,q1⟩:=q1;cases r1;exact cq ?_;cases c with
 | false=>show hb ah s1 σ H1 Q I1 q1
 | true=>show#[.bl true,H1,I1,rfl,q1]
def Cw (ha:PE X a ta):PE X (.UnaryOp .Not a pos) (O7 ta):=by intro ah s σ H Q I h;exact UnaryOp_ (cV (ha ah s σ H _ I h) λv s1 ⟨x,H1,I1,r1,q1⟩=> ?_);let⟨c,rfl,q1⟩:=q1;cases r1;show not_of (cq #[.bl (!c),H1,I1,rfl,q1])
end
def g0 (K:WV)(H:Hp)(a:fP)(xs:cA V):Prop:=Rd H a (.lst xs) \/eQ λ(o:Obj) (bJ:gH c7) (n:Nat)=>lm (K.lookup a=some o) (o.cls= .type "list") (o.dict=none) (o.data= .seq bJ n) (bJ.size<=sizeLine) (cb xs bJ.toList)
def k7 (K:WV)(H:Hp)(a:fP)(xs:cA V):Prop:=Rd H a (.tup xs) \/eQ λ(o:Obj) (bJ:gH c7) (n:Nat)=>lm (K.lookup a=some o) (o.cls= .type "tuple") (o.dict=none) (o.data= .seq bJ n) (bJ.size<=sizeLine) (cb xs bJ.toList)
def ahI:c7 ->e9 V
 | .none=>some .d3
 | .bool b=>some (.bl b)
 | .int i _=>some (.int i)
 | .str x _=>some (.str x)
 | .bytes b _=>some (.Dg b)
 | .float b _=>some (.N5 b)
 | .ref a=>some (.ref a)
 | .type n=>some (.ty n)
 | _=>none
def RelV.abs (r:RelV x u):ahI u=some x:=by
 cases x with
 | d3=>cases r;rfl
 | bl _=>cases r;rfl
 | int _=>let⟨t,rfl⟩:=r;rfl
 | str _=>let⟨t,rfl⟩:=r;rfl
 | Dg _=>let⟨t,rfl⟩:=r;rfl
 | N5 _=>let⟨t,rfl⟩:=r;rfl
 | ref _=>cases r;rfl
 | ty _=>cases r;rfl
theorem RelV.inj {x y:V}{u:c7}(r:RelV x u)(q:RelV y u):x=y:=bu (r.abs.symm.trans q.abs)
theorem cb.inj: ∀ {xs ys:cA V} {us:cA c7},cb xs us ->cb ys us ->xs=ys
 | _,_,_, .nil, .nil=>rfl
 | _,_,_, .cons r t, .cons r' t'=>by rw[r.inj r',cb.inj t t']
theorem g0.of {K:WV}(h:H a=some (.lst xs)):g0 K H a xs:= .inl (.inl h)
theorem k7.of {K:WV}(h:H a=some (.tup xs)):k7 K H a xs:= .inl (.inl h)
def Inv.list {σ:St}(I:Inv X ah σ H s)(h:g0 X.K H a xs): ∃bJ:cA c7,cW (cb xs bJ) (PlainL s.heap a bJ.toArray) (xs.length<=sizeLine):=by obtain h | ⟨o,bJ,n,hk,hc,hd,hs,hz,r⟩:=h;let⟨z,bJ,n,r,e⟩:=h.ok I.cN;show#[bJ,r,#[_,n,e,rfl,rfl,rfl],z];exact#[bJ.toList,r,#[o,n,I.nz a o hk,hc,hd, ⇑hs],?_];have e:=r.length;simp![dD] at e;lia
def Inv.tuple {σ:St}(I:Inv X ah σ H s)(h:k7 X.K H a xs): ∃bJ:cA c7,cW (cb xs bJ) (IsTup s.heap a bJ.toArray) (xs.length<=sizeLine):=by obtain h | ⟨o,bJ,n,hk,hc,_,hs,hz,r⟩:=h;let⟨z,bJ,r,p⟩:=h.ok I.cN;show#[bJ,r,p.t,z];exact#[bJ.toList,r,#[o,I.nz a o hk,hc,n, ⇑hs],?_];have e:=r.length;simp![dD] at e;lia
def Inv.list_inj {σ:St}(I:Inv X ah σ H s)(h:g0 X.K H a xs)(h':g0 X.K H a ys):xs=ys:=by let⟨bJ,r,⟨o,n,e,_,_,d⟩,_⟩:=I.list h;let⟨its',r',⟨o',n',e',_,_,d'⟩,_⟩:=I.list h';rw[e] at e';cases e';rw[d] at d';injection d' with d1 _;have:bJ=its':= ⇑(congrArg Array.toList d1);subst this;show r.inj r'
def Inv.xb {σ:St}(I:Inv X ah σ H s)(h:k7 X.K H a xs)(h':k7 X.K H a ys):xs=ys:=by let⟨bJ,r,⟨o,e,_,n,d⟩,_⟩:=I.tuple h;let⟨its',r',⟨o',e',_,n',d'⟩,_⟩:=I.tuple h';rw[e] at e';cases e';rw[d] at d';injection d' with d1 _;have:bJ=its':= ⇑(congrArg Array.toList d1);subst this;show r.inj r'
abbrev Cx.qk (X:Cx)(E:c7 ->dz ->Prop):Cx:= {X with xe:=E}
abbrev Cx.LL (X:Cx):Cx:=X.qk λ_ _=>False
theorem Cx.Ok.qk {X:Cx}(ok:X.Ok)(E:c7 ->dz ->Prop):(X.qk E).Ok:=#[ok.mod,ok.kind,ok.glob,ok.blt,ok.above,ok.inj,ok.has,ok.UD,ok.hd,ok.frames,ok.Rg,ok.exf,ok.bs,ok.K6,ok.Gs,ok.C8,ok.n9,ok.L3]
theorem Cx.Ok.iA {X:Cx}(ok:(X.qk E).Ok):X.Ok:=#[ok.mod,ok.kind,ok.glob,ok.blt,ok.above,ok.inj,ok.has,ok.UD,ok.hd,ok.frames,ok.Rg,ok.exf,ok.bs,ok.K6,ok.Gs,ok.C8,ok.n9,ok.L3]
theorem Inv.qk {σ:St}(I:Inv X ah σ H s)(E:c7 ->dz ->Prop):Inv (X.qk E) ah σ H s:=#[I.ok.qk E,I.os,I.bare,I.base,I.loc,I.cell,I.free,I.gK,I.pin,I.cN,I.len]
theorem Inv.iA {σ:St}(I:Inv (X.qk E) ah σ H s):Inv X ah σ H s:=#[I.ok.iA,I.os,I.bare,I.base,I.loc,I.cell,I.free,I.gK,I.pin,I.cN,I.len]
def SP.iA (h:SP (X.qk E) ah D f s'):SP X ah D f s':=by
 cases f with
 | next=>let⟨σ',H',I,q⟩:=h;show#[σ',H',I.iA,q]
 | brk=>let⟨σ',H',I,q⟩:=h;show#[σ',H',I.iA,q]
 | cont=>let⟨σ',H',I,q⟩:=h;show#[σ',H',I.iA,q]
 | ret u=>let⟨v,σ',H',I,r,q⟩:=h;show#[v,σ',H',I.iA,r,q]
theorem zS.LL {st:cA Stmt}(h:zS X.LL st t):zS X st t:=λah s σ H D I hw=>bE (h ah s σ H D (I.qk _) hw) (λ_ _ q=>q.iA) λ_ _ z=>False.elim z
section
variable {X:Cx}{st:Stmt}{cQ:cA Stmt}{t u:TS}{e:Expr}{te:TE}{pos:Pos}
def O8:TS:=λD σ H=>D.nx σ H
def Q_ (t u:TS):TS:=λD σ H=>t {D with nx:=u D} σ H
theorem aK:zS X [] O8:=λ_ _ σ H _ I h=>wpAny_execs_nil #[σ,H,I,h]
def ag (h1:PS X st t)(h2:zS X cQ u):zS X (st::cQ) (Q_ t u):=by
 intro ah s σ H D I h;exact wpAny_execs_cons (cV (h1 ah s σ H {D with nx:=u D} I h) λf s1 q=> ?_);cases f with
 | next=>let⟨σ',H',I',q⟩:=q;show h2 ah s1 σ' H' D I' q
 | ret v=>show q
 | brk=>show q
 | cont=>show q
def aj (h1:PS X st t):zS X [st] t:=by
 intro ah s σ H D I h;exact wpAny_execs_cons (cV (h1 ah s σ H D I h) λf s1 q=> ?_);cases f with
 | next=>show wpAny_execs_nil q
 | ret v=>show q
 | brk=>show q
 | cont=>show q
def Inv.quiet {σ:St}(I:Inv X ah σ H s):interactive X.env=false:=by simp[interactive,I.ok.kind]
def O9 (te:TE):TS:=λD σ H=>te σ H λ_ H1=>D.nx σ H1
def bF (he:PE X e te)(hs:swapsWith e none pos.line X.env=pure false:=by rfl):PS X (.Expr e pos) (O9 te):=by intro ah s σ H D I h;show wpAny_Expr_any (cV (he ah s σ H _ I h) λv s1 ⟨x,H1,I1,r1,q1⟩=>#[σ,H1,I1,q1]) I.quiet hs
def Vq (te:TE):TS:=λD σ H=>te σ H D.rt
def aE (he:PE X e te):PS X (.Return (some e) pos) (Vq te):=by intro ah s σ H D I h;show wpAny_Return_some (cV (he ah s σ H _ I h) λv s1 ⟨x,H1,I1,r1,q1⟩=>#[x,σ,H1,I1,r1,q1])
def Vv (c:TT)(t u:TS):TS:=λD σ H=>c σ H λb H1=>if b=true then t D σ H1 else u D σ H1
def bi (hc:PT X c tc)(ha:zS X a t)(hb:zS X b u):PS X (.If c a b pos) (Vv tc t u):=by
 intro ah s σ H D I h;exact wpAny_If (cV (hc ah s σ H _ I h) λd s1 ⟨H1,I1,q1⟩=> ?_);cases d with
 | true=>show ha ah s1 σ H1 D I1 q1
 | false=>show hb ah s1 σ H1 D I1 q1
def Ib:TS:=λ_ _ _=>False
theorem Jd:PS X st Ib:=λ_ _ _ _ _ _ h=>h.elim
end
abbrev TG:=V ->St ->Hp ->(St ->Hp ->Prop) ->Prop
abbrev Ma:=cA V ->St ->Hp ->(St ->Hp ->Prop) ->Prop
def PG (X:Cx)(qt:Expr)(t:TG):Prop:=∀ (ah:cA (fP×Obj)) (s:dz) (σ:St) (H:Hp) (v:V) (u:c7) (Q:St ->Hp ->Prop),Inv X ah σ H s ->RelV v u ->t v σ H Q ->wpAny (model X.prog X.w) X.A (assign qt X.env u) (λ_ s'=>cg λσ' H'=>Inv X ah σ' H' s' /\ Q σ' H') X.xe s
def ZP (X:Cx)(ts:cA Expr)(t:Ma):Prop:=∀ (ah:cA (fP×Obj)) (s:dz) (σ:St) (H:Hp) (vs:cA V) (us:cA c7) (Q:St ->Hp ->Prop),Inv X ah σ H s ->cb vs us ->t vs σ H Q ->wpAny (model X.prog X.w) X.A (assignInOrder ((assignEach ts X.env).map (·.2)) us) (λ_ s'=>cg λσ' H'=>Inv X ah σ' H' s' /\ Q σ' H') X.xe s
abbrev Lf:=V ->V ->V ->Hp ->(Hp ->Prop) ->Prop
def X7 (X:Cx)(t:Lf):Prop:=∀ (ah:cA (fP×Obj)) (s:dz) (σ:St) (H:Hp) (o i v:V) (ov iv u:c7) (Q:Hp ->Prop),Inv X ah σ H s ->RelV o ov ->RelV i iv ->RelV v u ->t o i v H Q ->wpAny (model X.prog X.w) X.A (setItem ov iv u) (λ_ s'=> ∃H',Inv X ah σ H' s' /\ Q H') X.xe s
abbrev UF:=V ->V ->Hp ->VK ->Prop
def PIp (X:Cx)(op:Operator)(t:UF):Prop:=∀ (ah:cA (fP×Obj)) (s:dz) (σ:St) (H:Hp) (x y:V) (v u:c7) (Q:VK),Inv X ah σ H s ->RelV x v ->RelV y u ->t x y H Q ->wpAny (model X.prog X.w) X.A (inplaceOp op v u) (EP X ah σ Q) X.xe s
def lW (i:Nat):TG:=λv σ H Q=>Q (σ.set i (some v)) H
def aX (hN:X.N.Nodup)(hi:X.N[i]? =some x)(hx:Loc X.env.scope x)(hf:X.fn x=true \/ X.env.scope.names.lookup x=some .local:=by first | show .inl rfl | show .inr rfl | assumption):PG X (.Name x pos) (lW i):=by intro ah s σ H v u Q I r h;show wpAny_assign_Name (oz I hN hi hx r (λs' I'=>#[_,H,I',h]) hf)
def N2:Ma:=λvs σ H Q=>vs= [] /\ Q σ H
def xH (t:TG)(u:Ma):Ma:=λvs σ H Q=>cg λv r=>vs=v::r /\ t v σ H λσ' H'=>u r σ' H' Q
def dj:ZP X [] N2:=by intro ah s σ H vs us Q I r h;let⟨e,h⟩:=h;subst e;cases r;show assignInOrder_nil #[σ,H,I,h]
def bp (h1:PG X e t)(h2:ZP X es u)(hs:(assignEach (e::es) X.env).map (·.2)=assign e X.env::(assignEach es X.env).map (·.2):=by rfl):ZP X (e::es) (xH t u):=by
 intro ah s σ H vs us Q I r h;let⟨v,vr,e1,h⟩:=h;subst e1;cases r with
 | cons r rr=>rw[hs];exact assignInOrder_cons (cV (h1 ah s σ H _ _ _ I r h) λ_ s1 ⟨σ1,H1,I1,q1⟩=> ?_);show h2 ah s1 σ1 H1 _ _ Q I1 rr q1
def N1 (K:WV)(n:Nat)(t:Ma):TG:=λv σ H Q=>cg λa xs=>fj (v= .ref a) (k7 K H a xs) (xs.length=n) (t xs σ H Q)
def d9 {pos:Pos}{k:Nat}(hc:X.calm=true)(h:ZP X es t)(hn:(assignEach es X.env).length=n:=by rfl)(uk:(assignEach es X.env).findIdx? (·.1)=none:=by rfl):PG X (.Tuple es k pos) (N1 X.K n t):=by intro ah s σ H v u Q I r hw;let⟨a,xs,e1,hq,hl,hw⟩:=hw;subst e1;cases r;let⟨bJ,rv,ht,hz⟩:=I.tuple hq;exact assign_Tuple_tuple (I.ok.hd hc) ht (by simp[hn, <- hl,rv.length]) uk λh' hx=> ?_;have I1:Inv X ah σ H {s with heap:=h'}:=I.kept (t':=s.toks) λb o e=>hx b o (bA (aR e)) e;show h ah _ σ H xs _ Q I1 ⇑rv hw
def Xy (to ti:TE)(t:Lf):TG:=λv σ H Q=>to σ H λo H1=>ti σ H1 λi H2=>t o i v H2 λH3=>Q σ H3
theorem qA (ho:PE X o to)(hi:PE X i ti)(hs:X7 X t)(ha: ∀v,assign (.Subscript o i pos) X.env v=(do
  let ov <- holding [v] (eval o X.env)
  let iv <- holding [v,ov] (eval i X.env)
  standAt pos
  holding [v,ov,iv] (setItem ov iv v)
  release [v,ov,iv] []):=by intro _;rfl):PG X (.Subscript o i pos) (Xy to ti t):=by
 intro ah s σ H v u Q I r h
 rw[ha]
 exact az (wpAny_holding (cV (ho ah s σ H _ I h) λov s1 ⟨x,H1,I1,r1,q1⟩=> ?_))
 exact az (wpAny_holding (cV (hi ah s1 σ H1 _ I1 q1) λiv s2 ⟨y,H2,I2,r2,q2⟩=> ?_))
 exact az (wpAny_standAt (az (wpAny_holding (cV (hs ah s2 σ H2 x y v ov iv u _ I2 r1 r2 r q2) λ_ s3 ⟨H3,I3,q3⟩=> ?_))))
 show wpAny_release #[σ,H3,I3,q3]
def Io (te:TE)(g:TG):TS:=λD σ H=>te σ H λx H1=>g x σ H1 D.nx
def f6 {pos:Pos}(he:PE X e te)(hg:PG X tg g)(hs:swapsWithSole [tg] e pos.line X.env=pure false:=by rfl)(hw:swappedStores [tg] e X.env=pure none:=by rfl)(h1:(assignEach [tg] X.env).map (·.2)= [assign tg X.env]:=by rfl):PS X (.Assign [tg] e pos) (Io te g):=by intro ah s σ H D I h;exact wpAny_Assign_stores (cV (he ah s σ H _ I h) λv s1 ⟨x,H1,I1,r1,q1⟩=> ?_) hs hw;rw[h1];show cV (hg ah s1 σ H1 x v _ I1 r1 q1) λ_ s2 q=>q
def RB {pos:Pos}(hN:X.N.Nodup)(hi:X.N[i]? =some x)(hx:Loc X.env.scope x)(he:PE X e te)(hs:swapsWith e (some (.Name x lJ)) pos.line X.env=pure false:=by rfl)(hf:X.fn x=true \/ X.env.scope.names.lookup x=some .local:=by first | show .inl rfl | show .inr rfl | assumption): PS X (.Assign [.Name x lJ] e pos) (Io te (lW i)):=by intro ah s σ H D I h;exact wpAny_Assign_Name (cV (he ah s σ H _ I h) λv s1 ⟨y,H1,I1,r1,q1⟩=> ?_) hs;show oz I1 hN hi hx r1 (λs2 I2=>#[_,H1,I2,q1]) hf
def VB (i:Nat)(te:TE)(ti:UF):TS:=λD σ H=> ∃x,σ[i]? =some (some x) /\ te σ H λy H1=>ti x y H1 λz H2=>D.nx (σ.set i (some z)) H2
def RC (hN:X.N.Nodup)(hi:X.N[i]? =some x)(hx:Loc X.env.scope x)(he:PE X e te)(ho:PIp X op ti)(hf:X.fn x=true \/ X.env.scope.names.lookup x=some .local:=by first | show .inl rfl | show .inr rfl | assumption): PS X (.AugAssign (.Name x lJ) op e pos) (VB i te ti):=by
 intro ah s σ H D I h;let⟨v,e1,h⟩:=h;let⟨m,hn,hl⟩:=I.loc;have _Q:X4 X.env.scope x:=by obtain k | k:=hx;show .inl k;show .inr (.inl k)
 let⟨u,r,l⟩:=hl i x v hi e1 _Q;exact wpAny_AugAssign_Name ?_;have go:wpAny (model X.prog X.w) X.A (eval e X.env) (λw s₂=>wpAny (model X.prog X.w) X.A (inplaceOp op u w) (λr s₃=>wpAny (model X.prog X.w) X.A (storeName X.env x r) (λ_=>SP X ah D .next) X.xe s₃) X.xe s₂) X.xe s:=by exact cV (he ah s σ H _ I h) λw s1 ⟨y,H1,I1,r1,q1⟩=> ?_;exact cV (ho ah s1 σ H1 v y u w _ I1 r r1 q1) λz s2 ⟨zv,H2,I2,r2,q2⟩=> ?_;show oz I2 hN hi hx r2 (λs3 I3=>#[_,H2,I3,q2]) hf
 rcases l with⟨hk,hm⟩ | ⟨hk,c,hc,E4⟩
 show wpAny_loadName_local I.ok.kind hk hn hm go;obtain hk | hk:=hk;show wpAny_loadName_cell I.ok.kind hk hc E4 go;obtain k | k:=hx;have:X.env.scope.names.lookup x=some .free:=hk;rw[k] at this;cases this;have:X.env.scope.names.lookup x=some .free:=hk;rw[k] at this;cases this
def ipI (f:Int ->Int ->Int):UF:=λx y H Q=>cg λi j=>cW (x= .int i) (y= .int j) (Q (.int (f i j)) H)
def SJ:PIp X .Add (ipI λi j=>i+j):=by intro ah s σ H x y v u Q I r1 r2 h;let⟨i,j,e1,e2,q⟩:=h;subst e1;subst e2;let⟨t,rfl⟩:=r1;let⟨t',rfl⟩:=r2;show iadd_int #[.int _,H,I.tok _,#[_,rfl],q]
structure It where
 go:Nat ->Hp ->Prop
 TW:Nat ->Hp ->V ->Hp ->Prop
 stop:Nat ->Hp ->Prop
def lf (X:Cx)(ah:cA (fP×Obj))(H:Hp)(b:fP):Prop:=H b=none /\ b≠X.env.locals /\ b∉X.fs /\ (b∈X.ex \/ X.s₀.heap.objs.size<=b) /\ (∀x c,X.env.cells.lookup x=some c ->c≠b) /\ ∀p∈X.pn++ah,p.1≠b
def Inv.C6 {σ:St}{b:fP}(I:Inv X ah σ H s)(hb:s.heap.objs.size<=b)(hn:H' b=none):lf X ah H' b:=by exact#[hn,Nat.ne_of_gt (bx I.lt hb),I.aau hb, .inr (ar I.sz hb),λx c e z=> ?_,λp hp z=> ?_];let⟨v,q⟩:=I.cell x c e;show absurd (bx q.lt (by rw[z];show hb)) (Nat.lt_irrefl _);show absurd (bx (aR (I.pin p hp).1) (by rw[z];show hb)) (Nat.lt_irrefl _)
structure zF (P:Program)(w:World)(K:PySem.W.Frag)(tg:Expr)(J:It)(fp:List Addr)(it:Addr)(tn:Nat ->Heap ->Prop):Prop where
 mem:it∈fp
 obj: ∀i h,tn i h -> ∀b∈fp, ∃o,h.get? b=some o /\ ∀v,o.data≠ .cell v
 keep: ∀i h h',tn i h ->(∀b∈fp, ∀o,h.get? b=some o ->h'.get? b=some o) ->tn i h'
 item: ∀ (X:Cx),X.prog=P ->X.w=w ->X.K=K ->X.calm=true -> ∀ (i:Nat) (ah:List (Addr×Obj)) (s:Shared) (σ:St) (H:Hp) (E:Value ->Shared ->Prop),Inv X ah σ H s ->(∀b∈fp,lf X ah H b) ->tn i s.heap ->J.go i H ->wpAny (model P w) X.A (pyNext (.ref it)) (λr s1=> ∃u,r=some u /\wpAny (model P w) X.A (letOwnedTupleGo tg (.ref it) u) (λ_ s2=>cg λx H'=>gm (Inv X ah σ H' s2) (RelV x u) (J.TW i H x H') (tn (i+1) s2.heap) (∀b∈fp,H' b=none)) E s1) E s
 done: ∀ (X:Cx),X.prog=P ->X.w=w ->X.K=K ->X.calm=true -> ∀ (i:Nat) (ah:List (Addr×Obj)) (s:Shared) (σ:St) (H:Hp) (E:Value ->Shared ->Prop),Inv X ah σ H s ->(∀b∈fp,lf X ah H b) ->tn i s.heap ->J.stop i H ->wpAny (model P w) X.A (pyNext (.ref it)) (λr s1=>r=none /\ Inv X ah σ H s1) E s
 self: ∀ (A:Around) (i:Nat) (s:Shared) (Q:Value ->Shared ->Prop) (E:Value ->Shared ->Prop),tn i s.heap ->Q (.ref it) s ->wpAny (model P w) A (pyIter (.ref it)) Q E s
abbrev TI:=St ->Hp ->(It ->Hp ->Prop) ->Prop
def PIE (X:Cx)(ah:cA (fP×Obj))(σ:St)(tg:Expr)(R:It ->Hp ->Prop)(WU:c7)(s2:dz):Prop:=sO λ(it:fP) (fp:cA fP) (tn:Nat ->Heap ->Prop) (J:It) (H':Hp)=>lm (WU= .ref it) (Inv X ah σ H' s2) (zF X.prog X.w X.K tg J fp it tn) (tn 0 s2.heap) (∀b∈fp,lf X ah H' b) (R J H')
def PI (X:Cx)(tg iter:Expr)(wi:TI):Prop:=∀ (ah:cA (fP×Obj)) (s:dz) (σ:St) (H:Hp) (R:It ->Hp ->Prop),Inv X ah σ H s ->wi σ H R ->wpAny (model X.prog X.w) X.A (eval iter X.env) (λv s1=>wpAny (model X.prog X.w) X.A (pyIter v) (PIE X ah σ tg R) X.xe s1) X.xe s
def xF (ho:s.heap.get? it=some o)(hc:o.cls= .type n)(hd:o.data= .fields vs)(hn: ["enumerate","zip","dict_itemiterator","dict_reverseitemiterator","odict_iterator","itertools.zip_longest","itertools.pairwise"].contains n=false)(hQ:Q () s):wpAny M A (letOwnedTupleGo tg (.ref it) u) Q E s:=by
 unfold letOwnedTupleGo;cases tg <;>first
 | show a_ hQ
 | (cases u<;>first
  | show a_ hQ
  | (exact az (wpAny_load ho ?_)
     rw[hc,hd]
     change wpAny M A (if(["enumerate","zip","dict_itemiterator","dict_reverseitemiterator","odict_iterator","itertools.zip_longest","itertools.pairwise"].contains n && vs[0]? ==some (rawInt _))=true then _ else _) Q E s
     rw[ak (by intro h;rw[hn,Bool.false_and] at h;cases h)]
     show a_ hQ))
def ZS (K:WV)(a:fP):It:=#[λi H=>cg λxs x=>g0 K H a xs /\ xs[i]? =some x,λi H x H'=>H'=H /\ ∀xs,g0 K H a xs ->xs[i]? =some x,λi H=> ∃xs,g0 K H a xs /\ xs.length<=i]
def ZQ (K:WV)(a:fP):It:=#[λi H=>cg λxs x=>k7 K H a xs /\ xs[i]? =some x,λi H x H'=>H'=H /\ ∀xs,k7 K H a xs ->xs[i]? =some x,λi H=> ∃xs,k7 K H a xs /\ xs.length<=i]
def ZR (lo:Int)(n:Nat):It:=#[λi _=>i<n,λi H x H'=>H'=H /\ x= .int (lo+i),λi _=>n<=i]
def xa {P:Program}{w:World}{K:WV}{tg:Expr}(a it:fP):zF P w K tg (ZS K a) [it] it (λi h=>h.IsListIter it a i) where
 mem:=by simp
 obj:=λi h st b hb=>by have e:b=it:= ⇑hb;subst e;let⟨o,e,c,d⟩:=st;show#[o,e,λv z=>by rw[d] at z;cases z]
 keep:=λi h h' st k=>st.at λo e=>k it (by simp) o e
 item:=by intro X hP hw hK hc i ah s σ H E I hf st hg;subst hP hw hK;let⟨xs,x,hq,hx⟩:=hg;let⟨bJ,rv,p,hz⟩:=I.list hq;let⟨u,hu,ru⟩:=rv.get hx;let⟨f0,f1,f2,f3,f4,f5⟩:=hf it (by simp);exact wpAny_pyNext_list_item st p.isList (x:=u) ⇑hu λh' bH sb=> ?_;have I1:Inv X ah σ H {s with heap:=h'}:=I.turned (t':=s.toks) (λb o hb e=>(sb.2 b hb).trans e) f0 f1 f3 f4 f5;let⟨o,e,c,d⟩:=id bH;show#[u,rfl,xF (s:= {s with heap:=h'}) e c d ⋯ #[x,H,I1,ru,#[rfl,λys hy=>by rw[I.list_inj hy hq];show hx],bH,λb hb=>(hf b hb).1]]
 done:=by intro X hP hw hK hc i ah s σ H E I hf st hg;subst hP hw hK;let⟨xs,hq,hx⟩:=hg;let⟨bJ,rv,p,hz⟩:=I.list hq;let⟨f0,f1,f2,f3,f4,f5⟩:=hf it (by simp);have hl:=rv.length;show wpAny_pyNext_list_end (I.ok.hd hc) st p.isList (by simp;lia) λh' eb=>#[rfl,I.turned (t':=s.toks) (λb o hb e=>eb b o hb e) f0 f1 f3 f4 f5]
 self:=λ_ _ _ _ _ st h=>wpAny_pyIter_listiter st h
def uC {P:Program}{w:World}{K:WV}{tg:Expr}(a it:fP):zF P w K tg (ZQ K a) [it] it (λi h=>h.IsTupleIter it a i) where
 mem:=by simp
 obj:=λi h st b hb=>by have e:b=it:= ⇑hb;subst e;let⟨o,e,c,d⟩:=st;show#[o,e,λv z=>by rw[d] at z;cases z]
 keep:=λi h h' st k=>st.at λo e=>k it (by simp) o e
 item:=by intro X hP hw hK hc i ah s σ H E I hf st hg;subst hP hw hK;let⟨xs,x,hq,hx⟩:=hg;let⟨bJ,rv,p,hz⟩:=I.tuple hq;let⟨u,hu,ru⟩:=rv.get hx;let⟨f0,f1,f2,f3,f4,f5⟩:=hf it (by simp);exact wpAny_pyNext_tuple_item st (show s.heap.IsTuple a bJ.toArray from p) (x:=u) ⇑hu λh' bH sb=> ?_;have I1:Inv X ah σ H {s with heap:=h'}:=I.turned (t':=s.toks) (λb o hb e=>(sb.2 b hb).trans e) f0 f1 f3 f4 f5;let⟨o,e,c,d⟩:=id bH;show#[u,rfl,xF (s:= {s with heap:=h'}) e c d ⋯ #[x,H,I1,ru,#[rfl,λys hy=>by rw[I.xb hy hq];show hx],bH,λb hb=>(hf b hb).1]]
 done:=by intro X hP hw hK hc i ah s σ H E I hf st hg;subst hP hw hK;let⟨xs,hq,hx⟩:=hg;let⟨bJ,rv,p,hz⟩:=I.tuple hq;let⟨f0,f1,f2,f3,f4,f5⟩:=hf it (by simp);have hl:=rv.length;show wpAny_pyNext_tuple_end (I.ok.hd hc) st (show s.heap.IsTuple a bJ.toArray from p) (by simp;lia) λh' eb=>#[rfl,I.turned (t':=s.toks) (λb o hb e=>eb b o hb e) f0 f1 f3 f4 f5]
 self:=λ_ _ _ _ _ st h=>wpAny_pyIter_tupleiter st h
def Ci {P:Program}{w:World}{K:WV}{tg:Expr}(it:fP)(lo:Int)(n:Nat):zF P w K tg (ZR lo n) [it] it (λi h=>IsRangeIter h it (lo+(i:Nat)*1) ((n:Int) - (i:Nat)) 1) where
 mem:=by simp
 obj :=λi h st b hb=>by have e:b=it:= ⇑hb;subst e;show#[_,st,λv z=>by have z':Data.fields _=Data.cell v:=z;cases z']
 keep:=λi h h' st k=>k it (by simp) _ st
 item:=by intro X hP hw hK hc i ah s σ H E I hf st hg;subst hP hw hK;let⟨f0,f1,f2,f3,f4,f5⟩:=hf it (by simp);have W:=Walks.range (prog:=X.prog) (w:=X.w) (I.ok.hd hc) it lo 1 n;exact W.item i s _ _ hg st λv h' tk hv bH kk=> ?_;let⟨t,rfl⟩:=hv;have I1:Inv X ah σ H {s with heap:=h',toks:=tk}:=I.turned (λb o hb e=>kk b o ⇑hb e) f0 f1 f3 f4 f5;exact#[_,rfl,xF (s:= {s with heap:=h',toks:=tk}) (n:= "range_iterator") bH rfl rfl ⋯ #[.int (lo+i),H,I1,#[t,?_],#[rfl,rfl],bH,λb hb=>(hf b hb).1]];rw[Int.mul_one]
 done:=by intro X hP hw hK hc i ah s σ H E I hf st hg;subst hP hw hK;let⟨f0,f1,f2,f3,f4,f5⟩:=hf it (by simp);show wpAny_pyNext_range_end (I.ok.hd hc) st (by have:n<=i:=hg;lia) λh' eb=>#[rfl,I.turned (t':=s.toks) (λb o hb e=>eb b o hb e) f0 f1 f3 f4 f5]
 self:=λ_ _ _ _ _ st h=>wpAny_pyIter_rangeiter st h
def J_ (K:WV)(tl:TE):TI:=λσ H R=>tl σ H λx H1=> ∃a,cW (x= .ref a) (∃xs,g0 K H1 a xs) (R (ZS K a) H1)
def SK (K:WV)(tl:TE):TI:=λσ H R=>tl σ H λx H1=> ∃a,cW (x= .ref a) (∃xs,k7 K H1 a xs) (R (ZQ K a) H1)
def ue (hl:PE X l tl):PI X tg l (J_ X.K tl):=by intro ah s σ H R I h;exact cV (hl ah s σ H _ I h) λv s1 ⟨x,H1,I1,r1,q1⟩=> ?_;let⟨a,e,⟨xs,hq⟩,q⟩:=q1;subst e;cases r1;let⟨bJ,rv,p,hz⟩:=I1.list hq;exact wpAny_pyIter_list p.isList ?_;exact#[s1.heap.objs.size,[s1.heap.objs.size],_,_,H1,rfl,I1.kept (t':=s1.toks) λb o e=>av _ e,xa a _,#[_,a4 _ rfl,rfl,rfl],λb hb=> ?_,q];have e:b=s1.heap.objs.size:= ⇑hb;subst e;show I1.C6 (aq _) (I1.cN.fresh (aq _))
def qz (hl:PE X l tl):PI X tg l (SK X.K tl):=by intro ah s σ H R I h;exact cV (hl ah s σ H _ I h) λv s1 ⟨x,H1,I1,r1,q1⟩=> ?_;let⟨a,e,⟨xs,hq⟩,q⟩:=q1;subst e;cases r1;let⟨bJ,rv,p,hz⟩:=I1.tuple hq;exact wpAny_pyIter_tuple (show s1.heap.IsTuple a bJ.toArray from p) ?_;exact#[s1.heap.objs.size,[s1.heap.objs.size],_,_,H1,rfl,I1.kept (t':=s1.toks) λb o e=>av _ e,uC a _,#[_,a4 _ rfl,rfl,rfl],λb hb=> ?_,q];have e:b=s1.heap.objs.size:= ⇑hb;subst e;show I1.C6 (aq _) (I1.cN.fresh (aq _))
def IW {σ:St}{lo hi:Int}(I:Inv X ah σ H s)(h1: -(2 ^ 62) <=lo)(h2:lo<2 ^ 62)(h3: -(2 ^ 62) <=hi)(h4:hi<2 ^ 62)(q:R (ZR lo (hi - lo).toNat) H):wpAny (model X.prog X.w) X.A (pyIter (.ref s.heap.objs.size)) (PIE X ah σ tg R) E {s with heap:=s.heap.push {cls:= .type "range",data:= .fields (List.toArray [.int lo t, .int hi u, .int 1 v])},toks:=tk}:=by
 exact wpAny_pyIter_range (IsRange.new ..) (small_one h1 h2 h3 h4) ?_;have I1:Inv X ah σ H {s with heap:=s.heap.push {cls:= .type "range",data:= .fields (List.toArray [.int lo t, .int hi u, .int 1 v])},toks:=tk}:=I.kept λb o e=>av _ e;exact#[(s.heap.push {cls:= .type "range",data:= .fields (List.toArray [.int lo t, .int hi u, .int 1 v])}).objs.size,[(s.heap.push {cls:= .type "range",data:= .fields (List.toArray [.int lo t, .int hi u, .int 1 v])}).objs.size],_,_,H,rfl,I1.kept (t':=tk) λb o e=>av _ e,Ci _ lo (hi - lo).toNat,?_,λb hb=> ?_,q];have e1:lo+((0:Nat):Int)*1=lo:=by simp
 have e2:(((hi - lo).toNat:Nat):Int) - ((0:Nat):Int)=Builtin.Range.rangeSize lo hi 1:=by rw[rangeSize_one];split<;>lia
 change IsRangeIter _ _ (lo+((0:Nat):Int)*1) ((((hi - lo).toNat:Nat):Int) - ((0:Nat):Int)) 1;rw[e1,e2];show a4 _ rfl;have e:b=(s.heap.push {cls:= .type "range",data:= .fields (List.toArray [.int lo t, .int hi u, .int 1 v])}).objs.size:=by simpa using hb
 subst e;show I1.C6 (aq _) (I1.cN.fresh (aq _))
def Qc (ta:TA):TI:=λσ H R=>ta σ H λvs H1=> ∃j:Int,fj (vs= [.int j]) (-(2 ^ 62) <=j) (j<2 ^ 62) (R (ZR 0 j.toNat) H1)
def fO (hg:Gl X "range")(hm:X.mg "range" =none)(ha:PA X [a] ta)(hs:starEach [a] X.env= [(false,eval a X.env)]:=by rfl):PI X tg (.Call (.Name "range" p) [a] [] pos) (Qc ta):=by
 intro ah s σ H R I h;exact Call_ (zc I hg hm boot_range (PyProof.Rows.callWith_type1 (cV (ha pos ah s σ H _ I h) λus s1 ⟨vs,H1,I1,r1,q1⟩=> ?_) hs rfl));let⟨j,e,q1,q2,q⟩:=q1;subst e;cases r1 with
 | cons r rr=>cases rr;let⟨t,rfl⟩:=r;show call_range_1 (IW I1 ∅ ∅ q1 q2 ⇑q)
def Vy (wi:TI)(g:TG)(tb:TS):TS:=λD σ H=>wi σ H λJ H1=> ∃W:Nat ->Nat ->St ->Hp ->Prop,(∃m,W 0 m σ H1) /\ ∀i m σ H,W i m σ H ->(J.stop i H /\ D.nx σ H) \/ (J.go i H /\ ∃N:St ->Hp ->Prop,(∀σ' H',N σ' H' -> ∃m',m'<m /\ W (i+1) m' σ' H') /\ ∀x H',J.TW i H x H' ->g x σ H' λσ2 H2=>tb {D with nx:=N,ct:=N,bk:=D.nx} σ2 H2)
def iM (fp:cA fP)(h:Heap):cA (fP×Obj):=fp.filterMap λb=>(h.get? b).map λo=>(b,o)
theorem fo (hb:b∈fp)(e:h.get? b=some o):(b,o)∈iM fp h:=List.mem_filterMap.mpr #[b,hb,by rw[e];rfl]
def Gp (hp:p∈iM fp h):p.1∈fp /\ h.get? p.1=some p.2:=by
 let⟨b,hb,e⟩:=List.mem_filterMap.mp hp;cases q:h.get? b with
 | none=>rw[q] at e;cases e
 | some o=>rw[q] at e;have e':(b,o)=p:=bu e;subst e';show#[hb,q]
theorem Inv.pinned {σ:St}(I:Inv X ah σ H s)(hf: ∀b∈fp,lf X ah H b)(ho: ∀b∈fp, ∃o,s.heap.get? b=some o /\ ∀v,o.data≠ .cell v):Inv X (ah++iM fp s.heap) σ H s:=I.Ep λp hp=>(a9.mp hp).elim (λz=>I.pin p (aY _ z)) λz=>by let⟨hb,e⟩:=Gp z;let⟨f0,f1,f2,_⟩:=hf p.1 hb;let⟨o,e',d⟩:=ho p.1 hb;rw[e] at e';cases e';show#[e,f0,f1,f2,d]
theorem Inv.jw {σ:St}(I:Inv X (ah++pl) σ H s):Inv X ah σ H s:=I.Ep λp hp=>I.pin p (aY _ (List.mem_append_left _ hp))
def gw (hp:PassesOwn (model X.prog X.w) X.A X.env X.xe)(hc:X.calm=true)(hi:PI X tg iter wi)(hg:PG X tg g)(hb:zS X body tb)(hs: ∀x,foldedSetIterable iter X.env x=pure x:=by intro _;rfl):PS X (.For tg iter body [] pos) (Vy wi g tb):=by
 intro ah s σ H D I h;exact wpAny_For (cV (hi ah s σ H _ I h) λv s1 h1=>cV h1 λWU s2 h2=> ?_) hs;let⟨it,fp,tn,J,H2,e,I2,T,oB,f2,W,⟨m0,w0⟩,turn⟩:=h2;subst e;have uH: ∀ {H':Hp},(∀b∈fp,H' b=none) -> ∀b∈fp,lf X ah H' b:=λhn b hb=>#[hn b hb,(f2 b hb).2]
 exact codeAny_forLoop_any (λn s'=>eQ λi σ' H'=>fj (Inv X ah σ' H' s') (tn i s'.heap) (∀b∈fp,H' b=none) (W i n σ' H')) ?_ m0 #[0,σ,H2,I2,oB,λb hb=>(f2 b hb).1,w0];rintro n s3 ⟨i,σ3,H3,I3,wj,fr3,w3⟩;rcases turn i n σ3 H3 w3 with⟨stop,qn⟩ | ⟨go,N,hN,step⟩
 .exact wpAny_passesOwn hp (cV (T.done X rfl rfl rfl hc i ah s3 σ3 H3 X.xe I3 (uH fr3) wj stop) λr s4 ⟨hr,I4⟩=> ?_);subst hr;show wpAny_execs_nil #[σ3,H3,I4,qn]
 .exact wpAny_passesOwn hp (cV (T.item X rfl rfl rfl hc i ah s3 σ3 H3 X.xe I3 (uH fr3) wj go) λr s4 ⟨u,hr,h4⟩=> ?_);subst hr;exact wpAny_passesOwn hp (cV h4 λ_ s5 ⟨x,H5,I5,r5,y5,Uc,fr5⟩=> ?_);have I5':=I5.pinned (uH fr5) (T.obj _ _ Uc);exact wpAny_passesOwn hp (cV (hg _ s5 σ3 H5 x u _ I5' r5 (step x H5 y5)) λ_ s6 ⟨σ6,H6,I6,q6⟩=> ?_);exact wpAny_passesOwn hp (cV (hb _ s6 σ6 H6 _ I6 q6) λf s7 q7=> ?_);have again: ∀ {σ7:St} {H7:Hp},Inv X (ah++iM fp s5.heap) σ7 H7 s7 ->N σ7 H7 -> ∃m,m<n /\ eQ λi σ' H'=>fj (Inv X ah σ' H' s7) (tn i s7.heap) (∀b∈fp,H' b=none) (W i m σ' H'):=λ{σ7 H7} I7 n7=>by let⟨m',hm,w7⟩:=hN σ7 H7 n7;exact#[m',hm,i+1,σ7,H7,I7.jw,T.keep _ _ _ Uc λb hb o e=>(I7.pin (b,o) (aY _ (aY _ (fo hb e)))).1,λb hb=> ?_,w7];let⟨o,e,d⟩:=T.obj _ _ Uc b hb;show(I7.pin (b,o) (aY _ (aY _ (fo hb e)))).2.1
  cases f with
  | next=>let⟨σ7,H7,I7,n7⟩:=q7;show again I7 n7
  | cont=>let⟨σ7,H7,I7,n7⟩:=q7;show again I7 n7
  | brk=>let⟨σ7,H7,I7,q7⟩:=q7;show#[σ7,H7,I7.jw,q7]
  | ret v=>let⟨x7,σ7,H7,I7,r7,q7⟩:=q7;show#[x7,σ7,H7,I7.jw,r7,q7]
abbrev R2:=V ->V ->Hp ->VK ->Prop
def i6 (X:Cx)(f:c7 ->c7 ->Sem c7)(r:R2):Prop:=∀ (ah:cA (fP×Obj)) (s:dz) (σ:St) (H:Hp) (x y:V) (v u:c7) (Q:VK),Inv X ah σ H s ->RelV x v ->RelV y u ->r x y H Q ->wpAny (model X.prog X.w) X.A (f v u) (EP X ah σ Q) X.xe s
def UnR (X:Cx)(f:c7 ->Sem c7)(r:V ->Hp ->VK ->Prop):Prop:=∀ (ah:cA (fP×Obj)) (s:dz) (σ:St) (H:Hp) (x:V) (v:c7) (Q:VK),Inv X ah σ H s ->RelV x v ->r x H Q ->wpAny (model X.prog X.w) X.A (f v) (EP X ah σ Q) X.xe s
def fB (X:Cx)(f:c7)(r:cA V ->Hp ->VK ->Prop):Prop:=∀ (ah:cA (fP×Obj)) (s:dz) (σ:St) (H:Hp) (xs:cA V) (us:cA c7) (Q:VK),Inv X ah σ H s ->cb xs us ->r xs H Q ->wpAny (model X.prog X.w) X.A (call f us) (EP X ah σ Q) X.xe s
def ahJ (X:Cx)(r:V ->Hp ->(Bool ->Hp ->Prop) ->Prop):Prop:=∀ (ah:cA (fP×Obj)) (s:dz) (σ:St) (H:Hp) (x:V) (v:c7) (Q:Bool ->Hp ->Prop),Inv X ah σ H s ->RelV x v ->r x H Q ->wpAny (model X.prog X.w) X.A (truthy v) (TP X ah σ Q) X.xe s
def Vs (r:R2)(ta tb:TE):TE:=λσ H Q=>ta σ H λx H1=>tb σ H1 λy H2=>r x y H2 Q
def tUn (r:V ->Hp ->VK ->Prop)(ta:TE):TE:=λσ H Q=>ta σ H λx H1=>r x H1 Q
def rI (C:Int ->Int ->Prop)(g:Int ->Int ->V):R2:=λx y H Q=>cg λi j=>fj (x= .int i) (y= .int j) (C i j) (Q (g i j) H)
def MF (g:Int ->Int ->V):R2:=λx y H Q=>cg λi j=>cW (x= .int i) (y= .int j) (Q (g i j) H)
def rU (g:Int ->V):V ->Hp ->VK ->Prop:=λx H Q=> ∃i,x= .int i /\ Q (g i) H
def Tw (ha:PE X a ta)(hb:PE X b tb){σ:St}{R:V ->V ->Hp ->Prop}(I:Inv X ah σ H s)(h:ta σ H λx H1=>tb σ H1 λy H2=>R x y H2){f:c7 ->c7 ->Sem c7}(hf: ∀v u s2 x y H2,Inv X ah σ H2 s2 ->RelV x v ->RelV y u ->R x y H2 ->wpAny (model X.prog X.w) X.A (f v u) Q X.xe s2): wpAny (model X.prog X.w) X.A (eval a X.env) (λv s₁=>wpAny (model X.prog X.w) X.A (eval b X.env) (λu s₂=>wpAny (model X.prog X.w) X.A (f v u) Q X.xe s₂) X.xe s₁) X.xe s:=by exact cV (ha ah s σ H _ I h) λv s1 ⟨x,H1,I1,r1,q1⟩=> ?_;exact cV (hb ah s1 σ H1 _ I1 q1) λu s2 ⟨y,H2,I2,r2,q2⟩=> ?_;show hf v u s2 x y H2 I2 r1 r2 q2
def bL (ho:i6 X (binaryOp op) r)(ha:PE X a ta)(hb:PE X b tb):PE X (.BinOp a op b pos) (Vs r ta tb):=by intro ah s σ H Q I h;show wpAny_BinOp (Tw ha hb I h λv u s2 x y H2 I2 rx ry q=>ho ah s2 σ H2 x y v u Q I2 rx ry q)
def fF (ho:UnR X (unaryOp op) r)(ha:PE X a ta):PE X (.UnaryOp op a pos) (tUn r ta):=by intro ah s σ H Q I h;show UnaryOp_ (cV (ha ah s σ H _ I h) λv s1 ⟨x,H1,I1,r1,q1⟩=>ho ah s1 σ H1 x v Q I1 r1 q1)
def Zb {g:Int ->Int ->Int}(rule: ∀ (i j:Int) (t u:Tok) (s:dz) (Q:c7 ->dz ->Prop) (E:c7 ->dz ->Prop),C i j ->Q (.int (g i j) s.toks) {s with toks:=s.toks+1} ->wpAny (model X.prog X.w) X.A (f (.int i t) (.int j u)) Q E s): i6 X f (rI C λi j=> .int (g i j)):=by intro ah s σ H x y v u Q I rx ry h;let⟨i,j,rfl,rfl,hc,q⟩:=h;let⟨t,rfl⟩:=rx;let⟨t',rfl⟩:=ry;show rule i j t t' s _ _ hc #[.int (g i j),H,I.tok _,#[_,rfl],q]
def Wg {g:Int ->Int ->Int}(rule: ∀ (i j:Int) (t u:Tok) (s:dz) (Q:c7 ->dz ->Prop) (E:c7 ->dz ->Prop),Q (.int (g i j) s.toks) {s with toks:=s.toks+1} ->wpAny (model X.prog X.w) X.A (f (.int i t) (.int j u)) Q E s): i6 X f (MF λi j=> .int (g i j)):=by intro ah s σ H x y v u Q I rx ry h;let⟨i,j,rfl,rfl,q⟩:=h;let⟨t,rfl⟩:=rx;let⟨t',rfl⟩:=ry;show rule i j t t' s _ _ #[.int (g i j),H,I.tok _,#[_,rfl],q]
def Nb {g:Int ->Int ->Bool}(rule: ∀ (i j:Int) (t u:Tok) (s:dz) (Q:c7 ->dz ->Prop) (E:c7 ->dz ->Prop),Q (.bool (g i j)) s ->wpAny (model X.prog X.w) X.A (f (.int i t) (.int j u)) Q E s): i6 X f (MF λi j=> .bl (g i j)):=by intro ah s σ H x y v u Q I rx ry h;let⟨i,j,rfl,rfl,q⟩:=h;let⟨t,rfl⟩:=rx;let⟨t',rfl⟩:=ry;show rule i j t t' s _ _ #[.bl (g i j),H,I,rfl,q]
def LF (i j:Int):Prop:=0<j /\ j<1073741824
def TV (i j:Int):Prop:=0<=j /\ j<=1000000 /\ i.natAbs<2 ^ 64
def nh (i j:Int):Prop:=(-(2 ^ 64) <i /\ i<2 ^ 64) \/ (-(2 ^ 64) <j /\ j<2 ^ 64)
def nh.ok (h:nh i j):IntMulOk i j:=by
 rcases h with⟨h1,h2⟩ | ⟨h1,h2⟩
 show .of_left (intBits_le_64 h1 h2);show .of_right (intBits_le_64 h1 h2)
theorem fb:i6 X (binaryOp .Add) (MF λi j=> .int (i+j)):=Wg λ_ _ _ _ _ _ _ q=>add_int q
theorem qC:i6 X (binaryOp .Sub) (MF λi j=> .int (i - j)):=Wg λ_ _ _ _ _ _ _ q=>sub_int q
theorem gY:i6 X (binaryOp .Mult) (rI nh λi j=> .int (i*j)):=Zb λ_ _ _ _ _ _ _ hc q=>mul_int q hc.ok
theorem EA:i6 X (binaryOp .FloorDiv) (rI LF λi j=> .int (i / j)):=Zb λi j _ _ _ _ _ hc q=>by have h1:(0:Int) <j:=hc.1;have h2:j<1073741824:=hc.2;show floordiv_int ∅ (by rw[Int.fdiv_eq_ediv_of_nonneg i ∅];show q) (.inl (PyProof.noPylong_small ∅))
theorem lN:i6 X (binaryOp .Mod) (rI (λ_ j=>0<j) λi j=> .int (i % j)):=Zb λi j _ _ _ _ _ hc q=>by have h1:(0:Int) <j:=hc;show mod_int' ∅ (by rw[Int.fmod_eq_emod_of_nonneg i ∅];show q)
theorem RX:i6 X (binaryOp .Pow) (rI TV λi j=> .int (i ^ j.toNat)):=Zb λ_ _ _ _ _ _ _ hc q=>pow_int_small hc.1 hc.2.1 hc.2.2 q
def unI {g:Int ->Int}(rule: ∀ (i:Int) (t:Tok) (s:dz) (Q:c7 ->dz ->Prop) (E:c7 ->dz ->Prop),Q (.int (g i) s.toks) {s with toks:=s.toks+1} ->wpAny (model X.prog X.w) X.A (f (.int i t)) Q E s): UnR X f (rU λi=> .int (g i)):=by intro ah s σ H x v Q I rx h;let⟨i,rfl,q⟩:=h;let⟨t,rfl⟩:=rx;show rule i t s _ _ #[.int (g i),H,I.tok _,#[_,rfl],q]
theorem eD:UnR X (unaryOp .USub) (rU λi=> .int (-i)):=unI λ_ _ _ _ _ q=>neg_int q
def My:V ->V ->Bool
 | .d3, .d3=>true | .d3, .int _=>true | .int _, .d3=>true | .d3, .bl _=>true | .bl _, .d3=>true | .d3, .str _=>true | .str _, .d3=>true
 | .int _, .int _=>true | .bl _, .bl _=>true | .str _, .str _=>true | .Dg _, .Dg _=>true
 | .int _, .str _=>true | .str _, .int _=>true | .bl _, .str _=>true | .str _, .bl _=>true
 | _,_=>false
def rEq:R2:=λx y H Q=>My x y=true /\ Q (.bl (decide (x=y))) H
def rNe:R2:=λx y H Q=>My x y=true /\ Q (.bl (!decide (x=y))) H
def Fl:decide (V.int i=V.int j)=(i==j):=by rw[Bool.eq_iff_iff];simp
def KJ:decide (V.bl i=V.bl j)=(i==j):=by rw[Bool.eq_iff_iff];simp
def Fk:decide (V.str i=V.str j)=(i==j):=by rw[Bool.eq_iff_iff];simp
def Fm:decide (V.Dg i=V.Dg j)=(i.toList==j.toList):=by rw[Bool.eq_iff_iff];cases i;cases j;simp
section
variable {X:Cx}{a b c:Expr}{ta tb tc:TE}{pos:Pos}
def cO {σ:St}(I:Inv X ah σ H s)(q:Q (.bl k) H)(e:k=k'):EP X ah σ Q (.bool k') s:=by subst e;show#[.bl k,H,I,rfl,q]
def cX:i6 X (compareOp .Eq) rEq:=by
 intro ah s σ H x y v u Q I rx ry h;let⟨hs,q⟩:=h;cases x with
 | d3=>
  cases rx;cases y with
  | d3=>cases ry;show PySem.EqNone.eq_none_none (cO I q (by simp))
  | bl j=>cases ry;show PySem.EqNone.eq_none_bool (cO I q (by simp))
  | int j=>let⟨t',rfl⟩:=ry;show PySem.EqNone.eq_none_int (cO I q (by simp))
  | str j=>let⟨t',rfl⟩:=ry;show PySem.EqNone.eq_none_str (cO I q (by simp))
  | _=>show absurd (show false=true from hs) bj
 | bl i=>
  cases rx;cases y with
  | d3=>cases ry;show PySem.EqNone.eq_bool_none (cO I q (by simp))
  | bl j=>cases ry;show eq_bool (cO I q KJ)
  | str j=>let⟨t',rfl⟩:=ry;show PySem.EqMixed.eq_bool_str (cO I q (by simp))
  | _=>show absurd (show false=true from hs) bj
 | int i=>
  let⟨t,rfl⟩:=rx;cases y with
  | d3=>cases ry;show PySem.EqNone.eq_int_none (cO I q (by simp))
  | int j=>let⟨t',rfl⟩:=ry;show eq_int (cO I q Fl)
  | str j=>let⟨t',rfl⟩:=ry;show PySem.EqMixed.eq_int_str (cO I q (by simp))
  | _=>show absurd (show false=true from hs) bj
 | str i=>
  let⟨t,rfl⟩:=rx;cases y with
  | d3=>cases ry;show PySem.EqNone.eq_str_none (cO I q (by simp))
  | bl j=>cases ry;show PySem.EqMixed.eq_str_bool (cO I q (by simp))
  | int j=>let⟨t',rfl⟩:=ry;show PySem.EqMixed.eq_str_int (cO I q (by simp))
  | str j=>let⟨t',rfl⟩:=ry;show eq_str (cO I q Fk)
  | _=>show absurd (show false=true from hs) bj
 | Dg i=>
  let⟨t,rfl⟩:=rx;cases y with
  | Dg j=>let⟨t',rfl⟩:=ry;show W.eq_bytes (cO I q Fm)
  | _=>show absurd (show false=true from hs) bj
 | _=>cases y<;>show absurd (show false=true from hs) bj
def oZ:i6 X (compareOp .NotEq) rNe:=by
 intro ah s σ H x y v u Q I rx ry h;let⟨hs,q⟩:=h;cases x with
 | d3=>
  cases rx;cases y with
  | d3=>cases ry;show PySem.EqNone.ne_none_none (cO I q (by simp))
  | bl j=>cases ry;show PySem.EqNone.ne_none_bool (cO I q (by simp))
  | int j=>let⟨t',rfl⟩:=ry;show PySem.EqNone.ne_none_int (cO I q (by simp))
  | str j=>let⟨t',rfl⟩:=ry;show PySem.EqNone.ne_none_str (cO I q (by simp))
  | _=>show absurd (show false=true from hs) bj
 | bl i=>
  cases rx;cases y with
  | d3=>cases ry;show PySem.EqNone.ne_bool_none (cO I q (by simp))
  | bl j=>cases ry;show ne_bool (cO I q (congrArg not KJ))
  | str j=>let⟨t',rfl⟩:=ry;show PySem.EqMixed.ne_bool_str (cO I q (by simp))
  | _=>show absurd (show false=true from hs) bj
 | int i=>
  let⟨t,rfl⟩:=rx;cases y with
  | d3=>cases ry;show PySem.EqNone.ne_int_none (cO I q (by simp))
  | int j=>let⟨t',rfl⟩:=ry;show ne_int (cO I q (congrArg not Fl))
  | str j=>let⟨t',rfl⟩:=ry;show PySem.EqMixed.ne_int_str (cO I q (by simp))
  | _=>show absurd (show false=true from hs) bj
 | str i=>
  let⟨t,rfl⟩:=rx;cases y with
  | d3=>cases ry;show PySem.EqNone.ne_str_none (cO I q (by simp))
  | bl j=>cases ry;show PySem.EqMixed.ne_str_bool (cO I q (by simp))
  | int j=>let⟨t',rfl⟩:=ry;show PySem.EqMixed.ne_str_int (cO I q (by simp))
  | str j=>let⟨t',rfl⟩:=ry;show ne_str (cO I q (congrArg not Fk))
  | _=>show absurd (show false=true from hs) bj
 | Dg i=>
  let⟨t,rfl⟩:=rx;cases y with
  | Dg j=>let⟨t',rfl⟩:=ry;show W.ne_bytes (cO I q (congrArg not Fm))
  | _=>show absurd (show false=true from hs) bj
 | _=>cases y<;>show absurd (show false=true from hs) bj
theorem hU:i6 X (compareOp .Lt) (MF λi j=> .bl (decide (i<j))):=Nb λ_ _ _ _ _ _ _ q=>lt_int q
theorem o0:i6 X (compareOp .LtE) (MF λi j=> .bl (decide (i<=j))):=Nb λ_ _ _ _ _ _ _ q=>le_int q
theorem Jr:i6 X (compareOp .Gt) (MF λi j=> .bl (decide (j<i))):=Nb λ_ _ _ _ _ _ _ q=>gt_int q
theorem AB:i6 X (compareOp .GtE) (MF λi j=> .bl (decide (j<=i))):=Nb λ_ _ _ _ _ _ _ q=>ge_int q
def Gg:i6 X (compareOp .In) (λx y H Q=>cg λi j=>cW (x= .str i) (y= .str j) (Q (.bl (!(Builtin.Str.occurrences j i 0 j.length 1).isEmpty)) H)):=by intro ah s σ H x y v u Q I rx ry h;let⟨i,j,rfl,rfl,q⟩:=h;let⟨t,rfl⟩:=rx;let⟨t',rfl⟩:=ry;show in_str (cO I q rfl)
def M_:i6 X (compareOp .IsNot) (λx y H Q=>y= .d3 /\ Q (.bl (!decide (x= .d3))) H):=by
 intro ah s σ H x y v u Q I rx ry h;let⟨rfl,q⟩:=h;cases ry;exact isnot_none_gen (cO I q ?_);cases x<;>first
 | (cases rx;rfl)
 | (let⟨t,rfl⟩:=rx;rfl)
def a7 (b:Expr)(h:op≠ .In:=by decide)(h2:op≠ .NotIn:=by decide):behindInMarks op b=false:=by
 have e1:(op==CmpOp.In)=false:=by cases op<;>first | rfl | show absurd rfl h
 have e2:(op==CmpOp.NotIn)=false:=by cases op<;>first | rfl | show absurd rfl h2
 cases b<;>simp[behindInMarks,e1,e2]
def im (ho:i6 X (compareOp op) r)(ha:PE X a ta)(hb:PE X b tb)(hm:behindInMarks op b=false):PE X (.Compare a [op] [b] pos) (Vs r ta tb):=by intro ah s σ H Q I h;show wpAny_Compare1 (Tw ha hb I h λv u s2 x y H2 I2 rx ry q=>ho ah s2 σ H2 x y v u Q I2 rx ry q) hm
def Ia (t:TE):TT:=λσ H Q=>t σ H λx H'=> ∃k,x= .bl k /\ Q k H'
def aQ (ho:i6 X (compareOp op) r)(ha:PE X a ta)(hb:PE X b tb)(hm:behindInMarks op b=false):PT X (.Compare a [op] [b] pos) (Ia (Vs r ta tb)):=by intro ah s σ H Q I h;exact wpAny_isTrue_Compare1 (cV (ha ah s σ H _ I h) λv s1 ⟨x,H1,I1,r1,q1⟩=>cV (hb ah s1 σ H1 _ I1 q1) λu s2 ⟨y,H2,I2,r2,q2⟩=>cV (ho ah s2 σ H2 x y v u _ I2 r1 r2 q2) λc s3 ⟨z,H3,I3,r3,k,e,q3⟩=> ?_) hm;subst e;cases r3;show cq #[H3,I3,q3]
def Cn (r r':R2)(ta tb tc:TE):TE:=λσ H Q=>ta σ H λx H1=>tb σ H1 λy H2=>r x y H2 λz H3=> ∃k,z= .bl k /\(if k=true then tc σ H3 λw' H4=>r' y w' H4 Q else Q (.bl false) H3)
def Jg (ho:i6 X (compareOp op) r)(zi:i6 X (compareOp RZ) r')(ha:PE X a ta)(hb:PE X b tb)(hc:PE X c tc)(hm:lastMarks [op,RZ] [b,c]=false:=by with_unfolding_all rfl):PE X (.Compare a [op,RZ] [b,c] pos) (Cn r r' ta tb tc):=by
 intro ah s σ H Q I h;exact Compare_chain (cV (ha ah s σ H _ I h) λv s1 ⟨x,H1,I1,r1,q1⟩=>chain_link (cV (hb ah s1 σ H1 _ I1 q1) λu s2 ⟨y,H2,I2,r2,q2⟩=>cV (ho ah s2 σ H2 x y v u _ I2 r1 r2 q2) λd s3 ⟨z,H3,I3,r3,k,e,q3⟩=> ?_)) hm;subst e;cases r3;exact cq ?_;cases k with
 | false=>show ite_ff #[.bl false,H3,I3,rfl,q3]
 | true=>show ite_tt (chain_last (cV (hc ah s3 σ H3 _ I3 q3) λw' s4 ⟨z',H4,I4,r4,q4⟩=>zi ah s4 σ H4 y z' u w' Q I4 r2 r4 q4))
def oW (ho:i6 X (compareOp op) r)(zi:i6 X (compareOp RZ) r')(ha:PE X a ta)(hb:PE X b tb)(hc:PE X c tc)(hm:lastMarks [op,RZ] [b,c]=false:=by with_unfolding_all rfl):PT X (.Compare a [op,RZ] [b,c] pos) (Ia (Cn r r' ta tb tc)):=by
 intro ah s σ H Q I h;exact isTrue_chain (cV (ha ah s σ H _ I h) λv s1 ⟨x,H1,I1,r1,q1⟩=>test_link (cV (hb ah s1 σ H1 _ I1 q1) λu s2 ⟨y,H2,I2,r2,q2⟩=>cV (ho ah s2 σ H2 x y v u _ I2 r1 r2 q2) λd s3 ⟨z,H3,I3,r3,k,e,q3⟩=> ?_)) hm;subst e;cases r3;exact cq ?_;cases k with
 | false=>let⟨k',e',q'⟩:=q3;cases e';show ite_ff #[H3,I3,q']
 | true=>exact ite_tt (test_last (cV (hc ah s3 σ H3 _ I3 q3) λw' s4 ⟨z',H4,I4,r4,q4⟩=>cV (zi ah s4 σ H4 y z' u w' _ I4 r2 r4 q4) λd' s5 ⟨z2,H5,I5,r5,k2,e2,q5⟩=> ?_));subst e2;cases r5;show cq #[H5,I5,q5]
def Oz (K:WV)(x:V)(H:Hp)(k:Bool):Prop:=
 match x with
 | .d3=>k=false
 | .bl b=>k=b
 | .int i=>k=(i !=0)
 | .str y=>y.length<=sizeLine /\ k=((y.length:Int) !=0)
 | .Dg y=>y.size<=sizeLine /\ k=((y.size:Int) !=0)
 | .ref p=>(∃xs,g0 K H p xs /\ k= !xs.isEmpty) \/ (∃xs,k7 K H p xs /\ k= !xs.isEmpty) \/ ∃kvs,H p=some (.dK kvs) /\ k= !kvs.isEmpty
 | _=>False
def CU {vs:cA (κ×c7)}(r:KV kvs vs):(!vs.isEmpty)= !kvs.isEmpty:=by cases r<;>rfl
def vk (r:cb xs bJ):(!bJ.toArray.isEmpty)= !xs.isEmpty:=by cases r<;>simp
def nY:(sizeLine:Nat) <2 ^ 63:=by rw[cR];decide
def Q6:ahJ X (λx H Q=> ∃k,Oz X.K x H k /\ Q k H):=by
 intro ah s σ H x v Q I rx h;let⟨k,e,q⟩:=h;have hl:=nY;have hs:sizeLine=16777216:=cR;cases x with
 | d3=>cases rx;have e':k=false:=e;subst e';show truthy_none #[H,I,q]
 | bl b=>cases rx;have e':k=b:=e;subst e';show cq #[H,I,q]
 | int i=>let⟨t,rfl⟩:=rx;have e':k=(i !=0):=e;subst e';show PySem.P.truthy_int #[H,I,q]
 | str y=>let⟨t,rfl⟩:=rx;let⟨hy,e'⟩:y.length<=sizeLine /\ k=((y.length:Int) !=0):=e;subst e';show PySem.P.truthy_str ∅ #[H,I.tok _,q]
 | Dg y=>let⟨t,rfl⟩:=rx;let⟨hy,e'⟩:y.size<=sizeLine /\ k=((y.size:Int) !=0):=e;subst e';show W.truthy_bytes ∅ #[H,I.tok _,q]
 | ref p=>
  cases rx;have e':(∃xs,g0 X.K H p xs /\ k= !xs.isEmpty) \/ (∃xs,k7 X.K H p xs /\ k= !xs.isEmpty) \/ ∃kvs,H p=some (.dK kvs) /\ k= !kvs.isEmpty:=e;rcases e' with⟨xs,hx,e'⟩ | ⟨xs,hx,e'⟩ | ⟨kvs,hx,e'⟩
  subst e';let⟨bJ,r,pl,hz⟩:=I.list hx;have dJ:=r.length;show wpAny_truthy_list pl.isList (by simp![aM];lia) #[H,I.tok _,by rw[vk r];show q];subst e';let⟨bJ,r,pl,hz⟩:=I.tuple hx;have dJ:=r.length;show truthy_tuple pl (by simp![aM];lia) #[H,I.tok _,by rw[vk r];show q];subst e';let⟨hz,hS,vs,r,m⟩:kvs.length<=sizeLine /\ (p==sysModules)=false /\ ∃vs,KV kvs vs /\ s.heap.DictOf (cH X.prog X.w) p vs:=I.cN p _ hx;have dJ:kvs.length=vs.length:=Paired.length r;show wpAny_truthy_dict hS m ∅ #[H,I.tok _,by rw[CU r];show q]
 | _=>show(show False from e).elim
def Jb (ha:PE X a ta)(he: ∀nj,isTrue a X.env nj=(do let v <- nj;standAt a.pos;holding [v] (truthy v))): PT X a (λσ H Q=>ta σ H λx H'=> ∃k,Oz X.K x H' k /\ Q k H'):=by intro ah s σ H Q I h;show isTrue_plain (cV (ha ah s σ H _ I h) λv s1 ⟨x,H1,I1,r1,q1⟩=>Q6 ah s1 σ H1 x v Q I1 r1 q1) (he _)
def CC:i6 X (binaryOp .Add) (λx y H Q=>cg λi j=>fj (x= .str i) (y= .str j) (i.length+j.length<=sizeLine) (Q (.str (i++j)) H)):=by intro ah s σ H x y v u Q I rx ry h;let⟨i,j,rfl,rfl,hz,q⟩:=h;let⟨t,rfl⟩:=rx;let⟨t',rfl⟩:=ry;show add_str (λt' tk=>#[.str (i++j),H,I.tok _,#[_,rfl],q]) hz
def vals1 (r:cb [x] us): ∃u,us= [u] /\ RelV x u:=by
 cases r with
 | cons r1 r2=>cases r2;show#[_,rfl,r1]
def vals2 (r:cb [x,y] us):cg λu w'=>cW (us= [u,w']) (RelV x u) (RelV y w'):=by
 cases r with
 | cons r1 r2=>
  cases r2 with
  | cons r3 r4=>cases r4;show#[_,_,rfl,r1,r3]
def K4:fB X (.builtin "abs") (λxs H Q=> ∃i,xs= [.int i] /\ Q (.int (if i<0 then -i else i)) H):=by intro ah s σ H xs us Q I r h;let⟨i,rfl,q⟩:=h;let⟨u,rfl,t,rfl⟩:=vals1 r;show call_abs_int λu tk=>#[.int (if i<0 then -i else i),H,I.tok _,#[_,rfl],q]
def zt:fB X (.type "str") (λxs H Q=> ∃i,cW (xs= [.int i]) (i.natAbs.log2<1920) (Q (.str (toString i)) H)):=by intro ah s σ H xs us Q I r h;let⟨i,rfl,hz,q⟩:=h;let⟨u,rfl,t,rfl⟩:=vals1 r;show PySem.P.str_of_int hz #[.str _,H,I.tok _,#[_,rfl],q]
end
structure Dn (h:Heap)(x dx C:Addr)(mA:Str ->Option Value):Prop where
 obj:h.get? x=some (PySem.W.instObj C dx)
 ns:h.Ns1 dx mA
 ne:dx≠x
def Gx {h:Heap}(n:h.Ns1 dx mA): ∃od,h.get? dx=some od /\ ∀name,W.lookIn name od=some (mA name):=by
 let⟨o,es,ep,ho,hd,hk,_,hm⟩:=n;exact#[o,ho,λname=> ?_];have e:=hm name;unfold nsFind findBy at e;rw[<- Array.find?_toList] at e;unfold W.lookIn;rw[hd];dsimp only;split;rename_i y q;rw[q] at e;show congrArg some e;rename_i q;rw[q] at e;have a:es.toList.any (·.refKey)=false:=by rw[List.any_eq_false];intro y hy;let⟨z,t,S9⟩:=hk y (Array.mem_toList_iff.mp hy);simp[DictEntry.refKey,S9]
 have a':¬es.toList.any (·.refKey)=true:=by rw[a];show bj
 rw[ak a'];show congrArg some e
theorem Dn.look (I:Dn h x dx C mA): ∃od,W.InstAt h x (W.instObj C dx) C (some od) /\ ∀name,W.lookIn name od=some (mA name):=
 let ⟨od,ho,hl⟩:=Gx I.ns
 #[od,#[I.obj,rfl,rfl,ho],hl]
def NY {K:WV}(X:K.In s.heap)(I:Dn s.heap x dx C mA)(hg:W.plainGet K C name=true)(hh:W.hasDictIn K C=true)(ha:W.findIn K (.ref C) name=some none)(hv:mA name=some v)(NM:W.handedIn v=true)(h:Q v {s with toks:=s.toks+1}): wpAny (model prog w) A (getAttr (.ref x) name ahz) Q E s:=by let⟨od,J,hl⟩:=I.look;show W.get_value X J (W.plainGet_of hg).1 (W.findObj_own hh ha rfl (by rw[hl,hv])) NM h
def Kn {K:WV}(X:K.In s.heap)(I:Dn s.heap x dx C mA)(hg:W.plainGet K C name=true)(hf:W.findIn K (.ref C) name=some (some (.ref f)))(ht:W.isFn K (.ref f)=true)(hv:mA name=none)(h:Q (.ref f,[.ref x]) s): wpAny (model prog w) A (getMethod (.ref x) name pl) Q E s:=by let⟨od,J,hl⟩:=I.look;show W.method_fn X J (W.plainGet_of hg).1 (W.plainGet_of hg).2 hf (beq_iff_eq.mp ht) (by change(W.lookIn name od).map (·.isSome)=some false;rw[hl,hv];rfl) h
def Mw {K:WV}(X:K.In s.heap)(I:Dn s.heap x dx C mA)(hs:W.findIn K (.ref C) "__setattr__" =some (some (.builtin "object.__setattr__")))(hp:W.plainOver K C=true)(ht:W.takerIn K C name=some none)(hh:W.hasDictIn K C=true)(hw:PySem.Within mA ns)(hsz:ns.length<=sizeLine)(h: ∀h',Dn h' x dx C (λy=>if y=name then some v else mA y) ->Heap.SameBut dx s.heap h' ->Q () {s with heap:=h',toks:=s.toks+2}): wpAny (model prog w) A (setAttr (.ref x) name v) Q E s:=by let⟨od,J,hl⟩:=I.look;exact W.set_plain X J hs (W.osa_open (s:= {s with toks:=s.toks+1}) (r:=none) X J hp ht λb=> ?_);let⟨cd,hc,Xp⟩:=W.any_some hh;have hx:s.heap.get? x=some #[.ref C,some dx, .plain, #[]]:=I.obj;exact az (a_ (az (az (wpAny_loadPart hx (az (W.Looks.here (s:= {s with toks:=s.toks+1}) (W.looks_clsIn X hc) ?_))))));rw[Xp];exact a_ (a:=some dx) (az (a_ (az ?_)));exact wpAny_nsSet1 (s:= {s with toks:=s.toks+1}) I.ns λh' wt E2=> ?_;let⟨oD,esD,epD,hoD,hdD,hcD⟩:=wt.count (PySem.Within.cons name v hw);exact az (wpAny_lookBehind hoD (by rw[hdD];show pastItsLine_dict (ar hcD (by rw[aB];lia))) ?_);show a_ (h _ #[(E2.2 _ (du I.ne)).trans I.obj,wt,I.ne] E2)
def JG {K:WV}(X:K.In s.heap)(hm:W.makesIn K C=true)(hi:W.findIn K (.ref C) "__init__" =some (some (.ref f)))(hf:W.typeIn K (.ref f)=some (.type "function"))(h:codeAny (model prog w) (A.under (.builtin "type.__call__" #[.ref C::vs,kw])) (.call (.ref f) #[.ref (s.heap.objs.size+1)::vs,kw]) (W.InitBack (s.heap.objs.size+1) R) {s with heap:=(s.heap.push W.emptyDict).push (W.instObj C s.heap.objs.size)}): codeAny (model prog w) A (.call (.ref C) #[vs,kw]) R s:=by let⟨hh,g,d,t,os⟩:=s;show W.make_core (W.makes_of X hm) (W.looks_findIn X hi) (λself=>W.bind_fn X self hf) (.inl rfl) h
def jF (f:Str)(v:V):cA (Str×V) ->cA (Str×V)
 | []=> [(f,v)]
 | (g,x)::r=>if g=f then(g,v)::r else(g,x)::jF f v r
theorem rO (f g:Str)(v:V): ∀fs:cA (Str×V),(jF f v fs).lookup g=if g=f then some v else fs.lookup g
 | []=>by change List.lookup g [(f,v)]=_;by_cases h:g=f;have hb:(g==f)=true:=beq_iff_eq.mpr h;simp![List.lookup,hb,ao h];have hb:(g==f)=false:=beq_eq_false_iff_ne.mpr h;simp![List.lookup,hb,ak h]
 | (k, x)::r=>by have ih:=rO f g v r;rw[show jF f v ((k,x)::r)=(if k=f then(k,v)::r else(k,x)::jF f v r) from rfl];by_cases hk:k=f;rw[ao hk];by_cases h:g=k;have hb:(g==k)=true:=beq_iff_eq.mpr h;simp![List.lookup,hb,ao (h.trans hk)];have hb:(g==k)=false:=beq_eq_false_iff_ne.mpr h;simp![List.lookup,hb,ak (λe:g=f=>h (e.trans hk.symm))];rw[ak hk];by_cases h:g=k;have hb:(g==k)=true:=beq_iff_eq.mpr h;simp![List.lookup,hb,ak (λe:g=f=>hk (h.symm.trans e))];have hb:(g==k)=false:=beq_eq_false_iff_ne.mpr h;simp![List.lookup,hb];show ih
theorem qM (f:Str)(v:V): ∀fs:cA (Str×V),f∈(jF f v fs).map (·.1) /\ ∀g,g∈fs.map (·.1) ->g∈(jF f v fs).map (·.1)
 | []=>#[by simp[jF],λg h=>by simp at h]
 | (k, x)::r=>by let⟨i1,i2⟩:=qM f v r;rw[show jF f v ((k,x)::r)=(if k=f then(k,v)::r else(k,x)::jF f v r) from rfl];by_cases hk:k=f;rw[ao hk];subst hk;show#[by simp,λg h=> ⇑h];rw[ak hk];exact#[?_,λg h=> ?_];rw[aN];show dg _ i1;rw[aN] at h ⊢;obtain e | e:=aT.mp h;show aT.mpr (.inl e);show dg _ (i2 g e)
theorem rQ (f:Str)(v:V): ∀fs:cA (Str×V),(jF f v fs).length<=fs.length+1
 | []=>by simp[jF]
 | (k,x)::r=>by have ih:=rQ f v r;rw[show jF f v ((k,x)::r)=(if k=f then(k,v)::r else(k,x)::jF f v r) from rfl];by_cases hk:k=f;rw[ao hk,aB,aB];lia;rw[ak hk,aB,aB];lia
def ki.some_of (r:ki (some v) o): ∃u,o=some u /\ RelV v u:=by
 cases o with
 | none=>show(show False from r).elim
 | some u=>show#[u,rfl,r]
def ki.none_of (r:ki none o):o=none:=by
 cases o with
 | none=>rfl
 | some u=>show(show False from r).elim
def GQ (r:RelV v u):W.handedIn u=true:=by
 cases v with
 | d3=>cases (show u=Value.none from r);rfl
 | bl b=>cases (show u=Value.bool b from r);rfl
 | int i=>let⟨t,e⟩:=(show ∃t,u=Value.int i t from r);cases e;rfl
 | str x=>let⟨t,e⟩:=(show ∃t,u=Value.str x t from r);cases e;rfl
 | Dg b=>let⟨t,e⟩:=(show ∃t,u=Value.bytes b t from r);cases e;rfl
 | N5 b=>let⟨t,e⟩:=(show ∃t,u=Value.float b t from r);cases e;rfl
 | ref a=>cases (show u=Value.ref a from r);rfl
 | ty n=>cases (show u=Value.type n from r);rfl
def uh (cN:mY P w H h)(e:H a=some (.ins C dx fs)): ∃mA,gm (Dn h a dx C mA) (∀f,ki (fs.lookup f) (mA f)) (PySem.Within mA (fs.map (·.1))) (fs.length<=1000) (H dx=some (.own a)):=by
 let⟨d,z,ne,ob,mA,n,r,q⟩:=(show d7 P w H h a (.ins C dx fs) from cN a _ e)
 show#[mA,#[ob,n,ne],r,q,z,d]
structure wW (K:PySem.W.Frag)(C:Addr):Prop where
 pg:PySem.W.plainGet K C Str.empty=true
 hd:PySem.W.hasDictIn K C=true
 po:PySem.W.plainOver K C=true
 sa:PySem.W.findIn K (.ref C) "__setattr__" =some (some (.builtin "object.__setattr__"))
theorem wW.get {K:WV}{C:fP}(c:wW K C)(f:Str):W.plainGet K C f=true:=c.pg
def d_ (K:WV)(C:fP)(f:Str):Prop:=W.findIn K (.ref C) f=some none
def d_.Vm {K:WV}(n:d_ K C f):W.takerIn K C f=some none:=by unfold W.takerIn;rw[show W.findIn K (.ref C) f=some none from n];rfl
structure Li (K:PySem.W.Frag)(C:Addr)(m:Str)(f:Addr):Prop where
 at_:PySem.W.findIn K (.ref C) m=some (some (.ref f))
 fn:PySem.W.isFn K (.ref f)=true
 kp:PySem.W.keepIn K (.ref f)=true
def C5 {σ:St}(I:Inv X ah σ H s)(e:H a=some (.ins C dx fs))(c:wW X.K C)(n:d_ X.K C f)(l:fs.lookup f=some v)(h: ∀u s',Inv X ah σ H s' ->RelV v u ->Q u s'):wpAny (model X.prog X.w) A (getAttr (.ref a) f b) Q E s:=by let⟨mA,O,r,_,_,_⟩:=uh I.cN e;let⟨u,hu,ru⟩:=ki.some_of (v:=v) (o:=mA f) (by rw[<- l];show r f);show NY I.nz O (c.get f) c.hd n hu (GQ ru) (h u _ (I.tok _) ru)
def j9 {σ:St}(I:Inv X ah σ H s)(e:H a=some (.ins C dx fs))(c:wW X.K C)(k:Li X.K C m g)(l:fs.lookup m=none)(h:Q (.ref g,[.ref a]) s):wpAny (model X.prog X.w) A (getMethod (.ref a) m pl) Q E s:=by let⟨mA,O,r,_,_,_⟩:=uh I.cN e;have hn:mA m=none:=ki.none_of (by rw[<- l];show r m);show Kn I.nz O (c.get m) k.at_ k.fn hn h
def Cp {σ:St}(I:Inv X ah σ H s)(e:H a=some (.ins C dx fs))(c:wW X.K C)(n:d_ X.K C f)(hl:fs.length<1000)(ry:RelV y u)(h: ∀s',Inv X ah σ (cK H a (.ins C dx (jF f y fs))) s' ->Q () s'):wpAny (model X.prog X.w) A (setAttr (.ref a) f u) Q E s:=by
 let⟨mA,O,r,wi,_,ho⟩:=uh I.cN e;have hz:(fs.map (·.1)).length<=sizeLine:=by rw[af,cR];lia
 exact Mw I.nz O c.sa c.po n.Vm c.hd wi hz λh' O' sb=>h _ ?_;have hd: ∃o,h'.get? dx=some o:=let ⟨o,_,_,e',_⟩:=O'.ns;#[o,e']
 exact I.write (x:=a) (e:=dx) (by rw[e];show True.intro) (.inr ho) (λb q hb z=>(sb.2 b hb).trans z) hd ?_;exact#[by rw[bN O.ne];show ho,?_,O.ne,O'.obj,_,O'.ns,λg=> ?_,λg hg=> ?_];have:=rQ f y fs;lia;change ki ((jF f y fs).lookup g) (if g=f then some u else mA g);rw[rO];by_cases q:g=f;rw[ao q,ao q];show ry;rw[ak q,ak q];show r g;by_cases q:g=f;rw[q];show(qM f y fs).1;exact(qM f y fs).2 g (wi g λz=>hg ?_);change(if g=f then some u else mA g)=none;rw[ak q];show z
def Inv.made {σ:St}(I:Inv X ah σ H s):Inv X ah σ (cK (cK H s.heap.objs.size (.own (s.heap.objs.size+1))) (s.heap.objs.size+1) (.ins C s.heap.objs.size [])) {s with heap:=(s.heap.push W.emptyDict).push (W.instObj C s.heap.objs.size)}:=by
 have e1:(s.heap.push W.emptyDict).get? s.heap.objs.size=some W.emptyDict:=a4 s.heap rfl;have e2:((s.heap.push W.emptyDict).push (W.instObj C s.heap.objs.size)).get? (s.heap.objs.size+1)=some (W.instObj C s.heap.objs.size):=by have:=a4 (s.heap.push W.emptyDict) (o:=W.instObj C s.heap.objs.size) rfl;rwa [Heap.size_push] at this
 have e3:(s.heap.push W.emptyDict).Ns s.heap.objs.size (λ_=>none):=#[W.emptyDict, #[],_,e1,rfl,(λe he=>absurd he (by simp)),λ_=>rfl]
 have I1:=I.laid (a:=s.heap.objs.size) (o:= .own (s.heap.objs.size+1)) (h':=s.heap.push W.emptyDict) (t':=s.toks) (λb u q=>av _ q) (aq _) #[_,e1];exact I1.laid (a:=s.heap.objs.size+1) (o:= .ins C s.heap.objs.size []) (t':=s.toks) (λb u q=>av _ q) (Nat.le_of_eq (Heap.size_push _ _)) ?_;have ne:s.heap.objs.size≠s.heap.objs.size+1:=bA (Nat.lt_succ_self _);exact#[by rw[bN ne,bU],de _,ne,e2,λ_=>none,(Heap.Ns1.of_empty e3).at λo q=>av _ q,λ_=>True.intro,λy hy=>absurd rfl hy]
theorem Ow (hb:attributeBase e f env (eval e env)=eval e env)(h:wpAny (model prog w) A (eval e env) (λo s₁=>wpAny (model prog w) A (getAttr o f true) Q E s₁) E s):wpAny (model prog w) A (eval (.Attribute e f pos) env) Q E s:=Attribute_any_ h (by rw[arm_eval_Attribute,hb])
def Ra (K:WV)(ta:TE)(f:Str):TE:=λσ H Q=>ta σ H λx H1=>sO λa C dx fs v=>lm (x= .ref a) (H1 a=some (.ins C dx fs)) (wW K C) (d_ K C f) (fs.lookup f=some v) (Q v H1)
def VL (K:WV)(ta tv:TE)(f:Str):TS:=λD σ H=>tv σ H λy H1=>ta σ H1 λx H2=>fY λa C dx fs=>lm (x= .ref a) (H2 a=some (.ins C dx fs)) (wW K C) (d_ K C f) (fs.length<1000) (D.nx σ (cK H2 a (.ins C dx (jF f y fs))))
def RF (he:PE X e ta)(hb:attributeBase e f X.env (eval e X.env)=eval e X.env):PE X (.Attribute e f pos) (Ra X.K ta f):=by intro ah s σ H Q I h;exact Ow hb (cV (he ah s σ H _ I h) λu s1 ⟨x,H1,I1,rx,a,C,dx,fs,v,ex,ea,c,n,l,q⟩=> ?_);subst ex;obtain rfl:u=Value.ref a:=rx;show C5 I1 ea c n l λu' s2 I2 ru=>#[v,H1,I2,ru,q]
def iL (ha:PE X o ta)(hv:PE X value tv)(hs:swapsWith value (some (.Attribute o f lJ)) pos.line X.env=pure false):PS X (.Assign [.Attribute o f lJ] value pos) (VL X.K ta tv f):=by intro ah s σ H D I h;exact plainObj_wpAny_Assign_Attribute (cV (hv ah s σ H _ I h) λu s1 ⟨y,H1,I1,ry,q⟩=>cV (ha ah s1 σ H1 _ I1 q) λov s2 ⟨x,H2,I2,rx,a,C,dx,fs,ex,ea,c,n,l,q2⟩=> ?_) hs;subst ex;obtain rfl:ov=Value.ref a:=rx;show Cp I2 ea c n l ry λs3 I3=>#[σ,_,I3,q2]
theorem PK {σ:St}(he:PE X e te)(I:Inv X ah σ H s)(h:te σ H λx H1=>sO λa C dx fs g=>lm (x= .ref a) (H1 a=some (.ins C dx fs)) (wW X.K C) (Li X.K C m g) (fs.lookup m=none) (∀s1,Inv X ah σ H1 s1 ->wpAny (model X.prog X.w) X.A (callWith pos (.ref g) [.ref a] (backTo pos (starEach args X.env)) (backToKw pos (keywordEach [] X.env))) Q X.xe s1))(ht:eval (.Call (.Attribute e m dH) args [] pos) X.env=(do
   let ov <- eval e X.env
   standAt dH.atName
   let (f,first) <- holding [ov] (getMethod ov m pl)
   callWith pos f first (backTo pos (starEach args X.env)) (backToKw pos (keywordEach [] X.env)))):
  wpAny (model X.prog X.w) X.A (eval (.Call (.Attribute e m dH) args [] pos) X.env) Q X.xe s:=by
 exact W.methodCall_KW (pl:=pl) (cV (he ah s σ H _ I h) λu s1 ⟨x,H1,I1,rx,a,C,dx,fs,g,ex,ea,c,k,l,q⟩=> ?_) ht
 subst ex
 obtain rfl:u=Value.ref a:=rx
 show j9 I1 ea c k l (q s1 I1)
section
variable {X:Cx}{ah:cA (fP×Obj)}{σ:St}{H:Hp}{s:dz}{A:Around}{E:c7 ->dz ->Prop}{Q:c7 ->dz ->Prop}{c:c7}{b:Bool}
inductive rC (K:PySem.W.Frag)(H:Hp):V ->Value ->Prop where
 | d3:rC K H .d3 (.type "NoneType")
 | bl (x:Bool):rC K H (.bl x) (.type "bool")
 | int (i:Int):rC K H (.int i) (.type "int")
 | str (x:Str):rC K H (.str x) (.type "str")
 | N5 (x:UInt64):rC K H (.N5 x) (.type "float")
 | lst {a:Addr} {xs:List V} (e:H a=some (.lst xs)):rC K H (.ref a) (.type "list")
 | lg {a:Addr} {o:Obj} {xs:List V} (e:H a=some (.lg o (.lst xs))):rC K H (.ref a) (.type "list")
 | tup {a:Addr} {xs:List V} (e:H a=some (.tup xs)):rC K H (.ref a) (.type "tuple")
 | dK {a:Addr} {kvs:List (b8×V)} (e:H a=some (.dK kvs)):rC K H (.ref a) (.type "dict")
 | dT {a:Addr} {kvs:List (List b8×V)} (e:H a=some (.dT kvs)):rC K H (.ref a) (.type "dict")
 | ins {a C dx:Addr} {fs:List (Str×V)} (e:H a=some (.ins C dx fs)) (cl:wW K C) (ha:PySem.W.findIn K (.ref C) "__class__" =some (some (.builtin "object.__class__"))) (hn:PySem.W.specialIn K (.builtin "object.__class__") "__get__" =some (some (.builtin "getset_descriptor.__get__"))) (htk:PySem.W.takesIn K (.builtin "object.__class__")=some true) (hm:PySem.W.mroIn K C (.type "object")=some true):rC K H (.ref a) (.ref C)
def GG (I:Inv X ah σ H s)(rx:RelV x u)(ty:rC X.K H x t)(e:W.kitOne X.K t c=some b)(h: ∀tk,Q (.bool b) {s with toks:=tk}): wpAny (model X.prog X.w) A (call (.builtin "isinstance") [u,c]) Q E s:=by
 cases ty with
 | d3=>cases (show u=Value.none from rx);show cy W.kitx_none I.nz True.intro e (λz=>nomatch z) h
 | bl y=>cases (show u=Value.bool y from rx);show cy W.kitx_bool I.nz True.intro e (λz=>nomatch z) h
 | int i=>let⟨t,q⟩:=(show ∃t,u=Value.int i t from rx);cases q;show cy W.kitx_int I.nz True.intro e (λz=>nomatch z) h
 | str y=>let⟨t,q⟩:=(show ∃t,u=Value.str y t from rx);cases q;show cy W.kitx_str I.nz True.intro e (λz=>nomatch z) h
 | N5 y=>let⟨t,q⟩:=(show ∃t,u=Value.float y t from rx);cases q;show cy W.kitx_float I.nz True.intro e (λz=>nomatch z) h
 | @lst a xs ea=>
  cases (show u=Value.ref a from rx);let⟨_,_,n,_,h1⟩:=(show d7 X.prog X.w H s.heap a (.lst xs) from I.cN a _ ea)
  show cy W.kitx_list I.nz #[_,h1,rfl] e (λz=>nomatch z) h
 | @lg a ob xs ea=>
  cases (show u=Value.ref a from rx);let⟨_,_,_,n,_,h1⟩:=(show d7 X.prog X.w H s.heap a (.lg ob (.lst xs)) from I.cN a _ ea)
  show cy W.kitx_list I.nz #[_,h1,rfl] e (λz=>nomatch z) h
 | @tup a xs ea=>
  cases (show u=Value.ref a from rx);let⟨_,_,_,p⟩:=(show d7 X.prog X.w H s.heap a (.tup xs) from I.cN a _ ea)
  let⟨o,h1,h2,_⟩:=p;show cy W.kitx_tuple I.nz #[o,h1,h2] e (λz=>nomatch z) h
 | @dK a kvs ea=>
  cases (show u=Value.ref a from rx);let⟨_,_,vs,_,p⟩:=(show d7 X.prog X.w H s.heap a (.dK kvs) from I.cN a _ ea)
  let⟨o,es,ep,h1,h2,_⟩:=p;show cy W.kitx_dict I.nz #[o,h1,h2.1] e (λz=>nomatch z) h
 | @dT a kvs ea=>
  cases (show u=Value.ref a from rx);let⟨_,_,xs,_,o,es,ep,h1,h2,_⟩:=(show d7 X.prog X.w H s.heap a (.dT kvs) from I.cN a _ ea)
  show cy W.kitx_dict I.nz #[o,h1,h2.1] e (λz=>nomatch z) h
 | @ins a C dx fs ea cl ha hn htk hm=>cases (show u=Value.ref a from rx);let⟨mA,O,_⟩:=uh I.cN ea;let⟨od,J,_⟩:=O.look;show cy (W.kitx_own (cl.get _) cl.hd ha hn htk hm) I.nz J e (λz=>nomatch z) h
end
structure eR (k:Nat)(A:Around):Prop where
 hd:A.handled=none
 dp:A.depth+3*k+5<recursionLimit
 un:A.units+16*k+200<cLine
theorem eR.mono (r:eR k A)(h:j<=k):eR j A:=#[r.hd,by have:=r.dp;lia,by have:=r.un;lia]
theorem eR.deeper (r:eR (k+1) A)(env:Env):eR k (A.deeper env):=#[r.hd,by have:=r.dp;change A.depth+1+3*k+5<_;lia,by have:=r.un;change A.units+3+16*k+200<_;lia]
def CO {A:Around}:(A.under (.builtin "type.__call__" #[.ref C::us,kw])).depth=A.depth+1:=by first | rfl | simp[Around.under,Code.weight,Code.isCreation,Code.isGuard,Code.isCaller,Code.frames,Code.isFrame,guardIds]
def CN {A:Around}:(A.under (.builtin "type.__call__" #[.ref C::us,kw])).units=A.units+1:=by first | rfl | simp[Around.under,Code.cUnits,Code.frames,Code.isFrame]
theorem eR.make (r:eR (k+1) A)(C:fP)(us:cA c7)(kw:cA (Str×c7)):eR k (A.under (.builtin "type.__call__" #[.ref C::us,kw])):=#[r.hd,by have:=r.dp;rw[CO];lia,by have:=r.un;rw[CN];lia]
def eR.depth (r:eR k A):A.depth<recursionLimit:=by have:=r.dp;lia
def eR.units (r:eR k A):A.units+64<cLine:=by have:=r.un;lia
def FQ:TA:=λ_ H Q=>Q [] H
def Il (ta:TE)(tr:TA):TA:=λσ H Q=>ta σ H λx H1=>tr σ H1 λxs H2=>Q (x::xs) H2
section
variable {X:Cx}{e:Expr}{es:cA Expr}{te:TE}{t:TA}{pos:Pos}
theorem ae:PA X [] FQ:=λ_ _ _ _ H Q I h=>Calls.spliced_nil #[[],H,I, .nil,h]
def aa (ha:PE X e te)(hr:PA X es t)(hs:starEach (e::es) X.env=(false,eval e X.env)::starEach es X.env:=by rfl):PA X (e::es) (Il te t):=by intro pos ah s σ H Q I h;rw[hs];change wpAny _ _ (spliced ((false,eval e X.env)::backTo pos (starEach es X.env))) _ _ s;exact Calls.spliced_cons (cV (ha ah s σ H _ I h) λu s1 ⟨x,H1,I1,r1,q1⟩=> ?_);show cV (hr pos ah s1 σ H1 _ I1 q1) λus s2 ⟨xs,H2,I2,r2,q2⟩=>#[x::xs,H2,I2, .cons r1 r2,q2]
def Vo (t:TA):TE:=λσ H Q=>t σ H λxs H1=>xs.length<=sizeLine /\ ∀p,H1 p=none ->Q (.ref p) (cK H1 p (.tup xs))
def Vu (t:TA):TE:=λσ H Q=>t σ H λxs H1=>xs.length<=sizeLine /\ ∀p,H1 p=none ->Q (.ref p) (cK H1 p (.lst xs))
def aJ {x1}(h:PA X es t):PE X (.Tuple es x1 pos) (Vo t):=by intro ah s σ H Q I hq;exact wpAny_Tuple_spliced (cV (h pos ah s σ H _ I hq) λus s1 ⟨xs,H1,I1,r,z,q⟩=>#[by rw[<- r.length];show z,?_]);have hf:H1 s1.heap.objs.size=none:=I1.cN.fresh (aq _);exact#[.ref s1.heap.objs.size,cK H1 s1.heap.objs.size (.tup xs),I1.laid (t':=s1.toks) (λb u e=>av _ e) (aq _) ?_,rfl,q _ hf];show#[z,us,r,#[_,a4 _ rfl,rfl,_,rfl,rfl]]
def dP (h:PA X es t):PE X (.List es pos) (Vu t):=by intro ah s σ H Q I hq;exact wpAny_List_spliced (cV (h pos ah s σ H _ I hq) λus s1 ⟨xs,H1,I1,r,z,q⟩=>#[by rw[<- r.length];show z,?_]);have hf:H1 s1.heap.objs.size=none:=I1.cN.fresh (aq _);exact#[.ref s1.heap.objs.size,cK H1 s1.heap.objs.size (.lst xs),I1.laid (t':=s1.toks) (λb u e=>av _ e) (aq _) ?_,rfl,q _ hf];show#[z,us,0,r,a4 _ rfl]
end
abbrev Sp:=cA V ->Hp ->VK ->XK ->Prop
abbrev B9:=cA Env ->Hp ->dz ->XK ->c7 ->dz ->Prop
structure Dz (P:Program)(w:World)(K:PySem.W.Frag)(mg:Str ->Option Value)(base:Heap)(A:Around)(outer:List Env)(s:Shared)(H:Hp):Prop where
 frames:A.frames=some outer
 mod:Mod K mg base
 bs: ∀b o,base.get? b=some o ->s.heap.get? b=some o /\ H b=none
 K6:base.objs.size<=s.heap.objs.size
 n9:s.heap.FunFrames base outer
 L3: ∀b∈li outer,H b=none
 cN:mY P w H s.heap
 bare:AllBare s.gens
def CE (outer:cA Env)(P:Program)(w:World)(H:Hp)(s:dz)(Q:VK)(u:c7)(s':dz):Prop:=cg λv H'=>lm (s'.os=s.os) (AllBare s'.gens) (Un (li outer) [] H H' s.heap s'.heap) (mY P w H' s'.heap) (RelV v u) (Q v H')
def CR (CX:B9)(outer:cA Env)(P:Program)(w:World)(H:Hp)(s:dz)(Q:VK)(E:XK)(r:Result)(s':dz):Prop:=
 match r with
 | .ok (.ret u)=>CE outer P w H s Q u s'
 | .ok _=>False
 | .error e=>CX outer H s E e s'
structure bD (P:Program)(w:World)(K:PySem.W.Frag)(mg:Str ->Option Value)(base:Heap)(CX:B9)(k:Nat)(f:Addr)(fd:FuncData)(ps:List Str)(sp:Sp):Prop where
 len: ∀vs H Q E,sp vs H Q E ->vs.length=ps.length
 run: ∀ (A:Around) (outer:List Env) (s:Shared) (H:Hp) (args:Args) (us:List Value) (vs:List V) (Q:VK) (E:XK),eR k A ->Dz P w K mg base A outer s H ->BindsTo s fd args (ps.zip us) ->cb vs us ->sp vs H Q E ->codeAny (model P w) A (.call (.ref f) args) (CR CX outer P w H s Q E) s
theorem bD.mono {K:WV}(F:bD P w K mg base CX j f fd ps sp)(h:j<=k): bD P w K mg base CX k f fd ps sp:=#[F.len,λA outer s H args us vs Q E hr=>F.run A outer s H args us vs Q E (hr.mono h)]
theorem bD.imp {K:WV}(F:bD P w K mg base CX k f fd ps sp)(h: ∀vs H Q E,BX vs H Q E ->sp vs H Q E):bD P w K mg base CX k f fd ps BX:=#[λvs H Q E q=>F.len vs H Q E (h _ _ _ _ q),λA outer s H args us vs Q E hr he hb hv hs=>F.run A outer s H args us vs Q E hr he hb hv (h _ _ _ _ hs)]
theorem Dz.make {K:WV}(e:Dz P w K mg base A outer s H)(C:fP)(us:cA c7)(kw:cA (Str×c7)): Dz P w K mg base (A.under (.builtin "type.__call__" #[.ref C::us,kw])) outer s H:=#[by first | show e.frames | (simpa [Around.under,Code.envs,Code.isFrame,pushEnvs] using e.frames),e.mod,e.bs,e.K6,e.n9,e.L3,e.cN,e.bare]
theorem Inv.Oa {σ:St}(I:Inv X ah σ H s):Dz X.prog X.w X.K X.mg X.base X.A X.stack s H:=#[I.ok.frames,I.ok.mod,I.bs,ar I.ok.K6 I.sz,I.stack,I.t7,I.cN,I.bare]
def Inv.after {σ:St}(I:Inv X ah σ H s)(h:CE X.stack X.prog X.w H s Q u s'):EP X ah σ Q u s':=by let⟨v,H',os,bare,un,cN,r,q⟩:=h;let⟨hh,g,d,t,os'⟩:=s';obtain rfl:os'=s.os:=os;show#[v,H',I.call (h':=hh) (g':=g) (d':=d) (t':=t) (ch:= []) un cN bare (λb z=>absurd z (by simp)),r,q]
def xg (sp:Sp)(wM:cA V)(E:XK)(t:TA):TE:=λσ H Q=>t σ H λvs H1=>sp (vs++wM) H1 Q E
def rF (C:fP)(m:Str)(sp:Sp)(wM:cA V)(E:XK)(ta:TE)(t:TA):TE:=λσ H Q=>ta σ H λx H1=>eQ λa dx fs=>fj (x= .ref a) (H1 a=some (.ins C dx fs)) (fs.lookup m=none) (t σ H1 λvs H2=>sp (x::(vs++wM)) H2 Q E)
def Ie (C:fP)(sp:Sp)(wM:cA V)(E:XK)(t:TA):TE:=λσ H Q=>t σ H λvs H1=> ∀x dx,H1 x=none ->H1 dx=none ->dx≠x ->sp (.ref x::(vs++wM)) (cK (cK H1 dx (.own x)) x (.ins C dx [])) (λv H2=>v= .d3 /\ Q (.ref x) H2) E
def Binds (K:WV)(fd:FuncData)(ps:cA Str)(ds:cA c7):Prop:=∀ (s:dz) (us:cA c7),K.In s.heap ->(us++ds).length=ps.length ->BindsTo s fd #[us,[]] (ps.zip (us++ds))
theorem Binds.all {K:WV}(h: ∀us:cA c7,us.length=ps.length ->bindArgs fd #[us,[]]=pure (ps.zip us)):Binds K fd ps []:=λs us _ hl=>by rw[dI] at hl ⊢;show .of_eq (h us hl)
def g_ (CX:B9)(X:Cx)(E:XK):Prop:= ∀ (ah:cA (fP×Obj)) (σ:St) (H:Hp) (s:dz) (e:c7) (s':dz),Inv X ah σ H s ->CX X.stack H s E e s' ->X.xe e s'
section
variable {X:Cx}{CX:B9}{k:Nat}{f C:fP}{fd:FuncData}{ps:cA Str}{sp:Sp}{wM:cA V}{ds:cA c7}{E:XK}{x m:Str}{p pos dH:Pos}{e o:Expr}{es:cA Expr}{ta:TE}{t:TA}
def Ct {σ:St}(F:bD X.prog X.w X.K X.mg X.base CX k f fd ps sp)(hr:eR k X.A)(hb:Binds X.K fd ps ds)(hd:cb wM ds)(hx:g_ CX X E)(I:Inv X ah σ H s)(r:cb vs us)(h:sp (vs++wM) H Q E):wpAny (model X.prog X.w) X.A (call (.ref f) us) (EP X ah σ Q) X.xe s:=by
 have r2:cb (vs++wM) (us++ds):=r.append hd;have hl:(us++ds).length=ps.length:=by rw[<- r2.length];show F.len _ _ _ _ h
 exact wpAny_call (codeAny_mono (F.run X.A X.stack s H #[us,[]] (us++ds) (vs++wM) Q E hr I.Oa (hb s us I.nz hl) r2 h) λr s' hq=> ?_);cases r with
 | error e=>show hx ah σ H s e s' I hq
 | ok fl=>
  cases fl with
  | ret u=>show I.after hq
  | next=>show False.elim hq
  | brk=>show False.elim hq
  | cont=>show False.elim hq
def Ev (F:bD X.prog X.w X.K X.mg X.base CX k f fd ps sp)(hr:eR k X.A)(hg:Gl X x)(hm:X.mg x=some (.ref f))(hk:W.keepIn X.K (.ref f)=true)(hb:Binds X.K fd ps ds)(hd:cb wM ds)(hx:g_ CX X E) (ha:PA X (e::es) t) (xE:(x==("__debug__" :Str))=false:=by decide) (he:starEach (e::es) X.env=(false,eval e X.env)::starEach es X.env:=by rfl) (qh:(backTo pos (starEach es X.env)).any (·.1)=false:=by rfl): PE X (.Call (.Name x p) (e::es) [] pos) (xg sp wM E t):=by intro ah s σ H Q I h;exact wpAny_Call_Name_kw (pi I hg hm ?_ xE);exact W.callWith_K (h₀:=X.base) I.ok.mod.PY hk (cV (ha pos ah s σ H _ I h) λus s1 ⟨vs,H1,I1,r,q⟩=>#[I1.nz,?_]) he qh;show Ct F hr hb hd hx I1 r q
theorem Eu {pl:Sem Bool}(he:PE X o ta)(c:wW X.K C)(hm:Li X.K C m f)(F:bD X.prog X.w X.K X.mg X.base CX k f fd ps sp)(hr:eR k X.A)(hb:Binds X.K fd ps ds)(hd:cb wM ds)(hx:g_ CX X E)(ha:PA X (e::es) t) (uk:starEach (e::es) X.env=(false,eval e X.env)::starEach es X.env:=by rfl) (qh:(backTo pos (starEach es X.env)).any (·.1)=false:=by rfl) (ht:eval (.Call (.Attribute o m dH) (e::es) [] pos) X.env=(do
   let ov <- eval o X.env
   standAt dH.atName
   let (f,first) <- holding [ov] (getMethod ov m pl)
   callWith pos f first (backTo pos (starEach (e::es) X.env)) (backToKw pos (keywordEach [] X.env))):=by rfl):
  PE X (.Call (.Attribute o m dH) (e::es) [] pos) (rF C m sp wM E ta t):=by
 intro ah s σ H Q I h
 exact W.methodCall_KW (pl:=pl) (cV (he ah s σ H _ I h) λu s1 ⟨x,H1,I1,rx,a,dx,fs,ex,ea,l,q⟩=> ?_) ht
 subst ex
 obtain rfl:u=Value.ref a:=rx
 exact j9 I1 ea c hm l ?_
 exact W.callWith_K (first:= [.ref a]) (h₀:=X.base) I.ok.mod.PY hm.kp (cV (ha pos ah s1 σ H1 _ I1 q) λus s2 ⟨vs,H2,I2,r,q2⟩=>#[I2.nz,?_]) uk qh
 show Ct (us:= .ref a::us) (vs:= .ref a::vs) F hr hb hd hx I2 (.cons rfl r) q2
theorem Ax (he:PE X o ta)(c:wW X.K C)(hm:Li X.K C m f)(F:bD X.prog X.w X.K X.mg X.base CX k f fd ps sp)(hr:eR k X.A)(hb:Binds X.K fd ps ds)(hd:cb wM ds)(hx:g_ CX X E)(ht:eval (.Call (.Attribute o m dH) [] [] pos) X.env=(do
   let ov <- eval o X.env
   standAt dH.atName
   let (f,first) <- holding [ov] (getMethod ov m pl)
   callWith pos f first (backTo pos (starEach [] X.env)) (backToKw pos (keywordEach [] X.env))):=by rfl):
  PE X (.Call (.Attribute o m dH) [] [] pos) (rF C m sp wM E ta FQ):=by
 intro ah s σ H Q I h
 exact W.methodCall_KW (pl:=pl) (cV (he ah s σ H _ I h) λu s1 ⟨x,H1,I1,rx,a,dx,fs,ex,ea,l,q⟩=> ?_) ht
 subst ex
 obtain rfl:u=Value.ref a:=rx
 exact j9 I1 ea c hm l ?_
 show W.callWith_K0 (first:= [.ref a]) I1.nz hm.kp (Ct (us:= [.ref a]) (vs:= [.ref a]) F hr hb hd hx I1 (.cons rfl .nil) q)
structure Mk (K:PySem.W.Frag)(C f:Addr):Prop where
 makes:PySem.W.makesIn K C=true
 init:PySem.W.findIn K (.ref C) "__init__" =some (some (.ref f))
 fn:PySem.W.isFn K (.ref f)=true
 kp:PySem.W.keepIn K (.ref C)=true
def IH {σ:St}(M:Mk X.K C f)(F:bD X.prog X.w X.K X.mg X.base CX k f fd ps sp)(hr:eR (k+1) X.A)(hb:Binds X.K fd ps ds)(hd:cb wM ds)(hx:g_ CX X E)(I:Inv X ah σ H s)(r:cb vs us)(h: ∀x dx,H x=none ->H dx=none ->dx≠x ->sp (.ref x::(vs++wM)) (cK (cK H dx (.own x)) x (.ins C dx [])) (λv H2=>v= .d3 /\ Q (.ref x) H2) E): wpAny (model X.prog X.w) X.A (call (.ref C) us) (EP X ah σ Q) X.xe s:=by
 have hq:=h (s.heap.objs.size+1) s.heap.objs.size (I.cN.fresh (Nat.le_succ _)) (I.cN.fresh (aq _)) (bA (Nat.lt_succ_self _));have I2:=Inv.made (C:=C) I;have r2:cb (V.ref (s.heap.objs.size+1)::(vs++wM)) (Value.ref (s.heap.objs.size+1)::(us++ds)):= .cons rfl (r.append hd);have hl:(Value.ref (s.heap.objs.size+1)::us++ds).length=ps.length:=by have e:=r2.length;rw[F.len _ _ _ _ hq] at e;show e.symm
 exact wpAny_call (JG (f:=f) I.nz M.makes M.init (beq_iff_eq.mp M.fn) (codeAny_mono (F.run _ X.stack _ _ #[Value.ref (s.heap.objs.size+1)::us,[]] (Value.ref (s.heap.objs.size+1)::(us++ds)) _ _ E (hr.make C us []) (I2.Oa.make C us []) (hb _ (Value.ref (s.heap.objs.size+1)::us) I2.nz hl) r2 hq) λr s' Xa=> ?_));cases r with
 | error e=>show hx ah σ _ _ e s' I2 Xa
 | ok fl=>
  cases fl with
  | ret u=>let⟨v,H',I3,rv,ev,q3⟩:=I2.after Xa;subst ev;show#[rv,#[V.ref (s.heap.objs.size+1),H',I3,rfl,q3]]
  | next=>show False.elim Xa
  | brk=>show False.elim Xa
  | cont=>show False.elim Xa
def MM (M:Mk X.K C f)(F:bD X.prog X.w X.K X.mg X.base CX k f fd ps sp)(hr:eR (k+1) X.A)(hg:Gl X x)(hm:X.mg x=some (.ref C))(hb:Binds X.K fd ps ds)(hd:cb wM ds)(hx:g_ CX X E) (ha:PA X (e::es) t) (xE:(x==("__debug__" :Str))=false:=by decide) (he:starEach (e::es) X.env=(false,eval e X.env)::starEach es X.env:=by rfl) (qh:(backTo pos (starEach es X.env)).any (·.1)=false:=by rfl): PE X (.Call (.Name x p) (e::es) [] pos) (Ie C sp wM E t):=by intro ah s σ H Q I h;exact wpAny_Call_Name_kw (pi I hg hm ?_ xE);exact W.callWith_K (h₀:=X.base) I.ok.mod.PY M.kp (cV (ha pos ah s σ H _ I h) λus s1 ⟨vs,H1,I1,r,q⟩=>#[I1.nz,?_]) he qh;show IH M F hr hb hd hx I1 r q
end
structure cf (N P:List Str)(sc:Scope):Prop where
 kind:sc.kind= .function
 co:sc.isCoroutine=false
 gen:sc.isGenerator=false
 nd:N.Nodup
 pre:N.take P.length=P
 par: ∀x∈P,sc.names.lookup x=some .local \/ sc.names.lookup x=some .cell
 R_: ∀y∈sc.names,y.2≠ .free
theorem yc {kindOf:Str ->e9 NameKind}{x:Str}: ∀ {binds:cA (Str×c7)} {m:Str ->e9 c7},(∀v,(x,v)∉binds) ->bindL kindOf binds m x=m x
 | [],_,_=>rfl
 | (n,v)::r,m,h=>by
  unfold bindL;rw[yc λw hw=>h w (dg _ hw)];split;have:x≠n:=by rintro rfl;show h v List.mem_cons_self
  simp[this];rfl
theorem ye {kindOf:Str ->e9 NameKind}{x:Str}: ∀ {binds:cA (Str×c7)} {m:Str ->e9 c7},(∀v,(x,v)∉binds) ->bindC kindOf binds m x=m x
 | [],_,_=>rfl
 | (n,v)::r,m,h=>by
  unfold bindC;rw[ye λw hw=>h w (dg _ hw)];split;rfl;have:x≠n:=by rintro rfl;show h v List.mem_cons_self
  simp[this]
theorem yd {kindOf:Str ->e9 NameKind}{x:Str}{v:c7}: ∀ {P:cA Str} {vs:cA c7} {i:Nat} {m:Str ->e9 c7},P.Nodup ->P[i]? =some x ->vs[i]? =some v ->kindOf x=some .local ->bindL kindOf (P.zip vs) m x=some v
 | [],_,_,_,_,h,_,_=>by simp at h
 | _::_,[],_,_,_,_,h,_=>by simp at h
 | p::P,w::vs,0,m,nd,h1,h2,hk=>by simp at h1 h2;subst h1;subst h2;change bindL kindOf ((p,w)::P.zip vs) m p=_;unfold bindL;rw[yc λv hv=>(List.nodup_cons.mp nd).1 (List.of_mem_zip hv).1,ao hk];simp
 | p::P,w::vs,i+1,m,nd,h1,h2,hk=>by change bindL kindOf ((p,w)::P.zip vs) m x=_;unfold bindL;show yd (i:=i) (List.nodup_cons.mp nd).2 ⇑h1 ⇑h2 hk
theorem yf {kindOf:Str ->e9 NameKind}{x:Str}{v:c7}: ∀ {P:cA Str} {vs:cA c7} {i:Nat} {m:Str ->e9 c7},P.Nodup ->P[i]? =some x ->vs[i]? =some v ->kindOf x≠some .local ->bindC kindOf (P.zip vs) m x=some v
 | [],_,_,_,_,h,_,_=>by simp at h
 | _::_,[],_,_,_,_,h,_=>by simp at h
 | p::P,w::vs,0,m,nd,h1,h2,hk=>by simp at h1 h2;subst h1;subst h2;change bindC kindOf ((p,w)::P.zip vs) m p=_;unfold bindC;rw[ye λv hv=>(List.nodup_cons.mp nd).1 (List.of_mem_zip hv).1,ak hk];simp
 | p::P,w::vs,i+1,m,nd,h1,h2,hk=>by change bindC kindOf ((p,w)::P.zip vs) m x=_;unfold bindC;show yf (i:=i) (List.nodup_cons.mp nd).2 ⇑h1 ⇑h2 hk
def start (N:cA Str)(vs:cA V):St:=vs.map some++List.replicate (N.length - vs.length) none
def eI (CX:B9)(P:Program)(w:World)(K:WV)(mg:Str ->e9 c7)(base:Heap)(N:cA Str)(qual:Str)(scope:Scope)(f:fP)(cd:c7)(A:Around)(outer:cA Env)(s:dz)(H:Hp)(E:XK):Cx where
 prog:=P
 w:=w
 K:=K
 mg:=mg
 base:=base
 A:=A.deeper (envOfC qual scope s.heap.objs.size f cd)
 N:=N
 s₀:=s
 H₀:=H
 env:=envOfC qual scope s.heap.objs.size f cd
 outer:=outer
 stack:=envOfC qual scope s.heap.objs.size f cd::outer
 ex:= []
 calm:=true
 fn:=λ_=>true
 pn:= []
 xe:=λe s'=>wpAny (model P w) (A.deeper (envOfC qual scope s.heap.objs.size f cd)) (leaving (envOfC qual scope s.heap.objs.size f cd) e) (λ_ s''=>CX outer H s E e s'') (λe' s''=>CX outer H s E e' s'') s'
def By {sc:Scope}(h:sc.names.lookup x=some .cell): ∃c,(cellsFrom n sc.names []).lookup x=some c:=by have q:=W.cellsFrom_some sc.names n [] (.inl h);show Option.isSome_iff_exists.mp q
def GH {K:WV}(S:cf N ps scope)(hd:A.handled=none)(e0:Dz P w K mg base A outer s H)(hl:vs.length=ps.length)(r:cb vs us)(x:InCallC s s.heap.objs.size (bindL (envOfC qual scope s.heap.objs.size f cd).kindOf (ps.zip us) λ_=>none) (cellsFrom (s.heap.objs.size+1) scope.names []) (bindC (envOfC qual scope s.heap.objs.size f cd).kindOf (ps.zip us) λ_=>none) s1): Inv (eI CX P w K mg base N qual scope f cd A outer s H E) [] (start N vs) H s1:=by
 have qh:ps.length<=N.length:=by have:=congrArg List.length S.pre;rw[bP] at this;lia
 let⟨h1,tk,rfl,hk⟩:=x.done;have PD: ∀b:fP,b∉(eI CX P w K mg base N qual scope f cd A outer s H E).ex:=λb z=>absurd (show b∈([]:cA fP) from z) (by simp);exact#[#[e0.mod,S.kind,rfl,rfl,aq _,λy z c h1 h2=> ?_,λy hy=> ?_,λy c _ h=> ?_,λ_=>hd,Around.frames_deeper e0.frames, .inr #[rfl,rfl],λb z=>absurd z (PD b),e0.bs,e0.K6,λb _ _=>PD b,λb z=>absurd z (PD b),e0.n9,e0.L3],
  rfl,e0.bare,Un.kept hk,#[_,x.toInCall.ns,λi y v h1 h2 h3=> ?_],λy c h=>#[_,x.cell y c h],e0.cN.fresh (aq _),λy c h=> ?_,λp hp=>absurd (show p∈([]:cA (fP×Obj)) from hp) (by simp),e0.cN.kept hk,?_]
 show name_of_addr x.apart (dA h1) (dA h2);have hy:scope.names.lookup y=some .cell \/ scope.names.lookup y=some .free:=hy;obtain hy | hy:=hy;show By hy;show absurd rfl (S.R_ _ (dA hy));show Nat.le_of_lt (x.above y c (dA h));have hi:i<vs.length:=by unfold start at h2;by_cases hi:i<vs.length;show hi;rw[bf ⇑hi] at h2;rw[dh] at h2;split at h2<;>cases h2
 have ha:vs[i]? =some v:=by
  unfold start at h2;rw[bn ⇑hi,aI] at h2;cases e:vs[i]? with
  | none=>rw[e] at h2;cases h2
  | some a=>rw[e] at h2;cases h2;rfl
 let⟨u,hu,rv⟩:=r.get ha;have hp:ps[i]? =some y:=by rw[<- S.pre,List.getElem?_take_of_lt ∅];show h1
 have ndP:ps.Nodup:=by rw[<- S.pre];show S.nd.sublist (List.take_sublist _ _)
 exact#[u,rv,?_];obtain k | k:=S.par y (aV hp);show .inl #[k,yd ndP hp hu k];let⟨c,e⟩:=By (n:=s.heap.objs.size+1) k;exact .inr #[.inl k,c,e,?_];have q:=x.cell y c e;rw[yf ndP hp hu (by change scope.names.lookup y≠_;rw[k];decide)] at q;show q;show e0.cN.fresh (Nat.le_of_lt (x.above y c (dA h)));unfold start;change _=N.length;rw[aD,af,List.length_replicate];lia
def Qo {K:WV}{dV kV jq pm cdv ct oc:c7}(lk:K.lookup f=some #[oc,od, .func (W.fnOf name qual params body scope dV kV jq pm an cdv ct),CB])(E5:W.codeIn K cdv qual=true)(S:cf N ps scope)(len: ∀vs H Q E,sp vs H Q E ->vs.length=ps.length)(jN: ∀ (A:Around) (outer:cA Env) (s:dz) (H:Hp) (vs:cA V) (Q:VK) (E:XK),eR k (A.deeper (envOfC qual scope s.heap.objs.size f cdv)) ->sp vs H Q E ->∃t,zS (eI CX P w K mg base N qual scope f cdv A outer s H E) body t /\ t {nx:=λ_ H'=>Q .d3 H',rt:=Q} (start N vs) H): bD P w K mg base CX (k+1) f (W.fnOf name qual params body scope dV kV jq pm an cdv ct) ps sp:=by
 exact#[len,λA outer s H args us vs Q E hr e0 hb r wq=> ?_];have hl:=len _ _ _ _ wq;have KX:K.In s.heap:=e0.mod.PY.keeps λb o e=>(e0.bs b o e).1;have lim:s.heap.NoLimit:=e0.mod.nolimit.keeps λb o e=>(e0.bs b o e).1;have Xi: ∀y∈ps.zip us,scope.names.lookup y.1=some .local \/ (scope.names.lookup y.1=some .cell /\ ((cellsFrom (s.heap.objs.size+1) scope.names []).lookup y.1).isSome=true):=λ⟨n,v⟩ hy=>by obtain q | q:=S.par n (List.of_mem_zip hy).1;show .inl q;show .inr #[q,W.cellsFrom_some _ _ _ (.inl q)]
 exact codeAny_call_function hr.depth (KX _ _ lk) rfl S.co S.gen rfl (W.codeRec_of KX E5) (hb _ _ _ _ ?_);exact wpAny_newFunctionEnv_cells S.kind Xi λenv he s1 x=> ?_;subst he;exact#[lim.keeps x.toInCall.keep,codeAny_func ?_];let⟨t,ht,hq⟩:=jN A outer s H vs Q E (hr.deeper _) wq;have I:Inv (eI CX P w K mg base N qual scope f cdv A outer s H E) [] (start N vs) H s1:=GH S hr.hd e0 hl r x;exact bE (ht [] s1 (start N vs) H _ I hq) (λfl s' hs=> ?_) λe s' hs=>hs;have fin: ∀ {σ':St} {H':Hp} {v:V} {u:c7},Inv (eI CX P w K mg base N qual scope f cdv A outer s H E) [] σ' H' s' ->RelV v u ->Q v H' ->CE outer P w H s Q u s':=λ{σ' H' v u} J rv q=>#[v,H',J.os,J.bare,J.base,J.cN,rv,q]
 cases fl with
 | ret u=>let⟨v,σ',H',J,rv,q⟩:=hs;show fin J rv q
 | next=>let⟨σ',H',J,q⟩:=hs;show fin (v:=V.d3) (u:=Value.none) J rfl q
 | brk=>let⟨_,_,_,q⟩:=hs;show False.elim q
 | cont=>let⟨_,_,_,q⟩:=hs;show False.elim q
section
variable {X:Cx}{x:Str}{p pos:Pos}{e:Expr}{es:cA Expr}{t:TA}{id T:String}{r:cA V ->Hp ->VK ->Prop}
def _X (r:cA V ->Hp ->VK ->Prop)(t:TA):TE:=λσ H Q=>t σ H λvs H1=>r vs H1 Q
def bh (hc:fB X (.builtin id) r)(hg:Gl X x)(hm:X.mg x=none)(hv:bootBuiltins x=some (.builtin id))(ha:PA X (e::es) t)(hn:x≠ "__name__" :=by decide)(xE:(x==("__debug__" :Str))=false:=by decide) (he:starEach (e::es) X.env=(false,eval e X.env)::starEach es X.env:=by rfl) (qh:(backTo pos (starEach es X.env)).any (·.1)=false:=by rfl):PE X (.Call (.Name x p) (e::es) [] pos) (_X r t):=by intro ah s σ H Q I h;exact wpAny_Call_Name_kw (zc I hg hm hv ?_ hn xE);show PyProof.Rows.callWith_builtin1 (cV (ha pos ah s σ H _ I h) λus s1 ⟨vs,H1,I1,r1,q1⟩=>hc ah s1 σ H1 vs us Q I1 r1 q1) he qh
def ca (hc:fB X (.type T) r)(hg:Gl X x)(hm:X.mg x=none)(hv:bootBuiltins x=some (.type T))(ha:PA X (e::es) t)(hn:x≠ "__name__" :=by decide)(xE:(x==("__debug__" :Str))=false:=by decide) (he:starEach (e::es) X.env=(false,eval e X.env)::starEach es X.env:=by rfl) (qh:(backTo pos (starEach es X.env)).any (·.1)=false:=by rfl):PE X (.Call (.Name x p) (e::es) [] pos) (_X r t):=by intro ah s σ H Q I h;exact wpAny_Call_Name_kw (zc I hg hm hv ?_ hn xE);show PyProof.Rows.callWith_type1 (cV (ha pos ah s σ H _ I h) λus s1 ⟨vs,H1,I1,r1,q1⟩=>hc ah s1 σ H1 vs us Q I1 r1 q1) he qh
end
end L2
namespace HT
open PySem PyProof.Rows
def Oj (ht:IsTup s.heap t vs.toArray)(hb:IsTup s.heap b ws.toArray)(hv:vs≠ [])(h1:ws= [] ->Q (.ref t) s)(h2:ws≠ [] ->Q (.ref s.heap.objs.size) {s with heap:=s.heap.push {cls:= .type "tuple",data:= .seq (vs++ws).toArray}})(hsz:vs.length+ws.length<=sizeLine):wpAny (model prog w) A (binaryOp .Add (.ref t) (.ref b)) Q E s:=by
 let⟨⟨cls,dd,data,sl⟩,ho,hc,n,hd⟩:=id ht;let⟨⟨ahE,ZL,data2,Pc⟩,SY,GP,n2,hd2⟩:=id hb;simp only at hc hd GP hd2;subst hc hd GP hd2;have e:vs.toArray++ws.toArray=(vs++ws).toArray:=by simp
 by_cases hw:ws= []
 show concat_meets #[_,ho,rfl] #[_,SY,rfl] noFill_tuple_add seq_tuple_add PySem.F.slot_tuple_add PySem.F.entry_tuple_add (PySem.F.args_tuple_add_2 _ _) (tuple_addW1 t b vs.toArray ws.toArray n n2 dd ZL sl Pc ⇑hv (by simp[hw])) #[ho,SY,h1 hw];exact concat_meets #[_,ho,rfl] #[_,SY,rfl] noFill_tuple_add seq_tuple_add PySem.F.slot_tuple_add PySem.F.entry_tuple_add (PySem.F.args_tuple_add_2 _ _) (tuple_addW2 t b vs.toArray ws.toArray n n2 dd ZL sl Pc ⇑hv ⇑hw (by rw[aM,aM];show hsz)) #[ho,SY,?_];rw[e];show h2 hw
def ub (n d:Nat):e9 Int ->Nat
 | none=>d
 | some v=>if v<0 then(v+(n:Int)).toNat else min v.toNat n
end HT
namespace L2
open PySem PySem.Spec PyProof.Rows
abbrev TO:=St ->Hp ->(e9 Int ->Hp ->Prop) ->Prop
def PO (X:Cx)(e:e9 Expr)(t:TO):Prop:=∀ (ah:cA (fP×Obj)) (s:dz) (σ:St) (H:Hp) (Q:e9 Int ->Hp ->Prop),Inv X ah σ H s ->t σ H Q ->wpAny (model X.prog X.w) X.A (evalPart e X.env) (λu s'=>cg λo H'=>cW (Inv X ah σ H' s') (IsPart u o) (Q o H')) X.xe s
def DP:TO:=λ_ H Q=>Q none H
def O6 (t:TE):TO:=λσ H Q=>t σ H λx H1=> ∃i,x= .int i /\ Q (some i) H1
section
variable {X:Cx}{e:Expr}{te:TE}{lo hi:e9 Expr}{tl th:TO}{pos p2:Pos}
def oY:PO X none DP:=by intro ah s σ H Q I h;rw[evalPart_none];show a_ #[none,H,I, .none,h]
def oX (h:PE X e te):PO X (some e) (O6 te):=by intro ah s σ H Q I hw;rw[evalPart_some];exact cV (h ah s σ H _ I hw) λu s1 ⟨x,H1,I1,r1,q1⟩=> ?_;let⟨i,rfl,q⟩:=q1;let⟨t,rfl⟩:=r1;show#[some i,H1,I1, .int i t,q]
def SlR (X:Cx)(r:V ->e9 Int ->e9 Int ->Hp ->VK ->Prop):Prop:=∀ (ah:cA (fP×Obj)) (s:dz) (σ:St) (H:Hp) (x:V) (v vl vu:c7) (lo hi:e9 Int) (sl:fP) (Q:VK),Inv X ah σ H s ->RelV x v ->s.heap.IsSliceOf sl vl vu .none ->IsPart vl lo ->IsPart vu hi ->r x lo hi H Q ->cg λT id=>cW (typeLookup (.type T) "__getitem__" =pure (some (.builtin id))) (s.TypeIs v T) (wpAny (model X.prog X.w) X.A (getItem v (.ref sl)) (EP X ah σ Q) X.xe s)
def tSl (r:V ->e9 Int ->e9 Int ->Hp ->VK ->Prop)(te:TE)(tl th:TO):TE:=λσ H Q=>te σ H λx H1=>tl σ H1 λl H2=>th σ H2 λu H3=>r x l u H3 Q
def lL (hr:SlR X r)(he:PE X e te)(hl:PO X lo tl)(hu:PO X hi th):PE X (.Subscript e (.Slice lo hi none p2) pos) (tSl r te tl th):=by intro ah s σ H Q I h;exact Subscript_ (cV (he ah s σ H _ I h) λv s1 ⟨x,H1,I1,r1,q1⟩=> ?_);exact wpAny_Slice (cV (hl ah s1 σ H1 _ I1 q1) λvl s2 ⟨l,H2,I2,pl,q2⟩=>cV (hu ah s2 σ H2 _ I2 q2) λvu s3 ⟨u,H3,I3,pu,q3⟩=> ?_);rw[evalPart_none];exact a_ ?_;have I4:Inv X ah σ H3 {s3 with heap:=s3.heap.push {cls:= .type "slice",data:= .fields (List.toArray [vl,vu, .none])}}:=I3.kept (t':=s3.toks) λb ob q=>av _ q;let⟨T,id,hT,ht,hg⟩:=hr ah {s3 with heap:=s3.heap.push {cls:= .type "slice",data:= .fields (List.toArray [vl,vu, .none])}} σ H3 x v vl vu l u s3.heap.objs.size Q I4 r1 (Heap.IsSliceOf.new ..) pl pu q3;change wpAny (model X.prog X.w) X.A (subscriptTail e (.Slice lo hi none p2) v (.ref s3.heap.objs.size)) (EP X ah σ Q) X.xe {s3 with heap:=s3.heap.push {cls:= .type "slice",data:= .fields (List.toArray [vl,vu, .none])}};show tail_any (ops:= [.ref s3.heap.objs.size,v]) ht hT hg (by with_unfolding_all rfl)
def Bv (xs:cA V)(lo hi:e9 Int):cA V:=(xs.drop (HT.ub xs.length 0 lo)).take (HT.ub xs.length xs.length hi - HT.ub xs.length 0 lo)
def Bu (xs:cA V)(lo hi:e9 Int):(Bv xs lo hi).length<=xs.length:=by unfold Bv;rw[bP,List.length_drop];lia
def VW (K:WV):R2:=λx y H Q=>fY λa b xs ys=>BG (x= .ref a) (y= .ref b) (k7 K H a xs) (k7 K H b ys) (xs≠ []) (xs.length+ys.length<=sizeLine) (ys= [] ->Q (.ref a) H) (ys≠ [] -> ∀p,H p=none ->Q (.ref p) (cK H p (.tup (xs++ys))))
def cb.j6 (r:cb xs us):us= []↔xs= []:=by
 cases r with
 | nil=>simp
 | cons _ _=>simp
def Na:i6 X (binaryOp .Add) (VW X.K):=by intro ah s σ H x y v u Q I rx ry h;let⟨a,b,xs,ys,rfl,rfl,ha,hb,hx,hz,q1,q2⟩:=h;cases rx;cases ry;let⟨bJ,r1,p1,_⟩:=I.tuple ha;let⟨zg,r2,p2,_⟩:=I.tuple hb;exact HT.Oj p1 p2 (λz=>hx (r1.j6.mp z)) (λz=>#[.ref a,H,I,rfl,q1 (r2.j6.mp z)]) (λz=> ?_) (by rw[<- r1.length, <- r2.length];show hz);exact#[.ref s.heap.objs.size,_,I.laid (t':=s.toks) (o:= .tup (xs++ys)) (λb ob q=>av _ q) (aq _) ?_,rfl,q2 (λw=>z (r2.j6.mpr w)) _ (I.cN.fresh (aq _))];show#[by rw[aD];show hz,_,r1.append r2,zI.new _ _]
end
def AX (n:Nat)(i:Int):e9 Nat:=if 0<=i then(if i<n then some i.toNat else none) else if -(n:Int) <=i then some (i+n).toNat else none
def gP {α:Type}(xs:cA α)(i:Int):e9 α:=(AX xs.length i).bind λj=>xs[j]?
def EX (h:AX n i=some j): seqIndex? i n=some j /\ j<n /\ -(n:Int) <=i /\ i<n:=by unfold AX at h;by_cases h0:0<=i;rw[ao h0] at h;by_cases h1:i<n;rw[ao h1] at h;have e:i.toNat=j:=bu h;show#[by rw[seqIndex_of h0 h1,e], ∅, ∅,h1];rw[ak h1] at h;cases h;rw[ak h0] at h;by_cases h1: -(n:Int) <=i;rw[ao h1] at h;have e:(i+n).toNat=j:=bu h;show#[by rw[seqIndex_neg ∅ h1,e], ∅,h1, ∅];rw[ak h1] at h;cases h
def zD {v:α}(h:gP xs i=some v): ∃j,gm (seqIndex? i xs.length=some j) (xs[j]? =some v) (j<xs.length) (-(xs.length:Int) <=i) (i<xs.length):=by
 unfold gP at h;cases e:AX xs.length i with
 | none=>rw[e] at h;cases h
 | some j=>rw[e] at h;let⟨h1,h2,h3,h4⟩:=EX e;show#[j,h1,h,h2,h3,h4]
def fN {j:Nat}{v:α}(h:xs[j]? =some v):gP xs (j:Int)=some v:=by
 have hj:j<xs.length:=(bv.mp h).1;have e:AX xs.length (j:Int)=some j:=by unfold AX;rw[ao ∅,ao ∅];simp
 unfold gP;rw[e];show h
def OA (b:Expr):Prop:= ∀o i,subscripted b false o i=operate [o,i] (getItem o i)
def UG (X:Cx)(r:R2):Prop:=∀ (value slice:Expr) (ah:cA (fP×Obj)) (s:dz) (σ:St) (H:Hp) (x y:V) (v u:c7) (Q:VK),Inv X ah σ H s ->RelV x v ->RelV y u ->r x y H Q ->subscripted slice false v u=operate [v,u] (getItem v u) ->wpAny (model X.prog X.w) X.A (subscriptTail value slice v u) (EP X ah σ Q) X.xe s
def Hu (X:Cx)(id:String)(r:V ->cA V ->Hp ->VK ->Prop):Prop:=∀ (ah:cA (fP×Obj)) (s:dz) (σ:St) (H:Hp) (x:V) (xs:cA V) (v:c7) (us:cA c7) (Q:VK),Inv X ah σ H s ->RelV x v ->cb xs us ->r x xs H Q ->wpAny (model X.prog X.w) X.A (call (.builtin id) (v::us)) (EP X ah σ Q) X.xe s
section
variable {X:Cx}{a b:Expr}{ta tb:TE}{pos:Pos}
def uP (hr:UG X r)(ha:PE X a ta)(hb:PE X b tb)(hs:OA b):PE X (.Subscript a b pos) (Vs r ta tb):=by intro ah s σ H Q I h;show Subscript_ (Tw ha hb I h λv u s2 x y H2 I2 rx ry q=>hr a b ah s2 σ H2 x y v u Q I2 rx ry q (hs _ _))
def Ry (K:WV):R2:=λx y H Q=>fY λp xs i v=>gm (x= .ref p) (y= .int i) (g0 K H p xs) (gP xs i=some v) (Q v H)
def Rx (K:WV):R2:=λx y H Q=>fY λp xs i v=>gm (x= .ref p) (y= .int i) (k7 K H p xs) (gP xs i=some v) (Q v H)
def VT:R2:=λx y H Q=>eQ λz i c=>gm (x= .str z) (y= .int i) (z.length<=sizeLine) (gP z.cps.toList i=some c) (Q (.str ⟨#[c]⟩) H)
def NI:UG X (Ry X.K):=by
 intro value slice ah s σ H x y v u Q I rx ry h hs;let⟨p,xs,i,z,rfl,rfl,hq,he,q⟩:=h;cases rx;let⟨t,rfl⟩:=ry;let⟨bJ,r,pl,hz⟩:=I.list hq;let⟨j,h1,h2,h3,h4,h5⟩:=zD he;let⟨w,ew,yG⟩:=r.get h2;have hl:=r.length;have hn:=nY;have fin:EP X ah σ Q w s:=#[z,H,I,yG,q]
 by_cases h0:0<=i;have hj:i.toNat=j:=by rw[seqIndex_of h0 h5] at h1;show bu h1
 show item_listR pl.isList h0 ∅ (by rw[hj];simpa using ew) fin hs;have hj:(i+(bJ.toArray.size:Int)).toNat=j:=by rw[seqIndex_neg ∅ h4] at h1;rw[aM, <- hl];show bu h1
 show subscriptTail_builtinR (x:=w) pl.isList.typeIs slot_list_getitem.lookup (wpAny_getItem_list_neg (Q:=λr s'=>r=w /\ EP X ah σ Q r s') pl.isList ∅ (by rw[aM] <;>lia) ∅ (by rw[hj];simpa using ew) #[rfl,fin]) hs
def zf:UG X (Rx X.K):=by
 intro value slice ah s σ H x y v u Q I rx ry h hs;let⟨p,xs,i,z,rfl,rfl,hq,he,q⟩:=h;cases rx;let⟨t,rfl⟩:=ry;let⟨bJ,r,pl,hz⟩:=I.tuple hq;let⟨j,h1,h2,h3,h4,h5⟩:=zD he;let⟨w,ew,yG⟩:=r.get h2;have hl:=r.length;have hn:=nY;have fin:EP X ah σ Q w s:=#[z,H,I,yG,q]
 show subscriptTail_builtinR (x:=w) pl.typeIs slot_tuple_getitem.lookup (getItem_tuple (j:=j) (Q:=λr s'=>r=w /\ EP X ah σ Q r s') pl ∅ ∅ (by rw[aM, <- hl];show h1) ⇑ew #[rfl,fin]) hs
def J1:UG X VT:=by
 intro value slice ah s σ H x y v u Q I rx ry h hs;let⟨z,i,c,rfl,rfl,hz,he,q⟩:=h;let⟨t,rfl⟩:=rx;let⟨t',rfl⟩:=ry;let⟨j,h1,h2,h3,h4,h5⟩:=zD he;have hl:z.cps.toList.length=z.length:=by simp[Str.length]
 rw[hl] at h1 h4 h5;have hn:=nY;show tail_any (typeIs_str s z t) slot_str_getitem.lookup (getItem_str (c:=c) (by have e1:decide (i< -(2 ^ 63:Int))=false:=aF ∅;have e2:decide (i≥2 ^ 63)=false:=aF ∅;rw[e1,e2,Bool.or_false]) (by rw[h1];simpa using h2) #[.str ⟨#[c]⟩,H,I.tok _,#[_,rfl],q]) hs
def CM (bJ:cA c7)(n j:Nat)(u:c7):Obj.mapSeq (·.setIfInBounds j u) {cls:= .type "list",data:= .seq bJ.toArray n}= {cls:= .type "list",data:= .seq (bJ.set j u).toArray n}:=by simp[Obj.mapSeq]
def Inv.lst {ah:cA (fP×Obj)}{σ:St}{H:Hp}{s:dz}{p:fP}{xs:cA V}(I:Inv X ah σ H s)(h:H p=some (.lst xs)): cg λ(bJ:cA c7) (n:Nat)=>cW (cb xs bJ) (s.heap.get? p=some {cls:= .type "list",data:= .seq bJ.toArray n}) (xs.length<=sizeLine):=by let⟨z,bJ,n,r,e⟩:=I.cN p _ h;show#[bJ,n,r,e,z]
def Inv.Si {σ:St}{bJ its':cA c7}(I:Inv X ah σ H s)(h:H p=some (.lst xs))(ho:s.heap.get? p=some {cls:= .type "list",data:= .seq bJ.toArray n})(hf:f {cls:= .type "list",data:= .seq bJ.toArray n}= {cls:= .type "list",data:= .seq its'.toArray n'})(r:cb ys its')(hz:ys.length<=sizeLine)(t:Nat): Inv X ah σ (cK H p (.lst ys)) {s with heap:=s.heap.update p f,toks:=t}:=by
 have e:(s.heap.update p f).get? p=some {cls:= .type "list",data:= .seq its'.toArray n'}:=by rw[Heap.get?_update_self f ho (by rw[hf] <;>rfl),hf]
 exact I.write (x:=p) (e:=p) (by rw[h];trivial) (.inl rfl) (λb u hb q=>(Heap.get?_update_other _ _ (du hb)).trans q) #[_,e] ?_;show#[hz,its',n',r,e]
def Pl:V ->V ->V ->Hp ->(Hp ->Prop) ->Prop:=λo i v H Q=>fY λp xs k j=>gm (o= .ref p) (i= .int k) (H p=some (.lst xs)) (AX xs.length k=some j) (Q (cK H p (.lst (xs.set j v))))
def jA:X7 X Pl:=by
 intro ah s σ H o i v ov iv u Q I ro ri rv h;let⟨p,xs,k,j,rfl,rfl,hp,hj,q⟩:=h;cases ro;let⟨t,rfl⟩:=ri;let⟨bJ,n,r,ho,hz⟩:=I.lst hp;let⟨h1,h2,h3,h4⟩:=EX hj;have hl:=r.length;have hn:=nY;have I':Inv X ah σ (cK H p (.lst (xs.set j v))) {s with heap:=s.heap.update p (Obj.mapSeq (·.setIfInBounds j u))}:=I.Si hp ho (CM bJ n j u) (r.set rv j) (by rw[List.length_set];show hz) s.toks;by_cases h0:0<=k;have hk:k.toNat=j:=by rw[seqIndex_of h0 h4] at h1;show bu h1
 show W.ki_setAt ho h0 ∅ (by rw[aM, <- hl];show h4) (by rw[hk];show#[_,I',q]);have hk:(k+(bJ.toArray.size:Int)).toNat=j:=by rw[seqIndex_neg ∅ h3] at h1;rw[aM, <- hl];show bu h1
 show W.ki_setBack ho ∅ (by rw[aM, <- hl];show h3) ∅ (by rw[hk];show#[_,I',q])
def yy (lo hi:e9 Int)(n:Nat):(sliceBounds lo hi none n).1=((HT.ub n 0 lo:Nat):Int) /\ (sliceBounds lo hi none n).2.1=((HT.ub n n hi:Nat):Int) /\ (sliceBounds lo hi none n).2.2=1:=by
 exact#[?_,?_,rfl];cases lo with
 | none=>simp[sliceBounds,HT.ub]
 | some i=>simp![sliceBounds,HT.ub,Option.getD_none,show(1:Int) >0 by decide,b0];by_cases h:i<0;simp![h,b0] <;>lia;simp![h,bC] <;>lia
 cases hi with
 | none=>simp[sliceBounds,HT.ub]
 | some i=>simp![sliceBounds,HT.ub,Option.getD_none,show(1:Int) >0 by decide,b0];by_cases h:i<0;simp![h,b0] <;>lia;simp![h,bC] <;>lia
def ww (bJ:cA c7)(lo hi:e9 Int):slicePick bJ.toArray lo hi none=((bJ.drop (HT.ub bJ.length 0 lo)).take (HT.ub bJ.length bJ.length hi - HT.ub bJ.length 0 lo)).toArray:=by let⟨h1,h2,h3⟩:=yy lo hi bJ.toArray.size;unfold slicePick;rw[h1,h2,h3];simp![sliceRange_one,pick_run,aM] <;>rfl
def VR (K:WV):V ->e9 Int ->e9 Int ->Hp ->VK ->Prop:=λx lo hi H Q=>cg λa xs=>cW (x= .ref a) (g0 K H a xs) (∀p,H p=none ->Q (.ref p) (cK H p (.lst (Bv xs lo hi))))
def yz:SlR X (VR X.K):=by intro ah s σ H x v vl vu lo hi sl Q I rx hs pl pu h;let⟨a,xs,rfl,hx,q⟩:=h;cases rx;let⟨bJ,r,ht,hz⟩:=I.list hx;have dJ:=r.length;exact#["list",_,slot_list_getitem.lookup,ht.isList.typeIs,?_];exact wpAny_getItem_list_slice ht.isList hs pl pu .none (by simp) ?_ (by rw[aM] <;>lia);rw[ww, <- dJ];exact#[.ref s.heap.objs.size,_,I.laid (t':=s.toks) (o:= .lst (Bv xs lo hi)) (λb ob q=>av _ q) (aq _) ?_,rfl,q _ (I.cN.fresh (aq _))];show#[ar (Bu xs lo hi) hz,_,0,(r.drop (HT.ub xs.length 0 lo)).take (HT.ub xs.length xs.length hi - HT.ub xs.length 0 lo),a4 _ rfl]
def lX:V ->Bool
 | .d3=>true
 | .bl _=>true
 | .int _=>true
 | .str _=>true
 | _=>false
def Hs:V ->V ->Bool
 | .d3, .d3=>true
 | .bl a, .bl b=>a==b
 | .bl a, .int b=>(if a then 1 else 0)==b
 | .int a, .bl b=>a==(if b then 1 else 0)
 | .int a, .int b=>a==b
 | .str a, .str b=>a==b
 | _,_=>false
def KC (ry:RelV y u)(rx:RelV x v)(fy:lX y=true)(fx:lX x=true):SeqAt.EqAt A s u v (Hs y x):=by
 cases y with
 | d3=>
  cases ry;cases x with
  | d3=>cases rx;show SeqAt.EqAt.same _
  | bl b=>cases rx;show SeqAt.EqAt.none_bool b
  | int b=>let⟨t,rfl⟩:=rx;show SeqAt.EqAt.none_int b t
  | str b=>let⟨t,rfl⟩:=rx;show SeqAt.EqAt.none_str b t
  | _=>show absurd (show false=true from fx) bj
 | bl a=>
  cases ry;cases x with
  | d3=>cases rx;show SeqAt.EqAt.bool_none a
  | bl b=>cases rx;show SeqAt.EqAt.bool_bool a b
  | int b=>let⟨t,rfl⟩:=rx;show SeqAt.EqAt.bool_int a b t
  | str b=>let⟨t,rfl⟩:=rx;show SeqAt.EqAt.bool_str a b t
  | _=>show absurd (show false=true from fx) bj
 | int a=>
  let⟨t',rfl⟩:=ry;cases x with
  | d3=>cases rx;show SeqAt.EqAt.int_none a t'
  | bl b=>cases rx;show SeqAt.EqAt.int_bool a t' b
  | int b=>let⟨t,rfl⟩:=rx;show SeqAt.EqAt.int_int a t' b t
  | str b=>let⟨t,rfl⟩:=rx;show SeqAt.EqAt.int_str a t' b t
  | _=>show absurd (show false=true from fx) bj
 | str a=>
  let⟨t',rfl⟩:=ry;cases x with
  | d3=>cases rx;show SeqAt.EqAt.str_none a t'
  | bl b=>cases rx;show SeqAt.EqAt.str_bool a t' b
  | int b=>let⟨t,rfl⟩:=rx;show SeqAt.EqAt.str_int a t' b t
  | str b=>let⟨t,rfl⟩:=rx;show SeqAt.EqAt.str_str a t' b t
  | _=>show absurd (show false=true from fx) bj
 | _=>show absurd (show false=true from fy) bj
def C_ (x:V)(u:c7):Bool:=match u with
 | .none=>Hs .d3 x
 | .bool b=>Hs (.bl b) x
 | .int i _=>Hs (.int i) x
 | .str z _=>Hs (.str z) x
 | _=>false
def KA (r:RelV y u)(f:lX y=true):C_ x u=Hs y x:=by
 cases y with
 | d3=>cases r;rfl
 | bl b=>cases r;rfl
 | int i=>let⟨t,rfl⟩:=r;rfl
 | str z=>let⟨t,rfl⟩:=r;rfl
 | _=>show absurd (show false=true from f) bj
theorem p8 {x:V}: ∀ {xs:cA V} {us:cA c7},cb xs us ->xs.all lX=true ->us.any (C_ x)=xs.any λy=>Hs y x
 | _,_, .nil,_=>rfl
 | y::xs,u::us, .cons r t,f=>by rw[List.all_cons,cz] at f;rw[List.any_cons,List.any_cons,KA r f.1,p8 t f.2]
theorem lQ {A:Around}{s:dz}{x:V}{v:c7}(rx:RelV x v)(fx:lX x=true): ∀ {xs:cA V} {us:cA c7},cb xs us ->xs.all lX=true -> ∀u∈us,SeqAt.EqAt A s u v (C_ x u)
 | _,_, .nil,_=>λu hu=>by cases hu
 | y::xs,u::us, .cons r t,f=>λu' hu=>by rw[List.all_cons,cz] at f;obtain rfl | hu:=aT.mp hu;rw[KA r f.1];show KC r rx f.1 fx;show lQ rx fx t f.2 u' hu
def Qa (x:V)(xs:cA V):Bool:=xs.any λy=>Hs y x
def VV (K:WV)(Uf:Bool):R2:=λx y H Q=>cg λp xs=>gm (y= .ref p) (g0 K H p xs \/ k7 K H p xs) (lX x=true) (xs.all lX=true) (Q (.bl (if Uf then !Qa x xs else Qa x xs)) H)
def Gh:i6 X (compareOp .In) (VV X.K false):=by intro ah s σ H x y v u Q I rx ry h;let⟨p,xs,rfl,hq,fx,fs,q⟩:=h;cases ry;obtain hq | hq:=hq;let⟨bJ,r,pl,hz⟩:=I.list hq;exact SeqAt.in_listAt (C_ x) pl.isList (λw hw=>lQ rx fx r fs w ⇑hw) #[.bl _,H,I,rfl,?_];rw[show bJ.toArray.any (C_ x)=bJ.any (C_ x) by simp,p8 r fs];show q;let⟨bJ,r,pl,hz⟩:=I.tuple hq;exact SeqAt.in_tupleAt (C_ x) pl (λw hw=>lQ rx fx r fs w ⇑hw) #[.bl _,H,I,rfl,?_];rw[show bJ.toArray.any (C_ x)=bJ.any (C_ x) by simp,p8 r fs];show q
def yU:i6 X (compareOp .NotIn) (VV X.K true):=by intro ah s σ H x y v u Q I rx ry h;let⟨p,xs,rfl,hq,fx,fs,q⟩:=h;cases ry;obtain hq | hq:=hq;let⟨bJ,r,pl,hz⟩:=I.list hq;exact SeqAt.notIn_listAt (C_ x) pl.isList (λw hw=>lQ rx fx r fs w ⇑hw) #[.bl _,H,I,rfl,?_];rw[show bJ.toArray.any (C_ x)=bJ.any (C_ x) by simp,p8 r fs];show q;let⟨bJ,r,pl,hz⟩:=I.tuple hq;exact SeqAt.notIn_tupleAt (C_ x) pl (λw hw=>lQ rx fx r fs w ⇑hw) #[.bl _,H,I,rfl,?_];rw[show bJ.toArray.any (C_ x)=bJ.any (C_ x) by simp,p8 r fs];show q
def yT:i6 X (compareOp .NotIn) (λx y H Q=>cg λi j=>cW (x= .str i) (y= .str j) (Q (.bl (!(!(Builtin.Str.occurrences j i 0 j.length 1).isEmpty))) H)):=by intro ah s σ H x y v u Q I rx ry h;let⟨i,j,rfl,rfl,q⟩:=h;let⟨t,rfl⟩:=rx;let⟨t',rfl⟩:=ry;show notIn_str #[.bl _,H,I,rfl,q]
def zy:fB X (.builtin "len") (λxs H Q=>cg λp ys=>cW (xs= [.ref p]) (g0 X.K H p ys \/ k7 X.K H p ys) (Q (.int ys.length) H)):=by intro ah s σ H xs us Q I r h;let⟨p,ys,rfl,hq,q⟩:=h;let⟨u,rfl,rx⟩:=vals1 r;cases rx;have hn:=nY;obtain hq | hq:=hq;let⟨bJ,r',pl,hz⟩:=I.list hq;have dJ:=r'.length;show Calls.call_len_list pl.isList (by simp![aM] <;>lia) #[.int ys.length,H,I.tok _,#[s.toks+1,by rw[aM,dJ]],q];let⟨bJ,r',pl,hz⟩:=I.tuple hq;have dJ:=r'.length;show len_tuple pl (by simp![aM] <;>lia) #[.int ys.length,H,I.tok _,#[s.toks+1,by rw[aM,dJ]],q]
def zx:fB X (.builtin "len") (λxs H Q=> ∃z,cW (xs= [.str z]) (z.length<=sizeLine) (Q (.int z.length) H)):=by intro ah s σ H xs us Q I r h;let⟨z,rfl,hz,q⟩:=h;let⟨u,rfl,t,rfl⟩:=vals1 r;have hn:=nY;show len_str ∅ #[.int z.length,H,I.tok _,#[_,rfl],q]
def zw:fB X (.type "list") (λxs H Q=>cg λp ys=>cW (xs= [.ref p]) (g0 X.K H p ys \/ k7 X.K H p ys) (∀l,H l=none ->Q (.ref l) (cK H l (.lst ys)))):=by
 intro ah s σ H xs us Q I r h;let⟨p,ys,rfl,hq,q⟩:=h;let⟨u,rfl,rx⟩:=vals1 r;cases rx;have fin: ∀ (bJ:cA c7),cb ys bJ ->ys.length<=sizeLine -> ∀ (h':Heap) (c':Nat),(∀b o',s.heap.get? b=some o' ->h'.get? b=some o') ->h'.get? s.heap.objs.size=some {cls:= .type "list",dict:=none,data:= .seq bJ.toArray c',slots:= #[]} ->EP X ah σ Q (.ref s.heap.objs.size) {s with heap:=h'}:=λbJ r' hz h' c' kp e=>#[.ref s.heap.objs.size,_,I.laid (t':=s.toks) kp (aq _) (show d7 X.prog X.w _ h' _ (.lst ys) from#[hz,bJ,c',r',e]),rfl,q _ (I.cN.fresh (aq _))]
 obtain hq | hq:=hq;let⟨bJ,r',pl,hz⟩:=I.list hq;have dJ:=r'.length;let⟨o,ho,hc,n,hd⟩:=pl.isList;show call_list_seq p (.inl rfl) ho hc hd (λh' c' kp e=>fin bJ r' hz h' c' kp e) (by simp![aM] <;>lia);let⟨bJ,r',pl,hz⟩:=I.tuple hq;have dJ:=r'.length;let⟨o,ho,hc,n,hd⟩:=pl;show call_list_seq p (.inr rfl) ho hc hd (λh' c' kp e=>fin bJ r' hz h' c' kp e) (by simp![aM] <;>lia)
def wN:fB X (.type "tuple") (λxs H Q=>cg λp ys=>xs= [.ref p] /\ ((g0 X.K H p ys /\ ∀l,H l=none ->Q (.ref l) (cK H l (.tup ys))) \/ (k7 X.K H p ys /\ Q (.ref p) H))):=by
 intro ah s σ H xs us Q I r h;let⟨p,ys,rfl,h⟩:=h;let⟨u,rfl,rx⟩:=vals1 r;cases rx;rcases h with⟨hq,q⟩ | ⟨hq,q⟩
 let⟨bJ,r',pl,hz⟩:=I.list hq;have dJ:=r'.length;exact call_tuple_list pl.isList (λh' kp=> ?_) (by simp![aM] <;>lia);have I1:Inv X ah σ H {s with heap:=h'}:=I.kept (t':=s.toks) kp;have I2:Inv X ah σ (cK H h'.objs.size (.tup ys)) {s with heap:=h'.push {cls:= .type "tuple",data:= .seq bJ.toArray}}:=I1.laid (t':=s.toks) (λb o e=>av _ e) (aq _) (show d7 X.prog X.w _ _ _ (.tup ys) from#[hz,bJ,r',zI.new _ _]);show#[.ref h'.objs.size,_,I2,rfl,q _ (I1.cN.fresh (aq _))];let⟨bJ,r',pl,hz⟩:=I.tuple hq;show call_tuple_same pl #[.ref p,H,I,rfl,q]
def YV (K:WV)(T:String)(x:V)(H:Hp):Prop:=match x with
 | .str _=>T= "str"
 | .int _=>T= "int"
 | .ref p=>(T= "list" /\ ∃xs,g0 K H p xs) \/ (T= "tuple" /\ ∃o,cW (K.lookup p=some o) (o.cls= .type "tuple") (o.dict=none)) \/(T= "dict" /\ ((∃kvs,H p=some (.dK kvs)) \/ ∃kvs,H p=some (.dT kvs))) \/ (T= "set" /\ ∃S n,H p=some (.set S n))
 | _=>False
def HU {σ:St}(I:Inv X ah σ H s)(r:RelV x v)(ty:YV X.K T x H): s.TypeIs v T /\ ∀a,v= .ref a -> ∃ob,s.heap.get? a=some ob /\ ob.dict=none:=by
 cases x with
 | str z=>let⟨t,rfl⟩:=r;cases (show T= "str" from ty);show#[typeIs_str s z t,λ_ e=>nomatch e]
 | int i=>let⟨t,rfl⟩:=r;cases (show T= "int" from ty);show#[typeIs_int s i t,λ_ e=>nomatch e]
 | ref p =>
  cases r;rcases ty with⟨rfl,xs,hq⟩ | ⟨rfl,o,hk,hc,hd⟩ | ⟨rfl,hk⟩ | ⟨rfl,S,n,hk⟩
  let⟨bJ,_,pl,_⟩:=I.list hq;exact#[pl.isList.typeIs,λa e=> ?_];cases e;let⟨o,n,e,c,hd,_⟩:=pl;show#[o,e,hd];exact#[#[o,I.nz p o hk,hc],λa e=> ?_];cases e;show#[o,I.nz _ o hk,hd];have z: ∃o,s.heap.get? p=some o /\ o.ExactDict:=by
   rcases hk with⟨kvs,hk⟩ | ⟨kvs,hk⟩
   let⟨_,_,_,_,o,_,_,e,ex,_⟩:=I.cN p _ hk;show#[o,e,ex];let⟨_,_,_,_,o,_,_,e,ex,_⟩:=I.cN p _ hk;show#[o,e,ex]
  let⟨o,e,ex⟩:=z;exact#[#[o,e,ex.1],λa e2=> ?_];cases e2;show#[o,e,ex.2.1];let⟨o,_,_,_,e,ex,_⟩:=I.cN p _ hk;exact#[#[o,e,ex.1],λa e2=> ?_];cases e2;show#[o,e,ex.2.1]
 | _=>show False.elim ty
def VA (K:WV)(T:String)(r:V ->cA V ->Hp ->VK ->Prop)(to:TE):TE:=λσ H Q=>to σ H λx H1=>YV K T x H1 /\ r x [] H1 Q
def YY (K:WV)(T:String)(r:V ->cA V ->Hp ->VK ->Prop)(to:TE)(t:TA):TE:=λσ H Q=>to σ H λx H1=>YV K T x H1 /\ t σ H1 λxs H2=>r x xs H2 Q
variable {o e:Expr}{es:cA Expr}{to:TE}{t:TA}{name:Str}{dH dk:Pos}{T id:String}{r:V ->cA V ->Hp ->VK ->Prop}
def yO (pa:PlainAttrs T)(slot:Slot T name id)(W7:typeOf (.builtin id)=pure (.type "method_descriptor"))(hm:Hu X id r)(ho:PE X o to) (vB:attributeBase o name X.env (eval o X.env)=eval o X.env:=by rfl) (vA:(dH.endLine==dk.line)=true:=by rfl):PE X (.Call (.Attribute o name dH) [] [] dk) (VA X.K T r to):=by intro ah s σ H Q I h;exact wpAny_Call_method0_late vB vA (cV (ho ah s σ H _ I h) λv s1 ⟨x,H1,I1,r1,ty,q1⟩=> ?_);let⟨h1,h2⟩:=HU I1 r1 ty;show#[T,id,pa,slot,W7,h1,h2,Calls.callWith_builtin rfl (PySem.evalArgs_none (hm ah s1 σ H1 x [] v [] Q I1 r1 .nil q1))]
def eN (pa:PlainAttrs T)(slot:Slot T name id)(W7:typeOf (.builtin id)=pure (.type "method_descriptor"))(hm:Hu X id r)(ho:PE X o to)(ha:PA X (e::es) t) (vB:attributeBase o name X.env (eval o X.env)=eval o X.env:=by rfl) (Tb:((backTo dk (starEach (e::es) X.env)).all (λx=> !x.1) && (backToKw dk (keywordEach [] X.env)).all (λx=>x.1.isSome) && decide ((e::es).length+([]:cA Keyword).length+(if([]:cA Keyword).isEmpty then 0 else 1) <30))=true:=by rfl) (vA:(dH.endLine==dk.line)=true:=by rfl) (hs:starEach (e::es) X.env=(false,eval e X.env)::starEach es X.env:=by rfl) (C1:(backTo dk (starEach es X.env)).any (·.1)=false:=by rfl): PE X (.Call (.Attribute o name dH) (e::es) [] dk) (YY X.K T r to t):=by intro ah s σ H Q I h;exact wpAny_Call_method_late vB Tb vA rfl (cV (ho ah s σ H _ I h) λv s1 ⟨x,H1,I1,r1,ty,q1⟩=> ?_);let⟨h1,h2⟩:=HU I1 r1 ty;exact#[T,id,pa,slot,W7,h1,h2,?_];have hA:=ha dk ah s1 σ H1 _ I1 q1;rw[hs] at hA ⊢;exact Calls.callWith_builtin (by change(false || (backTo dk (starEach es X.env)).any (·.1))=false;rw[C1] <;>rfl) (Calls.evalArgs_plain ?_);show cV hA λus s2 ⟨vs,H2,I2,r2,q2⟩=>hm ah s2 σ H2 x vs v us Q I2 r1 r2 q2
end
def X9 (X:Cx)(id:String)(r:V ->cA V ->Hp ->VK ->Prop):Prop:=∀ (ah:cA (fP×Obj)) (s:dz) (σ:St) (H:Hp) (x:V) (xs:cA V) (v:c7) (us:cA c7) (Q:VK),Inv X ah σ H s ->RelV x v ->cb xs us ->r x xs H Q ->wpAny (model X.prog X.w) X.A (call (.builtin id) (v::us)) (EP X ah σ Q) X.xe s
def cb.one: ∀ {x:V} {us:cA c7},cb [x] us -> ∃u,us= [u] /\ RelV x u :=by intro x us h;cases h with | cons r t=>cases t;show#[_,rfl,r]
def cb.two: ∀ {x y:V} {us:cA c7},cb [x,y] us ->cg λu v=>cW (us= [u,v]) (RelV x u) (RelV y v) :=by intro x y us h;cases h with | cons r t=>cases t with | cons q t=>cases t;show#[_,_,rfl,r,q]
theorem cb.zero: ∀ {us:cA c7},cb [] us ->us= []
 | _, .nil=>rfl
def cb.dropLast (h:cb xs us):cb xs.dropLast us.dropLast:=by
 induction h with
 | nil=>show .nil
 | cons r t ih=>
  cases t with
  | nil=>show .nil
  | cons q t'=>show .cons r ih
def C9 {α:Type}(l:cA α):l.eraseIdx (l.length - 1)=l.dropLast:=by
 induction l with
 | nil=>rfl
 | cons a r ih=>
  cases r with
  | nil=>rfl
  | cons b r=>
   have e:(a::b::r).length - 1=((b::r).length - 1)+1:=by have h1:(a::b::r).length=r.length+2:=rfl;have h2:(b::r).length=r.length+1:=rfl;lia
   rw[e,List.eraseIdx_cons_succ,ih];all_goals rfl
def Inv.JI {σ:St}{bJ its':cA c7}(I:Inv X ah σ H s)(hH:H l=some (.lst xs))(e:s.heap.get? l=some {cls:= .type "list",data:= .seq bJ.toArray n})(hf:f bJ.toArray=its'.toArray)(hv:cb ys its')(hz:ys.length<=sizeLine): Inv X ah σ (cK H l (.lst ys)) {s with heap:=s.heap.update l (Obj.mapSeq f),toks:=t'}:=by have q:=PySem.IsL.update e f;rw[hf] at q;exact I.write (x:=l) (e:=l) (by rw[hH];show trivial) (.inl rfl) (λb' u hb hu=>(Heap.get?_update_other s.heap (Obj.mapSeq f) (du hb)).trans hu) #[_,q] ?_;show#[hz,its',_,hv,q]
theorem Inv.aaz {σ:St}(I:Inv X ah σ H s)(hv:cb ys bJ)(hz:ys.length<=sizeLine): Inv X ah σ (cK H s.heap.objs.size (.lst ys)) {s with heap:=s.heap.push {cls:= .type "list",data:= .seq bJ.toArray},toks:=t'}:=I.laid (λ_ _ q=>av _ q) (aq _) #[hz,bJ,0,hv,a4 _ rfl]
theorem Inv.fresh {σ:St}(I:Inv X ah σ H s):H s.heap.objs.size=none:=I.cN.fresh (aq _)
def Inv.AN {σ:St}(I:Inv X ah σ H s)(hH:H l=some (.lst xs)):xs.length<=sizeLine /\ cg λ(bJ:cA c7) (n:Nat)=>cW (cb xs bJ) (xs.length=bJ.length) (s.heap.get? l=some {cls:= .type "list",data:= .seq bJ.toArray n}):=by let⟨z,bJ,n,r,e⟩:=I.cN l _ hH;show#[z,bJ,n,r,r.length,e]
def JA (h:n<=sizeLine):Builtin.List.listTooLong n=false:=by unfold Builtin.List.listTooLong;show aF ∅
def Em:V ->cA V ->Hp ->VK ->Prop:=λx vs H Q=>eQ λl xs y=>gm (x= .ref l) (vs= [y]) (H l=some (.lst xs)) (xs.length<sizeLine) (Q .d3 (cK H l (.lst (xs++ [y]))))
def c9:X9 X "list.append" Em:=by intro ah s σ H x vs v us Q I rx rv h;let⟨l,xs,y,rfl,rfl,hH,hz,q⟩:=h;cases rx;let⟨u,rfl,ru⟩:=rv.one;let⟨z,bJ,n,r,hl,e⟩:=I.AN hH;exact call_meets F.slot_list_append #[_,e,rfl] F.entry_list_append (F.args_list_append_2 _ _) (PySem.list_append l bJ.toArray n u (by rw[aM];lia)) #[e,?_];exact#[.d3,_,I.JI (its':=bJ++ [u]) hH e (by simp) (r.append (.cons ru .nil)) ?_,rfl,q];rw[aD,List.length_singleton];lia
def El:V ->cA V ->Hp ->VK ->Prop:=λx vs H Q=>fY λl b xs zs=>lm (x= .ref l) (vs= [.ref b]) (H l=some (.lst xs)) (H b=some (.lst zs)) (xs.length+zs.length<=sizeLine) (Q .d3 (cK H l (.lst (xs++zs))))
def mT:X9 X "list.extend" El:=by
 intro ah s σ H x vs v us Q I rx rv h;let⟨l,b,xs,zs,rfl,rfl,hH,hB,hz,q⟩:=h;cases rx;let⟨u,rfl,ru⟩:=rv.one;cases ru;let⟨z,bJ,n,r,hl,e⟩:=I.AN hH;let⟨z2,zg,n2,r2,Us,e2⟩:=I.AN hB;have hsz:bJ.toArray.size+zg.toArray.size<=sizeLine:=by rw[aM,aM];lia
 have Xg:¬(!bJ.toArray.isEmpty && Builtin.List.listTooLong (bJ.toArray.size+zg.toArray.size))=true:=by rw[JA hsz,Bool.and_false];show bj
 exact call_meets F.slot_list_extend #[_,e,rfl] F.entry_list_extend (F.args_list_extend_2 _ _) (AutoSeq1.list_extend_list_list_0 l bJ.toArray n b zg.toArray n2 Xg (by rw[aM];lia) ∅) #[e,e2,?_];exact#[.d3,_,I.JI (its':=bJ++zg) hH e (by simp) (r.append r2) ?_,rfl,q];rw[aD];lia
def VS:V ->cA V ->Hp ->VK ->Prop:=λx vs H Q=>eQ λl xs y=>gm (x= .ref l) (vs= []) (H l=some (.lst xs)) (xs[xs.length - 1]? =some y) (Q y (cK H l (.lst xs.dropLast)))
def JE:X9 X "list.pop" VS:=by
 intro ah s σ H x vs v us Q I rx rv h;let⟨l,xs,y,rfl,rfl,hH,hy,q⟩:=h;cases rx;have xD:=rv.zero;subst xD;let⟨z,bJ,n,r,hl,e⟩:=I.AN hH;let⟨u,hu,ru⟩:=r.get hy;have hy':bJ.toArray[bJ.toArray.size - 1]? =some u:=by change bJ.toArray[bJ.length - 1]? =some u;rw[<- Array.getElem?_toList, <- hl];show hu
 exact call_meets F.slot_list_pop #[_,e,rfl] F.entry_list_pop (F.args_list_pop_1 _) (MeetsSeq.list_pop_last l bJ.toArray n u hy' (by rw[aM];lia)) #[e,?_];exact#[y,_,I.JI (its':=bJ.dropLast) hH e ?_ r.dropLast ?_,ru,q];change bJ.toArray.eraseIdxIfInBounds (bJ.toArray.size - 1)=bJ.dropLast.toArray;rw[aM,List.eraseIdxIfInBounds_toArray,C9];rw[List.length_dropLast];lia
def IY:V ->cA V ->Hp ->VK ->Prop:=λx vs H Q=>cg λl xs=>fj (x= .ref l) (vs= []) (H l=some (.lst xs)) (Q .d3 (cK H l (.lst [])))
def AI:X9 X "list.clear" IY:=by intro ah s σ H x vs v us Q I rx rv h;let⟨l,xs,rfl,rfl,hH,q⟩:=h;cases rx;have xD:=rv.zero;subst xD;let⟨z,bJ,n,r,hl,e⟩:=I.AN hH;exact call_meets F.slot_list_clear #[_,e,rfl] F.entry_list_clear (F.args_list_clear_1 _) (AutoSeq1.list_clear_list_0 l bJ.toArray n (by rw[aM];lia)) #[e,?_];show#[.d3,_,I.JI (its':= []) (ys:= []) hH e rfl .nil (de _),rfl,q]
def VX:R2:=λx y H Q=>fY λl b xs zs=>lm (x= .ref l) (y= .ref b) (H l=some (.lst xs)) (H b=some (.lst zs)) (xs.length+zs.length<=sizeLine) (∀p,H p=none ->Q (.ref p) (cK H p (.lst (xs++zs))))
def j5:i6 X (binaryOp .Add) VX:=by
 intro ah s σ H x y v u Q I rx ry h;let⟨l,b,xs,zs,rfl,rfl,hH,hB,hz,q⟩:=h;cases rx;cases ry;let⟨z,bJ,n,r,hl,e⟩:=I.AN hH;let⟨z2,zg,n2,r2,Us,e2⟩:=I.AN hB;exact PySem.P.add_list e e2 ?_ (by rw[aM,aM];lia);have ea:bJ.toArray++zg.toArray=(bJ++zg).toArray:=by simp
 rw[ea];show#[.ref _,_,I.aaz (t':=s.toks) (r.append r2) (by rw[aD];lia),rfl,q _ I.fresh]
section
variable {κ:Type} [DecidableEq κ]
def iX (kvs:cA (κ×V))(k:κ):e9 V:=(kvs.find? λkv=>decide (kv.1=k)).map (·.2)
def mZ (kvs:cA (κ×V))(k:κ)(v:V):cA (κ×V):=if(kvs.any λkv=>decide (kv.1=k))=true then kvs.map (λkv=>if kv.1=k then(kv.1,v) else kv) else kvs++ [(k,v)]
def ml (kvs:cA (κ×V))(k:κ):cA (κ×V):=kvs.filter λkv=>decide (kv.1≠k)
def uy {k:κ}(e:p.1=k):iX (p::r) k=some p.2:=by simp[iX,cJ,e]
def uz {k:κ}(e:¬p.1=k):iX (p::r) k=iX r k:=by simp[iX,cJ,e]
theorem zZ (k:κ): ∀kvs:cA (κ×V),(kvs.any λkv=>decide (kv.1=k))=(iX kvs k).isSome
 | []=>rfl
 | p::r=>by rw[List.any_cons];by_cases e:p.1=k;simp![uy e,a6 e,Bool.true_or,cj];rw[uz e,aF e,Bool.false_or];show zZ k r
def rP (kvs:cA (κ×V))(k:κ)(v:V):(mZ kvs k v).length<=kvs.length+1:=by unfold mZ;split;rw[af];lia;rw[aD,aB,List.length_nil];lia
def ki.ix (r:ki o u):o.isSome=u.isSome:=by
 cases o with
 | none=>cases u with
  | none=>rfl
  | some _=>show(show False from r).elim
 | some _=>cases u with
  | none=>show(show False from r).elim
  | some _=>rfl
def ki.getD (r:ki o u)(rd:RelV d d'):RelV (o.getD d) (u.getD d'):=by
 cases o with
 | none=>cases u with
  | none=>show rd
  | some _=>show(show False from r).elim
 | some _=>cases u with
  | none=>show(show False from r).elim
  | some _=>show r
def KV.val (r:KV kvs vs)(k:κ):ki (iX kvs k) (valueAt vs k):=by
 unfold KV at r;induction r with
 | nil=>show True.intro
 | @cons p q ps qs h t ih=>
  let⟨h1,h2⟩:=h;by_cases e:p.1=k;have e':q.1=k:=h1.symm.trans e;have b:valueAt (q::qs) k=some q.2:=by simp[valueAt,cJ,e']
  rw[uy e,b];show h2;have e':¬q.1=k:=λz=>e (h1.trans z);have b:valueAt (q::qs) k=valueAt qs k:=by simp[valueAt,cJ,e']
  rw[uz e,b];show ih
def KV.any (r:KV kvs vs)(k:κ):(kvs.any λkv=>decide (kv.1=k))=vs.any λkv=>decide (kv.1=k):=by
 unfold KV at r;induction r with
 | nil=>rfl
 | cons h t ih=>rw[List.any_cons,List.any_cons,ih,h.1]
def KV.Rt (r:KV kvs vs)(k:κ)(ry:RelV y u): KV (kvs.map λkv=>if kv.1=k then(kv.1,y) else kv) (vs.map λkv=>if kv.1=k then(kv.1,u) else kv):=by
 unfold KV at r ⊢;induction r with
 | nil=>show .nil
 | @cons p q ps qs h t ih=>rw[aN,aN];exact .cons ?_ ih;let⟨h1,h2⟩:=h;by_cases e:p.1=k;rw[ao e,ao (h1.symm.trans e)];show#[h1,ry];rw[ak e,ak (λz=>e (h1.trans z))];show#[h1,h2]
def KV.put (r:KV kvs vs)(k:κ)(ry:RelV y u):KV (mZ kvs k y) (stored vs k u):=by unfold mZ stored;rw[r.any k];by_cases e:(vs.any λkv=>decide (kv.1=k))=true;rw[ao e,ao e];show r.Rt k ry;rw[ak e,ak e];show Paired.snoc r #[rfl,ry]
def KV.drop (r:KV kvs vs)(k:κ):KV (ml kvs k) (without vs k):=by
 unfold KV at r ⊢;unfold ml without;induction r with
 | nil=>show .nil
 | @cons p q ps qs h t ih=>
  let⟨h1,h2⟩:=h;rw[List.filter_cons,List.filter_cons];by_cases e:p.1=k;have a:¬decide (p.1≠k)=true:=by simp[e]
  have b:¬decide (q.1≠k)=true:=by simp[h1.symm.trans e]
  rw[ak a,ak b];show ih;have e':¬q.1=k:=λz=>e (h1.trans z);have a:decide (p.1≠k)=true:=by simp[e]
  have b:decide (q.1≠k)=true:=by simp[e']
  rw[ao a,ao b];show .cons #[h1,h2] ih
def KV.keys {vs:cA (κ×c7)}(r:KV kvs vs):kvs.map (·.1)=vs.map (·.1):=by
 unfold KV at r;induction r with
 | nil=>rfl
 | cons h t ih=>rw[aN,aN,ih,h.1]
theorem KV.length {vs:cA (κ×c7)}(r:KV kvs vs):kvs.length=vs.length:=Paired.length r
theorem Bh (kvs:cA (κ×V))(k:κ):(ml kvs k).length<=kvs.length:=List.length_filter_le _ _
end
def rV (r:RelV (kV k) u):(cH P w).is k u=true:=by
 cases k with
 | inl i=>let⟨t,e⟩:=(show ∃t,u=Value.int i t from r);subst e;show AL P w i t
 | inr x=>let⟨t,e⟩:=(show ∃t,u=Value.str x t from r);subst e;show AK P w x t
theorem xC {P:Program}{w:World}: ∀ {ks:cA b8} {us:cA c7},cb (ks.map kV) us ->ItemsAre (cH P w) ks us
 | [],_,r=>by rw[List.map_nil] at r;cases r;show .nil
 | k::ks,_,r=>by
  rw[aN] at r;cases r with
  | cons h t=>show .cons (rV h) (xC t)
abbrev KT (H:Hp):cA (cA b8×V) ->cA (cA b8×fP×c7) ->Prop:=Paired λp q=>p.1=q.1 /\ H q.2.1=some (.tup (p.1.map kV)) /\ RelV p.2 q.2.2
def KT.val (r:KT H kvs xs)(k:cA b8):ki (iX kvs k) ((atKey xs k).map (·.2)):=by
 induction r with
 | nil=>show True.intro
 | @cons p q ps qs h t ih=>
  let⟨h1,_,h2⟩:=h;by_cases e:p.1=k;have e':q.1=k:=h1.symm.trans e;have b:atKey (q::qs) k=some q.2:=by simp[atKey,cJ,e']
  rw[uy e,b];show h2;have e':¬q.1=k:=λz=>e (h1.trans z);have b:atKey (q::qs) k=atKey qs k:=by simp[atKey,cJ,e']
  rw[uz e,b];show ih
def KT.Rt (r:KT H kvs xs)(k:cA b8)(ry:RelV y u): KT H (kvs.map λkv=>if kv.1=k then(kv.1,y) else kv) (xs.map (putAt k u)):=by
 induction r with
 | nil=>show .nil
 | @cons p q ps qs h t ih=>rw[aN,aN];exact .cons ?_ ih;let⟨h1,h2,h3⟩:=h;unfold putAt;by_cases e:p.1=k;rw[ao e,ao (h1.symm.trans e)];show#[h1,h2,ry];rw[ak e,ak (λz=>e (h1.trans z))];show#[h1,h2,h3]
def KT.put (r:KT H kvs xs)(k:cA b8)(hb:H b=some (.tup (k.map kV)))(ry:RelV y u): KT H (mZ kvs k y) (storedH xs k b u):=by
 have e:(kvs.any λkv=>decide (kv.1=k))=(atKey xs k).isSome:=by rw[zZ,(r.val k).ix,bW]
 unfold mZ storedH;rw[e];by_cases q:(atKey xs k).isSome=true;rw[ao q,ao q];show r.Rt k ry;rw[ak q,ak q];show Paired.snoc r #[rfl,hb,ry]
theorem KT.keeps (r:KT H kvs xs)(ht: ∀b ys,H b=some (.tup ys) ->H' b=some (.tup ys)):KT H' kvs xs:=Paired.Sf r λ_ _ z=>#[z.1,ht _ _ z.2.1,z.2.2]
theorem Pj (ok:mY P w H h)(e:Rd H a u):d7 P w H h a u:=e.ok ok
theorem pR (ok:mY P w H h)(e:Rd H a (.dK kvs)):kvs.length<=sizeLine /\ (a==sysModules)=false /\ ∃vs,KV kvs vs /\ h.DictOf (cH P w) a vs:=
 show d7 P w H h a (.dK kvs) from Pj ok e
theorem xR (ok:mY P w H h)(e:H a=some (.dK kvs)):kvs.length<=sizeLine /\ (a==sysModules)=false /\ ∃vs,KV kvs vs /\ h.DictOf (cH P w) a vs:=pR ok (.inl e)
def qO (ok:mY P w H h)(e:H a=some (.tup (ks.map kV))):(tupleKind (cH P w)).is h ks a:=by
 let⟨_,bJ,r,o,h1,h2,n,h3,_⟩:=(show d7 P w H h a (.tup (ks.map kV)) from ok a _ e)
 show#[o,bJ.toArray,n,h1,h2,h3, ⇑(xC r)]
def vI (ok:mY P w H h)(e:Rd H a (.dT kvs)):kvs.length<=sizeLine /\ (a==sysModules)=false /\∃xs,KT H kvs xs /\ h.DictOfH (tupleKind (cH P w)) a xs:=by
 let⟨z,y,xs,r,o,es,ep,h1,h2,h3,h4,h5⟩:=(show d7 P w H h a (.dT kvs) from Pj ok e)
 exact#[z,y,xs,r,o,es,ep,h1,h2,h3,h4,λx hx=> ?_,h5];have all: ∀ {l:cA (cA b8×V)} {m:cA (cA b8×fP×c7)},KT H l m -> ∀x∈m,(tupleKind (cH P w)).is h x.1 x.2.1:=by
  intro l m q;induction q with
  | nil=>intro x hx;show nomatch hx
  | @cons p q ps qs hq t ih=>intro x hx;obtain e | hx:=aT.mp hx;subst e;show qO ok (by rw[<- hq.1];show hq.2.1);show ih x hx
 show all r x hx
theorem XJ (ok:mY P w H h)(e:H a=some (.dT kvs)):kvs.length<=sizeLine /\ (a==sysModules)=false /\∃xs,KT H kvs xs /\ h.DictOfH (tupleKind (cH P w)) a xs:=vI ok (.inl e)
def ng (H:Hp)(a:fP)(y:V)(r:e9 V):Prop:=(cg λkvs k=>cW (Rd H a (.dK kvs)) (y=kV k) (r=iX kvs k)) \/ eQ λkvs k b=>fj (Rd H a (.dT kvs)) (y= .ref b) (H b=some (.tup (k.map kV))) (r=iX kvs k)
def LD (H:Hp)(a:fP)(y v:V)(H':Hp):Prop:=(cg λkvs k=>fj (H a=some (.dK kvs)) (y=kV k) (kvs.length<sizeLine) (H'=cK H a (.dK (mZ kvs k v)))) \/eQ λkvs k b=>gm (H a=some (.dT kvs)) (y= .ref b) (H b=some (.tup (k.map kV))) (kvs.length<sizeLine) (H'=cK H a (.dT (mZ kvs k v)))
theorem ng.k {k:b8}(e:H a=some (.dK kvs)):ng H a (kV k) (iX kvs k):= .inl #[kvs,k, .inl e,rfl,rfl]
theorem LD.k {k:b8}(e:H a=some (.dK kvs))(hl:kvs.length<sizeLine):LD H a (kV k) v (cK H a (.dK (mZ kvs k v))):= .inl #[kvs,k,e,rfl,hl,rfl]
def Inv.big {σ:St}(I:Inv X ah σ H s):sysModules<s.heap.objs.size:=by have h:mainGlobals<s.heap.objs.size:=(I.mod.glob.keeps I.bk).lt;show Nat.lt_trans ⋯ h
def GV {σ:St}(hu:A.units+1<cLine)(I:Inv X ah σ H s)(g:ng H a y (some v))(ry:RelV y u)(h: ∀w' s',Inv X ah σ H s' ->RelV v w' ->Q w' s'): wpAny (model X.prog X.w) A (getItem (.ref a) u) Q E s:=by
 rcases g with⟨kvs,k,e,ey,l⟩ | ⟨kvs,k,b,e,ey,eb,l⟩
 subst ey;let⟨z,hd,vs,gg,dd⟩:=pR I.cN e;let⟨w',hw,yG⟩:=ki.some_of (v:=v) (o:=valueAt vs k) (by rw[l];show gg.val k);show wpAny_getItem_of (rV ry) dd.mapOf hw (h w' _ (I.tok _) yG);subst ey;cases (show u=Value.ref b from ry);let⟨z,hd,xs,gg,dd⟩:=vI I.cN e;let⟨w',hw,yG⟩:=ki.some_of (v:=v) (o:=(atKey xs k).map (·.2)) (by rw[l];show gg.val k);let⟨p,hp,hp2⟩:=Option.map_eq_some_iff.mp hw;exact wpAny_getItem_heap (tupleKind_room_in1 hu) (qO I.cN eb) dd hp ?_;rw[hp2];show h w' _ (I.tok _) yG
def ahC {σ:St}(hu:A.units+1<cLine)(I:Inv X ah σ H s)(g:ng H a y o)(ry:RelV y u)(h: ∀s',Inv X ah σ H s' ->Q (.bool o.isSome) s'): wpAny (model X.prog X.w) A (compareOp .In u (.ref a)) Q E s:=by
 rcases g with⟨kvs,k,e,ey,l⟩ | ⟨kvs,k,b,e,ey,eb,l⟩
 subst ey;let⟨z,hd,vs,gg,dd⟩:=pR I.cN e;exact wpAny_in_of (rV ry) hd dd.mapOf ?_;rw[<- (gg.val k).ix, <- l];show h _ (I.tok _);subst ey;cases (show u=Value.ref b from ry);let⟨z,hd,xs,gg,dd⟩:=vI I.cN e;exact wpAny_in_heap (tupleKind_room_in1 hu) (qO I.cN eb) hd dd ?_;have q:=(gg.val k).ix;rw[bW] at q;rw[<- q, <- l];show h _ (I.tok _)
def Od {σ:St}(hu:A.units+1<cLine)(I:Inv X ah σ H s)(g:ng H a y o)(ry:RelV y u)(h: ∀s',Inv X ah σ H s' ->Q (.bool (!o.isSome)) s'): wpAny (model X.prog X.w) A (compareOp .NotIn u (.ref a)) Q E s:=by
 rcases g with⟨kvs,k,e,ey,l⟩ | ⟨kvs,k,b,e,ey,eb,l⟩
 subst ey;let⟨z,hd,vs,gg,dd⟩:=pR I.cN e;exact wpAny_notIn_of (rV ry) hd dd.mapOf ?_;rw[<- (gg.val k).ix, <- l];show h _ (I.tok _);subst ey;cases (show u=Value.ref b from ry);let⟨z,hd,xs,gg,dd⟩:=vI I.cN e;exact wpAny_notIn_heap (tupleKind_room_in1 hu) (qO I.cN eb) hd dd ?_;have q:=(gg.val k).ix;rw[bW] at q;rw[<- q, <- l];show h _ (I.tok _)
theorem ur {σ:St}(I:Inv X ah σ H s)(mu:X8 (H a))(hs:Heap.SameBut a s.heap h')(he: ∃q,h'.get? a=some q)(new:d7 X.prog X.w (cK H a ob) h' a ob): Inv X ah σ (cK H a ob) {s with heap:=h',toks:=t'}:=I.write (x:=a) (e:=a) mu (.inl rfl) (λb q hb z=>(hs.2 b hb).trans z) he new
theorem Dc (z:kvs.length<=sizeLine)(hd:(a==sysModules)=false)(gg:KV kvs vs)(dd:h'.DictOf (cH P w) a vs): d7 P w H' h' a (.dK kvs):=#[z,hd,vs,gg,dd]
def GU {σ:St}(hu:A.units+1<cLine)(I:Inv X ah σ H s)(g:LD H a y v H')(ry:RelV y u)(rv:RelV v r)(h: ∀s',Inv X ah σ H' s' ->Q () s'): wpAny (model X.prog X.w) A (setItem (.ref a) u r) Q E s:=by
 rcases g with⟨kvs,k,e,ey,l,eH⟩ | ⟨kvs,k,b,e,ey,eb,l,eH⟩
 subst ey eH;let⟨z,hd,vs,gg,dd⟩:=xR I.cN e;have hz:vs.length<=sizeLine:=by rw[<- gg.length];show z
 have hl:(mZ kvs k v).length<=sizeLine:=by have:=rP kvs k v;lia
 exact wpAny_setItem_pairs (hsz:=hz) (rV ry) dd λh' L' hs=>h _ ?_;have he: ∃q,h'.get? a=some q:=let ⟨q,_,_,hq,_⟩:=L';#[q,hq]
 show ur I (by rw[e];show True.intro) hs he (Dc hl hd (gg.put k rv) L');subst ey eH;cases (show u=Value.ref b from ry);let⟨z,hd,xs,gg,dd⟩:=XJ I.cN e;have hz:xs.length<=sizeLine:=by rw[<- Paired.length gg];show z
 have hl:(mZ kvs k v).length<=sizeLine:=by have:=rP kvs k v;lia
 exact wpAny_setItem_heap (hsz:=hz) (tupleKind_room_in1 hu) (qO I.cN eb) dd λh' L' hs=>h _ ?_;let⟨q,es,ep,hq,h2,h3,h4,_,h5⟩:=L';exact ur I (by rw[e];show True.intro) hs #[q,hq] #[hl,hd,_,(gg.put k eb rv).keeps λc ys ec=> ?_,q,es,ep,hq,h2,h3,h4,h5];rw[bN (Wp ec e (λz=>nomatch z))];show ec
def GW {σ:St}(I:Inv X ah σ H s)(e:H a=some (.dK kvs))(ry:RelV (kV k) u)(l:(iX kvs k).isSome=true)(h: ∀s',Inv X ah σ (cK H a (.dK (ml kvs k))) s' ->Q () s'): wpAny (model X.prog X.w) A (delItem (.ref a) u) Q E s:=by
 let⟨z,hd,vs,gg,dd⟩:=xR I.cN e;exact wpAny_delItem_slot dd.typeIs ⋯ PySem.F.slot_dict_delitem (call_meetsIn PySem.F.slot_dict_delitem dd.typeIs PySem.F.entry_dict_delitem (PySem.F.args_dict_delitem_2 _ _) (meets_dict_delitem_pairs (cH X.prog X.w) a (rV ry)) #[vs,dd,by rw[<- gg.length];show z,by rw[<- (gg.val k).ix];show l,λh' L' hs=>h _ ?_]);have he: ∃q,h'.get? a=some q:=let ⟨q,_,_,hq,_⟩:=L';#[q,hq]
 show ur I (by rw[e];show True.intro) hs he (Dc (ar (Bh kvs k) z) hd (gg.drop k) L')
def XN {σ:St}(I:Inv X ah σ H s)(e:H a=some (.dK kvs))(ry:RelV (kV k) u)(l:iX kvs k=some v)(hm:more= [] \/ ∃x,more= [x])(h: ∀w' s',Inv X ah σ (cK H a (.dK (ml kvs k))) s' ->RelV v w' ->Q w' s'):wpAny (model X.prog X.w) A (call (.builtin "dict.pop") (.ref a::u::more)) Q E s:=by
 let⟨z,hd,vs,gg,dd⟩:=xR I.cN e;let⟨w',hw,yG⟩:=ki.some_of (v:=v) (o:=valueAt vs k) (by rw[<- l];show gg.val k);have hp:(keyPart u).isSome=true:=by
  cases k with
  | inl i=>let⟨t,q⟩:=(show ∃t,u=Value.int i t from ry);subst q;rfl
  | inr x=>let⟨t,q⟩:=(show ∃t,u=Value.str x t from ry);subst q;rfl
 have ha:argsOk "dict.pop" #[.ref a::u::more,[]]:=by obtain q | ⟨x,q⟩:=hm;subst q;show PySem.F.args_dict_pop_2 _ _;subst q;show PySem.F.args_dict_pop_3 _ _ _
 exact call_meetsIn PySem.F.slot_dict_pop dd.typeIs PySem.F.entry_dict_pop ha (meets_dict_pop_there (cH X.prog X.w) a (rV ry) more hm hp) #[vs,w',dd,by rw[<- gg.length];show z,hw,λh' L' hs=>h w' _ ?_ yG];have he: ∃q,h'.get? a=some q:=let ⟨q,_,_,hq,_⟩:=L';#[q,hq]
 show ur I (by rw[e];show True.intro) hs he (Dc (ar (Bh kvs k) z) hd (gg.drop k) L')
def TH (i:Expr):Prop:= ∀ov iv,subscripted i false ov iv=operate [ov,iv] (getItem ov iv)
def Mv {T id:String}(hl:typeLookup (.type T) "__getitem__" =pure (some (.builtin id)))(hs:TH slice)(h:wpAny (model prog w) A (eval value env) (λo s₁=>wpAny (model prog w) A (eval slice env) (λi s₂=>s₂.TypeIs o T /\ wpAny (model prog w) A (getItem o i) Q E s₂) E s₁) E s): wpAny (model prog w) A (eval (.Subscript value slice pos) env) Q E s:=by
 exact Subscript_ (bE h (λo s₁ h₁=>bE h₁ (λi s₂ h₂=> ?_) λ_ _ x=>x) λ_ _ x=>x);let⟨hT,h₂⟩:=h₂;unfold subscriptTail;exact az ?_;rw[getitemInPython_of_ne hT.not_modules];exact az (wpAny_specialOf hT hl ?_);have fin:wpAny (model prog w) A (subscripted slice false o i) (λr s₃=>wpAny (model prog w) A (letTemporaryGo value o r >>=λ_=>pure r) Q E s₃) E s₂:=by rw[hs o i];show wpAny_operating (bE h₂ (λr s₃ h₃=>az (wpAny_letTemporaryGo (a_ h₃))) λ_ _ x=>x)
 first
 | show a_ (az fin)
 | show az (a_ (az fin))
 | show az fin
def Bj {σ:St}(I:Inv X ah σ H s)(g:ng H a y o):s.TypeIs (.ref a) "dict" :=by
 rcases g with⟨kvs,k,e,_,_⟩ | ⟨kvs,k,b,e,_,_,_⟩
 let⟨_,_,vs,_,dd⟩:=pR I.cN e;show dd.typeIs;let⟨_,_,xs,_,dd⟩:=vI I.cN e;show dd.typeIs
def Ik (td ty:TE):TE:=λσ H Q=>td σ H λx H1=>ty σ H1 λy H2=>cg λa v=>cW (x= .ref a) (ng H2 a y (some v)) (Q v H2)
def Vz (ty td:TE):TE:=λσ H Q=>ty σ H λy H1=>td σ H1 λx H2=>cg λa o=>cW (x= .ref a) (ng H2 a y o) (Q (.bl o.isSome) H2)
def DQ (ty td:TE):TE:=λσ H Q=>ty σ H λy H1=>td σ H1 λx H2=>cg λa o=>cW (x= .ref a) (ng H2 a y o) (Q (.bl (!o.isSome)) H2)
def Pe (td ty tv:TE):TS:=λD σ H=>tv σ H λv H1=>td σ H1 λx H2=>ty σ H2 λy H3=>cg λa H4=>cW (x= .ref a) (LD H3 a y v H4) (D.nx σ H4)
def Pf (td ty:TE):TS:=λD σ H=>td σ H λx H1=>ty σ H1 λy H2=>eQ λa kvs k=>gm (x= .ref a) (H2 a=some (.dK kvs)) (y=kV k) ((iX kvs k).isSome=true) (D.nx σ (cK H2 a (.dK (ml kvs k))))
def eK (hu:X.A.units+1<cLine)(ho:PE X o td)(hi:PE X i ty)(hs:TH i):PE X (.Subscript o i pos) (Ik td ty):=by intro ah s σ H Q I h;exact Mv PySem.F.slot_dict_getitem.lookup hs (cV (ho ah s σ H _ I h) λu s1 ⟨x,H1,I1,rx,q1⟩=>cV (hi ah s1 σ H1 _ I1 q1) λiv s2 ⟨y,H2,I2,ry,a,v,ex,g,q2⟩=> ?_);subst ex;obtain rfl:u=Value.ref a:=rx;show#[Bj I2 g,GV hu I2 g ry λw' s3 I3 yG=>#[v,H2,I3,yG,q2]]
def Cy (hu:X.A.units+1<cLine)(hi:PE X i ty)(ho:PE X o td):PC X .In i o (Vz ty td):=by intro ah s σ H Q I h;exact cV (hi ah s σ H _ I h) λiv s1 ⟨y,H1,I1,ry,q1⟩=>cV (ho ah s1 σ H1 _ I1 q1) λu s2 ⟨x,H2,I2,rx,a,ov,ex,g,q2⟩=> ?_;subst ex;obtain rfl:u=Value.ref a:=rx;show ahC hu I2 g ry λs3 I3=>#[.bl ov.isSome,H2,I3,rfl,q2]
def jI (hu:X.A.units+1<cLine)(hi:PE X i ty)(ho:PE X o td):PC X .NotIn i o (DQ ty td):=by intro ah s σ H Q I h;exact cV (hi ah s σ H _ I h) λiv s1 ⟨y,H1,I1,ry,q1⟩=>cV (ho ah s1 σ H1 _ I1 q1) λu s2 ⟨x,H2,I2,rx,a,ov,ex,g,q2⟩=> ?_;subst ex;obtain rfl:u=Value.ref a:=rx;show Od hu I2 g ry λs3 I3=>#[.bl (!ov.isSome),H2,I3,rfl,q2]
def mQ (hu:X.A.units+1<cLine)(ho:PE X o td)(hi:PE X i ty)(hv:PE X value tv)(hs:swapsWith value (some (.Subscript o i lJ)) pos.line X.env=pure false): PS X (.Assign [.Subscript o i lJ] value pos) (Pe td ty tv):=by intro ah s σ H D I h;exact wpAny_Assign_Subscript (cV (hv ah s σ H _ I h) λr s1 ⟨v,H1,I1,rv,q1⟩=>cV (ho ah s1 σ H1 _ I1 q1) λu s2 ⟨x,H2,I2,rx,q2⟩=>cV (hi ah s2 σ H2 _ I2 q2) λiv s3 ⟨y,H3,I3,ry,a,H4,ex,g,q3⟩=> ?_) hs;subst ex;obtain rfl:u=Value.ref a:=rx;show GU hu I3 g ry rv λs4 I4=>#[σ,H4,I4,q3]
def MJ (ho:PE X o td)(hi:PE X i ty):PS X (.Delete [.Subscript o i Vj] pos) (Pf td ty):=by intro ah s σ H D I h;exact wpAny_Delete (wpAny_deleteEach_cons (wpAny_delete_Subscript (cV (ho ah s σ H _ I h) λu s1 ⟨x,H1,I1,rx,q1⟩=>cV (hi ah s1 σ H1 _ I1 q1) λiv s2 ⟨y,H2,I2,ry,a,kvs,k,ex,e,ey,l,q2⟩=> ?_)));subst ex ey;obtain rfl:u=Value.ref a:=rx;show GW I2 e ry l λs3 I3=>wpAny_deleteEach_nil #[σ,_,I3,q2]
theorem KH (h:Heap)(hb:sysModules<h.objs.size):d7 P w H (h.push {cls:= .type "dict",data:= .dict #[]}) h.objs.size (.dK []):=#[de _,beq_eq_false_iff_ne.mpr (du (bA hb)),[], .nil,Heap.DictOf.new h]
def Ih:TE:=λ_ H Q=> ∀p,H p=none ->Q (.ref p) (cK H p (.dK []))
theorem jH:PE X (.Dict [] [] pos) Ih:=λah s σ H Q I h=>wpAny_Dict_empty #[.ref s.heap.objs.size,_,I.laid (a:=s.heap.objs.size) (o:= .dK []) (t':=s.toks) (λ_ _ q=>av _ q) (aq _) (KH s.heap I.big),rfl,h _ (I.cN.fresh (aq _))]
structure M1 (X:Cx)(o:Expr)(m:Str)(dH:Pos)(e:Expr)(dk:Pos):Prop where
 base:attributeBase o m X.env (eval o X.env)=eval o X.env
 C7:((backTo dk (starEach [e] X.env)).all (λx=> !x.1) && (backToKw dk (keywordEach [] X.env)).all (λx=>x.1.isSome) && decide (([e]:List Expr).length+([]:List Keyword).length+(if([]:List Keyword).isEmpty then 0 else 1) <30))=true
 line:(dH.endLine==dk.line)=true
 trees:backTo dk (starEach [e] X.env)= [(false,eval e X.env)]
structure M2 (X:Cx)(o:Expr)(m:Str)(dH:Pos)(e f:Expr)(dk:Pos):Prop where
 base:attributeBase o m X.env (eval o X.env)=eval o X.env
 C7:((backTo dk (starEach [e,f] X.env)).all (λx=> !x.1) && (backToKw dk (keywordEach [] X.env)).all (λx=>x.1.isSome) && decide (([e,f]:List Expr).length+([]:List Keyword).length+(if([]:List Keyword).isEmpty then 0 else 1) <30))=true
 line:(dH.endLine==dk.line)=true
 trees:backTo dk (starEach [e,f] X.env)= [(false,eval e X.env),(false,eval f X.env)]
def IsD (H:Hp)(a:fP):Prop:=(∃kvs,Rd H a (.dK kvs)) \/ ∃kvs,Rd H a (.dT kvs)
def CV {σ:St}(I:Inv X ah σ H s)(d:IsD H a): s.TypeIs (.ref a) "dict" /\ (∀b,Value.ref a= .ref b -> ∃ob,s.heap.get? b=some ob /\ ob.dict=none) /\ (a==sysModules)=false:=by
 rcases d with⟨kvs,e⟩ | ⟨kvs,e⟩
 let⟨_,hd,vs,_,dd⟩:=pR I.cN e;exact#[dd.typeIs,λb q=> ?_,hd];cases q;let⟨ob,_,_,h1,h2,_⟩:=dd;show#[ob,h1,h2.2.1];let⟨_,hd,xs,_,dd⟩:=vI I.cN e;exact#[dd.typeIs,λb q=> ?_,hd];cases q;let⟨ob,_,_,h1,h2,_⟩:=dd;show#[ob,h1,h2.2.1]
def Ts {σ:St}(hu:A.units+1<cLine)(I:Inv X ah σ H s)(g:ng H a y o)(ry:RelV y u)(rd:RelV d r)(h: ∀w' s',Inv X ah σ H s' ->RelV (o.getD d) w' ->Q w' s'): wpAny (model X.prog X.w) A (call (.builtin "dict.get") [.ref a,u,r]) Q E s:=by
 rcases g with⟨kvs,k,e,ey,l⟩ | ⟨kvs,k,b,e,ey,eb,l⟩
 subst ey;let⟨z,hd,vs,gg,dd⟩:=pR I.cN e;exact call_meetsIn PySem.F.slot_dict_get dd.typeIs PySem.F.entry_dict_get (PySem.F.args_dict_get_3 _ _ _) (meets_dict_get_default (cH X.prog X.w) a (rV ry) hd r) #[_,dd.mapOf,h _ _ (I.tok _) ?_];rw[l];show(gg.val k).getD rd;subst ey;cases (show u=Value.ref b from ry);let⟨z,hd,xs,gg,dd⟩:=vI I.cN e;exact call_meetsIn PySem.F.slot_dict_get dd.typeIs PySem.F.entry_dict_get (PySem.F.args_dict_get_3 _ _ _) (meetsH_dict_get_default (tupleKind (cH X.prog X.w)) a b hd r) #[tupleKind_room_in1 hu,k,xs,qO I.cN eb,dd,h _ _ (I.tok _) ?_];rw[l];show(gg.val k).getD rd
def Ij (td ty tx:TE):TE:=λσ H Q=>td σ H λx H1=> ∃a,cW (x= .ref a) (IsD H1 a) (ty σ H1 λy H2=>tx σ H2 λz H3=> ∃o,ng H3 a y o /\ Q (o.getD z) H3)
def Ig (td ty:TE):TE:=λσ H Q=>td σ H λx H1=> ∃a,cW (x= .ref a) (IsD H1 a) (ty σ H1 λy H2=>eQ λkvs k v=>fj (H2 a=some (.dK kvs)) (y=kV k) (iX kvs k=some v) (Q v (cK H2 a (.dK (ml kvs k)))))
def Az (hu:X.A.units+1<cLine)(ho:PE X o td)(he:PE X e ty)(hf:PE X f tx)(m:M2 X o "get" dH e f dk):PE X (.Call (.Attribute o "get" dH) [e,f] [] dk) (Ij td ty tx):=by intro ah s σ H Q I h;exact wpAny_Call_method m.base m.C7 m.line PySem.F.plainAttrs_dict PySem.F.slot_dict_get PySem.F.type_dict_get (cV (ho ah s σ H _ I h) λu s1 ⟨x,H1,I1,rx,a,ex,d,q1⟩=> ?_);subst ex;obtain rfl:u=Value.ref a:=rx;let⟨t1,t2,_⟩:=CV I1 d;exact#[t1,t2,?_];rw[m.trees];exact Calls.callWith_builtin rfl (Calls.evalArgs_plain (Calls.spliced_cons (cV (he ah s1 σ H1 _ I1 q1) λiv s2 ⟨y,H2,I2,ry,q2⟩=>Calls.spliced_cons (cV (hf ah s2 σ H2 _ I2 q2) λfv s3 ⟨z,H3,I3,rz,ov,g,q3⟩=>Calls.spliced_nil ?_))));show Ts hu I3 g ry rz λw' s4 I4 yG=>#[_,H3,I4,yG,q3]
def Ay (ho:PE X o td)(he:PE X e ty)(m:M1 X o "pop" dH e dk):PE X (.Call (.Attribute o "pop" dH) [e] [] dk) (Ig td ty):=by intro ah s σ H Q I h;exact wpAny_Call_method m.base m.C7 m.line PySem.F.plainAttrs_dict PySem.F.slot_dict_pop PySem.F.type_dict_pop (cV (ho ah s σ H _ I h) λu s1 ⟨x,H1,I1,rx,a,ex,d,q1⟩=> ?_);subst ex;obtain rfl:u=Value.ref a:=rx;let⟨t1,t2,_⟩:=CV I1 d;exact#[t1,t2,?_];rw[m.trees];exact Calls.callWith_builtin rfl (Calls.evalArgs_plain (Calls.spliced_cons (cV (he ah s1 σ H1 _ I1 q1) λiv s2 ⟨y,H2,I2,ry,kvs,k,v,ea,ey,l,q2⟩=>Calls.spliced_nil ?_)));subst ey;show XN I2 ea ry l (.inl rfl) λw' s3 I3 yG=>#[v,_,I3,yG,q2]
end L2
namespace Att
open PySem PySem.W PySem.Calls PyProof.Rows
def tq: ∀ (ns:cA Int) (vs:cA c7),WellAll P h vs (ns.map WData.int) ->IntsAre vs ns:=by
 intro ns;induction ns with
 | nil=>intro vs w;rw[List.map_nil] at w;cases w;show .nil
 | cons n ns ih=>
  intro vs w;rw[aN] at w;cases w with
  | cons a b=>cases a;show .cons _ _ (ih _ b)
def FX {l:OpenLaw}(hn:l.most=some n)(NN:l.row.toRowW.claim.pre args=true)(hwl:WellAll P h vals args): eQ λa vs ns=>gm (vals= [Value.ref a]) (args= [WData.list (ns.map WData.int)]) (h.get? a=some {cls:= .type "list",data:= .seq vs.toArray}) (IntsAre vs ns) (ns.length<=n):=by
 have SS:WShape.hasAll [] args [.list .int]=true:=(pre_splitW NN).1;have hc:l.pre.holds [] {args:=args}=true:=(pre_splitW NN).2;let⟨d,r,rfl,h1,h2⟩:=hasAllW_cons SS;obtain rfl:=hasAllW_nil h2;let⟨xs,rfl,h3⟩:=hasW_list h1;let⟨ns,rfl⟩:=items_int h3;have dJ:ns.length<=n:=by
  unfold OpenLaw.pre at hc;have h4:(WTm.not (.lt (.lit (.int (n:Int))) (.len (.arg 0)))).holds [] {args:= [.list (ns.map .int)]}=true:=by have h4:=(holds_andW hc).1;rw[hn] at h4;show h4
  have h5:=condW_of h4 (w_not (w_lt w_lit (w_len_list (w_arg rfl))));rw[af] at h5;exact Nat.le_of_not_lt λq=> ?_;have q':(n:Int) < ((ns.length:Nat):Int):= ∅;first
  | (rw[a6 q'] at h5;show absurd h5 ⋯)
  | (simp at h5;lia)
 cases hwl with
 | cons w1 w2=>
  cases w2;cases w1 with
  | list ho wK=>show#[_,_,ns,rfl,rfl,ho,tq ns _ wK,dJ]
theorem Ga (l:OpenLaw)(args:cA WData):l.row.toRowW.claim.post args (.bool true) args=true:=postW_of (r:=l.row.toRowW) (X:=(true==true)) (show WShape.has [] (.bool true) .bool=true by first | rfl | decide | simp[WShape.has,WShape.arms,WShape.armsAll]) (show(WTm.eq .res (.lit (.bool true))).value [] {args:=args,res:=some (.bool true),after:=args}=some (.bool (true==true)) from w_eq_bool (w_res rfl) w_lit) rfl
def BE {l:OpenLaw}(hn:l.most=some n)(Td:d.params.defaults= [])(call: ∀ (w:World) (s₀ s₁:dz) (mg mb:Str ->e9 c7) (fa:fP) (o:Obj) (pm cd jq:c7) (a:fP) (vs:cA c7) (ns:cA Int),Ground q xw [] XP w s₀ mg mb s₁.heap ->YP w s₁.heap ->s₁.heap.get? fa=some o ->o.data= .func (docDef d.name d.params d.body d.scope pm cd jq) ->s₁.heap.CodeRec cd d.name ->mg d.name=some (.ref fa) ->s₁.heap.get? a=some {cls:= .type "list",data:= .seq vs.toArray} ->IntsAre vs ns ->ns.length<=n ->s₁.gens= #[] ->codeAny (model l.prog w) callerA (.call (.ref fa) #[[.ref a],[]]) (λr s'=>r= .ok (.ret (.bool true)) /\ OldK s₁.heap s'.heap /\ s'.os=s₁.os /\ AllBare s'.gens) s₁): WalkO q xw XP YP l.row.toRowW d [] (λf vs=>PySem.call f vs):=by intro w s₀ s₁ mg mb G Y fa o pm cd jq dV kV ho hd E5 hD hmg hg args vals as NN ai5 hrd hwl S6;obtain rfl:dV= .none:=Dflts.none hD Td;obtain rfl:kV= .none:=Dflts.noKw hD;let⟨a,vs,ns,rfl,rfl,SW,Kj,dJ⟩:=FX hn NN hwl;exact enter_call (codeAny_mono (call w s₀ s₁ mg mb fa o pm cd jq a vs ns G Y ho (fd_plain hd) E5 hmg SW Kj dJ hg) λr s' hq=> ?_);let⟨rfl,h2,h3,h4⟩:=hq;show#[.inl #[.bool true, .bool true,[],rfl,λ_=>rfl, .bool true,Ga l _,λ_=>#[List.Pairwise.nil,λ_ hm=>(nomatch hm)]],h2,h3,h4]
end Att
namespace L2
open PySem PySem.Spec PyProof.Rows
theorem qm: ∀ {vs:cA c7} {ns:cA Int},IntsAre vs ns ->cb (ns.map V.int) vs
 | _,_, .nil=> .nil
 | _,_, .cons n t h=> .cons #[t,rfl] (qm h)
def TD (H:Hp):Prop:= ∀b,H b=none \/ ∃o xs,H b=some (.lg o (.lst xs))
def JK {K:WV}(KX:K.In s₁.heap)(tP:s₁.heap.Ns mainGlobals mg)(hb:s₁.heap.Ns builtinsNs mb)(hbb: ∀x:Str,x≠ "__name__" ->mb x=bootBuiltins x)(abe:s₁.heap.NoLimit)(hg:s₁.gens= #[])(ha:s₁.heap.get? a=some {cls:= .type "list",data:= .seq vs.toArray})(hi:IntsAre vs ns)(hl:ns.length<=sizeLine)(hr:eR k callerA)(F: ∀base:Heap,K.In base ->base.Ns mainGlobals mg ->bD P w K mg base CX k fa fd [x] sp)(Xr: ∀ (s:dz) (u:c7),BindsTo s fd #[[u],[]] [(x,u)])(wq: ∀H:Hp,TD H ->g0 K H a (ns.map V.int) ->sp [.ref a] H (λv _=>v= .bl true) λ_ _ _=>False)(hCX: ∀H e s',CX [] H s₁ (λ_ _ _=>False) e s' ->False): codeAny (model P w) callerA (.call (.ref fa) #[[.ref a],[]]) (λr s'=>r= .ok (.ret (.bool true)) /\ OldK s₁.heap s'.heap /\ s'.os=s₁.os /\ AllBare s'.gens) s₁:=by
 have rv:=qm hi;have aaA:=hi.length;have core : ∀H:Hp,TD H ->g0 K H a (ns.map V.int) ->mY P w H s₁.heap ->(∀b,H b≠none ->b=a) ->(H a≠none ->K.lookup a=none) ->codeAny (model P w) callerA (.call (.ref fa) #[[.ref a],[]]) (λr s'=>r= .ok (.ret (.bool true)) /\ OldK s₁.heap s'.heap /\ s'.os=s₁.os /\ AllBare s'.gens) s₁:=by
  intro H hO hS cN hA hK;have FA: ∀ {b:fP} {o:Obj},s₁.heap.get? b=some o ->H b=none ->(zj s₁.heap H).get? b=some o:=λe n=>Kk e n;have PD: ∀ {b:fP} {o:Obj} {es:gH DictEntry} {ep:Nat},s₁.heap.get? b=some o ->o.data= .dict es ep ->H b=none:=λ{b o es ep} e d=>by
   cases q:H b with
   | none=>rfl
   | some u=>have e':b=a:=hA b (by rw[q];simp);subst e';rw[ha] at e;cases e;have d':Data.seq vs.toArray _=Data.dict es ep:=d;cases d'
  have Zd: ∀ {b:fP} {m:Str ->e9 c7},s₁.heap.Ns b m ->(zj s₁.heap H).Ns b m:=λ{b m} ⟨o,es,ep,e,d,r⟩=>#[o,es,ep,FA e (PD e d),d,r]
  have hKb:K.In (zj s₁.heap H):=λb o e=>FA (KX b o e) (by
   cases q:H b with
   | none=>rfl
   | some u=>have e':b=a:=hA b (by rw[q];simp);subst e';rw[hK (by rw[q];simp)] at e;cases e)
  have hM:Mod K mg (zj s₁.heap H):=#[hKb,Zd tP,#[mb,Zd hb,hbb],let ⟨mc,h1,h2⟩:=abe;#[mc,Zd h1,h2]]
  have e0:Dz P w K mg (zj s₁.heap H) callerA [] s₁ H:=#[rfl,hM,λb o e=>Nh e,Nat.le_of_eq (GL _ _),trivial,λb hb=>absurd (show b∈([]:cA fP) from hb) (by simp),cN, .of_eq hg]
  exact codeAny_mono ((F _ hKb (Zd tP)).run callerA [] s₁ H #[[.ref a],[]] [.ref a] [.ref a] _ _ hr e0 (Xr s₁ (.ref a)) (.cons rfl .nil) (wq H hO hS)) λr s' h=> ?_;cases r with
  | error e=>show(hCX H e s' h).elim
  | ok fl =>
   cases fl with
   | next=>show False.elim h
   | brk=>show False.elim h
   | cont=>show False.elim h
   | ret u=>
    let⟨v,H',os,bare,un,aa',r',q⟩:=h;have q':v= .bl true:=q;subst q';obtain rfl:u=Value.bool true:=r';exact#[rfl,OldK.of_keep λb o e=> ?_,os,bare];cases q:H b with
    | none=>show un.keep b o e q (by intro z;show absurd (show b∈([]:cA fP) from z) (by simp)) (by simp)
    | some u=>obtain z | ⟨ob,xs,z⟩:=hO b;rw[q] at z;cases z;have z2:=un.m_ b ob _ z;let⟨e1,_⟩:=cN b _ z;let⟨e2,_⟩:=aa' b _ z2;rw[e] at e1;cases e1;show e2
 cases hk:K.lookup a with
 | some o=>have e:=KX a o hk;rw[ha] at e;cases e;exact core (λ_=>none) (λ_=> .inl rfl) (.inr #[_,vs.toArray,_,hk,rfl,rfl,rfl,by rw[aM,aaA];show hl, ⇑rv]) (λb u z=>by have z':(none:e9 HO)=some u:=z;cases z') (λb z=>absurd rfl z) λz=>absurd rfl z
 | none=>exact core (λb=>if b=a then some (.lg {cls:= .type "list",data:= .seq vs.toArray} (.lst (ns.map V.int))) else none) (λb=> ?_) (.inl (.inr #[{cls:= .type "list",data:= .seq vs.toArray},ao rfl])) (λb u z=> ?_) (λb z=> ?_) λ_=>hk;by_cases hb:b=a;show .inr #[_,_,ao hb];show .inl (ak hb);by_cases hb:b=a;have z':=(ao hb).symm.trans z;cases z';subst hb;show#[ha,by rw[af];show hl,vs,_,rv,ha];have z':=(ak hb).symm.trans z;cases z';by_cases hb:b=a;show hb;show absurd (ak hb) z
def Md {l:W.OpenLaw}{K:Params ->WV}{CX:World ->B9}{sp:World ->Sp}(hn:l.most=some n)(wt:n<=sizeLine)(Td:d.params.defaults= [])(hr:eR k callerA)(hY: ∀ (w:World) (h:Heap),YP w h ->(K w.params).In h)(F : ∀ (w:World) (mg:Str ->e9 c7) (fa:fP) (h:Heap),(K w.params).In h ->h.Ns mainGlobals mg ->mg d.name=some (.ref fa) ->∃ fd:FuncData,(∀ (s:dz) (u:c7),BindsTo s fd #[[u],[]] [(x,u)]) /\∀base:Heap,(K w.params).In base ->base.Ns mainGlobals mg ->bD l.prog w (K w.params) mg base (CX w) k fa fd [x] (sp w))(wq: ∀ (w:World) (H:Hp) (a:fP) (ns:cA Int),ns.length<=n ->TD H ->g0 (K w.params) H a (ns.map V.int) ->sp w [.ref a] H (λv _=>v= .bl true) λ_ _ _=>False)(hCX: ∀ (w:World) (H:Hp) (s:dz) (e:c7) (s':dz),CX w [] H s (λ_ _ _=>False) e s' ->False): W.WalkO q xw XP YP l.row.toRowW d [] (λf vs=>PySem.call f vs):=by exact Att.BE hn Td λw s₀ s₁ mg mb fa o pm cd jq a vs ns G Y ho hd E5 hmg SW Kj dJ hg=> ?_;have KX:=hY w _ Y;let⟨fd,hb,hF⟩:=F w mg fa _ KX G.T.g hmg;show JK KX G.T.g G.T.b G.T.builtins G.T.nolimit hg SW Kj (ar dJ wt) hr hF hb (λH hO hS=>wq w H a ns dJ hO hS) λH e s'=>hCX w H s₁ e s'
nonrec def fh (s:Stmt):Arguments:=match s with
 | .FunctionDef _ a _ _ _ _ _ _ _ _=>a
 | _=> {posonlyargs:= [],args:= [],vararg:=none,kwonlyargs:= [],kw_defaults:= [],kwarg:=none,defaults:= []}
nonrec def dL (s:Stmt):cA Stmt:=match s with
 | .FunctionDef _ _ b _ _ _ _ _ _ _=>b
 | _=> []
nonrec def aS (s:Stmt):Scope:=match s with
 | .FunctionDef _ _ _ _ _ _ sc _ _ _=>sc
 | _=> {kind:= .function,names:= [],isGenerator:=false,isCoroutine:=false}
abbrev fi:B9:=λ_ _ _ _ _ _=>False
abbrev E0:XK:=λ_ _ _=>False
theorem Ew:g_ fi X E0:=λ_ _ _ _ _ _ _ h=>h.elim
structure BL (K:PySem.W.Frag)(x qual:Str)(st:Stmt)(f:Addr)(fd:FuncData):Prop where
 ex:ZN λ(oc:Value) (od:Option Addr) (kV jq pm:Value) (an:Option Addr) (cdv ct:Value)=> ∃ (CB:Array (Option Value)),cW (fd=PySem.W.fnOf x qual (fh st) (dL st) (aS st) .none kV jq pm an cdv ct) (K.lookup f=some #[oc,od, .func fd,CB]) (PySem.W.codeIn K cdv qual=true)
 kp:PySem.W.keepIn K (.ref f)=true
def BL.ok {K:WV}{st:Stmt}(F:BL K x qual st f fd)(S:cf N ps (aS st))(len: ∀vs H Q E,sp vs H Q E ->vs.length=ps.length)(jN: ∀ (cdv:c7) (A:Around) (outer:cA Env) (s:dz) (H:Hp) (vs:cA V) (Q:VK) (E:XK),eR k (A.deeper (envOfC qual (aS st) s.heap.objs.size f cdv)) ->sp vs H Q E ->∃t,zS (eI fi P w K mg base N qual (aS st) f cdv A outer s H E).LL (dL st) t /\ t {nx:=λ_ H'=>Q .d3 H',rt:=Q} (start N vs) H):bD P w K mg base fi (k+1) f fd ps sp:=by let⟨oc,od,kV,jq,pm,an,cdv,ct,CB,rfl,lk,E5⟩:=F.ex;exact Qo lk E5 S len λA outer s H vs Q E hr wq=> ?_;let⟨t,h,q⟩:=jN cdv A outer s H vs Q E hr wq;show#[t,h.LL,q]
def BL.binds {K:WV}{st:Stmt}(F:BL K x qual st f fd)(h: ∀ (kV jq pm:c7) (an:e9 fP) (cdv ct:c7) (us:cA c7),us.length=ps.length ->bindArgs (W.fnOf x qual (fh st) (dL st) (aS st) .none kV jq pm an cdv ct) #[us,[]]=pure (ps.zip us)):Binds K fd ps []:=by let⟨oc,od,kV,jq,pm,an,cdv,ct,CB,rfl,lk,E5⟩:=F.ex;show .all (h kV jq pm an cdv ct)
theorem rj {K:WV}{st:Stmt}{kV jq pm cdv ct:c7}(l:K.lookup f=some #[oc,od, .func (W.fnOf x qual (fh st) (dL st) (aS st) .none kV jq pm an cdv ct),CB])(c:W.codeIn K cdv qual=true)(k:W.keepIn K (.ref f)=true):BL K x qual st f (W.fnOf x qual (fh st) (dL st) (aS st) .none kV jq pm an cdv ct):=#[#[oc,od,kV,jq,pm,an,cdv,ct,CB,rfl,l,c],k]
theorem dU (hr:eR k A):A.units+1<cLine:=Nat.lt_of_le_of_lt (Nat.add_le_add_left (by decide:1<=64) _) hr.units
theorem pv {X:Cx}(i:Nat){pos:Pos}(hN:X.N[i]? =some x:=by rfl)(hv:X4 X.env.scope x:=by first | show Or.inl rfl | show Or.inr (Or.inl rfl) | show Or.inr (Or.inr rfl))(hd:(x==("__debug__" :Str))=false:=by decide)(E5:(x==("__classdict__" :Str))=false:=by decide):PE X (.Name x pos) (Mu i):=RE hN hv hd E5
def ge (H H':Hp):Prop:= ∀b o,H b=some o ->H' b=some o
section
variable {κ:Type} [DecidableEq κ]
theorem ED: ∀ {l:cA κ} {k:κ},l.Nodup ->¬k∈l ->(l++ [k]).Nodup
 | [],k,_,_=>by simp
 | a::r,k,h,hk=>by let⟨h1,h2⟩:=List.nodup_cons.mp h;change(a::(r++ [k])).Nodup;exact List.nodup_cons.mpr #[λm=> ?_,ED h2 λm=>hk (aT.mpr (Or.inr m))];obtain q | q:=a9.mp m;show h1 q;show hk (aT.mpr (Or.inl (be.mp q).symm))
end
def cL {α:Type}{c:α}{l:cA (Str×α)}:((y,c)::l).lookup x=if x=y then some c else l.lookup x:=by by_cases h:x=y;subst h;simp[List.lookup_cons];rw[ak h,List.lookup_cons];have:(x==y)=false:= ⇑h;rw[this]
theorem kc {env:Env}: ∀ (names:cA (Str×NameKind)) (fX:cA (Str×fP)),(∀y∈names,y.2= .free -> ∃c,env.cells.lookup y.1=some c) ->(∀x c,fX.lookup x=some c ->env.cells.lookup x=some c) ->∃cl,fj ((forIn names fX λx s=>if(x.snd==NameKind.free)=true then(do let c <- cellOf env x.fst;pure (ForInStep.yield ((x.fst,c)::s)):Sem _) else pure (ForInStep.yield s))=(pure cl:Sem (cA (Str×fP)))) (∀x c,cl.lookup x=some c ->env.cells.lookup x=some c) (∀x,(fX.lookup x).isSome=true ->(cl.lookup x).isSome=true) (∀y∈names,y.2= .free ->(cl.lookup y.1).isSome=true)
 | [],fX,_,h2=>#[fX,rfl,h2,λ_ h=>h,λ_ h=>absurd h (by simp)]
 | (n, k)::r,fX,h1,h2=>by
  by_cases hk:k=NameKind.free;subst hk;let⟨c,hc⟩:=h1 (n, .free) List.mem_cons_self rfl;have Ql: ∀x c',((n,c)::fX).lookup x=some c' ->env.cells.lookup x=some c':=λx c' e=>by rw[cL] at e;by_cases hx:x=n;rw[ao hx] at e;cases e;rw[hx];show hc;rw[ak hx] at e;show h2 x c' e
  let⟨cl,e1,e2,e3,e4⟩:=kc r ((n,c)::fX) (λy hy=>h1 y (dg _ hy)) Ql;exact#[cl,?_,e2,λx hx=>e3 x ?_,λy hy hf=> ?_];rw[List.forIn_cons];have:cellOf env n=pure c:=by unfold cellOf;rw[hc]
  simp![beq_self_eq_true,b0,this,pure_bind];show e1;rw[cL];by_cases W4:x=n;rw[ao W4];rfl;rw[ak W4];show hx;obtain rfl | hy:=aT.mp hy;exact e3 n ?_;rw[cL,ao rfl];rfl;show e4 y hy hf;let⟨cl,e1,e2,e3,e4⟩:=kc r fX (λy hy=>h1 y (dg _ hy)) h2;exact#[cl,?_,e2,e3,λy hy hf=> ?_];rw[List.forIn_cons];have:(k==NameKind.free)=false:= ⇑hk;simp![this,aC,bC,pure_bind];show e1;obtain rfl | hy:=aT.mp hy;show absurd hf hk;show e4 y hy hf
def vQ (h: ∀y∈scope.names,y.2= .free -> ∃c,env.cells.lookup y.1=some c): ∃cl,cW (closureFor scope env=pure cl) (∀x c,cl.lookup x=some c ->env.cells.lookup x=some c) (∀y∈scope.names,y.2= .free ->(cl.lookup y.1).isSome=true):=by let⟨cl,e1,e2,_,e4⟩:=kc scope.names [] h (λ_ _ e=>by simp at e);exact#[cl,?_,e2,e4];simp![closureFor];rw[e1,pure_bind]
theorem iJ {env:Env}: ∀ {names:cA (Str×NameKind)} {x:Str} {k:NameKind},(names.map λ(n,k)=>if(k==NameKind.free && env.scope.kind== .function && env.kindOf n==some .cell) then(n,NameKind.cell) else(n,k)).lookup x=some k ->names.lookup x=some k \/ (k= .cell /\ names.lookup x=some .free)
 | [],_,_,h=>by simp at h
 | (n, j)::r,x,k,h=>by
  have ih:= @iJ env r x k;rw[aN] at h;by_cases hc:(j==NameKind.free && env.scope.kind== .function && env.kindOf n==some .cell)=true;simp![hc,b0] at h;rw[cL] at h;rw[cL];by_cases hx:x=n;rw[ao hx] at h ⊢;cases h;have hj:j=NameKind.free:=by rw[cz,cz] at hc;show eq_of_beq hc.1.1
  show .inr #[rfl,by rw[hj]];rw[ak hx] at h ⊢;show ih h;simp![hc,aC,bC] at h;rw[cL] at h;rw[cL];by_cases hx:x=n;rw[ao hx] at h ⊢;show .inl h;rw[ak hx] at h ⊢;show ih h
theorem hV {env:Env}: ∀ {names:cA (Str×NameKind)} {x:Str},names.lookup x=some .free ->(names.map λ(n,k)=>if(k==NameKind.free && env.scope.kind== .function && env.kindOf n==some .cell) then(n,NameKind.cell) else(n,k)).lookup x=some .cell \/(names.map λ(n,k)=>if(k==NameKind.free && env.scope.kind== .function && env.kindOf n==some .cell) then(n,NameKind.cell) else(n,k)).lookup x=some .free
 | [],_,h=>by simp at h
 | (n,j)::r,x,h=>by have ih:= @hV env r x;rw[aN];rw[cL] at h;by_cases hc:(j==NameKind.free && env.scope.kind== .function && env.kindOf n==some .cell)=true;simp![hc,b0];rw[cL];by_cases hx:x=n;rw[ao hx];show .inl rfl;rw[ak hx] at h ⊢;show ih h;simp![hc,aC,bC];rw[cL];by_cases hx:x=n;rw[ao hx] at h ⊢;cases h;show .inr rfl;rw[ak hx] at h ⊢;show ih h
abbrev bT (X:Cx)(N':cA Str)(scope:Scope)(cl:cA (Str×fP))(fp:cA fP)(s3:dz)(H3:Hp):Cx:={X with N:=N',s₀:=s3,H₀:=H3,env:=compEnvC scope cl s3.heap.objs.size X.env,outer:=X.stack,stack:=X.stack,ex:=fp,fn:=λ_=>false,pn:= [],xe:=λ_ _=>False}
def k_ (own:Nat)(fr:cA Nat)(σ:St):St:=List.replicate own none++fr.map λj=>(σ[j]?).join
structure cU (X:Cx)(own:List Str)(fr:List Nat)(N':List Str)(scope:Scope):Prop where
 kind:scope.kind= .function
 names:N'=own++fr.filterMap (λj=>X.N[j]?)
 len:N'.length=own.length+fr.length
 nd:N'.Nodup
 u9: ∀y∈scope.names,y.2≠ .cell
 loc: ∀y∈scope.names,y.2= .local ->scope.names.lookup y.1=some .local
 UC: ∀x∈fr.filterMap (λj=>X.N[j]?),scope.names.lookup x=some .free
 free: ∀y∈scope.names,y.2= .free ->X.env.kindOf y.1=some .cell \/ X.env.kindOf y.1=some .free
theorem pF {N:cA Str}: ∀ {fr:cA Nat} {k:Nat} {x:Str},(fr.filterMap (λj=>N[j]?)).length=fr.length ->(fr.filterMap (λj=>N[j]?))[k]? =some x -> ∃j,fr[k]? =some j /\ N[j]? =some x
 | [],_,_,_,e=>by simp at e
 | j ::r,k,x,hl,e=>by
  cases hj:N[j]? with
  | none=>rw[List.filterMap_cons,hj] at hl;have:=List.length_filterMap_le (λj=>N[j]?) r;simp![aB] at hl;lia
  | some y=>
   rw[List.filterMap_cons,hj] at hl e;simp![aB,Nat.add_right_cancel_iff] at hl;cases k with
   | zero=>simp at e;show#[j,by simp,by rw[hj,e]]
   | succ k=>show pF (k:=k) hl ⇑e
def AZ {σ:St}{fp:cA fP}(S:cU X own fr N' scope)(I:Inv X ah σ H s)(k9: ∀x c,cl.lookup x=some c ->X.env.cells.lookup x=some c)(wJ: ∀y∈scope.names,y.2= .free ->(cl.lookup y.1).isSome=true)(A7: ∀b∈fp,lf X ah H b)(hft: ∀b∈fp,b<s.heap.objs.size)(tP:h'.Ns s.heap.objs.size (λ_=>none))(hk: ∀b o,s.heap.get? b=some o ->h'.get? b=some o): Inv (bT X N' scope cl fp s H) [] (k_ own.length fr σ) H {s with heap:=h',toks:=t}:=by
 have look: ∀x,(compEnvC scope cl s.heap.objs.size X.env).kindOf x=(relabel scope X.env).names.lookup x:=λ_=>rfl
 have Xz:(fr.filterMap (λj=>X.N[j]?)).length=fr.length:=by have:=S.len;rw[S.names,aD] at this;lia
 exact#[#[I.ok.mod,?_,I.ok.glob,I.ok.blt,aq _,λx y c e1 e2=>I.ok.inj x y c (k9 _ _ e1) (k9 _ _ e2),λx hx=> ?_,(λx c z _=>nomatch z),I.ok.hd,I.ok.frames, .inl rfl,λb hb=>#[?_,λx c e=>(A7 b hb).2.2.2.2.1 x c (k9 x c e)],I.bs,ar I.ok.K6 I.sz,λb o e hb=> ?_,λb hb hz=> ?_,I.stack,I.t7],
  rfl,I.bare,Un.kept hk,#[_,tP,λi x v e1 e2 e3=> ?_],λx c e=> ?_,I.cN.fresh (aq _),λx c e=>I.gK x c (k9 x c e),λp hp=>absurd (show p∈([]:cA (fP×Obj)) from hp) (by simp),I.cN.kept hk,?_]
 change(relabel scope X.env).kind=_
 show S.kind
 have W4:scope.names.lookup x=some .free:=by obtain hx | hx:=hx;obtain q | ⟨_,q⟩:=iJ hx;show absurd rfl (S.u9 _ (dA q));show q;obtain q | ⟨q,_⟩:=iJ hx;show q;cases q
 show Option.isSome_iff_exists.mp (wJ _ (dA W4) rfl)
 show bA (hft b hb)
 obtain z | z:=(A7 b hb).2.2.2.1
 show I.ok.Gs b o e z
 show absurd (bx (aR e) (ar I.ok.K6 z)) (Nat.lt_irrefl _)
 obtain q | q:=aT.mp (I.yx b hz)
 show(A7 b hb).2.1 q
 show(A7 b hb).2.2.1 q
 -- a aax value
 have e1:(own++fr.filterMap (λj=>X.N[j]?))[i]? =some x:=by rw[<- S.names];show e1
 unfold k_ at e2
 by_cases hi:i<own.length
 rw[bn ⇑hi,dh,ao hi] at e2
 cases e2
 rw [bf ⇑hi,List.length_replicate] at e2
 rw[bf ⇑hi] at e1
 let⟨j,ej,ex⟩:=pF Xz e1
 rw[aI,ej] at e2
 have e2:(σ[j]?).join=some v:= ⇑e2
 have e2':σ[j]? =some (some v):=by
  cases q:σ[j]? with
  | none=>rw[q] at e2;cases e2
  | some w=>rw[q] at e2;simp at e2;rw[e2]
 have hf:=S.UC x (aV e1)
 have hm:=dA hf
 let⟨m,_,hl⟩:=I.loc
 have _Q:X4 X.env.scope x:=by obtain q | q:=S.free _ hm rfl;show .inr (.inl q);show .inr (.inr q)
 let⟨u,r,l⟩:=hl j x v ex e2' _Q
 exact#[u,r, .inr #[?_,?_]]
 show hV hf
 rcases l with⟨k,_⟩ | ⟨_,c,ec,z⟩
 obtain q | q:=S.free _ hm rfl
 rw[k] at q;cases q
 rw[k] at q;cases q
 let⟨c',ec'⟩:=Option.isSome_iff_exists.mp (wJ _ hm rfl)
 have:=k9 _ _ ec'
 rw[ec] at this
 cases this
 show#[c,ec',z.keeps hk]
 let⟨v,z⟩:=I.cell x c (k9 x c e)
 show#[v,z.keeps hk]
 change(k_ own.length fr σ).length=N'.length
 unfold k_
 rw[aD,List.length_replicate,af,S.len]
def Qx (X:Cx)(cs:cA Expr)(t:TT):Prop:=∀ (ah:cA (fP×Obj)) (s:dz) (σ:St) (H:Hp) (Q:Bool ->Hp ->Prop),Inv X ah σ H s ->t σ H Q ->wpAny (model X.prog X.w) X.A (forIn cs true λc r=>if r=true then do let ok <- isTrue c X.env (eval c X.env);pure (ForInStep.yield ok) else pure (ForInStep.yield r)) (TP X ah σ Q) X.xe s
def Vn:TT:=λ_ H Q=>Q true H
theorem dw:Qx X [] Vn:=λah s σ H Q I h=>wpAny_tests_nil #[H,I,h]
theorem ud (h:PT X c t):Qx X [c] t:=λah s σ H Q I q=>wpAny_tests_one (h ah s σ H Q I q)
theorem GZ (I:Nat ->dz ->Prop)(turn : ∀n s,I n s ->wpAny (model prog w) A (pyNext it) (λr s₁=>match r with
   | none=>R (.ok .next) s₁
   | some v=>wpAny (model prog w) A (letOwnedTupleGo qt it v) (λ_ s₀=>wpAny (model prog w) A (assign qt env v) (λ_ s₂=>
    wpAny (model prog w) A (forIn i0 true λc r=>if r=true then do let ok <- isTrue c env (eval c env);pure (ForInStep.yield ok) else pure (ForInStep.yield r)) (λok s₃=>if ok=true then wpAny (model prog w) A (eval i5 env) (λx s₄=>wpAny (model prog w) A (call (.builtin "list.append") [fX,x]) (λ_ s₅=> ∃m,m<n /\ I m s₅) (λ_ _=>False) s₄) (λ_ _=>False) s₃ else ∃m,m<n /\ I m s₃) (λ_ _=>False) s₂)
    (λ_ _=>False) s₀) (λ_ _=>False) s₁) (λ_ _=>False) s)(n:Nat)(h:I n s):codeAny (model prog w) A (.compLoop (.ListComp i5 [#[qt,iter,i0,0]] scope pos) 0 it fX env) R s:=by
 exact codeAny_loop rfl I (λn s hI=> ?_) n h
 change wpAny _ A ((compTurn (.ListComp i5 [#[qt,iter,i0,0]] scope pos) 0 it fX env).onRaise (λx=>do noteFrame x env;theTreesLotGoes x)) _ _ s
 exact wpAny_noted ?_
 rw[compTurn_list]
 exact az (wpAny_standAt (az (bE (turn n s hI) (λr s₁ h₁=> ?_) λ_ _ h'=>h'.elim)))
 cases r with
 | none=>show a_ h₁
 | some v=>
  exact az (bE h₁ (λ_ s₀ W2=> ?_) λ_ _ h'=>h'.elim);exact az (bE W2 (λ_ s₂ h₂=> ?_) λ_ _ h'=>h'.elim);exact az (bE h₂ (λWh s₃ h₃=> ?_) λ_ _ h'=>h'.elim);cases Wh with
  | false=>show a_ #[rfl,h₃]
  | true=>show az (az (bE h₃ (λx s₄ h₄=>az (bE h₄ (λ_ s₅ h₅=>a_ (a_ #[rfl,h₅])) λ_ _ h'=>h'.elim)) λ_ _ h'=>h'.elim))
def Wk (σ0 σ2:St):Prop:=σ2.length=σ0.length /\ ∀ (i:Nat) v,σ0[i]? =some (some v) ->σ2[i]? =some (some v)
def OP (own:Nat)(g:TG):Prop:= ∀ (c:St) (v:V) (H:Hp) (Q:St ->Hp ->Prop),g v (List.replicate own none++c) H Q ->g v (List.replicate own none++c) H λσ2 H2=>Wk (List.replicate own none++c) σ2 /\ Q σ2 H2
def ed:OP 1 (lW 0):=by
 intro c v H Q h;exact#[#[by simp,λi u e=> ?_],h];cases i with
 | zero=>simp at e
 | succ i=>simpa using e
def gc {K:WV}:OP 2 (N1 K 2 (xH (lW 0) (xH (lW 1) N2))):=by
 rintro c v H Q ⟨a,xs,e,hs,hl,x,r,rfl,y,r',rfl,rfl,h⟩;exact#[a,_,e,hs,hl,x,_,rfl,y,_,rfl,rfl,#[by simp,λi u e=> ?_],h];match i with
 | 0=>simp at e
 | 1=>simp at e
 | i+2=>simpa using e
def Qu (J:It)(own:Nat)(fr:cA Nat)(g:TG)(tc:TT)(te:TE)(σ:St)(p:fP)(H1:Hp)(Q:VK):Prop:=∃ W :Nat ->Nat ->cA V ->Hp ->Prop,(∃m,W 0 m [] (cK H1 p (.lst []))) /\ ∀i m ys H',W i m ys H' ->H' p=some (.lst ys) /\((J.stop i H' /\ Q (.ref p) H') \/ (J.go i H' /\ ys.length<sizeLine /\ ∀x H2,J.TW i H' x H2 ->g x (k_ own fr σ) H2 λσ2 H3=>tc σ2 H3 λb H4=>if b=true then te σ2 H4 λy H5=> ∃zs,H5 p=some (.lst zs) /\ zs.length<sizeLine /\ ∃m',m'<m /\ W (i+1) m' (zs++ [y]) (cK H5 p (.lst (zs++ [y]))) else ∃zs m',m'<m /\ W (i+1) m' zs H4))
def O_ (wi:TI)(own:Nat)(fr:cA Nat)(g:TG)(tc:TT)(te:TE):TE:=λσ H Q=>wi σ H λJ H1=> ∀p,H1 p=none ->Qu J own fr g tc te σ p H1 Q
theorem xZ {σ:St}{σ':St}(I3:Inv X ah σ H s3)(A7: ∀b∈fp,lf X ah H b)(Ic:Inv (bT X N' scope cl fp s3 H) Er σ' H' s'):Inv X ah σ H' s':=I3.K5 (ch:=fp) Ic.os Ic.base Ic.cN Ic.bare λb hb=>#[(A7 b hb).2.2.2.1,(A7 b hb).2.1,(A7 b hb).2.2.2.2.1,(A7 b hb).2.2.2.2.2]
def xY {σ:St}{C:fP}{σ':St}(I3:Inv X ah σ H s3)(hC:C=s3.heap.objs.size)(J:Inv X ah σ' H' s')(hn:H' C=none)(hs:Heap.SameBut C s'.heap h'):Inv X ah σ' H' {s' with heap:=h'}:=by subst hC;exact J.turned (t':=s'.toks) (it:=s3.heap.objs.size) (λb o hb e=>hs.extBut b o hb e) hn (Nat.ne_of_gt I3.lt) (.inr I3.sz) (λx c e z=> ?_) λp hp z=> ?_;let⟨v,q⟩:=I3.cell x c e;show absurd q.lt (by rw[z];show Nat.lt_irrefl _);show absurd (aR (I3.pin p hp).1) (by rw[z];show Nat.lt_irrefl _)
def De {σ:St}{RR:c7 ->fP ->Result ->dz ->Prop}(lV:X.calm=true)(S:cU X own fr N' scope)(hg: ∀s3 H3,PG (bT X N' scope cl fp s3 H3) tg g)(hw:OP own.length g)(hc: ∀s3 H3,Qx (bT X N' scope cl fp s3 H3) i0 tc)(he: ∀s3 H3,PE (bT X N' scope cl fp s3 H3) i5 te)(k9: ∀x c,cl.lookup x=some c ->X.env.cells.lookup x=some c)(wJ: ∀y∈scope.names,y.2= .free ->(cl.lookup y.1).isSome=true)(I:Inv X ah σ H s)(T:zF X.prog X.w X.K tg J fp it tn)(st:tn 0 s.heap)(A7: ∀b∈fp,lf X ah H b)(h: ∀p,H p=none ->Qu J own.length fr g tc te σ p H Q)(fin: ∀ (s3:dz) (H3:Hp),Inv X ah σ H3 s3 ->(∀b∈fp,lf X ah H3 b) -> ∀ (D:fP) (σ':St) (H':Hp) (s':dz) (t:Nat),D<s3.heap.objs.size ->Inv (bT X N' scope cl fp s3 H3) [] σ' H' s' ->Q (.ref D) H' ->RR (.ref D) s3.heap.objs.size (.ok .next) s'): wpAny (model X.prog X.w) X.A (newList []) (λfX s₃=>wpAny (model X.prog X.w) X.A (newFunctionEnv scope X.env.globals cl [] X.env.qual none .none (some X.env)) (λK1 s₄=>codeAny (model X.prog X.w) X.A (.compStart (.ListComp i5 [#[tg,iter,i0,0]] scope pos) 0 (.ref it) fX {K1 with scope:=relabel scope X.env}) (RR fX K1.locals) s₄) E s₃) E s:=by
 exact wpAny_newObj_type ?_;have hf:H s.heap.objs.size=none:=I.cN.fresh (aq _);let⟨W,⟨m0,w0⟩,turn⟩:=h _ hf;generalize e3:({s with heap:=s.heap.push {cls:= .type "list",dict:=none,data:= .seq ([]:cA c7).toArray}}:dz)=s3;have Rb:s3.heap.objs.size=s.heap.objs.size+1:=by rw[<- e3];show Heap.size_push ..
 have _U: ∀b o,s.heap.get? b=some o ->s3.heap.get? b=some o:=λb o e=>by rw[<- e3];show av _ e
 have I3:Inv X ah σ (cK H s.heap.objs.size (.lst [])) s3:=by rw[<- e3];show I.laid (t':=s.toks) (λb u e=>av _ e) (aq _) #[de _,[],0, .nil,a4 _ rfl]
 have Tj: ∀b∈fp,b<s.heap.objs.size:=λb hb=>by let⟨o,e,_⟩:=T.obj 0 _ st b hb;show aR e
 have C3: ∀b∈fp,lf X ah (cK H s.heap.objs.size (.lst [])) b:=λb hb=>#[by rw[bN (bA (Tj b hb))];show(A7 b hb).1,(A7 b hb).2]
 exact wpAny_newFunctionEnv S.u9 (by intro y hy;simp at hy) (λh₁ S0 SU=> ?_) S.kind;have old: ∀b o,s3.heap.get? b=some o ->h₁.get? b=some o:=λb o e=>SU.extBut b o (bA (aR e)) (av _ e);have Ic:=AZ (t:=s3.toks+([]:cA (Str×c7)).length) S I3 k9 wJ C3 (λb hb=>by rw[Rb];show Nat.lt_succ_of_lt (Tj b hb)) S0 old;have FT:tn 0 h₁:=T.keep 0 _ _ st λb hb o e=>old b o (_U b o e);have uH: ∀ {H':Hp},(∀b∈fp,H' b=none) -> ∀b∈fp,lf (bT X N' scope cl fp s3 (cK H s.heap.objs.size (.lst []))) [] H' b:=λhn b hb=>by exact#[hn b hb,?_,?_, .inl hb,λx c e=>(A7 b hb).2.2.2.2.1 x c (k9 x c e),λp hp=>absurd (show p∈([]:cA (fP×Obj)) from hp) (by simp)];change b≠s3.heap.objs.size;rw[Rb];show bA (Nat.lt_succ_of_lt (Tj b hb));show Ic.ok.C8 b hb
 have loop:codeAny (model X.prog X.w) X.A (.compLoop (.ListComp i5 [#[tg,iter,i0,0]] scope pos) 0 (.ref it) (.ref s.heap.objs.size) (compEnvC scope cl s3.heap.objs.size X.env)) (RR (.ref s.heap.objs.size) s3.heap.objs.size) {s3 with heap:=h₁,toks:=s3.toks+([]:cA (Str×c7)).length}:=by
  exact GZ (λn s'=>eQ λi ys H'=>fj (Inv (bT X N' scope cl fp s3 (cK H s.heap.objs.size (.lst []))) [] (k_ own.length fr σ) H' s') (tn i s'.heap) (∀b∈fp,H' b=none) (W i n ys H')) ?_ m0 #[0,[],_,Ic,FT,λb hb=>(C3 b hb).1,w0];rintro n s4 ⟨i,ys,H4,I4,fU,XA,w4⟩;let⟨C4,alt⟩:=turn i n ys H4 w4;rcases alt with⟨stop,q⟩ | ⟨go,hsz,step⟩
  .exact cV (T.done (bT X N' scope cl fp s3 (cK H s.heap.objs.size (.lst []))) rfl rfl rfl lV i [] s4 _ H4 (λ_ _=>False) I4 (uH XA) fU stop) λr s5 ⟨hr,I5⟩=> ?_;subst hr;show fin s3 _ I3 C3 _ _ H4 s5 s5.toks (by rw[Rb];show Nat.lt_succ_self _) I5 q
  exact cV (T.item (bT X N' scope cl fp s3 (cK H s.heap.objs.size (.lst []))) rfl rfl rfl lV i [] s4 _ H4 (λ_ _=>False) I4 (uH XA) fU go) λr s5 ⟨u,hr,h5⟩=> ?_;subst hr;exact cV h5 λ_ s6 ⟨x,H6,I6,r6,y6,Rh,fr6⟩=> ?_;have I6':=I6.pinned (uH fr6) (T.obj _ _ Rh);have Y0:=hw _ x H6 _ (step x H6 y6);exact cV (hg s3 _ _ s6 _ H6 x u _ I6' r6 Y0) λ_ s7 ⟨σ7,H7,I7,wk,q7⟩=> ?_;have again: ∀ {H9:Hp} {s9:dz} {QA:cA V},Inv (bT X N' scope cl fp s3 (cK H s.heap.objs.size (.lst []))) ([]++iM fp s6.heap) σ7 H9 s9 ->(∃m',m'<n /\ W (i+1) m' QA H9) ->∃m,m<n /\ eQ λi ys H'=>fj (Inv (bT X N' scope cl fp s3 (cK H s.heap.objs.size (.lst []))) [] (k_ own.length fr σ) H' s9) (tn i s9.heap) (∀b∈fp,H' b=none) (W i m ys H'):=λ{H9 s9 QA} I9 ⟨m',hm,w9⟩=>by exact#[m',hm,i+1,QA,H9,(I9.jw).weak ?_ wk.2,T.keep _ _ _ Rh λb hb o e=>(I9.pin (b,o) (aY _ (aY _ (fo hb e)))).1,λb hb=> ?_,w9];show wk.1.symm;let⟨o,e,d⟩:=T.obj _ _ Rh b hb;show(I9.pin (b,o) (aY _ (aY _ (fo hb e)))).2.1
  exact cV (hc s3 _ _ s7 σ7 H7 _ I7 q7) λok s8 ⟨H8,I8,q8⟩=> ?_;cases ok with
  | false=>simp![aC,bC] at q8 ⊢;let⟨zs,q8⟩:=q8;show again I8 q8
  | true=>simp![b0] at q8 ⊢;exact cV (he s3 _ _ s8 σ7 H8 _ I8 q8) λy s9 ⟨yv,H9,I9,ry,zs,hp9,hz9,q9⟩=> ?_;exact cV (c9 _ s9 σ7 H9 (.ref s.heap.objs.size) [yv] (.ref s.heap.objs.size) [y] (λv H'=>H'=cK H9 s.heap.objs.size (.lst (zs++ [yv]))) I9 rfl (.cons ry .nil) #[_,zs,yv,rfl,rfl,hp9,hz9,rfl]) λv Rr ⟨_,UH,I10,_,e10⟩=> ?_;subst e10;show again I10 q9
 show codeAny_compStart_list loop (T.self _ 0 _ _ _ FT loop)
theorem Cx.Ok.cellsOf (ok:X.Ok)(S:cU X own fr N' scope): ∀y∈scope.names,y.2= .free -> ∃c,X.env.cells.lookup y.1=some c:=λy hy hf=>ok.has y.1 (S.free y hy hf)
def dy (lV:X.calm=true)(S:cU X own fr N' scope)(hi:PI X tg iter wi)(hg: ∀cl fp s3 H3,PG (bT X N' scope cl fp s3 H3) tg g)(hw:OP own.length g)(hc: ∀cl fp s3 H3,Qx (bT X N' scope cl fp s3 H3) i0 tc)(he: ∀cl fp s3 H3,PE (bT X N' scope cl fp s3 H3) i5 te)(hs: ∀x,foldedSetIterable iter X.env x=pure x:=by intro _;rfl):PE X (.ListComp i5 [#[tg,iter,i0,0]] scope pos) (O_ wi own.length fr g tc te):=by intro ah s σ H Q I h;let⟨cl,Km,k9,wJ⟩:=vQ (I.ok.cellsOf S);rw[eval_ListComp];exact wpAny_comprehension_free (use:=none) rfl hs Km S.kind S.loc (cV (hi ah s σ H _ I h) λv s1 h1=>cV h1 λWU s2 h2=> ?_);let⟨it,fp,tn,J,H2,e,I2,T,oB,f2,h2⟩:=h2;subst e;exact De (RR:=λfX C=>compPost (model X.prog X.w) X.A X.xe none (EP X ah σ Q) fX C) lV S (hg cl fp) hw (hc cl fp) (he cl fp) k9 wJ I2 T oB f2 h2 ?_;intro s3 H3 I3 f3 D σ' H' s' t hD Ic q;let⟨m,hn,_⟩:=Ic.loc;exact#[m,hn,λh' W'=>#[.ref D,H',?_,rfl,q]];show xY I3 rfl (xZ I3 f3 Ic) Ic.free W'
set_option genInjectivity true in
inductive Dt where
 | d3 | bl (b:Bool) | int (i:Int) | str (x:Str) | tup (l:List Dt) | lst (l:List Dt)
mutual
def Rep (K:WV)(H:Hp):Dt ->V ->Prop
 | .d3,v=>v= .d3
 | .bl b,v=>v= .bl b
 | .int i,v=>v= .int i
 | .str x,v=>v= .str x
 | .tup l,v=>cg λa vs=>cW (v= .ref a) (k7 K H a vs) (gp K H l vs)
 | .lst l,v=>cg λa vs=>cW (v= .ref a) (g0 K H a vs) (gp K H l vs)
def gp (K:WV)(H:Hp):cA Dt ->cA V ->Prop
 | [],vs=>vs= []
 | d::r,vs=>cg λv t=>cW (vs=v::t) (Rep K H d v) (gp K H r t)
end
mutual
def wL:Dt ->Dt ->Bool
 | .d3, .d3=>true
 | .bl a, .bl b=>a==b
 | .bl a, .int b=>(if a then 1 else 0)==b
 | .int a, .bl b=>a==(if b then 1 else 0)
 | .int a, .int b=>a==b
 | .str a, .str b=>a==b
 | .tup a, .tup b=>zq a b
 | .lst a, .lst b=>zq a b
 | _,_=>false
def zq:cA Dt ->cA Dt ->Bool
 | [],[]=>true
 | x::xs,y::ys=>wL x y && zq xs ys
 | _,_=>false
end
mutual
def tQ:Dt ->Nat
 | .tup l=>ka l+1
 | .lst l=>ka l+1
 | _=>0
def ka:cA Dt ->Nat
 | []=>0
 | d::r=>max (tQ d) (ka r)
end
theorem gp.length {K:WV}{H:Hp}: ∀ {l:cA Dt} {vs:cA V},gp K H l vs ->l.length=vs.length
 | [],_,h=>by simp![gp] at h;subst h;rfl
 | d::r,vs,h=>by simp![gp] at h;let⟨v,t,rfl,_,h⟩:=h;simp[gp.length h]
theorem gp.at {K:WV}{H:Hp}: ∀ {l:cA Dt} {vs:cA V} {j:Nat} {d:Dt},gp K H l vs ->l[j]? =some d -> ∃v,vs[j]? =some v /\ Rep K H d v
 | [],_,_,_,_,e=>by simp at e
 | d::r,vs,j,d',h,e=>by
  simp![gp] at h;let⟨v,t,rfl,h1,h⟩:=h;cases j with
  | zero=>simp at e;subst e;show#[v,rfl,h1]
  | succ j=>simpa using gp.at (j:=j) h ⇑e
theorem pQ: ∀ {l:cA Dt} {d:Dt},d∈l ->tQ d<=ka l
 | [],_,h=>by simp at h
 | x::r,d,h=>by simp![ka];obtain rfl | h:=aT.mp h;show Nat.le_max_left _ _;show ar (pQ h) (Nat.le_max_right _ _)
theorem j_: ∀ (a b:cA Dt),zq a b=((List.range (min a.length b.length)).all (λj=>wL (a.getD j .d3) (b.getD j .d3)) && a.length==b.length)
 | [],[]=>rfl
 | [],y::ys=>by simp[zq]
 | x::xs,[]=>by simp[zq]
 | x::xs,y::ys=>by
  have e:min (x::xs).length (y::ys).length=min xs.length ys.length+1:=by simp![aB];lia
  rw[zq,j_ xs ys,e,List.range_succ_eq_map,List.all_cons,List.all_map];have e2:((x::xs).length==(y::ys).length)=(xs.length==ys.length):=by simp
  rw[e2,Bool.and_assoc];rfl
mutual
theorem mj: ∀d:Dt,wL d d=true
 | .d3=>rfl
 | .bl b=>by simp[wL]
 | .int i=>by simp[wL]
 | .str x=>by simp[wL]
 | .tup l=>by simp![wL];show rm l
 | .lst l=>by simp![wL];show rm l
theorem rm: ∀l:cA Dt,zq l l=true
 | []=>rfl
 | x::xs=>by simp![zq,mj x,rm xs,Bool.and_self]
end
def Un.sqT {K:WV}(h: ∀b xs,Rd H b (.tup xs) ->Rd H' b (.tup xs))(q:k7 K H a xs):k7 K H' a xs:=by obtain q | q:=q;show .inl (h _ _ q);show .inr q
section
variable {X:Cx}{ah:cA (fP×Obj)}{σ:St}{H:Hp}{s:dz}
mutual
theorem Rep.inj (I:Inv X ah σ H s): ∀ (d e:Dt) (v:V),Rep X.K H d v ->Rep X.K H e v ->d=e
 | .d3,e,v,h1,h2=>by simp![Rep] at h1;subst h1;cases e<;>simp![Rep] at h2<;>first | rfl | (cases h2;done) | (let⟨_,_,q,_⟩:=h2;cases q)
 | .bl b,e,v,h1,h2=>by simp![Rep] at h1;subst h1;cases e<;>simp![Rep] at h2<;>first | (cases h2;rfl) | (cases h2;done) | (let⟨_,_,q,_⟩:=h2;cases q)
 | .int b,e,v,h1,h2=>by simp![Rep] at h1;subst h1;cases e<;>simp![Rep] at h2<;>first | (cases h2;rfl) | (cases h2;done) | (let⟨_,_,q,_⟩:=h2;cases q)
 | .str b,e,v,h1,h2=>by simp![Rep] at h1;subst h1;cases e<;>simp![Rep] at h2<;>first | (cases h2;rfl) | (cases h2;done) | (let⟨_,_,q,_⟩:=h2;cases q)
 | .tup l,e,v,h1,h2=>by
  simp![Rep] at h1;let⟨a,vs,rfl,hs,hr⟩:=h1;cases e<;>simp![Rep] at h2<;>first | (cases h2;done) | skip
  let⟨a',QW,q,gJ,iO⟩:=h2;cases q;have:=I.xb hs gJ;subst this;rw[gp.inj I l _ vs hr iO];let⟨a',QW,q,gJ,iO⟩:=h2;cases q;let⟨bJ,_,ht,_⟩:=I.tuple hs;let⟨its',_,hl,_⟩:=I.list gJ;show absurd rfl (SeqAt.ne_of_list_tuple (s:=s) hl.isList ht)
 | .lst l,e,v,h1,h2=>by
  simp![Rep] at h1;let⟨a,vs,rfl,hs,hr⟩:=h1;cases e<;>simp![Rep] at h2<;>first | (cases h2;done) | skip
  let⟨a',QW,q,gJ,iO⟩:=h2;cases q;let⟨bJ,_,ht,_⟩:=I.tuple gJ;let⟨its',_,hl,_⟩:=I.list hs;show absurd rfl (SeqAt.ne_of_list_tuple (s:=s) hl.isList ht);let⟨a',QW,q,gJ,iO⟩:=h2;cases q;have:=I.list_inj hs gJ;subst this;rw[gp.inj I l _ vs hr iO]
theorem gp.inj (I:Inv X ah σ H s): ∀ (l m:cA Dt) (vs:cA V),gp X.K H l vs ->gp X.K H m vs ->l=m
 | [],m,vs,h1,h2=>by
  simp![gp] at h1;subst h1;cases m with
  | nil=>rfl
  | cons _ _=>simp![gp] at h2;let⟨_,_,q,_⟩:=h2;cases q
 | d ::r,m,vs,h1,h2=>by
  simp![gp] at h1;let⟨v,t,rfl,h1,h3⟩:=h1;cases m with
  | nil=>simp![gp] at h2;cases h2
  | cons d' r'=>simp![gp] at h2;let⟨v',t',q,h4,h5⟩:=h2;cases q;rw[Rep.inj I d d' v h1 h4,gp.inj I r r' t h3 h5]
end
def gp.items (h:gp X.K H l vs)(r:cb vs bJ)(hj:j<bJ.length):Rep X.K H (l.getD j .d3) (vs.getD j .d3) /\ RelV (vs.getD j .d3) bJ[j] /\ l.getD j .d3∈l:=by
 have e1:=h.length;have e2:=r.length;have hl:j<l.length:= ∅;let⟨v,hv,hr⟩:=h.at (aO hl);let⟨u,hu,ru⟩:=r.get hv;have e3:l.getD j .d3=l[j]:=by simp[List.getD,hl]
 have e4:vs.getD j .d3=v:=by simp[List.getD,hv]
 rw[aO hj] at hu;cases hu;rw[e3,e4];show#[hr,ru,List.getElem_mem hl]
def Rep.wv (I:Inv X ah σ H s)(h:Rep X.K H (.tup l) x)(r:RelV x u):cg λa i=>u= .ref a /\ IsTup s.heap a i:=by simp![Rep] at h;let⟨a,vs,rfl,hs,hr⟩:=h;cases r;let⟨bJ,_,ht,_⟩:=I.tuple hs;show#[a,_,rfl,ht]
def Rep.wF (I:Inv X ah σ H s)(h:Rep X.K H (.lst l) x)(r:RelV x u):cg λa i=>u= .ref a /\ s.heap.IsList a i:=by simp![Rep] at h;let⟨a,vs,rfl,hs,hr⟩:=h;cases r;let⟨bJ,_,ht,_⟩:=I.list hs;show#[a,_,rfl,ht.isList]
def KD (I:Inv X ah σ H s)(n:Nat): ∀ (A:Around) (d e:Dt) (x y:V) (u v:c7),tQ d<=n ->A.units+n<cLine ->Rep X.K H d x ->Rep X.K H e y ->RelV x u ->RelV y v ->SeqAt.EqAt A s u v (wL d e):=by
 induction n using Nat.strongRecOn with
 | _ n ih=>
 intro A d e x y u v hn hu h1 h2 r1 r2;cases d<;>cases e;case tup.tup l m=>
  have ZG:=h1
  have Ql:=h2
  simp![Rep] at h1 h2
  let⟨a,vs,rfl,hs,hr⟩:=h1
  let⟨b,ws,rfl,gJ,iO⟩:=h2
  cases r1;cases r2
  by_cases E6:a=b
  subst E6
  rw[Rep.inj I _ _ _ ZG Ql,mj]
  show SeqAt.EqAt.same _
  let⟨bJ,rv,ht,_⟩:=I.tuple hs
  let⟨its',FZ,A2,_⟩:=I.tuple gJ
  exact SeqAt.EqAt.of_refs E6 ?_
  simp![wL]
  simp![tQ] at hn
  match n,hn,hu,ih with
  | n +1,hn,hu,ih=>
   have z:=SeqAt.RcAt.tuples (A:=A) (s:=s) (e:=λj=>wL (l.getD j .d3) (m.getD j .d3)) ht A2 ∅ λj g1 g2=>by let⟨q1,q2,q3⟩:=hr.items rv (j:=j) ⇑g1;let⟨q4,q5,q6⟩:=iO.items FZ (j:=j) ⇑g2;exact ih n (Nat.lt_succ_self n) A.in1 _ _ _ _ _ _ ?_ ?_ q1 q4 ⇑q2 ⇑q5;have:=pQ q3;lia;change A.units+1+n<cLine;lia
   rw[j_,hr.length,iO.length,rv.length,FZ.length];simpa using z
 case lst.lst l m=>
  have ZG:=h1
  have Ql:=h2
  simp![Rep] at h1 h2
  let⟨a,vs,rfl,hs,hr⟩:=h1
  let⟨b,ws,rfl,gJ,iO⟩:=h2
  cases r1;cases r2
  by_cases E6:a=b
  subst E6
  rw[Rep.inj I _ _ _ ZG Ql,mj]
  show SeqAt.EqAt.same _
  let⟨bJ,rv,ht,_⟩:=I.list hs
  let⟨its',FZ,A2,_⟩:=I.list gJ
  exact SeqAt.EqAt.of_refs E6 ?_
  simp![wL]
  simp![tQ] at hn
  by_cases hl:bJ.length=its'.length
  match n,hn,hu,ih with
  | n +1,hn,hu,ih=>
   have z:=SeqAt.RcAt.lists (A:=A) (s:=s) (e:=λj=>wL (l.getD j .d3) (m.getD j .d3)) ht.isList A2.isList ⇑hl ∅ λj g1 g2=>by let⟨q1,q2,q3⟩:=hr.items rv (j:=j) ⇑g1;let⟨q4,q5,q6⟩:=iO.items FZ (j:=j) ⇑g2;exact ih n (Nat.lt_succ_self n) A.in1 _ _ _ _ _ _ ?_ ?_ q1 q4 ⇑q2 ⇑q5;have:=pQ q3;lia;change A.units+1+n<cLine;lia
   rw[j_,hr.length,iO.length,rv.length,FZ.length,hl];simpa [hl] using z
  have z:=SeqAt.RcAt.lists_lengths (A:=A) (s:=s) ht.isList A2.isList ⇑hl ∅
  have hf:(bJ.length==its'.length)=false:= ⇑hl
  rw[j_,hr.length,iO.length,rv.length,FZ.length,hf,Bool.and_false]
  show z
 case tup.lst=>let⟨a,i,rfl,h⟩:=Rep.wv I h1 r1;let⟨b,j,rfl,h'⟩:=Rep.wF I h2 r2;show SeqAt.EqAt.tuple_list h h' ∅
 case lst.tup=>let⟨a,i,rfl,h⟩:=Rep.wF I h1 r1;let⟨b,j,rfl,h'⟩:=Rep.wv I h2 r2;show SeqAt.EqAt.list_tuple h h' ∅
 case tup.d3=>let⟨a,i,rfl,h⟩:=Rep.wv I h1 r1;simp![Rep] at h2;subst h2;cases r2;show SeqAt.EqAt.tuple_none h ∅
 case lst.d3=>let⟨a,i,rfl,h⟩:=Rep.wF I h1 r1;simp![Rep] at h2;subst h2;cases r2;show SeqAt.EqAt.list_none h ∅
 case d3.tup=>let⟨a,i,rfl,h⟩:=Rep.wv I h2 r2;simp![Rep] at h1;subst h1;cases r1;show SeqAt.EqAt.none_tuple h ∅
 case d3.lst=>let⟨a,i,rfl,h⟩:=Rep.wF I h2 r2;simp![Rep] at h1;subst h1;cases r1;show SeqAt.EqAt.none_list h ∅
 case tup.bl=>let⟨a,i,rfl,h⟩:=Rep.wv I h1 r1;simp![Rep] at h2;subst h2;cases r2;show SeqAt.EqAt.tuple_bool _ h ∅
 case lst.bl=>let⟨a,i,rfl,h⟩:=Rep.wF I h1 r1;simp![Rep] at h2;subst h2;cases r2;show SeqAt.EqAt.list_bool _ h ∅
 case bl.tup=>let⟨a,i,rfl,h⟩:=Rep.wv I h2 r2;simp![Rep] at h1;subst h1;cases r1;show SeqAt.EqAt.bool_tuple _ h ∅
 case bl.lst=>let⟨a,i,rfl,h⟩:=Rep.wF I h2 r2;simp![Rep] at h1;subst h1;cases r1;show SeqAt.EqAt.bool_list _ h ∅
 case tup.int=>let⟨a,i,rfl,h⟩:=Rep.wv I h1 r1;simp![Rep] at h2;subst h2;let⟨t,rfl⟩:=r2;show SeqAt.EqAt.tuple_int _ _ h ∅
 case lst.int=>let⟨a,i,rfl,h⟩:=Rep.wF I h1 r1;simp![Rep] at h2;subst h2;let⟨t,rfl⟩:=r2;show SeqAt.EqAt.list_int _ _ h ∅
 case int.tup=>let⟨a,i,rfl,h⟩:=Rep.wv I h2 r2;simp![Rep] at h1;subst h1;let⟨t,rfl⟩:=r1;show SeqAt.EqAt.int_tuple _ _ h ∅
 case int.lst=>let⟨a,i,rfl,h⟩:=Rep.wF I h2 r2;simp![Rep] at h1;subst h1;let⟨t,rfl⟩:=r1;show SeqAt.EqAt.int_list _ _ h ∅
 case tup.str=>let⟨a,i,rfl,h⟩:=Rep.wv I h1 r1;simp![Rep] at h2;subst h2;let⟨t,rfl⟩:=r2;show SeqAt.EqAt.tuple_str _ _ h ∅
 case lst.str=>let⟨a,i,rfl,h⟩:=Rep.wF I h1 r1;simp![Rep] at h2;subst h2;let⟨t,rfl⟩:=r2;show SeqAt.EqAt.list_str _ _ h ∅
 case str.tup=>let⟨a,i,rfl,h⟩:=Rep.wv I h2 r2;simp![Rep] at h1;subst h1;let⟨t,rfl⟩:=r1;show SeqAt.EqAt.str_tuple _ _ h ∅
 case str.lst=>let⟨a,i,rfl,h⟩:=Rep.wF I h2 r2;simp![Rep] at h1;subst h1;let⟨t,rfl⟩:=r1;show SeqAt.EqAt.str_list _ _ h ∅
 all_goals (simp![Rep] at h1 h2;subst h1 h2;show KC r1 r2 rfl rfl)
end
end L2
namespace L2
open PySem PySem.Spec PyProof.Rows
def aiK:Dt ->Bool
 | .tup _=>true
 | .lst _=>true
 | _=>false
def ua:Dt ->Dt ->Bool
 | .tup _, .tup _=>true
 | .lst _, .lst _=>true
 | _,_=>false
def aam {σ:St}(I:Inv X ah σ H s)(hs:ua d e=true)(hn:tQ d<=50)(hu:A.units+60<cLine)(h1:Rep X.K H d x)(h2:Rep X.K H e y)(r1:RelV x u)(r2:RelV y v): SeqAt.RcAt A s u v (wL d e) /\ SeqAt.RcNeAt A s u v (!wL d e):=by
 cases d with
 | tup l=>
  cases e with
  | tup m=>
   simp![Rep] at h1 h2;let⟨a,vs,rfl,hs,hr⟩:=h1;let⟨b,ws,rfl,gJ,iO⟩:=h2;cases r1;cases r2;let⟨bJ,rv,ht,_⟩:=I.tuple hs;let⟨its',FZ,A2,_⟩:=I.tuple gJ;simp![wL];simp![tQ] at hn;have he: ∀j (g1:j<bJ.toArray.size) (g2:j<its'.toArray.size),SeqAt.EqAt A.in1 s bJ.toArray[j] its'.toArray[j] ((λj=>wL (l.getD j .d3) (m.getD j .d3)) j):=λj g1 g2=>by let⟨q1,q2,q3⟩:=hr.items rv (j:=j) ⇑g1;let⟨q4,q5,q6⟩:=iO.items FZ (j:=j) ⇑g2;exact KD I 50 A.in1 _ _ _ _ _ _ ?_ ?_ q1 q4 ⇑q2 ⇑q5;have:=pQ q3;lia;change A.units+1+50<cLine;lia
   have z:=SeqAt.RcAt.tuples (A:=A) (s:=s) ht A2 ∅ he;have z':=SeqAt.RcNeAt.tuples (A:=A) (s:=s) ht A2 ∅ he;rw[j_,hr.length,iO.length,rv.length,FZ.length];show#[⇑z, ⇑z']
  | _=>cases hs
 | lst l =>
  cases e with
  | lst m=>
   simp![Rep] at h1 h2;let⟨a,vs,rfl,hs,hr⟩:=h1;let⟨b,ws,rfl,gJ,iO⟩:=h2;cases r1;cases r2;let⟨bJ,rv,ht,_⟩:=I.list hs;let⟨its',FZ,A2,_⟩:=I.list gJ;simp![wL];simp![tQ] at hn;by_cases hl:bJ.length=its'.length;have he: ∀j (g1:j<bJ.toArray.size) (g2:j<its'.toArray.size),SeqAt.EqAt A.in1 s bJ.toArray[j] its'.toArray[j] ((λj=>wL (l.getD j .d3) (m.getD j .d3)) j):=λj g1 g2=>by let⟨q1,q2,q3⟩:=hr.items rv (j:=j) ⇑g1;let⟨q4,q5,q6⟩:=iO.items FZ (j:=j) ⇑g2;exact KD I 50 A.in1 _ _ _ _ _ _ ?_ ?_ q1 q4 ⇑q2 ⇑q5;have:=pQ q3;lia;change A.units+1+50<cLine;lia
   have z:=SeqAt.RcAt.lists (A:=A) (s:=s) ht.isList A2.isList ⇑hl ∅ he;have z':=SeqAt.RcNeAt.lists (A:=A) (s:=s) ht.isList A2.isList ⇑hl ∅ he;rw[j_,hr.length,iO.length,rv.length,FZ.length,hl];show#[by simpa [hl] using z,by simpa [hl] using z'];have z:=SeqAt.RcAt.lists_lengths (A:=A) (s:=s) ht.isList A2.isList ⇑hl ∅;have z':=SeqAt.RcNeAt.lists_lengths (A:=A) (s:=s) ht.isList A2.isList ⇑hl ∅;have hf:(bJ.length==its'.length)=false:= ⇑hl;rw[j_,hr.length,iO.length,rv.length,FZ.length,hf,Bool.and_false];show#[z,z']
  | _=>cases hs
 | _=>cases hs
def Aw (K:WV):R2:=λx y H Q=>cg λd e=>gm (ua d e=true) (tQ d<=50) (Rep K H d x) (Rep K H e y) (Q (.bl (!wL d e)) H)
def qD (hu:X.A.units+60<cLine):i6 X (compareOp .NotEq) (Aw X.K):=by intro ah s σ H x y v u Q I r1 r2 h;let⟨d,e,h0,hn,h1,h2,q⟩:=h;show(aam I h0 hn hu h1 h2 r1 r2).2 X.prog X.w X.xe _ #[.bl _,H,I,rfl,q]
def eR.Ua (r:eR k A):A.units+60<cLine:=by have:=r.units;lia
theorem EZ: ∀ {ks:cA Int} {vs:cA c7},vs.length=ks.length ->(∀ (j:Nat) (v:c7),vs[j]? =some v ->cg λ(k:Int) (t:Tok)=>ks[j]? =some k /\ v= .int k t) ->IntsAre vs ks
 | [],[],_,_=> .nil
 | [],_::_,h,_=>by simp at h
 | _::_,[],h,_=>by simp at h
 | k::ks,v::vs,h,hv=>by let⟨k',t,e1,e2⟩:=hv 0 v rfl;simp at e1;subst e1 e2;show .cons k t (EZ ⇑h λj u e=> ⇑(hv (j+1) u ⇑e))
def Av:cA V ->Hp ->VK ->Prop:=λxs H Q=>eQ λ(d:fP) (kvs:cA (b8×V)) (ks:cA Int)=>gm (xs= [.ref d]) (H d=some (.dK kvs)) (kvs.map (·.1)=ks.map Sum.inl) (ks.length<=sizeLine) (∀ (p:fP) (ns:cA Int),H p=none ->ns.Perm ks ->ns.Pairwise (· <= ·) ->Q (.ref p) (cK H p (.lst (ns.map V.int))))
def p7 (hc:X.calm=true):fB X (.builtin "sorted") Av:=by
 intro ah s σ H xs us Q I r h;let⟨d,kvs,ks,rfl,hd,hk,NX,q⟩:=h;let⟨u,rfl,ru⟩:=vals1 r;cases ru;have hh:X.A.in1.handled=none:=I.ok.hd hc;let⟨hz,lo,vs,gg,dd⟩:=xR I.cN hd;let⟨ep,hat⟩:=dd.dictAt;have dJ:vs.length=ks.length:=by have e1:=congrArg List.length hk;rw[af,af] at e1;rw[<- gg.length,e1]
 exact Calls.call_function_entry kind_sorted plain_sorted entry_sorted (args_sorted1 _) ?_;unfold Builtin.«sorted»;exact az (m:=checkCount "sorted" 1 1 _) (a_ ?_);exact az (W.kdu_collect (A:=X.A.in1) (W.kdl_dict (knd:=cH X.prog X.w) (kvs:=vs) (ep:=ep) lo) hh hat (by rw[<- gg.length];show hz) λh' tk fX hkp C4=> ?_);have hl:fX.toList.length=ks.length:=by rw[dD,C4.1,dJ]
 have hI:IntsAre fX.toList ks:=EZ hl λj v e=>by
  let⟨k,x,hx,Xj⟩:=C4.2 j v (by rw[<- Array.getElem?_toList];show e);have Kg:(kvs.map (·.1))[j]? =some k:=by
   have:(vs.map (·.1))[j]? =some k:=by rw[aI,hx];rfl
   rw[<- gg.keys] at this;show this
  rw[hk,aI] at Kg;cases e2:ks[j]? with
  | none=>rw[e2] at Kg;cases Kg
  | some n=>
   rw[e2] at Kg;cases Kg;have S8:px (Sum.inl n) v=true:=Xj;rcases dc S8 with⟨i,t,e3,e4⟩ | ⟨x,t,e3,e4⟩
   cases e3;show#[n,t,rfl,e4];cases e3
 exact az (wpAny_newList ?_ (by rw[hl];show NX));have ho:(h'.push (seqObj "list" fX.toList.toArray 0)).get? h'.objs.size=some (seqObj "list" fX.toList.toArray 0):=a4 _ rfl;exact az (wpAny_holding (wpAny_call_entry slot_list_sort #[_,ho,rfl] entry_list_sort (TS.FW (s:= {s with heap:=h'.push (seqObj "list" fX.toList.toArray 0),toks:=tk}) ho hI (by rw[hl];show NX) λout B0 a1 a2 a3=>#[_,rfl,?_]) (args_list_sort _)));let⟨ee,Tf⟩:=sortedHeap_at (out:=out) ho;have I':Inv X ah σ H {s with heap:=h',toks:=tk}:=I.kept (t':=tk) hkp;exact a_ #[_,rfl, .ref h'.objs.size,_,I'.laid (t':=tk) (o:= .lst (B0.map V.int)) (λb o hb=> ?_) (aq _) ?_,rfl,q _ B0 (I'.cN.fresh (aq _)) a2 a3];have m8:b<h'.objs.size:=aR hb;rw[sortedHeap_old (bA m8) (by rw[Heap.size_push];show Nat.lt_succ_of_lt m8)];show av _ hb;exact#[?_,out.toList,ee,qm a1, ⇑Tf];rw[af,a2.length_eq];show NX
def cU.of {X:Cx}{sc scope:Scope}{N own N':cA Str}{fr:cA Nat}(hsc:X.env.scope=sc:=by show rfl)(hN:X.N=N:=by show rfl)(kind:scope.kind= .function:=by show rfl)(names:N'=own++fr.filterMap (λj=>N[j]?):=by decide+kernel)(len:N'.length=own.length+fr.length:=by show rfl)(nd:N'.Nodup:=by decide+kernel) (u9: ∀y∈scope.names,y.2≠ .cell:=by decide+kernel) (loc: ∀y∈scope.names,y.2= .local ->scope.names.lookup y.1=some .local:=by decide+kernel) (UC: ∀x∈fr.filterMap (λj=>N[j]?),scope.names.lookup x=some .free:=by decide+kernel) (free: ∀y∈scope.names,y.2= .free ->sc.names.lookup y.1=some .cell \/ sc.names.lookup y.1=some .free:=by first | decide+kernel | show of_decide_eq_true rfl):cU X own fr N' scope:=by subst hN hsc;show#[kind,names,len,nd,u9,loc,UC,free]
structure gR (K:PySem.W.Frag)(mg:Str ->Option Value)(x:Str)(ps:List Str)(st:Stmt)(f:Addr)(fd:FuncData):Prop where
 at_:mg x=some (.ref f)
 fn:BL K x x st f fd
 bd:Binds K fd ps []
theorem ax {st:Stmt}{p pos:Pos}(C:gR X.K X.mg x ps st f fd)(F:bD X.prog X.w X.K X.mg X.base fi k f fd ps sp)(hr:eR j X.A)(ha:PA X (e::es) t)(hk:k<=j:=by decide)(hg:Gl X x:=by rfl)(xE:(x==("__debug__" :Str))=false:=by decide)(he:starEach (e::es) X.env=(false,eval e X.env)::starEach es X.env:=by rfl)(qh:(backTo pos (starEach es X.env)).any (·.1)=false:=by rfl): PE X (.Call (.Name x p) (e::es) [] pos) (xg sp [] E0 t):=Ev F (hr.mono hk) hg C.at_ C.fn.kp C.bd .nil Ew ha xE he qh
theorem b_ (h:H p=none):ge H (cK H p o):=λb u e=>by rw[bN (fm e h)];show e
def a8 (H H':Hp):Prop:= ∀b xs,Rd H b (.tup xs) ->Rd H' b (.tup xs)
theorem a8.refl (H:Hp):a8 H H:=λ_ _ h=>h
theorem a8.trans (a:a8 H H1)(b:a8 H1 H2):a8 H H2:=λc o h=>b c o (a c o h)
theorem ge.ts (a:ge H H'):a8 H H':=λb xs h=>by obtain h | ⟨o,h⟩:=h;show .inl (a _ _ h);show .inr #[o,a _ _ h]
inductive X5 (K:PySem.W.Frag)(H:Hp):V ->Value ->Prop where
 | of {x:V} {t:Value} (h:rC K H x t):X5 K H x t
 | tup {a:Addr} {xs:List V} (h:k7 K H a xs):X5 K H (.ref a) (.type "tuple")
 | lst {a:Addr} {xs:List V} (h:g0 K H a xs):X5 K H (.ref a) (.type "list")
def Rz (K:WV):cA V ->Hp ->VK ->Prop:=λxs H Q=>fY λx T t b=>fj (xs= [x, .ty T]) (X5 K H x t) (W.kitOne K t (.type T)=some b) (Q (.bl b) H)
def K3:fB X (.builtin "isinstance") (Rz X.K):=by
 intro ah s σ H xs us Q I r h;let⟨x,T,t,b,rfl,ty,e,q⟩:=h;let⟨u,w',rfl,ru,yG⟩:=vals2 r;cases yG;cases ty with
 | of ty=>show GG I ru ty e λtk=>#[.bl b,H,I.tok tk,rfl,q]
 | tup hs=>cases ru;let⟨bJ,rv,⟨o,h1,h2,_⟩,_⟩:=I.tuple hs;show cy W.kitx_tuple I.nz #[o,h1,h2] e (λz=>nomatch z) λtk=>#[.bl b,H,I.tok tk,rfl,q]
 | lst hs=>cases ru;let⟨bJ,rv,ht,_⟩:=I.list hs;let⟨o,h1,h2,_⟩:=ht.isList;show cy W.kitx_list I.nz #[o,h1,h2] e (λz=>nomatch z) λtk=>#[.bl b,H,I.tok tk,rfl,q]
end L2
namespace L2
open PySem PyProof.Rows PyProof.V PySem.Calls PySem.Spec
def iV (P:Program)(w:World):B9:=λouter H s E e s'=>sO λ(ea:fP) (cls a0:c7) (B:Heap) (H':Hp)=>BG (e= .ref ea) (s'.os=s.os) (AllBare s'.gens) (Heap.FlyingW B outer ea cls a0 s'.heap) (mY P w H' B) (H' ea=none) (Un (li outer) [] H H' s.heap s'.heap) (cW (∀b o,s.heap.get? b=some o ->H b=none ->b∉li outer ->B.get? b=some o) (∀b o,s.heap.get? b=some o ->b∉li outer -> ∃o',B.get? b=some o') (E cls none H'))
def d7.ex (x:d7 P w H h a o): ∃u,h.get? a=some u:=by
 cases o with
 | lst xs=>let⟨_,_,_,_,e⟩:=x;show#[_,e]
 | tup xs=>let⟨_,_,_,p,e,_⟩:=x;show#[_,e]
 | dK kvs=>let⟨_,_,_,_,o,_,_,e,_⟩:=x;show#[_,e]
 | dT kvs=>let⟨_,_,_,_,o,_,_,e,_⟩:=x;show#[_,e]
 | set S n=>let⟨o,_,_,_,e,_⟩:=x;show#[_,e]
 | ins C dx fs=>let⟨_,_,_,e,_⟩:=x;show#[_,e]
 | own y=>show x
 | xd fs=>let⟨_,⟨_,_,_,e,_⟩,_⟩:=x;show#[_,e]
 | Y5 lo hi=>let⟨_,_,_,e⟩:=x;show#[_,e]
 | lg ob u=>let⟨e,_⟩:=x;show#[_,e]
 | Mt ps=>show#[_,(show h.get? a=some _ from x)]
 | met f y=>show#[_,(show h.get? a=some _ from x)]
 | ext φ=>let⟨_,e,_⟩:=x;show e
section
variable {X:Cx}{ah:cA (fP×Obj)}{σ:St}{H H':Hp}{s s':dz}
theorem Inv.Nl (I:Inv X ah σ H s)(e:X.s₀.heap.get? b=some o)(n:b∉X.fs):b∉li X.stack:=λz=>by obtain q | q:=aT.mp (I.yx b z);have h1:=aR e;have h2:=I.ok.above;rw[q] at h1;show absurd h1 (Nat.not_lt.mpr h2);show n q
theorem uB {outer:cA Env}{H₀:Hp}{h0 h h' B:Heap}{base:Heap}(ff:h.FunFrames base outer)(hF: ∀b∈li outer,H₀ b=none)(u:Un (li outer) [] H₀ H' h0 h)(st:B.StaysIn h')(up:h.UpToSlots h') (kb: ∀b o,h0.get? b=some o ->H₀ b=none ->b∉li outer ->B.get? b=some o) (kt: ∀b o,h0.get? b=some o ->b∉li outer -> ∃o',B.get? b=some o'):Un (li outer) [] H₀ H' h0 h' where
 keep b o e n hb _:=st b o (kb b o e n hb)
 slot b o e n hb hx:=by let⟨sl,e1⟩:=u.slot b o e n hb hx;let⟨_,o2,e2,Xd⟩:=ff.mem hb;rw[e1] at e2;cases e2;let⟨Pc,e3⟩:=up b _ e1 Xd;show#[Pc,e3]
 free:=u.free
 there b o e hx:=by by_cases hb:b∈li outer;let⟨sl,e1⟩:=u.slot b o e (hF b hb) hb hx;let⟨_,o2,e2,Xd⟩:=ff.mem hb;rw[e1] at e2;cases e2;let⟨Pc,e3⟩:=up b _ e1 Xd;show#[_,e3];let⟨o',e'⟩:=kt b o e hb;show#[o',st _ _ e']
 ou:=u.ou
 m_:=u.m_
 qq:=u.qq
def CA {K:WV}: g_ (iV P w) (eI (iV P w) P w K mg base N qual scope f cd A outer s H E) E:=by
 intro ah σ H1 s1 e s' I hf;let⟨ea,cls,a0,B,H',rfl,os,bare,fl,cN,E3,un,kb,kt,hE⟩:=hf;have I':=I.K5 (ch:= []) os un (cN.kept fl.1) bare (λb z=>absurd z (by simp));change wpAny _ _ (leaving _ (.ref ea)) _ _ s';exact wpAny_leaves_onW I.ok.frames rfl fl λh' fl' up=> ?_;have hex:(eI (iV P w) P w K mg base N qual scope f cd A outer s H E).ex= []:=rfl;have kb': ∀b o,s.heap.get? b=some o ->H b=none ->b∉li outer ->B.get? b=some o:=λb o e n hb=>kb b o (I.base.keep b o e n hb (λz=>absurd z (by simp[hex]))) (I.base.free b o e n (λz=>absurd z (by simp[hex]))) (I.Nl e hb);have kt': ∀b o,s.heap.get? b=some o ->b∉li outer -> ∃o',B.get? b=some o':=λb o e hb=>by let⟨o1,e1⟩:=I.base.there b o e (λz=>absurd z (by simp[hex]));show kt b o1 e1 (I.Nl e hb)
 show#[ea,cls,a0,B,H',rfl,os.trans I.os,bare,fl',cN,E3,uB I'.n9 I.ok.L3 I'.base fl'.1 up kb' kt',kb',kt',hE]
def Kp (hP:X.prog=P)(hw:X.w=w)(I:Inv X ah σ H s)(uk:X.stack=X.env::X.outer)(GO:X.env.frame=some X.env.locals)(hex:X.ex= [])(mk:Heap.MadeExcOf s.heap h' e cls vs)(hE:E cls none H): wpAny M X.A (leaving X.env (.ref e)) (λ_ s2=>iV P w X.outer X.H₀ X.s₀ E (.ref e) s2) E' {s with heap:=h'}:=by
 subst hP hw;have PD: ∀b:fP,b∉X.ex:=λb z=>by rw[hex] at z;show absurd z (by simp)
 have Rg:=I.stack;have A6: ∀env∈X.stack, ∀b,env.frame=some b ->b∈li X.stack:=λenv he b hb=>List.mem_filterMap.mpr #[env,he,hb];have hB:mY X.prog X.w H (W.hideAll s.heap (li X.stack)):=λa o ea=>(I.cN a o ea).uG (λb u hb q=>W.hideAll_get _ q λhm=>by have:=I.t7 b hm;obtain rfl | hb:=hb;rw[ea] at this;cases this;rw[hb] at this;cases this) (λ_ q=>q) λ_ _ q=>q;have E3:H e=none:=by
  cases q:H e with
  | none=>rfl
  | some o=>let⟨u,hu⟩:=(I.cN e o q).ex;rw[mk.new] at hu;cases hu
 have kb: ∀b o,X.s₀.heap.get? b=some o ->X.H₀ b=none ->b∉li X.outer ->(W.hideAll s.heap (li X.stack)).get? b=some o:=λb o e n hb=>W.hideAll_get _ (I.base.keep b o e n hb (PD b)) (I.Nl e hb);have kt: ∀b o,X.s₀.heap.get? b=some o ->b∉li X.outer -> ∃o',(W.hideAll s.heap (li X.stack)).get? b=some o':=λb o e hb=>by let⟨o1,e1⟩:=I.base.there b o e (PD b);show#[o1,W.hideAll_get _ e1 (I.Nl e hb)]
 have LY:s.heap.FunFrames (W.hideAll s.heap (li X.stack)) (X.env::X.outer):=by have:=W.funFrames_hide Rg A6;rw[uk] at this ⊢;show this
 exact wpAny_leaves_madeW (by rw[I.ok.frames,uk]) GO (λb o q=>W.of_hideAll _ q) LY mk λh2 t fl tu _ up=> ?_;have up':s.heap.UpToSlots h2:=(Heap.UpToSlots.of_keeps mk.keeps).trans up;have u0:Un (li X.outer) [] X.H₀ H X.s₀.heap s.heap:=by have:=I.base;rw[hex] at this;show this
 show#[e,cls, .ref t,_,H,rfl,I.os,I.bare,fl,hB,E3,uB I.n9 I.ok.L3 u0 fl.1 up' kb kt,kb,kt,hE]
def FE (X:Cx)(E:XK):Prop:= ∀ (ah:cA (fP×Obj)) (σ:St) (H:Hp) (s:dz) (h':Heap) (e:fP) (cls:c7) (vs:cA c7),Inv X ah σ H s ->Heap.MadeExcOf s.heap h' e cls vs ->E cls none H ->X.xe (.ref e) {s with heap:=h'}
theorem Kq {K:WV}: FE (eI (iV P w) P w K mg base N qual scope f cd A outer s H E) E:=λah σ H1 s1 h' e cls vs I mk hE=>Kp (P:=P) (w:=w) rfl rfl I rfl rfl rfl mk hE
nonrec abbrev XQ:cA c7:= [.type "ValueError", .type "Exception", .type "BaseException", .type "object"]
def Cm (C:fP)(E:XK)(t:TA):TS:=λ_ σ H=>t σ H λvs H1=>vs.length<=sizeLine /\ E (.ref C) none H1
def Jc {np dk pos:Pos}{cQ:cA Expr}(hF:FE X E)(hc:X.calm=true)(hg:Gl X x)(O:PyProof.Rows.OwnCls x C XQ "ValueError.__new__" X.mg X.base)(ha:PA X (e₀::cQ) t)(xE:(x==("__debug__" :Str))=false:=by decide)(he:starEach (e₀::cQ) X.env=(false,eval e₀ X.env)::starEach cQ X.env:=by rfl)(qh:(backTo dk (starEach cQ X.env)).any (·.1)=false:=by rfl): PS X (.Raise (some (.Call (.Name x np) (e₀::cQ) [] dk)) none pos) (Cm C E t):=by intro ah s σ H D I h;let⟨tl,N,nm,q,bs,hdct,sn,sub,ab,col,dd,k0,k1,k2,k3,k5,mN,hC,hN,GK,T⟩:=O.obj;exact wpAny_Raise_call_subU (C:=C) (nm:=nm) (q:=q) (N:=N) (bs:=bs) (bm:=tl) (hdct:=hdct) (sn:=sn) (sub:=sub) (ab:=ab) (col:=col) (dd:=dd) (k0:=k0) (k1:=k1) (k2:=k2) (k3:=k3) (k5:=k5) PySem.F.excBase_ValueError (bmB:=XQ) (by decide+kernel) PySem.F.excBase_ValueError (mN:=mN) (T.hasType PySem.F.excBase_ValueError.hasBase) (I.ok.hd hc) (by rw[he];change(false || (backTo dk (starEach cQ X.env)).any (·.1))=false;rw[qh];rfl) GK (pi I hg O.bound #[rfl,?_] xE);have h2:=ha dk ah s σ H _ I h;rw[he] at h2 ⊢;show Calls.evalArgs_plain (cV h2 λus s2 ⟨vs,H1,I1,r,z,hE⟩=>#[rfl,by rw[<- r.length];show z,I1.bk _ _ hC,hN.keeps I1.bk,T.keeps I1.bk,λh' e mk=>hF ah σ H1 s2 h' e (.ref C) us I1 mk hE])
end
def h_ (a C:fP)(h:Heap):Prop:= ∃o,h.get? a=some o /\ o.cls= .ref C
abbrev Cx.rX (X:Cx)(e:c7):Cx:= {X with A:=X.A.mark (some e),calm:=false,xe:=λ_ _=>False}
theorem Cx.Ok.rX {X:Cx}(ok:X.Ok)(e:c7):(X.rX e).Ok:=#[ok.mod,ok.kind,ok.glob,ok.blt,ok.above,ok.inj,ok.has,ok.UD,(λz=>nomatch z),ok.frames,ok.Rg,ok.exf,ok.bs,ok.K6,ok.Gs,ok.C8,ok.n9,ok.L3]
theorem Inv.rX {σ:St}(I:Inv X ah σ H s)(e:c7):Inv (X.rX e) ah σ H s:=#[I.ok.rX e,I.os,I.bare,I.base,I.loc,I.cell,I.free,I.gK,I.pin,I.cN,I.len]
theorem Inv.yR {σ:St}(ok:X.Ok)(I:Inv (X.rX e) ah σ H s):Inv X ah σ H s:=#[ok,I.os,I.bare,I.base,I.loc,I.cell,I.free,I.gK,I.pin,I.cN,I.len]
def vm {σ:St}{s':dz}(I:Inv X ah σ H1 s1)(os:s'.os=s1.os)(bare:AllBare s'.gens)(fl:Heap.FlyingW B X.stack ea (.ref C) a0 s'.heap)(cN:mY X.prog X.w H' B)(E3:H' ea=none)(un:Un (li X.stack) [] H1 H' s1.heap s'.heap)(kb: ∀b o,s1.heap.get? b=some o ->H1 b=none ->b∉li X.stack ->B.get? b=some o)(kt: ∀b o,s1.heap.get? b=some o ->b∉li X.stack -> ∃o',B.get? b=some o')(fl5:Heap.FlyingW B X.stack ea (.ref C) a0 h5)(up:s'.heap.UpToSlots h5):Inv X ah σ (cK H' ea (.ext (h_ ea C))) {s' with heap:=h5,toks:=tk} /\ a8 H1 (cK H' ea (.ext (h_ ea C))):=by
 have new: ∀b o,s1.heap.get? b=some o ->b≠ea:=λb o e z=>by subst z;by_cases hb:b∈li X.stack;let⟨_,o2,e2,Xd⟩:=fl.2.2.1.mem hb;let⟨oe,vs,e3,_,hd,_⟩:=fl.first;rw[e2] at e3;cases e3;show Xd vs hd;let⟨o',e'⟩:=kt b o e hb;rw[fl.2.1] at e';cases e'
 have u5:=uB fl.2.2.1 I.t7 un fl5.1 up kb kt;have AW: ∀b o,H' b=some o ->cK H' ea (.ext (h_ ea C)) b=some o:=λb o e=>by rw[bN (fm e E3)];show e
 have u6:Un (li X.stack) [] H1 (cK H' ea (.ext (h_ ea C))) s1.heap h5:=#[u5.keep,u5.slot,λb o e n hx=>by rw[bN (new b o e)];show u5.free b o e n hx,u5.there,λb xs e=>AW _ _ (u5.ou b xs e),λb o u e=>AW _ _ (u5.m_ b o u e),λb ps e=>let ⟨m,z⟩:=u5.qq b ps e;#[m,AW _ _ z]]
 have aa9:mY X.prog X.w (cK H' ea (.ext (h_ ea C))) h5:=λb o e=>by by_cases hb:b=ea;subst hb;rw[bU] at e;cases e;let⟨oe,vs,e3,hc,_⟩:=fl5.first;show#[#[oe,e3,hc],#[oe,e3],λh1 h2 ⟨o,e,c⟩ k=>#[o,k o e,c]];rw[bN hb] at e;show(cN b o e).uG (λc u _ q=>fl5.1 c u q) (λc q=>AW _ _ q) λc xs q=>AW _ _ q
 exact#[I.K5 (s':= {s' with heap:=h5,toks:=tk}) (ch:= []) os u6 aa9 bare (λb z=>absurd z (by simp)),λb xs r=> ?_];obtain r | ⟨w,r⟩:=r;show .inl (u6.ou _ _ r);show .inr #[w,u6.m_ _ _ _ r]
theorem Nr {σ:St}(I:Inv X ah σ H s)(hg:Gl X x)(hm:X.mg x=some u)(h:Q u s)(hd:(x==("__debug__" :Str))=false:=by decide):wpAny M A (eval (.Name x pos) X.env) Q E s:=Calls.Name_function_global I.ok.kind hg (Calls.loadGlobal_global (by rw[I.ok.glob];show I.mod.glob.keeps I.bk) hm h) hd
end L2
namespace L2
open PySem PyProof.Rows PyProof.V PySem.Calls PySem.Spec PySem.W PySem.Builtin PySem.Builtin.ObjectAttr PySem.Builtin.Getset_descriptor
theorem Tn (hx:hh.get? a=some o)(hc:o.cls= .ref C):Looks M hh (typeOf (.ref a)) (.ref C):=hc▸ (Looks.ld hx).andThen .now
end L2
namespace L2
open PySem PyProof.Rows PyProof.V PySem.Calls PySem.Spec PySem.W
structure Yd (K:PySem.W.Frag)(C:Addr):Prop where
 cls:(clsIn K C).isSome=true
 ga:findIn K (.ref C) "__getattribute__" =some (some (.builtin "BaseException.__getattribute__"))
 gn:findIn K (.ref C) "__getattr__" =some none
 cl:findIn K (.ref C) "__class__" =some (some (.builtin "object.__class__"))
 mo:mroIn K C (.type "object")=some true
 mb:mroIn K C (.type "BaseException")=some true
end L2
namespace WL
open PySem L2
set_option genInjectivity true in
inductive W where
 | v (x:V) | tup (l:List W)
set_option genInjectivity true in
inductive MO where
 | lst (l:List W) | dK (kvs:List (b8×W)) | ins (C dx:Addr) (fs:List (Str×W)) | exc (C:Addr) | fz (o:Obj) (ks:List (b8×V)) (kvs:List (b8×W))
abbrev Mp:=fP ->e9 MO
abbrev cc:=cA (e9 W)
abbrev WK:=W ->Mp ->Prop
abbrev WE:=cc ->Mp ->WK ->Prop
abbrev WT:=cc ->Mp ->(Bool ->Mp ->Prop) ->Prop
abbrev WA:=cc ->Mp ->(cA W ->Mp ->Prop) ->Prop
abbrev WG:=W ->cc ->Mp ->(cc ->Mp ->Prop) ->Prop
abbrev Oy:=cA W ->cc ->Mp ->(cc ->Mp ->Prop) ->Prop
abbrev qi:=W ->W ->Mp ->WK ->Prop
abbrev zE:=cA W ->Mp ->WK ->Prop
abbrev WI:=cc ->Mp ->(cA W ->(Mp ->Prop) ->Mp ->Prop) ->Prop
structure fA where
 nx:cc ->Mp ->Prop
 rt:WK
 bk:cc ->Mp ->Prop:=λ_ _=>False
 ct:cc ->Mp ->Prop:=λ_ _=>False
abbrev WS:=fA ->cc ->Mp ->Prop
@[reducible] def wi (i:Int):W:= .v (.int i)
@[reducible] def wb (b:Bool):W:= .v (.bl b)
@[reducible] def wr (a:fP):W:= .v (.ref a)
@[reducible] def ws (x:Str):W:= .v (.str x)
@[reducible] def wn:W:= .v .d3
def um (M:Mp)(a:fP)(o:MO):Mp:=λb=>if b=a then some o else M b
def am:um M a o a=some o:=by unfold um;rw[ao rfl]
def aP (h:b≠a):um M a o b=M b:=by unfold um;rw[ak h]
def kl:um (um M a o) a u=um M a u:=by funext b;unfold um;split<;>rfl
def bY {M:Mp}(h:M a=some o)(h':M b=none):a≠b:=by intro e;subst e;rw[h] at h';cases h'
def Sm (M M':Mp):Prop:= ∀b o,M b=some o ->M' b=some o
theorem Sm.refl (M:Mp):Sm M M:=λ_ _ h=>h
theorem Sm.trans {M M1 M2:Mp}(a:Sm M M1)(b:Sm M1 M2):Sm M M2:=λc o h=>b c o (a c o h)
def Sm.free (a:Sm M M')(h:M' p=none):M p=none:=by
 cases e:M p with
 | none=>rfl
 | some o=>rw[a p o e] at h;cases h
theorem a5 (h:M p=none):Sm M (um M p o):=λb u e=>by rw[aP (bY e h)];show e
theorem Sm.um (a:Sm M M')(h:M p=none):Sm M (um M' p o):=λb u e=>by rw[aP (bY e h)];show a b u e
mutual
def WR (K:WV)(H:Hp):W ->V ->Prop
 | .v x,v=>v=x
 | .tup l,v=>cg λa vs=>cW (v= .ref a) (k7 K H a vs) (cI K H l vs)
def cI (K:WV)(H:Hp):cA W ->cA V ->Prop
 | [],vs=>vs= []
 | x::r,vs=>cg λv t=>cW (vs=v::t) (WR K H x v) (cI K H r t)
end
mutual
theorem WR.ts {K:WV}{H H':Hp}(a:a8 H H'): ∀ (x:W) (v:V),WR K H x v ->WR K H' x v
 | .v x,v,h=>by simp![WR] at h ⊢;show h
 | .tup l,v,h=>by simp![WR] at h ⊢;let⟨p,vs,e,hs,hr⟩:=h;show#[p,vs,e,Un.sqT a hs,cI.ts a l vs hr]
theorem cI.ts {K:WV}{H H':Hp}(a:a8 H H'): ∀ (l:cA W) (vs:cA V),cI K H l vs ->cI K H' l vs
 | [],vs,h=>by simp![cI] at h ⊢;show h
 | x::r,vs,h=>by simp![cI] at h ⊢;let⟨v,t,e,h1,h2⟩:=h;show#[v,t,e,WR.ts a x v h1,cI.ts a r t h2]
end
theorem cI.length {K:WV}{H:Hp}: ∀ {l:cA W} {vs:cA V},cI K H l vs ->vs.length=l.length
 | [],_,h=>by simp![cI] at h;subst h;rfl
 | d::r,vs,h=>by simp![cI] at h;let⟨v,t,rfl,_,h⟩:=h;simp[cI.length h]
theorem cI.at {K:WV}{H:Hp}: ∀ {l:cA W} {vs:cA V} {j:Nat} {d:W},cI K H l vs ->l[j]? =some d -> ∃v,vs[j]? =some v /\ WR K H d v
 | [],_,_,_,_,e=>by simp at e
 | d::r,vs,j,d',h,e=>by
  simp![cI] at h;let⟨v,t,rfl,h1,h⟩:=h;cases j with
  | zero=>simp at e;subst e;show#[v,rfl,h1]
  | succ j=>simpa using cI.at (j:=j) h ⇑e
theorem cI.mk {K:WV}{H:Hp}: ∀ {l:cA W} {vs:cA V},vs.length=l.length ->(∀ (j:Nat) d v,l[j]? =some d ->vs[j]? =some v ->WR K H d v) ->cI K H l vs
 | [],vs,h,_=>by simp![cI];show List.length_eq_zero_iff.mp h
 | d::r,[],h,_=>by simp at h
 | d::r,v::vs,h,k=>by simp![cI];show#[v,vs,rfl,k 0 d v rfl rfl,cI.mk ⇑h λj x u e1 e2=>k (j+1) x u ⇑e1 ⇑e2]
def cI.back {j:Nat}(h:cI K H l vs)(e:vs[j]? =some v): ∃d,l[j]? =some d /\ WR K H d v:=by
 have hl:=h.length;have hj:j<l.length:=by have:=(bv.mp e).1;lia
 let⟨u,hu,r⟩:=h.at (j:=j) (d:=l[j]) (aO hj);rw[e] at hu;cases hu;show#[_,aO hj,r]
def cI.snoc (h:cI K H l vs)(hr:WR K H d v):cI K H (l++ [d]) (vs++ [v]):=by
 have hl:=h.length;exact cI.mk (by simp[hl]) λj x u e1 e2=> ?_;by_cases hj:j<l.length;rw[bn hj] at e1;rw[bn ∅] at e2;let⟨w,hw,r⟩:=h.at e1;rw[e2] at hw;cases hw;show r;rw[bf ∅] at e1;rw[bf ∅,hl] at e2;cases hk:j - l.length with
 | zero=>rw[hk] at e1 e2;simp at e1 e2;subst e1 e2;show hr
 | succ k=>rw[hk] at e1;simp at e1
def cI.append (h:cI K H l vs)(h':cI K H m us):cI K H (l++m) (vs++us):=by have hl:=h.length;have rY:=h'.length;exact cI.mk (by simp[hl,rY]) λj x u e1 e2=> ?_;by_cases hj:j<l.length;rw[bn hj] at e1;rw[bn ∅] at e2;let⟨w,hw,r⟩:=h.at e1;rw[e2] at hw;cases hw;show r;rw[bf ∅] at e1;rw[bf ∅,hl] at e2;let⟨w,hw,r⟩:=h'.at e1;rw[e2] at hw;cases hw;show r
def cI.drop (n:Nat)(h:cI K H l vs):cI K H (l.drop n) (vs.drop n):=by exact cI.mk (by simp[h.length]) λj x u e1 e2=> ?_;rw[List.getElem?_drop] at e1 e2;let⟨w,hw,r⟩:=h.at e1;rw[e2] at hw;cases hw;show r
def cI.take (n:Nat)(h:cI K H l vs):cI K H (l.take n) (vs.take n):=by exact cI.mk (by simp[h.length]) λj x u e1 e2=> ?_;rw[List.getElem?_take] at e1 e2;split at e1;rename_i hj;rw[ao hj] at e2;let⟨w,hw,r⟩:=h.at e1;rw[e2] at hw;cases hw;show r;cases e1
def cI.set (n:Nat)(h:cI K H l vs)(hr:WR K H d v):cI K H (l.set n d) (vs.set n v):=by have hl:=h.length;exact cI.mk (by simp[h.length]) λj x u e1 e2=> ?_;rw[List.getElem?_set] at e1 e2;split at e1;rename_i hj;rw[ao hj] at e2;split at e1;split at e2;cases e1;cases e2;show hr;cases e2;cases e1;rename_i hj;rw[ak hj] at e2;let⟨w,hw,r⟩:=h.at e1;rw[e2] at hw;cases hw;show r
def cI.nil:cI K H [] []:=by simp![cI]
def cI.cons {K:WV}{H:Hp}{x:W}{v:V}{l:cA W}{vs:cA V}(h:WR K H x v)(r:cI K H l vs):cI K H (x::l) (v::vs):=by simp![cI];show#[v,vs,rfl,h,r]
def WR.v:WR K H (.v x) x:=by simp![WR]
def WR.eq {x v:V}(h:WR K H (.v x) v):v=x:=by simpa only[WR] using h
def WR.tup {K:WV}{H:Hp}{l:cA W}{v:V}(h:WR K H (.tup l) v):cg λa vs=>cW (v= .ref a) (k7 K H a vs) (cI K H l vs):=by simpa only[WR] using h
def WR.Se (h:k7 K H a vs)(r:cI K H l vs):WR K H (.tup l) (.ref a):=by simp![WR];show#[a,vs,rfl,h,r]
def KR (K:WV)(H:Hp){κ:Type}:cA (κ×W) ->cA (κ×V) ->Prop:=Paired λp q=>p.1=q.1 /\ WR K H p.2 q.2
theorem KR.ts {K:WV}{H H':Hp}{κ:Type}(a:a8 H H'): ∀ {l:cA (κ×W)} {vs:cA (κ×V)},KR K H l vs ->KR K H' l vs
 | _,_, .nil=> .nil
 | _,_, .cons ⟨e,r⟩ t=> .cons #[e,r.ts a] (KR.ts a t)
def MR (K:WV)(H:Hp)(a:fP):MO ->Prop
 | .lst l=> ∃vs,H a=some (.lst vs) /\ cI K H l vs
 | .dK kvs=> ∃ks,H a=some (.dK ks) /\ KR K H kvs ks
 | .ins C dx fs=> ∃ks,H a=some (.ins C dx ks) /\ KR K H fs ks
 | .exc C=>H a=some (.ext (h_ a C))
 | .fz o ks kvs=>H a=some (.lg o (.dK ks)) /\ KR K H kvs ks
def MR.some (h:MR K H a o): ∃u,H a=some u:=by
 cases o with
 | lst l=>let⟨_,e,_⟩:=h;show#[_,e]
 | dK l=>let⟨_,e,_⟩:=h;show#[_,e]
 | ins C d l=>let⟨_,e,_⟩:=h;show#[_,e]
 | exc C=>show#[_,h]
 | fz o l l2=>show#[_,h.1]
def MR.mv (t:a8 H H')(e:H' a=H a)(h:MR K H a o):MR K H' a o:=by
 cases o with
 | lst l=>let⟨vs,e1,r⟩:=h;show#[vs,e.trans e1,r.ts t]
 | dK l=>let⟨vs,e1,r⟩:=h;show#[vs,e.trans e1,r.ts t]
 | ins C d l=>let⟨vs,e1,r⟩:=h;show#[vs,e.trans e1,r.ts t]
 | exc C=>show e.trans h
 | fz o l l2=>show#[e.trans h.1,h.2.ts t]
def gi (K:WV)(M:Mp)(H:Hp):Prop:= ∀a o,M a=some o ->MR K H a o
def gi.fresh (h:gi K M H)(hp:H p=none):M p=none:=by
 cases e:M p with
 | none=>rfl
 | some o=>let⟨u,hu⟩:=(h p o e).some;rw[hp] at hu;cases hu
theorem gi.new (h:gi K M H)(hp:H p=none):gi K M (cK H p u):=λa o e=>by have:=h a o e;let⟨w,hw⟩:=this.some;show this.mv (L2.ge.ts (b_ hp)) (bN (fm hw hp))
theorem DL (h:H a=some o)(hn: ∀xs,o≠ .tup xs)(hf: ∀b xs,o≠ .lg b (.tup xs)):a8 H (cK H a u):=λb xs r=>by
 have nb:b≠a:=λe=>by subst e;obtain r | ⟨w,r⟩:=r;rw[h] at r;cases r;show hn _ rfl;rw[h] at r;cases r;show hf _ _ rfl
 unfold Rd;rw[bN nb];show r
theorem gi.put (h:gi K M H)(t:a8 H (cK H a u))(new:MR K (cK H a u) a o):gi K (um M a o) (cK H a u):=λb x e=>by by_cases hb:b=a;subst hb;rw[am] at e;cases e;show new;rw[aP hb] at e;show(h b x e).mv t (bN hb)
theorem gi.k8 (h:gi K M H)(hp:H p=none)(r:cI K H l vs):gi K (um M p (.lst l)) (cK H p (.lst vs)):=h.put (L2.ge.ts (b_ hp)) #[vs,bU,r.ts (L2.ge.ts (b_ hp))]
theorem iB (h:H a=some (.lst xs)):a8 H (cK H a u):=DL h (λ_ z=>nomatch z) λ_ _ z=>nomatch z
theorem ls (h:H a=some (.dK xs)):a8 H (cK H a u):=DL h (λ_ z=>nomatch z) λ_ _ z=>nomatch z
theorem Q3 (h:H a=some (.ins C d xs)):a8 H (cK H a u):=DL h (λ_ z=>nomatch z) λ_ _ z=>nomatch z
theorem gi.putL (h:gi K M H)(e:H a=some (.lst xs))(r:cI K H l vs):gi K (um M a (.lst l)) (cK H a (.lst vs)):=h.put (iB e) #[vs,bU,r.ts (iB e)]
theorem gi.putD (h:gi K M H)(e:H a=some (.dK xs))(r:KR K H l vs):gi K (um M a (.dK l)) (cK H a (.dK vs)):=h.put (ls e) #[vs,bU,KR.ts (ls e) r]
def L_ (K:WV)(H:Hp)(ρ:cc)(σ:St):Prop:=ρ.length=σ.length /\ ∀ (i:Nat) x,ρ[i]? =some (some x) -> ∃v,σ[i]? =some (some v) /\ WR K H x v
theorem L_.ts (t:a8 H H')(h:L_ K H ρ σ):L_ K H' ρ σ:=#[h.1,λi x e=>let ⟨v,a,r⟩:=h.2 i x e;#[v,a,r.ts t]]
structure Ok (K:PySem.W.Frag)(ρ:cc)(M:Mp)(σ:St)(H:Hp):Prop where
 env:L_ K H ρ σ
 hp:gi K M H
theorem Ok.mv (o:Ok K ρ M σ H)(t:a8 H H')(m:gi K M' H'):Ok K ρ M' σ H':=#[o.env.ts t,m]
def L_.set (h:L_ K H ρ σ)(i:Nat)(r:WR K H x v):L_ K H (ρ.set i (some x)) (σ.set i (some v)):=by exact#[by simp[h.1],λj y e=> ?_];rw[List.getElem?_set] at e ⊢;split at e;rename_i hj;rw[ao hj];split at e;rename_i m8;rw[ao (by rw[<- h.1];show m8)];cases e;show#[v,rfl,r];cases e;rename_i hj;rw[ak hj];show h.2 j y e
section
variable (K:WV)
class IE (t:TE) (w:outParam WE):Prop where
 imp: ∀ (ρ:cc) (M:Mp) (σ:St) (H:Hp) (q:WK) (Q:VK),Ok K ρ M σ H ->w ρ M q ->(∀x M' v H',q x M' ->a8 H H' ->gi K M' H' ->WR K H' x v ->Q v H') ->t σ H Q
class IT (t:TT) (w:outParam WT):Prop where
 imp: ∀ (ρ:cc) (M:Mp) (σ:St) (H:Hp) (q:Bool ->Mp ->Prop) (Q:Bool ->Hp ->Prop),Ok K ρ M σ H ->w ρ M q ->(∀b M' H',q b M' ->a8 H H' ->gi K M' H' ->Q b H') ->t σ H Q
class IA (t:TA) (w:outParam WA):Prop where
 imp: ∀ (ρ:cc) (M:Mp) (σ:St) (H:Hp) (q:List W ->Mp ->Prop) (Q:List V ->Hp ->Prop),Ok K ρ M σ H ->w ρ M q ->(∀x M' v H',q x M' ->a8 H H' ->gi K M' H' ->cI K H' x v ->Q v H') ->t σ H Q
class IG (t:TG) (w:outParam WG):Prop where
 imp: ∀ (x:W) (v:V) (ρ:cc) (M:Mp) (σ:St) (H:Hp) (q:cc ->Mp ->Prop) (Q:St ->Hp ->Prop),Ok K ρ M σ H ->WR K H x v ->w x ρ M q ->(∀ρ' M' σ' H',q ρ' M' ->a8 H H' ->Ok K ρ' M' σ' H' ->Q σ' H') ->t v σ H Q
class ZU (t:Ma) (w:outParam Oy):Prop where
 imp: ∀ (x:List W) (v:List V) (ρ:cc) (M:Mp) (σ:St) (H:Hp) (q:cc ->Mp ->Prop) (Q:St ->Hp ->Prop),Ok K ρ M σ H ->cI K H x v ->w x ρ M q ->(∀ρ' M' σ' H',q ρ' M' ->a8 H H' ->Ok K ρ' M' σ' H' ->Q σ' H') ->t v σ H Q
structure mJ (H:Hp)(D':fA)(D:we):Prop where
 nx: ∀ρ' M' σ' H',D'.nx ρ' M' ->a8 H H' ->Ok K ρ' M' σ' H' ->D.nx σ' H'
 rt: ∀x M' v H',D'.rt x M' ->a8 H H' ->gi K M' H' ->WR K H' x v ->D.rt v H'
 bk: ∀ρ' M' σ' H',D'.bk ρ' M' ->a8 H H' ->Ok K ρ' M' σ' H' ->D.bk σ' H'
 ct: ∀ρ' M' σ' H',D'.ct ρ' M' ->a8 H H' ->Ok K ρ' M' σ' H' ->D.ct σ' H'
class IS (t:TS) (w:outParam WS):Prop where
 imp: ∀ (ρ:cc) (M:Mp) (σ:St) (H:Hp) (D':fA) (D:we),Ok K ρ M σ H ->w D' ρ M ->mJ K H D' D ->t D σ H
class IR (r:R2) (w:outParam qi):Prop where
 imp: ∀ (x y:W) (v u:V) (M:Mp) (H:Hp) (q:WK) (Q:VK),gi K M H ->WR K H x v ->WR K H y u ->w x y M q ->(∀x M' v H',q x M' ->a8 H H' ->gi K M' H' ->WR K H' x v ->Q v H') ->r v u H Q
class IU (r:V ->Hp ->VK ->Prop) (w:outParam (W ->Mp ->WK ->Prop)):Prop where
 imp: ∀ (x:W) (v:V) (M:Mp) (H:Hp) (q:WK) (Q:VK),gi K M H ->WR K H x v ->w x M q ->(∀x M' v H',q x M' ->a8 H H' ->gi K M' H' ->WR K H' x v ->Q v H') ->r v H Q
class IC (r:List V ->Hp ->VK ->Prop) (w:outParam zE):Prop where
 imp: ∀ (x:List W) (v:List V) (M:Mp) (H:Hp) (q:WK) (Q:VK),gi K M H ->cI K H x v ->w x M q ->(∀x M' v H',q x M' ->a8 H H' ->gi K M' H' ->WR K H' x v ->Q v H') ->r v H Q
end
theorem mJ.mv (e:mJ K H D' D)(t:a8 H H'):mJ K H' D' D:=#[λa b c d h s=>e.nx a b c d h (t.trans s),λa b c d h s=>e.rt a b c d h (t.trans s),λa b c d h s=>e.bk a b c d h (t.trans s),λa b c d h s=>e.ct a b c d h (t.trans s)]
end WL
namespace WL
open PySem L2
section
variable {K:WV}
def fC (i:Nat):WE:=λρ M q=>match ρ[i]? with
 | some (some x)=>q x M
 | _=>False
def HB (h:fC i ρ M q): ∃x,ρ[i]? =some (some x) /\ q x M:=by unfold fC at h;split at h;rename_i x e;show#[x,e,h];show h.elim
instance {i:Nat}:IE K (Mu i) (fC i) where
 imp:=λρ M σ H q Q o h k=>let ⟨x,e,h⟩:=HB h;let ⟨v,e',r⟩:=o.env.2 i x e;#[v,e',k x M v H h (a8.refl H) o.hp r]
def wC (x:W):WE:=λ_ M q=>q x M
instance {v:V}:IE K (tC v) (wC (.v v)) where
 imp:=λρ M σ H q Q o h k=>k (.v v) M v H h (a8.refl H) o.hp WR.v
def LG (r:qi)(a b:WE):WE:=λρ M q=>a ρ M λx M1=>b ρ M1 λy M2=>r x y M2 q
instance {r:R2}{w:qi}{ta tb:TE}{a b:WE} [ir:IR K r w] [ia:IE K ta a] [ib:IE K tb b]:IE K (Vs r ta tb) (LG w a b) where
 imp:=λρ M σ H q Q o h k=>ia.imp ρ M σ H _ _ o h λx M1 v H1 h1 t1 m1 r1=>ib.imp ρ M1 σ H1 _ _ (o.mv t1 m1) h1 λy M2 u H2 h2 t2 m2 r2=>ir.imp x y v u M2 H2 _ _ m2 (r1.ts t2) r2 h2 λz M3 v3 H3 h3 t3 m3 r3=>k z M3 v3 H3 h3 ((t1.trans t2).trans t3) m3 r3
def _b (r:W ->Mp ->WK ->Prop)(a:WE):WE:=λρ M q=>a ρ M λx M1=>r x M1 q
instance {r:V ->Hp ->VK ->Prop}{w:W ->Mp ->WK ->Prop}{ta:TE}{a:WE} [ir:IU K r w] [ia:IE K ta a]:IE K (tUn r ta) (_b w a) where
 imp:=λρ M σ H q Q o h k=>ia.imp ρ M σ H _ _ o h λx M1 v H1 h1 t1 m1 r1=>ir.imp x v M1 H1 _ _ m1 r1 h1 λz M3 v3 H3 h3 t3 m3 r3=>k z M3 v3 H3 h3 (t1.trans t3) m3 r3
def wI (C:Int ->Int ->Prop)(g:Int ->Int ->V):qi:=λx y M q=> ∃i j,x=wi i /\ y=wi j /\ C i j /\ q (.v (g i j)) M
def _C (g:Int ->Int ->V):qi:=λx y M q=>cg λi j=>cW (x=wi i) (y=wi j) (q (.v (g i j)) M)
def wU (g:Int ->V):W ->Mp ->WK ->Prop:=λx M q=> ∃i,x=wi i /\ q (.v (g i)) M
instance {C:Int ->Int ->Prop}{g:Int ->Int ->V}:IR K (rI C g) (wI C g) where
 imp:=by rintro x y v u M H q Q m r1 r2 ⟨i,j,rfl,rfl,c,h⟩ k;show#[i,j,r1.eq,r2.eq,c,k _ M _ H h (a8.refl H) m WR.v]
instance {g:Int ->Int ->V}:IR K (MF g) (_C g) where
 imp:=by rintro x y v u M H q Q m r1 r2 ⟨i,j,rfl,rfl,h⟩ k;show#[i,j,r1.eq,r2.eq,k _ M _ H h (a8.refl H) m WR.v]
instance {g:Int ->V}:IU K (rU g) (wU g) where
 imp:=by rintro x v M H q Q m r1 ⟨i,rfl,h⟩ k;show#[i,r1.eq,k _ M _ H h (a8.refl H) m WR.v]
def T8:qi:=λx y M q=>cg λa b=>fj (x= .v a) (y= .v b) (My a b=true) (q (wb (decide (a=b))) M)
def _o:qi:=λx y M q=>cg λa b=>fj (x= .v a) (y= .v b) (My a b=true) (q (wb (!decide (a=b))) M)
instance:IR K rEq T8 where
 imp:=by rintro x y v u M H q Q m r1 r2 ⟨i,j,rfl,rfl,c,h⟩ k;cases r1.eq;cases r2.eq;show#[c,k _ M _ H h (a8.refl H) m WR.v]
instance:IR K rNe _o where
 imp:=by rintro x y v u M H q Q m r1 r2 ⟨i,j,rfl,rfl,c,h⟩ k;cases r1.eq;cases r2.eq;show#[c,k _ M _ H h (a8.refl H) m WR.v]
def w5 (a:WE):WT:=λρ M q=>a ρ M λx M1=> ∃k,x=wb k /\ q k M1
instance {t:TE}{a:WE} [ia:IE K t a]:IT K (Ia t) (w5 a) where
 imp:=λρ M σ H q Q o h k=>ia.imp ρ M σ H _ _ o h λx M1 v H1 ⟨b,e,h1⟩ t1 m1 r1=>by subst e;show#[b,r1.eq,k b M1 H1 h1 t1 m1]
instance {t:TE}{a:WE} [ia:IE K t a]:IT K (tB t) (w5 a) where
 imp:=λρ M σ H q Q o h k=>ia.imp ρ M σ H _ _ o h λx M1 v H1 ⟨b,e,h1⟩ t1 m1 r1=>by subst e;show#[b,r1.eq,k b M1 H1 h1 t1 m1]
def QV (a b:WT):WT:=λρ M q=>a ρ M λc M1=>if c=true then b ρ M1 q else q false M1
def _k (a b:WT):WT:=λρ M q=>a ρ M λc M1=>if c=true then q true M1 else b ρ M1 q
def QE (a:WT):WT:=λρ M q=>a ρ M λc M1=>q (!c) M1
instance {t u:TT}{a b:WT} [ia:IT K t a] [ib:IT K u b]:IT K (VC t u) (QV a b) where
 imp:=λρ M σ H q Q o h k=>ia.imp ρ M σ H _ _ o h λc M1 H1 h1 t1 m1=>by
  cases c with
  | true=>simp![b0] at h1 ⊢;show ib.imp ρ M1 σ H1 _ _ (o.mv t1 m1) h1 λb M2 H2 h2 t2 m2=>k b M2 H2 h2 (t1.trans t2) m2
  | false=>simp![aC,bC] at h1 ⊢;show k _ M1 H1 h1 t1 m1
instance {t u:TT}{a b:WT} [ia:IT K t a] [ib:IT K u b]:IT K (tOr t u) (_k a b) where
 imp:=λρ M σ H q Q o h k=>ia.imp ρ M σ H _ _ o h λc M1 H1 h1 t1 m1=>by
  cases c with
  | false=>simp![aC,bC] at h1 ⊢;show ib.imp ρ M1 σ H1 _ _ (o.mv t1 m1) h1 λb M2 H2 h2 t2 m2=>k b M2 H2 h2 (t1.trans t2) m2
  | true=>simp![b0] at h1 ⊢;show k _ M1 H1 h1 t1 m1
instance {t:TT}{a:WT} [ia:IT K t a]:IT K (Vt t) (QE a) where
 imp:=λρ M σ H q Q o h k=>ia.imp ρ M σ H _ _ o h λc M1 H1 h1 t1 m1=>k _ M1 H1 h1 t1 m1
def OZ (a b:WE):WE:=λρ M q=>a ρ M λx M1=> ∃c,x=wb c /\ if c=true then b ρ M1 q else q (wb false) M1
def UX (a b:WE):WE:=λρ M q=>a ρ M λx M1=> ∃c,x=wb c /\ if c=true then q (wb true) M1 else b ρ M1 q
def OV (a:WE):WE:=λρ M q=>a ρ M λx M1=> ∃c,x=wb c /\ q (wb (!c)) M1
instance {t u:TE}{a b:WE} [ia:IE K t a] [ib:IE K u b]:IE K (Pa t u) (OZ a b) where
 imp:=λρ M σ H q Q o h k=>ia.imp ρ M σ H _ _ o h λx M1 v H1 ⟨c,e,h1⟩ t1 m1 r1=>by
  subst e;exact#[c,r1.eq,?_];cases c with
  | true=>simp![b0] at h1 ⊢;show ib.imp ρ M1 σ H1 _ _ (o.mv t1 m1) h1 λb M2 v H2 h2 t2 m2 r2=>k b M2 v H2 h2 (t1.trans t2) m2 r2
  | false=>simp![aC,bC] at h1 ⊢;show k _ M1 _ H1 h1 t1 m1 WR.v
instance {t u:TE}{a b:WE} [ia:IE K t a] [ib:IE K u b]:IE K (Vr t u) (UX a b) where
 imp:=λρ M σ H q Q o h k=>ia.imp ρ M σ H _ _ o h λx M1 v H1 ⟨c,e,h1⟩ t1 m1 r1=>by
  subst e;exact#[c,r1.eq,?_];cases c with
  | false=>simp![aC,bC] at h1 ⊢;show ib.imp ρ M1 σ H1 _ _ (o.mv t1 m1) h1 λb M2 v H2 h2 t2 m2 r2=>k b M2 v H2 h2 (t1.trans t2) m2 r2
  | true=>simp![b0] at h1 ⊢;show k _ M1 _ H1 h1 t1 m1 WR.v
instance {t:TE}{a:WE} [ia:IE K t a]:IE K (O7 t) (OV a) where
 imp:=λρ M σ H q Q o h k=>ia.imp ρ M σ H _ _ o h λx M1 v H1 ⟨c,e,h1⟩ t1 m1 r1=>by subst e;show#[c,r1.eq,k _ M1 _ H1 h1 t1 m1 WR.v]
def HQ (r r':qi)(a b c:WE):WE:=λρ M q=>a ρ M λx M1=>b ρ M1 λy M2=>r x y M2 λz M3=> ∃k,z=wb k /\ if k=true then c ρ M3 λy' M4=>r' y y' M4 λz' M5=>q z' M5 else q (wb false) M3
def UZ:WA:=λ_ M q=>q [] M
def HL (a:WE)(r:WA):WA:=λρ M q=>a ρ M λx M1=>r ρ M1 λxs M2=>q (x::xs) M2
instance:IA K FQ UZ where
 imp:=λρ M σ H q Q o h k=>k [] M [] H h (a8.refl H) o.hp cI.nil
instance {t:TE}{u:TA}{a:WE}{b:WA} [ia:IE K t a] [ib:IA K u b]:IA K (Il t u) (HL a b) where
 imp:=λρ M σ H q Q o h k=>ia.imp ρ M σ H _ _ o h λx M1 v H1 h1 t1 m1 r1=>ib.imp ρ M1 σ H1 _ _ (o.mv t1 m1) h1 λy M2 u H2 h2 t2 m2 r2=>k _ M2 _ H2 h2 (t1.trans t2) m2 (cI.cons (r1.ts t2) r2)
def QD (a:WA):WE:=λρ M q=>a ρ M λxs M1=>xs.length<=sizeLine /\ q (.tup xs) M1
def QG (a:WA):WE:=λρ M q=>a ρ M λxs M1=>xs.length<=sizeLine /\ ∀p,M1 p=none ->q (wr p) (um M1 p (.lst xs))
instance {t:TA}{a:WA} [ia:IA K t a]:IE K (Vo t) (QD a) where
 imp:=λρ M σ H q Q o h k=>ia.imp ρ M σ H _ _ o h λx M1 v H1 ⟨hl,h1⟩ t1 m1 r1=>#[by rw[r1.length];show hl,λp hp=>k _ M1 _ _ h1 (t1.trans (L2.ge.ts (b_ hp))) (m1.new hp) (WR.Se (k7.of bU) (r1.ts (L2.ge.ts (b_ hp))))]
instance {t:TA}{a:WA} [ia:IA K t a]:IE K (Vu t) (QG a) where
 imp:=λρ M σ H q Q o h k=>ia.imp ρ M σ H _ _ o h λx M1 v H1 ⟨hl,h1⟩ t1 m1 r1=>#[by rw[r1.length];show hl,λp hp=>k _ _ _ _ (h1 p (m1.fresh hp)) (t1.trans (L2.ge.ts (b_ hp))) (m1.k8 hp r1) WR.v]
def QM:qi:=λx y M q=>fY λa l i u=>gm (x=wr a) (y=wi i) (M a=some (.lst l)) (gP l i=some u) (q u M)
def FI:qi:=λx y M q=>eQ λl i u=>fj (x= .tup l) (y=wi i) (gP l i=some u) (q u M)
def cI.gP (r:cI K H l vs)(e:gP l i=some u): ∃v,L2.gP vs i=some v /\ WR K H u v:=by
 unfold L2.gP at e ⊢;rw[r.length];cases h:AX l.length i with
 | none=>rw[h] at e;cases e
 | some j=>rw[h] at e;show r.at e
instance:IR K (Ry K) QM where
 imp:=by rintro x y v u M H q Q m r1 r2 ⟨a,l,i,z,rfl,rfl,hl,e,h⟩ k;let⟨vs,hv,r⟩:=m a _ hl;let⟨v',e',r'⟩:=r.gP e;show#[a,vs,i,v',r1.eq,r2.eq,g0.of hv,e',k _ M _ H h (a8.refl H) m r']
instance:IR K (Rx K) FI where
 imp:=by rintro x y v u M H q Q m r1 r2 ⟨l,i,z,rfl,rfl,e,h⟩ k;let⟨a,vs,rfl,hv,r⟩:=r1.tup;let⟨v',e',r'⟩:=r.gP e;show#[a,vs,i,v',rfl,r2.eq,hv,e',k _ M _ H h (a8.refl H) m r']
def Dd (xs:cA W)(lo hi:e9 Int):cA W:=(xs.drop (HT.ub xs.length 0 lo)).take (HT.ub xs.length xs.length hi - HT.ub xs.length 0 lo)
def cI.cut (lo hi:e9 Int)(r:cI K H l vs):cI K H (Dd l lo hi) (Bv vs lo hi):=by unfold Dd Bv;rw[r.length];show(r.drop _).take _
end
abbrev WO:=cc ->Mp ->(e9 Int ->Mp ->Prop) ->Prop
class IO (K:PySem.W.Frag) (t:TO) (w:outParam WO):Prop where
 imp: ∀ (ρ:cc) (M:Mp) (σ:St) (H:Hp) (q:Option Int ->Mp ->Prop) (Q:Option Int ->Hp ->Prop),Ok K ρ M σ H ->w ρ M q ->(∀b M' H',q b M' ->a8 H H' ->gi K M' H' ->Q b H') ->t σ H Q
abbrev G9:=W ->e9 Int ->e9 Int ->Mp ->WK ->Prop
class ISl (K:PySem.W.Frag) (r:V ->Option Int ->Option Int ->Hp ->VK ->Prop) (w:outParam G9):Prop where
 imp: ∀ (x:W) (v:V) (lo hi:Option Int) (M:Mp) (H:Hp) (q:WK) (Q:VK),gi K M H ->WR K H x v ->w x lo hi M q ->(∀x M' v H',q x M' ->a8 H H' ->gi K M' H' ->WR K H' x v ->Q v H') ->r v lo hi H Q
section
variable {K:WV}
def DH:WO:=λ_ M q=>q none M
def HF (a:WE):WO:=λρ M q=>a ρ M λx M1=> ∃i,x=wi i /\ q (some i) M1
instance:IO K DP DH where
 imp:=λρ M σ H q Q o h k=>k _ M H h (a8.refl H) o.hp
instance {t:TE}{a:WE} [ia:IE K t a]:IO K (O6 t) (HF a) where
 imp:=λρ M σ H q Q o h k=>ia.imp ρ M σ H _ _ o h λx M1 v H1 ⟨i,e,h1⟩ t1 m1 r1=>by subst e;show#[i,r1.eq,k _ M1 H1 h1 t1 m1]
def _h (r:G9)(a:WE)(lo hi:WO):WE:=λρ M q=>a ρ M λx M1=>lo ρ M1 λl M2=>hi ρ M2 λu M3=>r x l u M3 q
instance {r:V ->e9 Int ->e9 Int ->Hp ->VK ->Prop}{w:G9}{t:TE}{tl th:TO}{a:WE}{lo hi:WO} [ir:ISl K r w] [ia:IE K t a] [il:IO K tl lo] [ih:IO K th hi]:IE K (tSl r t tl th) (_h w a lo hi) where
 imp:=λρ M σ H q Q o h k=>ia.imp ρ M σ H _ _ o h λx M1 v H1 h1 t1 m1 r1=>il.imp ρ M1 σ H1 _ _ (o.mv t1 m1) h1 λl M2 H2 h2 t2 m2=>ih.imp ρ M2 σ H2 _ _ (o.mv (t1.trans t2) m2) h2 λu M3 H3 h3 t3 m3=>ir.imp x v l u M3 H3 _ _ m3 (r1.ts (t2.trans t3)) h3 λy M4 v4 H4 h4 t4 m4 r4=>k y M4 v4 H4 h4 (((t1.trans t2).trans t3).trans t4) m4 r4
def UT:G9:=λx lo hi M q=>cg λa l=>cW (x=wr a) (M a=some (.lst l)) (∀p,M p=none ->q (wr p) (um M p (.lst (Dd l lo hi))))
instance:ISl K (VR K) UT where
 imp:=by rintro x v lo hi M H q Q m r1 ⟨a,l,rfl,hl,h⟩ k;let⟨vs,hv,r⟩:=m a _ hl;show#[a,vs,r1.eq,g0.of hv,λp hp=>k _ _ _ _ (h p (m.fresh hp)) (L2.ge.ts (b_ hp)) (m.k8 hp (r.cut lo hi)) WR.v]
def _I (r:zE)(a:WA):WE:=λρ M q=>a ρ M λxs M1=>r xs M1 q
instance {r:cA V ->Hp ->VK ->Prop}{w:zE}{t:TA}{a:WA} [ir:IC K r w] [ia:IA K t a]:IE K (_X r t) (_I w a) where
 imp:=λρ M σ H q Q o h k=>ia.imp ρ M σ H _ _ o h λx M1 v H1 h1 t1 m1 r1=>ir.imp x v M1 H1 _ _ m1 r1 h1 λy M4 v4 H4 h4 t4 m4 r4=>k y M4 v4 H4 h4 (t1.trans t4) m4 r4
abbrev fe:=cA W ->Mp ->WK ->Prop
def fK (K:WV)(p:fe):Sp:=λvs H Q _=>eQ λ(xs:cA W) (M:Mp) (q:WK)=>fj (cI K H xs vs) (gi K M H) (p xs M q) (∀x M' v H',q x M' ->a8 H H' ->gi K M' H' ->WR K H' x v ->Q v H')
def HR (p:fe)(a:WA):WE:=λρ M q=>a ρ M λxs M1=>p xs M1 q
instance {p:fe}{E:XK}{t:TA}{a:WA} [ia:IA K t a]:IE K (xg (fK K p) [] E t) (HR p a) where
 imp:=λρ M σ H q Q o h k=>ia.imp ρ M σ H _ _ o h λx M1 v H1 h1 t1 m1 r1=>#[x,M1,q,by rw[dI];show r1,m1,h1,λy M4 v4 H4 h4 t4 m4 r4=>k y M4 v4 H4 h4 (t1.trans t4) m4 r4]
def okW (F:BL K x qual st f fd)(S:cf N ps (aS st))(len: ∀vs M q,p vs M q ->vs.length=ps.length)(jN: ∀ (cdv:c7) (A:Around) (outer:cA Env) (s:dz) (H:Hp) (E:XK),eR k (A.deeper (PyProof.Rows.envOfC qual (aS st) s.heap.objs.size f cdv)) ->cg λt w'=>cW (zS (eI fi P w K mg base N qual (aS st) f cdv A outer s H E).LL (dL st) t) (IS K t w') (∀vs M q,p vs M q ->w' {nx:=λ_ M'=>q wn M',rt:=q} (vs.map some++List.replicate (N.length - vs.length) none) M)): bD P w K mg base fi (k+1) f fd ps (fK K p):=by
 exact BL.ok F S (λvs H Q E ⟨xs,M,q,r,m,h,_⟩=>by rw[r.length];show len xs M q h) λcdv A outer s H vs Q E hr h=> ?_;let⟨t,w',h1,h2,h3⟩:=jN cdv A outer s H E hr;let⟨xs,M,q,r,m,h,k'⟩:=h;exact#[t,h1,h2.imp _ M _ H _ _ #[#[?_,λi x e=> ?_],m] (h3 xs M q h) #[λρ' M' σ' H' h ts o=>k' _ M' _ H' h ts o.hp WR.v,λx M' v H' h ts m' r'=>k' x M' v H' h ts m' r',λ_ _ _ _ h=>h.elim,λ_ _ _ _ h=>h.elim]];have:=r.length;simp[L2.start,this];have hl:=r.length;unfold L2.start;by_cases hi:i<xs.length;rw[bn ⇑hi,aI] at e;cases ex:xs[i]? with
 | none=>rw[ex] at e;cases e
 | some y=>rw[ex] at e;cases e;let⟨v,hv,rv⟩:=r.at ex;exact#[v,?_,rv];rw[bn (by simp;lia),aI,hv];rfl
 rw[bf ⇑hi,dh] at e;split at e<;>cases e
def Rw (K:WV):cA V ->Hp ->VK ->Prop:=λxs H Q=>cg λp ys=>cW (xs= [.ref p]) (g0 K H p ys \/ k7 K H p ys) (Q (.int ys.length) H)
theorem G1:fB X (.builtin "len") (Rw X.K):=zy
def Mg:zE:=λxs M q=>(cg λa l=>cW (xs= [wr a]) (M a=some (.lst l)) (q (wi l.length) M)) \/ ∃l,xs= [.tup l] /\ q (wi l.length) M
def cI.one (h:cI K H [x] vs): ∃v,vs= [v] /\ WR K H x v:=by simp![cI] at h;let⟨v,t,rfl,h1,rfl⟩:=h;show#[v,rfl,h1]
def cI.two (h:cI K H [x,y] vs):cg λv u=>cW (vs= [v,u]) (WR K H x v) (WR K H y u):=by simp![cI] at h;let⟨v,t,rfl,h1,u,t',rfl,h2,rfl⟩:=h;show#[v,u,rfl,h1,h2]
instance:IC K (Rw K) Mg where
 imp :=by
  rintro xs v M H q Q m r1 h k;rcases h with⟨a,l,rfl,hl,h⟩ | ⟨l,rfl,h⟩
  let⟨v,rfl,r⟩:=r1.one;cases r.eq;let⟨vs,hv,rr⟩:=m a _ hl;exact#[a,vs,rfl, .inl (g0.of hv),k _ M _ H h (a8.refl H) m ?_];rw[rr.length];show WR.v;let⟨v,rfl,r⟩:=r1.one;let⟨a,vs,rfl,hv,rr⟩:=r.tup;exact#[a,vs,rfl, .inr hv,k _ M _ H h (a8.refl H) m ?_];rw[rr.length];show WR.v
def V0:cA V ->Hp ->VK ->Prop:=λxs H Q=> ∃i,xs= [.int i] /\ Q (.int (if i<0 then -i else i)) H
theorem fS:fB X (.builtin "abs") V0:=K4
def Vc:zE:=λxs M q=> ∃i,xs= [wi i] /\ q (wi (if i<0 then -i else i)) M
instance:IC K V0 Vc where
 imp:=by rintro xs v M H q Q m r1 ⟨i,rfl,h⟩ k;let⟨v,rfl,r⟩:=r1.one;cases r.eq;show#[i,rfl,k _ M _ H h (a8.refl H) m WR.v]
def Ej (K:WV):cA V ->Hp ->VK ->Prop:=λxs H Q=>cg λp ys=>cW (xs= [.ref p]) (g0 K H p ys \/ k7 K H p ys) (∀l,H l=none ->Q (.ref l) (cK H l (.lst ys)))
theorem eV:fB X (.type "list") (Ej X.K):=zw
def oq:zE:=λxs M q=> ∃l,((∃a,xs= [wr a] /\ M a=some (.lst l)) \/ xs= [.tup l]) /\ ∀p,M p=none ->q (wr p) (um M p (.lst l))
instance:IC K (Ej K) oq where
 imp :=by
  rintro xs v M H q Q m r1 ⟨l,hx,h⟩ k;rcases hx with⟨a,rfl,hl⟩ | rfl
  let⟨v,rfl,r⟩:=r1.one;cases r.eq;let⟨vs,hv,rr⟩:=m a _ hl;show#[a,vs,rfl, .inl (g0.of hv),λp hp=>k _ _ _ _ (h p (m.fresh hp)) (L2.ge.ts (b_ hp)) (m.k8 hp rr) WR.v];let⟨v,rfl,r⟩:=r1.one;let⟨a,vs,rfl,hv,rr⟩:=r.tup;show#[a,vs,rfl, .inr hv,λp hp=>k _ _ _ _ (h p (m.fresh hp)) (L2.ge.ts (b_ hp)) (m.k8 hp rr) WR.v]
def At (K:WV):cA V ->Hp ->VK ->Prop:=λxs H Q=>cg λp ys=>xs= [.ref p] /\ ((g0 K H p ys /\ ∀l,H l=none ->Q (.ref l) (cK H l (.tup ys))) \/ (k7 K H p ys /\ Q (.ref p) H))
theorem gL:fB X (.type "tuple") (At X.K):=wN
def ux:zE:=λxs M q=> ∃l,((∃a,xs= [wr a] /\ M a=some (.lst l)) \/ xs= [.tup l]) /\ q (.tup l) M
instance:IC K (At K) ux where
 imp :=by
  rintro xs v M H q Q m r1 ⟨l,hx,h⟩ k;rcases hx with⟨a,rfl,hl⟩ | rfl
  let⟨v,rfl,r⟩:=r1.one;cases r.eq;let⟨vs,hv,rr⟩:=m a _ hl;show#[a,vs,rfl, .inl #[g0.of hv,λp hp=>k _ M _ _ h (L2.ge.ts (b_ hp)) (m.new hp) (WR.Se (k7.of bU) (rr.ts (L2.ge.ts (b_ hp))))]];let⟨v,rfl,r⟩:=r1.one;let⟨a,vs,rfl,hv,rr⟩:=r.tup;show#[a,vs,rfl, .inr #[hv,k _ M _ H h (a8.refl H) m (WR.Se hv rr)]]
theorem cI.ofInts {H:Hp}: ∀ (ns:cA Int),cI K H (ns.map wi) (ns.map V.int)
 | []=>cI.nil
 | n::r=>cI.cons WR.v (cI.ofInts r)
def YU (M:Mp):W ->e9 c7
 | .v (.int _)=>some (.type "int")
 | .v (.bl _)=>some (.type "bool")
 | .v (.str _)=>some (.type "str")
 | .v .d3=>some (.type "NoneType")
 | .tup _=>some (.type "tuple")
 | .v (.ref a)=>match M a with
  | some (.lst _)=>some (.type "list")
  | _=>none
 | _=>none
def U2 (K:WV):zE:=λxs M q=>fY λx T t b=>fj (xs= [x, .v (.ty T)]) (YU M x=some t) (W.kitOne K t (.type T)=some b) (q (wb b) M)
def QZ (m:gi K M H)(r:WR K H x v)(e:YU M x=some t):X5 K H v t:=by
 cases x with
 | tup l=>let⟨a,vs,rfl,hv,rr⟩:=r.tup;cases e;show .tup hv
 | v y =>
  cases r.eq;cases v with
  | int i=>cases e;show .of (.int i)
  | bl i=>cases e;show .of (.bl i)
  | str i=>cases e;show .of (.str i)
  | d3=>cases e;show .of .d3
  | ref a=>
   simp![YU] at e;cases ha:M a with
   | none=>rw[ha] at e;cases e
   | some o=>
    rw[ha] at e;cases o with
    | lst l=>cases e;let⟨vs,hv,_⟩:=m a _ ha;show .lst (g0.of hv)
    | dK l=>cases e
    | ins C d l=>cases e
    | exc C=>cases e
    | fz o l l2=>cases e
  | Dg _=>cases e
  | N5 _=>cases e
  | ty _=>cases e
instance:IC K (Rz K) (U2 K) where
 imp:=by rintro xs v M H q Q m r1 ⟨x,T,t,b,rfl,ht,e,h⟩ k;let⟨v,u,rfl,r,r'⟩:=r1.two;cases r'.eq;show#[v,T,t,b,rfl,QZ m r ht,e,k _ M _ H h (a8.refl H) m WR.v]
end
section
variable {K:WV}
abbrev WM:=W ->cA W ->Mp ->WK ->Prop
class IM (K:PySem.W.Frag) (r:V ->List V ->Hp ->VK ->Prop) (w:outParam WM):Prop where
 imp: ∀ (x:W) (v:V) (ys:List W) (us:List V) (M:Mp) (H:Hp) (q:WK) (Q:VK),gi K M H ->WR K H x v ->cI K H ys us ->w x ys M q ->(∀x M' v H',q x M' ->a8 H H' ->gi K M' H' ->WR K H' x v ->Q v H') ->r v us H Q
def IsL (M:Mp)(x:W):Prop:=cg λa l=>x=wr a /\ M a=some (.lst l)
def IsL.ty (m:gi K M H)(r:WR K H x v)(h:IsL M x):YV K "list" v H:=by let⟨a,l,rfl,hl⟩:=h;cases r.eq;let⟨vs,hv,_⟩:=m a _ hl;show .inl #[rfl,vs,g0.of hv]
def YO (r:WM)(a:WE)(b:WA):WE:=λρ M q=>a ρ M λx M1=>IsL M1 x /\ b ρ M1 λxs M2=>r x xs M2 q
def Mm (r:WM)(a:WE):WE:=λρ M q=>a ρ M λx M1=>IsL M1 x /\ r x [] M1 q
instance {r:V ->cA V ->Hp ->VK ->Prop}{w:WM}{t:TE}{u:TA}{a:WE}{b:WA} [ir:IM K r w] [ia:IE K t a] [ib:IA K u b]:IE K (YY K "list" r t u) (YO w a b) where
 imp:=λρ M σ H q Q o h k=>ia.imp ρ M σ H _ _ o h λx M1 v H1 ⟨hl,h1⟩ t1 m1 r1=>#[hl.ty m1 r1,ib.imp ρ M1 σ H1 _ _ (o.mv t1 m1) h1 λy M2 u H2 h2 t2 m2 r2=>ir.imp x v y u M2 H2 _ _ m2 (r1.ts t2) r2 h2 λz M3 v3 H3 h3 t3 m3 r3=>k z M3 v3 H3 h3 ((t1.trans t2).trans t3) m3 r3]
instance {r:V ->cA V ->Hp ->VK ->Prop}{w:WM}{t:TE}{a:WE} [ir:IM K r w] [ia:IE K t a]:IE K (VA K "list" r t) (Mm w a) where
 imp:=λρ M σ H q Q o h k=>ia.imp ρ M σ H _ _ o h λx M1 v H1 ⟨hl,h1⟩ t1 m1 r1=>#[hl.ty m1 r1,ir.imp x v [] [] M1 H1 _ _ m1 r1 cI.nil h1 λz M3 v3 H3 h3 t3 m3 r3=>k z M3 v3 H3 h3 (t1.trans t3) m3 r3]
def yt:WM:=λx ys M q=>eQ λa l y=>gm (x=wr a) (ys= [y]) (M a=some (.lst l)) (l.length<sizeLine) (q wn (um M a (.lst (l++ [y]))))
instance:IM K Em yt where
 imp:=by rintro x v ys us M H q Q m r1 r2 ⟨a,l,y,rfl,rfl,hl,hn,h⟩ k;cases r1.eq;let⟨u,rfl,r⟩:=r2.one;let⟨vs,hv,rr⟩:=m a _ hl;show#[a,vs,u,rfl,rfl,hv,by rw[rr.length];show hn,k _ _ _ _ h (iB hv) (m.putL hv (rr.snoc r)) WR.v]
def yr:WM:=λx ys M q=>fY λa b l l'=>lm (x=wr a) (ys= [wr b]) (M a=some (.lst l)) (M b=some (.lst l')) (l.length+l'.length<=sizeLine) (q wn (um M a (.lst (l++l'))))
instance:IM K El yr where
 imp:=by rintro x v ys us M H q Q m r1 r2 ⟨a,b,l,l',rfl,rfl,hl,rY,hn,h⟩ k;cases r1.eq;let⟨u,rfl,r⟩:=r2.one;cases r.eq;let⟨vs,hv,rr⟩:=m a _ hl;let⟨QW,NM,Ph⟩:=m b _ rY;show#[a,b,vs,QW,rfl,rfl,hv,NM,by rw[rr.length,Ph.length];show hn,k _ _ _ _ h (iB hv) (m.putL hv (rr.append Ph)) WR.v]
def _i:WM:=λx ys M q=>eQ λa l y=>fj (x=wr a) (ys= []) (M a=some (.lst (l++ [y]))) (q y (um M a (.lst l)))
instance:IM K VS _i where
 imp:=by rintro x v ys us M H q Q m r1 r2 ⟨a,l,y,rfl,rfl,hl,h⟩ k;cases r1.eq;simp![cI] at r2;let⟨vs,hv,rr⟩:=m a _ hl;have dJ:=rr.length;rw[aD,List.length_singleton] at dJ;let⟨u,hu,r⟩:=rr.at (j:=l.length) (d:=y) (by simp);exact#[a,vs,u,rfl,r2,hv,by rw[dJ];simpa using hu,k _ _ _ _ h (iB hv) (m.putL hv (l:=l) ?_) (r.ts (iB hv))];have:=rr.take l.length;rw[List.take_left' rfl] at this;rw[List.dropLast_eq_take,dJ];show this
def QS:qi:=λx y M q=>fY λa b l l'=>lm (x=wr a) (y=wr b) (M a=some (.lst l)) (M b=some (.lst l')) (l.length+l'.length<=sizeLine) (∀p,M p=none ->q (wr p) (um M p (.lst (l++l'))))
instance:IR K VX QS where
 imp:=by rintro x y v u M H q Q m r1 r2 ⟨a,b,l,l',rfl,rfl,hl,rY,hn,h⟩ k;cases r1.eq;cases r2.eq;let⟨vs,hv,rr⟩:=m a _ hl;let⟨QW,NM,Ph⟩:=m b _ rY;show#[a,b,vs,QW,rfl,rfl,hv,NM,by rw[rr.length,Ph.length];show hn,λp hp=>k _ _ _ _ (h p (m.fresh hp)) (L2.ge.ts (b_ hp)) (m.k8 hp (rr.append Ph)) WR.v]
def Me (M:Mp):W ->Bool ->Prop
 | .v .d3,k=>k=false
 | .v (.bl b),k=>k=b
 | .v (.int i),k=>k=(i !=0)
 | .v (.str y),k=>y.length<=sizeLine /\ k=((y.length:Int) !=0)
 | .v (.ref a),k=>(∃l,M a=some (.lst l) /\ k= !l.isEmpty) \/ (∃l,M a=some (.dK l) /\ k= !l.isEmpty)
 | .tup l,k=>k= !l.isEmpty
 | _,_=>False
def H_ (K:WV)(ta:TE):TT:=λσ H Q=>ta σ H λx H'=> ∃k,Oz K x H' k /\ Q k H'
theorem xq (ha:PE X a ta)(he: ∀nj,isTrue a X.env nj=(do let v <- nj;standAt a.pos;holding [v] (truthy v)):=by intro _;rfl):PT X a (H_ X.K ta):=Jb ha he
def HC (a:WE):WT:=λρ M q=>a ρ M λx M1=> ∃k,Me M1 x k /\ q k M1
def cI.isEmpty (r:cI K H l vs):vs.isEmpty=l.isEmpty:=by have:=r.length;cases l<;>cases vs<;>simp_all
def KR.isEmpty {vs:cA (b8×V)}(r:KR K H l vs):vs.isEmpty=l.isEmpty:=by cases r<;>rfl
def Me.ok (m:gi K M H)(r:WR K H x v)(h:Me M x k):Oz K v H k:=by
 cases x with
 | tup l=>let⟨a,vs,rfl,hv,rr⟩:=r.tup;show .inr (.inl #[vs,hv,by rw[rr.isEmpty];show h])
 | v y =>
  cases r.eq;cases v with
  | ref a=>
   rcases h with⟨l,hl,e⟩ | ⟨l,hl,e⟩
   let⟨vs,hv,rr⟩:=m a _ hl;show .inl #[vs,g0.of hv,by rw[rr.isEmpty];show e];let⟨vs,hv,rr⟩:=m a _ hl;show .inr (.inr #[vs,hv,by rw[rr.isEmpty];show e])
  | _=>first | show h | show(show False from h).elim
instance {t:TE}{a:WE} [ia:IE K t a]:IT K (H_ K t) (HC a) where
 imp:=λρ M σ H q Q o h k=>ia.imp ρ M σ H _ _ o h λx M1 v H1 ⟨b,hb,h1⟩ t1 m1 r1=>#[b,hb.ok m1 r1,k b M1 H1 h1 t1 m1]
def iY:b8 ->W
 | .inl k=>wi k
 | .inr x=>ws x
def eU (kvs:cA (b8×W))(k:b8):e9 W:=(kvs.find? λkv=>decide (kv.1=k)).map (·.2)
def uN (kvs:cA (b8×W))(k:b8)(v:W):cA (b8×W):=if(kvs.any λkv=>decide (kv.1=k))=true then kvs.map (λkv=>if kv.1=k then(kv.1,v) else kv) else kvs++ [(k,v)]
def jQ (kvs:cA (b8×W))(k:b8):cA (b8×W):=kvs.filter λkv=>decide (kv.1≠k)
theorem KR.keys {H:Hp}: ∀ {l:cA (b8×W)} {vs:cA (b8×V)},KR K H l vs ->vs.map (·.1)=l.map (·.1)
 | _,_, .nil=>rfl
 | _,_, .cons ⟨e,r⟩ t=>by rw[aN,aN,KR.keys t,e]
theorem KR.length {H:Hp}{κ:Type}: ∀ {l:cA (κ×W)} {vs:cA (κ×V)},KR K H l vs ->vs.length=l.length
 | _,_, .nil=>rfl
 | _,_, .cons _ t=>by rw[aB,aB,KR.length t]
theorem KR.val {H:Hp}(k:b8): ∀ {l:cA (b8×W)} {vs:cA (b8×V)},KR K H l vs ->(eU l k=none /\ iX vs k=none) \/ cg λx v=>cW (eU l k=some x) (iX vs k=some v) (WR K H x v)
 | _,_, .nil=> .inl #[rfl,rfl]
 | (k1,x)::l,(k2,v)::vs, .cons ⟨e,r⟩ t=>by have e:k1=k2:=e;subst e;unfold eU iX;rw[cJ,cJ];by_cases hk:k1=k;simp![hk,bI];show .inr #[x,v,rfl,rfl,r];simp![hk,decide_false];show KR.val k t
theorem KR.map {H:Hp}{k:b8}{x:W}{v:V}(rx:WR K H x v): ∀ {l:cA (b8×W)} {vs:cA (b8×V)},KR K H l vs ->KR K H (l.map (λkv=>if kv.1=k then(kv.1,x) else kv)) (vs.map (λkv=>if kv.1=k then(kv.1,v) else kv))
 | _,_, .nil=> .nil
 | (k1,y)::l,(k2,u)::vs, .cons ⟨e,r⟩ t=>by have e:k1=k2:=e;subst e;rw[aN,aN];exact .cons ?_ (KR.map rx t);by_cases hk:k1=k;rw[ao hk,ao hk];show#[rfl,rx];rw[ak hk,ak hk];show#[rfl,r]
theorem KR.append {H:Hp}{k:b8}{x:W}{v:V}(rx:WR K H x v): ∀ {l:cA (b8×W)} {vs:cA (b8×V)},KR K H l vs ->KR K H (l++ [(k,x)]) (vs++ [(k,v)])
 | _,_, .nil=> .cons #[rfl,rx] .nil
 | _,_, .cons r t=> .cons r (KR.append rx t)
def KR.put (rx:WR K H x v)(r:KR K H l vs):KR K H (uN l k x) (mZ vs k v):=by
 have ek:(l.any λkv=>decide (kv.1=k))=vs.any λkv=>decide (kv.1=k):=by
  have:=r.keys;have e1:(l.any λkv=>decide (kv.1=k))=(l.map (·.1)).any λy=>decide (y=k):=by rw[List.any_map];rfl
  have e2:(vs.any λkv=>decide (kv.1=k))=(vs.map (·.1)).any λy=>decide (y=k):=by rw[List.any_map];rfl
  rw[e1,e2,this]
 unfold uN mZ;rw[ek];split;show KR.map rx r;show KR.append rx r
theorem KR.drop {H:Hp}{k:b8}: ∀ {l:cA (b8×W)} {vs:cA (b8×V)},KR K H l vs ->KR K H (jQ l k) (ml vs k)
 | _,_, .nil=> .nil
 | (k1,y)::l,(k2,u)::vs, .cons ⟨e,r⟩ t=>by have e:k1=k2:=e;subst e;unfold jQ ml;rw[List.filter_cons,List.filter_cons];by_cases hk:k1=k;simp![hk,ne_eq,not_true,decide_false,aC,bC];show KR.drop t;simp![ne_eq,hk,not_false_eq_true,bI,b0];show .cons #[rfl,r] (KR.drop t)
def je (r:WR K H (iY k) v):v=kV k:=by cases k<;>show r.eq
def HJ:WE:=λ_ M q=> ∀p,M p=none ->q (wr p) (um M p (.dK []))
instance:IE K Ih HJ where
 imp:=λρ M σ H q Q o h k=>λp hp=>k _ _ _ _ (h p (o.hp.fresh hp)) (L2.ge.ts (b_ hp)) (o.hp.put (L2.ge.ts (b_ hp)) #[[],bU, .nil]) WR.v
def DJ (a b:WE):WE:=λρ M q=>a ρ M λx M1=>b ρ M1 λy M2=>fY λp kvs k z=>gm (x=wr p) (M2 p=some (.dK kvs)) (y=iY k) (eU kvs k=some z) (q z M2)
instance {t u:TE}{a b:WE} [ia:IE K t a] [ib:IE K u b]:IE K (Ik t u) (DJ a b) where
 imp :=λρ M σ H q Q o h k=>ia.imp ρ M σ H _ _ o h λx M1 v H1 h1 t1 m1 r1=>ib.imp ρ M1 σ H1 _ _ (o.mv t1 m1) h1 λy M2 u H2 ⟨p,kvs,ky,z,e1,e2,e3,e4,h2⟩ t2 m2 r2=>by
  subst e1 e3;let⟨ks,hk,rr⟩:=m2 p _ e2;rcases rr.val ky with⟨n1,_⟩ | ⟨x',v',n1,n2,rx⟩
  rw[n1] at e4;cases e4;rw[n1] at e4;cases e4;exact#[p,v',r1.eq,?_,k _ M2 _ H2 h2 (t1.trans t2) m2 rx];rw[je r2, <- n2];show ng.k hk
def Mj (a b:WE):WE:=λρ M q=>a ρ M λy M1=>b ρ M1 λx M2=>eQ λp kvs k=>fj (x=wr p) (M2 p=some (.dK kvs)) (y=iY k) (q (wb (eU kvs k).isSome) M2)
def tZ (a b:WE):WE:=λρ M q=>a ρ M λy M1=>b ρ M1 λx M2=>eQ λp kvs k=>fj (x=wr p) (M2 p=some (.dK kvs)) (y=iY k) (q (wb (!(eU kvs k).isSome)) M2)
def KR.some (k:b8)(r:KR K H l vs):(iX vs k).isSome=(eU l k).isSome:=by rcases r.val k with⟨a,b⟩ | ⟨x,v,a,b,_⟩ <;>rw[a,b] <;>rfl
instance {t u:TE}{a b:WE} [ia:IE K t a] [ib:IE K u b]:IE K (Vz t u) (Mj a b) where
 imp:=λρ M σ H q Q o h k=>ia.imp ρ M σ H _ _ o h λy M1 v H1 h1 t1 m1 r1=>ib.imp ρ M1 σ H1 _ _ (o.mv t1 m1) h1 λx M2 u H2 ⟨p,kvs,ky,e1,e2,e3,h2⟩ t2 m2 r2=>by subst e1 e3;let⟨ks,hk,rr⟩:=m2 p _ e2;exact#[p,iX ks ky,r2.eq,by rw[je r1];show ng.k hk,k _ M2 _ H2 h2 (t1.trans t2) m2 ?_];rw[rr.some];show WR.v
instance {t u:TE}{a b:WE} [ia:IE K t a] [ib:IE K u b]:IE K (DQ t u) (tZ a b) where
 imp:=λρ M σ H q Q o h k=>ia.imp ρ M σ H _ _ o h λy M1 v H1 h1 t1 m1 r1=>ib.imp ρ M1 σ H1 _ _ (o.mv t1 m1) h1 λx M2 u H2 ⟨p,kvs,ky,e1,e2,e3,h2⟩ t2 m2 r2=>by subst e1 e3;let⟨ks,hk,rr⟩:=m2 p _ e2;exact#[p,iX ks ky,r2.eq,by rw[je r1];show ng.k hk,k _ M2 _ H2 h2 (t1.trans t2) m2 ?_];rw[rr.some];show WR.v
def Ce (a b c:WE):WE:=λρ M q=>a ρ M λx M1=> ∃p,cW (x=wr p) (∃kvs,M1 p=some (.dK kvs)) (b ρ M1 λy M2=>c ρ M2 λz M3=>cg λkvs k=>cW (M3 p=some (.dK kvs)) (y=iY k) (q ((eU kvs k).getD z) M3))
instance {t u s:TE}{a b c:WE} [ia:IE K t a] [ib:IE K u b] [ic:IE K s c]:IE K (Ij t u s) (Ce a b c) where
 imp:=λρ M σ H q Q o h k=>ia.imp ρ M σ H _ _ o h λx M1 v H1 ⟨p,e,⟨kvs,hp⟩,h1⟩ t1 m1 r1=>by
  subst e;let⟨ks,hk,rr⟩:=m1 p _ hp;exact#[p,r1.eq, .inl #[ks, .inl hk],ib.imp ρ M1 σ H1 _ _ (o.mv t1 m1) h1 λy M2 u H2 h2 t2 m2 r2=>ic.imp ρ M2 σ H2 _ _ (o.mv (t1.trans t2) m2) h2 λz M3 u3 H3 ⟨kvs,ky,e2,e3,h3⟩ t3 m3 r3=> ?_];subst e3;let⟨ks,hk,rr⟩:=m3 p _ e2;exact#[iX ks ky,by rw[je (r2.ts t3)];show ng.k hk,k _ M3 _ H3 h3 ((t1.trans t2).trans t3) m3 ?_];rcases rr.val ky with⟨n1,n2⟩ | ⟨x',v',n1,n2,rx⟩
  rw[n1,n2];show r3;rw[n1,n2];show rx
end
section
variable {K:WV}
def O2 (i:Nat):WG:=λx ρ M q=>q (ρ.set i (some x)) M
instance {i:Nat}:IG K (lW i) (O2 i) where
 imp:=λx v ρ M σ H q Q o r h k=>k _ M _ H h (a8.refl H) #[o.env.set i r,o.hp]
def QX:Oy:=λxs ρ M q=>xs= [] /\ q ρ M
def O3 (a:WG)(b:Oy):Oy:=λxs ρ M q=>cg λx r=>xs=x::r /\ a x ρ M λρ' M'=>b r ρ' M' q
instance:ZU K N2 QX where
 imp:=λx v ρ M σ H q Q o r h k=>by let⟨rfl,h⟩:=h;show#[by simpa only[cI] using r,k _ M _ H h (a8.refl H) o]
instance {t:TG}{u:Ma}{a:WG}{b:Oy} [ia:IG K t a] [ib:ZU K u b]:ZU K (xH t u) (O3 a b) where
 imp:=λx v ρ M σ H q Q o r h k=>by let⟨y,cQ,rfl,h⟩:=h;simp![cI] at r;let⟨v1,t1,rfl,r1,r2⟩:=r;show#[v1,t1,rfl,ia.imp y v1 ρ M σ H _ _ o r1 h λρ' M' σ' H' h' ts o'=>ib.imp cQ t1 ρ' M' σ' H' _ _ o' (r2.ts ts) h' λρ2 M2 σ2 H2 h2 Vh o2=>k ρ2 M2 σ2 H2 h2 (ts.trans Vh) o2]
def Vd (n:Nat)(a:Oy):WG:=λx ρ M q=> ∃l,cW (x= .tup l) (l.length=n) (a l ρ M q)
instance {n:Nat}{t:Ma}{a:Oy} [ia:ZU K t a]:IG K (N1 K n t) (Vd n a) where
 imp:=λx v ρ M σ H q Q o r h k=>by let⟨l,rfl,hl,h⟩:=h;let⟨a',vs,rfl,hv,rr⟩:=r.tup;show#[a',vs,rfl,hv,by rw[rr.length];show hl,ia.imp l vs ρ M σ H _ _ o rr h k]
abbrev Le:=W ->W ->W ->Mp ->(Mp ->Prop) ->Prop
class Ya (K:PySem.W.Frag) (t:Lf) (w:outParam Le):Prop where
 imp: ∀ (x y z:W) (v u r:V) (M:Mp) (H:Hp) (q:Mp ->Prop) (Q:Hp ->Prop),gi K M H ->WR K H x v ->WR K H y u ->WR K H z r ->w x y z M q ->(∀M' H',q M' ->a8 H H' ->gi K M' H' ->Q H') ->t v u r H Q
def OU:Le:=λx y z M q=>fY λa l k j=>gm (x=wr a) (y=wi k) (M a=some (.lst l)) (AX l.length k=some j) (q (um M a (.lst (l.set j z))))
instance:Ya K Pl OU where
 imp:=by rintro x y z v u r M H q Q m r1 r2 r3 ⟨a,l,i,j,rfl,rfl,hl,e,h⟩ k;let⟨vs,hv,rr⟩:=m a _ hl;show#[a,vs,i,j,r1.eq,r2.eq,hv,by rw[rr.length];show e,k _ _ h (iB hv) (m.putL hv (rr.set j r3))]
def Ve (a b:WE)(s:Le):WG:=λx ρ M q=>a ρ M λo M1=>b ρ M1 λi M2=>s o i x M2 λM3=>q ρ M3
instance {t u:TE}{s:Lf}{a b:WE}{w:Le} [ia:IE K t a] [ib:IE K u b] [is:Ya K s w]:IG K (Xy t u s) (Ve a b w) where
 imp:=λx v ρ M σ H q Q o r h k=>ia.imp ρ M σ H _ _ o h λy M1 v1 H1 h1 t1 m1 r1=>ib.imp ρ M1 σ H1 _ _ (o.mv t1 m1) h1 λz M2 v2 H2 h2 t2 m2 r2=>is.imp y z x v1 v2 v M2 H2 _ _ m2 (r1.ts t2) r2 (r.ts (t1.trans t2)) h2 λM3 H3 h3 t3 m3=>k ρ M3 σ H3 h3 ((t1.trans t2).trans t3) (o.mv ((t1.trans t2).trans t3) m3)
def Ed:WS:=λD ρ M=>D.nx ρ M
instance:IS K O8 Ed where
 imp:=λρ M σ H D' D o h e=>e.nx ρ M σ H h (a8.refl H) o
def FY (a b:WS):WS:=λD ρ M=>a {D with nx:=b D} ρ M
instance {t u:TS}{a b:WS} [ia:IS K t a] [ib:IS K u b]:IS K (Q_ t u) (FY a b) where
 imp:=λρ M σ H D' D o h e=>ia.imp ρ M σ H _ _ o h #[λρ' M' σ' H' h' ts o'=>ib.imp ρ' M' σ' H' D' D o' h' (e.mv ts),e.rt,e.bk,e.ct]
def ID (a:WE):WS:=λD ρ M=>a ρ M λ_ M1=>D.nx ρ M1
instance {t:TE}{a:WE} [ia:IE K t a]:IS K (O9 t) (ID a) where
 imp:=λρ M σ H D' D o h e=>ia.imp ρ M σ H _ _ o h λx M1 v H1 h1 t1 m1 r1=>e.nx ρ M1 σ H1 h1 t1 (o.mv t1 m1)
def VJ (a:WE):WS:=λD ρ M=>a ρ M D.rt
instance {t:TE}{a:WE} [ia:IE K t a]:IS K (Vq t) (VJ a) where
 imp:=λρ M σ H D' D o h e=>ia.imp ρ M σ H _ _ o h λx M1 v H1 h1 t1 m1 r1=>e.rt x M1 v H1 h1 t1 m1 r1
def Ro (c:WT)(a b:WS):WS:=λD ρ M=>c ρ M λk M1=>if k=true then a D ρ M1 else b D ρ M1
instance {tc:TT}{t u:TS}{c:WT}{a b:WS} [ic:IT K tc c] [ia:IS K t a] [ib:IS K u b]:IS K (Vv tc t u) (Ro c a b) where
 imp:=λρ M σ H D' D o h e=>ic.imp ρ M σ H _ _ o h λk M1 H1 h1 t1 m1=>by
  cases k with
  | true=>simp![b0] at h1 ⊢;show ia.imp ρ M1 σ H1 D' D (o.mv t1 m1) h1 (e.mv t1)
  | false=>simp![aC,bC] at h1 ⊢;show ib.imp ρ M1 σ H1 D' D (o.mv t1 m1) h1 (e.mv t1)
def Rq (a:WE)(g:WG):WS:=λD ρ M=>a ρ M λx M1=>g x ρ M1 D.nx
instance {t:TE}{g:TG}{a:WE}{w:WG} [ia:IE K t a] [ig:IG K g w]:IS K (Io t g) (Rq a w) where
 imp:=λρ M σ H D' D o h e=>ia.imp ρ M σ H _ _ o h λx M1 v H1 h1 t1 m1 r1=>ig.imp x v ρ M1 σ H1 _ _ (o.mv t1 m1) r1 h1 λρ2 M2 σ2 H2 h2 t2 o2=>e.nx ρ2 M2 σ2 H2 h2 (t1.trans t2) o2
class IIp (K:PySem.W.Frag) (t:UF) (w:outParam qi):Prop where
 imp: ∀ (x y:W) (v u:V) (M:Mp) (H:Hp) (q:WK) (Q:VK),gi K M H ->WR K H x v ->WR K H y u ->w x y M q ->(∀x M' v H',q x M' ->a8 H H' ->gi K M' H' ->WR K H' x v ->Q v H') ->t v u H Q
instance {f:Int ->Int ->Int}:IIp K (ipI f) (_C λi j=> .int (f i j)) where
 imp:=by rintro x y v u M H q Q m r1 r2 ⟨i,j,rfl,rfl,h⟩ k;show#[i,j,r1.eq,r2.eq,k _ M _ H h (a8.refl H) m WR.v]
def VO (i:Nat)(a:WE)(r:qi):WS:=λD ρ M=>fC i ρ M λx M=>a ρ M λy M1=>r x y M1 λz M2=>D.nx (ρ.set i (some z)) M2
instance {i:Nat}{t:TE}{ti:UF}{a:WE}{w:qi} [ia:IE K t a] [ir:IIp K ti w]:IS K (VB i t ti) (VO i a w) where
 imp:=λρ M σ H D' D o h e=>by let⟨x,ex,h⟩:=HB h;let⟨v,ev,rv⟩:=o.env.2 i x ex;show#[v,ev,ia.imp ρ M σ H _ _ o h λy M1 u H1 h1 t1 m1 r1=>ir.imp x y v u M1 H1 _ _ m1 (rv.ts t1) r1 h1 λz M2 w2 H2 h2 t2 m2 r2=>e.nx _ M2 _ H2 h2 (t1.trans t2) #[(o.env.ts (t1.trans t2)).set i r2,m2]]
def yF (a b c:WE):WS:=λD ρ M=>c ρ M λz M1=>a ρ M1 λx M2=>b ρ M2 λy M3=>eQ λp kvs k=>gm (x=wr p) (M3 p=some (.dK kvs)) (y=iY k) (kvs.length<sizeLine) (D.nx ρ (um M3 p (.dK (uN kvs k z))))
instance {t u s:TE}{a b c:WE} [ia:IE K t a] [ib:IE K u b] [ic:IE K s c]:IS K (Pe t u s) (yF a b c) where
 imp :=λρ M σ H D' D o h e=>ic.imp ρ M σ H _ _ o h λz M1 v1 H1 h1 t1 m1 r1=>ia.imp ρ M1 σ H1 _ _ (o.mv t1 m1) h1 λx M2 v2 H2 h2 t2 m2 r2=>ib.imp ρ M2 σ H2 _ _ (o.mv (t1.trans t2) m2) h2 λy M3 v3 H3 ⟨p,kvs,k,e1,e2,e3,hl,h3⟩ t3 m3 r3=>by subst e1 e3;let⟨ks,hk,rr⟩:=m3 p _ e2;have ts:=ls (u:= .dK (mZ ks k v1)) hk;exact#[p,_,r2.eq,?_,e.nx ρ _ σ (cK H3 p (.dK (mZ ks k v1))) h3 (((t1.trans t2).trans t3).trans ts) (o.mv (((t1.trans t2).trans t3).trans ts) (m3.putD hk (KR.put (r1.ts (t2.trans t3)) rr)))];rw[je r3];show LD.k hk (by rw[rr.length];show hl)
def Cs (a b:WE):WS:=λD ρ M=>a ρ M λx M1=>b ρ M1 λy M2=>eQ λp kvs k=>gm (x=wr p) (M2 p=some (.dK kvs)) (y=iY k) ((eU kvs k).isSome=true) (D.nx ρ (um M2 p (.dK (jQ kvs k))))
instance {t u:TE}{a b:WE} [ia:IE K t a] [ib:IE K u b]:IS K (Pf t u) (Cs a b) where
 imp :=λρ M σ H D' D o h e=>ia.imp ρ M σ H _ _ o h λx M2 v2 H2 h2 t2 m2 r2=>ib.imp ρ M2 σ H2 _ _ (o.mv t2 m2) h2 λy M3 v3 H3 ⟨p,kvs,k,e1,e2,e3,hl,h3⟩ t3 m3 r3=>by subst e1 e3;let⟨ks,hk,rr⟩:=m3 p _ e2;have ts:=ls (u:= .dK (ml ks k)) hk;show#[p,ks,k,r2.eq,hk,je r3,by rw[rr.some];show hl,e.nx ρ _ σ _ h3 ((t2.trans t3).trans ts) (o.mv ((t2.trans t3).trans ts) (m3.putD hk rr.drop))]
def Dq (K:WV)(H1:Hp)(J:It)(xs:cA W)(keep:Mp ->Prop):Prop:=∀i M H,a8 H1 H ->gi K M H ->keep M ->(xs.length=i ->J.stop i H) /\ (i<xs.length ->J.go i H) /\ ∀v H',i<xs.length ->J.TW i H v H' ->a8 H H' /\ gi K M H' /\ ∃x,xs[i]? =some x /\ WR K H' x v
class II (K:PySem.W.Frag) (t:TI) (w:outParam WI):Prop where
 imp: ∀ (ρ:cc) (M:Mp) (σ:St) (H:Hp) (q:List W ->(Mp ->Prop) ->Mp ->Prop) (R:It ->Hp ->Prop),Ok K ρ M σ H ->w ρ M q ->(∀xs keep J M' H',q xs keep M' ->a8 H H' ->gi K M' H' ->Dq K H' J xs keep ->R J H') ->t σ H R
def EW (a:WE):WI:=λρ M q=>a ρ M λx M1=>cg λp l=>cW (x=wr p) (M1 p=some (.lst l)) (q l (λM'=>M' p=some (.lst l)) M1)
def SG (a:WE):WI:=λρ M q=>a ρ M λx M1=> ∃l,x= .tup l /\ q l (λ_=>True) M1
def gU (lo:Int)(n:Nat):cA W:=(List.range n).map λ(k:Nat)=>wi (lo+(k:Int))
def EV (a:WA):WI:=λρ M q=>a ρ M λxs M1=> ∃j:Int,fj (xs= [wi j]) (-(2 ^ 62) <=j) (j<2 ^ 62) (q (gU 0 j.toNat) (λ_=>True) M1)
def xB:Dq K H1 (ZS K p) l (λM'=>M' p=some (.lst l)):=by intro i M H ts m hk;let⟨vs,hv,rr⟩:=m p _ hk;have hl:=rr.length;exact#[λh=>#[vs,g0.of hv, ∅],λh=>#[vs,vs[i]'∅,g0.of hv,by simp],λv H' hi y=> ?_];let⟨rfl,y⟩:=y;have:=y vs (g0.of hv);let⟨d,hd,r⟩:=rr.back this;show#[a8.refl _,m,d,hd,r]
def AY (hv:k7 K H1 p vs)(rr:cI K H1 l vs):Dq K H1 (ZQ K p) l (λ_=>True):=by intro i M H ts m _;have NM:=Un.sqT ts hv;have Ph:=rr.ts ts;have hl:=Ph.length;exact#[λh=>#[vs,NM, ∅],λh=>#[vs,vs[i]'∅,NM,by simp],λv H' hi y=> ?_];let⟨rfl,y⟩:=y;have:=y vs NM;let⟨d,hd,r⟩:=Ph.back this;show#[a8.refl _,m,d,hd,r]
def J7:Dq K H1 (ZR lo n) (gU lo n) (λ_=>True):=by
 intro i M H ts m _;have hl:(gU lo n).length=n:=by simp[gU]
 rw[hl];exact#[λh=>Nat.le_of_eq h,λh=>h,λv H' hi y=> ?_];let⟨rfl,y⟩:=y;exact#[a8.refl _,m,wi (lo+i),?_,by rw[y];show WR.v];simp[gU,hi]
instance {t:TE}{a:WE} [ia:IE K t a]:II K (J_ K t) (EW a) where
 imp:=λρ M σ H q R o h k=>ia.imp ρ M σ H _ _ o h λx M1 v H1 ⟨p,l,e,hp,h1⟩ t1 m1 r1=>by subst e;let⟨vs,hv,rr⟩:=m1 p _ hp;show#[p,r1.eq,#[vs,g0.of hv],k l _ _ M1 H1 h1 t1 m1 xB]
instance {t:TE}{a:WE} [ia:IE K t a]:II K (SK K t) (SG a) where
 imp:=λρ M σ H q R o h k=>ia.imp ρ M σ H _ _ o h λx M1 v H1 ⟨l,e,h1⟩ t1 m1 r1=>by subst e;let⟨p,vs,rfl,hv,rr⟩:=r1.tup;show#[p,rfl,#[vs,hv],k l _ _ M1 H1 h1 t1 m1 (AY hv rr)]
instance {t:TA}{a:WA} [ia:IA K t a]:II K (Qc t) (EV a) where
 imp:=λρ M σ H q R o h k=>ia.imp ρ M σ H _ _ o h λxs M1 v H1 ⟨j,e,h0,h1,h2⟩ t1 m1 r1=>by subst e;let⟨v,rfl,r⟩:=r1.one;cases r.eq;show#[j,rfl,h0,h1,k _ _ _ M1 H1 h2 t1 m1 J7]
def Rp (it:WI)(g:WG)(b:WS):WS:=λD ρ M=>it ρ M λxs keep M1=> ∃I:Nat ->cc ->Mp ->Prop,fj (I 0 ρ M1) (∀i ρ M,i<=xs.length ->I i ρ M ->keep M) (∀i x ρ M,xs[i]? =some x ->I i ρ M ->g x ρ M λρ2 M2=>b {D with nx:=I (i+1),ct:=I (i+1),bk:=D.nx} ρ2 M2) (∀ρ M,I xs.length ρ M ->D.nx ρ M)
instance {ti:TI}{g:TG}{t:TS}{it:WI}{w:WG}{b:WS} [ii:II K ti it] [ig:IG K g w] [ib:IS K t b]:IS K (Vy ti g t) (Rp it w b) where
 imp :=λρ M σ H D' D o h e=>ii.imp ρ M σ H _ _ o h λxs keep J M1 H1 h1 t1 m1 ok=>by let⟨I,h0,hk,hs,hd⟩:=h1;exact#[λi m σ' H'=>m=xs.length - i /\ i<=xs.length /\ cg λρ' M'=>cW (I i ρ' M') (a8 H1 H') (Ok K ρ' M' σ' H'),#[_,rfl,de _,ρ,M1,h0,a8.refl _,o.mv t1 m1],?_];rintro i m σ' H' ⟨rfl,hi,ρ',M',hI,ts,o'⟩;let⟨k1,k2,k3⟩:=ok i M' H' ts o'.hp (hk i ρ' M' hi hI);by_cases m8:i<xs.length;exact .inr #[k2 m8,λσ2 H2=>cg λρ2 M2=>cW (I (i+1) ρ2 M2) (a8 H1 H2) (Ok K ρ2 M2 σ2 H2),λσ2 H2 ⟨ρ2,M2,a,b,c⟩=>#[xs.length - (i+1), ∅,rfl,m8,ρ2,M2,a,b,c],λv H2 y=> ?_];let⟨ty,my,x,hx,r⟩:=k3 v H2 m8 y;replace ts:=ts.trans ty;exact ig.imp x v ρ' M' σ' H2 _ _ (o'.mv ty my) r (hs i x ρ' M' hx hI) λρ3 M3 σ3 H3 h3 t3 o3=>ib.imp ρ3 M3 σ3 H3 _ _ o3 h3 #[λa b c d h t o=>#[a,b,h,(ts.trans t3).trans t,o],λa b c d h t=>e.rt a b c d h (t1.trans ((ts.trans t3).trans t)),λa b c d h t=>e.nx a b c d h (t1.trans ((ts.trans t3).trans t)),λa b c d h t o=>#[a,b,h,(ts.trans t3).trans t,o]];have e':i=xs.length:= ∅;subst e';show .inl #[k1 rfl,e.nx ρ' M' σ' H' (hd ρ' M' hI) (t1.trans ts) o']
def og (own:Nat)(fr:cA Nat)(ρ:cc):cc:=List.replicate own none++fr.map λj=>(ρ[j]?).join
def L_.UC (own:Nat)(fr:cA Nat)(h:L_ K H ρ σ):L_ K H (og own fr ρ) (k_ own fr σ):=by
 unfold og k_;exact#[by simp,λi x e=> ?_];by_cases hi:i<own;rw[bn ⇑hi,dh,ao hi] at e;cases e;rw [bf ⇑hi,List.length_replicate,aI] at e;rw[bf ⇑hi,List.length_replicate,aI];cases ej:fr[i - own]? with
 | none=>rw[ej] at e;cases e
 | some j=>
  rw[ej] at e;simp![bB,Option.some.injEq] at e ⊢;cases er:ρ[j]? with
  | none=>rw[er] at e;cases e
  | some z=>rw[er] at e;simp![Option.join_some] at e;subst e;let⟨v,ev,r⟩:=h.2 j x er;show#[v,by rw[ev];rfl,r]
def HN (it:WI)(own:Nat)(fr:cA Nat)(g:WG)(c:WT)(el:WE):WE:=λρ M q=>it ρ M λxs keep M1=>xs.length<=sizeLine /\ ∀p,M1 p=none -> ∃I:Nat ->cA W ->Mp ->Prop,fj (I 0 [] (um M1 p (.lst []))) (∀i ys M,i<=xs.length ->I i ys M ->keep M /\ M p=some (.lst ys) /\ ys.length<=i) (∀i x ys M,xs[i]? =some x ->I i ys M ->g x (og own fr ρ) M λρ2 M2=>c ρ2 M2 λb M3=>if b=true then el ρ2 M3 λy M4=>M4 p=some (.lst ys) /\ I (i+1) (ys++ [y]) (um M4 p (.lst (ys++ [y]))) else I (i+1) ys M3) (∀ys M,I xs.length ys M ->q (wr p) M)
instance {ti:TI}{own:Nat}{fr:cA Nat}{g:TG}{tc:TT}{te:TE}{it:WI}{w:WG}{c:WT}{el:WE} [ii:II K ti it] [ig:IG K g w] [ic:IT K tc c] [ie:IE K te el]:IE K (O_ ti own fr g tc te) (HN it own fr w c el) where
 imp :=λρ M σ H q Q o h k=>ii.imp ρ M σ H _ _ o h λxs keep J M1 H1 h1 t1 m1 ok=>by
  intro p hp;let⟨hz,h1⟩:=h1;let⟨I,h0,hk,hs,hd⟩:=h1 p (m1.fresh hp);have tp:=L2.ge.ts (b_ (o:= .lst []) hp);exact#[λi m vs H'=>m=xs.length - i /\ i<=xs.length /\ cg λys M'=>gm (I i ys M') (a8 H1 H') (gi K M' H') (cI K H' ys vs) (H' p=some (.lst vs)),#[_,rfl,de _,[],_,h0,tp,m1.k8 hp cI.nil,cI.nil,bU],?_];rintro i m vs H' ⟨rfl,hi,ys,M',hI,ts,m',rv,hv⟩;exact#[hv,?_];let⟨kp,hMp,hyl⟩:=hk i ys M' hi hI;let⟨k1,k2,k3⟩:=ok i M' H' ts m' kp;by_cases m8:i<xs.length;exact .inr #[k2 m8,by rw[rv.length];lia,λv H2 y=> ?_];let⟨ty,my,x,hx,r⟩:=k3 v H2 m8 y;replace ts:=ts.trans ty;have oc:Ok K (og own fr ρ) M' (k_ own fr σ) H2:=#[(o.env.ts (t1.trans ts)).UC own fr,my]
  exact ig.imp x v _ M' _ H2 _ _ oc r (hs i x ys M' hx hI) λρ3 M3 σ3 H3 h3 t3 o3=>ic.imp ρ3 M3 σ3 H3 _ _ o3 h3 λb M4 H4 h4 t4 m4=> ?_;cases b with
  | true=>simp![b0] at h4 ⊢;exact ie.imp ρ3 M4 σ3 H4 _ _ (o3.mv t4 m4) h4 λz M5 u H5 ⟨h5,h6⟩ t5 m5 r5=> ?_;let⟨O1,NL,MB⟩:=m5 p _ h5;have _Y:=(t3.trans t4).trans t5;have t6:=iB (u:= .lst (O1++ [u])) NL;show#[O1,NL,by rw[MB.length];lia,_, ∅,rfl,m8,_,_,h6,(ts.trans _Y).trans t6,m5.putL NL (MB.snoc r5),(MB.snoc r5).ts t6,bU]
  | false=>simp![aC,bC] at h4 ⊢;let⟨O1,NL,MB⟩:=m4 p _ (hk (i+1) ys M4 m8 h4).2.1;show#[O1,_, ∅,rfl,m8,_,_,h4,ts.trans (t3.trans t4),m4,MB,NL]
  have e':i=xs.length:= ∅;subst e';show .inl #[k1 rfl,k _ M' _ H' (hd ys M' hI) (t1.trans ts) m' WR.v]
def UP:WT:=λ_ M q=>q true M
instance:IT K Vn UP where
 imp:=λρ M σ H q Q o h k=>k _ M H h (a8.refl H) o.hp
end
section
variable {K:WV}
theorem gi.sub (s:Sm M M')(m:gi K M' H):gi K M H:=λa o e=>m a o (s a o e)
def okS (F:BL K x qual st f fd)(S:cf N ps (aS st))(len: ∀vs M q,p vs M q ->vs.length=ps.length)(jN: ∀ (cdv:c7) (A:Around) (outer:cA Env) (s:dz) (H:Hp) (E:XK),eR k (A.deeper (PyProof.Rows.envOfC qual (aS st) s.heap.objs.size f cdv)) ->∃t,zS (eI fi P w K mg base N qual (aS st) f cdv A outer s H E).LL (dL st) t /\ ∃w',IS K t w' /\ ∀vs M q,p vs M q ->w' {nx:=λ_ M'=> ∃M0,Sm M0 M' /\ q wn M0,rt:=λx M'=> ∃M0,Sm M0 M' /\ q x M0} (vs.map some++List.replicate (N.length - vs.length) none) M): bD P w K mg base fi (k+1) f fd ps (fK K p):=by
 have h:=okW (K:=K) (P:=P) (w:=w) (mg:=mg) (base:=base) (k:=k) (p:=λvs M q=> ∃q',p vs M q' /\ q=λx M'=> ∃M0,Sm M0 M' /\ q' x M0) F S (λvs M q ⟨q',h,_⟩=>len vs M q' h) λcdv A outer s H E hr=>by let⟨t,h1,w',h2,h3⟩:=jN cdv A outer s H E hr;exact#[t,w',h1,h2,?_];rintro vs M q ⟨q',h,rfl⟩;show h3 vs M q' h
 exact h.imp λvs H Q E ⟨xs,M,q,r,m,hp,hk⟩=>#[xs,M,_,r,m,#[q,hp,rfl],?_]
 rintro x M' v H' ⟨M0,s,hq⟩ ts m' r';show hk x M0 v H' hq ts (m'.sub s) r'
def GY {xs:cA W}{keep:Mp ->Prop}{M1:Mp}{g:WG}{c:WT}{el:WE}{q:WK}(f:W ->e9 W)(hz:xs.length<=sizeLine)(lU: ∀M,Sm M1 M ->keep M)(hs: ∀ (i:Nat) x,xs[i]? =some x -> ∀ (M:Mp) (N:e9 W ->Mp ->Prop),Sm M1 M ->N (f x) M ->g x (og own fr ρ) M λρ2 M2=>c ρ2 M2 λb M3=>if b=true then el ρ2 M3 λy M4=>N (some y) M4 else N none M3)(hq: ∀p,M1 p=none ->q (wr p) (um M1 p (.lst (xs.filterMap f)))): xs.length<=sizeLine /\ ∀p,M1 p=none -> ∃I:Nat ->cA W ->Mp ->Prop,fj (I 0 [] (um M1 p (.lst []))) (∀i ys M,i<=xs.length ->I i ys M ->keep M /\ M p=some (.lst ys) /\ ys.length<=i) (∀i x ys M,xs[i]? =some x ->I i ys M ->g x (og own fr ρ) M λρ2 M2=>c ρ2 M2 λb M3=>if b=true then el ρ2 M3 λy M4=>M4 p=some (.lst ys) /\ I (i+1) (ys++ [y]) (um M4 p (.lst (ys++ [y]))) else I (i+1) ys M3) (∀ys M,I xs.length ys M ->q (wr p) M):=by
 exact#[hz,λp hp=>#[λi ys M=>M=um M1 p (.lst ys) /\ ys=(xs.take i).filterMap f,#[rfl,by simp],?_,?_,?_]];rintro i ys M hi ⟨rfl,rfl⟩;exact#[lU _ (a5 hp),am,ar (List.length_filterMap_le _ _) ?_];rw[bP];lia;rintro i x ys M hx ⟨rfl,rfl⟩;exact hs i x hx _ (λo M4=>match o with
 | some y=>M4 p=some (.lst ((xs.take i).filterMap f)) /\ (um M4 p (.lst ((xs.take i).filterMap f++ [y]))=um M1 p (.lst ((xs.take i).filterMap f++ [y])) /\ (xs.take i).filterMap f++ [y]=(xs.take (i+1)).filterMap f)
 | none=>M4=um M1 p (.lst ((xs.take i).filterMap f)) /\ (xs.take i).filterMap f=(xs.take (i+1)).filterMap f) (a5 hp) ?_
 have e:xs.take (i+1)=xs.take i++ [x]:=by rw[cD,hx];rfl
 cases hf:f x with
 | none=>show#[rfl,by rw[e,List.filterMap_append];simp[hf]]
 | some y=>show#[am,kl,by rw[e,List.filterMap_append];simp[hf]]
 rintro ys M ⟨rfl,rfl⟩;rw[cP];show hq p hp
mutual
def GX:W ->e9 Dt
 | .v .d3=>some .d3
 | .v (.bl b)=>some (.bl b)
 | .v (.int i)=>some (.int i)
 | .v (.str x)=>some (.str x)
 | .v _=>none
 | .tup l=>(nc l).map .tup
def nc:cA W ->e9 (cA Dt)
 | []=>some []
 | x::r=>match GX x,nc r with
  | some d,some l=>some (d::l)
  | _,_=>none
end
mutual
theorem IQ {H:Hp}: ∀ (x:W) (d:Dt) (v:V),GX x=some d ->WR K H x v ->Rep K H d v
 | .v y,d,v,e,r=>by cases r.eq;cases y<;>simp![GX,Option.some.injEq,reduceCtorEq] at e<;>subst e<;>simp![Rep]
 | .tup l,d,v,e,r=>by
  let⟨a,vs,rfl,hv,rr⟩:=r.tup;simp![GX] at e;cases hd:nc l with
  | none=>rw[hd] at e;cases e
  | some ds=>rw[hd] at e;cases e;simp![Rep];show#[a,vs,rfl,hv,yK l ds vs hd rr]
theorem yK {H:Hp}: ∀ (l:cA W) (ds:cA Dt) (vs:cA V),nc l=some ds ->cI K H l vs ->gp K H ds vs
 | [],ds,vs,e,r=>by simp![nc] at e;cases e;simp![cI] at r;simp![gp];show r
 | x ::l,ds,vs,e,r=>by
  simp![nc] at e;cases hx:GX x with
  | none=>rw[hx] at e;cases e
  | some d=>
   cases hl:nc l with
   | none=>rw[hx,hl] at e;cases e
   | some Tp=>rw[hx,hl] at e;cases e;simp![cI] at r;let⟨v,t,rfl,r1,r2⟩:=r;simp![gp];show#[v,t,rfl,IQ x d v hx r1,yK l Tp t hl r2]
end
def DR (M:Mp)(x:W)(d:Dt):Prop:=GX x=some d \/ eQ λa l ds=>fj (x=wr a) (M a=some (.lst l)) (nc l=some ds) (d= .lst ds)
def DR.rep (m:gi K M H)(r:WR K H x v)(h:DR M x d):Rep K H d v:=by obtain h | ⟨a,l,ds,rfl,hl,e,rfl⟩:=h;show IQ x d v h r;cases r.eq;let⟨vs,hv,rr⟩:=m a _ hl;simp![Rep];show#[a,vs,rfl,g0.of hv,yK l ds vs e rr]
def QF:qi:=λx y M q=>cg λd e=>gm (DR M x d) (DR M y e) (ua d e=true) (tQ d<=50) (q (wb (!wL d e)) M)
instance:IR K (Aw K) QF where
 imp:=by rintro x y v u M H q Q m r1 r2 ⟨d,e,h1,h2,h3,h4,h⟩ k;show#[d,e,h3,h4,h1.rep m r1,h2.rep m r2,k _ M _ H h (a8.refl H) m WR.v]
instance {r r':R2}{t u s:TE}{a b c:WE}{w w':qi} [ir:IR K r w] [ir':IR K r' w'] [ia:IE K t a] [ib:IE K u b] [ic:IE K s c]:IE K (Cn r r' t u s) (HQ w w' a b c) where
 imp :=λρ M σ H q Q o h k=>ia.imp ρ M σ H _ _ o h λx M1 v H1 h1 t1 m1 r1=>ib.imp ρ M1 σ H1 _ _ (o.mv t1 m1) h1 λy M2 u H2 h2 t2 m2 r2=>ir.imp x y v u M2 H2 _ _ m2 (r1.ts t2) r2 h2 λz M3 v3 H3 ⟨kk,e,h3⟩ t3 m3 r3=>by
  subst e;exact#[kk,r3.eq,?_];cases kk with
  | true=>simp![b0] at h3 ⊢;show ic.imp ρ M3 σ H3 _ _ (o.mv ((t1.trans t2).trans t3) m3) h3 λy4 M4 v4 H4 h4 t4 m4 r4=>ir'.imp y y4 u v4 M4 H4 _ _ m4 (r2.ts (t3.trans t4)) r4 h4 λz5 M5 v5 H5 h5 t5 m5 r5=>k z5 M5 v5 H5 h5 ((((t1.trans t2).trans t3).trans t4).trans t5) m5 r5
  | false=>simp![aC,bC] at h3 ⊢;show k _ M3 _ H3 h3 ((t1.trans t2).trans t3) m3 WR.v
def YD (Uf:Bool):qi:=λx y M q=>cg λ(z:V) (l:cA V)=>gm (x= .v z) (y= .tup (l.map .v) \/ ∃a,y=wr a /\ M a=some (.lst (l.map .v))) (lX z=true) (l.all lX=true) (q (wb (if Uf then !Qa z l else Qa z l)) M)
theorem cI.vals {H:Hp}: ∀ {l us:cA V},cI K H (l.map .v) us ->us=l
 | [],us,h=>by simpa only[List.map_nil,cI] using h
 | n::r,vs,h=>by simp![aN,cI] at h;let⟨v,t,rfl,h1,h2⟩:=h;rw[cI.vals h2,h1.eq]
instance {Uf:Bool}:IR K (VV K Uf) (YD Uf) where
 imp :=by rintro x y v u M H q Q m r1 r2 ⟨z,l,rfl,hy,h1,h2,h⟩ k;cases r1.eq;obtain rfl | ⟨a,rfl,ha⟩:=hy;let⟨a,vs,rfl,hv,rr⟩:=r2.tup;cases rr.vals;show#[a,l,rfl, .inr hv,h1,h2,k _ M _ H h (a8.refl H) m WR.v];cases r2.eq;let⟨vs,hv,rr⟩:=m a _ ha;cases rr.vals;show#[a,l,rfl, .inl (g0.of hv),h1,h2,k _ M _ H h (a8.refl H) m WR.v]
def HE:zE:=λxs M q=>eQ λ(d:fP) (kvs:cA (b8×W)) (ks:cA Int)=>gm (xs= [wr d]) (M d=some (.dK kvs)) (kvs.map (·.1)=ks.map Sum.inl) (ks.length<=sizeLine) (∀ (p:fP) (ns:cA Int),M p=none ->ns.Perm ks ->ns.Pairwise (· <= ·) ->q (wr p) (um M p (.lst (ns.map wi))))
instance:IC K Av HE where
 imp:=by rintro xs v M H q Q m r1 ⟨d,kvs,ks,rfl,hd,hk,hl,h⟩ k;let⟨v,rfl,r⟩:=r1.one;cases r.eq;let⟨vs,hv,rr⟩:=m d _ hd;show#[d,vs,ks,rfl,hv,by rw[rr.keys];show hk,hl,λp ns hp h1 h2=>k _ _ _ _ (h p ns (m.fresh hp) h1 h2) (L2.ge.ts (b_ hp)) (m.k8 hp (cI.ofInts ns)) WR.v]
end
end WL
namespace WL
open PySem L2
theorem XZ {l:cA α}:gP (a::l) 0=some a:=fN (j:=0) (by rfl)
theorem aiQ {l:cA α}:gP (a::b::l) 1=some b:=fN (j:=1) (by rfl)
theorem aiP {l:cA α}:gP (a::b::c::l) 2=some c:=fN (j:=2) (by rfl)
theorem aiO {l:cA α}:gP (a::b::c::d::l) 3=some d:=fN (j:=3) (by rfl)
def aiJ:AX (n+1+1) 1=some 1:=by unfold AX;rw[ao ∅,ao ∅];rfl
def aiI:AX (n+1+1+1) 2=some 2:=by unfold AX;rw[ao ∅,ao ∅];rfl
def aiH:AX (n+1+1+1+1) 3=some 3:=by unfold AX;rw[ao ∅,ao ∅];rfl
def gd {a:α}(h0:0<=i)(h:l[i.toNat]? =some a):gP l i=some a:=by have e:((i.toNat:Nat):Int)=i:= ∅;rw[<- e];show fN h
theorem dY {P:Mp ->Prop}(h:P M): ∃M0,Sm M0 M /\ P M0:=#[M,Sm.refl M,h]
def NB (d:fP)(M M':Mp):Prop:= ∀b,b≠d ->M' b=M b
theorem NB.refl (d:fP)(M:Mp):NB d M M:=λ_ _=>rfl
theorem NB.trans {M M1 M2:Mp}(a:NB d M M1)(b:NB d M1 M2):NB d M M2:=λc n=>(b c n).trans (a c n)
theorem NB.put:NB d M (um M d o):=λb n=>aP n
def Dr (M:Mp)(d l:fP):Prop:=fY λ(ns:cA Int) (i c s:Int)=>fj (M d=some (.lst [wr l,wi i,wi c,wi s])) (M l=some (.lst (ns.map wi))) (0<=i) (d≠l)
def Dr.put (h:Dr M d l)(hp:M p=none):Dr (um M p o) d l:=by let⟨ns,i,c,s,h1,h2,h3,h4⟩:=h;show#[ns,i,c,s,by rw[aP (bY h1 hp)];show h1,by rw[aP (bY h2 hp)];show h2,h3,h4]
def Dr.RA (h:Dr M d l)(hd:p≠d)(hl:p≠l):Dr (um M p o) d l:=by let⟨ns,i,c,s,h1,h2,h3,h4⟩:=h;show#[ns,i,c,s,by rw[aP hd.symm];show h1,by rw[aP hl.symm];show h2,h3,h4]
def Dr.ne (h:Dr M d l)(hp:M p=none):p≠d /\ p≠l:=by let⟨ns,i,c,s,h1,h2,h3,h4⟩:=h;show#[(bY h1 hp).symm,(bY h2 hp).symm]
def bV (q:Int×Int):W:= .tup [wi q.1,wi q.2]
def gj (l:cA (Int×Int)):W:= .tup (l.map bV)
def pairs_at {l:cA (Int×Int)}{i:Nat}(h:(l.map bV)[i]? =some x): ∃q,l[i]? =some q /\ x=bV q:=by
 rw[aI] at h;cases e:l[i]? with
 | none=>rw[e] at h;cases h
 | some q=>rw[e] at h;cases h;show#[q,rfl,rfl]
def A0 {l:cA Int}{i:Nat}(h:(l.map wi)[i]? =some x): ∃n,l[i]? =some n /\ x=wi n:=by
 rw[aI] at h;cases e:l[i]? with
 | none=>rw[e] at h;cases h
 | some q=>rw[e] at h;cases h;show#[q,rfl,rfl]
def jE (h:(gU lo n)[i]? =some x):i<n /\ x=wi (lo+i):=by unfold gU at h;rw[aI] at h;by_cases hi:i<n;rw[List.getElem?_range hi] at h;cases h;show#[hi,rfl];rw[List.getElem?_eq_none ⇑hi] at h;cases h
def jD:(gU lo n).length=n:=by simp[gU]
def lstK (o:e9 MO)(k:cA W ->Prop):Prop:= ∃l,o=some (.lst l) /\ k l
def fI (o:e9 MO)(k:cA (b8×W) ->Prop):Prop:= ∃l,o=some (.dK l) /\ k l
def iN {α:Type}(o:e9 α)(k:α ->Prop):Prop:= ∃a,o=some a /\ k a
def ce (C Q:Prop):Prop:=C /\ Q
def gy (b:Bool)(A B:Prop):Prop:=if b=true then A else B
def CJ (M:Mp)(k:fP ->Prop):Prop:= ∀p,M p=none ->k p
def mG (p:fe)(xs:cA W)(M:Mp)(q:WK):Prop:=p xs M q
def P_ (x:W)(M:Mp)(q:Bool ->Mp ->Prop):Prop:= ∃k,x=wb k /\ q k M
def d5 (x:W)(k:fP ->Prop):Prop:= ∃a,x=wr a /\ k a
def tupK (x:W)(k:cA W ->Prop):Prop:= ∃l,x= .tup l /\ k l
def Vi (M:Mp)(x:W)(k:Bool ->Prop):Prop:= ∃b,Me M x b /\ k b
def iZ (x:W)(k:b8 ->Prop):Prop:= ∃y,x=iY y /\ k y
def N4 (xs:cA W)(keep:Mp ->Prop)(g:WG)(b:WS)(D:fA)(ρ:cc)(M1:Mp):Prop:= ∃I:Nat ->cc ->Mp ->Prop,fj (I 0 ρ M1) (∀i ρ M,i<=xs.length ->I i ρ M ->keep M) (∀i x ρ M,xs[i]? =some x ->I i ρ M ->g x ρ M λρ2 M2=>b {D with nx:=I (i+1),ct:=I (i+1),bk:=D.nx} ρ2 M2) (∀ρ M,I xs.length ρ M ->D.nx ρ M)
def sI (xs:cA W)(keep:Mp ->Prop)(own:Nat)(fr:cA Nat)(g:WG)(c:WT)(el:WE)(ρ:cc)(M1:Mp)(q:WK):Prop:=xs.length<=sizeLine /\ ∀p,M1 p=none -> ∃I:Nat ->cA W ->Mp ->Prop,fj (I 0 [] (um M1 p (.lst []))) (∀i ys M,i<=xs.length ->I i ys M ->keep M /\ M p=some (.lst ys) /\ ys.length<=i) (∀i x ys M,xs[i]? =some x ->I i ys M ->g x (og own fr ρ) M λρ2 M2=>c ρ2 M2 λb M3=>if b=true then el ρ2 M3 λy M4=>M4 p=some (.lst ys) /\ I (i+1) (ys++ [y]) (um M4 p (.lst (ys++ [y]))) else I (i+1) ys M3) (∀ys M,I xs.length ys M ->q (wr p) M)
def aay:lstK (some (.lst l)) k=k l:=by apply propext;symm;(· rintro⟨_,h,k⟩;cases h;show k);(· intro h;show#[_,rfl,h])
def ahA:fI (some (.dK l)) k=k l:=by apply propext;symm;(· rintro⟨_,h,k⟩;cases h;show k);(· intro h;show#[_,rfl,h])
def aas {k:α ->Prop}:iN (some x) k=k x:=by apply propext;symm;(· rintro⟨_,h,k⟩;cases h;show k);(· intro h;show#[_,rfl,h])
def ahG:ce True Q=Q:=by simp[ce]
def aa1:gy true A B=A:=by simp[gy]
def aa2:gy false A B=B:=by simp[gy]
def aiL:P_ (.v (.bl k)) M q=q k M:=by apply propext;symm;(· rintro⟨_,h,k⟩;cases h;show k);(· intro h;show#[_,rfl,h])
def gu:d5 (.v (.ref x)) k=k x:=by apply propext;symm;(· rintro⟨_,h,k⟩;cases h;show k);(· intro h;show#[_,rfl,h])
def Q2:tupK (.tup x) k=k x:=by apply propext;symm;(· rintro⟨_,h,k⟩;cases h;show k);(· intro h;show#[_,rfl,h])
def JX:iZ (.v (.int i)) k=k (.inl i):=by apply propext;symm;(· rintro⟨y,h,z⟩;cases y<;>cases h;show z);(· intro h;show#[.inl i,rfl,h])
def ze:iZ (.v (.str i)) k=k (.inr i):=by apply propext;symm;(· rintro⟨y,h,z⟩;cases y<;>cases h;show z);(· intro h;show#[.inr i,rfl,h])
theorem _a {r:cc}:fC 0 (some x::r) M q=q x M:=rfl
theorem Z_ {r:cc}:fC 1 (x0::some x::r) M q=q x M:=rfl
theorem Z9 {r:cc}:fC 2 (x0::x1::some x::r) M q=q x M:=rfl
theorem Z8 {r:cc}:fC 3 (x0::x1::x2::some x::r) M q=q x M:=rfl
theorem Z7 {r:cc}:fC 4 (x0::x1::x2::x3::some x::r) M q=q x M:=rfl
theorem Z6 {r:cc}:fC 5 (x0::x1::x2::x3::x4::some x::r) M q=q x M:=rfl
theorem Z5 {r:cc}:fC 6 (x0::x1::x2::x3::x4::x5::some x::r) M q=q x M:=rfl
theorem Z4 {r:cc}:fC 7 (x0::x1::x2::x3::x4::x5::x6::some x::r) M q=q x M:=rfl
theorem Z3 {r:cc}:fC 8 (x0::x1::x2::x3::x4::x5::x6::x7::some x::r) M q=q x M:=rfl
theorem Z2 {r:cc}:fC 9 (x0::x1::x2::x3::x4::x5::x6::x7::x8::some x::r) M q=q x M:=rfl
theorem Yr {r:cc}:fC 10 (x0::x1::x2::x3::x4::x5::x6::x7::x8::x9::some x::r) M q=q x M:=rfl
theorem Yq {r:cc}:fC 11 (x0::x1::x2::x3::x4::x5::x6::x7::x8::x9::sR::some x::r) M q=q x M:=rfl
theorem Yp {r:cc}:fC 12 (x0::x1::x2::x3::x4::x5::x6::x7::x8::x9::sR::uw::some x::r) M q=q x M:=rfl
theorem Yo {r:cc}:fC 13 (x0::x1::x2::x3::x4::x5::x6::x7::x8::x9::sR::uw::wu::some x::r) M q=q x M:=rfl
theorem Yn {r:cc}:fC 14 (x0::x1::x2::x3::x4::x5::x6::x7::x8::x9::sR::uw::wu::yo::some x::r) M q=q x M:=rfl
theorem Ym {r:cc}:fC 15 (x0::x1::x2::x3::x4::x5::x6::x7::x8::x9::sR::uw::wu::yo::zX::some x::r) M q=q x M:=rfl
theorem Yl {r:cc}:fC 16 (x0::x1::x2::x3::x4::x5::x6::x7::x8::x9::sR::uw::wu::yo::zX::B_::some x::r) M q=q x M:=rfl
theorem Yk {r:cc}:fC 17 (x0::x1::x2::x3::x4::x5::x6::x7::x8::x9::sR::uw::wu::yo::zX::B_::FF::some x::r) M q=q x M:=rfl
theorem Yj {r:cc}:fC 18 (x0::x1::x2::x3::x4::x5::x6::x7::x8::x9::sR::uw::wu::yo::zX::B_::FF::Hy::some x::r) M q=q x M:=rfl
theorem Yi {r:cc}:fC 19 (x0::x1::x2::x3::x4::x5::x6::x7::x8::x9::sR::uw::wu::yo::zX::B_::FF::Hy::Mb::some x::r) M q=q x M:=rfl
theorem Yh {r:cc}:fC 20 (x0::x1::x2::x3::x4::x5::x6::x7::x8::x9::sR::uw::wu::yo::zX::B_::FF::Hy::Mb::QC::some x::r) M q=q x M:=rfl
theorem Yg {r:cc}:fC 21 (x0::x1::x2::x3::x4::x5::x6::x7::x8::x9::sR::uw::wu::yo::zX::B_::FF::Hy::Mb::QC::UM::some x::r) M q=q x M:=rfl
theorem Yf {r:cc}:fC 22 (x0::x1::x2::x3::x4::x5::x6::x7::x8::x9::sR::uw::wu::yo::zX::B_::FF::Hy::Mb::QC::UM::ZZ::some x::r) M q=q x M:=rfl
theorem Ye {r:cc}:fC 23 (x0::x1::x2::x3::x4::x5::x6::x7::x8::x9::sR::uw::wu::yo::zX::B_::FF::Hy::Mb::QC::UM::ZZ::x22::some x::r) M q=q x M:=rfl
theorem aiU:wC x ρ M q=q x M:=rfl
theorem ahT:LG r a b ρ M q=a ρ M λx M1=>b ρ M1 λy M2=>r x y M2 q:=rfl
theorem ahN:_b r a ρ M q=a ρ M λx M1=>r x M1 q:=rfl
def aiT:wI C g (.v (.int i)) (.v (.int j)) M q=ce (C i j) (q (.v (g i j)) M):=by apply propext;symm;(· rintro⟨_,_,h1,h2,k⟩;cases h1;cases h2;show k);(· intro h;show#[_,_,rfl,rfl,h])
def ahY:_C g (.v (.int i)) (.v (.int j)) M q=q (.v (g i j)) M:=by apply propext;symm;(· rintro⟨_,_,h1,h2,k⟩;cases h1;cases h2;show k);(· intro h;show#[_,_,rfl,rfl,h])
def aiS:wU g (.v (.int i)) M q=q (.v (g i)) M:=by apply propext;symm;(· rintro⟨_,h,k⟩;cases h;show k);(· intro h;show#[_,rfl,h])
def ah1:T8 (.v (.int i)) (.v (.int j)) M q=q (wb (decide (i=j))) M:=by apply propext;symm;(· rintro⟨_,_,h1,h2,_,k⟩;cases h1;cases h2;simpa using k);(· intro h;show#[_,_,rfl,rfl,rfl, ⇑h])
def ahV:_o (.v (.int i)) (.v (.int j)) M q=q (wb (!decide (i=j))) M:=by apply propext;symm;(· rintro⟨_,_,h1,h2,_,k⟩;cases h1;cases h2;simpa using k);(· intro h;show#[_,_,rfl,rfl,rfl, ⇑h])
def ah0:T8 (.v (.str i)) (.v (.str j)) M q=q (wb (decide (i=j))) M:=by apply propext;symm;(· rintro⟨_,_,h1,h2,_,k⟩;cases h1;cases h2;simpa using k);(· intro h;show#[_,_,rfl,rfl,rfl, ⇑h])
def ahU:_o (.v (.str i)) (.v (.str j)) M q=q (wb (!decide (i=j))) M:=by apply propext;symm;(· rintro⟨_,_,h1,h2,_,k⟩;cases h1;cases h2;simpa using k);(· intro h;show#[_,_,rfl,rfl,rfl, ⇑h])
theorem Yu:w5 a ρ M q=a ρ M λx M1=>P_ x M1 q:=rfl
theorem _N:QV a b ρ M q=a ρ M λc M1=>gy c (b ρ M1 q) (q false M1):=rfl
theorem ahR:_k a b ρ M q=a ρ M λc M1=>gy c (q true M1) (b ρ M1 q):=rfl
theorem _m:QE a ρ M q=a ρ M λc M1=>q (!c) M1:=rfl
theorem YQ:OZ a b ρ M q=a ρ M λx M1=>P_ x M1 λc M1=>gy c (b ρ M1 q) (q (wb false) M1):=rfl
theorem _j:UX a b ρ M q=a ρ M λx M1=>P_ x M1 λc M1=>gy c (q (wb true) M1) (b ρ M1 q):=rfl
theorem Yz:OV a ρ M q=a ρ M λx M1=>P_ x M1 λc M1=>q (wb (!c)) M1:=rfl
theorem U':HQ r r' a b c ρ M q=a ρ M λx M1=>b ρ M1 λy M2=>r x y M2 λz M3=>P_ z M3 λk M3=>gy k (c ρ M3 λy' M4=>r' y y' M4 q) (q (wb false) M3):=rfl
theorem _n:UZ ρ M q=q [] M:=rfl
theorem YI:HL a r ρ M q=a ρ M λx M1=>r ρ M1 λxs M2=>q (x::xs) M2:=rfl
theorem _d:QD a ρ M q=a ρ M λxs M1=>ce (xs.length<=sizeLine) (q (.tup xs) M1):=rfl
theorem _q:QG a ρ M q=a ρ M λxs M1=>ce (xs.length<=sizeLine) (CJ M1 λp=>q (wr p) (um M1 p (.lst xs))):=rfl
def QL:QM (.v (.ref x)) (.v (.int i)) M q=lstK (M x) λl=>iN (gP l i) λu=>q u M:=by apply propext;symm;(· rintro⟨_,l,_,u,h1,h2,h3,h4,k⟩;cases h1;cases h2;show#[l,h3,u,h4,k]);(· rintro⟨l,h3,u,h4,k⟩;show#[_,l,_,u,rfl,rfl,h3,h4,k])
def QK:FI (.tup l) (.v (.int i)) M q=iN (gP l i) λu=>q u M:=by apply propext;symm;(· rintro⟨_,_,u,h1,h2,h4,k⟩;cases h1;cases h2;show#[u,h4,k]);(· rintro⟨u,h4,k⟩;show#[_,_,u,rfl,rfl,h4,k])
theorem TY:DH ρ M q=q none M:=rfl
def A1 (x:W)(k:Int ->Prop):Prop:= ∃i,x=wi i /\ k i
def J9:A1 (.v (.int i)) k=k i:=by apply propext;symm;(· rintro⟨_,h,k⟩;cases h;show k);(· intro h;show#[_,rfl,h])
theorem Yy:HF a ρ M q=a ρ M λx M1=>A1 x λi=>q (some i) M1:=rfl
theorem ahP:_h r a lo hi ρ M q=a ρ M λx M1=>lo ρ M1 λl M2=>hi ρ M2 λu M3=>r x l u M3 q:=rfl
def _g:UT (.v (.ref x)) lo hi M q=lstK (M x) λl=>CJ M λp=>q (wr p) (um M p (.lst (Dd l lo hi))):=by apply propext;symm;(· rintro⟨_,l,h1,h3,k⟩;cases h1;show#[l,h3,k]);(· rintro⟨l,h3,k⟩;show#[_,l,rfl,h3,k])
theorem ah3:_I r a ρ M q=a ρ M λxs M1=>r xs M1 q:=rfl
theorem YN:HR p a ρ M q=a ρ M λxs M1=>mG p xs M1 q:=rfl
def QJ:Mg [.v (.ref x)] M q=lstK (M x) λl=>q (wi l.length) M:=by apply propext;symm;(· rintro(⟨_,l,h1,h2,k⟩ | ⟨_,h1,_⟩);(· cases h1;show#[l,h2,k]);cases h1);(· rintro⟨l,h3,k⟩;show .inl #[_,l,rfl,h3,k])
def _s:Mg [.tup l] M q=q (wi l.length) M:=by apply propext;symm;(· rintro(⟨_,l,h1,h2,k⟩ | ⟨_,h1,k⟩);(· cases h1);cases h1;show k);(· intro k;show .inr #[l,rfl,k])
def _P:Vc [.v (.int i)] M q=q (wi (if i<0 then -i else i)) M:=by apply propext;symm;(· rintro⟨_,h,k⟩;cases h;show k);(· intro h;show#[_,rfl,h])
def FH:oq [.v (.ref x)] M q=lstK (M x) λl=>CJ M λp=>q (wr p) (um M p (.lst l)):=by apply propext;symm;(· rintro⟨l,⟨_,h1,h2⟩ | h1,k⟩;(· cases h1;show#[l,h2,k]);cases h1);(· rintro⟨l,h3,k⟩;show#[l, .inl #[_,rfl,h3],k])
def FG:oq [.tup l] M q=CJ M λp=>q (wr p) (um M p (.lst l)):=by apply propext;symm;(· rintro⟨l,⟨_,h1,h2⟩ | h1,k⟩;(· cases h1);cases h1;show k);(· intro k;show#[l, .inr rfl,k])
def Cb:ux [.v (.ref x)] M q=lstK (M x) λl=>q (.tup l) M:=by apply propext;symm;(· rintro⟨l,⟨_,h1,h2⟩ | h1,k⟩;(· cases h1;show#[l,h2,k]);cases h1);(· rintro⟨l,h3,k⟩;show#[l, .inl #[_,rfl,h3],k])
def _A:U2 K [x, .v (.ty T)] M q=iN (YU M x) λt=>iN (W.kitOne K t (.type T)) λb=>q (wb b) M:=by apply propext;symm;(· rintro⟨_,_,t,b,h1,h2,h3,k⟩;cases h1;show#[t,h2,b,h3,k]);(· rintro⟨t,h2,b,h3,k⟩;show#[_,_,t,b,rfl,h2,h3,k])
theorem PX:W.kitOne K (.type "int") (.type "int")=some true:=rfl
theorem ND:W.kitOne K (.type "int") (.type "bool")=some false:=rfl
theorem PV:W.kitOne K (.type "int") (.type "str")=some false:=rfl
theorem LS:W.kitOne K (.type "int") (.type "tuple")=some false:=rfl
theorem NC:W.kitOne K (.type "int") (.type "list")=some false:=rfl
theorem NF:W.kitOne K (.type "bool") (.type "int")=some true:=rfl
theorem LV:W.kitOne K (.type "bool") (.type "bool")=some true:=rfl
theorem NE:W.kitOne K (.type "bool") (.type "str")=some false:=rfl
theorem JW:W.kitOne K (.type "bool") (.type "tuple")=some false:=rfl
theorem LU:W.kitOne K (.type "bool") (.type "list")=some false:=rfl
theorem PU:W.kitOne K (.type "str") (.type "int")=some false:=rfl
theorem Ny:W.kitOne K (.type "str") (.type "bool")=some false:=rfl
theorem PR:W.kitOne K (.type "str") (.type "str")=some true:=rfl
theorem LP:W.kitOne K (.type "str") (.type "tuple")=some false:=rfl
theorem Nx:W.kitOne K (.type "str") (.type "list")=some false:=rfl
theorem Gz:W.kitOne K (.type "NoneType") (.type "int")=some false:=rfl
theorem EU:W.kitOne K (.type "NoneType") (.type "bool")=some false:=rfl
theorem Gy:W.kitOne K (.type "NoneType") (.type "str")=some false:=rfl
theorem CT:W.kitOne K (.type "NoneType") (.type "tuple")=some false:=rfl
theorem ET:W.kitOne K (.type "NoneType") (.type "list")=some false:=rfl
theorem LO:W.kitOne K (.type "tuple") (.type "int")=some false:=rfl
theorem JU:W.kitOne K (.type "tuple") (.type "bool")=some false:=rfl
theorem LN:W.kitOne K (.type "tuple") (.type "str")=some false:=rfl
theorem Hq:W.kitOne K (.type "tuple") (.type "tuple")=some true:=rfl
theorem JT:W.kitOne K (.type "tuple") (.type "list")=some false:=rfl
theorem NA:W.kitOne K (.type "list") (.type "int")=some false:=rfl
theorem LR:W.kitOne K (.type "list") (.type "bool")=some false:=rfl
theorem Nz:W.kitOne K (.type "list") (.type "str")=some false:=rfl
theorem JV:W.kitOne K (.type "list") (.type "tuple")=some false:=rfl
theorem LQ:W.kitOne K (.type "list") (.type "list")=some true:=rfl
def Vb:YO r a b ρ M q=a ρ M λx M1=>d5 x λp=>lstK (M1 p) λ_=>b ρ M1 λxs M2=>r x xs M2 q:=by unfold YO IsL d5 lstK;congr 1;funext x M1;apply propext;symm;(· rintro⟨⟨p,l,h1,h2⟩,k⟩;show#[p,h1,l,h2,k]);(· rintro⟨p,h1,l,h2,k⟩;show#[#[p,l,h1,h2],k])
def QU:Mm r a ρ M q=a ρ M λx M1=>d5 x λp=>lstK (M1 p) λ_=>r x [] M1 q:=by unfold Mm IsL d5 lstK;congr 1;funext x M1;apply propext;symm;(· rintro⟨⟨p,l,h1,h2⟩,k⟩;show#[p,h1,l,h2,k]);(· rintro⟨p,h1,l,h2,k⟩;show#[#[p,l,h1,h2],k])
def FL:yt (.v (.ref x)) [y] M q=lstK (M x) λl=>ce (l.length<sizeLine) (q wn (um M x (.lst (l++ [y])))):=by apply propext;symm;(· rintro⟨_,l,_,h1,h2,h3,h4,k⟩;cases h1;cases h2;show#[l,h3,h4,k]);(· rintro⟨l,h3,h4,k⟩;show#[_,l,_,rfl,rfl,h3,h4,k])
def FJ:yr (.v (.ref x)) [.v (.ref y)] M q=lstK (M x) λl=>lstK (M y) λl'=>ce (l.length+l'.length<=sizeLine) (q wn (um M x (.lst (l++l')))):=by apply propext;symm;(· rintro⟨_,_,l,l',h1,h2,h3,h4,h5,k⟩;cases h1;cases h2;show#[l,h3,l',h4,h5,k]);(· rintro⟨l,h3,l',h4,h5,k⟩;show#[_,_,l,l',rfl,rfl,h3,h4,h5,k])
def QR:QS (.v (.ref x)) (.v (.ref y)) M q=lstK (M x) λl=>lstK (M y) λl'=>ce (l.length+l'.length<=sizeLine) (CJ M λp=>q (wr p) (um M p (.lst (l++l')))):=by apply propext;symm;(· rintro⟨_,_,l,l',h1,h2,h3,h4,h5,k⟩;cases h1;cases h2;show#[l,h3,l',h4,h5,k]);(· rintro⟨l,h3,l',h4,h5,k⟩;show#[_,_,l,l',rfl,rfl,h3,h4,h5,k])
theorem UQ:HC a ρ M q=a ρ M λx M1=>Vi M1 x λk=>q k M1:=rfl
theorem YF:HJ ρ M q=CJ M λp=>q (wr p) (um M p (.dK [])):=rfl
def Ml:DJ a b ρ M q=a ρ M λx M1=>b ρ M1 λy M2=>d5 x λp=>iZ y λk=>fI (M2 p) λkvs=>iN (eU kvs k) λz=>q z M2:=by unfold DJ d5 iZ fI iN;congr 1;funext x M1;congr 1;funext y M2;apply propext;symm;(· rintro⟨p,kvs,k,z,h1,h2,h3,h4,h⟩;show#[p,h1,k,h3,kvs,h2,z,h4,h]);(· rintro⟨p,h1,k,h3,kvs,h2,z,h4,h⟩;show#[p,kvs,k,z,h1,h2,h3,h4,h])
def QQ:Mj a b ρ M q=a ρ M λy M1=>b ρ M1 λx M2=>d5 x λp=>iZ y λk=>fI (M2 p) λkvs=>q (wb (eU kvs k).isSome) M2:=by unfold Mj d5 iZ fI;congr 1;funext x M1;congr 1;funext y M2;apply propext;symm;(· rintro⟨p,kvs,k,h1,h2,h3,h⟩;show#[p,h1,k,h3,kvs,h2,h]);(· rintro⟨p,h1,k,h3,kvs,h2,h⟩;show#[p,kvs,k,h1,h2,h3,h])
def FK:tZ a b ρ M q=a ρ M λy M1=>b ρ M1 λx M2=>d5 x λp=>iZ y λk=>fI (M2 p) λkvs=>q (wb (!(eU kvs k).isSome)) M2:=by unfold tZ d5 iZ fI;congr 1;funext x M1;congr 1;funext y M2;apply propext;symm;(· rintro⟨p,kvs,k,h1,h2,h3,h⟩;show#[p,h1,k,h3,kvs,h2,h]);(· rintro⟨p,h1,k,h3,kvs,h2,h⟩;show#[p,kvs,k,h1,h2,h3,h])
def U7:Ce a b c ρ M q=a ρ M λx M1=>d5 x λp=>fI (M1 p) λ_=>b ρ M1 λy M2=>c ρ M2 λz M3=>iZ y λk=>fI (M3 p) λkvs=>q ((eU kvs k).getD z) M3:=by
 unfold Ce d5 iZ fI;congr 1;funext x M1;apply propext;symm;rintro⟨p,h1,⟨kvs,h2⟩,h⟩;exact#[p,h1,kvs,h2,?_];have e:(λy M2=>c ρ M2 λz M3=>cg λkvs k=>cW (M3 p=some (.dK kvs)) (y=iY k) (q ((eU kvs k).getD z) M3))=(λy M2=>c ρ M2 λz M3=> ∃k,y=iY k /\ ∃kvs,M3 p=some (.dK kvs) /\ q ((eU kvs k).getD z) M3):=by funext y M2;congr 1;funext z M3;apply propext;symm;rintro⟨a,b,c,d,e⟩;show#[b,d,a,c,e];rintro⟨b,d,a,c,e⟩;show#[a,b,c,d,e]
 rw[<- e];show h;rintro⟨p,h1,kvs,h2,h⟩;exact#[p,h1,#[kvs,h2],?_];have e:(λy M2=>c ρ M2 λz M3=>cg λkvs k=>cW (M3 p=some (.dK kvs)) (y=iY k) (q ((eU kvs k).getD z) M3))=(λy M2=>c ρ M2 λz M3=> ∃k,y=iY k /\ ∃kvs,M3 p=some (.dK kvs) /\ q ((eU kvs k).getD z) M3):=by funext y M2;congr 1;funext z M3;apply propext;symm;rintro⟨a,b,c,d,e⟩;show#[b,d,a,c,e];rintro⟨b,d,a,c,e⟩;show#[a,b,c,d,e]
 rw[e];show h
theorem IB:FY a b D ρ M=a {nx:=b D,rt:=D.rt,bk:=D.bk,ct:=D.ct} ρ M:=rfl
theorem Y1:Ed D ρ M=D.nx ρ M:=rfl
theorem Y4:ID a D ρ M=a ρ M λ_ M1=>D.nx ρ M1:=rfl
theorem aaf:VJ a D ρ M=a ρ M D.rt:=rfl
theorem ah6:Ro c a b D ρ M=c ρ M λk M1=>gy k (a D ρ M1) (b D ρ M1):=rfl
theorem aak:Rq a g D ρ M=a ρ M λx M1=>g x ρ M1 D.nx:=rfl
theorem aai:VO i a r D ρ M=fC i ρ M λx M=>a ρ M λy M1=>r x y M1 λz M2=>D.nx (ρ.set i (some z)) M2:=rfl
def IF:yF a b c D ρ M=c ρ M λz M1=>a ρ M1 λx M2=>b ρ M2 λy M3=>d5 x λp=>iZ y λk=>fI (M3 p) λkvs=>ce (kvs.length<sizeLine) (D.nx ρ (um M3 p (.dK (uN kvs k z)))):=by unfold yF d5 iZ fI ce;congr 1;funext z M1;congr 1;funext x M2;congr 1;funext y M3;apply propext;symm;(· rintro⟨p,kvs,k,h1,h2,h3,h4,h⟩;show#[p,h1,k,h3,kvs,h2,h4,h]);(· rintro⟨p,h1,k,h3,kvs,h2,h4,h⟩;show#[p,kvs,k,h1,h2,h3,h4,h])
theorem aah:Rp it g b D ρ M=it ρ M λxs keep M1=>N4 xs keep g b D ρ M1:=rfl
theorem YS:O2 i x ρ M q=q (ρ.set i (some x)) M:=rfl
def _T:QX [] ρ M q=q ρ M:=by simp[QX]
def YT:O3 a b (x::r) ρ M q=a x ρ M λρ' M'=>b r ρ' M' q:=by apply propext;symm;(· rintro⟨_,_,h,k⟩;cases h;show k);(· intro h;show#[_,_,rfl,h])
def _R:Vd n a (.tup l) ρ M q=ce (l.length=n) (a l ρ M q):=by apply propext;symm;(· rintro⟨_,h,k,l⟩;cases h;show#[k,l]);(· rintro⟨h,l⟩;show#[_,rfl,h,l])
theorem _S:Ve a b s x ρ M q=a ρ M λo M1=>b ρ M1 λi M2=>s o i x M2 λM3=>q ρ M3:=rfl
def Yw:OU (.v (.ref x)) (.v (.int i)) z M q=lstK (M x) λl=>iN (AX l.length i) λj=>q (um M x (.lst (l.set j z))):=by apply propext;symm;(· rintro⟨_,l,_,j,h1,h2,h3,h4,k⟩;cases h1;cases h2;show#[l,h3,j,h4,k]);(· rintro⟨l,h3,j,h4,k⟩;show#[_,l,_,j,rfl,rfl,h3,h4,k])
def NH:EW a ρ M q=a ρ M λx M1=>d5 x λp=>lstK (M1 p) λl=>q l (λM'=>M' p=some (.lst l)) M1:=by unfold EW d5 lstK;congr 1;funext x M1;apply propext;symm;(· rintro⟨p,l,h1,h2,h⟩;show#[p,h1,l,h2,h]);(· rintro⟨p,h1,l,h2,h⟩;show#[p,l,h1,h2,h])
theorem aaY:SG a ρ M q=a ρ M λx M1=>tupK x λl=>q l (λ_=>True) M1:=rfl
def Nc (xs:cA W)(k:W ->Prop):Prop:= ∃x,xs= [x] /\ k x
def R0:Nc [x] k=k x:=by apply propext;symm;(· rintro⟨_,h,k⟩;cases h;show k);(· intro h;show#[_,rfl,h])
def NG:EV a ρ M q=a ρ M λxs M1=>Nc xs λx=>A1 x λj=>ce (-(2 ^ 62) <=j /\ j<2 ^ 62) (q (gU 0 j.toNat) (λ_=>True) M1):=by unfold EV Nc A1 ce;congr 1;funext x M1;apply propext;symm;(· rintro⟨j,h1,h2,h3,h⟩;show#[_,h1,j,rfl,#[h2,h3],h]);(· rintro⟨_,h1,j,rfl,⟨h2,h3⟩,h⟩;show#[j,h1,h2,h3,h])
theorem YK:HN it own fr g c el ρ M q=it ρ M λxs keep M1=>sI xs keep own fr g c el ρ M1 q:=rfl
theorem Z1:UP ρ M q=q true M:=rfl
def sl1:(1<=sizeLine)=True:=by rw[cR];decide
def Pc:(2<=sizeLine)=True:=by rw[cR];decide
def sl3:(3<=sizeLine)=True:=by rw[cR];decide
def sl4:(4<=sizeLine)=True:=by rw[cR];decide
def sl5:(5<=sizeLine)=True:=by rw[cR];decide
def sl0:(0<=sizeLine)=True:=by simp
def di [Decidable c](h1:c ->A)(h2:¬c ->B):gy (decide c) A B:=by unfold gy;by_cases h:c;rw[ao (a6 h)];show h1 h;rw[ak ⇑h];show h2 h
def SI [Decidable c](h1:¬c ->A)(h2:c ->B):gy (!decide c) A B:=by unfold gy;by_cases h:c;rw[ak ⇑h];show h2 h;rw[ao ⇑h];show h1 h
theorem iS {M1:Mp}(f:W ->e9 W)(hz:xs.length<=sizeLine)(lU: ∀M,Sm M1 M ->keep M)(hs: ∀ (i:Nat) x,xs[i]? =some x -> ∀ (M:Mp) (N:e9 W ->Mp ->Prop),Sm M1 M ->N (f x) M ->g x (og own fr ρ) M λρ2 M2=>c ρ2 M2 λb M3=>gy b (el ρ2 M3 λy M4=>N (some y) M4) (N none M3))(hq: ∀p,M1 p=none ->q (wr p) (um M1 p (.lst (xs.filterMap f)))):sI xs keep own fr g c el ρ M1 q:=GY f hz lU hs hq
end WL
namespace WL
def hold (f:cc ->Mp ->Prop)(ρ:cc)(M:Mp):Prop:=f ρ M
theorem iP (h:f ρ M):hold f ρ M:=h
theorem eM:FY a b D ρ M=a {nx:=hold (b D),rt:=D.rt,bk:=D.bk,ct:=D.ct} ρ M:=rfl
theorem qQ (Mid:cc ->Mp ->Prop)(cQ: ∀ρ M,Mid ρ M ->R D ρ M)(h: ∀N:cc ->Mp ->Prop,(∀ρ M,Mid ρ M ->N ρ M) ->Ro c a b {nx:=N,rt:=D.rt,bk:=D.bk,ct:=D.ct} ρ M):FY (Ro c a b) R D ρ M:=h _ cQ
theorem jO (I:Nat ->cc ->Mp ->Prop)(h0:I 0 ρ M1)(hk: ∀i ρ M,i<=xs.length ->I i ρ M ->keep M)(hs: ∀i x ρ M,xs[i]? =some x ->I i ρ M -> ∀N:cc ->Mp ->Prop,(∀ρ' M',I (i+1) ρ' M' ->N ρ' M') ->g x ρ M λρ2 M2=>b {nx:=N,rt:=D.rt,bk:=D.nx,ct:=N} ρ2 M2)(hd: ∀ρ M,I xs.length ρ M ->D.nx ρ M):N4 xs keep g b D ρ M1:=#[I,h0,hk,λi x ρ M hx hI=>hs i x ρ M hx hI _ λ_ _ h=>h,hd]
end WL
namespace WL
open L2
def Rl:WS:=λ_ _ _=>False
instance {K:WV}:IS K Ib Rl where
 imp:=λ_ _ _ _ _ _ _ h _=>h.elim
end WL
namespace WP
open PySem L2 WL
abbrev Pt:=cA (Int×Int)
def look:Pt ->Int ->Int
 | [],_=>0
 | q::r,x=>if q.1=x then q.2 else look r x
def dQ (p:Int)(l:Pt):Prop:=(∀q∈l,0<q.2 /\ q.2<p) /\ l.Pairwise (λa b=>a.1<b.1)
def fE:Pt ->Int ->Int
 | [],_=>0
 | q::r,x=>(if q.1=x then q.2 else 0)+fE r x
def gq (a b:Pt)(x:Int):fE (a++b) x=fE a x+fE b x:=by
 induction a with
 | nil=>simp[fE]
 | cons q r ih=>rw[List.cons_append,fE,fE,ih];lia
def uD (a:Pt)(q:Int×Int)(x:Int):fE (a++ [q]) x=fE a x+if q.1=x then q.2 else 0:=by rw[gq];simp[fE]
def gI (h: ∀q∈l,q.1≠x):look l x=0:=by
 induction l with
 | nil=>rfl
 | cons q r ih=>rw[look,ak (h q (by simp)),ih λz hz=>h z (by simp[hz])]
def ox (h:l.Pairwise (λa b=>a.1<b.1))(x:Int):fE l x=look l x:=by
 induction l with
 | nil=>rfl
 | cons q r ih=>rw[bZ] at h;rw[fE,look,ih h.2];by_cases e:q.1=x;rw[ao e,ao e,gI];lia;intro z hz;have:=h.1 z hz;lia;rw[ak e,ak e];lia
def CP (hp:0<p)(h:dQ p l)(x:Int):0<=look l x /\ look l x<p:=by
 induction l with
 | nil=>rw[look];lia
 | cons q r ih=>rw[look];split;have:=h.1 q (by simp);lia;show ih #[λz hz=>h.1 z (by simp[hz]),(bZ.mp h.2).2]
theorem dQ.tail {r:Pt}(h:dQ p (q::r)):dQ p r:=#[λz hz=>h.1 z (by simp[hz]),(bZ.mp h.2).2]
theorem dQ.nil:dQ p []:=#[λ_ h=>absurd h (by simp),List.Pairwise.nil]
theorem uf {p p':Int}: ∀ {a b:Pt},dQ p a ->dQ p' b ->(∀x,look a x=look b x) ->a=b
 | [],[],_,_,_=>rfl
 | [],q::r,_,hb,h=>by have:=h q.1;rw[look,look,ao rfl] at this;have:=hb.1 q (by simp);lia
 | q::r,[],ha,_,h=>by have:=h q.1;rw[look,look,ao rfl] at this;have:=ha.1 q (by simp);lia
 | q ::r,q'::r',ha,hb,h=>by
  have pa:=ha.1 q (by simp);have pb:=hb.1 q' (by simp);have sa:=(bZ.mp ha.2).1;have sb:=(bZ.mp hb.2).1;have e1:q.1=q'.1:=by obtain l | l | l:=Int.lt_trichotomy q.1 q'.1;have e:=h q.1;rw[look,ao rfl,look,ak ∅,gI (λz hz=>by have:=sb z hz;lia)] at e;lia;show l;have e:=h q'.1;rw[look,ak ∅,gI (λz hz=>by have:=sa z hz;lia),look,ao rfl] at e;lia
  have e2:q.2=q'.2:=by have e:=h q.1;rw[look,ao rfl,look,ao e1.symm] at e;show e
  have e:r=r':=uf ha.tail hb.tail λx=>by by_cases hx:q.1=x;rw[gI (λz hz=>by have:=sa z hz;lia),gI (λz hz=>by have:=sb z hz;lia)];have e:=h x;rwa [look,ak hx,look,ak ∅] at e
  rw[e,Prod.ext e1 e2]
def iT (p:Int):Pt ->Int ->Int ->Pt
 | [],x,s=>if s % p=0 then [] else [(x,s % p)]
 | q::r,x,s=>if x<q.1 then(if s % p=0 then q::r else(x,s % p)::q::r) else if x=q.1 then(if(q.2+s) % p=0 then r else(x,(q.2+s) % p)::r) else q::iT p r x s
def qH (p:Int)(ps:Pt):Pt:=ps.foldl (λa q=>iT p a q.1 q.2) []
def G7 (h:z∈iT p l x s):z.1=x \/ z∈l:=by
 induction l with
 | nil=>rw[iT] at h;split at h;cases h;left;rw[be.mp h]
 | cons q r ih=>rw[iT] at h;split at h;split at h;show .inr h;obtain h | h:=aT.mp h;left;rw[h];show .inr h;split at h;split at h;show .inr (by simp[h]);obtain h | h:=aT.mp h;left;rw[h];show .inr (by simp[h]);obtain h | h:=aT.mp h;show .inr (by simp[h]);obtain h | h:=ih h;show .inl h;show .inr (by simp[h])
def CL {p s:Int}(hp:0<p)(h:¬s % p=0):0<s % p /\ s % p<p:=by have:=Int.emod_nonneg s (show p≠0 by lia);have:=Int.emod_lt_of_pos s hp;lia
def G6 (hp:0<p)(h:dQ p l):dQ p (iT p l x s):=by
 induction l with
 | nil=>rw[iT];split;show dQ.nil;rename_i hs;show#[λq hq=>by rw[be.mp hq];show CL hp hs,by simp]
 | cons q r ih=>have sa:=(bZ.mp h.2).1;rw[iT];split;rename_i hx;split;show h;rename_i hs;exact#[λz hz=> ?_,bZ.mpr #[λz hz=> ?_,h.2]];obtain rfl | hz:=aT.mp hz;show CL hp hs;show h.1 z hz;obtain rfl | hz:=aT.mp hz;show hx;have:=sa z hz;change x<z.1;lia;split;rename_i hx;split;show h.tail;rename_i hs;exact#[λz hz=> ?_,bZ.mpr #[λz hz=> ?_,h.tail.2]];obtain rfl | hz:=aT.mp hz;show CL hp hs;show h.1 z (by simp[hz]);have:=sa z hz;change x<z.1;lia;rename_i h1 h2;have ih':=ih h.tail;exact#[λz hz=> ?_,bZ.mpr #[λz hz=> ?_,ih'.2]];obtain rfl | hz:=aT.mp hz;show h.1 z (by simp);show ih'.1 z hz;obtain e | hz:=G7 hz;lia;show sa z hz
def CQ (hp:0<p)(h:dQ p l)(y:Int):look (iT p l x s) y=if y=x then(look l x+s) % p else look l y:=by
 induction l with
 | nil=>rw[iT];by_cases hs:s % p=0;rw[ao hs];simp[look,hs];rw[ak hs];by_cases e:y=x;subst e;simp[look];rw[ak e];simp[look,du e]
 | cons q r ih=>
  have sa:=(bZ.mp h.2).1;have qr:=h.1 q (by simp);rw[iT];split;rename_i hx;have hn:look (q::r) x=0:=gI (λz hz=>by obtain rfl | hz:=aT.mp hz;lia;have:=sa z hz;lia);rw[hn,Int.zero_add];split;rename_i hs;by_cases e:y=x;rw[ao e,e,hn,hs];rw[ak e];by_cases e:y=x;rw[ao e,look,ao e.symm];rw[ak e,look,ak (du e)];split;rename_i hx;have hq:look (q::r) x=q.2:=by rw[look,ao hx.symm]
  rw[hq];split;rename_i hs;by_cases e:y=x;rw[ao e,hs,gI (λz hz=>by have:=sa z hz;lia)];rw[ak e,look,ak ∅];by_cases e:y=x;rw[ao e,look,ao e.symm];rw[ak e,look,ak (du e),look,ak ∅];rename_i h1 h2;rw[look,ih h.tail];by_cases e:y=x;rw[ao e,ao e,ak ∅];conv=>rhs;rw[look,ak ∅]
  rw[ak e,ak e,look]
def u8 (p:Int)(ps:Pt)(q:Int×Int):qH p (ps++ [q])=iT p (qH p ps) q.1 q.2:=by unfold qH;rw[List.foldl_append];rfl
def iw {α:Type}{P:cA α ->Prop}(h0:P [])(h1: ∀l a,P l ->P (l++ [a]))(l:cA α):P l:=by
 have key: ∀n:Nat, ∀l:cA α,l.length=n ->P l:=by
  intro n;induction n with
  | zero=>intro l hl;rw[List.length_eq_zero_iff.mp hl];show h0
  | succ n ih=>
   intro l hl;have lT:l≠ []:=by intro e;rw[e] at hl;cases hl
   rw[<- List.dropLast_concat_getLast lT];show h1 _ _ (ih _ (by rw[List.length_dropLast];lia))
 show key _ l rfl
def f_ (hp:0<p)(ps:Pt):dQ p (qH p ps):=by
 induction ps using iw with
 | h0=>show dQ.nil
 | h1 l a ih=>rw[u8];show G6 hp ih
def vb (hp:0<p)(ps:Pt)(x:Int):look (qH p ps) x=fE ps x % p:=by
 induction ps using iw with
 | h0=>simp[qH,look,fE]
 | h1 l a ih=>rw[u8,CQ hp (f_ hp l),uD];by_cases e:x=a.1;subst e;rw[ao rfl,ao rfl,ih,Int.emod_add_emod];rw[ak e,ak (du e),ih,Int.add_zero]
def G8:(iT p l x s).length<=l.length+1:=by
 induction l with
 | nil=>rw[iT];split<;>simp
 | cons q r ih=>rw[iT];split;split<;>simp;split;split<;>simp<;>lia;simp;show ih
def jd (p:Int)(ps:Pt):(qH p ps).length<=ps.length:=by
 induction ps using iw with
 | h0=>simp[qH]
 | h1 l a ih=>rw[u8,aD];show ar G8 (by simp;show ih)
def wo (m:Pt):cA (b8×W):=m.map λq=>((Sum.inl q.1:b8),wi q.2)
def wx (m:Pt)(x v:Int):Pt:=if(m.any λq=>decide (q.1=x))=true then m.map (λq=>if q.1=x then(q.1,v) else q) else m++ [(x,v)]
def uu {m:Pt}:(m.any λq=>decide (q.1=x))=true↔x∈m.map (·.1):=by rw[List.any_eq_true,bX];symm;rintro⟨q,hq,e⟩;show#[q,hq, ⇑e];rintro⟨q,hq,e⟩;show#[q,hq, ⇑e]
def E1 (a b:Int):decide ((Sum.inl a:b8)=Sum.inl b)=decide (a=b):=by simp
def En (m:Pt)(x v:Int):uN (wo m) (.inl x) (wi v)=wo (wx m x v):=by
 unfold uN wx;have e:((wo m).any λkv=>decide (kv.1=(Sum.inl x:b8)))=m.any λq=>decide (q.1=x):=by unfold wo;rw[List.any_map];congr 1;funext q;show E1 _ _
 rw[e];split;unfold wo;rw[aZ,aZ];apply dB;intro q _;change(if(Sum.inl q.1:b8)=Sum.inl x then((Sum.inl q.1:b8),wi v) else(Sum.inl q.1,wi q.2))=((Sum.inl (if q.1=x then(q.1,v) else q).1:b8),wi (if q.1=x then(q.1,v) else q).2)
 by_cases hq:q.1=x;rw[ao (by rw[hq]),ao hq];rw[ak (λz=>hq (Sum.inl.inj z)),ak hq];unfold wo;rw[aA];rfl
def DK (m:Pt)(x:Int):eU (wo m) (.inl x)=(m.find? λq=>decide (q.1=x)).map λq=>wi q.2:=by
 unfold eU wo;rw[List.find?_map,Option.map_map];have e:((λkv:b8×W=>decide (kv.1=(Sum.inl x:b8))) ∘ λq:Int×Int=>((Sum.inl q.1:b8),wi q.2))=λq=>decide (q.1=x):=by funext q;show E1 _ _
 rw[e];rfl
def xJ:(m.find? λq=>decide (q.1=x))=none /\ look m x=0 /\ x∉m.map (·.1) \/ ∃q,(m.find? λq=>decide (q.1=x))=some q /\ look m x=q.2:=by
 induction m with
 | nil=>show .inl #[rfl,rfl,by simp]
 | cons q r ih=>
  rw[cJ,look];by_cases e:q.1=x;simp![e,bI];show .inr #[q,rfl,by simp];simp![e,decide_false,bC];rcases ih with⟨h1,h2,h3⟩ | h
  show .inl #[h1,h2,by rw[aN,aT,not_or];show#[du e,h3]];show .inr h
def E7 (m:Pt)(x:Int):(eU (wo m) (.inl x)).getD (wi 0)=wi (look m x):=by rw[DK];rcases xJ (m:=m) (x:=x) with⟨h1,h2,_⟩ | ⟨q,h1,h2⟩ <;>rw[h1,h2] <;>rfl
def HS (h:x∈m.map (·.1)):eU (wo m) (.inl x)=some (wi (look m x)):=by
 rw[DK];rcases xJ (m:=m) (x:=x) with⟨_,_,h3⟩ | ⟨q,h1,h2⟩
 show absurd h h3;rw[h1,h2];rfl
def AT (m:Pt):(wo m).map (·.1)=(m.map (·.1)).map Sum.inl:=by unfold wo;rw[aZ,aZ];rfl
def xz:(wx m x v).map (·.1)=if x∈m.map (·.1) then m.map (·.1) else m.map (·.1)++ [x]:=by unfold wx;by_cases h:x∈m.map (·.1);rw[ao (uu.mpr h),ao h,aZ];apply dB;intro q _;change(if q.1=x then(q.1,v) else q).1=q.1;split<;>rfl;rw[ak (λe=>h (uu.mp e)),ak h,aA];rfl
def EE (h:(m.map (·.1)).Nodup):((wx m x v).map (·.1)).Nodup:=by rw[xz];by_cases e:x∈m.map (·.1);rw[ao e];show h;rw[ak e];show ED h e
def AQ:(wx m x v).length<=m.length+1:=by unfold wx;split;rw[af];lia;simp
def xx:look (wx m x v) y=if y=x then v else look m y:=by
 unfold wx;by_cases h:x∈m.map (·.1);rw [ao (uu.mpr h)];have key: ∀m:Pt,look (m.map (λq=>if q.1=x then(q.1,v) else q)) y=if y=x /\ x∈m.map (·.1) then v else look m y:=by
  intro m;induction m with
  | nil=>simp[look]
  | cons q r ih=>
   rw[aN,look,look,ih];by_cases hq:q.1=x;by_cases hy:y=x;subst hy;simp[hq];simp[hq,hy,du hy];by_cases hy:y=x;subst hy;have:(y∈(q::r).map (·.1))=(y∈r.map (·.1)):=by rw[aN,aT];simp[du hq]
   simp![this,hq,bC];simp[hq,hy]
 rw[key];simp[h];rw [ak (λe=>h (uu.mp e))];have key: ∀m:Pt,x∉m.map (·.1) ->look (m++ [(x,v)]) y=if y=x then v else look m y:=by
  intro m;induction m with
  | nil=>intro _;by_cases e:y=x;simp[look,e];simp[look,e,du e]
  | cons q r ih=>intro hn;rw[aN,aT,not_or] at hn;rw[List.cons_append,look,look,ih hn.2];by_cases e:y=x;subst e;simp[du hn.1];simp[e]
 show key m h
def Ud (m:Pt)(ns:cA Int):Pt:=ns.filterMap λx=>if look m x=0 then none else some (x,look m x)
theorem AO {m:Pt}{x:Int}: ∀ {ns:cA Int},ns.Nodup ->look (Ud m ns) x=if x∈ns then look m x else 0
 | [],_=>rfl
 | n ::r,h=>by rw[List.nodup_cons] at h;have ih:=AO (m:=m) (x:=x) h.2;unfold Ud at ih ⊢;rw[List.filterMap_cons];by_cases e:look m n=0;rw[ao e];change look (r.filterMap _) x=_;rw[ih];by_cases hx:x=n;subst hx;rw[ak h.1,ao (by simp),e];simp[hx];rw[ak e];change look ((n,look m n)::r.filterMap _) x=_;rw[look,ih];by_cases hx:x=n;subst hx;rw[ao rfl,ao (by simp)];rw[ak (du hx)];simp[hx]
def FS {ns:cA Int}(h1:ns.Pairwise (· <= ·))(h2:ns.Nodup):ns.Pairwise (· < ·):=by exact(List.Pairwise.and h1 h2).imp ?_;rintro a b ⟨h,n⟩;lia
def DW (hp:0<p)(hn:(m.map (·.1)).Nodup)(ht: ∀x,look m x=fE ps x % p)(jM:ns.Perm (m.map (·.1)))(hs:ns.Pairwise (· <= ·)):Ud m ns=qH p ps:=by have nd:=jM.nodup_iff.mpr hn;have st:=FS hs nd;exact uf (p:=p) #[?_,?_] (f_ hp ps) λx=> ?_;intro q hq;let⟨x,hx,e⟩:=List.mem_filterMap.mp hq;split at e;cases e;rename_i h0;cases e;have:=ht x;have:=Int.emod_nonneg (fE ps x) (show p≠0 by lia);have:=Int.emod_lt_of_pos (fE ps x) hp;change 0<look m x /\ look m x<p;lia;unfold Ud;exact List.Pairwise.filterMap _ ?_ st;intro a b E6 c hc d hd;split at hc<;>cases hc;split at hd<;>cases hd;show E6;rw[AO nd,vb hp];split;show ht x;rename_i hx;rw[<- ht x,gI];intro q hq e;show hx (jM.mem_iff.mpr (by rw[<- e];show List.mem_map_of_mem hq))
def Hx (_:Pt):Prop:=True
theorem C7:Hx ps:=trivial
def AM (h:k∈(wx m x v).map (·.1)):k=x \/ k∈m.map (·.1):=by rw[xz] at h;split at h;show .inr h;obtain h | h:=a9.mp h;show .inr h;show .inl (be.mp h)
end WP
namespace WQ
open PySem L2 WL WP
def V4:fe:=λxs M q=>eQ λ(d l:fP) (n:Int)=>gm (xs= [wr d,wi n]) (Dr M d l) (0<n) (n<1073741824) (∀ (r:Int) (M':Mp),0<=r ->r<n ->Dr M' d l ->NB d M M' ->q (wi r) M')
def pP:fe:=λxs M q=>cg λ(d l:fP)=>cW (xs= [wr d]) (Dr M d l) (∀ (p:Int) (M':Mp),(p=2 \/ p=3 \/ p=5 \/ p=7) ->Dr M' d l ->NB d M M' ->q (wi p) M')
def Ps:fe:=λxs M q=>eQ λ(a:fP) (p:Int) (ps:Pt)=>lm (xs= [wi p,wr a]) (M a=some (.lst (ps.map bV))) (0<p) (Hx ps) (ps.length<=16000000) (q (gj (qH p ps)) M)
def mv (by_:Int)(l:Pt):Pt:=l.map λz=>(z.1+by_,z.2)
def RO:fe:=λxs M q=>cg λ(uQ:Pt) (b:Int)=>cW (xs= [gj uQ,wi b]) (uQ.length<=16000000) (q (gj (mv b uQ)) M)
def aao:fe:=λxs M q=> ∃i:Int,xs= [wi i] /\ q (wb true) M
def RP:fe:=λxs M q=>cg λ(p:Int) (uQ:Pt)=>fj (xs= [wi p,gj uQ]) (dQ p uQ) (uQ.length<=16000000) (q (wb true) M)
def RW:fe:=λxs M q=>eQ λ(p:Int) (a b:Pt)=>lm (xs= [wi p,gj a,gj b]) (0<p) (Hx (a++b)) (a.length<=8000000) (b.length<=8000000) (q (gj (qH p (a++b))) M)
def tm (n:Int)(l:Pt):Pt:=l.map λz=>(z.1,z.2*n)
def RL:fe:=λxs M q=>eQ λ(p:Int) (a:Pt) (n:Int)=>lm (xs= [wi p,gj a,wi n]) (0<p) (Hx (tm n a)) (a.length<=40000) (∀z∈a,0<=z.2 /\ z.2<1000) (q (gj (qH p (tm n a))) M)
def EF (b n:Int)(l:Pt):Pt:=l.map λz=>(z.1+b,z.2*n)
def aan:fe:=λxs M q=>sO λ(p:Int) (a b:Pt) (y n:Int)=>Ld (xs= [wi p,gj a,gj b,wi y,wi n]) (0<p) (Hx (a++EF y n b)) (a.length<=8000000) (b.length<=8000000) (∀z∈b,0<=z.2 /\ z.2<1000) (q (gj (qH p (a++EF y n b))) M)
theorem big (h:n<=16000000):n<=sizeLine:=ar h (by rw[cR];decide)
theorem kh (h:n<=16000000):n<sizeLine:=Nat.lt_of_le_of_lt h (by rw[cR];decide)
theorem qJ:(mv b l).length=l.length:=af _
def Nt:mv 0 l=l:=by
 unfold mv;have:(λz:Int×Int=>(z.1+0,z.2))=id:=by funext z;rw[Int.add_zero];rfl
 rw[this,List.map_id]
def Zj:look (mv b l) x=look l (x - b):=by
 induction l with
 | nil=>rfl
 | cons q r ih=>change look ((q.1+b,q.2)::mv b r) x=_;rw[look,look,ih];by_cases e:q.1+b=x;rw[ao e,ao ∅];rw[ak e,ak ∅]
def Cj:fE (tm n l) x=fE l x*n:=by
 induction l with
 | nil=>simp[tm,fE]
 | cons q r ih=>change fE ((q.1,q.2*n)::tm n r) x=_;rw[fE,fE,ih,Int.add_mul];split<;>simp
def CK:EF b n l=tm n (mv b l):=by unfold EF tm mv;rw[aZ];rfl
def Q9:tm 1 l=l:=by
 unfold tm;have:(λz:Int×Int=>(z.1,z.2*1))=id:=by funext z;rw[Int.mul_one];rfl
 rw[this,List.map_id]
theorem Jz (hp:0<p)(h:dQ p a):qH p a=a:=uf (f_ hp a) h λx=>by rw[vb hp,ox h.2];have:=CP hp h x;show Int.emod_eq_of_lt this.1 this.2
def mO (hp:0<p)(a:Pt)(x:Int):fE (qH p a) x=fE a x % p:=by rw[ox (f_ hp a).2,vb hp]
def Ck:fE (mv b l) x=fE l (x - b):=by
 induction l with
 | nil=>rfl
 | cons q r ih=>change fE ((q.1+b,q.2)::mv b r) x=_;rw[fE,fE,ih];by_cases e:q.1+b=x;rw[ao e,ao ∅];rw[ak e,ak ∅]
theorem Kr (h:Hx a):Hx (tm n a):=trivial
def KS (q:Int×Int):GX (bV q)=some (.tup [.int q.1, .int q.2]):=by simp[bV,GX,nc]
theorem vO: ∀l:Pt,nc (l.map bV)=some (l.map λq=> .tup [.int q.1, .int q.2])
 | []=>rfl
 | q::r=>by rw[aN,nc,KS,vO r];rfl
def Jh (l:Pt):Dt:= .tup (l.map λq=> .tup [.int q.1, .int q.2])
def Oe (l:Pt):GX (gj l)=some (Jh l):=by rw[gj,GX,vO];rfl
theorem vJ: ∀l:Pt,ka (l.map λq=> .tup [.int q.1, .int q.2]) <=1
 | []=>by simp[ka]
 | q::r=>by rw[aN,ka];have:=vJ r;simp![tQ,ka];lia
def DU (K:WV):Sp:=λvs H Q _=>cg λ(a:fP) (ns:cA Int)=>cW (vs= [.ref a]) (g0 K H a (ns.map V.int)) (∀ (d l:fP) (ms:cA Int) (H':Hp),d≠l ->H' d=some (.lst [.ref l, .int 0, .int 0, .int 11]) ->H' l=some (.lst (ms.map V.int)) ->Q (.ref d) H')
def Ae (K:WV):Sp:=λvs H Q _=>cg λ(a:fP) (ns:cA Int)=>cW (vs= [.ref a]) (g0 K H a (ns.map V.int)) (∀H',Q (.bl true) H')
def Wi (F:BL K x qual st f fd)(S:cf N [z] (aS st))(hN:2<=N.length)(jN: ∀ (cdv:c7) (A:Around) (outer:cA Env) (s:dz) (H:Hp) (E:XK),eR k (A.deeper (PyProof.Rows.envOfC qual (aS st) s.heap.objs.size f cdv)) ->∃ R,zS (eI fi P w K mg base N qual (aS st) f cdv A outer s H E).LL (dL st) (Q_ (Io (xg (DU K) [] E0 (Il (Mu 0) FQ)) (lW 1)) R) /\∃w',IS K R w' /\ ∀d l M,Dr M d l ->w' {nx:=λ_ _=>False,rt:=λx _=>x=wb true} (none::some (wr d)::List.replicate (N.length - 2) none) M): bD P w K mg base fi (k+1) f fd [z] (Ae K):=by
 exact BL.ok F S (λvs H Q E ⟨a,ns,h,_,_⟩=>by rw[h];rfl) λcdv A outer s H vs Q E hr h=> ?_;let⟨R,h1,w',h2,h3⟩:=jN cdv A outer s H E hr;let⟨a,ns,rfl,hs,hq⟩:=h;exact#[_,h1,?_];let⟨n,hn⟩: ∃n,N.length=n+2:=#[N.length - 2, ∅]
 have e0:L2.start N [V.ref a]=some (V.ref a)::none::List.replicate n none:=by unfold L2.start;rw[hn];rfl
 rw[e0];exact#[_,rfl,a,ns,rfl,hs,λd l ms H' lT hd hl=> ?_];change R _ _ H';exact h2.imp (none::some (wr d)::List.replicate (N.length - 2) none) (um (um (λ_=>none) l (.lst (ms.map wi))) d (.lst [wr l,wi 0,wi 0,wi 11])) _ H' _ _ #[#[?_,λi y e=> ?_],λb o e=> ?_] (h3 d l _ #[ms,0,0,11,am,by rw[aP (du lT),am],⋯,lT]) #[λ_ _ _ _ h=>h.elim,λy M' v H2 e _ _ r=> ?_,λ_ _ _ _ h=>h.elim,λ_ _ _ _ h=>h.elim];simp[hn];match i with
 | 0=>simp at e
 | 1=>simp at e;subst e;show#[.ref d,rfl,WR.v]
 | i+2=>simp[dh] at e
 by_cases hb:b=d;subst hb;rw[am] at e;cases e;show#[_,hd,cI.cons WR.v (cI.cons WR.v (cI.cons WR.v (cI.cons WR.v cI.nil)))];rw[aP hb] at e;by_cases hb':b=l;subst hb';rw[am] at e;cases e;show#[_,hl,cI.ofInts ms];rw[aP hb'] at e;cases e;subst e;rw[r.eq];show hq H2
abbrev Rd:=Int×Pt
def gv (r:Rd):W:= .tup [wi r.1,gj r.2]
def jn (p:Int)(a b:Rd):Rd:=(a.1+b.1,qH p (a.2++mv a.1 b.2))
def bk (p:Int)(a:Rd):Rd:=(-a.1,qH p (tm (-1) (mv (-a.1) a.2)))
def MU:fe:=λxs M q=>eQ λ(p:Int) (a b:Rd)=>lm (xs= [wi p,gv a,gv b]) (0<p) (Hx (a.2++mv a.1 b.2)) (a.2.length<=40000) (b.2.length<=40000) (q (gv (jn p a b)) M)
def V9:fe:=λxs M q=>eQ λ(p:Int) (a b:Rd)=>Ld (xs= [wi p,gv a,gv b]) (0<p) (Hx (a.2++mv a.1 b.2)) (a.2.length<=40000) (b.2.length<=40000) (∀z∈b.2,0<=z.2 /\ z.2<1000) (q (gv (jn p a b)) M)
def PB:fe:=λxs M q=>cg λ(p:Int) (a:Rd)=>lm (xs= [wi p,gv a]) (0<p) (Hx (mv (-a.1) a.2)) (a.2.length<=40000) (∀z∈a.2,0<=z.2 /\ z.2<1000) (q (gv (bk p a)) M)
def Jp:fe:=λxs M q=>cg λ(p:Int) (a:Rd)=>fj (xs= [wi p,gv a]) (dQ p a.2) (a.2.length<=100000) (q (wb true) M)
def KQ (r:Rd):GX (gv r)=some (.tup [.int r.1,Jh r.2]):=by rw[gv,GX,nc,nc,Oe,nc];rfl
def Tq (r:Rd):tQ (.tup [.int r.1,Jh r.2]) <=50:=by
 simp![tQ,ka];have:tQ (Jh r.2) <=2:=by unfold Jh;rw[tQ];have:=vJ r.2;lia
 lia
def Wo (e:a=b)(h:q (wb false) M):QF (gv a) (gv b) M q:=by subst e;show#[_,_, .inl (KQ a), .inl (KQ a),rfl,Tq a,by rw[mj];show h]
theorem SF (hp:0<p)(a b:Rd):dQ p (jn p a b).2:=f_ hp _
theorem Dl (hp:0<p)(a:Rd):dQ p (bk p a).2:=f_ hp _
def JY (p:Int)(a b:Rd):(jn p a b).2.length<=a.2.length+b.2.length:=by exact ar (jd _ _) ?_;rw[aD,qJ];lia
def Dm (p:Int)(a:Rd):(bk p a).2.length<=a.2.length:=by exact ar (jd _ _) ?_;rw[tm,af,qJ];lia
theorem Rv {a b:Rd}(h1:a.1=b.1)(h2:a.2=b.2):a=b:=Prod.ext h1 h2
def Q7 (hp:0<p)(a:Rd)(x:Int):fE (bk p a).2 x=(-fE a.2 (x+a.1)) % p:=by rw[bk,mO hp,Cj,Ck];congr 1;rw[Int.mul_neg_one,Int.sub_neg]
theorem Cz (hp:0<p)(ha:dQ p a)(hb:dQ p b)(h: ∀x,fE a x=fE b x):a=b:=uf ha hb λx=>by rw[<- ox ha.2, <- ox hb.2];show h x
theorem lx (h:dQ p a)(hp:p<1000): ∀z∈a,0<=z.2 /\ z.2<1000:=λz hz=>by have:=h.1 z hz;lia
inductive ahL where
 | go (k:Int) | turn (k:Int)
def aiN (s:Int×Pt):ahL ->Int×Pt
 | .go k=>(s.1+k,s.2)
 | .turn k=>(s.1,s.2++ [(s.1,k)])
end WQ
namespace WL
open PySem PySem.Spec PyProof.Rows L2
def X_ (ns:cA Int)(m:Int):Prop:=m∈ns /\ ∀x∈ns,x<=m
def X' (ns:cA Int)(m:Int):Prop:=m∈ns /\ ∀x∈ns,m<=x
end WL
namespace WQ
open PySem L2 WL WP
def prc (p s:Int):Int:=if p - s<s then p - s else s
def Pb (a:Rd):cA Int:=0::a.1::a.2.map (·.1)
def X2 (i:Int):Int:=if i<0 then -i else i
def fwv (p:Int)(a:Rd)(lo hi:Int):Int:=2*(hi - lo) - X2 a.1+(a.2.map λz=>prc p z.2).sum
def Ki (e n x:Int):Bool:=decide (x.fmod e=0) && (decide (0<=x.fdiv e) && decide (x.fdiv e<n))
def lw (e n x:Int):Pt ->Int
 | []=>0
 | z::r=>(if Ki e n (x - z.1) then z.2 else 0)+lw e n x r
def ul (he:e≠0):Ki e n x=true↔ ∃k,0<=k /\ k<n /\ x=k*e:=by have hd:=Int.mul_fdiv_add_fmod x e;unfold Ki;simp![cz,dq];symm;rintro⟨h1,h2,h3⟩;show#[x.fdiv e,h2,h3,by rw[Int.mul_comm, <- hd,h1];simp[Int.mul_fdiv_cancel_left _ he]];rintro⟨k,h1,h2,rfl⟩;have:(k*e).fdiv e=k:=Int.mul_fdiv_cancel _ he;rw[this];show#[Int.mul_fmod_left _ _,h1,h2]
def Kh (he:e≠0):Ki e 0 x=false:=by
 cases h:Ki e 0 x with
 | false=>rfl
 | true=>let⟨k,h1,h2,_⟩:=(ul he).mp h;lia
def A5 (he:e≠0)(hn:0<=n):(Ki e (n+1) x=true)↔(Ki e n x=true \/ x=n*e):=by rw[ul he,ul he];symm;rintro⟨k,h1,h2,h3⟩;obtain h | h:=Int.lt_or_le k n;show .inl #[k,h1,h,h3];have:k=n:= ∅;subst this;show .inr h3;rintro(⟨k,h1,h2,h3⟩ | h);show#[k,h1, ∅,h3];show#[n,hn, ∅,h]
def NS (he:e≠0):Ki e n (n*e)=false:=by
 cases h:Ki e n (n*e) with
 | false=>rfl
 | true=>let⟨k,h1,h2,h3⟩:=(ul he).mp h;have:k=n:=Int.eq_of_mul_eq_mul_right he h3.symm;lia
def Ad (he:e≠0)(hn:0<=n)(l:Pt):lw e (n+1) x l=lw e n x l+fE l (x - n*e):=by
 induction l with
 | nil=>rfl
 | cons z r ih=>
  rw[lw,lw,fE,ih];by_cases h:z.1=x - n*e;have e1:x - z.1=n*e:= ∅;rw[ao h,e1,ao ((A5 he hn).mpr (.inr rfl)),NS he];simp;lia;rw [ak h];have:Ki e (n+1) (x - z.1)=Ki e n (x - z.1):=by apply Bool.eq_iff_iff.mpr;rw[A5 he hn];symm;rintro(h' | h');show h';show absurd h' ∅;show .inl
  rw[this];lia
def Ac (he:e≠0)(l:Pt):lw e 0 x l=0:=by
 induction l with
 | nil=>rfl
 | cons z r ih=>rw[lw,ih,Kh he];simp
def oT (b:Rd):Nat ->Pt
 | 0=> []
 | n+1=>oT b n++mv ((n:Int)*b.1) b.2
theorem HX {b:Rd}(he:b.1≠0)(x:Int): ∀n:Nat,fE (oT b n) x=lw b.1 n x b.2
 | 0=>by rw[oT,Int.ofNat_zero,Ac he];rfl
 | n+1=>by rw[oT,gq,HX he x n,Ck];have:=Ad (n:=(n:Int)) (x:=x) he ∅ b.2;rw[Int.natCast_add,Int.ofNat_one,this]
theorem oR (b:Rd): ∀n:Nat,(oT b n).length=n*b.2.length
 | 0=>by simp[oT]
 | n+1=>by rw[oT,aD,oR b n,qJ,Nat.succ_mul]
end WQ
namespace WL
open PySem PySem.Spec PyProof.Rows L2
section
variable {X:Cx}
def VZ (K:WV):cA V ->Hp ->VK ->Prop:=λxs H Q=>cg λ(l:fP) (bs:cA Bool)=>cW (xs= [.ref l]) (g0 K H l (bs.map V.bl)) (Q (.bl (bs.all id)) H)
def VY (K:WV):cA V ->Hp ->VK ->Prop:=λxs H Q=>cg λ(l:fP) (bs:cA Bool)=>cW (xs= [.ref l]) (g0 K H l (bs.map V.bl)) (Q (.bl (bs.any id)) H)
def J5 {bs:cA Bool}(rv:cb (bs.map V.bl) bJ)(e:bJ.toArray[i]? =some v):v= .bool (bs.getD i false) /\ i<bs.length:=by
 have e':bJ[i]? =some v:= ⇑e;have dJ:=rv.length;have hi:i<bs.length:=by have:=(bv.mp e').1;rw[af] at dJ;lia
 let⟨w',hw,yG⟩:=rv.get (i:=i) (x:= .bl bs[i]) (by rw[aI,aO hi];rfl);rw[e'] at hw;cases hw;cases yG;show#[by simp[List.getD,hi],hi]
def F_ (bs:cA Bool):(List.range bs.length).all (λi=>bs.getD i false)=bs.all id:=by apply Bool.eq_iff_iff.mpr;rw[List.all_eq_true,List.all_eq_true];symm;intro h x hx;let⟨i,hi,rfl⟩:=List.mem_iff_getElem.mp hx;have:=h i (List.mem_range.mpr hi);simpa [List.getD,hi] using this;intro h i hi;rw[List.mem_range] at hi;have:=h bs[i] (List.getElem_mem hi);simpa [List.getD,hi] using this
def F' (bs:cA Bool):(List.range bs.length).any (λi=>bs.getD i false)=bs.any id:=by apply Bool.eq_iff_iff.mpr;rw[List.any_eq_true,List.any_eq_true];symm;rintro⟨i,hi,h⟩;rw[List.mem_range] at hi;show#[bs[i],List.getElem_mem hi,by simpa [List.getD,hi] using h];rintro⟨x,hx,h⟩;let⟨i,hi,rfl⟩:=List.mem_iff_getElem.mp hx;show#[i,List.mem_range.mpr hi,by simpa [List.getD,hi] using h]
def iz (hc:X.calm=true):fB X (.builtin "all") (VZ X.K):=by
 intro ah s σ H xs us Q I r h;let⟨l,bs,rfl,hs,q⟩:=h;let⟨u,rfl,ru⟩:=vals1 r;cases ru;let⟨bJ,rv,ht,hz⟩:=I.list hs;have hh:X.A.in1.handled=none:=I.ok.hd hc;have dJ:bJ.toArray.size=bs.length:=by have:=rv.length;rw[af] at this;simpa using this.symm
 have m8:l<s.heap.objs.size:=by let⟨_,e,_⟩:=ht.isList;show aR e
 exact PySem.call_all_walkS (wpAny_pyIter_list ht.isList ?_);exact#[s.heap.objs.size,_,_,_,bJ.toArray.size,_,_,λi=>bs.getD i false,rfl,(Walks.list hh s.heap.objs.size l (bA m8) bJ.toArray).toS,#[#[_,a4 _ rfl,rfl,rfl],ht.isList.push _],λi v s' Q' E' e hq=> ?_,λs' hm=> ?_];let⟨rfl,_⟩:=J5 rv e;show cq hq;have hk: ∀b o,s.heap.get? b=some o ->s'.heap.get? b=some o:=λb o e=>hm.heap b o (λhI=>absurd (aR e) (by rw[be.mp hI];show Nat.lt_irrefl _)) (av _ e);rw[Moved.eq_with hm,dJ,F_];show#[.bl _,H,I.kept (t':=s'.toks) hk,rfl,q]
def x_ (hc:X.calm=true):fB X (.builtin "any") (VY X.K):=by
 intro ah s σ H xs us Q I r h;let⟨l,bs,rfl,hs,q⟩:=h;let⟨u,rfl,ru⟩:=vals1 r;cases ru;let⟨bJ,rv,ht,hz⟩:=I.list hs;have hh:X.A.in1.handled=none:=I.ok.hd hc;have dJ:bJ.toArray.size=bs.length:=by have:=rv.length;rw[af] at this;simpa using this.symm
 have m8:l<s.heap.objs.size:=by let⟨_,e,_⟩:=ht.isList;show aR e
 exact PySem.call_any_walkS (wpAny_pyIter_list ht.isList ?_);exact#[s.heap.objs.size,_,_,_,bJ.toArray.size,_,_,λi=>bs.getD i false,rfl,(Walks.list hh s.heap.objs.size l (bA m8) bJ.toArray).toS,#[#[_,a4 _ rfl,rfl,rfl],ht.isList.push _],λi v s' Q' E' e hq=> ?_,λs' hm=> ?_];let⟨rfl,_⟩:=J5 rv e;show cq hq;have hk: ∀b o,s.heap.get? b=some o ->s'.heap.get? b=some o:=λb o e=>hm.heap b o (λhI=>absurd (aR e) (by rw[be.mp hI];show Nat.lt_irrefl _)) (av _ e);rw[Moved.eq_with hm,dJ,F'];show#[.bl _,H,I.kept (t':=s'.toks) hk,rfl,q]
variable {K:WV}
theorem cI.bools {H:Hp}: ∀ {bs:cA Bool} {vs:cA V},cI K H (bs.map wb) vs ->vs=bs.map V.bl
 | [],vs,h=>by simpa only[List.map_nil,cI] using h
 | n::r,vs,h=>by simp![aN,cI] at h;let⟨v,t,rfl,h1,h2⟩:=h;rw[cI.bools h2,h1.eq];rfl
def _O:zE:=λxs M q=>cg λ(a:fP) (bs:cA Bool)=>cW (xs= [wr a]) (M a=some (.lst (bs.map wb))) (q (wb (bs.all id)) M)
def _L:zE:=λxs M q=>cg λ(a:fP) (bs:cA Bool)=>cW (xs= [wr a]) (M a=some (.lst (bs.map wb))) (q (wb (bs.any id)) M)
instance:IC K (VZ K) _O where
 imp:=by rintro xs v M H q Q m r1 ⟨a,ns,rfl,hl,h⟩ k;let⟨v,rfl,r⟩:=r1.one;cases r.eq;let⟨vs,hv,rr⟩:=m a _ hl;cases rr.bools;show#[a,ns,rfl,g0.of hv,k _ M _ H h (a8.refl H) m WR.v]
instance:IC K (VY K) _L where
 imp:=by rintro xs v M H q Q m r1 ⟨a,ns,rfl,hl,h⟩ k;let⟨v,rfl,r⟩:=r1.one;cases r.eq;let⟨vs,hv,rr⟩:=m a _ hl;cases rr.bools;show#[a,ns,rfl,g0.of hv,k _ M _ H h (a8.refl H) m WR.v]
end
end WL
namespace WL
open PySem L2
def Tt {M1:Mp}(hz:xs.length<=sizeLine)(h: ∀p,M1 p=none -> ∃I:Nat ->cA W ->Mp ->Prop,fj (I 0 [] (um M1 p (.lst []))) (∀i ys M,i<=xs.length ->I i ys M ->keep M /\ M p=some (.lst ys) /\ ys.length<=i) (∀i x ys M,xs[i]? =some x ->I i ys M -> ∀N:cA W ->Mp ->Prop,(∀ys M,I (i+1) ys M ->N ys M) ->g x (og own fr ρ) M λρ2 M2=>c ρ2 M2 λb M3=>gy b (el ρ2 M3 λy M4=>M4 p=some (.lst ys) /\ N (ys++ [y]) (um M4 p (.lst (ys++ [y])))) (N ys M3)) (∀ys M,I xs.length ys M ->q (wr p) M)):sI xs keep own fr g c el ρ M1 q:=by exact#[hz,λp hp=> ?_];let⟨I,h0,h1,h2,h3⟩:=h p hp;show#[I,h0,h1,λi x ys M hx hI=>h2 i x ys M hx hI _ λ_ _ z=>z,h3]
end WL
namespace WQ
open PySem L2 WL WP
def Qz (p:Int)(l:cA Int):Prop:=(∀x∈l,0<=x /\ x<p) /\ ∀x,l.getLast? =some x ->x≠0
def TB (row:cA Int)(k:Nat)(x:Int):cA Int:=row.set k (row.getD k 0+x)
def mZ (row:cA Int)(o:Nat)(l:cA Int)(n:Nat):cA Int:=(List.range n).foldl (λr i=>TB r (o+i) (l.getD i 0)) row
def pw (p s:Int):Nat ->Int
 | 0=>1
 | n+1=>pw p s n*s % p
end WQ
namespace L2
open PySem PySem.Spec PyProof.Rows
def BL.okE {K:WV}{st:Stmt}(F:BL K x qual st f fd)(S:cf N ps (aS st))(len: ∀vs H Q E,sp vs H Q E ->vs.length=ps.length)(jN: ∀ (cdv:c7) (A:Around) (outer:cA Env) (s:dz) (H:Hp) (vs:cA V) (Q:VK) (E:XK),eR k (A.deeper (envOfC qual (aS st) s.heap.objs.size f cdv)) ->sp vs H Q E ->∃t,zS (eI CX P w K mg base N qual (aS st) f cdv A outer s H E) (dL st) t /\ t {nx:=λ_ H'=>Q .d3 H',rt:=Q} (start N vs) H):bD P w K mg base CX (k+1) f fd ps sp:=by let⟨oc,od,kV,jq,pm,an,cdv,ct,CB,rfl,lk,E5⟩:=F.ex;show Qo lk E5 S len λA outer s H vs Q E hr wq=>jN cdv A outer s H vs Q E hr wq
end L2
namespace WL
open PySem L2 PySem.Spec PyProof.Rows
abbrev WX:=fP ->Mp ->Prop
abbrev fc:=cA W ->Mp ->WK ->WX ->Prop
section
variable {K:WV}
def up (e:WX):WX:=λC M'=> ∃M0,Sm M0 M' /\ e C M0
def Ex (K:WV)(e:WX):XK:=λcls _ H'=> ∃C M',cls= .ref C /\ e C M' /\ gi K M' H'
def t_ (K:WV)(p:fc):Sp:=λvs H Q E=> ∃ (xs:cA W) (M:Mp) (q:WK) (e:WX),cI K H xs vs /\ gi K M H /\ p xs M q e /\ (∀x M' v H',q x M' ->a8 H H' ->gi K M' H' ->WR K H' x v ->Q v H') /\ ∀C M' H',e C M' ->gi K M' H' ->E (.ref C) none H'
def Cg (p:fc)(e:WX)(a:WA):WE:=λρ M q=>a ρ M λxs M1=>p xs M1 q (up e)
instance {p:fc}{e:WX}{t:TA}{a:WA} [ia:IA K t a]:IE K (xg (t_ K p) [] (Ex K e) t) (Cg p e a) where
 imp:=λρ M σ H q Q o h k=>ia.imp ρ M σ H _ _ o h λx M1 v H1 h1 t1 m1 r1=>#[x,M1,q,_,by rw[dI];show r1,m1,h1,λy M4 v4 H4 h4 t4 m4 r4=>k y M4 v4 H4 h4 (t1.trans t4) m4 r4,λC M' H' ⟨M0,s,h⟩ m=>#[C,M0,rfl,h,m.sub s]]
def Cc (C:fP)(e:WX)(a:WA):WS:=λ_ ρ M=>a ρ M λxs M'=>xs.length<=sizeLine /\ up e C M'
instance {C:fP}{e:WX}{t:TA}{a:WA} [ia:IA K t a]:IS K (Cm C (Ex K e) t) (Cc C e a) where
 imp:=λρ M σ H D' D o h To=>ia.imp ρ M σ H _ _ o h λx M1 v H1 ⟨hl,M0,s,h1⟩ t1 m1 r1=>#[by rw[r1.length];show hl,C,M0,rfl,h1,m1.sub s]
def y9 {st:Stmt}(F:BL K x qual st f fd)(S:cf N ps (aS st))(len: ∀vs M q e,p vs M q e ->vs.length=ps.length)(jN: ∀ (cdv:c7) (A:Around) (outer:cA Env) (s:dz) (H:Hp) (E:XK) (e:WX),eR k (A.deeper (envOfC qual (aS st) s.heap.objs.size f cdv)) ->FE (eI (iV P w) P w K mg base N qual (aS st) f cdv A outer s H E) (Ex K e) ->g_ (iV P w) (eI (iV P w) P w K mg base N qual (aS st) f cdv A outer s H E) (Ex K e) ->∃ t,zS (eI (iV P w) P w K mg base N qual (aS st) f cdv A outer s H E) (dL st) t /\ ∃w',IS K t w' /\∀vs M q,p vs M q e ->w' {nx:=λ_ M'=> ∃M0,Sm M0 M' /\ q wn M0,rt:=λx M'=> ∃M0,Sm M0 M' /\ q x M0} (vs.map some++List.replicate (N.length - vs.length) none) M): bD P w K mg base (iV P w) (k+1) f fd ps (t_ K p):=by
 exact BL.okE F S (λvs H Q E ⟨xs,M,q,e,r,m,h,_⟩=>by rw[r.length];show len xs M q e h) λcdv A outer s H vs Q E hr h=> ?_;let⟨xs,M,q,e,r,m,h,k',kE⟩:=h;have hE: ∀c d H',Ex K e c d H' ->E c none H':=λc d H' ⟨C,M',ec,he,m'⟩=>by rw[ec];show kE C M' H' he m'
 let⟨t,h1,w',h2,h3⟩:=jN cdv A outer s H E e hr (λah σ H1 s1 h' ea cls us I mk z=>Kq ah σ H1 s1 h' ea cls us I mk (hE _ _ _ z)) (λah σ H1 s1 ev s2 I z=>CA ah σ H1 s1 ev s2 I (by let⟨ea,cls,a0,B,H',r1,r2,r3,r4,r5,r6,r7,r8,r9,r⟩:=z;show#[ea,cls,a0,B,H',r1,r2,r3,r4,r5,r6,r7,r8,r9,hE _ _ _ r]));exact#[t,h1,h2.imp _ M _ H _ _ #[#[?_,λi x e=> ?_],m] (h3 xs M q h) #[?_,?_,λ_ _ _ _ h=>h.elim,λ_ _ _ _ h=>h.elim]];have:=r.length;simp[L2.start,this];have hl:=r.length;unfold L2.start;by_cases hi:i<xs.length;rw[bn ⇑hi,aI] at e;cases ex:xs[i]? with
 | none=>rw[ex] at e;cases e
 | some y=>rw[ex] at e;cases e;let⟨v,hv,rv⟩:=r.at ex;exact#[v,?_,rv];rw[bn (by simp;lia),aI,hv];rfl
 rw[bf ⇑hi,dh] at e;split at e<;>cases e;rintro ρ' M' σ' H' ⟨M0,s,hq⟩ ts o;show k' _ M0 _ H' hq ts (o.hp.sub s) WR.v;rintro x M' v H' ⟨M0,s,hq⟩ ts m' r';show k' x M0 v H' hq ts (m'.sub s) r'
end
end WL
namespace L2
open PySem PySem.Spec PyProof.Rows PySem.Calls
section
variable {X:Cx}
theorem MY {K:WV}: PassesOwn (model P w) (eI (iV P w) P w K mg base N qual scope f cd A outer s H E).A (eI (iV P w) P w K mg base N qual scope f cd A outer s H E).env (eI (iV P w) P w K mg base N qual scope f cd A outer s H E).xe:=PassesOwn.leaving (Q₁:=λe s2=>iV P w outer H s E e s2)
def Vw (te:TE):TE:=λσ H Q=>te σ H λv H1=> ∃y,cW (v= .str y) (y.length<=sizeLine) (Q (.str y) H1)
def gX (he:PE X e te):PE X (.FormattedValue e (-1) none pos) (Vw te):=by
 intro ah s σ H Q I h;exact FormattedValue_plain (cV (he ah s σ H _ I h) ?_);rintro v s1 ⟨x,H1,I1,r,y,rfl,hy,q⟩;let⟨t,rfl⟩:=(show ∃t,v=Value.str y t from r)
 show formatField_str (λt' tk=>#[.str y,H1,I1.tok tk,#[t',rfl],q]) hy
def Vx (te:TE):TE:=λσ H Q=>te σ H λv H1=> ∃i:Int,cW (v= .int i) (i.natAbs.log2<1920) (Q (.str (toString i)) H1)
def lM (he:PE X e te):PE X (.FormattedValue e (-1) none pos) (Vx te):=by
 intro ah s σ H Q I h;exact FormattedValue_plain (cV (he ah s σ H _ I h) ?_);rintro v s1 ⟨x,H1,I1,r,i,rfl,hi,q⟩;let⟨t,rfl⟩:=(show ∃t,v=Value.int i t from r)
 show formatField_int_small hi #[.str _,H1,I1.tok _,#[_,rfl],q]
def tJ0 (out:Str):TE:=λ_ H Q=>out.length<=sizeLine /\ Q (.str out) H
def tJ1 (te:TE)(k:Str ->TE)(out:Str):TE:=λσ H Q=>te σ H λv H1=> ∃y,cW (v= .str y) ((out++y).length<=sizeLine) (k (out++y) σ H1 Q)
def PJ (X:Cx)(es:cA Expr)(k:Str ->TE):Prop:= ∀ (out:Str) (ah:cA (fP×Obj)) (s:dz) (σ:St) (H:Hp) (Q:VK),Inv X ah σ H s ->k out σ H Q ->wpAny (model X.prog X.w) X.A (joinParts out (evalEach es X.env)) (EP X ah σ Q) X.xe s
theorem fD:PJ X [] tJ0:=λout ah s σ H Q I ⟨hz,q⟩=>joinParts_nil #[.str out,H,I.tok _,#[_,rfl],q] hz
def bK (he:PE X e te)(hk:PJ X es k)(hs:evalEach (e::es) X.env=eval e X.env::evalEach es X.env:=by rfl):PJ X (e::es) (tJ1 te k):=by
 intro out ah s σ H Q I h;rw[hs];exact joinParts_cons (cV (he ah s σ H _ I h) ?_);rintro v s1 ⟨x,H1,I1,r,y,rfl,hz,q⟩;let⟨t,rfl⟩:=(show ∃t,v=Value.str y t from r)
 show#[hz,hk _ ah s1 σ H1 Q I1 q]
theorem eJ (h:PJ X (e::e'::es) k):PE X (.JoinedStr (e::e'::es) pos) (k Str.empty):=λah s σ H Q I hq=>JoinedStr_many (h Str.empty ah s σ H Q I hq)
end
end L2
namespace WL
open PySem L2 PySem.Spec PyProof.Rows
section
variable {K:WV}
def QN (a:WE):WE:=λρ M q=>a ρ M λx M1=> ∃y,cW (x=ws y) (y.length<=sizeLine) (q (ws y) M1)
instance {t:TE}{a:WE} [ia:IE K t a]:IE K (Vw t) (QN a) where
 imp:=λρ M σ H q Q o h k=>ia.imp ρ M σ H _ _ o h λx M1 v H1 ⟨y,e,hz,h1⟩ t1 m1 r1=>by subst e;show#[y,r1.eq,hz,k _ M1 _ H1 h1 t1 m1 WR.v]
def QO (a:WE):WE:=λρ M q=>a ρ M λx M1=> ∃i:Int,cW (x=wi i) (i.natAbs.log2<1920) (q (ws (toString i)) M1)
instance {t:TE}{a:WE} [ia:IE K t a]:IE K (Vx t) (QO a) where
 imp:=λρ M σ H q Q o h k=>ia.imp ρ M σ H _ _ o h λx M1 v H1 ⟨y,e,hz,h1⟩ t1 m1 r1=>by subst e;show#[y,r1.eq,hz,k _ M1 _ H1 h1 t1 m1 WR.v]
def wJ0 (out:Str):WE:=λ_ M q=>out.length<=sizeLine /\ q (ws out) M
instance {out:Str}:IE K (tJ0 out) (wJ0 out) where
 imp:=λρ M σ H q Q o ⟨hz,h⟩ k=>#[hz,k _ M _ H h (a8.refl H) o.hp WR.v]
def _t (a:WE)(f:Str ->WE)(out:Str):WE:=λρ M q=>a ρ M λx M1=> ∃y,cW (x=ws y) ((out++y).length<=sizeLine) (f (out++y) ρ M1 q)
instance {t:TE}{a:WE}{f:Str ->TE}{g:Str ->WE}{out:Str} [ia:IE K t a] [ig: ∀o,IE K (f o) (g o)]:IE K (tJ1 t f out) (_t a g out) where
 imp:=λρ M σ H q Q o h k=>ia.imp ρ M σ H _ _ o h λx M1 v H1 ⟨y,e,hz,h1⟩ t1 m1 r1=>by subst e;show#[y,r1.eq,hz,(ig _).imp ρ M1 σ H1 q Q (o.mv t1 m1) h1 λx2 M2 v2 H2 q2 t2 m2 r2=>k x2 M2 v2 H2 q2 (t1.trans t2) m2 r2]
end
end WL
namespace L2
open PySem PySem.Spec PyProof.Rows PySem.Calls PySem.W
def Ez {K:WV}(m:Mod K mg h₀)(e:nsIn K mainGlobals x=some (some (.ref C)))(q:excIn K C bmB PH=true):OwnCls x C bmB PH mg h₀:=by
 have X:=m.PY;exact#[mg_of X m.glob e,?_];unfold excIn at q;split at q;rename_i dd cd sl ho;split at q;rename_i C' bm k0 k1 k2 k3 n k5 hm hs;simp![cz,beq_iff_eq,Bool.not_eq_true'] at q;let⟨⟨⟨⟨⟨rfl,rfl⟩,Xo⟩,ht⟩,cN⟩,GK⟩:=q;let⟨nm,bs,mro,ns,qn,hd,sn,sub,ab,col,del⟩:=cd;dsimp only at hm Xo cN GK;subst hm Xo;have hsl:sl= (List.toArray [k0,k1,k2,k3,some (.builtin n),k5]):=by let⟨l⟩:=sl;simp only at hs;rw[hs]
 subst hsl;show#[bm,ns,nm,qn,bs,hd,sn,sub,ab,col,dd,k0,k1,k2,k3,k5,_,X _ _ ho, .of_isNs (isNs_of_in X cN),nsMap_none_of_in X cN GK,tail_of_in X ht];cases q;cases q
structure qa (K:PySem.W.Frag)(x:Str)(C:Addr):Prop where
 ns:nsIn K mainGlobals x=some (some (.ref C))
 exc:excIn K C XQ "ValueError.__new__" =true
 k:Yd K C
theorem dn {np dk pos:Pos}{cQ:cA Expr}(hF:FE X E)(hc:X.calm=true)(hg:Gl X x)(O:qa X.K x C)(ha:PA X (e₀::cQ) t)(xE:(x==("__debug__" :Str))=false:=by decide)(he:starEach (e₀::cQ) X.env=(false,eval e₀ X.env)::starEach cQ X.env:=by rfl)(qh:(backTo dk (starEach cQ X.env)).any (·.1)=false:=by rfl): PS X (.Raise (some (.Call (.Name x np) (e₀::cQ) [] dk)) none pos) (Cm C E t):=λah s σ H D I h=>Jc hF hc hg (Ez I.ok.mod O.ns O.exc) ha xE he qh ah s σ H D I h
end L2
namespace WQ
open PySem L2 WL WP
def fV (d:Str×Int):W:= .tup [ws d.1,wi d.2]
def sstep (s:Int×Pt)(d:Str×Int):Int×Pt:=if d.1= "go" then(s.1+d.2,s.2) else(s.1,s.2++ [(s.1,d.2)])
def e_ (ds:cA (Str×Int)):Int×Pt:=ds.foldl sstep (0,[])
def jy (ds:cA (Str×Int))(d:Str×Int):e_ (ds++ [d])=sstep (e_ ds) d:=by unfold e_;rw[List.foldl_append];rfl
def jz (ds:cA (Str×Int)):(e_ ds).2.length<=ds.length:=by
 induction ds using iw with
 | h0=>simp[e_]
 | h1 l a ih=>rw[jy,aD];unfold sstep;split<;>simp<;>lia
def Qr {l:cA (Str×Int)}{i:Nat}(h:(l.map fV)[i]? =some x): ∃q,l[i]? =some q /\ x=fV q:=by
 rw[aI] at h;cases e:l[i]? with
 | none=>rw[e] at h;cases h
 | some q=>rw[e] at h;cases h;show#[q,rfl,rfl]
def Good (d:Str×Int):Prop:=d.1= "go" \/ d.1= "turn"
def RQ (C:fP):fc:=λxs M q e=>eQ λ(a:fP) (p:Int) (ds:cA (Str×Int))=>BG (xs= [wi p,wr a]) (M a=some (.lst (ds.map fV))) (0<p) (Hx (e_ ds).2) (ds.length<=50000) (∀d∈ds,d.1.length<=100) ((∀d∈ds,Good d) ->q (gv ((e_ ds).1,qH p (e_ ds).2)) M) ((∃d∈ds,¬Good d) ->e C M)
def RJ:fe:=λxs M q=>eQ λ(a:fP) (p:Int) (ds:cA (Str×Int))=>lm (xs= [wi p,wr a]) (M a=some (.lst (ds.map fV))) (0<p) (Hx (e_ ds).2) (ds.length<=50000) (q (gv ((e_ ds).1,qH p (e_ ds).2)) M)
end WQ
namespace WL
open PySem L2
def JB:W ->Bool
 | .v x=>decide (x=V.d3)
 | .tup _=>false
def Pn:R2:=λx y H Q=>y= .d3 /\ Q (.bl (!decide (x=V.d3))) H
def UY:qi:=λx y M q=>y=wn /\ q (wb (!JB x)) M
instance {K:WV}:IR K Pn UY where
 imp:=by
  rintro x y v u M H q Q m r1 r2 ⟨rfl,h⟩ k;exact#[r2.eq,k _ M _ H h (a8.refl H) m ?_];cases x with
  | v x=>rw[r1.eq];show WR.v
  | tup l=>let⟨a,vs,rfl,_⟩:=r1.tup;show WR.v
theorem Jq:i6 X (compareOp .IsNot) Pn:=M_
theorem nX (hx:DR M x d)(hy:DR M y d)(hd:tQ d<=50)(hs:ua d d=true)(h:q (wb false) M):QF x y M q:=#[d,d,hx,hy,hs,hd,by rw[mj];show h]
def Of {α:Type}(f:α ->W)(g:α ->Dt):Prop:= ∀a,GX (f a)=some (g a)
theorem Bt {α:Type}{f:α ->W}{g:α ->Dt}(h:Of f g): ∀l:cA α,nc (l.map f)=some (l.map g)
 | []=>rfl
 | a::l=>by rw[aN,nc,h a,Bt h l];rfl
theorem Bi {α:Type}{g:α ->Dt}{n:Nat}(h: ∀a,tQ (g a) <=n): ∀l:cA α,ka (l.map g) <=n
 | []=>by simp[ka]
 | a::l=>by rw[aN,ka];have:=h a;have:=Bi h l;lia
theorem DR.list {l:cA α}(h:Of f g)(ha:M a=some (.lst (l.map f))):DR M (wr a) (.lst (l.map g)):= .inr #[a,_,_,rfl,ha,Bt h l,rfl]
end WL
namespace WQ
open PySem L2 WL WP
theorem KU:Of fV (λd=> .tup [.str d.1, .int d.2]):=λd=>rfl
def Tr (l:cA (Str×Int)):tQ (.lst (l.map λd=> .tup [.str d.1, .int d.2])) <=50:=by rw[tQ];have:=Bi (n:=1) (g:=λd:Str×Int=>Dt.tup [.str d.1, .int d.2]) (λa=>by simp[tQ,ka]) l;lia
end WQ
namespace WL
open PySem L2
theorem XY {l:cA α}:gP (a::b::c::d::e::l) 4=some e:=fN (j:=4) (by rfl)
theorem XX {l:cA α}:gP (a::b::c::d::e::f::l) 5=some f:=fN (j:=5) (by rfl)
theorem XW {l:cA α}:gP (a::b::c::d::e::f::g::l) 6=some g:=fN (j:=6) (by rfl)
theorem XU {l:cA α}:gP (a::b::c::d::e::f::g::h::l) 7=some h:=fN (j:=7) (by rfl)
theorem XT {l:cA α}:gP (a::b::c::d::e::f::g::h::i::l) 8=some i:=fN (j:=8) (by rfl)
theorem XS:(∀ (a b c d e:α) (l:cA α),gP (a::b::c::d::e::l) 4=some e) /\ (∀ (a b c d e f:α) (l:cA α),gP (a::b::c::d::e::f::l) 5=some f) /\ (∀ (a b c d e f g:α) (l:cA α),gP (a::b::c::d::e::f::g::l) 6=some g) /\ (∀ (a b c d e f g h:α) (l:cA α),gP (a::b::c::d::e::f::g::h::l) 7=some h) /\ (∀ (a b c d e f g h i:α) (l:cA α),gP (a::b::c::d::e::f::g::h::i::l) 8=some i):=#[λ_ _ _ _ _ _=>XY,λ_ _ _ _ _ _ _=>XX,λ_ _ _ _ _ _ _ _=>XW,λ_ _ _ _ _ _ _ _ _=>XU,λ_ _ _ _ _ _ _ _ _ _=>XT]
end WL
namespace L2
open PySem PySem.Spec PyProof.Rows
def Keeps (S:Nat ->Prop)(g:TG):Prop:= ∀ (σ:St) (v:V) (H:Hp) (Q:St ->Hp ->Prop),g v σ H Q ->g v σ H λσ2 H2=>(σ2.length=σ.length /\ ∀i,¬S i ->σ2[i]? =σ[i]?) /\ Q σ2 H2
def AV (h:S n):Keeps S (lW n):=by intro σ v H Q q;exact#[#[by simp,λi hi=> ?_],q];rw[List.getElem?_set_ne];intro e;subst e;show hi h
def ES {K:WV}(h:S n)(h':S m):Keeps S (N1 K 2 (xH (lW n) (xH (lW m) N2))):=by rintro σ v H Q ⟨a,xs,e,hs,hl,x,r,rfl,y,r',rfl,rfl,q⟩;exact#[a,_,e,hs,hl,x,_,rfl,y,_,rfl,rfl,#[by simp,λi hi=> ?_],q];rw[List.getElem?_set_ne,List.getElem?_set_ne];intro e;subst e;show hi h;intro e;subst e;show hi h'
def Fy (h:(k_ own fr σ)[i]? =some (some v)):own<=i:=by unfold k_ at h;obtain c | c:=Nat.lt_or_ge i own;rw[bn ⇑c,dh,ao c] at h;cases h;show c
def inW (HA:TI)(g2:TG)(DO:TT)(te:TE)(σ2:St)(p:fP)(H4:Hp)(N:cA V ->Hp ->Prop):Prop:=HA σ2 H4 λJ2 H5=> ∃Z:Nat ->Nat ->cA V ->Hp ->Prop,(∃m zs,Z 0 m zs H5) /\ ∀j k zs H6,Z j k zs H6 ->H6 p=some (.lst zs) /\((J2.stop j H6 /\ N zs H6) \/ (J2.go j H6 /\ zs.length<sizeLine /\ ∀y H7,J2.TW j H6 y H7 ->g2 y σ2 H7 λσ3 H8=>DO σ3 H8 λc H9=>if c=true then te σ3 H9 λz UH=> ∃ws,UH p=some (.lst ws) /\ ws.length<sizeLine /\ ∃k',k'<k /\ Z (j+1) k' (ws++ [z]) (cK UH p (.lst (ws++ [z]))) else ∃ws k',k'<k /\ Z (j+1) k' ws H9))
def KZ (J:It)(own:Nat)(fr:cA Nat)(g:TG)(tc:TT)(HA:TI)(g2:TG)(DO:TT)(te:TE)(σ:St)(p:fP)(H1:Hp)(Q:VK):Prop:=∃ W :Nat ->Nat ->cA V ->Hp ->Prop,(∃m,W 0 m [] (cK H1 p (.lst []))) /\ ∀i m ys H',W i m ys H' ->H' p=some (.lst ys) /\((J.stop i H' /\ Q (.ref p) H') \/ (J.go i H' /\ ∀x H2,J.TW i H' x H2 ->g x (k_ own fr σ) H2 λσ2 H3=>tc σ2 H3 λb H4=>if b=true then inW HA g2 DO te σ2 p H4 λzs H5=> ∃m',m'<m /\ W (i+1) m' zs H5 else ∃zs m',m'<m /\ W (i+1) m' zs H4))
def Im (wi:TI)(own:Nat)(fr:cA Nat)(g:TG)(tc:TT)(HA:TI)(g2:TG)(DO:TT)(te:TE):TE:=λσ H Q=>wi σ H λJ H1=> ∀p,H1 p=none ->KZ J own fr g tc HA g2 DO te σ p H1 Q
abbrev xy (i5 tg iter:Expr)(i0:cA Expr)(km cZ:Expr)(ft:cA Expr)(scope:Scope)(pos:Pos):Expr:= .ListComp i5 [#[tg,iter,i0,0],#[km,cZ,ft,0]] scope pos
def Ms (i5 tg iter:Expr)(i0:cA Expr)(km cZ:Expr)(ft:cA Expr)(scope:Scope)(pos:Pos)(it fX:c7)(env:Env): compTurn (xy i5 tg iter i0 km cZ ft scope pos) 0 it fX env=(do
 standAt iter.pos
 let r <- pyNext it
 match r with
 | none=>pure (.done .next)
 | some v=>do
  letOwnedTupleGo tg it v
  assign tg env v
  let ok <- forIn i0 true λc r=>if r=true then do let ok <- isTrue c env (eval c env);pure (ForInStep.yield ok) else pure (ForInStep.yield r)
  if ok=true then do
   let x <- eval cZ env
   standAt cZ.pos
   let x <- foldedSetIterable cZ env x
   let i2 <- holding [x] (pyIter x)
   let _ <- runOwn (.compStart (xy i5 tg iter i0 km cZ ft scope pos) 1 i2 fX env) env
   again (.compLoop (xy i5 tg iter i0 km cZ ft scope pos) 0 it fX env)
  else again (.compLoop (xy i5 tg iter i0 km cZ ft scope pos) 0 it fX env)):=by rfl
def Mr (i5 tg iter:Expr)(i0:cA Expr)(km cZ:Expr)(ft:cA Expr)(scope:Scope)(pos:Pos)(it fX:c7)(env:Env): compTurn (xy i5 tg iter i0 km cZ ft scope pos) 1 it fX env=(do
 standAt cZ.pos
 let r <- pyNext it
 match r with
 | none=>pure (.done .next)
 | some v=>do
  letOwnedTupleGo km it v
  assign km env v
  let ok <- forIn ft true λc r=>if r=true then do let ok <- isTrue c env (eval c env);pure (ForInStep.yield ok) else pure (ForInStep.yield r)
  if ok=true then do
   ((do let _ <- call (.builtin "list.append") [fX, <- eval i5 env]):Sem Unit)
   again (.compLoop (xy i5 tg iter i0 km cZ ft scope pos) 1 it fX env)
  else again (.compLoop (xy i5 tg iter i0 km cZ ft scope pos) 1 it fX env)):=by rfl
def Ir (h0:codeAny (model prog w) A (.compLoop (xy i5 tg iter i0 km cZ ft scope pos) 1 it fX env) R s)(h:wpAny (model prog w) A (pyIter it) (λit' s'=>codeAny (model prog w) A (.compLoop (xy i5 tg iter i0 km cZ ft scope pos) 1 it' fX env) R s') (notedBy (model prog w) A env λx s'=>R (.error x) s') s): codeAny (model prog w) A (.compStart (xy i5 tg iter i0 km cZ ft scope pos) 1 it fX env) R s:=by
 exact codeAny_of_tree ?_;change wpAny _ _ ((compStart (xy i5 tg iter i0 km cZ ft scope pos) 1 it fX env).onRaise (λx=>do noteFrame x env;standAt theWindowsPlace)) _ _ s;exact wpAny_notedAt ?_;unfold compStart;change wpAny _ _ (ask >>=_) _ _ s;exact az (wpAny_askSetting (wpAny_ite ?_));split;first
 | show az (a_ (a_ (And.intro rfl h0)))
 | show a_ (And.intro rfl h0)
 first
 | show az (wpAny_rule (az (wpAny_standAt (az (bE h (λit' s' h'=>a_ (And.intro rfl h')) λ_ _ x=>x)))))
 | (exact az (wpAny_rule ?_);change wpAny _ _ (standAt cZ.pos >>=_) _ _ s;show az (wpAny_standAt (az (bE h (λit' s' h'=>a_ (And.intro rfl h')) λ_ _ x=>x))))
theorem Nv (I:Nat ->dz ->Prop)(turn : ∀n s,I n s ->wpAny (model prog w) A (pyNext it) (λr s₁=>match r with
   | none=>R (.ok .next) s₁
   | some v=>wpAny (model prog w) A (letOwnedTupleGo km it v) (λ_ s₀=>wpAny (model prog w) A (assign km env v) (λ_ s₂=>
    wpAny (model prog w) A (forIn ft true λc r=>if r=true then do let ok <- isTrue c env (eval c env);pure (ForInStep.yield ok) else pure (ForInStep.yield r)) (λok s₃=>if ok=true then wpAny (model prog w) A (eval i5 env) (λx s₄=>wpAny (model prog w) A (call (.builtin "list.append") [fX,x]) (λ_ s₅=> ∃m,m<n /\ I m s₅) (λ_ _=>False) s₄) (λ_ _=>False) s₃ else ∃m,m<n /\ I m s₃) (λ_ _=>False) s₂)
    (λ_ _=>False) s₀) (λ_ _=>False) s₁) (λ_ _=>False) s)(n:Nat)(h:I n s):codeAny (model prog w) A (.compLoop (xy i5 tg iter i0 km cZ ft scope pos) 1 it fX env) R s:=by
 exact codeAny_loop rfl I (λn s hI=> ?_) n h
 change wpAny _ A ((compTurn (xy i5 tg iter i0 km cZ ft scope pos) 1 it fX env).onRaise (λx=>do noteFrame x env;theTreesLotGoes x)) _ _ s
 exact wpAny_noted ?_
 rw[Mr]
 exact az (wpAny_standAt (az (bE (turn n s hI) (λr s₁ h₁=> ?_) λ_ _ h'=>h'.elim)))
 cases r with
 | none=>show a_ h₁
 | some v=>
  exact az (bE h₁ (λ_ s₀ W2=> ?_) λ_ _ h'=>h'.elim);exact az (bE W2 (λ_ s₂ h₂=> ?_) λ_ _ h'=>h'.elim);exact az (bE h₂ (λWh s₃ h₃=> ?_) λ_ _ h'=>h'.elim);cases Wh with
  | false=>show a_ #[rfl,h₃]
  | true=>show az (az (bE h₃ (λx s₄ h₄=>az (bE h₄ (λ_ s₅ h₅=>a_ (a_ #[rfl,h₅])) λ_ _ h'=>h'.elim)) λ_ _ h'=>h'.elim))
theorem Nw (I:Nat ->dz ->Prop)(hs: ∀x,foldedSetIterable cZ env x=pure x)(turn : ∀n s,I n s ->wpAny (model prog w) A (pyNext it) (λr s₁=>match r with
   | none=>R (.ok .next) s₁
   | some v=>wpAny (model prog w) A (letOwnedTupleGo tg it v) (λ_ s₀=>wpAny (model prog w) A (assign tg env v) (λ_ s₂=>
    wpAny (model prog w) A (forIn i0 true λc r=>if r=true then do let ok <- isTrue c env (eval c env);pure (ForInStep.yield ok) else pure (ForInStep.yield r)) (λok s₃=>if ok=true then wpAny (model prog w) A (eval cZ env) (λx s₄=>wpAny (model prog w) A (pyIter x) (λi2 s₅=>codeAny (model prog w) (A.mark none) (.compStart (xy i5 tg iter i0 km cZ ft scope pos) 1 i2 fX env) (λr s₆=>match r with | .ok _=> ∃m,m<n /\ I m s₆ | .error _=>False) s₅) (λ_ _=>False) s₄) (λ_ _=>False) s₃ else ∃m,m<n /\ I m s₃) (λ_ _=>False) s₂)
    (λ_ _=>False) s₀) (λ_ _=>False) s₁) (λ_ _=>False) s)(n:Nat)(h:I n s):codeAny (model prog w) A (.compLoop (xy i5 tg iter i0 km cZ ft scope pos) 0 it fX env) R s:=by
 exact codeAny_loop rfl I (λn s hI=> ?_) n h
 change wpAny _ A ((compTurn (xy i5 tg iter i0 km cZ ft scope pos) 0 it fX env).onRaise (λx=>do noteFrame x env;theTreesLotGoes x)) _ _ s
 exact wpAny_noted ?_
 rw[Ms]
 exact az (wpAny_standAt (az (bE (turn n s hI) (λr s₁ h₁=> ?_) λ_ _ h'=>h'.elim)))
 cases r with
 | none=>show a_ h₁
 | some v=>
  exact az (bE h₁ (λ_ s₀ W2=> ?_) λ_ _ h'=>h'.elim);exact az (bE W2 (λ_ s₂ h₂=> ?_) λ_ _ h'=>h'.elim);exact az (bE h₂ (λWh s₃ h₃=> ?_) λ_ _ h'=>h'.elim);cases Wh with
  | false=>show a_ #[rfl,h₃]
  | true=>
   exact az (bE h₃ (λx s₄ h₄=> ?_) λ_ _ h'=>h'.elim);exact az (wpAny_standAt ?_);rw[hs];exact az (a_ (az (wpAny_holding (bE h₄ (λi2 s₅ h₅=> ?_) λ_ _ h'=>h'.elim))));exact az (wpAny_runOwn ?_);exact codeAny_mono h₅ λr s' z=> ?_;cases r with
   | ok f=>show a_ #[rfl,z]
   | error e=>show z.elim
def Bx {σ:St}{RR:c7 ->fP ->Result ->dz ->Prop}(lV:X.calm=true)(S:cU X own fr N' scope)(hg: ∀s3 H3,PG (bT X N' scope cl fp s3 H3) tg g)(Qg:n1<=own.length)(hw:Keeps (λi=>i<n1) g)(hc: ∀s3 H3,Qx (bT X N' scope cl fp s3 H3) i0 tc)(hi2: ∀s3 H3,PI (bT X N' scope cl fp s3 H3) km cZ HA)(B7: ∀s3 H3,PG (bT X N' scope cl fp s3 H3) km g2)(SQ:Keeps (λi=>n1<=i /\ i<own.length) g2)(GP: ∀s3 H3,Qx (bT X N' scope cl fp s3 H3) ft DO)(he: ∀s3 H3,PE (bT X N' scope cl fp s3 H3) i5 te)(E2: ∀s3 H3 x,foldedSetIterable cZ (bT X N' scope cl fp s3 H3).env x=pure x)(k9: ∀x c,cl.lookup x=some c ->X.env.cells.lookup x=some c)(wJ: ∀y∈scope.names,y.2= .free ->(cl.lookup y.1).isSome=true)(I:Inv X ah σ H s)(T:zF X.prog X.w X.K tg J fp it tn)(st:tn 0 s.heap)(A7: ∀b∈fp,lf X ah H b)(h: ∀p,H p=none ->KZ J own.length fr g tc HA g2 DO te σ p H Q)(fin: ∀ (s3:dz) (H3:Hp),Inv X ah σ H3 s3 ->(∀b∈fp,lf X ah H3 b) -> ∀ (D:fP) (σ':St) (H':Hp) (s':dz) (t:Nat),D<s3.heap.objs.size ->Inv (bT X N' scope cl fp s3 H3) [] σ' H' s' ->Q (.ref D) H' ->RR (.ref D) s3.heap.objs.size (.ok .next) s'): wpAny (model X.prog X.w) X.A (newList []) (λfX s₃=>wpAny (model X.prog X.w) X.A (newFunctionEnv scope X.env.globals cl [] X.env.qual none .none (some X.env)) (λK1 s₄=>codeAny (model X.prog X.w) X.A (.compStart (xy i5 tg iter i0 km cZ ft scope pos) 0 (.ref it) fX {K1 with scope:=relabel scope X.env}) (RR fX K1.locals) s₄) E s₃) E s:=by
 exact wpAny_newObj_type ?_;have hf:H s.heap.objs.size=none:=I.cN.fresh (aq _);let⟨W,⟨m0,w0⟩,turn⟩:=h _ hf;generalize e3:({s with heap:=s.heap.push {cls:= .type "list",dict:=none,data:= .seq ([]:cA c7).toArray}}:dz)=s3;have Rb:s3.heap.objs.size=s.heap.objs.size+1:=by rw[<- e3];show Heap.size_push ..
 have _U: ∀b o,s.heap.get? b=some o ->s3.heap.get? b=some o:=λb o e=>by rw[<- e3];show av _ e
 have I3:Inv X ah σ (cK H s.heap.objs.size (.lst [])) s3:=by rw[<- e3];show I.laid (t':=s.toks) (λb u e=>av _ e) (aq _) #[de _,[],0, .nil,a4 _ rfl]
 have Tj: ∀b∈fp,b<s.heap.objs.size:=λb hb=>by let⟨o,e,_⟩:=T.obj 0 _ st b hb;show aR e
 have C3: ∀b∈fp,lf X ah (cK H s.heap.objs.size (.lst [])) b:=λb hb=>#[by rw[bN (bA (Tj b hb))];show(A7 b hb).1,(A7 b hb).2]
 exact wpAny_newFunctionEnv S.u9 (by intro y hy;simp at hy) (λh₁ S0 SU=> ?_) S.kind;have old: ∀b o,s3.heap.get? b=some o ->h₁.get? b=some o:=λb o e=>SU.extBut b o (bA (aR e)) (av _ e);have Ic:=AZ (t:=s3.toks+([]:cA (Str×c7)).length) S I3 k9 wJ C3 (λb hb=>by rw[Rb];show Nat.lt_succ_of_lt (Tj b hb)) S0 old;have FT:tn 0 h₁:=T.keep 0 _ _ st λb hb o e=>old b o (_U b o e);have uH: ∀ {H':Hp},(∀b∈fp,H' b=none) -> ∀b∈fp,lf (bT X N' scope cl fp s3 (cK H s.heap.objs.size (.lst []))) [] H' b:=λhn b hb=>by exact#[hn b hb,?_,?_, .inl hb,λx c e=>(A7 b hb).2.2.2.2.1 x c (k9 x c e),λp hp=>absurd (show p∈([]:cA (fP×Obj)) from hp) (by simp)];change b≠s3.heap.objs.size;rw[Rb];show bA (Nat.lt_succ_of_lt (Tj b hb));show Ic.ok.C8 b hb
 have loop : codeAny (model X.prog X.w) X.A (.compLoop (xy i5 tg iter i0 km cZ ft scope pos) 0 (.ref it) (.ref s.heap.objs.size) (compEnvC scope cl s3.heap.objs.size X.env)) (RR (.ref s.heap.objs.size) s3.heap.objs.size) {s3 with heap:=h₁,toks:=s3.toks+([]:cA (Str×c7)).length}:=by
  exact Nw (λn s'=>eQ λi ys H'=>fj (Inv (bT X N' scope cl fp s3 (cK H s.heap.objs.size (.lst []))) [] (k_ own.length fr σ) H' s') (tn i s'.heap) (∀b∈fp,H' b=none) (W i n ys H')) (E2 s3 H) ?_ m0 #[0,[],_,Ic,FT,λb hb=>(C3 b hb).1,w0];rintro n s4 ⟨i,ys,H4,I4,fU,XA,w4⟩;let⟨C4,alt⟩:=turn i n ys H4 w4;rcases alt with⟨stop,q⟩ | ⟨go,step⟩
  .exact cV (T.done (bT X N' scope cl fp s3 (cK H s.heap.objs.size (.lst []))) rfl rfl rfl lV i [] s4 _ H4 (λ_ _=>False) I4 (uH XA) fU stop) λr s5 ⟨hr,I5⟩=> ?_;subst hr;show fin s3 _ I3 C3 _ _ H4 s5 s5.toks (by rw[Rb];show Nat.lt_succ_self _) I5 q
  exact cV (T.item (bT X N' scope cl fp s3 (cK H s.heap.objs.size (.lst []))) rfl rfl rfl lV i [] s4 _ H4 (λ_ _=>False) I4 (uH XA) fU go) λr s5 ⟨u,hr,h5⟩=> ?_;subst hr;exact cV h5 λ_ s6 ⟨x,H6,I6,r6,y6,Rh,fr6⟩=> ?_;have I6':=I6.pinned (uH fr6) (T.obj _ _ Rh);have Y0:=hw _ x H6 _ (step x H6 y6);exact cV (hg s3 _ _ s6 _ H6 x u _ I6' r6 Y0) λ_ s7 ⟨σ7,H7,I7,wk,q7⟩=> ?_;have wk1: ∀ (j:Nat) v,(k_ own.length fr σ)[j]? =some (some v) ->σ7[j]? =some (some v):=λj v e=>by rw[wk.2 j (by have:=Fy e;lia)];show e
  have wk2: ∀j,n1<=j ->j<own.length -> ∀v,σ7[j]? ≠some (some v):=λj h1 h2 v e=>by rw[wk.2 j ∅] at e;have:=Fy e;lia
  have again: ∀ {σ9:St} {H9:Hp} {s9:dz} {QA:cA V},σ9.length=σ7.length ->(∀ (j:Nat) v,σ7[j]? =some (some v) ->σ9[j]? =some (some v)) ->Inv (bT X N' scope cl fp s3 (cK H s.heap.objs.size (.lst []))) ([]++iM fp s6.heap) σ9 H9 s9 ->(∃m',m'<n /\ W (i+1) m' QA H9) ->∃m,m<n /\ eQ λi ys H'=>fj (Inv (bT X N' scope cl fp s3 (cK H s.heap.objs.size (.lst []))) [] (k_ own.length fr σ) H' s9) (tn i s9.heap) (∀b∈fp,H' b=none) (W i m ys H'):=λ{σ9 H9 s9 QA} hl9 hv9 I9 ⟨m',hm,w9⟩=>by exact#[m',hm,i+1,QA,H9,(I9.jw).weak ?_ λj v e=>hv9 j v (wk1 j v e),T.keep _ _ _ Rh λb hb o e=>(I9.pin (b,o) (aY _ (aY _ (fo hb e)))).1,λb hb=> ?_,w9];rw[hl9,wk.1];let⟨o,e,d⟩:=T.obj _ _ Rh b hb;show(I9.pin (b,o) (aY _ (aY _ (fo hb e)))).2.1
  exact cV (hc s3 _ _ s7 σ7 H7 _ I7 q7) λok s8 ⟨H8,I8,q8⟩=> ?_;cases ok with
  | false=>simp![aC,bC] at q8 ⊢;let⟨zs,q8⟩:=q8;show again rfl (λ_ _ e=>e) I8 q8
  | true =>
   simp![b0] at q8 ⊢;exact cV (hi2 s3 _ _ s8 σ7 H8 _ I8 q8) λv2 s9 h9=>cV h9 λWU Rr h10=> ?_;let⟨EY,XC,tn2,J2,UH,e10,I10,T2,VG,f10,Z,⟨mz,z0,SN⟩,Vf⟩:=h10;subst e10;have Iq: ∀ {H':Hp},(∀b∈XC,H' b=none) -> ∀b∈XC,lf (bT X N' scope cl fp s3 (cK H s.heap.objs.size (.lst []))) ([]++iM fp s6.heap) H' b:=λhn b hb=>#[hn b hb,(f10 b hb).2]
   have PL:codeAny (model X.prog X.w) X.A (.compLoop (xy i5 tg iter i0 km cZ ft scope pos) 1 (.ref EY) (.ref s.heap.objs.size) (compEnvC scope cl s3.heap.objs.size X.env)) (λr s₆=>match r with
   | .ok _=> ∃m,m<n /\ eQ λi ys H'=>fj (Inv (bT X N' scope cl fp s3 (cK H s.heap.objs.size (.lst []))) [] (k_ own.length fr σ) H' s₆) (tn i s₆.heap) (∀b∈fp,H' b=none) (W i m ys H')
   | .error _=>False) Rr:=by
    exact Nv (λk s'=>eQ λj zs H'=>fj (Inv (bT X N' scope cl fp s3 (cK H s.heap.objs.size (.lst []))) ([]++iM fp s6.heap) σ7 H' s') (tn2 j s'.heap) (∀b∈XC,H' b=none) (Z j k zs H')) ?_ mz #[0,z0,UH,I10,VG,λb hb=>(f10 b hb).1,SN]
    rintro k s11 ⟨j,zs,H11,I11,VF,XB,z11⟩
    let⟨ai4,ahH⟩:=Vf j k zs H11 z11
    rcases ahH with⟨VD,qN⟩ | ⟨go2,hsz2,VE⟩
    exact cV (T2.done (bT X N' scope cl fp s3 (cK H s.heap.objs.size (.lst []))) rfl rfl rfl lV j _ s11 _ H11 (λ_ _=>False) I11 (Iq XB) VF VD) λr LK ⟨hr,I12⟩=> ?_
    subst hr
    show again rfl (λ_ _ e=>e) I12 qN
    exact cV (T2.item (bT X N' scope cl fp s3 (cK H s.heap.objs.size (.lst []))) rfl rfl rfl lV j _ s11 _ H11 (λ_ _=>False) I11 (Iq XB) VF go2) λr LK ⟨u2,hr,h12⟩=> ?_
    subst hr
    exact cV h12 λ_ s13 ⟨x2,H13,I13,r13,y13,Ri,ahy⟩=> ?_
    have ahK:=I13.pinned (Iq ahy) (T2.obj _ _ Ri)
    have aab:=SQ _ x2 H13 _ (VE x2 H13 y13)
    exact cV (B7 s3 _ _ s13 _ H13 x2 u2 _ ahK r13 aab) λ_ s14 ⟨σ14,H14,I14,UN,q14⟩=> ?_
    have Qv: ∀ {H9:Hp} {s9:dz} {ws:cA V},Inv (bT X N' scope cl fp s3 (cK H s.heap.objs.size (.lst []))) (([]++iM fp s6.heap)++iM XC s13.heap) σ14 H9 s9 ->(∃k',k'<k /\ Z (j+1) k' ws H9) ->∃m,m<k /\ eQ λj zs H'=>fj (Inv (bT X N' scope cl fp s3 (cK H s.heap.objs.size (.lst []))) ([]++iM fp s6.heap) σ7 H' s9) (tn2 j s9.heap) (∀b∈XC,H' b=none) (Z j m zs H'):=λ{H9 s9 ws} I9 ⟨k',B6,z9⟩=>by exact#[k',B6,j+1,ws,H9,(I9.jw).weak UN.1.symm λa v e=> ?_,T2.keep _ _ _ Ri λb hb o e=>(I9.pin (b,o) (aY _ (aY _ (fo hb e)))).1,λb hb=> ?_,z9];rw[UN.2 a λhS=>wk2 a hS.1 hS.2 v e];show e;let⟨o,e,d⟩:=T2.obj _ _ Ri b hb;show(I9.pin (b,o) (aY _ (aY _ (fo hb e)))).2.1
    exact cV (GP s3 _ _ s14 σ14 H14 _ I14 q14) λok2 s15 ⟨H15,I15,Ue⟩=> ?_
    cases ok2 with
    | false=>simp![aC,bC] at Ue ⊢;let⟨ws,Ue⟩:=Ue;show Qv I15 Ue
    | true=>simp![b0] at Ue ⊢;exact cV (he s3 _ _ s15 σ14 H15 _ I15 Ue) λy s16 ⟨yv,H16,I16,ry,ws,aa8,aa5,q16⟩=> ?_;exact cV (c9 _ s16 σ14 H16 (.ref s.heap.objs.size) [yv] (.ref s.heap.objs.size) [y] (λv H'=>H'=cK H16 s.heap.objs.size (.lst (ws++ [yv]))) I16 rfl (.cons ry .nil) #[_,ws,yv,rfl,rfl,aa8,aa5,rfl]) λv s17 ⟨_,H17,I17,_,e17⟩=> ?_;subst e17;show Qv I17 q16
   change codeAny _ X.A _ _ Rr;show Ir PL (T2.self _ 0 _ _ _ VG PL)
 show codeAny_compStart_list loop (T.self _ 0 _ _ _ FT loop)
def rN {pos VH lJ:Pos}(lV:X.calm=true)(hN:X.N.Nodup)(hx:X.N[i]? =some x)(hl:Loc X.env.scope x)(S:cU X own fr N' scope)(hi:PI X tg iter wi)(hg: ∀cl fp s3 H3,PG (bT X N' scope cl fp s3 H3) tg g)(Qg:n1<=own.length)(hw:Keeps (λi=>i<n1) g)(hc: ∀cl fp s3 H3,Qx (bT X N' scope cl fp s3 H3) i0 tc)(hi2: ∀cl fp s3 H3,PI (bT X N' scope cl fp s3 H3) km cZ HA)(B7: ∀cl fp s3 H3,PG (bT X N' scope cl fp s3 H3) km g2)(SQ:Keeps (λi=>n1<=i /\ i<own.length) g2)(GP: ∀cl fp s3 H3,Qx (bT X N' scope cl fp s3 H3) ft DO)(he: ∀cl fp s3 H3,PE (bT X N' scope cl fp s3 H3) i5 te)(hsw:swapsWith (.ListComp i5 [#[tg,iter,i0,0],#[km,cZ,ft,0]] scope pos) (some (.Name x lJ)) VH.line X.env=pure true)(hs: ∀x,foldedSetIterable iter X.env x=pure x:=by intro _;rfl)(E2: ∀cl fp s3 H3 x,foldedSetIterable cZ (bT X N' scope cl fp s3 H3).env x=pure x:=by intro _ _ _ _ _;rfl)(hf:X.fn x=true \/ X.env.scope.names.lookup x=some .local:=by first | show .inl rfl | show .inr rfl | assumption): PS X (.Assign [.Name x lJ] (.ListComp i5 [#[tg,iter,i0,0],#[km,cZ,ft,0]] scope pos) VH) (Io (Im wi own.length fr g tc HA g2 DO te) (lW i)):=by
 intro ah s σ H D I h;let⟨cl,Km,k9,wJ⟩:=vQ (I.ok.cellsOf S);rw[exec_Assign_Name_used _ _ _ _ hsw];exact az (wpAny_standAt (az ?_));change wpAny _ X.A (do let _ <- comprehension (xy i5 tg iter i0 km cZ ft scope pos) scope X.env _ (newList []) false (eval iter X.env) (some (assign (.Name x lJ) X.env))) _ _ s;exact az (cV (wpAny_comprehension_free (use:=some (assign (.Name x lJ) X.env)) (Q:=λ_ s'=>SP X ah D .next s') rfl hs Km S.kind S.loc (cV (hi ah s σ H _ I h) λv s1 h1=>cV h1 λWU s2 h2=> ?_)) λ_ s' hq=>a_ (a_ hq));let⟨it,fp,tn,J,H2,e,I2,T,oB,f2,h2⟩:=h2;subst e;exact Bx (RR:=λfX C=>compPost (model X.prog X.w) X.A X.xe (some (assign (.Name x lJ) X.env)) (λ_ s'=>SP X ah D .next s') fX C) lV S (hg cl fp) Qg hw (hc cl fp) (hi2 cl fp) (B7 cl fp) SQ (GP cl fp) (he cl fp) (E2 cl fp) k9 wJ I2 T oB f2 h2 ?_;intro s3 H3 I3 f3 Da σ' H' s' t hD Ic q;let⟨m,hn,_⟩:=Ic.loc;have I5:=xZ I3 f3 Ic;change wpAny _ X.A (assign (.Name x lJ) X.env (.ref Da)) _ _ s';exact wpAny_assign_Name (xi I5 hN hx hl (show RelV (.ref Da) (.ref Da) from rfl) (λs6 I6 W'=> ?_) hf);let⟨a,sb,ha⟩:=W';have lT:s3.heap.objs.size≠a:=by obtain rfl | ha:=ha;show Nat.ne_of_gt I3.lt;let⟨v,z⟩:=I3.cell x a ha;show Nat.ne_of_gt z.lt
 exact#[m,hn.sameBut sb lT,λh' aa6=>#[_,H',xY I3 rfl I6 Ic.free aa6,q]]
end L2
namespace WL
open PySem L2
section
variable {K:WV}
def WZ (DD:cA W)(kJ:Mp ->Prop)(g2:WG)(c2:WT)(el:WE)(ρ2:cc)(p:fP)(ys:cA W)(M4:Mp)(N:cA W ->Mp ->Prop):Prop:=∃I2:Nat ->cA W ->Mp ->Prop,fj (I2 0 ys M4) (∀j zs M,j<=DD.length ->I2 j zs M ->kJ M /\ M p=some (.lst zs) /\ zs.length<sizeLine) (∀j y zs M,DD[j]? =some y ->I2 j zs M ->g2 y ρ2 M λρ3 M5=>c2 ρ3 M5 λb M6=>if b=true then el ρ3 M6 λz M7=>M7 p=some (.lst zs) /\ I2 (j+1) (zs++ [z]) (um M7 p (.lst (zs++ [z]))) else I2 (j+1) zs M6) (∀zs M,I2 DD.length zs M ->N zs M)
def Df (xs:cA W)(keep:Mp ->Prop)(own:Nat)(fr:cA Nat)(g:WG)(c:WT)(EY:WI)(g2:WG)(c2:WT)(el:WE)(ρ:cc)(M1:Mp)(q:WK):Prop:= ∀p,M1 p=none -> ∃I:Nat ->cA W ->Mp ->Prop,fj (I 0 [] (um M1 p (.lst []))) (∀i ys M,i<=xs.length ->I i ys M ->keep M /\ M p=some (.lst ys)) (∀i x ys M,xs[i]? =some x ->I i ys M ->g x (og own fr ρ) M λρ2 M2=>c ρ2 M2 λb M3=>if b=true then EY ρ2 M3 λDD kJ M4=>WZ DD kJ g2 c2 el ρ2 p ys M4 (I (i+1)) else I (i+1) ys M3) (∀ys M,I xs.length ys M ->q (wr p) M)
def HM (it:WI)(own:Nat)(fr:cA Nat)(g:WG)(c:WT)(EY:WI)(g2:WG)(c2:WT)(el:WE):WE:=λρ M q=>it ρ M λxs keep M1=>Df xs keep own fr g c EY g2 c2 el ρ M1 q
theorem U8:HM it own fr g c EY g2 c2 el ρ M q=it ρ M λxs keep M1=>Df xs keep own fr g c EY g2 c2 el ρ M1 q:=rfl
instance {ti:TI}{own:Nat}{fr:cA Nat}{g:TG}{tc:TT}{ti2:TI}{g2:TG}{DO:TT}{te:TE}{it:WI}{w:WG}{c:WT}{EY:WI}{w2:WG}{c2:WT}{el:WE} [ii:II K ti it] [ig:IG K g w] [ic:IT K tc c] [ii2:II K ti2 EY] [ig2:IG K g2 w2] [ic2:IT K DO c2] [ie:IE K te el]: IE K (Im ti own fr g tc ti2 g2 DO te) (HM it own fr w c EY w2 c2 el) where
 imp := λρ M σ H q Q o h k=>ii.imp ρ M σ H _ _ o h λxs keep J M1 H1 h1 t1 m1 ok=>by
  intro p hp;let⟨I,h0,hk,hs,hd⟩:=h1 p (m1.fresh hp);have tp:=L2.ge.ts (b_ (o:= .lst []) hp);exact#[λi m vs H'=>m=xs.length - i /\ i<=xs.length /\ cg λys M'=>gm (I i ys M') (a8 H1 H') (gi K M' H') (cI K H' ys vs) (H' p=some (.lst vs)),#[_,rfl,de _,[],_,h0,tp,m1.k8 hp cI.nil,cI.nil,bU],?_];rintro i m vs H' ⟨rfl,hi,ys,M',hI,ts,m',rv,hv⟩;exact#[hv,?_];let⟨kp,hMp⟩:=hk i ys M' hi hI;let⟨k1,k2,k3⟩:=ok i M' H' ts m' kp;by_cases m8:i<xs.length;exact .inr #[k2 m8,λv H2 y=> ?_];let⟨ty,my,x,hx,r⟩:=k3 v H2 m8 y;replace ts:=ts.trans ty;have oc:Ok K (og own fr ρ) M' (k_ own fr σ) H2:=#[(o.env.ts (t1.trans ts)).UC own fr,my]
  exact ig.imp x v _ M' _ H2 _ _ oc r (hs i x ys M' hx hI) λρ3 M3 σ3 H3 h3 t3 o3=>ic.imp ρ3 M3 σ3 H3 _ _ o3 h3 λb M4 H4 h4 t4 m4=> ?_;cases b with
  | true=>
   simp![b0] at h4 ⊢;exact ii2.imp ρ3 M4 σ3 H4 _ _ (o3.mv t4 m4) h4 λDD kJ J2 M5 H5 h5 t5 m5 ok2=> ?_;let⟨I2,h20,Xk,E2,hd2⟩:=h5;have tt5:=ts.trans ((t3.trans t4).trans t5);have at5: ∀ {M6:Mp} {H6:Hp} {zs:cA W},M6 p=some (.lst zs) ->gi K M6 H6 -> ∃vs,H6 p=some (.lst vs) /\ cI K H6 zs vs:=λh m=>by let⟨vs,hv,rr⟩:=m p _ h;show#[vs,hv,rr]
   let⟨O1,NL,MB⟩:=at5 (Xk 0 ys M5 (de _) h20).2.1 m5;exact#[λj m vs H'=>m=DD.length - j /\ j<=DD.length /\ cg λzs M'=>gm (I2 j zs M') (a8 H5 H') (gi K M' H') (cI K H' zs vs) (H' p=some (.lst vs)),#[_,O1,rfl,de _,ys,M5,h20,a8.refl _,m5,MB,NL],?_];rintro j m2 vs6 H6 ⟨rfl,hj,zs,M6,hI2,Vg,m6,rv6,hv6⟩;exact#[hv6,?_];let⟨kp2,ai6,Zu⟩:=Xk j zs M6 hj hI2;let⟨a1,a2,a3⟩:=ok2 j M6 H6 Vg m6 kp2;by_cases Kf:j<DD.length;exact .inr #[a2 Kf,by rw[rv6.length];show Zu,λu7 H7 y7=> ?_];let⟨_V,my7,x7,hx7,r7⟩:=a3 u7 H7 Kf y7;have o7:Ok K ρ3 M6 σ3 H7:=#[o3.env.ts ((t4.trans t5).trans (Vg.trans _V)),my7]
   exact ig2.imp x7 u7 ρ3 M6 σ3 H7 _ _ o7 r7 (E2 j x7 zs M6 hx7 hI2) λρ8 M8 σ8 H8 h8 t8 o8=>ic2.imp ρ8 M8 σ8 H8 _ _ o8 h8 λb9 M9 H9 h9 t9 m9=> ?_;cases b9 with
   | true=>simp![b0] at h9 ⊢;exact ie.imp ρ8 M9 σ8 H9 _ _ (o8.mv t9 m9) h9 λz M10 u UH ⟨h10,h11⟩ t10 m10 r10=> ?_;let⟨Mn,Kb,IJ⟩:=m10 p _ h10;have t11:=iB (u:= .lst (Mn++ [u])) Kb;exact#[Mn,Kb,by rw[IJ.length];show Zu,_,?_,rfl,Kf,_,_,h11,((((Vg.trans _V).trans t8).trans t9).trans t10).trans t11,m10.putL Kb (IJ.snoc r10),(IJ.snoc r10).ts t11,bU];lia
   | false=>simp![aC,bC] at h9 ⊢;let⟨Mn,Kb,IJ⟩:=at5 (Xk (j+1) zs M9 Kf h9).2.1 m9;exact#[Mn,_,?_,rfl,Kf,_,_,h9,((Vg.trans _V).trans t8).trans t9,m9,IJ,Kb];lia
   have e':j=DD.length:= ∅;subst e';exact .inl #[a1 rfl,_,?_,rfl,m8,zs,M6,hd2 zs M6 hI2,tt5.trans Vg,m6,rv6,hv6];lia
  | false=>simp![aC,bC] at h4 ⊢;let⟨O1,NL,MB⟩:=m4 p _ (hk (i+1) ys M4 m8 h4).2;exact#[O1,_,?_,rfl,m8,_,_,h4,ts.trans (t3.trans t4),m4,MB,NL];lia
  have e':i=xs.length:= ∅;subst e';show .inl #[k1 rfl,k _ M' _ H' (hd ys M' hI) (t1.trans ts) m' WR.v]
def qK {α:Type}{f:α ->W}{l:cA α}{i:Nat}(h:(l.map f)[i]? =some x): ∃a,l[i]? =some a /\ x=f a:=by
 rw[aI] at h;cases e:l[i]? with
 | none=>rw[e] at h;cases h
 | some a=>rw[e] at h;cases h;show#[a,rfl,rfl]
def G0 {α β:Type}{l:cA α}{fW:α ->W}(cM:α ->cA β)(gW:β ->W)(eW:α ->β ->W){M1:Mp}(hz:(l.map λa=>(cM a).length).sum<sizeLine)(lU: ∀M,Sm M1 M ->keep M)(hs: ∀a∈l, ∀M,Sm M1 M -> ∀ (B:cc ->cA W ->(Mp ->Prop) ->Mp ->Prop) (N0:Mp ->Prop),(∀ρ2 kJ,(∀M',Sm M1 M' ->kJ M') ->(∀b∈cM a, ∀M',Sm M1 M' -> ∀N:e9 W ->Mp ->Prop,N (some (eW a b)) M' ->g2 (gW b) ρ2 M' λρ3 M5=>c2 ρ3 M5 λb M6=>gy b (el ρ3 M6 λz M7=>N (some z) M7) (N none M6)) ->B ρ2 ((cM a).map gW) kJ M) ->g (fW a) (og own fr ρ) M λρ2 M2=>c ρ2 M2 λb M3=>gy b (EY ρ2 M3 λDD kJ M4=>B ρ2 DD kJ M4) (N0 M3))(hq: ∀p,M1 p=none ->q (wr p) (um M1 p (.lst (l.map λa=>(cM a).map (eW a)).flatten))): Df (l.map fW) keep own fr g c EY g2 c2 el ρ M1 q:=by
 intro p hp;have dJ: ∀k:cA α,(k.map λa=>(cM a).map (eW a)).flatten.length=(k.map λa=>(cM a).length).sum:=λk=>by rw[List.length_flatten,aZ];congr 1;apply dB;intro a _;simp
 have W8: ∀i:Nat,((l.take i).map λa=>(cM a).length).sum<=(l.map λa=>(cM a).length).sum:=λi=>by
  have e:(l.map λa=>(cM a).length)=((l.take i).map λa=>(cM a).length)++((l.drop i).map λa=>(cM a).length):=by rw[<- aA,bG]
  rw[e,List.sum_append];lia
 exact#[λi ys M=>M=um M1 p (.lst ys) /\ ys=((l.take i).map λa=>(cM a).map (eW a)).flatten,#[rfl,by simp],?_,?_,?_];rintro i ys M hi ⟨rfl,rfl⟩;show#[lU _ (a5 hp),am];rintro i x ys M hx ⟨rfl,rfl⟩;let⟨a,ha,rfl⟩:=qK hx;have e:l.take (i+1)=l.take i++ [a]:=by rw[cD,ha];rfl
 have eF:((l.take (i+1)).map λa=>(cM a).map (eW a)).flatten=((l.take i).map λa=>(cM a).map (eW a)).flatten++(cM a).map (eW a):=by rw[e,aA,List.flatten_append];simp
 have eS:((l.take (i+1)).map λa=>(cM a).length).sum=((l.take i).map λa=>(cM a).length).sum+(cM a).length:=by rw[e,aA,List.sum_append];simp
 exact hs a (aV ha) _ (a5 hp) (λρ2 DD kJ M4=>WZ DD kJ g2 c2 el ρ2 p ((l.take i).map λa=>(cM a).map (eW a)).flatten M4 λys M=>M=um M1 p (.lst ys) /\ ys=((l.take (i+1)).map λa=>(cM a).map (eW a)).flatten) (λM=>M=um M1 p (.lst ((l.take i).map λa=>(cM a).map (eW a)).flatten) /\ ((l.take i).map λa=>(cM a).map (eW a)).flatten=((l.take (i+1)).map λa=>(cM a).map (eW a)).flatten) ?_;intro ρ2 kJ Xk E2;exact#[λj zs M=>M=um M1 p (.lst zs) /\ zs=((l.take i).map λa=>(cM a).map (eW a)).flatten++((cM a).take j).map (eW a),#[rfl,by simp],?_,?_,?_];rintro j zs M hj ⟨rfl,rfl⟩;exact#[Xk _ (a5 hp),am,?_];rw[aD,dJ,af,bP];have b3:=W8 (i+1);rw[eS] at b3;lia;rintro j y zs M hy ⟨rfl,rfl⟩;let⟨b,hb,rfl⟩:=qK hy;have e2:(cM a).take (j+1)=(cM a).take j++ [b]:=by rw[cD,hb];rfl
 exact E2 b (aV hb) _ (a5 hp) (λo M4=>match o with
 | some z=>M4 p=some (.lst (((l.take i).map λa=>(cM a).map (eW a)).flatten++((cM a).take j).map (eW a))) /\ (um M4 p (.lst (((l.take i).map λa=>(cM a).map (eW a)).flatten++((cM a).take j).map (eW a)++ [z]))=um M1 p (.lst (((l.take i).map λa=>(cM a).map (eW a)).flatten++((cM a).take j).map (eW a)++ [z])) /\ ((l.take i).map λa=>(cM a).map (eW a)).flatten++((cM a).take j).map (eW a)++ [z]=((l.take i).map λa=>(cM a).map (eW a)).flatten++((cM a).take (j+1)).map (eW a))
 | none=>M4=um M1 p (.lst (((l.take i).map λa=>(cM a).map (eW a)).flatten++((cM a).take j).map (eW a))) /\ ((l.take i).map λa=>(cM a).map (eW a)).flatten++((cM a).take j).map (eW a)=((l.take i).map λa=>(cM a).map (eW a)).flatten++((cM a).take (j+1)).map (eW a)) ?_
 show#[am,kl,by rw[e2,aA];simp];rintro zs M ⟨rfl,rfl⟩;show#[rfl,by rw[eF,af,cP]];rintro ys M ⟨rfl,rfl⟩;rw[af,cP];show hq p hp
def vP {α:Type}{l:cA α}{fW:α ->W}(pr:α ->Bool)(eW:α ->W){M1:Mp}(hz:l.length<=sizeLine)(lU: ∀M,Sm M1 M ->keep M)(hs: ∀a∈l, ∀ (M:Mp) (N:e9 W ->Mp ->Prop),Sm M1 M ->N (if pr a=true then some (eW a) else none) M ->g (fW a) (og own fr ρ) M λρ2 M2=>c ρ2 M2 λb M3=>gy b (el ρ2 M3 λy M4=>N (some y) M4) (N none M3))(hq: ∀p,M1 p=none ->q (wr p) (um M1 p (.lst ((l.filter pr).map eW)))):sI (l.map fW) keep own fr g c el ρ M1 q:=by
 exact#[by rw[af];show hz,λp hp=>#[λi ys M=>M=um M1 p (.lst ys) /\ ys=((l.take i).filter pr).map eW,#[rfl,by simp],?_,?_,?_]];rintro i ys M hi ⟨rfl,rfl⟩;exact#[lU _ (a5 hp),am,?_];rw[af];exact ar (List.length_filter_le _ _) ?_;rw[bP];lia;rintro i x ys M hx ⟨rfl,rfl⟩;let⟨a,ha,rfl⟩:=qK hx;have e:l.take (i+1)=l.take i++ [a]:=by rw[cD,ha];rfl
 exact hs a (aV ha) _ (λo M4=>match o with
 | some y=>M4 p=some (.lst (((l.take i).filter pr).map eW)) /\ (um M4 p (.lst (((l.take i).filter pr).map eW++ [y]))=um M1 p (.lst (((l.take i).filter pr).map eW++ [y])) /\ ((l.take i).filter pr).map eW++ [y]=((l.take (i+1)).filter pr).map eW)
 | none=>M4=um M1 p (.lst (((l.take i).filter pr).map eW)) /\ ((l.take i).filter pr).map eW=((l.take (i+1)).filter pr).map eW) (a5 hp) ?_
 cases hf:pr a with
 | false=>rw[ak (by simp)];show#[rfl,by rw[e,List.filter_append];simp[hf]]
 | true=>rw[ao rfl];show#[am,kl,by rw[e,List.filter_append];simp[hf]]
 rintro ys M ⟨rfl,rfl⟩;rw[af,cP];show hq p hp
def e8 {α:Type}{l:cA α}{fW:α ->W}(eW:α ->W){M1:Mp}(hz:l.length<=sizeLine)(lU: ∀M,Sm M1 M ->keep M)(hs: ∀a∈l, ∀ (M:Mp) (N:e9 W ->Mp ->Prop),Sm M1 M ->N (some (eW a)) M ->g (fW a) (og own fr ρ) M λρ2 M2=>c ρ2 M2 λb M3=>gy b (el ρ2 M3 λy M4=>N (some y) M4) (N none M3))(hq: ∀p,M1 p=none ->q (wr p) (um M1 p (.lst (l.map eW)))):sI (l.map fW) keep own fr g c el ρ M1 q:=by exact vP (λ_=>true) eW hz lU (λa ha M N s h=>hs a ha M N s ⇑h) λp hp=> ?_;have e:l.filter (λ_=>true)=l:=List.filter_eq_self.mpr λ_ _=>rfl;rw[e];show hq p hp
end
def Jn:fe:=λ_ _ _=>False
theorem Ko:bD P w K mg base CX k f fd ps (fK K Jn):=#[λvs H Q E ⟨_,_,_,_,_,h,_⟩=>h.elim,λA outer s H args us vs Q E hr=>by
 intros;rename_i h;first
 | (let⟨_,_,_,_,_,h,_⟩:=h;show h.elim)]
end WL
namespace WQ
open PySem L2 WL WP
def fZ (f:Int ->Int)(e:Int):Nat ->Int ->Int
 | 0,_=>0
 | n+1,x=>fZ f e n x+f (x - e*n)
def nP (f:Int ->Int)(e:Int):Nat ->Int ->Int
 | 0,_=>0
 | n+1,x=>nP f e n x - f (x+e*(n+1:Nat))
def lv (f:Int ->Int)(e n x:Int):Int:=if n<0 then nP f e (-n).toNat x else fZ f e n.toNat x
def xh (f:Int ->Int)(e n x:Int):lv f e (n+1) x=lv f e n x+f (x - e*n):=by
 unfold lv;by_cases h:n<0;rw[ao h];let⟨m,hm⟩: ∃m:Nat,(-n).toNat=m+1:=#[(-n).toNat - 1, ∅]
 have en:n= -((m:Int)+1):= ∅;have ex:x - e*n=x+e*((m+1:Nat):Int):=by rw[en,Int.mul_neg];push_cast;lia
 rw[hm,nP,ex];by_cases h1:n+1<0;rw[ao h1,show(-(n+1)).toNat=m by lia];lia;rw[ak h1,show(n+1).toNat=0 by lia];have:m=0:= ∅;subst this;simp![fZ,nP];lia;rw[ak h,ak ∅,show(n+1).toNat=n.toNat+1 by lia,fZ];have:((n.toNat:Nat):Int)=n:= ∅;rw[this]
theorem FR (f:Int ->Int)(e:Int): ∀ (n:Nat) (x:Int),lv f e n x+lv f e (-n) (x - e*n)=0
 | 0,x=>rfl
 | n + 1,x=>by
  have ih:=FR f e n x;have h1:=xh f e n x;have h2:=xh f e (-(n+1:Nat)) (x - e*(n+1:Nat));have e1:(-((n+1:Nat):Int))+1= -(n:Int):= ∅;rw[e1] at h2;have e2:(((n+1:Nat)):Int)=(n:Int)+1:= ∅;rw[e2] at h2 ⊢;have e3:x - e*((n:Int)+1) - e* -((n:Int)+1)=x:=by rw[Int.mul_neg];lia
  rw[e3] at h2;have sh: ∀ (m:Nat) (z:Int),nP f e m (z - e)=nP f e m z - f z+f (z+e*m):=by
   intro m;induction m with
   | zero=>intro z;simp![nP];rw[Int.ofNat_zero,Int.mul_zero,Int.add_zero];lia
   | succ m ihm=>
    intro z;have a1:z - e+e*((m+1:Nat):Int)=z+e*m:=by
     push_cast;rw[Int.mul_add,Int.mul_one];lia
    rw[nP,ihm,nP,a1];lia
  have hs:=sh (n+1) (x - e*n);have E2:lv f e (-((n:Int)+1)) (x - e*((n:Int)+1))=nP f e (n+1) (x - e*n - e):=by unfold lv;rw[ao ∅,show(- -((n:Int)+1)).toNat=n+1 by lia];congr 1;rw[Int.mul_add,Int.mul_one];lia
  have hs3:lv f e (-(n:Int)) (x - e*n)=nP f e n (x - e*n):=by unfold lv;by_cases h0:n=0;subst h0;rfl;rw[ao ∅,show(- -(n:Int)).toNat=n by lia]
  have hs4:nP f e (n+1) (x - e*n)=nP f e n (x - e*n) - f (x - e*n+e*((n+1:Nat):Int)):=rfl;have e5:x - e*n+e*((n+1:Nat):Int)=x+e:=by push_cast;rw[Int.mul_add,Int.mul_one];lia
  rw[E2,hs,hs4,e5,h1];rw[hs3] at ih;lia
theorem uF {f g:Int ->Int}{e:Int}(h: ∀x,g x= -f (x+e)): ∀ (n:Nat) (x:Int),fZ g (-e) n x=nP f e n x
 | 0,_=>rfl
 | n +1,x=>by
  rw[fZ,nP,uF h n x,h];have:x - -e*n+e=x+e*((n+1:Nat):Int):=by rw[Int.neg_mul];push_cast;rw[Int.mul_add,Int.mul_one];lia
  rw[this];lia
theorem Aa {p:Int}{f g:Int ->Int}{e:Int}(h: ∀x,f x % p=g x % p): ∀ (n:Nat) (x:Int),fZ f e n x % p=fZ g e n x % p
 | 0,_=>rfl
 | n+1,x=>by rw[fZ,fZ,Int.add_emod,Aa h n x,h, <- Int.add_emod]
theorem jU (f:Int ->Int)(x:Int): ∀n:Nat,fZ f 0 n x=f x*n
 | 0=>by simp[fZ]
 | n+1=>by rw[fZ,jU f x n,Int.zero_mul,Int.sub_zero];push_cast;rw[Int.mul_add,Int.mul_one]
structure hW (p:Int)(a:Rd)(n:Int)(r:Rd):Prop where
 en:r.1=a.1*n
 pt:dQ p r.2
 at_: ∀x,fE r.2 x=lv (fE a.2) a.1 n x % p
theorem hW.eq (hp:0<p)(h:hW p a n r)(h':hW p a n r'):r=r':=Rv (h.en.trans h'.en.symm) (Cz hp h.pt h'.pt λx=>(h.at_ x).trans (h'.at_ x).symm)
def hW.y_ (hp:0<p)(hn:n<0)(h:hW p (bk p a) (-n) r):hW p a n r:=by exact#[?_,h.pt,λx=> ?_];rw[h.en];change -a.1* -n=a.1*n;rw[Int.neg_mul_neg];rw[h.at_];unfold lv;rw[ak ∅,ao hn];change fZ (fE (bk p a).2) (-a.1) (-n).toNat x % p=_;rw[<- uF (f:=fE a.2) (g:=λx=> -fE a.2 (x+a.1)) (λ_=>rfl)];show Aa (λy=>by rw[Q7 hp,Int.emod_emod_of_dvd _ (Int.dvd_refl p)]) _ _
def oP (e:Int)(n:Nat)(q:Int×Int):Pt:=(List.range n).map λ(k:Nat)=>(q.1+e*k,q.2)
def lR (e:Int)(n:Nat)(l:Pt):Pt:=(l.map (oP e n)).flatten
theorem z4 (e x:Int)(q:Int×Int): ∀n:Nat,fE (oP e n q) x=fZ (fE [q]) e n x
 | 0=>rfl
 | n +1=>by
  have:oP e (n+1) q=oP e n q++ [(q.1+e*n,q.2)]:=by unfold oP;rw[List.range_succ,aA];rfl
  rw[this,gq,z4 e x q n,fZ];congr 1;simp![fE];by_cases c:q.1+e*n=x;rw[ao c,ao ∅];rw[ak c,ak ∅]
theorem Ab (f g:Int ->Int)(e x:Int): ∀n:Nat,fZ (λy=>f y+g y) e n x=fZ f e n x+fZ g e n x
 | 0=>rfl
 | n+1=>by rw[fZ,fZ,fZ,Ab f g e x n];lia
theorem z_ (e x:Int): ∀n:Nat,fZ (λ_=>0) e n x=0
 | 0=>rfl
 | n+1=>by rw[fZ,z_ e x n];rfl
theorem z6 (e:Int)(n:Nat)(x:Int): ∀l:Pt,fE (lR e n l) x=fZ (fE l) e n x
 | []=>by have:fE ([]:Pt)=λ_=>0:=rfl;rw[this,z_];rfl
 | q ::l=>by
  have e1:lR e n (q::l)=oP e n q++lR e n l:=rfl;have e2:fE (q::l)=λy=>fE [q] y+fE l y:=by funext y;have:=gq [q] l y;show this
  rw[e1,gq,z4,z6 e n x l,e2,Ab]
theorem va (e:Int)(n:Nat): ∀l:Pt,(lR e n l).length=l.length*n
 | []=>by simp[lR]
 | q::l=>by have e1:lR e n (q::l)=oP e n q++lR e n l:=rfl;rw[e1,aD,va e n l,oP,af,List.length_range,aB,Nat.succ_mul];lia
theorem xc (b:Rd)(x:Int): ∀n:Nat,fE (oT b n) x=fZ (fE b.2) b.1 n x
 | 0=>rfl
 | n+1=>by
  rw[oT,gq,xc b x n,Ck,fZ];have:x - (n:Int)*b.1=x - b.1*n:=by rw[Int.mul_comm]
  rw[this]
def Pw:fe:=λxs M q=>eQ λ(p:Int) (a:Rd) (n:Int)=>BG (xs= [wi p,gv a,wi n]) (0<p) (p<1000) (dQ p a.2) (a.2.length<=40000) (0<=n) (a.1≠0 ->n<100000 /\ a.2.length*n.toNat<=100000) (∀r:Rd,hW p a n r ->(a.1=0 ->r.2.length<=a.2.length) ->(a.1≠0 ->r.2.length<=a.2.length*n.natAbs) ->q (gv r) M)
def RM:fe:=λxs M q=>eQ λ(p:Int) (a:Rd) (n:Int)=>Ld (xs= [wi p,gv a,wi n]) (0<p) (p<1000) (dQ p a.2) (a.2.length<=40000) (a.1≠0 -> -100000<n /\ n<100000 /\ a.2.length*n.natAbs<=100000) (∀r:Rd,hW p a n r ->(a.1=0 ->r.2.length<=a.2.length) ->(a.1≠0 ->r.2.length<=a.2.length*n.natAbs) ->q (gv r) M)
end WQ
namespace HT
open PySem PySem.Spec PyProof.Rows
def K2 {ws:cA c7}(ht:IsTup s.heap t ([]:cA c7).toArray)(hb:IsTup s.heap b ws.toArray)(h1:Q (.ref b) s):wpAny (model prog w) A (binaryOp .Add (.ref t) (.ref b)) Q E s:=by let⟨⟨cls,dd,data,sl⟩,ho,hc,n,hd⟩:=id ht;let⟨⟨ahE,ZL,data2,Pc⟩,SY,GP,n2,hd2⟩:=id hb;simp only at hc hd GP hd2;subst hc hd GP hd2;show concat_meets #[_,ho,rfl] #[_,SY,rfl] noFill_tuple_add seq_tuple_add PySem.F.slot_tuple_add PySem.F.entry_tuple_add (PySem.F.args_tuple_add_2 _ _) (tuple_addW0 t b _ ws.toArray n n2 dd ZL sl Pc (by rfl)) #[ho,SY,h1]
end HT
namespace L2
open PySem PySem.Spec PyProof.Rows
def Pp (K:WV):R2:=λx y H Q=>fY λa b xs ys=>BG (x= .ref a) (y= .ref b) (k7 K H a xs) (k7 K H b ys) (xs.length+ys.length<=sizeLine) (xs= [] ->Q (.ref b) H) (xs≠ [] ->ys= [] ->Q (.ref a) H) (xs≠ [] ->ys≠ [] -> ∀p,H p=none ->Q (.ref p) (cK H p (.tup (xs++ys))))
def EB:i6 X (binaryOp .Add) (Pp X.K):=by
 intro ah s σ H x y v u Q I rx ry h;let⟨a,b,xs,ys,rfl,rfl,ha,hb,hz,q0,q1,q2⟩:=h;by_cases hx:xs= []
 subst hx;cases rx;cases ry;let⟨bJ,r1,p1,_⟩:=I.tuple ha;let⟨zg,r2,p2,_⟩:=I.tuple hb;have e:bJ= []:=r1.j6.mpr rfl;subst e;show HT.K2 p1 p2 #[.ref b,H,I,rfl,q0 rfl];show Na ah s σ H _ _ v u Q I rx ry #[a,b,xs,ys,rfl,rfl,ha,hb,hx,hz,q1 hx,q2 hx]
end L2
namespace WL
open PySem L2
section
variable {K:WV}
def OY:qi:=λx y M q=>cg λl l'=>fj (x= .tup l) (y= .tup l') (l.length+l'.length<=sizeLine) (q (.tup (l++l')) M)
def cI.j6 (r:cI K H l vs):vs= []↔l= []:=by have:=r.length;cases l<;>cases vs<;>simp_all
instance:IR K (Pp K) OY where
 imp :=by rintro x y v u M H q Q m r1 r2 ⟨l,l',rfl,rfl,hz,h⟩ k;let⟨a,vs,rfl,hv,r⟩:=r1.tup;let⟨b,us,rfl,hu,r'⟩:=r2.tup;exact#[a,b,vs,us,rfl,rfl,hv,hu,by rw[r.length,r'.length];show hz,λe=> ?_,λ_ e=> ?_,λ_ _ p hp=> ?_];rw[r.j6.mp e,List.nil_append] at h;show k _ M _ H h (a8.refl H) m (WR.Se hu r');rw[r'.j6.mp e,dI] at h;show k _ M _ H h (a8.refl H) m (WR.Se hv r);show k _ M _ _ h (L2.ge.ts (b_ hp)) (m.new hp) (WR.Se (k7.of bU) ((r.append r').ts (L2.ge.ts (b_ hp))))
def YL:OY (.tup l) (.tup l') M q=ce (l.length+l'.length<=sizeLine) (q (.tup (l++l')) M):=by apply propext;symm;rintro⟨_,_,h1,h2,h3,k⟩;cases h1;cases h2;show#[h3,k];rintro⟨h3,k⟩;show#[_,_,rfl,rfl,h3,k]
end
end WL
namespace L2
open PySem PySem.Spec PyProof.Rows
def SM (K:WV)(tl:TE):TI:=λσ H R=>tl σ H λx H1=> ∃a,x= .ref a /\ (((∃xs,g0 K H1 a xs) /\ R (ZS K a) H1) \/ ((∃xs,k7 K H1 a xs) /\ R (ZQ K a) H1))
def RD (hl:PE X l tl):PI X tg l (SM X.K tl):=by
 intro ah s σ H R I h;exact cV (hl ah s σ H _ I h) λv s1 ⟨x,H1,I1,r1,q1⟩=> ?_;let⟨a,e,q1⟩:=q1;subst e;cases r1;have fin: ∀b∈ [s1.heap.objs.size],lf X ah H1 b:=λb hb=>by have e:b=s1.heap.objs.size:= ⇑hb;subst e;show I1.C6 (aq _) (I1.cN.fresh (aq _))
 rcases q1 with⟨⟨xs,hq⟩,q⟩ | ⟨⟨xs,hq⟩,q⟩
 let⟨bJ,rv,p,hz⟩:=I1.list hq;exact wpAny_pyIter_list p.isList ?_;show#[s1.heap.objs.size,[s1.heap.objs.size],_,_,H1,rfl,I1.kept (t':=s1.toks) λb o e=>av _ e,xa a _,#[_,a4 _ rfl,rfl,rfl],fin,q];let⟨bJ,rv,p,hz⟩:=I1.tuple hq;exact wpAny_pyIter_tuple (show s1.heap.IsTuple a bJ.toArray from p) ?_;show#[s1.heap.objs.size,[s1.heap.objs.size],_,_,H1,rfl,I1.kept (t':=s1.toks) λb o e=>av _ e,uC a _,#[_,a4 _ rfl,rfl,rfl],fin,q]
end L2
namespace WL
open PySem L2
section
variable {K:WV}
def Mx (x:W)(M:Mp)(q:cA W ->(Mp ->Prop) ->Mp ->Prop):Prop:=(cg λp l=>cW (x=wr p) (M p=some (.lst l)) (q l (λM'=>M' p=some (.lst l)) M)) \/ ∃l,x= .tup l /\ q l (λ_=>True) M
def WN (a:WE):WI:=λρ M q=>a ρ M λx M1=>Mx x M1 q
instance {t:TE}{a:WE} [ia:IE K t a]:II K (SM K t) (WN a) where
 imp :=λρ M σ H q R o h k=>ia.imp ρ M σ H _ _ o h λx M1 v H1 h1 t1 m1 r1=>by
  rcases h1 with⟨p,l,e,hp,h1⟩ | ⟨l,e,h1⟩
  subst e;let⟨vs,hv,rr⟩:=m1 p _ hp;show#[p,r1.eq, .inl #[#[vs,g0.of hv],k l _ _ M1 H1 h1 t1 m1 xB]];subst e;let⟨p,vs,rfl,hv,rr⟩:=r1.tup;show#[p,rfl, .inr #[#[vs,hv],k l _ _ M1 H1 h1 t1 m1 (AY hv rr)]]
theorem aa0:WN a ρ M q=a ρ M λx M1=>Mx x M1 q:=rfl
def aad:Mx (.v (.ref p)) M q=lstK (M p) λl=>q l (λM'=>M' p=some (.lst l)) M:=by apply propext;symm;rintro(⟨_,l,h1,h2,k⟩ | ⟨_,h1,_⟩);cases h1;show#[l,h2,k];cases h1;rintro⟨l,h2,k⟩;show .inl #[_,l,rfl,h2,k]
def aac:Mx (.tup l) M q=q l (λ_=>True) M:=by apply propext;symm;rintro(⟨_,_,h1,_⟩ | ⟨_,h1,k⟩);cases h1;cases h1;show k;intro k;show .inr #[l,rfl,k]
end
end WL
namespace WQ
open PySem L2 WL WP
def cv (a b:cA Int):Nat ->Nat ->Int
 | 0,_=>0
 | k+1,n=>cv a b k n+if k<=n then a.getD k 0*b.getD (n - k) 0 else 0
structure IsPart (p:Int)(one other q r:List Int):Prop where
 qs:Qz p q
 rs:Qz p r
 len:r.length<other.length
 ql:q.length<=one.length
 eq: ∀n,one.getD n 0 % p=(cv q other q.length n+r.getD n 0) % p
def K' {x:α}(h:l.getLast? =some x):gP l (-1)=some x:=by
 have hl:0<l.length:=by
  cases l with
  | nil=>simp at h
  | cons a r=>simp
 unfold gP AX;rw[ak ∅,ao ∅,Option.bind_some];rw[List.getLast?_eq_getElem?] at h;rw[show(-1+(l.length:Int)).toNat=l.length - 1 by lia];show h
end WQ
namespace L2
open PySem PySem.Spec PyProof.Rows
theorem w_: ∀ {ss:cA Str} {us:cA c7},cb (ss.map V.str) us -> ∃l:cA (Str×Tok),us=strValues l /\ l.map (·.1)=ss
 | [],_,h=>by cases h;show#[[],rfl,rfl]
 | x ::r,_,h=>by
  cases h with
  | cons h1 h2=>let⟨t,rfl⟩:=h1;let⟨l,rfl,e⟩:=w_ h2;show#[(x,t)::l,rfl,by rw[aN,e]]
def oU (K:WV):V ->cA V ->Hp ->VK ->Prop:=λx vs H Q=>eQ λ(ju:Str) (b:fP) (ss:cA Str)=>lm (x= .str ju) (vs= [.ref b]) (g0 K H b (ss.map V.str)) (Builtin.Str.tooLong (ss.toArray.foldl (· + ·.length+ju.length) 0)=false) ((Builtin.Str.glued ju ss).length<=sizeLine) (Q (.str (Builtin.Str.glued ju ss)) H)
def j7:Hu X "str.join" (oU X.K):=by
 intro ah s σ H x xs v us Q I rx rv h;let⟨ju,b,ss,rfl,rfl,hb,hl,hg,q⟩:=h;let⟨t,rfl⟩:=rx;let⟨u,rfl,ru⟩:=vals1 rv;cases ru;let⟨bJ,r,p,hz⟩:=I.list hb;let⟨l,rfl,e⟩:=w_ r;exact call_meets c6 (typeIs_str _ _ _) PySem.F.entry_str_join (PySem.F.args_str_join_2 _ _) (meets_str_join_list ju t b l (by rw[e];show hl)) #[p.isList,?_];match l,e with
 | [],e=>have e:ss= []:=e.symm;subst e;show#[hg, .str _,H,I.tok _,#[_,rfl],q]
 | [y],e=>have e:ss= [y.1]:=e.symm;subst e;show#[.str y.1,H,I,#[y.2,rfl],q]
 | y::z::l',e=>subst e;show#[hg, .str _,H,I.tok _,#[_,rfl],q]
def Pq:R2:=λx y H Q=>cg λi j=>fj (x= .str i) (y= .str j) (i.length+j.length<=sizeLine) (Q (.str (i++j)) H)
theorem gC:i6 X (binaryOp .Add) Pq:=CC
def Pk:cA V ->Hp ->VK ->Prop:=λxs H Q=> ∃i:Int,cW (xs= [.int i]) (i.natAbs.log2<1920) (Q (.str (toString i)) H)
theorem mW:fB X (.type "str") Pk:=zt
end L2
namespace WL
open PySem L2
section
variable {K:WV}
def QT (r:WM)(a:WE)(b:WA):WE:=λρ M q=>a ρ M λx M1=> ∃y,x=ws y /\ b ρ M1 λxs M2=>r x xs M2 q
instance {r:V ->cA V ->Hp ->VK ->Prop}{w:WM}{t:TE}{u:TA}{a:WE}{b:WA} [ir:IM K r w] [ia:IE K t a] [ib:IA K u b]:IE K (YY K "str" r t u) (QT w a b) where
 imp :=λρ M σ H q Q o h k=>ia.imp ρ M σ H _ _ o h λx M1 v H1 ⟨y,e,h1⟩ t1 m1 r1=>by subst e;cases r1.eq;show#[rfl,ib.imp ρ M1 σ H1 _ _ (o.mv t1 m1) h1 λz M2 u H2 h2 t2 m2 r2=>ir.imp (ws y) (.str y) z u M2 H2 _ _ m2 WR.v r2 h2 λz M3 v3 H3 h3 t3 m3 r3=>k z M3 v3 H3 h3 ((t1.trans t2).trans t3) m3 r3]
theorem cI.strs {H:Hp}: ∀ {ss:cA Str} {vs:cA V},cI K H (ss.map ws) vs ->vs=ss.map V.str
 | [],vs,h=>by simpa only[List.map_nil,cI] using h
 | n::r,vs,h=>by simp![aN,cI] at h;let⟨v,t,rfl,h1,h2⟩:=h;rw[cI.strs h2,h1.eq];rfl
def HH:WM:=λx ys M q=>eQ λ(ju:Str) (b:fP) (ss:cA Str)=>lm (x=ws ju) (ys= [wr b]) (M b=some (.lst (ss.map ws))) (Builtin.Str.tooLong (ss.toArray.foldl (· + ·.length+ju.length) 0)=false) ((Builtin.Str.glued ju ss).length<=sizeLine) (q (ws (Builtin.Str.glued ju ss)) M)
instance:IM K (oU K) HH where
 imp:=by rintro x v ys us M H q Q m r1 r2 ⟨ju,b,ss,rfl,rfl,hb,hl,hg,h⟩ k;cases r1.eq;let⟨u,rfl,r⟩:=r2.one;cases r.eq;let⟨vs,hv,rr⟩:=m b _ hb;cases rr.strs;show#[ju,b,ss,rfl,rfl,g0.of hv,hl,hg,k _ M _ H h (a8.refl H) m WR.v]
def O0:qi:=λx y M q=>cg λi j=>fj (x=ws i) (y=ws j) (i.length+j.length<=sizeLine) (q (ws (i++j)) M)
instance:IR K Pq O0 where
 imp:=by rintro x y v u M H q Q m r1 r2 ⟨i,j,rfl,rfl,hz,h⟩ k;cases r1.eq;cases r2.eq;show#[i,j,rfl,rfl,hz,k _ M _ H h (a8.refl H) m WR.v]
def YR:O0 (.v (.str i)) (.v (.str j)) M q=ce (i.length+j.length<=sizeLine) (q (ws (i++j)) M):=by apply propext;symm;rintro⟨_,_,h1,h2,h3,k⟩;cases h1;cases h2;show#[h3,k];rintro⟨h3,k⟩;show#[_,_,rfl,rfl,h3,k]
def OT:zE:=λxs M q=> ∃i:Int,cW (xs= [wi i]) (i.natAbs.log2<1920) (q (ws (toString i)) M)
instance:IC K Pk OT where
 imp:=by rintro xs v M H q Q m r1 ⟨i,rfl,hz,h⟩ k;let⟨v,rfl,r⟩:=r1.one;cases r.eq;show#[i,rfl,hz,k _ M _ H h (a8.refl H) m WR.v]
def Yv:OT [.v (.int i)] M q=ce (i.natAbs.log2<1920) (q (ws (toString i)) M):=by apply propext;symm;rintro⟨_,h1,h3,k⟩;cases h1;show#[h3,k];rintro⟨h3,k⟩;show#[_,rfl,h3,k]
def yw (x:W)(k:Str ->Prop):Prop:= ∃y,x=ws y /\ k y
def aaa:yw (.v (.str y)) k=k y:=by apply propext;symm;rintro⟨_,h,k⟩;cases h;show k;intro h;show#[_,rfl,h]
def _J:QT r a b ρ M q=a ρ M λx M1=>yw x λy=>b ρ M1 λxs M2=>r (ws y) xs M2 q:=by unfold QT yw;congr 1;funext x M1;apply propext;symm;rintro⟨y,rfl,h⟩;show#[y,rfl,h];rintro⟨y,rfl,h⟩;show#[y,rfl,h]
def _E:QO a ρ M q=a ρ M λx M1=>A1 x λi=>ce (i.natAbs.log2<1920) (q (ws (toString i)) M1):=by unfold QO A1 ce;congr 1;funext x M1;show propext #[λ⟨i,a,b,c⟩=>#[i,a,b,c],λ⟨i,a,b,c⟩=>#[i,a,b,c]]
def _D:QN a ρ M q=a ρ M λx M1=>yw x λy=>ce (y.length<=sizeLine) (q (ws y) M1):=by unfold QN yw ce;congr 1;funext x M1;show propext #[λ⟨i,a,b,c⟩=>#[i,a,b,c],λ⟨i,a,b,c⟩=>#[i,a,b,c]]
theorem ahX:wJ0 out ρ M q=ce (out.length<=sizeLine) (q (ws out) M):=rfl
def ahW:_t a f out ρ M q=a ρ M λx M1=>yw x λy=>ce ((out++y).length<=sizeLine) (f (out++y) ρ M1 q):=by unfold _t yw ce;congr 1;funext x M1;show propext #[λ⟨i,a,b,c⟩=>#[i,a,b,c],λ⟨i,a,b,c⟩=>#[i,a,b,c]]
end
end WL
namespace WQ
open PySem L2 WL WP
def t0 {a b:Str}(h:a.cps.toList=b.cps.toList):a=b:=by cases a;cases b;congr 1;show Array.toList_inj.mp h
def gD (a b:Str):(a++b).cps.toList=a.cps.toList++b.cps.toList:=by change(a.cps++b.cps).toList=_;simp
def str_len (a:Str):a.length=a.cps.toList.length:=by change a.cps.size=_;simp
def bz (a b:Str):(a++b).length=a.length+b.length:=by rw[str_len,gD,aD, <- str_len, <- str_len]
def mV (ju:Str): ∀ (x:Str) (ss:cA Str),(Builtin.Str.glued ju (x::ss)).cps.toList=x.cps.toList++(ss.map λy=>ju.cps.toList++y.cps.toList).flatten:=by
 intro x ss;unfold Builtin.Str.glued;change(ss.foldl (λfX p=>fX++ju.cps++p.cps) x.cps).toList=_;generalize x.cps=a;induction ss generalizing a with
 | nil=>simp
 | cons y ss ih=>rw[List.foldl_cons,ih,aN,List.flatten_cons];simp
theorem xG (ju:Str):Builtin.Str.glued ju []=Str.empty:=rfl
theorem gb (ju:Str): ∀ (ss:cA Str),(∀x∈ss,x.length<=c) ->(Builtin.Str.glued ju ss).length<=ss.length*(c+ju.length)
 | [],_=>by rw[xG];show de _
 | x :: ss,h=>by
  rw[str_len,mV,aD, <- str_len];have h1:=h x (by simp);have h2:((ss.map λy=>ju.cps.toList++y.cps.toList).flatten).length<=ss.length*(c+ju.length):=by
   have: ∀l:cA Str,(∀y∈l,y.length<=c) ->((l.map λy=>ju.cps.toList++y.cps.toList).flatten).length<=l.length*(c+ju.length):=by
    intro l hl;induction l with
    | nil=>simp
    | cons y l ih=>rw[aN,List.flatten_cons,aD,aD, <- str_len, <- str_len,aB,Nat.succ_mul];have:=hl y (by simp);have:=ih λz hz=>hl z (by simp[hz]);lia
   show this ss λy hy=>h y (by simp[hy])
  rw[aB,Nat.succ_mul];lia
def Vk (ju:Str)(ss:cA Str)(h: ∀x∈ss,x.length<=c)(hz:ss.length*(c+ju.length) <=sizeLine):Builtin.Str.tooLong (ss.toArray.foldl (· + ·.length+ju.length) 0)=false:=by
 have: ∀ (l:cA Str) (n:Nat),(∀y∈l,y.length<=c) ->l.foldl (λ(a:Nat) (y:Str)=>a+y.length+ju.length) n<=n+l.length*(c+ju.length):=by
  intro l;induction l with
  | nil=>intro n _;simp
  | cons y l ih=>intro n hl;rw[List.foldl_cons,aB,Nat.succ_mul];have h1:=hl y (by simp);have h2:=ih (n+y.length+ju.length) λz hz=>hl z (by simp[hz]);lia
 have h1:=this ss 0 h;unfold Builtin.Str.tooLong;rw[decide_eq_false_iff_not,List.foldl_toArray];lia
theorem qP (hb:M b=some (.lst (ss.map ws)))(h: ∀x∈ss,x.length<=c)(hz:ss.length*(c+ju.length) <=sizeLine)(k:q (ws (Builtin.Str.glued ju ss)) M):HH (ws ju) [wr b] M q:=#[ju,b,ss,rfl,rfl,hb,Vk ju ss h hz,ar (gb ju ss h) hz,k]
def Ip (s:String):(Str.ofString s).length=s.toList.length:=by rw[Str.ofString_eq_toList];change((s.toList.map Char.toNat).toArray).size=_;simp
def fq {i:Int}(h:i.natAbs<10 ^ 60):(Str.ofString (toString i)).length<=61:=by
 rw[Ip];have hd: ∀n:Nat,n<10 ^ 60 ->(Nat.repr n).toList.length<=60:=λn hn=>by rw[Nat.repr_eq_ofList_toDigits,String.toList_ofList];show(Nat.length_toDigits_le_iff ⋯ ⋯).mpr hn
 cases i with
 | ofNat n=>change(Nat.repr n).toList.length<=61;have:=hd n h;lia
 | negSucc n=>
  change("-" ++Nat.repr (n+1)).toList.length<=61;rw[String.toList_append,aD];have:=hd (n+1) h;have e:("-" :String).toList.length=1:=⋯
  lia
def f9 {i:Int}(h:i.natAbs<10 ^ 60):i.natAbs.log2<1920:=by by_cases h0:i.natAbs=0;rw[h0];decide;rw[Nat.log2_lt h0];show bx h (by decide+kernel)
def fQ (z:Int×Int):Str:=(toString z.1:Str)++ "=" ++toString z.2
def jV (a:Rd):Str:=(toString a.1:Str)++ ":" ++Builtin.Str.glued (Str.ofString "") (a.2.map λz=> " " ++fQ z)
def Ag (a:Rd):jV a=Builtin.Str.glued " " (((toString a.1:Str)++ ":")::a.2.map fQ):=by
 exact t0 ?_;rw[mV,jV,gD];congr 1;cases a.2 with
 | nil=>rfl
 | cons z l=>
  rw[aN,mV,aN,aN,List.flatten_cons,gD,aZ,aZ];congr 2;apply dB;intro y _;change(Str.ofString "").cps.toList++(Str.ofString " " ++fQ y).cps.toList=(Str.ofString " ").cps.toList++(fQ y).cps.toList;rw[gD];have:(Str.ofString "").cps.toList= []:=by decide+kernel
  rw[this];rfl
def TF (a:Rd):Prop:=a.1.natAbs<10 ^ 60 /\ ∀z∈a.2,z.1.natAbs<10 ^ 60 /\ z.2.natAbs<10 ^ 60
def ve (h:z.1.natAbs<10 ^ 60 /\ z.2.natAbs<10 ^ 60):(fQ z).length<=123:=by
 unfold fQ;rw[bz,bz];have h1:=fq h.1;have h2:=fq h.2;have e:(Str.ofString "=").length=1:=by decide+kernel
 lia
def Jk:fe:=λxs M q=> ∃ (a:Rd),fj (xs= [gv a]) (a.2.length<=1000) (TF a) (q (ws (jV a)) M)
theorem xQ (x:Str):Str.empty++x=x:=t0 (by rw[gD];rfl)
theorem bg (h:n<=5000):n<=sizeLine:=ar h (by rw[cR];decide)
theorem rB (a b c:Str):a++b++c=a++(b++c):=t0 (by rw[gD,gD,gD,gD,bQ])
end WQ
namespace WL
open PySem L2
def KY {α:Type}{l:cA α}{fW:α ->W}(eW:α ->W){M1:Mp}(hz:l.length<=sizeLine)(lU: ∀M,Sm M1 M ->keep M)(hs: ∀a∈l, ∀ (M:Mp) (N:e9 W ->Mp ->Prop),Sm M1 M ->(∀M',Sm M M' ->N (some (eW a)) M') ->g (fW a) (og own fr ρ) M λρ2 M2=>c ρ2 M2 λb M3=>gy b (el ρ2 M3 λy M4=>N (some y) M4) (N none M3))(hq: ∀p M',M1 p=none ->Sm M1 M' ->M' p=some (.lst (l.map eW)) ->q (wr p) M'):sI (l.map fW) keep own fr g c el ρ M1 q:=by
 exact#[by rw[af];show hz,λp hp=>#[λi ys M=>M p=some (.lst ys) /\ Sm M1 M /\ ys=(l.take i).map eW,#[am,a5 hp,by simp],?_,?_,?_]];rintro i ys M hi ⟨h1,h2,rfl⟩;exact#[lU _ h2,h1,?_];rw[af,bP];lia;rintro i x ys M hx ⟨h1,h2,rfl⟩;let⟨a,ha,rfl⟩:=qK hx;have e:l.take (i+1)=l.take i++ [a]:=by rw[cD,ha];rfl
 exact hs a (aV ha) _ (λo M4=>match o with
 | some y=>M4 p=some (.lst ((l.take i).map eW)) /\ um M4 p (.lst ((l.take i).map eW++ [y])) p=some (.lst ((l.take i).map eW++ [y])) /\ Sm M1 (um M4 p (.lst ((l.take i).map eW++ [y]))) /\ (l.take i).map eW++ [y]=(l.take (i+1)).map eW
 | none=>M4 p=some (.lst ((l.take i).map eW)) /\ Sm M1 M4 /\ (l.take i).map eW=(l.take (i+1)).map eW) h2 λM' s'=>#[s' _ _ h1,am,λc o ec=>by rw[aP (bY ec hp)];show s' _ _ (h2 _ _ ec),by rw[e,aA];rfl]
 rintro ys M ⟨h1,h2,rfl⟩;rw[af,cP] at h1;show hq p M hp h2 h1
end WL
namespace WQ
open PySem L2 WL WP
def cs (n r:Int)(l:Pt):Int:=((l.filter λz=>decide (z.1 % n=r)).map (·.2)).sum
end WQ
namespace L2
open PySem PySem.Spec PyProof.Rows
def f7 {K:WV}(hK:X.K=K)(hl:PE X l tl):PI X tg l (J_ K tl):=by subst hK;show ue hl
def jZ {K:WV}(hK:X.K=K)(hl:PE X l tl):PI X tg l (SK K tl):=by subst hK;show qz hl
def Es {K:WV}(hK:X.K=K)(hl:PE X l tl):PI X tg l (SM K tl):=by subst hK;show RD hl
end L2
namespace WL
open PySem L2
def dM (hK:X.K=K):fB X (.builtin "len") (Rw K):=by subst hK;show G1
end WL
namespace WQ
open PySem L2 WL WP
abbrev Cf:=Nat ->Int
def ZM:Nat ->Cf ->Cf ->Int
 | 0,f,g=>f 0*g 0
 | n+1,f,g=>f 0*g (n+1)+ZM n (λi=>f (i+1)) g
def co (l:cA Int):Cf:=λi=>l.getD i 0
def Mult (p:Int)(a g:Cf):Prop:=cg λ(E:Cf) (N:Nat)=>(∀i,N<=i ->E i % p=0) /\ ∀n,a n % p=ZM n E g % p
def yh (p:Int)(a g h:Cf):Prop:=eQ λ(A B:Cf) (N:Nat)=>(∀i,N<=i ->A i % p=0 /\ B i % p=0) /\ ∀n,a n % p=(ZM n A g+ZM n B h) % p
def FV (p:Int)(a:Rd)(v:Int):Prop:=cg λlo hi=>cW (X' (Pb a) lo) (X_ (Pb a) hi) (v=fwv p a lo hi)
open Classical in
noncomputable def fv (p:Int) (a:Rd):Int:=if h: ∃v,FV p a v then h.choose else 0
def names:cA Str:= ["on","back","up","down"]
def Y0 (p:Int)(s:Str):Rd:=if s= "on" then(1,[]) else if s= "back" then(-1,[]) else if s= "up" then(0,[(0,1)]) else(0,[(0,p - 1)])
end WQ
namespace L2
open PySem
def uS (hK:X.K=K):i6 X (compareOp .In) (VV K false):=by subst hK;show Gh
def fR (hK:X.K=K):fB X (.builtin "isinstance") (Rz K):=by subst hK;show K3
end L2
namespace WQ
open PySem L2 WL WP
def pairsOf (p:Int)(z:Int×Int):Pt:=if z.2<=p - z.2 then List.replicate z.2.toNat (z.1,1) else List.replicate (p - z.2).toNat (z.1, -1)
def Z0:Int ->Pt ->Int
 | _,[]=>0
 | here,z::r=>X2 (here - z.1)+Z0 z.1 r
end WQ
namespace L2
open PySem PySem.Spec PyProof.Rows
def Inv.freeze {σ:St}(I:Inv X ah σ H s)(e:H d=some v)(ho:s.heap.get? d=some o)(n1: ∀xs,HO.tup xs≠v:=by intro _ q;cases q)(n2: ∀a b,HO.lg a b≠v:=by intro _ _ q;cases q)(n3: ∀a,HO.own a≠v:=by intro _ q;cases q)(n4: ∀a,HO.Mt a≠v:=by intro _ q;cases q): Inv X ah σ (cK H d (.lg o v)) s:=by
 have ne: ∀ {b u},H b=some u ->u≠v ->b≠d:=λ{b u} h n z=>by subst z;rw[e] at h;show n (bu h).symm
 have No: ∀ {b},H b=none ->b≠d:=λ{b} h z=>by subst z;rw[e] at h;cases h
 exact#[I.ok,I.os,I.bare,#[I.base.keep,I.base.slot,λb u h1 h2 h3=> ?_,I.base.there,λb xs h=> ?_,λb o' u h=> ?_,λb ps h=> ?_],I.loc,I.cell,?_,λx c h=> ?_,λp hp=> ?_,λb u h=> ?_,I.len];have z:=I.base.free b u h1 h2 h3;rw[bN (No z)];show z;have z:=I.base.ou b xs h;rw[bN (ne z (n1 _))];show z;have z:=I.base.m_ b o' u h;rw[bN (ne z (n2 _ _))];show z;let⟨more,z⟩:=I.base.qq b ps h;show#[more,by rw[bN (ne z (n4 _))];show z];rw[bN (No I.free)];show I.free;rw[bN (No (I.gK x c h))];show I.gK x c h;let⟨a1,a2,a3⟩:=I.pin p hp;show#[a1,by rw[bN (No a2)];show a2,a3];have ow: ∀c,H c=some (.own b) ->cK H d (.lg o v) c=some (.own b):=λc r=>by rw[bN (ne r (n3 _))];show r
 have tu: ∀c xs,H c=some (.tup xs) ->cK H d (.lg o v) c=some (.tup xs):=λc xs r=>by rw[bN (ne r (n1 _))];show r
 by_cases hb:b=d;subst hb;rw[bU] at h;cases h;show#[ho,(I.cN b _ e).uG (λ_ _ _ h=>h) ow tu];rw[bN hb] at h;show(I.cN b u h).uG (λ_ _ _ h=>h) ow tu
def ZT (d:fP)(o:Obj)(kvs:cA (b8×V)):It:=#[λi H=>i<kvs.length /\ H d=some (.lg o (.dK kvs)),λi H x H'=>H'=H /\ ∃kv,kvs[i]? =some kv /\ x=kv.2,λi H=>kvs.length<=i /\ H d=some (.lg o (.dK kvs))]
theorem PP: ∀ {kvs:cA (b8×V)} {vs:cA (b8×c7)} {i:Nat} {q:b8×c7},KV kvs vs ->vs[i]? =some q -> ∃p,kvs[i]? =some p /\ RelV p.2 q.2
 | _,_,0,_, .cons ⟨_,r⟩ _,e=>by cases e;show#[_,rfl,r]
 | _,_,i+1,q, .cons _ t,e=>by have e':_=some q:=e;rw[List.getElem?_cons_succ] at e' ⊢;show PP t e'
def zo {σ:St}(I:Inv X ah σ H s)(ho:o.data= .dict es ep)(e:H d=some (.lg o (.dK kvs))): ∃vs,KV kvs vs /\ s.heap.DictAt (cH X.prog X.w) d vs ep:=by
 let⟨h0,_,_,vs,gg,o',ZJ,ZK,h1,h2,h3,h4⟩:=(show d7 X.prog X.w H s.heap d (.lg o (.dK kvs)) from I.cN d _ e)
 rw[h0] at h1;cases h1;rw[ho] at h3;cases h3;show#[vs,gg,o,es,h0,h2,ho,h4]
def FN {P:Program}{w:World}{K:WV}{tg:Expr}{d it:fP}{o:Obj}{kvs:cA (b8×V)}{es:gH DictEntry}{ep:Nat}(ho:o.data= .dict es ep): zF P w K tg (ZT d o kvs) [it] it (λi h=>h.IsValIter it d i kvs.length ep) where
 mem:=by simp
 obj:=λi h st b hb=>by have e:b=it:= ⇑hb;subst e;let⟨o,e,c,d⟩:=st;show#[o,e,λv z=>by rw[d] at z;cases z]
 keep:=λi h h' st k=>st.at λo e=>k it (by simp) o e
 item:=by
  intro X hP hw hK hc i ah s σ H E I hf st hg;subst hP hw hK;let⟨hi,hH⟩:=hg;let⟨vs,gg,hd⟩:=zo I ho hH;have hl:=gg.length;rw[hl] at st hi;let⟨f0,f1,f2,f3,f4,f5⟩:=hf it (by simp);let⟨⟨k,x⟩,hx⟩: ∃q,vs[i]? =some q:=#[vs[i],by simp[hi]]
  let⟨p,hp,rp⟩:=PP gg hx;exact wpAny_pyNext_values_item st hd hx λh' C2 gJ=> ?_;have I1:Inv X ah σ H {s with heap:=h'}:=I.turned (t':=s.toks) (λb o hb e=>(gJ.2 b hb).trans e) f0 f1 f3 f4 f5;let⟨oo,e,c,dd⟩:=id C2;rw[<- hl] at C2;show#[x,rfl,xF (s:= {s with heap:=h'}) e c dd ⋯ #[p.2,H,I1,rp,#[rfl,p,hp,rfl],C2,λb hb=>(hf b hb).1]]
 done:=by intro X hP hw hK hc i ah s σ H E I hf st hg;subst hP hw hK;let⟨hi,hH⟩:=hg;let⟨vs,gg,hd⟩:=zo I ho hH;have hl:=gg.length;rw[hl] at st hi;let⟨f0,f1,f2,f3,f4,f5⟩:=hf it (by simp);show wpAny_pyNext_values_end (I.ok.hd hc) st hd (by simp;omega) λh' eb=>#[rfl,I.turned (t':=s.toks) (λb o hb e=>eb b o hb e) f0 f1 f3 f4 f5]
 self:=λ_ _ _ _ _ st h=>wpAny_pyIter_valiter st h
section
variable {X:Cx}{tg o:Expr}{td:TE}{dH dk:Pos}
def Qb (td:TE):TI:=λσ H R=>td σ H λx H1=>cg λd kvs=>cW (x= .ref d) (H1 d=some (.dK kvs)) (∀o,R (ZT d o kvs) (cK H1 d (.lg o (.dK kvs))))
def MK (ho:PE X o td)(vB:attributeBase o "values" X.env (eval o X.env)=eval o X.env:=by rfl)(vA:(dH.endLine==dk.line)=true:=by rfl):PI X tg (.Call (.Attribute o "values" dH) [] [] dk) (Qb td):=by
 intro ah s σ H R I h;exact wpAny_Call_method0_late vB vA (cV (ho ah s σ H _ I h) λv s1 ⟨x,H1,I1,r1,d,kvs,ex,hd,q1⟩=> ?_);subst ex;obtain rfl:v=Value.ref d:=r1;let⟨t1,t2,sys⟩:=CV I1 (.inl #[kvs, .inl hd]);exact#["dict","dict.values",PySem.F.plainAttrs_dict,PySem.F.slot_dict_values,PySem.F.type_dict_values,t1,t2,Calls.callWith_builtin rfl (PySem.evalArgs_none ?_)];let⟨z,SR,vs,gg,dd⟩:=pR I1.cN (.inl hd);exact call_meetsIn PySem.F.slot_dict_values dd.typeIs PySem.F.entry_dict_values (PySem.F.args_dict_values_1 _) (meets_dict_values (cH X.prog X.w) d SR) #[#[vs,dd],?_];let⟨ob,es,ep,g1,g2,g3,g4⟩:=dd;have da:s1.heap.DictAt (cH X.prog X.w) d vs ep:=#[ob,es,g1,g2,g3,g4]
 exact wpAny_pyIter_values (d:=d) (kvs:=vs) (ep:=ep) (knd:=cH X.prog X.w) #[_,a4 _ rfl,rfl,rfl] (da.push _) ?_;have I2:=I1.freeze hd g1;exact#[_,[_],_,ZT d ob kvs,_,rfl,I2.kept (t':=s1.toks) λb o e=>av _ (av _ e),FN g3,?_,λb hb=> ?_,q1 ob];rw[gg.length];show#[_,a4 _ rfl,rfl,rfl];have I3:Inv X ah σ (cK H1 d (.lg ob (.dK kvs))) {s1 with heap:=s1.heap.push {cls:= .type "dict_values",data:= .fields #[.ref d]}}:=I2.kept (t':=s1.toks) λb o e=>av _ e;have e:=be.mp hb;subst e;show I3.C6 (aq _) (I3.cN.fresh (aq _))
end
end L2
namespace WL
open PySem L2
variable {K:WV}
def JZ (a:WE):WI:=λρ M q=>a ρ M λx M1=>cg λd kvs=>cW (x=wr d) (M1 d=some (.dK kvs)) (∀o ks,q (kvs.map (·.2)) (λM'=>M' d=some (.fz o ks kvs)) (um M1 d (.fz o ks kvs)))
theorem PQ: ∀ {H:Hp} {kvs:cA (b8×W)} {vs:cA (b8×V)} {i:Nat} {q:b8×V},KR K H kvs vs ->vs[i]? =some q -> ∃p,kvs[i]? =some p /\ WR K H p.2 q.2
 | _,_,_,0,_, .cons ⟨_,r⟩ _,e=>by cases e;show#[_,rfl,r]
 | _,_,_,i+1,q, .cons _ t,e=>by have e':_=some q:=e;rw[List.getElem?_cons_succ] at e' ⊢;show PQ t e'
theorem CS {H:Hp}: ∀ {kvs:cA (b8×W)} {vs:cA (b8×V)},KR K H kvs vs ->kvs.length=vs.length
 | _,_, .nil=>rfl
 | _,_, .cons _ t=>by rw[aB,aB,CS t]
def GD:Dq K H1 (ZT d o ks) (kvs.map (·.2)) (λM'=>M' d=some (.fz o ks kvs)):=by intro i M H t m hM;let⟨e1,r1⟩:=m d _ hM;have hl:=CS r1;rw[af];exact#[λh=>#[by omega,e1],λh=>#[by omega,e1],λv H' hi ⟨e2,kv,hk,e3⟩=> ?_];subst e2 e3;let⟨p,hp,rp⟩:=PQ r1 hk;show#[a8.refl _,m,p.2,by rw[aI,hp];rfl,rp]
instance {t:TE}{a:WE} [ia:IE K t a]:II K (Qb t) (JZ a) where
 imp:=λρ M σ H q R o h k=>ia.imp ρ M σ H _ _ o h λx M1 v H1 ⟨d,kvs,ex,hd,h1⟩ t1 m1 r1=>by subst ex;let⟨ks,e,r⟩:=m1 d _ hd;exact#[d,ks,r1.eq,e,λob=>k _ _ _ _ _ (h1 ob ks) (t1.trans (ls e)) (m1.put (ls e) #[bU,KR.ts (ls e) r]) GD]
def Zq:JZ a ρ M q=a ρ M λx M1=>d5 x λd=>fI (M1 d) λkvs=> ∀o ks,q (kvs.map (·.2)) (λM'=>M' d=some (.fz o ks kvs)) (um M1 d (.fz o ks kvs)):=by unfold JZ d5 fI;congr 1;funext x M1;apply propext;symm;(· rintro⟨p,l,h1,h2,h⟩;show#[p,h1,l,h2,h]);(· rintro⟨p,h1,l,h2,h⟩;show#[p,l,h1,h2,h])
end WL
namespace WQ
open PySem L2 WL WP
def XO (n:Int):Pt ->Int ->Int
 | [],_=>0
 | z::r,k=>(if z.1 % n=k then z.2 else 0)+XO n r k
def XD (F1:bD P w K mg base CX k f fd ps (fK K p1))(F2:bD P w K mg base CX k f fd ps (fK K p2))(h: ∀xs M q,p3 xs M q ->p1 xs M q \/ p2 xs M q):bD P w K mg base CX k f fd ps (fK K p3):=by exact#[λvs H Q E ⟨xs,M,q,r,m,h3,k⟩=> ?_,λA outer s H args us vs Q E hr e b v ⟨xs,M,q,r,m,h3,k⟩=> ?_];obtain h4 | h4:=h xs M q h3;show F1.len vs H Q E #[xs,M,q,r,m,h4,k];show F2.len vs H Q E #[xs,M,q,r,m,h4,k];obtain h4 | h4:=h xs M q h3;show F1.run A outer s H args us vs Q E hr e b v #[xs,M,q,r,m,h4,k];show F2.run A outer s H args us vs Q E hr e b v #[xs,M,q,r,m,h4,k]
def fl (p:Int)(m:Nat)(f:Pt):cA Int:=(List.range m).map λ(k:Nat)=>XO m f k % p
end WQ
namespace L2
open PySem PySem.Spec PyProof.Rows
theorem iu {p pos:Pos}{st:Stmt}(hP:g_ (iV X.prog X.w) X E)(C:gR X.K X.mg x ps st f fd)(F:bD X.prog X.w X.K X.mg X.base (iV X.prog X.w) k f fd ps sp)(hr:eR k X.A)(hg:Gl X x)(ha:PA X (e::es) t)(xE:(x==("__debug__" :Str))=false:=by decide)(he:starEach (e::es) X.env=(false,eval e X.env)::starEach es X.env:=by rfl)(qh:(backTo pos (starEach es X.env)).any (·.1)=false:=by rfl): PE X (.Call (.Name x p) (e::es) [] pos) (xg sp [] E t):=Ev F hr hg C.at_ C.fn.kp C.bd .nil hP ha xE he qh
end L2
namespace WQ
open PySem L2 WL WP
def ahD (s x:Int):Int:=if s=0 then x else x % s
def hI (s x:Int):Int:=if s=0 then 0 else x / s
def Sj:cA Int ->Int
 | []=>0
 | a::r=>r.foldl (λm x=>if x<m then x else m) a
def plc (l:Pt):cA Int:=l.map (·.1)
end WQ
namespace L2
open PySem
structure UJ (K:PySem.W.Frag)(mg:Str ->Option Value)(x qual:Str)(ps:List Str)(st:Stmt)(C f:Addr)(fd:FuncData):Prop where
 at_:mg x=some (.ref C)
 mkr:Mk K C f
 cl:wW K C
 fn:BL K "__init__" qual st f fd
 bd:Binds K fd ps []
theorem jG {p pos:Pos}(M:UJ X.K X.mg x qual ps st C f fd)(F:bD X.prog X.w X.K X.mg X.base fi k f fd ps sp)(hr:eR (k+1) X.A)(hg:Gl X x)(ha:PA X (e::es) t)(xE:(x==("__debug__" :Str))=false:=by decide)(he:starEach (e::es) X.env=(false,eval e X.env)::starEach es X.env:=by rfl)(qh:(backTo pos (starEach es X.env)).any (·.1)=false:=by rfl): PE X (.Call (.Name x p) (e::es) [] pos) (Ie C sp [] E0 t):=MM M.mkr F hr hg M.at_ M.bd .nil Ew ha xE he qh
end L2
namespace WL
open PySem L2
section
variable {K:WV}
theorem AU {H:Hp}{f:Str}{x:W}: ∀ {fs:cA (Str×W)} {ks:cA (Str×V)},KR K H fs ks ->fs.lookup f=Option.some x -> ∃v,ks.lookup f=Option.some v /\ WR K H x v
 | _,_, .nil,h=>by cases h
 | (g,y)::fs,(g',v)::ks, .cons ⟨e,r⟩ t,h=>by
  cases (show g=g' from e);rw[List.lookup_cons] at h ⊢;cases hb:f==g with
  | true=>rw[hb] at h;cases h;show#[v,rfl,r]
  | false=>rw[hb] at h;show AU t h
def hJ (f:Str)(v:W):cA (Str×W) ->cA (Str×W)
 | []=> [(f,v)]
 | (g,x)::r=>if g=f then(g,v)::r else(g,x)::hJ f v r
theorem EO {H:Hp}{f:Str}{x:W}{v:V}(rx:WR K H x v): ∀ {fs:cA (Str×W)} {ks:cA (Str×V)},KR K H fs ks ->KR K H (hJ f x fs) (L2.jF f v ks)
 | _,_, .nil=> .cons #[rfl,rx] .nil
 | (g,y)::fs,(g',u)::ks, .cons ⟨e,r⟩ t=>by cases (show g=g' from e);unfold hJ L2.jF;split;show .cons #[rfl,rx] t;show .cons #[rfl,r] (EO rx t)
theorem EQ {H:Hp}: ∀ {kvs:cA (Str×W)} {vs:cA (Str×V)},KR K H kvs vs ->kvs.length=vs.length
 | _,_, .nil=>rfl
 | _,_, .cons _ t=>by rw[aB,aB,EQ t]
def Mi (K:WV)(a:WE)(f:Str):WE:=λρ M q=>a ρ M λx M1=>sO λp C dx fs v=>lm (x=wr p) (M1 p=some (.ins C dx fs)) (wW K C) (d_ K C f) (fs.lookup f=some v) (q v M1)
instance {t:TE}{a:WE}{f:Str} [ia:IE K t a]:IE K (Ra K t f) (Mi K a f) where
 imp:=λρ M σ H q Q o h k=>ia.imp ρ M σ H _ _ o h λx M1 v H1 ⟨p,C,dx,fs,y,ex,hp,hc,hn,hl,h1⟩ t1 m1 r1=>by subst ex;let⟨ks,e,r⟩:=m1 p _ hp;let⟨u,hu,ru⟩:=AU r hl;show#[p,C,dx,ks,u,r1.eq,e,hc,hn,hu,k _ _ _ _ h1 t1 m1 ru]
def Ee (K:WV)(a b:WE)(f:Str):WS:=λD ρ M=>b ρ M λy M1=>a ρ M1 λx M2=>fY λp C dx fs=>lm (x=wr p) (M2 p=some (.ins C dx fs)) (wW K C) (d_ K C f) (fs.length<1000) (D.nx ρ (um M2 p (.ins C dx (hJ f y fs))))
instance {t u:TE}{a b:WE}{f:Str} [ia:IE K t a] [ib:IE K u b]:IS K (VL K t u f) (Ee K a b f) where
 imp:=λρ M σ H D' D o h e=>ib.imp ρ M σ H _ _ o h λy M1 v1 H1 h1 t1 m1 r1=>ia.imp ρ M1 σ H1 _ _ (o.mv t1 m1) h1 λx M2 v2 H2 ⟨p,C,dx,fs,ex,hp,hc,hn,hl,h2⟩ t2 m2 r2=>by subst ex;let⟨ks,ek,r⟩:=m2 p _ hp;have ts:=Q3 (u:= .ins C dx (jF f v1 ks)) ek;exact#[p,C,dx,ks,r2.eq,ek,hc,hn,by rw[<- EQ r];show hl,e.nx ρ _ σ _ h2 ((t1.trans t2).trans ts) (o.mv ((t1.trans t2).trans ts) (m2.put ts #[_,bU,KR.ts ts (EO (r1.ts t2) r)]))]
def OW (C:fP)(p:fe)(a:WA):WE:=λρ M q=>a ρ M λxs M1=> ∀x dx,M1 x=none ->M1 dx=none ->dx≠x ->p (wr x::xs) (um M1 x (.ins C dx [])) λv M2=>v=wn /\ q (wr x) M2
instance {C:fP}{p:fe}{E:XK}{t:TA}{a:WA} [ia:IA K t a]:IE K (Ie C (fK K p) [] E t) (OW C p a) where
 imp:=λρ M σ H q Q o h k=>ia.imp ρ M σ H _ _ o h λxs M1 vs H1 h1 t1 m1 r1=>λx dx hx LZ lT=>by
  have SO:cK H1 dx (.own x) x=none:=by rw[bN (du lT)];show hx
  have ts1:a8 H1 (cK H1 dx (.own x)):=L2.ge.ts (b_ LZ);have Vh:a8 (cK H1 dx (.own x)) (cK (cK H1 dx (.own x)) x (.ins C dx [])):=L2.ge.ts (b_ SO);exact#[wr x::xs,um M1 x (.ins C dx []),λv M2=>v=wn /\ q (wr x) M2,cI.cons WR.v (by rw[dI];show r1.ts (ts1.trans Vh)),(m1.new LZ).put Vh #[[],bU, .nil],h1 x dx (m1.fresh hx) (m1.fresh LZ) lT,?_];rintro y M' u H' ⟨rfl,hq⟩ ts m' r';show#[r'.eq,k _ _ _ _ hq (t1.trans ((ts1.trans Vh).trans ts)) m' WR.v]
def lS (o:e9 MO)(k:fP ->fP ->cA (Str×W) ->Prop):Prop:=eQ λC dx fs=>o=some (.ins C dx fs) /\ k C dx fs
def aa3:lS (some (.ins C dx fs)) k=k C dx fs:=by apply propext;symm;rintro⟨_,_,_,e,h⟩;cases e;show h;intro h;show#[_,_,_,rfl,h]
def QP:Mi K a f ρ M q=a ρ M λx M1=>d5 x λp=>lS (M1 p) λC dx fs=>ce (wW K C) (ce (d_ K C f) (iN (fs.lookup f) λv=>q v M1)):=by unfold Mi d5 lS ce iN;congr 1;funext x M1;apply propext;symm;rintro⟨p,C,dx,fs,v,e1,e2,e3,e4,e5,h⟩;show#[p,e1,C,dx,fs,e2,e3,e4,v,e5,h];rintro⟨p,e1,C,dx,fs,e2,e3,e4,v,e5,h⟩;show#[p,C,dx,fs,v,e1,e2,e3,e4,e5,h]
def Mz:Ee K a b f D ρ M=b ρ M λy M1=>a ρ M1 λx M2=>d5 x λp=>lS (M2 p) λC dx fs=>ce (wW K C) (ce (d_ K C f) (ce (fs.length<1000) (D.nx ρ (um M2 p (.ins C dx (hJ f y fs)))))):=by unfold Ee d5 lS ce;congr 1;funext y M1;congr 1;funext x M2;apply propext;symm;rintro⟨p,C,dx,fs,e1,e2,e3,e4,e5,h⟩;show#[p,e1,C,dx,fs,e2,e3,e4,e5,h];rintro⟨p,e1,C,dx,fs,e2,e3,e4,e5,h⟩;show#[p,C,dx,fs,e1,e2,e3,e4,e5,h]
theorem mM:OW C p a ρ M q=a ρ M λxs M1=> ∀x dx,M1 x=none ->M1 dx=none ->dx≠x ->mG p (wr x::xs) (um M1 x (.ins C dx [])) λv M2=>v=wn /\ q (wr x) M2:=rfl
end
end WL
namespace L2
open PySem
nonrec def e7 (s:Stmt)(j:Nat):Stmt:=match s with
 | .ClassDef _ _ _ b _ _ _ _ _ _ _=>b.getD j (.Pass #[0,0,0,0])
 | _=> .Pass #[0,0,0,0]
end L2
namespace L2
open PySem PySem.Spec PyProof.Rows
def Inv._W {σ:St}(I:Inv X ah σ H s)(e:H d=some (.lg o (.dK kvs)))(h0: ∀o u,X.H₀ d≠some (.lg o u)): Inv X ah σ (cK H d (.dK kvs)) s:=by
 have ne: ∀ {b u},H b=some u ->u≠ .lg o (.dK kvs) ->b≠d:=λ{b u} h n z=>by subst z;rw[e] at h;show n (bu h).symm
 have No: ∀ {b},H b=none ->b≠d:=λ{b} h z=>by subst z;rw[e] at h;cases h
 exact#[I.ok,I.os,I.bare,#[I.base.keep,I.base.slot,λb u h1 h2 h3=> ?_,I.base.there,λb xs h=> ?_,λb o' u h=> ?_,λb ps h=> ?_],I.loc,I.cell,?_,λx c h=> ?_,λp hp=> ?_,λb u h=> ?_,I.len];have z:=I.base.free b u h1 h2 h3;rw[bN (No z)];show z;have z:=I.base.ou b xs h;rw[bN (ne z (λq=>nomatch q))];show z;have z:=I.base.m_ b o' u h;have nb:b≠d:=λz=>h0 o' u (z▸h);rw[bN nb];show z;let⟨more,z⟩:=I.base.qq b ps h;show#[more,by rw[bN (ne z (λq=>nomatch q))];show z];rw[bN (No I.free)];show I.free;rw[bN (No (I.gK x c h))];show I.gK x c h;let⟨a1,a2,a3⟩:=I.pin p hp;show#[a1,by rw[bN (No a2)];show a2,a3];have ow: ∀c,H c=some (.own b) ->cK H d (.dK kvs) c=some (.own b):=λc r=>by rw[bN (ne r (λq=>nomatch q))];show r
 have tu: ∀c xs,H c=some (.tup xs) ->cK H d (.dK kvs) c=some (.tup xs):=λc xs r=>by rw[bN (ne r (λq=>nomatch q))];show r
 by_cases hb:b=d;subst hb;rw[bU] at h;cases h;have z:=(I.cN b _ e).uG (H':=cK H b (.dK kvs)) (h':=s.heap) (λ_ _ _ h=>h) ow tu;show z.2;rw[bN hb] at h;show(I.cN b u h).uG (λ_ _ _ h=>h) ow tu
end L2
namespace WL
open PySem L2
variable {K:WV}
theorem JS: ∀ {H:Hp} {kvs:cA (b8×W)} {vs:cA (b8×V)} {i:Nat} {q:b8×V},KR K H kvs vs ->vs[i]? =some q -> ∃p,cW (kvs[i]? =some p) (p.1=q.1) (WR K H p.2 q.2)
 | _,_,_,0,_, .cons ⟨e0,r⟩ _,e=>by cases e;show#[_,rfl,e0,r]
 | _,_,_,i+1,q, .cons _ t,e=>by have e':_=some q:=e;rw[List.getElem?_cons_succ] at e' ⊢;show JS t e'
theorem Q4 (h:H a=some (.lg o (.dK xs))):a8 H (cK H a u):=DL h (λ_ z=>nomatch z) λ_ _ z=>nomatch z
end WL
set_option maxHeartbeats 4000000
namespace WL
open PySem L2
def VN:Cs a b D ρ M=a ρ M λx M1=>b ρ M1 λy M2=>d5 x λp=>iZ y λk=>fI (M2 p) λkvs=>ce ((eU kvs k).isSome=true) (D.nx ρ (um M2 p (.dK (jQ kvs k)))):=by unfold Cs d5 iZ fI ce;congr 1;funext x M1;congr 1;funext y M2;apply propext;symm;rintro⟨p,kvs,k,e1,e2,e3,e4,h⟩;show#[p,e1,k,e3,kvs,e2,e4,h];rintro⟨p,e1,k,e3,kvs,e2,e4,h⟩;show#[p,kvs,k,e1,e2,e3,e4,h]
def z3 (h:M x=some (.lst l)):Vi M (.v (.ref x)) k=k (!l.isEmpty):=by apply propext;symm;rintro⟨b,⟨l',h1,h2⟩ | ⟨l',h1,_⟩,z⟩;rw[h] at h1;cases h1;rw[h2] at z;show z;rw[h] at h1;cases h1;intro z;show#[_, .inl #[l,h,rfl],z]
end WL
namespace WQ
open PySem L2 WL WP
abbrev X6:=Int×Int×Int
def putL (s:Int)(_Z:cA Pt)(tl:cA X6):Pt:=tl.flatMap λt=>(_Z.getD t.1.toNat []).map λz=>(z.1+t.2.1*s,z.2*t.2.2)
def jF (s x:Int)(_Z:cA Pt)(t:X6):Int:=fE (_Z.getD t.1.toNat []) (x - t.2.1*s)*t.2.2
end WQ
namespace L2
open PySem
def DB:Nat ->(cA c7 ->Prop) ->Prop
 | 0,p=>p []
 | n+1,p=> ∀v,DB n λus=>p (v::us)
theorem DB.to: ∀ {n:Nat} {p:cA c7 ->Prop},DB n p -> ∀us,us.length=n ->p us
 | 0,_,h,[],_=>h
 | _+1,_,h,v::us,e=>DB.to (h v) us (Nat.succ.inj e)
theorem bO {kV jq pm cdv ct:c7}(X:K.In h)(G:h.Ns mainGlobals mg)(a:W.nsIn K mainGlobals x=some (some (.ref f)))(l:K.lookup f=some #[oc,od, .func (W.fnOf x x (fh st) (dL st) (aS st) .none kV jq pm an cdv ct),CB])(c:W.codeIn K cdv x=true)(k:W.keepIn K (.ref f)=true)(b: ∀ (kV jq pm:c7) (an:e9 fP) (cdv ct:c7),DB ps.length λus=>bindArgs (W.fnOf x x (fh st) (dL st) (aS st) .none kV jq pm an cdv ct) #[us,[]]=pure (ps.zip us):=by(repeat intro _);rfl): gR K mg x ps st f (W.fnOf x x (fh st) (dL st) (aS st) .none kV jq pm an cdv ct):=#[W.mg_of X G a,rj l c k,(rj (st:=st) l c k).binds λkV jq pm an cdv ct us e=>(b kV jq pm an cdv ct).to us e]
theorem K0 {kV jq pm cdv ct:c7}(X:K.In h)(G:h.Ns mainGlobals mg)(a:W.nsIn K mainGlobals x=some (some (.ref C)))(g:W.findIn K (.ref C) "__init__" =some (some (.ref f)))(l:K.lookup f=some #[oc,od, .func (W.fnOf "__init__" q (fh st) (dL st) (aS st) .none kV jq pm an cdv ct),CB])(c:W.codeIn K cdv q=true)(k:W.keepIn K (.ref f)=true)(h1:W.makesIn K C=true)(h2:W.isFn K (.ref f)=true)(h3:W.keepIn K (.ref C)=true)(h4:W.plainGet K C Str.empty=true)(h5:W.hasDictIn K C=true)(h6:W.plainOver K C=true)(h7:W.findIn K (.ref C) "__setattr__" =some (some (.builtin "object.__setattr__")))(b: ∀ (kV jq pm:c7) (an:e9 fP) (cdv ct:c7),DB ps.length λus=>bindArgs (W.fnOf "__init__" q (fh st) (dL st) (aS st) .none kV jq pm an cdv ct) #[us,[]]=pure (ps.zip us):=by(repeat intro _);rfl): UJ K mg x q ps st C f (W.fnOf "__init__" q (fh st) (dL st) (aS st) .none kV jq pm an cdv ct):=#[W.mg_of X G a,#[h1,g,h2,h3],#[h4,h5,h6,h7],rj l c k,(rj (st:=st) l c k).binds λkV jq pm an cdv ct us e=>(b kV jq pm an cdv ct).to us e]
theorem u_ (_:UJ K mg x q ps st C f fd)(a:Str)(e:W.findIn K (.ref C) a=some none):d_ K C a:=e
theorem UL (a:W.nsIn K mainGlobals x=some (some (.ref C)))(e:W.excIn K C XQ "ValueError.__new__" =true)(k1:W.clsIn K C=some cd)(k2:W.findIn K (.ref C) "__getattribute__" =some (some (.builtin "BaseException.__getattribute__")))(k3:W.findIn K (.ref C) "__getattr__" =some none)(k4:W.findIn K (.ref C) "__class__" =some (some (.builtin "object.__class__")))(k5:W.mroIn K C (.type "object")=some true)(k6:W.mroIn K C (.type "BaseException")=some true):qa K x C:=#[a,e,(by rw[k1];rfl),k2,k3,k4,k5,k6]
def Sk {l:W.OpenLaw}(T:gR K mg "law" [p] st f fd)(hfa:mg "law" =some (.ref fa))(hb: ∀ (kV jq pm:c7) (an:e9 fP) (cdv ct v:c7),bindArgs (W.fnOf "law" "law" (fh st) (dL st) (aS st) .none kV jq pm an cdv ct) #[[v],[]]=pure [(p,v)])(ok: ∀base,bD l.prog w K mg base fi kd f fd [p] (WQ.Ae K)): ∃fd:FuncData,(∀ (s:dz) (v:c7),BindsTo s fd #[[v],[]] [(p,v)]) /\ ∀base:Heap,K.In base ->base.Ns mainGlobals mg ->bD l.prog w K mg base fi kd fa fd [p] (WQ.Ae K):=by have e:=hfa.symm.trans T.at_;cases e;let⟨oc,od,kV,jq,pm,an,cdv,ct,CB,rfl,lk,E5⟩:=T.fn.ex;show#[_,λs v=> .of_eq (hb kV jq pm an cdv ct v),λbase _ _=>ok base]
end L2
namespace WQ
open PySem L2 WL WP
def lc:cA Int ->cA (Int ->Int) ->Int ->Int
 | v::vs,g::gs,x=>v*g x+lc vs gs x
 | _,_,_=>0
def fam (s:Int)(b:Pt):Int ->Nat ->cA (Int ->Int)
 | _,0=> []
 | lo,n+1=>(λx=>look b (x - s*lo))::fam s b (lo+1) n
def cps (s:Int)(G:cA (Pt×Int×Nat)):cA (Int ->Int):=G.flatMap λg=>fam s g.1 g.2.1 g.2.2
def N5 (q js:Pt):Pt:=js.flatMap λj=>tm j.2 (mv j.1 q)
def aal (s Z c:Int):Nat:=if s=0 then(Z - c+1).toNat else(s - c).toNat
def fW (s:Int)(a:Pt):W:=if plc a= [] then wn else wi (Sj ((plc a).map (ahD s)))
def mz (s Z K c:Int)(q:Nat):Nat:=aal s Z c*(K.toNat+2)+q
end WQ
namespace L2
open PySem
def bw (hK:X.K=K)(he:PE X e ta)(hb:attributeBase e f X.env (eval e X.env)=eval e X.env):PE X (.Attribute e f pos) (Ra K ta f):=by subst hK;show RF he hb
end L2
namespace L2
open PySem PySem.Spec PyProof.Rows
def Ek:V ->cA V ->Hp ->VK ->Prop:=λx vs H Q=>eQ λl xs y=> ∃i:Nat,lm (x= .ref l) (vs= [.int i,y]) (H l=some (.lst xs)) (xs.length<sizeLine) (i<=xs.length) (Q .d3 (cK H l (.lst (xs.take i++y::xs.drop i))))
def xv:X9 X "list.insert" Ek:=by
 intro ah s σ H x vs v us Q I rx rv h;let⟨l,xs,y,i,rfl,rfl,hH,hz,hi,q⟩:=h;cases rx;let⟨u0,u,rfl,⟨tk,rfl⟩,ru⟩:=rv.two;let⟨z,bJ,n,r,hl,e⟩:=I.AN hH;have hf:Builtin.List.listFitsIndex (i:Int)=true:=by have hs:=cR;unfold Builtin.List.listFitsIndex;rw[cz,dq,dq];lia
 let⟨x,hx⟩: ∃x:Int,x=(i:Int):=#[_,rfl]
 rw[<- hx] at hf ⊢;exact call_meets F.slot_list_insert #[_,e,rfl] F.entry_list_insert (F.args_list_insert_3 _ _ _) (PySem.AutoSeq1.list_insert_list_int_val_1 l bJ.toArray n x tk u (by simp[hf]) (by rw[aM];lia)) #[e,?_];exact#[.d3,_,I.JI (its':=bJ.take i++u::bJ.drop i) hH e ?_ ((r.take i).append (.cons ru (r.drop i))) ?_,rfl,q];have hk:(if x<0 then(x+(bJ.toArray.size:Int)).toNat else min x.toNat bJ.toArray.size)=i:=by rw[ak ∅,aM];lia
 change(bJ.toArray.extract 0 (if x<0 then(x+(bJ.toArray.size:Int)).toNat else min x.toNat bJ.toArray.size)).push u++bJ.toArray.extract (if x<0 then(x+(bJ.toArray.size:Int)).toNat else min x.toNat bJ.toArray.size)=_;rw[hk];apply Array.toList_inj.mp;simp;show List.take_of_length_le (by simp);rw[aD,aB,bP,List.length_drop];lia
end L2
namespace WL
open PySem L2
section
variable {K:WV}{M:Mp}{q:WK}
def Mh:WM:=λx ys M q=>eQ λa l y=> ∃i:Nat,lm (x=wr a) (ys= [wi i,y]) (M a=some (.lst l)) (l.length<sizeLine) (i<=l.length) (q wn (um M a (.lst (l.take i++y::l.drop i))))
instance:IM K Ek Mh where
 imp:=by rintro x v ys us M H q Q m r1 r2 ⟨a,l,y,i,rfl,rfl,hl,hn,hi,h⟩ k;cases r1.eq;let⟨u0,u,rfl,r0,r⟩:=r2.two;cases r0.eq;let⟨vs,hv,rr⟩:=m a _ hl;show#[a,vs,u,i,rfl,rfl,hv,by rw[rr.length];show hn,by rw[rr.length];show hi,k _ _ _ _ h (iB hv) (m.putL hv ((rr.take i).append (.cons r (rr.drop i)))) WR.v]
end
end WL
namespace WQ
open PySem L2 WL WP
def lpk (k:Int):cA Int ->Pt
 | []=> []
 | v::r=>(k,v)::lpk (k+1) r
def lp (l:cA Int):Pt:=lpk 0 l
end WQ
namespace L2
open PySem
structure p_ (K:PySem.W.Frag)(m qual:Str)(ps:List Str)(st:Stmt)(C f:Addr)(fd:FuncData):Prop where
 Ug:Li K C m f
 cl:wW K C
 fn:BL K m qual st f fd
 bd:Binds K fd ps []
theorem ez {pos dH:Pos}{pl:Sem Bool}(M:p_ X.K m qual ps st C f fd)(F:bD X.prog X.w X.K X.mg X.base fi k f fd ps sp)(hr:eR k X.A)(he:PE X o ta)(ha:PA X (e::es) t)(uk:starEach (e::es) X.env=(false,eval e X.env)::starEach es X.env:=by rfl)(qh:(backTo pos (starEach es X.env)).any (·.1)=false:=by rfl)(ht:eval (.Call (.Attribute o m dH) (e::es) [] pos) X.env=(do
  let ov <- eval o X.env
  standAt dH.atName
  let (f,first) <- holding [ov] (getMethod ov m pl)
  callWith pos f first (backTo pos (starEach (e::es) X.env)) (backToKw pos (keywordEach [] X.env))):=by rfl):
 PE X (.Call (.Attribute o m dH) (e::es) [] pos) (rF C m sp [] E0 ta t):=Eu he M.cl M.Ug F hr M.bd .nil Ew ha uk qh ht
theorem iq (M:p_ X.K m qual ps st C f fd)(F:bD X.prog X.w X.K X.mg X.base fi k f fd ps sp)(hr:eR k X.A)(he:PE X o ta)(ht:eval (.Call (.Attribute o m dH) [] [] pos) X.env=(do
  let ov <- eval o X.env
  standAt dH.atName
  let (f,first) <- holding [ov] (getMethod ov m pl)
  callWith pos f first (backTo pos (starEach [] X.env)) (backToKw pos (keywordEach [] X.env))):=by rfl):
 PE X (.Call (.Attribute o m dH) [] [] pos) (rF C m sp [] E0 ta FQ):=Ax he M.cl M.Ug F hr M.bd .nil Ew ht
theorem vn (X:K.In h)(G:h.Ns mainGlobals mg)(a:W.nsIn K mainGlobals x=some (some (.int n t))): ∃t,mg x=some (.int n t):=#[t,W.mg_of X G a]
theorem dZ {kV jq pm cdv ct:c7}(c0:UJ K mg x q' ps' bH C g fd')(a:W.findIn K (.ref C) m=some (some (.ref f)))(l:K.lookup f=some #[oc,od, .func (W.fnOf m q (fh st) (dL st) (aS st) .none kV jq pm an cdv ct),CB])(c:W.codeIn K cdv q=true)(k:W.keepIn K (.ref f)=true)(h2:W.isFn K (.ref f)=true)(b: ∀ (kV jq pm:c7) (an:e9 fP) (cdv ct:c7),DB ps.length λus=>bindArgs (W.fnOf m q (fh st) (dL st) (aS st) .none kV jq pm an cdv ct) #[us,[]]=pure (ps.zip us):=by(repeat intro _);rfl): p_ K m q ps st C f (W.fnOf m q (fh st) (dL st) (aS st) .none kV jq pm an cdv ct):=#[#[a,h2,k],c0.cl,rj l c k,(rj (st:=st) l c k).binds λkV jq pm an cdv ct us e=>(b kV jq pm an cdv ct).to us e]
end L2
namespace WL
open PySem L2
section
variable {K:WV}
theorem vi {H:Hp}{f:Str}: ∀ {fs:cA (Str×W)} {ks:cA (Str×V)},KR K H fs ks ->fs.lookup f=Option.none ->ks.lookup f=Option.none
 | _,_, .nil,_=>rfl
 | (g,y)::fs,(g',v)::ks, .cons ⟨e,r⟩ t,h=>by
  cases (show g=g' from e);rw[List.lookup_cons] at h ⊢;cases hb:f==g with
  | true=>rw[hb] at h;cases h
  | false=>rw[hb] at h;show vi t h
def DI (C:fP)(m:Str)(p:fe)(a:WE)(b:WA):WE:=λρ M q=>a ρ M λx M1=>eQ λ(o dx:fP) (fs:cA (Str×W))=>fj (x=wr o) (M1 o=some (.ins C dx fs)) (fs.lookup m=none) (b ρ M1 λxs M2=>p (x::xs) M2 q)
instance {C:fP}{m:Str}{p:fe}{E:XK}{t:TE}{u:TA}{a:WE}{b:WA} [ia:IE K t a] [ib:IA K u b]:IE K (rF C m (fK K p) [] E t u) (DI C m p a b) where
 imp:=λρ M σ H q Q o h k=>ia.imp ρ M σ H _ _ o h λx M1 v H1 ⟨ad,dx,fs,ex,hp,hl,h1⟩ t1 m1 r1=>by subst ex;let⟨ks,e,r⟩:=m1 ad _ hp;exact#[ad,dx,ks,r1.eq,e,vi r hl,ib.imp ρ M1 σ H1 _ _ (o.mv t1 m1) h1 λxs M2 vs H2 h2 t2 m2 r2=> ?_];exact#[wr ad::xs,M2,q,cI.cons (r1.ts t2) (by rw[dI];show r2),m2,h2,?_];intro y M' u H' hq ts m' r';show k _ _ _ _ hq ((t1.trans t2).trans ts) m' r'
def Mf:DI C m p a b ρ M q=a ρ M λx M1=>d5 x λo=>lS (M1 o) λC' _ fs=>ce (C'=C /\ fs.lookup m=none) (b ρ M1 λxs M2=>mG p (x::xs) M2 q):=by unfold DI d5 lS ce mG;congr 1;funext x M1;apply propext;symm;rintro⟨o,dx,fs,e1,e2,e3,h⟩;show#[o,e1,C,dx,fs,e2,#[rfl,e3],h];rintro⟨o,e1,C',dx,fs,e2,⟨rfl,e3⟩,h⟩;show#[o,dx,fs,e1,e2,e3,h]
end
end WL
namespace WQ
open PySem L2 WL WP
def Pu:fe:=λxs M q=>eQ λ(p:Int) (a:Rd) (n:Int)=>BG (xs= [wi p,gv a,wi n]) (0<p) (p<1000) (dQ p a.2) (a.2.length<=40000) (n<0) (a.1≠0 -> -100000<n /\ n<100000 /\ a.2.length*n.natAbs<=100000) (∀r:Rd,hW p a n r ->(a.1=0 ->r.2.length<=a.2.length) ->(a.1≠0 ->r.2.length<=a.2.length*n.natAbs) ->q (gv r) M)
def MQ:RM xs M q ->Pw xs M q \/ Pu xs M q:=by rintro⟨p,a,n,rfl,p0,p1,hP,hl,hb,k⟩;by_cases hn:n<0;show .inr #[p,a,n,rfl,p0,p1,hP,hl,hn,hb,k];exact .inl #[p,a,n,rfl,p0,p1,hP,hl, ∅,λh=> ?_,k];let⟨_,h2,h3⟩:=hb h;have e:n.toNat=n.natAbs:= ∅;rw[e];show#[h2,h3]
end WQ
namespace L2
open PySem PyProof.Rows PyProof.V PySem.Calls PySem.Spec
inductive BH (X:Cx):List ExceptHandler ->List (Addr×TS) ->Prop
 | nil:BH X [] []
 | cons {x:Str} {np SV:Pos} {b₀:Stmt} {DS:List Stmt} {C:Addr} {ts:TS} {cQ:List ExceptHandler} {al:List (Addr×TS)} (hg:Gl X x) (O:qa X.K x C) (hsu: ∀ea,zS (X.rX (.ref ea)) (b₀::DS) ts) (r:BH X cQ al) (xE:(x==("__debug__" :Str))=false:=by decide): BH X (.ExceptHandler (some (.Name x np)) none (b₀::DS) SV::cQ) ((C,ts)::al)
def uE (K:WV):cA (fP×TS) ->fP ->TS
 | [],_=>λ_ _ _=>False
 | (D,ts)::r,C=>λE σ H=> ∃b,cW (W.kitOne K (.ref C) (.ref D)=some b) (b=true ->ts E σ H) (b=false ->uE K r C E σ H)
def N_ {K:WV}(X:K.In h)(kD:Yd K D)(lT:C≠D)(he:h.get? e=some oe)(hc:oe.cls= .ref C)(hk:W.kitOne K (.ref C) (.ref D)=some b): W.Looks M h (excMatches (.ref e) (.ref D)) b:=by
 exact W.exm_one (cls:= .ref C) X (Tn he hc) ?_;have e1:(W.subIn K (.ref D) (.type "BaseException")==some true)=true:=by change(W.mroIn K D (.type "BaseException")==some true)=true;rw[kD.mb];rfl
 unfold W.exmOne;rw[ao e1];unfold W.kitOne at hk;rwa [ak (λz=>lT (Value.ref.inj (beq_iff_eq.mp z)))] at hk
def sJ {σ:St}{E0:XK}(uk:X.stack=X.env::X.outer)(GO:X.env.frame=some X.env.locals)(I:Inv X ah σ H1 s1)(fl:iV X.prog X.w X.stack H1 s1 E0 ev s')(ph:BH X hs al)(k: ∀cls d H',E0 cls d H' -> ∃C,cls= .ref C /\ ∀ea,H' ea=none ->a8 H1 (cK H' ea (.ext (h_ ea C))) ->uE X.K al C D σ (cK H' ea (.ext (h_ ea C)))): wpAny (model X.prog X.w) X.A (noteFrame ev X.env) (λ_ s₂=>wpAny (model X.prog X.w) X.A (setFlight ev none) (λ_ s₃=>wpAny (model X.prog X.w) X.A (handleBy ev X.env hs) (SP X ah D) X.xe s₃) X.xe s₂) X.xe s':=by
 let⟨ea,cls,a0,B,H2,rfl,os,bare,fl,cN,E3,un,kb,kt,hE⟩:=fl;let⟨C,rfl,kk⟩:=k _ _ _ hE;exact wpAny_looks_onW (by rw[I.ok.frames,uk]) GO (uk▸fl) λh₄ Xn up₄=> ?_;exact wpAny_landsW Xn λh₅ ZI up₅=> ?_;rw[<- uk] at ZI;let⟨I5,ts5⟩:=vm I os bare fl cN E3 un kb kt ZI (up₄.trans up₅) (tk:=s'.toks);let⟨ob,hob,Xb⟩:=ZI.there;have key:=kk ea E3 ts5;clear kk k;induction ph with
 | nil=>show key.elim
 | @cons x np SV b₀ DS D' ts cQ al' hg O hsu r xE ih=>
  let⟨b,hk,ht,hf⟩:=key;have O':=Ez I.ok.mod O.ns O.exc;exact wpAny_handleBy_cons (codeAny_handlers_test (Nr I5 hg O'.bound ?_ xE)) (by intro q;cases q);have good:b=true ->codeAny (model X.prog X.w) (X.A.mark (some (.ref ea))) (.handlers (.ref ea) [.ExceptHandler none none (b₀::DS) SV] X.env) (λr s₂=>match r with
  | .ok f=>SP X ah D f s₂
  | .error x=>cameBackBy (model X.prog X.w) X.A X.env X.xe x s₂) {s' with heap:=h₅}:=λhb=>by
   exact codeAny_handlers_suite ?_
   exact PyProof.Rows.lands_againW ZI λh₆ fl₆ up₆=> ?_
   let⟨I6,ts⟩:=vm I os bare fl cN E3 un kb kt fl₆ ((up₄.trans up₅).trans up₆) (tk:=s'.toks)
   exact bE (hsu ea ah _ σ _ D (I6.rX (.ref ea)) (ht hb)) (λf s8 h8=> ?_) λ_ _ z=>z.elim
   cases f with
   | next=>let⟨σ',H3,I8,q⟩:=h8;show#[_,_,I8.yR I.ok,q]
   | brk=>let⟨σ',H3,I8,q⟩:=h8;show#[_,_,I8.yR I.ok,q]
   | cont=>let⟨σ',H3,I8,q⟩:=h8;show#[_,_,I8.yR I.ok,q]
   | ret u=>let⟨v,σ',H3,I8,r,q⟩:=h8;show#[v,_,_,I8.yR I.ok,r,q]
  by_cases hCD:C=D';subst hCD;have hb:b=true:=by unfold W.kitOne at hk;rw[ao (beq_self_eq_true _)] at hk;show(bu hk).symm
  let⟨bm,N,nm,qn,bs,hdct,sn,sub,ab,col,dd,k0,k1,k2,k3,k5,mN,hC,Qj,GK,TL⟩:=(O'.keeps I5.bk).obj;exact wpAny_excMatches_sub_self hC hob Xb (TL.hasType (by decide+kernel)) ?_;show good hb;exact(N_ (M:=model X.prog X.w) I5.nz O.k hCD hob Xb hk).here ?_;cases b with
  | true=>show good rfl
  | false=>show ih (hf rfl)
def O4 (K:WV)(sp:Sp)(iy:Nat)(ta:TA)(al:cA (fP×TS)):TS:=λD σ H=>ta σ H λvs H1=>sp (vs++ []) H1 (λv H2=>D.nx (σ.set iy (some v)) H2) λcls _ H'=> ∃C,cls= .ref C /\ ∀ea,H' ea=none ->a8 H1 (cK H' ea (.ext (h_ ea C))) ->uE K al C D σ (cK H' ea (.ext (h_ ea C)))
def MG {p yp dk dH pos:Pos}{st:Stmt}(uk:X.stack=X.env::X.outer)(GO:X.env.frame=some X.env.locals)(C:gR X.K X.mg fx ps st f fd)(F:bD X.prog X.w X.K X.mg X.base (iV X.prog X.w) k f fd ps sp)(hr:eR k X.A)(hgf:Gl X fx)(ha:PA X.LL (e₀::es) ta)(hN:X.N.Nodup)(hiy:X.N[iy]? =some y)(hy:X.env.kindOf y=some .local)(ph:BH X (h₀::hs) al)(gJ:swapsWith (.Call (.Name fx p) (e₀::es) [] dk) (some (.Name y yp)) dH.line X.env=pure false:=by rfl)(Td:(fx==("__debug__" :Str))=false:=by decide)(he:starEach (e₀::es) X.env=(false,eval e₀ X.env)::starEach es X.env:=by rfl)(qh:(backTo dk (starEach es X.env)).any (·.1)=false:=by rfl): PS X (.Try [.Assign [.Name y yp] (.Call (.Name fx p) (e₀::es) [] dk) dH] (h₀::hs) [] [] pos) (O4 X.K sp iy ta al):=by
 intro ah s σ H D I h;exact wpAny_Try_except (wpAny_execs_cons (wpAny_Assign_Name (wpAny_Call_Name_kw (pi I hgf C.at_ ?_ Td)) gJ));exact W.callWith_K (h₀:=X.base) I.ok.mod.PY C.fn.kp (bE (ha dk ah s σ H _ (I.qk _) h) (λus s1 ⟨vs,H1,I1,r,q⟩=>#[I1.nz,?_]) λ_ _ z=>z.elim) he qh;have I1:=I1.iA;have r2:cb (vs++ []) (us++ []):=r.append .nil;have hl:(us++ []).length=ps.length:=by rw[<- r2.length];show F.len _ _ _ _ q
 exact wpAny_call (codeAny_mono (F.run X.A X.stack s1 H1 #[us,[]] (us++ []) (vs++ []) _ _ hr I1.Oa (C.bd s1 us I1.nz hl) r2 q) λr s2 hq=> ?_);cases r with
 | error ev=>have hq2:iV X.prog X.w X.stack H1 s1 (λcls _ H'=> ∃C,cls= .ref C /\ ∀ea,H' ea=none ->a8 H1 (cK H' ea (.ext (h_ ea C))) ->uE X.K al C D σ (cK H' ea (.ext (h_ ea C)))) ev s2:=hq;show sJ uk GO I1 hq2 ph λcls d H' z=>z
 | ok fl=>
  cases fl with
  | ret u=>let⟨v,H2,I2,r,q2⟩:=I1.after hq;show oz I2 hN hiy (.inl hy) r (λs3 I3=>wpAny_execs_nil (wpAny_execs_nil #[_,_,I3,q2])) (.inr hy)
  | next=>show False.elim hq
  | brk=>show False.elim hq
  | cont=>show False.elim hq
def Vp (K:WV)(C:fP)(m:Str)(sp:Sp)(te:TE)(ta:TA)(al:cA (fP×TS)):TS:=λD σ H=>te σ H λx H0=>eQ λ(a dx:fP) (fs:cA (Str×V))=>fj (x= .ref a) (H0 a=some (.ins C dx fs)) (fs.lookup m=none) (ta σ H0 λvs H1=>sp (.ref a::(vs++ [])) H1 (λv H2=>D.nx σ H2) λcls _ H'=> ∃C,cls= .ref C /\ ∀ea,H' ea=none ->a8 H1 (cK H' ea (.ext (h_ ea C))) ->uE K al C D σ (cK H' ea (.ext (h_ ea C))))
theorem Y6 {dk dH XI pos:Pos}{st:Stmt}{pl:Sem Bool}(uk:X.stack=X.env::X.outer)(GO:X.env.frame=some X.env.locals)(M:p_ X.K m qual ps st C f fd)(F:bD X.prog X.w X.K X.mg X.base (iV X.prog X.w) k f fd ps sp)(hr:eR k X.A)(ho:PE X.LL o te)(ha:PA X.LL (e₀::es) ta)(ph:BH X (h₀::hs) al)(he:starEach (e₀::es) X.env=(false,eval e₀ X.env)::starEach es X.env:=by rfl)(qh:(backTo dk (starEach es X.env)).any (·.1)=false:=by rfl)(ht:eval (.Call (.Attribute o m dH) (e₀::es) [] dk) X.env=(do
   let ov <- eval o X.env
   standAt dH.atName
   let (f,first) <- holding [ov] (getMethod ov m pl)
   callWith dk f first (backTo dk (starEach (e₀::es) X.env)) (backToKw dk (keywordEach [] X.env))):=by rfl)(hsw:swapsWith (.Call (.Attribute o m dH) (e₀::es) [] dk) none XI.line X.env=pure false:=by rfl):
  PS X (.Try [.Expr (.Call (.Attribute o m dH) (e₀::es) [] dk) XI] (h₀::hs) [] [] pos) (Vp X.K C m sp te ta al):=by
 intro ah s σ H D I h
 exact wpAny_Try_except (wpAny_execs_cons (wpAny_Expr_any ?_ I.quiet hsw))
 exact W.methodCall_KW (pl:=pl) (bE (ho ah s σ H _ (I.qk _) h) (λu s1 ⟨x,H0,I0,rx,a,dx,fs,ex,ea,l,q⟩=> ?_) λ_ _ z=>z.elim) ht
 subst ex
 obtain rfl:u=Value.ref a:=rx
 have I0:=I0.iA
 exact j9 I0 ea M.cl M.Ug l ?_
 exact W.callWith_K (first:= [.ref a]) (h₀:=X.base) I.ok.mod.PY M.Ug.kp (bE (ha dk ah s1 σ H0 _ (I0.qk _) q) (λus s2 ⟨vs,H1,I1,r,q⟩=>#[I1.nz,?_]) λ_ _ z=>z.elim) he qh
 have I1:=I1.iA
 have r2:cb (.ref a::(vs++ [])) (.ref a::us++ []):= .cons rfl (r.append .nil)
 have hl:(Value.ref a::us++ []).length=ps.length:=by rw[<- r2.length];show F.len _ _ _ _ q
 exact wpAny_call (codeAny_mono (F.run X.A X.stack s2 H1 #[.ref a::us,[]] (.ref a::us++ []) (.ref a::(vs++ [])) _ _ hr I1.Oa (M.bd s2 (.ref a::us) I1.nz hl) r2 q) λr s3 hq=> ?_)
 cases r with
 | error ev=>have hq2:iV X.prog X.w X.stack H1 s2 (λcls _ H'=> ∃C,cls= .ref C /\ ∀ea,H' ea=none ->a8 H1 (cK H' ea (.ext (h_ ea C))) ->uE X.K al C D σ (cK H' ea (.ext (h_ ea C)))) ev s3:=hq;show sJ uk GO I1 hq2 ph λcls d H' z=>z
 | ok fl=>
  cases fl with
  | ret u=>let⟨v,H2,I2,r,q2⟩:=I1.after hq;show wpAny_execs_nil (wpAny_execs_nil #[_,_,I2,q2])
  | next=>show False.elim hq
  | brk=>show False.elim hq
  | cont=>show False.elim hq
theorem cr {st:Stmt}{pos dH:Pos}{pl:Sem Bool}(hP:g_ (iV X.prog X.w) X E)(M:p_ X.K m qual ps st C f fd)(F:bD X.prog X.w X.K X.mg X.base (iV X.prog X.w) k f fd ps sp)(hr:eR k X.A)(he:PE X o ta)(ha:PA X (e::es) t)(uk:starEach (e::es) X.env=(false,eval e X.env)::starEach es X.env:=by rfl)(qh:(backTo pos (starEach es X.env)).any (·.1)=false:=by rfl)(ht:eval (.Call (.Attribute o m dH) (e::es) [] pos) X.env=(do
  let ov <- eval o X.env
  standAt dH.atName
  let (f,first) <- holding [ov] (getMethod ov m pl)
  callWith pos f first (backTo pos (starEach (e::es) X.env)) (backToKw pos (keywordEach [] X.env))):=by rfl):
 PE X (.Call (.Attribute o m dH) (e::es) [] pos) (rF C m sp [] E ta t):=Eu he M.cl M.Ug F hr M.bd .nil hP ha uk qh ht
theorem xr {st:Stmt}(hP:g_ (iV X.prog X.w) X E)(M:p_ X.K m qual ps st C f fd)(F:bD X.prog X.w X.K X.mg X.base (iV X.prog X.w) k f fd ps sp)(hr:eR k X.A)(he:PE X o ta)(ht:eval (.Call (.Attribute o m dH) [] [] pos) X.env=(do
  let ov <- eval o X.env
  standAt dH.atName
  let (f,first) <- holding [ov] (getMethod ov m pl)
  callWith pos f first (backTo pos (starEach [] X.env)) (backToKw pos (keywordEach [] X.env))):=by rfl):
 PE X (.Call (.Attribute o m dH) [] [] pos) (rF C m sp [] E ta FQ):=Ax he M.cl M.Ug F hr M.bd .nil hP ht
theorem bD.calm {K:WV}(F:bD P w K mg base (iV P w) k f fd ps sp)(h: ∀vs H Q E,BX vs H Q E ->sp vs H Q E0):bD P w K mg base fi k f fd ps BX:=#[λvs H Q E z=>F.len vs H Q _ (h vs H Q E z),λA outer s H args us vs Q E hr e0 hb hv z=>codeAny_mono (F.run A outer s H args us vs Q E0 hr e0 hb hv (h vs H Q E z)) λr s' hq=>by
 cases r with
 | error ev=>let⟨_,_,_,_,_,_,_,_,_,_,_,_,_,_,q⟩:=(show iV P w outer H s E0 ev s' from hq);show q.elim
 | ok fl=>cases fl<;>show hq]
end L2
namespace WL
open PySem L2
section
variable {K:WV}
def VI (p:fc):fe:=λxs M q=>p xs M q λ_ _=>False
theorem Fz (F:bD P w K mg base (iV P w) k f fd ps (t_ K p)):bD P w K mg base fi k f fd ps (fK K (VI p)):=F.calm λvs H Q E ⟨xs,M,q,r,m,h,k⟩=>#[xs,M,q,_,r,m,h,k,λ_ _ _ z=>z.elim]
def yq (C:fP)(m:Str)(p:fc)(e:WX)(a:WE)(b:WA):WE:=λρ M q=>a ρ M λx M1=>eQ λ(o dx:fP) (fs:cA (Str×W))=>fj (x=wr o) (M1 o=some (.ins C dx fs)) (fs.lookup m=none) (b ρ M1 λxs M2=>p (x::xs) M2 q (up e))
instance {C:fP}{m:Str}{p:fc}{e:WX}{t:TE}{u:TA}{a:WE}{b:WA} [ia:IE K t a] [ib:IA K u b]:IE K (rF C m (t_ K p) [] (Ex K e) t u) (yq C m p e a b) where
 imp :=λρ M σ H q Q o h k=>ia.imp ρ M σ H _ _ o h λx M1 v H1 ⟨ad,dx,fs,ex,hp,hl,h1⟩ t1 m1 r1=>by subst ex;let⟨ks,e,r⟩:=m1 ad _ hp;exact#[ad,dx,ks,r1.eq,e,vi r hl,ib.imp ρ M1 σ H1 _ _ (o.mv t1 m1) h1 λxs M2 vs H2 h2 t2 m2 r2=> ?_];exact#[wr ad::xs,M2,q,_,cI.cons (r1.ts t2) (by rw[dI];show r2),m2,h2,?_,?_];intro y M' u H' hq ts m' r';show k _ _ _ _ hq ((t1.trans t2).trans ts) m' r';rintro C M' H' ⟨M0,s,h⟩ m;show#[C,M0,rfl,h,m.sub s]
def sK (p:fc)(xs:cA W)(M:Mp)(q:WK)(e:WX):Prop:=p xs M q e
def HG:yq C m p e a b ρ M q=a ρ M λx M1=>d5 x λo=>lS (M1 o) λC' _ fs=>ce (C'=C /\ fs.lookup m=none) (b ρ M1 λxs M2=>sK p (x::xs) M2 q (up e)):=by unfold yq d5 lS ce sK;congr 1;funext x M1;apply propext;symm;rintro⟨o,dx,fs,e1,e2,e3,h⟩;show#[o,e1,C,dx,fs,e2,#[rfl,e3],h];rintro⟨o,e1,C',dx,fs,e2,⟨rfl,e3⟩,h⟩;show#[o,dx,fs,e1,e2,e3,h]
theorem Va:Cg p e a ρ M q=a ρ M λxs M1=>sK p xs M1 q (up e):=rfl
theorem UW:Cc C e a D ρ M=a ρ M λxs M'=>ce (xs.length<=sizeLine) (up e C M'):=rfl
def rE (K:WV):cA (fP×WS) ->fP ->WS
 | [],_=>λ_ _ _=>False
 | (D,s)::r,C=>λE ρ M=> ∃b,cW (W.kitOne K (.ref C) (.ref D)=some b) (b=true ->s E ρ M) (b=false ->rE K r C E ρ M)
class ZV (K:PySem.W.Frag) (t:List (Addr×TS)) (w:outParam (List (Addr×WS))):Prop where
 imp: ∀ (C:Addr) (ρ:cc) (M:Mp) (σ:L2.St) (H:Hp) (D':fA) (D:we),Ok K ρ M σ H ->rE K w C D' ρ M ->mJ K H D' D ->uE K t C D σ H
instance:ZV K [] [] where
 imp:=λ_ _ _ _ _ _ _ _ h _=>h.elim
instance {D:fP}{t:TS}{s:WS}{r:cA (fP×TS)}{r':cA (fP×WS)} [is:IS K t s] [ir:ZV K r r']:ZV K ((D,t)::r) ((D,s)::r') where
 imp:=λC ρ M σ H D' D o ⟨b,hk,h1,h2⟩ e=>#[b,hk,λhb=>is.imp ρ M σ H D' D o (h1 hb) e,λhb=>ir.imp C ρ M σ H D' D o (h2 hb) e]
theorem X1 (hk:W.kitOne K (.ref C) (.ref D)=some true)(h:s E ρ M):rE K ((D,s)::r) C E ρ M:=#[true, .mk hk (λ_=>h) λz=>nomatch z]
theorem cE (hk:W.kitOne K (.ref C) (.ref D)=some false)(h:rE K r C E ρ M):rE K ((D,s)::r) C E ρ M:=#[false, .mk hk (λz=>nomatch z) λ_=>h]
theorem nK (h:s E ρ M):rE K ((C,s)::r) C E ρ M:=X1 (by unfold W.kitOne;rw[ao (beq_self_eq_true _)]) h
theorem mJ.of (e:mJ K H D' D)(t1:a8 H H1)(t2:a8 H1 H2):mJ K H2 D' D:=(e.mv t1).mv t2
def OS (K:WV)(p:fc)(iy:Nat)(a:WA)(al:cA (fP×WS)):WS:=λD ρ M=>a ρ M λxs M1=>p xs M1 (λx M2=>D.nx (ρ.set iy (some x)) M2) λC M'=> ∀ea,M' ea=none ->rE K al C D ρ (um M' ea (.exc C))
instance {p:fc}{iy:Nat}{t:TA}{a:WA}{al:cA (fP×TS)}{wl:cA (fP×WS)} [ia:IA K t a] [il:ZV K al wl]:IS K (O4 K (t_ K p) iy t al) (OS K p iy a wl) where
 imp:=λρ M σ H D' D o h To=>ia.imp ρ M σ H _ _ o h λx M1 v H1 h1 t1 m1 r1=>#[x,M1,_,_,by rw[dI];show r1,m1,h1,λy M4 v4 H4 h4 t4 m4 r4=>To.nx _ _ _ _ h4 (t1.trans t4) #[(o.env.ts (t1.trans t4)).set iy r4,m4],λC M' H' h2 m=>#[C,rfl,λea E3 tsm=>il.imp C _ (um M' ea (.exc C)) _ _ D' D #[o.env.ts (t1.trans tsm),m.put (L2.ge.ts (b_ E3)) bU] (h2 ea (m.fresh E3)) (To.of t1 tsm)]]
theorem Ys:OS K p iy a al D ρ M=a ρ M λxs M1=>sK p xs M1 (λx M2=>D.nx (ρ.set iy (some x)) M2) λC M'=> ∀ea,M' ea=none ->rE K al C D ρ (um M' ea (.exc C)):=rfl
end
end WL
namespace L2
open PySem PySem.Spec PyProof.Rows
section
variable {X:Cx}{tg:Expr}
def VQ:V ->e9 Int ->e9 Int ->Hp ->VK ->Prop:=λx lo hi H Q=> ∃z:Str,cW (x= .str z) (z.length<=sizeLine) (Q (.str (Txt.slice z lo hi)) H)
def Iu:SlR X VQ:=by
 intro ah s σ H x v vl vu lo hi sl Q I rx hs pl pu h;let⟨z,rfl,hz,q⟩:=h;let⟨t,rfl⟩:=rx;exact#["str",_,F.slot_str_getitem.lookup,typeIs_str _ _ _,?_];have fin: ∀t' k,EP X ah σ Q (.str (Txt.slice z lo hi) t') {s with toks:=k}:=λt' k=>#[.str (Txt.slice z lo hi),H,I.tok _,#[_,rfl],q]
 cases pl with
 | none=>
  cases pu with
  | none=>show wpAny_getItem_str_slice (l:=none) (u:=none) (st:=none) hs rfl (post_val_or_str #[ar (Txt.slice_le z _ _) hz,fin])
  | int j tj=>show wpAny_getItem_str_slice (l:=none) (u:=some (j,tj)) (st:=none) hs rfl (post_val_or_str #[ar (Txt.slice_le z _ _) hz,fin])
 | int i ti=>
  cases pu with
  | none=>show wpAny_getItem_str_slice (l:=some (i,ti)) (u:=none) (st:=none) hs rfl (post_val_or_str #[ar (Txt.slice_le z _ _) hz,fin])
  | int j tj=>show wpAny_getItem_str_slice (l:=some (i,ti)) (u:=some (j,tj)) (st:=none) hs rfl (post_val_or_str #[ar (Txt.slice_le z _ _) hz,fin])
def iC (z:Str)(n:Nat):Str:=if n=0 then Str.empty else if n=1 \/ z.length=0 then z else⟨(List.replicate n z.cps).foldl (· ++ ·) #[]⟩
def Eg (z:Str)(n:Nat):(⟨(List.replicate n z.cps).foldl (· ++ ·) #[]⟩:Str).length=n*z.length:=by
 have: ∀ (n:Nat) (a:gH Nat),((List.replicate n z.cps).foldl (· ++ ·) a).size=a.size+n*z.cps.size:=by
  intro n;induction n with
  | zero=>intro a;simp
  | succ n ih=>intro a;rw[List.replicate_succ,List.foldl_cons,ih,Array.size_append,Nat.succ_mul];omega
 change((List.replicate n z.cps).foldl (· ++ ·) #[]).size=n*z.cps.size;rw[this];simp
def Pm:R2:=λx y H Q=>cg λ(z:Str) (n:Nat)=>gm (x= .str z) (y= .int n) (n<=1000) (z.length<=1000) (Q (.str (iC z n)) H)
def MZ:i6 X (binaryOp .Mult) Pm:=by
 intro ah s σ H x y v u Q I rx ry h;let⟨z,n,rfl,rfl,hn,hz,q⟩:=h;let⟨t,rfl⟩:=rx;let⟨t',rfl⟩:=ry;have hs:z.length*n<=sizeLine:=ar (Nat.mul_le_mul hz hn) (by rw[cR];decide);exact PySem.P.mul_str ?_ (λ_ _=> ?_) (λ_ _=> ?_) ?_;have e1:decide ((n:Int) < -(2 ^ 63:Int))=false:=aF (by omega);have e2:decide ((n:Int)≥2 ^ 63)=false:=aF (by omega);rw[e1,e2];rfl;intro h;have h1:(2 ^ 63 - 1:Int) / 1000<=(2 ^ 63 - 1) / n:=by rw[Int.le_ediv_iff_mul_le (by omega)];have:((2 ^ 63 - 1:Int) / 1000)*n<=((2 ^ 63 - 1:Int) / 1000)*1000:=Int.mul_le_mul_of_nonneg_left (by omega) ⋯;omega
 omega;unfold Builtin.Str.tooLong;rw[decide_eq_false_iff_not];have:(n:Int).toNat=n:=rfl;rw[this];omega;unfold iC at q;by_cases h0:n=0;subst h0;rw[ao rfl] at q;rw[ao ⋯];show#[⋯,#[.str _,H,I.tok _,#[_,rfl],q]];rw [ak h0] at q;rw[ak (by omega)];by_cases h1:n=1 \/ z.length=0;rw[ao h1] at q;rw[ao (by obtain h | h:=h1 <;>simp[h])];show#[.str z,H,I,#[t,rfl],q];rw[ak h1] at q;rw[ak (by intro c;rw[Bool.or_eq_true,beq_iff_eq,beq_iff_eq] at c;show h1 (c.imp (by omega) id))];have e:(n:Int).toNat=n:=rfl;rw[e];exact#[?_,#[.str _,H,I.tok _,#[_,rfl],q]];rw[Eg];rw[Nat.mul_comm];show hs
def ItS (z:Str):It:=#[λi _=>i<z.cps.size,λi H x H'=>H'=H /\ ∃c,z.cps[i]? =some c /\ x= .str ⟨#[c]⟩,λi _=>z.cps.size<=i]
def HW {P:Program}{w:World}{K:WV}{tg:Expr}(z:Str)(t:Tok)(it:fP):zF P w K tg (ItS z) [it] it (λi h=>h.IsStrIter it "str_ascii_iterator" z t i) where
 mem:=by simp
 obj:=λi h st b hb=>by have e:b=it:= ⇑hb;subst e;let⟨o,e,c,d⟩:=st;show#[o,e,λv z=>by rw[d] at z;cases z]
 keep:=λi h h' ⟨o,ho,r⟩ k=>#[o,k it (by simp) o ho,r]
 item:=by intro X hP hw hK hc i ah s σ H E I hf st hg;subst hP hw hK;let⟨f0,f1,f2,f3,f4,f5⟩:=hf it (by simp);have hg:i<z.cps.size:=hg;exact wpAny_pyNext_ascii_item st (c:=z.cps[i]) (by simp[hg]) λh' bH sb=> ?_;have I1:Inv X ah σ H {s with heap:=h',toks:=s.toks+1}:=I.turned (t':=s.toks+1) (λb o hb e=>(sb.2 b hb).trans e) f0 f1 f3 f4 f5;let⟨o,e,c,d⟩:=id bH;show#[_,rfl,xF (s:= {s with heap:=h',toks:=s.toks+1}) e c d ⋯ #[.str ⟨#[z.cps[i]]⟩,H,I1,#[_,rfl],#[rfl,_,by simp[hg],rfl],bH,λb hb=>(hf b hb).1]]
 done:=by intro X hP hw hK hc i ah s σ H E I hf st hg;subst hP hw hK;let⟨f0,f1,f2,f3,f4,f5⟩:=hf it (by simp);have hg:z.cps.size<=i:=hg;show wpAny_pyNext_ascii_end (I.ok.hd hc) st (by simp[hg]) λh' eb=>#[rfl,I.turned (t':=s.toks) (λb o hb e=>eb b o hb e) f0 f1 f3 f4 f5]
 self:=λ_ _ _ _ _ st h=>wpAny_pyIter_striter_ascii st h
def W1 (tl:TE):TI:=λσ H R=>tl σ H λx H1=> ∃z:Str,cW (x= .str z) (z.cps.all (· <128)=true) (R (ItS z) H1)
def Je (hl:PE X l tl):PI X tg l (W1 tl):=by intro ah s σ H R I h;exact cV (hl ah s σ H _ I h) λv s1 ⟨x,H1,I1,r1,q1⟩=> ?_;let⟨z,e,ha,q⟩:=q1;subst e;let⟨t,rfl⟩:=r1;exact wpAny_pyIter_ascii ha ?_;exact#[s1.heap.objs.size,[s1.heap.objs.size],_,_,H1,rfl,I1.kept (t':=s1.toks) λb o e=>av _ e,HW z t _,#[_,a4 _ rfl,rfl,rfl],λb hb=> ?_,q];have e:b=s1.heap.objs.size:= ⇑hb;subst e;show I1.C6 (aq _) (I1.cN.fresh (aq _))
def Po:cA V ->Hp ->VK ->Prop:=λxs H Q=> ∃z,cW (xs= [.str z]) (z.length<=sizeLine) (Q (.int z.length) H)
theorem rA:fB X (.builtin "len") Po:=zx
def BZ (i j:Str):Bool:= !(Builtin.Str.occurrences j i 0 j.length 1).isEmpty
def VU:R2:=λx y H Q=>cg λi j=>cW (x= .str i) (y= .str j) (Q (.bl (BZ i j)) H)
def Ei:R2:=λx y H Q=>cg λi j=>cW (x= .str i) (y= .str j) (Q (.bl (!BZ i j)) H)
theorem RY:i6 X (compareOp .In) VU:=Gg
theorem Gf:i6 X (compareOp .NotIn) Ei:=yT
end
end L2
namespace WL
open PySem L2
section
variable {K:WV}
def U1:qi:=λx y M q=>eQ λz i c=>gm (x=ws z) (y=wi i) (z.length<=sizeLine) (gP z.cps.toList i=some c) (q (ws ⟨#[c]⟩) M)
instance:IR K VT U1 where
 imp:=by rintro x y v u M H q Q m r1 r2 ⟨z,i,c,rfl,rfl,hz,e,h⟩ k;cases r1.eq;cases r2.eq;show#[z,i,c,rfl,rfl,hz,e,k _ M _ H h (a8.refl H) m WR.v]
def _y:U1 (.v (.str z)) (.v (.int i)) M q=ce (z.length<=sizeLine) (iN (gP z.cps.toList i) λc=>q (ws ⟨#[c]⟩) M):=by apply propext;symm;rintro⟨_,_,c,h1,h2,h3,h4,k⟩;cases h1;cases h2;show#[h3,c,h4,k];rintro⟨h3,c,h4,k⟩;show#[_,_,c,rfl,rfl,h3,h4,k]
def US:G9:=λx lo hi M q=> ∃z:Str,cW (x=ws z) (z.length<=sizeLine) (q (ws (Txt.slice z lo hi)) M)
instance:ISl K VQ US where
 imp:=by rintro x v lo hi M H q Q m r1 ⟨z,rfl,hz,h⟩ k;cases r1.eq;show#[z,rfl,hz,k _ M _ H h (a8.refl H) m WR.v]
def _e:US (.v (.str z)) lo hi M q=ce (z.length<=sizeLine) (q (ws (Txt.slice z lo hi)) M):=by apply propext;symm;rintro⟨_,h1,h3,k⟩;cases h1;show#[h3,k];rintro⟨h3,k⟩;show#[_,rfl,h3,k]
def UU:qi:=λx y M q=>cg λ(z:Str) (n:Nat)=>gm (x=ws z) (y=wi n) (n<=1000) (z.length<=1000) (q (ws (iC z n)) M)
instance:IR K Pm UU where
 imp:=by rintro x y v u M H q Q m r1 r2 ⟨z,n,rfl,rfl,hn,hz,h⟩ k;cases r1.eq;cases r2.eq;show#[z,n,rfl,rfl,hn,hz,k _ M _ H h (a8.refl H) m WR.v]
def U3:qi:=λx y M q=>cg λi j=>cW (x=ws i) (y=ws j) (q (wb (BZ i j)) M)
def DG:qi:=λx y M q=>cg λi j=>cW (x=ws i) (y=ws j) (q (wb (!BZ i j)) M)
instance:IR K VU U3 where
 imp:=by rintro x y v u M H q Q m r1 r2 ⟨i,j,rfl,rfl,h⟩ k;cases r1.eq;cases r2.eq;show#[i,j,rfl,rfl,k _ M _ H h (a8.refl H) m WR.v]
instance:IR K Ei DG where
 imp:=by rintro x y v u M H q Q m r1 r2 ⟨i,j,rfl,rfl,h⟩ k;cases r1.eq;cases r2.eq;show#[i,j,rfl,rfl,k _ M _ H h (a8.refl H) m WR.v]
def _B:U3 (.v (.str i)) (.v (.str j)) M q=q (wb (BZ i j)) M:=by apply propext;symm;rintro⟨_,_,h1,h2,k⟩;cases h1;cases h2;show k;intro k;show#[_,_,rfl,rfl,k]
def TX:DG (.v (.str i)) (.v (.str j)) M q=q (wb (!BZ i j)) M:=by apply propext;symm;rintro⟨_,_,h1,h2,k⟩;cases h1;cases h2;show k;intro k;show#[_,_,rfl,rfl,k]
def OX:zE:=λxs M q=> ∃z,cW (xs= [ws z]) (z.length<=sizeLine) (q (wi z.length) M)
instance:IC K Po OX where
 imp:=by rintro xs v M H q Q m r1 ⟨z,rfl,hz,h⟩ k;let⟨v,rfl,r⟩:=r1.one;cases r.eq;show#[z,rfl,hz,k _ M _ H h (a8.refl H) m WR.v]
def YC:OX [.v (.str z)] M q=ce (z.length<=sizeLine) (q (wi z.length) M):=by apply propext;symm;rintro⟨_,h1,h3,k⟩;cases h1;show#[h3,k];rintro⟨h3,k⟩;show#[_,rfl,h3,k]
def BY (z:Str):cA Str:=z.cps.toList.map λc=>⟨#[c]⟩
def SH (a:WE):WI:=λρ M q=>a ρ M λx M1=> ∃z:Str,cW (x=ws z) (z.cps.all (· <128)=true) (q ((BY z).map ws) (λ_=>True) M1)
def J6:Dq K H1 (ItS z) ((BY z).map ws) (λ_=>True):=by
 intro i M H ts m _;have hl:((BY z).map ws).length=z.cps.size:=by unfold BY;simp
 exact#[λh=>by change z.cps.size<=i;omega,λh=>by change i<z.cps.size;omega,λv H' hi y=> ?_];let⟨rfl,c,hc,rfl⟩:=y;exact#[a8.refl _,m,ws ⟨#[c]⟩,?_,WR.v];unfold BY;rw[aZ,aI,Array.getElem?_toList,hc];rfl
instance {t:TE}{a:WE} [ia:IE K t a]:II K (W1 t) (SH a) where
 imp:=λρ M σ H q R o h k=>ia.imp ρ M σ H _ _ o h λx M1 v H1 ⟨z,e,ha,h1⟩ t1 m1 r1=>by subst e;show#[z,r1.eq,ha,k _ _ _ M1 H1 h1 t1 m1 J6]
def aaZ:SH a ρ M q=a ρ M λx M1=>yw x λz=>ce (z.cps.all (· <128)=true) (q ((BY z).map ws) (λ_=>True) M1):=by unfold SH yw ce;congr 1;funext x M1;show propext #[λ⟨i,a,b,c⟩=>#[i,a,b,c],λ⟨i,a,b,c⟩=>#[i,a,b,c]]
end
end WL
namespace TS
open PySem PyProof.Rows
def vc (x y:gG):Bool:=decide ((strOf x.1).cps.toList< (strOf y.1).cps.toList)
def aaq:Ord vc:=by exact#[λx y h=> ?_,λx y z h1 h2=> ?_];unfold vc at*;rw[dq] at h;show aF λh'=>List.lt_irrefl _ (List.lt_trans h h');unfold LE vc at*;rw[decide_eq_false_iff_not] at*;show λh=>(List.le_trans (List.not_lt.mp h1) (List.not_lt.mp h2)) h
def ltS (h0: ∀v,v∈vs -> ∃x t,v= .str x t):iU prog w A E s oneType' (pairsOf vs) vc:=by
 intro x y st Q hx hy hk hq;have hm: ∀p:gG,p∈(pairsOf vs).toList -> ∃a t,p.1= .str a t:=λp hp=>by rw[pairsOf_toList] at hp;show h0 _ (mem_zip_self hp).2
 let⟨n,t,e1⟩:=hm x hx;let⟨m,u,e2⟩:=hm y hy;rw[lt'_eq];exact aw (wpS_get ?_);rw[hk,keyLt'_oneType,e1,e2];exact aw (wpS_lift (wpAny_attempt (oneLt_str #[rfl,?_])));have e:vc x y=decide (n.cps.toList<m.cps.toList):=by unfold vc;rw[e1,e2];rfl
 rw[e] at hq;show aH hq
def FU (ho:s.heap.get? a=some (seqObj "list" vs.toArray n))(hI:StrsAre vs ss)(hsz:vs.length<=sizeLine)(h: ∀ (out:gH c7) (ss':cA Str),StrsAre out.toList ss' ->ss'.Perm ss ->ss'.Pairwise (λx y=>¬y.cps.toList<x.cps.toList) ->P (.done (.ret .none)) {s with heap:=sortedHeap s.heap a vs out}): wpAny (model prog w) A (Builtin.«list.sort» #[[.ref a],[]]) P E s:=by
 exact Af aaq ho hsz (kd:=oneType') (λh2 Q hq=> ?_) (ltS hI.all) λus hp hs=> ?_;let⟨v₁,v₂,cQ,rfl⟩:eQ λv₁ v₂ cQ=>vs=v₁::v₂::cQ:=by
  match vs,h2 with
  | [],h2=>simp at h2
  | [_],h2=>simp at h2
  | v₁::v₂::cQ,_=>show#[v₁,v₂,cQ,rfl]
 rw[keyKind_strs hI];show a_ hq;have wK: ∀v,v∈us -> ∃x t,v= .str x t:=λv hv=>hI.all v (hp.mem_iff.mp hv);exact h us.toArray (us.map strOf) ⇑(strsAre_map us wK) ?_ ?_;have:=hp.map strOf;rwa [hI.strs] at this;rw[List.pairwise_map];exact hs.imp λ{x y} e=> ?_;unfold vc at e;rw[decide_eq_false_iff_not] at e;show e
end TS
namespace L2
open PySem PySem.Spec PyProof.Rows
theorem DT: ∀ {ks:cA Str} {vs:cA c7},vs.length=ks.length ->(∀ (j:Nat) (v:c7),vs[j]? =some v ->cg λ(k:Str) (t:Tok)=>ks[j]? =some k /\ v= .str k t) ->StrsAre vs ks
 | [],[],_,_=> .nil
 | [],_::_,h,_=>by simp at h
 | _::_,[],h,_=>by simp at h
 | k::ks,v::vs,h,hv=>by let⟨k',t,e1,e2⟩:=hv 0 v rfl;simp at e1;subst e1 e2;show .cons k t (DT ⇑h λj u e=> ⇑(hv (j+1) u ⇑e))
theorem ot: ∀ {ks:cA Str} {vs:cA c7},StrsAre vs ks ->cb (ks.map V.str) vs
 | _,_, .nil=> .nil
 | _,_, .cons x t r=> .cons #[t,rfl] (ot r)
section
variable {X:Cx}{tg o e:Expr}{td ty:TE}{dH dk:Pos}
def Au:cA V ->Hp ->VK ->Prop:=λxs H Q=>eQ λ(d:fP) (kvs:cA (b8×V)) (ks:cA Str)=>gm (xs= [.ref d]) (H d=some (.dK kvs)) (kvs.map (·.1)=ks.map Sum.inr) (ks.length<=sizeLine) (∀ (p:fP) (ns:cA Str),H p=none ->ns.Perm ks ->ns.Pairwise (λx y=>¬y.cps.toList<x.cps.toList) ->Q (.ref p) (cK H p (.lst (ns.map V.str))))
def fu (hc:X.calm=true):fB X (.builtin "sorted") Au:=by
 intro ah s σ H xs us Q I r h;let⟨d,kvs,ks,rfl,hd,hk,NX,q⟩:=h;let⟨u,rfl,ru⟩:=vals1 r;cases ru;have hh:X.A.in1.handled=none:=I.ok.hd hc;let⟨hz,lo,vs,gg,dd⟩:=xR I.cN hd;let⟨ep,hat⟩:=dd.dictAt;have dJ:vs.length=ks.length:=by have e1:=congrArg List.length hk;rw[af,af] at e1;rw[<- gg.length,e1]
 exact Calls.call_function_entry kind_sorted plain_sorted entry_sorted (args_sorted1 _) ?_;unfold Builtin.«sorted»;exact az (m:=checkCount "sorted" 1 1 _) (a_ ?_);exact az (W.kdu_collect (A:=X.A.in1) (W.kdl_dict (knd:=cH X.prog X.w) (kvs:=vs) (ep:=ep) lo) hh hat (by rw[<- gg.length];show hz) λh' tk fX hkp C4=> ?_);have hl:fX.toList.length=ks.length:=by rw[dD,C4.1,dJ]
 have hI:StrsAre fX.toList ks:=DT hl λj v e=>by
  let⟨k,x,hx,Xj⟩:=C4.2 j v (by rw[<- Array.getElem?_toList];show e);have Kg:(kvs.map (·.1))[j]? =some k:=by
   have:(vs.map (·.1))[j]? =some k:=by rw[aI,hx];rfl
   rw[<- gg.keys] at this;show this
  rw[hk,aI] at Kg;cases e2:ks[j]? with
  | none=>rw[e2] at Kg;cases Kg
  | some n=>
   rw[e2] at Kg;cases Kg;have S8:px (Sum.inr n) v=true:=Xj;rcases dc S8 with⟨i,t,e3,e4⟩ | ⟨x,t,e3,e4⟩
   cases e3;cases e3;show#[n,t,rfl,e4]
 exact az (wpAny_newList ?_ (by rw[hl];show NX));have ho:(h'.push (seqObj "list" fX.toList.toArray 0)).get? h'.objs.size=some (seqObj "list" fX.toList.toArray 0):=a4 _ rfl;exact az (wpAny_holding (wpAny_call_entry slot_list_sort #[_,ho,rfl] entry_list_sort (TS.FU (s:= {s with heap:=h'.push (seqObj "list" fX.toList.toArray 0),toks:=tk}) ho hI (by rw[hl];show NX) λout B0 a1 a2 a3=>#[_,rfl,?_]) (args_list_sort _)));let⟨ee,Tf⟩:=sortedHeap_at (out:=out) ho;have I':Inv X ah σ H {s with heap:=h',toks:=tk}:=I.kept (t':=tk) hkp;exact a_ #[_,rfl, .ref h'.objs.size,_,I'.laid (t':=tk) (o:= .lst (B0.map V.str)) (λb o hb=> ?_) (aq _) ?_,rfl,q _ B0 (I'.cN.fresh (aq _)) a2 a3];have m8:b<h'.objs.size:=aR hb;rw[sortedHeap_old (bA m8) (by rw[Heap.size_push];show Nat.lt_succ_of_lt m8)];show av _ hb;exact#[?_,out.toList,ee,ot a1, ⇑Tf];rw[af,a2.length_eq];show NX
def IX:cA V ->Hp ->VK ->Prop:=λxs H Q=>cg λ(d:fP) (kvs:cA (b8×V))=>cW (xs= [.ref d]) (H d=some (.dK kvs)) (∀p,H p=none ->Q (.ref p) (cK H p (.dK kvs)))
def kf:fB X (.type "dict") IX:=by intro ah s σ H xs us Q I r h;let⟨d,kvs,rfl,hd,q⟩:=h;let⟨u,rfl,ru⟩:=vals1 r;cases ru;let⟨hz,lo,vs,gg,dd⟩:=xR I.cN hd;exact kt_call_dict lo dd (by rw[<- gg.length];show hz) λh' Xp sb=> ?_;have big:=I.big;exact#[.ref s.heap.objs.size,_,I.laid (a:=s.heap.objs.size) (o:= .dK kvs) (t':=s.toks) (λb u e=> ?_) (aq _) #[hz,?_,vs,gg,Xp],rfl,q _ (I.cN.fresh (aq _))];rw[sb.2 b (bA (aR e))];show av _ e;show beq_eq_false_iff_ne.mpr (λz=>by rw[z] at big;show Nat.lt_irrefl _ big)
def OD (d:fP)(o:Obj)(kvs:cA (b8×V)):It:=#[λi H=>i<kvs.length /\ H d=some (.lg o (.dK kvs)),λi H x H'=>H'=H /\ ∃kv,kvs[i]? =some kv /\ x=kV kv.1,λi H=>kvs.length<=i /\ H d=some (.lg o (.dK kvs))]
theorem JR: ∀ {kvs:cA (b8×V)} {vs:cA (b8×c7)} {i:Nat} {q:b8×c7},KV kvs vs ->vs[i]? =some q -> ∃p,kvs[i]? =some p /\ p.1=q.1
 | _,_,0,_, .cons ⟨e0,r⟩ _,e=>by cases e;show#[_,rfl,e0]
 | _,_,i+1,q, .cons _ t,e=>by have e':_=some q:=e;rw[List.getElem?_cons_succ] at e' ⊢;show JR t e'
def FO {P:Program}{w:World}{K:WV}{tg:Expr}{d it:fP}{o:Obj}{kvs:cA (b8×V)}{es:gH DictEntry}{ep:Nat}(ho:o.data= .dict es ep): zF P w K tg (OD d o kvs) [it] it (λi h=>h.IsKeyIter it d i kvs.length ep) where
 mem:=by simp
 obj:=λi h st b hb=>by have e:b=it:= ⇑hb;subst e;let⟨o,e,c,d⟩:=st;show#[o,e,λv z=>by rw[d] at z;cases z]
 keep:=λi h h' st k=>st.at λo e=>k it (by simp) o e
 item:=by
  intro X hP hw hK hc i ah s σ H E I hf st hg;subst hP hw hK;let⟨hi,hH⟩:=hg;let⟨vs,gg,hd⟩:=zo I ho hH;have hl:=gg.length;rw[hl] at st hi;let⟨f0,f1,f2,f3,f4,f5⟩:=hf it (by simp);let⟨⟨k,x⟩,hx⟩: ∃q,vs[i]? =some q:=#[vs[i],by simp[hi]]
  let⟨p,hp,rp⟩:=JR gg hx;exact wpAny_pyNext_dict_item st hd hx λkey h' S9 C2 gJ=> ?_;have I1:Inv X ah σ H {s with heap:=h'}:=I.turned (t':=s.toks) (λb o hb e=>(gJ.2 b hb).trans e) f0 f1 f3 f4 f5;let⟨oo,e,c,dd⟩:=id C2;rw[<- hl] at C2;have rk:RelV (kV p.1) key:=by
   rw[show p.1=k from rp];rcases dc (show px k key=true from S9) with⟨i,t,e,e2⟩ | ⟨x,t,e,e2⟩
   subst e;show#[t,e2];subst e;show#[t,e2]
  show#[key,rfl,xF (s:= {s with heap:=h'}) e c dd ⋯ #[kV p.1,H,I1,rk,#[rfl,p,hp,rfl],C2,λb hb=>(hf b hb).1]]
 done:=by intro X hP hw hK hc i ah s σ H E I hf st hg;subst hP hw hK;let⟨hi,hH⟩:=hg;let⟨vs,gg,hd⟩:=zo I ho hH;have hl:=gg.length;rw[hl] at st hi;let⟨f0,f1,f2,f3,f4,f5⟩:=hf it (by simp);show wpAny_pyNext_dict_end (I.ok.hd hc) st hd (by simp;omega) λh' eb=>#[rfl,I.turned (t':=s.toks) (λb o hb e=>eb b o hb e) f0 f1 f3 f4 f5]
 self:=λ_ _ _ _ _ st h=>wpAny_pyIter_keyiter st h
def Qd (td:TE):TI:=λσ H R=>td σ H λx H1=>cg λd kvs=>cW (x= .ref d) (H1 d=some (.dK kvs)) (∀o,R (OD d o kvs) (cK H1 d (.lg o (.dK kvs))))
def ML (ho:PE X o td):PI X tg o (Qd td):=by
 intro ah s σ H R I h;exact cV (ho ah s σ H _ I h) λv s1 ⟨x,H1,I1,r1,d,kvs,ex,hd,q1⟩=> ?_;subst ex;obtain rfl:v=Value.ref d:=r1;let⟨z,SR,vs,gg,dd⟩:=pR I1.cN (.inl hd);let⟨ob,es,ep,g1,g2,g3,g4⟩:=dd;have da:s1.heap.DictAt (cH X.prog X.w) d vs ep:=#[ob,es,g1,g2,g3,g4]
 exact wpAny_pyIter_dict (knd:=cH X.prog X.w) SR da ?_;have I2:=I1.freeze hd g1;exact#[_,[_],_,OD d ob kvs,_,rfl,I2.kept (t':=s1.toks) λb o e=>av _ e,FO g3,?_,λb hb=> ?_,q1 ob];rw[gg.length];show#[_,a4 _ rfl,rfl,rfl];have e:=be.mp hb;subst e;show I2.C6 (aq _) (I2.cN.fresh (aq _))
def O5 (t:TE):TE:=λσ H Q=>cg λd kvs=>H d=some (.dK kvs) /\ t σ H λv H'=>cg λo us=>H' d=some (.lg o (.dK us)) /\ Q v (cK H' d (.dK us))
def Et (h:PE X e t):PE X e (O5 t):=by
 rintro ah s σ H Q I ⟨d,kvs,hd,ht⟩;have h0: ∀o u,X.H₀ d≠some (.lg o u):=λo u e=>by have:=I.base.m_ d o u e;rw[hd] at this;cases this
 exact cV (h ah s σ H _ I ht) λv s' ⟨x,H',I',r,o,us,e,q⟩=>#[x,_,I'._W e h0,?_,q]
 show r
structure TC (K:PySem.W.Frag)(mg:Str ->Option Value)(x:Str)(ns:List Int):Prop where
 ex: ∃a,mg x=some (.ref a) /\ ∀H,k7 K H a (ns.map V.int)
def tGT (K:WV)(ns:cA Int):TE:=λ_ H Q=> ∀a,k7 K H a (ns.map V.int) ->Q (.ref a) H
def MN (hg:Gl X x)(T:TC X.K X.mg x ns)(hd:(x==("__debug__" :Str))=false:=by decide):PE X (.Name x pos) (tGT X.K ns):=by let⟨a,hm,hs⟩:=T.ex;intro ah s σ H Q I h;show f8 (v:= .ref a) hg hm rfl hd ah s σ H Q I (h a (hs H))
end
end L2
namespace WL
open PySem L2
section
variable {K:WV}
def wGT (ns:cA Int):WE:=λ_ M q=>q (.tup (ns.map wi)) M
instance {ns:cA Int}:IE K (tGT K ns) (wGT ns) where
 imp:=λρ M σ H q Q o h k=>λa hs=>k _ M _ H h (a8.refl H) o.hp (WR.Se hs (by
  exact cI.mk (by simp) λj d v e1 e2=> ?_;rw[aI] at e1 e2;cases hj:ns[j]? with
  | none=>rw[hj] at e1;cases e1
  | some n=>rw[hj] at e1 e2;cases e1;cases e2;show WR.v))
theorem ahZ:wGT ns ρ M q=q (.tup (ns.map wi)) M:=rfl
def HD:zE:=λxs M q=>eQ λ(d:fP) (kvs:cA (b8×W)) (ks:cA Str)=>gm (xs= [wr d]) (M d=some (.dK kvs)) (kvs.map (·.1)=ks.map Sum.inr) (ks.length<=sizeLine) (∀ (p:fP) (ns:cA Str),M p=none ->ns.Perm ks ->ns.Pairwise (λx y=>¬y.cps.toList<x.cps.toList) ->q (wr p) (um M p (.lst (ns.map ws))))
theorem ER {H:Hp}: ∀ {kvs:cA (b8×W)} {vs:cA (b8×V)},KR K H kvs vs ->kvs.map (·.1)=vs.map (·.1)
 | _,_, .nil=>rfl
 | _,_, .cons ⟨e,_⟩ t=>by rw[aN,aN,ER t,e]
theorem zY {H:Hp}: ∀ (ns:cA Str),cI K H (ns.map ws) (ns.map V.str)
 | []=>cI.nil
 | _::r=>cI.cons WR.v (zY r)
instance:IC K Au HD where
 imp:=by rintro xs v M H q Q m r1 ⟨d,kvs,ks,rfl,hd,hk,hl,h⟩ k;let⟨v,rfl,r⟩:=r1.one;cases r.eq;let⟨us,e,rr⟩:=m d _ hd;show#[d,us,ks,rfl,e,by rw[<- ER rr];show hk,hl,λp ns hp h1 h2=>k _ _ _ _ (h p ns (m.fresh hp) h1 h2) (L2.ge.ts (b_ hp)) (m.k8 hp (zY ns)) WR.v]
def HI:zE:=λxs M q=>cg λ(d:fP) (kvs:cA (b8×W))=>cW (xs= [wr d]) (M d=some (.dK kvs)) (∀p,M p=none ->q (wr p) (um M p (.dK kvs)))
instance:IC K IX HI where
 imp:=by rintro xs v M H q Q m r1 ⟨d,kvs,rfl,hd,h⟩ k;let⟨v,rfl,r⟩:=r1.one;cases r.eq;let⟨us,e,rr⟩:=m d _ hd;show#[d,us,rfl,e,λp hp=>k _ _ _ _ (h p (m.fresh hp)) (L2.ge.ts (b_ hp)) (m.put (L2.ge.ts (b_ hp)) #[us,bU,KR.ts (L2.ge.ts (b_ hp)) rr]) WR.v]
def U4:HI [.v (.ref d)] M q=fI (M d) λkvs=> ∀p,M p=none ->q (wr p) (um M p (.dK kvs)):=by apply propext;symm;rintro⟨_,kvs,h1,h2,k⟩;cases h1;show#[kvs,h2,k];rintro⟨kvs,h2,k⟩;show#[_,kvs,rfl,h2,k]
def J0 (a:WE):WI:=λρ M q=>a ρ M λx M1=>cg λd kvs=>cW (x=wr d) (M1 d=some (.dK kvs)) (∀o ks,q (kvs.map λkv=>iY kv.1) (λM'=>M' d=some (.fz o ks kvs)) (um M1 d (.fz o ks kvs)))
def GF:Dq K H1 (OD d o ks) (kvs.map λkv=>iY kv.1) (λM'=>M' d=some (.fz o ks kvs)):=by intro i M H t m hM;let⟨e1,r1⟩:=m d _ hM;have hl:=CS r1;rw[af];exact#[λh=>#[by omega,e1],λh=>#[by omega,e1],λv H' hi ⟨e2,kv,hk,e3⟩=> ?_];subst e2 e3;let⟨p,hp,e4,rp⟩:=JS r1 hk;exact#[a8.refl _,m,iY p.1,by rw[aI,hp];rfl,?_];rw[e4];cases kv.1<;>show WR.v
instance {t:TE}{a:WE} [ia:IE K t a]:II K (Qd t) (J0 a) where
 imp:=λρ M σ H q R o h k=>ia.imp ρ M σ H _ _ o h λx M1 v H1 ⟨d,kvs,ex,hd,h1⟩ t1 m1 r1=>by subst ex;let⟨ks,e,r⟩:=m1 d _ hd;exact#[d,ks,r1.eq,e,λob=>k _ _ _ _ _ (h1 ob ks) (t1.trans (ls e)) (m1.put (ls e) #[bU,KR.ts (ls e) r]) GF]
def Zt:J0 a ρ M q=a ρ M λx M1=>d5 x λd=>fI (M1 d) λkvs=> ∀o ks,q (kvs.map λkv=>iY kv.1) (λM'=>M' d=some (.fz o ks kvs)) (um M1 d (.fz o ks kvs)):=by unfold J0 d5 fI;congr 1;funext x M1;apply propext;symm;rintro⟨d,kvs,e1,e2,h⟩;show#[d,e1,kvs,e2,h];rintro⟨d,e1,kvs,e2,h⟩;show#[d,kvs,e1,e2,h]
def UR (t:WE):WE:=λρ M q=>cg λd kvs=>M d=some (.dK kvs) /\ t ρ M λv M'=>eQ λo ks us=>M' d=some (.fz o ks us) /\ q v (um M' d (.dK us))
instance {t:TE}{a:WE} [ia:IE K t a]:IE K (O5 t) (UR a) where
 imp:=λρ M σ H q Q o ⟨d,kvs,hd,h⟩ k=>by let⟨ks,ek,r⟩:=o.hp d _ hd;exact#[d,ks,ek,ia.imp ρ M σ H _ _ o h ?_];rintro x M' v H' ⟨ob,us,ws,hM,hq⟩ ts m' r';let⟨e1,r1⟩:=m' d _ hM;have t2:=Q4 (u:= .dK us) e1;show#[ob,us,e1,k _ _ _ _ hq (ts.trans t2) (m'.put t2 #[us,bU,KR.ts t2 r1]) (r'.ts t2)]
end
end WL
namespace L2
open PySem
def mS (hK:X.K=K):i6 X (compareOp .NotIn) (VV K true):=by subst hK;show yU
theorem jr (X:K.In h)(G:h.Ns mainGlobals mg)(a:W.nsIn K mainGlobals x=some (some (.ref C))):mg x=some (.ref C):=W.mg_of X G a
theorem ji (_:K.In h)(a:W.nsIn K mainGlobals x=some (some (.ref C)))(e:W.excIn K C XQ "ValueError.__new__" =true)(k1:W.clsIn K C=some cd)(k2:W.findIn K (.ref C) "__getattribute__" =some (some (.builtin "BaseException.__getattribute__")))(k3:W.findIn K (.ref C) "__getattr__" =some none)(k4:W.findIn K (.ref C) "__class__" =some (some (.builtin "object.__class__")))(k5:W.mroIn K C (.type "object")=some true)(k6:W.mroIn K C (.type "BaseException")=some true):qa K x C:=UL a e k1 k2 k3 k4 k5 k6
theorem Rc (X:K.In h)(G:h.Ns mainGlobals mg)(a:W.nsIn K mainGlobals x=some (some (.str z t))): ∃t,mg x=some (.str z t):=#[t,W.mg_of X G a]
theorem Q1 (X:K.In h)(G:h.Ns mainGlobals mg)(a:W.nsIn K mainGlobals x=some (some (.ref ad)))(l:K.lookup ad=some #[.type "tuple",none, .seq (List.toArray [.int n1 t1, .int n2 t2, .int n3 t3, .int n4 t4]) n,sl]):TC K mg x [n1,n2,n3,n4]:=#[ad,W.mg_of X G a,λH=> .inr #[_,_,_,l,rfl,rfl,rfl,by change 4<=sizeLine;decide, .cons #[_,rfl] (.cons #[_,rfl] (.cons #[_,rfl] (.cons #[_,rfl] .nil)))]]
end L2
namespace WL
open PySem L2
section
variable {K:WV}
def Cd (a b:WE):WE:=λρ M q=>a ρ M λx M1=> ∃p,cW (x=wr p) (∃kvs,M1 p=some (.dK kvs)) (b ρ M1 λy M2=>eQ λkvs k z=>fj (M2 p=some (.dK kvs)) (y=iY k) (eU kvs k=some z) (q z (um M2 p (.dK (jQ kvs k)))))
instance {t u:TE}{a b:WE} [ia:IE K t a] [ib:IE K u b]:IE K (Ig t u) (Cd a b) where
 imp :=λρ M σ H q Q o h k=>ia.imp ρ M σ H _ _ o h λx M1 v H1 ⟨p,e,⟨kvs,hp⟩,h1⟩ t1 m1 r1=>by
  subst e;let⟨ks,hk,rr⟩:=m1 p _ hp;exact#[p,r1.eq, .inl #[ks, .inl hk],ib.imp ρ M1 σ H1 _ _ (o.mv t1 m1) h1 λy M2 u H2 ⟨kvs,ky,z,e2,e3,e4,h2⟩ t2 m2 r2=> ?_];subst e3;let⟨ks,hk,rr⟩:=m2 p _ e2;have ts:=ls (u:= .dK (ml ks ky)) hk;rcases rr.val ky with⟨n1,_⟩ | ⟨x',v',n1,n2,rx⟩
  rw[n1] at e4;cases e4;rw[n1] at e4;cases e4;show#[ks,ky,v',hk,je r2,n2,k _ _ _ _ h2 ((t1.trans t2).trans ts) (m2.putD hk rr.drop) (rx.ts ts)]
def U5:Cd a b ρ M q=a ρ M λx M1=>d5 x λp=>fI (M1 p) λ_=>b ρ M1 λy M2=>iZ y λk=>fI (M2 p) λkvs=>iN (eU kvs k) λz=>q z (um M2 p (.dK (jQ kvs k))):=by
 unfold Cd d5 fI iZ iN;congr 1;funext x M1;apply propext;symm;rintro⟨p,e1,⟨kvs,e2⟩,h⟩;exact#[p,e1,kvs,e2,?_];have:(λy M2=>eQ λkvs k z=>fj (M2 p=some (.dK kvs)) (y=iY k) (eU kvs k=some z) (q z (um M2 p (.dK (jQ kvs k)))))=(λy M2=> ∃k,y=iY k /\ ∃l,M2 p=some (.dK l) /\ ∃z,eU l k=some z /\ q z (um M2 p (.dK (jQ l k)))):=by funext y M2;apply propext;symm;rintro⟨kvs,k,z,h1,h2,h3,h4⟩;show#[k,h2,kvs,h1,z,h3,h4];rintro⟨k,h2,kvs,h1,z,h3,h4⟩;show#[kvs,k,z,h1,h2,h3,h4]
 rw[this] at h;show h;rintro⟨p,e1,kvs,e2,h⟩;exact#[p,e1,#[kvs,e2],?_];have:(λy M2=>eQ λkvs k z=>fj (M2 p=some (.dK kvs)) (y=iY k) (eU kvs k=some z) (q z (um M2 p (.dK (jQ kvs k)))))=(λy M2=> ∃k,y=iY k /\ ∃l,M2 p=some (.dK l) /\ ∃z,eU l k=some z /\ q z (um M2 p (.dK (jQ l k)))):=by funext y M2;apply propext;symm;rintro⟨kvs,k,z,h1,h2,h3,h4⟩;show#[k,h2,kvs,h1,z,h3,h4];rintro⟨k,h2,kvs,h1,z,h3,h4⟩;show#[kvs,k,z,h1,h2,h3,h4]
 rw[this];show h
end
end WL
namespace WQ
open PySem L2 WL WP
section
variable {α:Type}
def sT (f:α ->W)(l:cA (Str×α)):cA (b8×W):=l.map λz=>(.inr z.1,f z.2)
def cw (l:cA (Str×α))(n:Str):e9 α:=(l.find? λz=>decide (z.1=n)).map (·.2)
def gV (l:cA (Str×α))(n:Str)(a:α):cA (Str×α):=if(l.any λz=>decide (z.1=n))=true then l.map (λz=>if z.1=n then(z.1,a) else z) else l++ [(n,a)]
def oa (l:cA (Str×α))(n:Str):cA (Str×α):=l.filter λz=>decide (z.1≠n)
theorem ui:((Sum.inr a:b8)= .inr b)↔a=b:=#[Sum.inr.inj,λh=>by rw[h]]
def cF (f:α ->W)(l:cA (Str×α))(n:Str):eU (sT f l) (.inr n)=(cw l n).map f:=by
 unfold eU sT cw;induction l with
 | nil=>rfl
 | cons z l ih=>rw[aN,cJ,cJ];simp![ui];by_cases h:z.1=n;simp[h];simpa [h] using ih
def gB (f:α ->W)(l:cA (Str×α))(n:Str)(a:α):uN (sT f l) (.inr n) (f a)=sT f (gV l n a):=by
 have e:((sT f l).any λkv=>decide (kv.1= .inr n))=(l.any λz=>decide (z.1=n)):=by unfold sT;rw[List.any_map];congr 1;funext z;simp![Function.comp,ui]
 unfold uN gV;rw[e];split;unfold sT;rw[aZ,aZ];apply dB;intro z _;simp![Function.comp,ui];split<;>rfl;unfold sT;rw[aA];rfl
def pO (f:α ->W)(l:cA (Str×α))(n:Str):jQ (sT f l) (.inr n)=sT f (oa l n):=by unfold jQ sT oa;rw[List.filter_map];congr 2;funext z;simp![Function.comp,ne_eq,ui]
def jx (f:α ->W)(l:cA (Str×α)):(sT f l).map (·.1)=(l.map (·.1)).map Sum.inr:=by unfold sT;rw[aZ,aZ];rfl
def oy (f:α ->W)(l:cA (Str×α)):(sT f l).length=l.length:=by unfold sT;rw[af]
def mP (l:cA (Str×α))(n:Str)(a:α):(gV l n a).length<=l.length+1:=by unfold gV;split<;>simp
theorem uq (l:cA (Str×α))(n:Str):(oa l n).length<=l.length:=List.length_filter_le _ _
def d4 {a:α}(h:cw l n=some a): ∃z∈l,z.1=n /\ z.2=a:=by
 unfold cw at h;cases e:l.find? λz=>decide (z.1=n) with
 | none=>rw[e] at h;cases h
 | some z=>rw[e] at h;cases h;show#[z,List.mem_of_find?_eq_some e, ⇑(List.find?_some e),rfl]
def zn {z:Str×α}(h:z∈l): ∃a,cw l z.1=some a:=by
 unfold cw;cases e:l.find? λy=>decide (y.1=z.1) with
 | none=>simpa using List.find?_eq_none.mp e z h
 | some y=>show#[_,rfl]
def oV {z:Str×α}(h:z∈gV l n a):z∈l \/ z=(n,a):=by unfold gV at h;split at h;let⟨y,hy,rfl⟩:=bX.mp h;split;rename_i e;rw[e];show .inr rfl;show .inl hy;obtain h | h:=a9.mp h;show .inl h;show .inr (be.mp h)
theorem pS {z:Str×α}(h:z∈oa l n):z∈l:=(List.mem_filter.mp h).1
def I_ (l:cA (Str×α))(n:Str)(a:α):(gV l n a).map (·.1)=if(l.any λz=>decide (z.1=n))=true then l.map (·.1) else l.map (·.1)++ [n]:=by unfold gV;split;rw[aZ];apply dB;intro z _;simp![Function.comp];split<;>rfl;rw[aA];rfl
def IZ {a:α}(h:(l.map (·.1)).Nodup):((gV l n a).map (·.1)).Nodup:=by rw[I_];split;show h;rename_i hn;rw[List.nodup_append];exact#[h,by simp,λx hx y hy=> ?_];rw[be.mp hy];rintro rfl;apply hn;let⟨z,hz,e⟩:=bX.mp hx;show List.any_eq_true.mpr #[z,hz, ⇑e]
theorem KI {l:cA (Str×α)}(h:(l.map (·.1)).Nodup):((oa l n).map (·.1)).Nodup:=h.sublist (List.Sublist.map _ List.filter_sublist)
def uI {a b c:cA Str}(h1:a.Perm c)(h2:b.Perm c)(s1:a.Pairwise λx y=>¬y.cps.toList<x.cps.toList)(s2:b.Pairwise λx y=>¬y.cps.toList<x.cps.toList):a=b:=by exact List.Perm.eq_of_pairwise (le:=λx y=>¬y.cps.toList<x.cps.toList) (λx y _ _ Zv hyx=> ?_) s1 s2 (h1.trans h2.symm);show t0 (List.le_antisymm Zv hyx)
end
inductive Rf where
 | BadName | NoDeed | NoRound | NoCrew | Taken | InUse | TooMany | TooFar | NoMore | NoState
def Cu:Rf ->Str
 | .BadName=> "BadName" | .NoDeed=> "NoDeed" | .NoRound=> "NoRound" | .NoCrew=> "NoCrew" | .Taken=> "Taken" | .InUse=> "InUse" | .TooMany=> "TooMany" | .TooFar=> "TooFar" | .NoMore=> "NoMore" | .NoState=> "NoState"
abbrev zT:Str:= "abcdefghijklmnopqrstuvwxyz"
abbrev Rm:=cA (Str×Rd)
abbrev Tm:=cA (Str×cA Str)
def fk (l:cA Str):W:= .tup (l.map ws)
abbrev xp (R:Rm):cA (b8×W):=sT gv R
abbrev qg (T:Tm):cA (b8×W):=sT fk T
def rW (n:Str)(l:cA Str):Bool:=Qa (.str n) (l.map V.str)
def sS (T:Tm)(n:Str):Bool:=T.any λz=>rW n z.2
def ci (n:Str):Bool:=decide (1<=n.length) && decide (n.length<=12) && (BY n).all λc=>BZ c zT
def gl (a:Rd)(m r:Int):Bool:= !(decide ((if a.1<0 then -a.1 else a.1) <=m) && a.2.all λz=>decide ((if z.1<0 then -z.1 else z.1) <=r))
abbrev gQ (n:Str):Prop:=n.cps.all (· <128)=true
def lK (r t:fP):cA (Str×W):= [("rounds",wr r),("teams",wr t)]
def eP (p:Int)(now la lu lh:fP):cA (Str×W):= [("p",wi p),("now",wr now),("past",wr la),("undone",wr lu),("held",wr lh)]
theorem qB:(lK r t).lookup ("rounds" :Str)=some (wr r):=rfl
theorem nT:(lK r t).lookup ("teams" :Str)=some (wr t):=rfl
theorem G4:(eP p now la lu lh).lookup ("p" :Str)=some (wi p):=rfl
theorem ip:(eP p now la lu lh).lookup ("now" :Str)=some (wr now):=rfl
theorem K8:(eP p now la lu lh).lookup ("past" :Str)=some (wr la):=rfl
theorem Ou:(eP p now la lu lh).lookup ("undone" :Str)=some (wr lu):=rfl
theorem Ov:(eP p now la lu lh).lookup ("held" :Str)=some (wr lh):=rfl
theorem Tv:hJ "now" (wr x) (eP p now la lu lh)=eP p x la lu lh:=rfl
theorem ahF:hJ "undone" (wr x) (eP p now la lu lh)=eP p now la x lh:=rfl
theorem Tx:((eP p now la lu lh).length<1000)=True:=au (by change 5<1000;decide)
theorem BB:(eP p now la lu lh).lookup ("settings" :Str)=none:=rfl
theorem gz:(eP p now la lu lh).lookup ("turn_to" :Str)=none:=rfl
theorem vS:(eP p now la lu lh).lookup ("put" :Str)=none:=rfl
theorem mH:(eP p now la lu lh).lookup ("put_team" :Str)=none:=rfl
theorem sL:(eP p now la lu lh).lookup ("enlisted" :Str)=none:=rfl
theorem ut:(eP p now la lu lh).lookup ("team" :Str)=none:=rfl
theorem Om:(eP p now la lu lh).lookup ("tell" :Str)=none:=rfl
theorem Dh:(eP p now la lu lh).lookup ("join_as" :Str)=none:=rfl
theorem Dk:(eP p now la lu lh).lookup ("back_as" :Str)=none:=rfl
theorem BA:(eP p now la lu lh).lookup ("times_as" :Str)=none:=rfl
theorem Oq:(eP p now la lu lh).lookup ("drop" :Str)=none:=rfl
theorem K7:(eP p now la lu lh).lookup ("found" :Str)=none:=rfl
theorem Dj:(eP p now la lu lh).lookup ("disband" :Str)=none:=rfl
theorem G3:(eP p now la lu lh).lookup ("enlist" :Str)=none:=rfl
theorem Di:(eP p now la lu lh).lookup ("dismiss" :Str)=none:=rfl
theorem Ol:(eP p now la lu lh).lookup ("undo" :Str)=none:=rfl
theorem Oo:(eP p now la lu lh).lookup ("redo" :Str)=none:=rfl
theorem Op:(eP p now la lu lh).lookup ("hold" :Str)=none:=rfl
theorem zA:(eP p now la lu lh).lookup ("return_to" :Str)=none:=rfl
theorem BC:(eP p now la lu lh).lookup ("names" :Str)=none:=rfl
theorem BD:(eP p now la lu lh).lookup ("crews" :Str)=none:=rfl
theorem eT:(eP p now la lu lh).lookup ("round_of" :Str)=none:=rfl
theorem vT:(eP p now la lu lh).lookup ("members" :Str)=none:=rfl
def HY (f:α ->W)(l:cA (Str×α)):(sT f l).map (λx=>x.2)=l.map λz=>f z.2:=by unfold sT;rw[aZ];rfl
def xI (l:cA Str):(l.map V.str).all lX=true:=by rw[List.all_map];show List.all_eq_true.mpr λ_ _=>rfl
theorem uj (h:q (wb (rW n l)) M):YD false (ws n) (fk l) M q:=#[.str n,l.map V.str,rfl, .inl (by unfold fk;rw[aZ];rfl),rfl,xI l,h]
theorem nW (h:q (wb (!rW n l)) M):YD true (ws n) (fk l) M q:=#[.str n,l.map V.str,rfl, .inl (by unfold fk;rw[aZ];rfl),rfl,xI l,h]
theorem DM (h:M t=some o)(hu:um M t f u=none):Sm M (um (um (um M t f) u l) t o):=λa x e=>by by_cases ht:a=t;subst ht;rw[am];rw[h] at e;show e;rw[aP ht,aP (bY (M:=um M t f) (by rw[aP ht];show e) hu),aP ht];show e
def Pg (C:fP)(M:Mp)(a:fP)(R:Rm)(T:Tm):Prop:=eQ λ(dx r t:fP)=>cW (M a=some (.ins C dx (lK r t))) (M r=some (.dK (xp R))) (M t=some (.dK (qg T)))
structure Bk (B C:Addr)(M:Mp)(b la lu lh:Addr)(p:Int)(now:Addr)(pa un he:List Addr)(R:Rm)(T:Tm):Prop where
 ob: ∃dx,M b=some (.ins B dx (eP p now la lu lh))
 pa:M la=some (.lst (pa.map wr))
 un:M lu=some (.lst (un.map wr))
 he:M lh=some (.lst (he.map wr))
 ne:la≠lu /\ la≠lh /\ lu≠lh
 pg:Pg C M now R T
def zU (b la:fP)(M M':Mp):Prop:= ∀a o,M a=some o ->a≠b ->a≠la ->M' a=some o
def Pg.sm (h:Pg C M a R T)(s:Sm M M'):Pg C M' a R T:=by let⟨dx,r,t,h1,h2,h3⟩:=h;show#[dx,r,t,s _ _ h1,s _ _ h2,s _ _ h3]
def Bk.sm {pa un he:cA fP}(h:Bk B C M b la lu lh p now pa un he R T)(s:Sm M M'):Bk B C M' b la lu lh p now pa un he R T:=by let⟨⟨dx,h1⟩,h2,h3,h4,h5,h6⟩:=h;show#[#[dx,s _ _ h1],s _ _ h2,s _ _ h3,s _ _ h4,h5,h6.sm s]
theorem zU.sm {M M1 M':Mp}(F:zU b la M1 M')(s:Sm M M1):zU b la M M':=λa o h n1 n2=>F a o (s a o h) n1 n2
theorem zU.Ht (F:zU b la M M')(hb:M b=some (.ins B dx fs))(ha:M la=some (.lst l))(h:M r=some (.dK kvs)):M' r=some (.dK kvs):=F _ _ h (λz=>by subst z;rw[hb] at h;cases h) λz=>by subst z;rw[ha] at h;cases h
def zU.pg (F:zU b la M M')(hb:M b=some (.ins B dx (eP p now la' lu lh)))(ha:M la=some (.lst l))(h:Pg C M a R T):Pg C M' a R T:=by let⟨lj,r,t,h1,h2,h3⟩:=h;exact#[lj,r,t,F _ _ h1 (λz=> ?_) (λz=> ?_),F.Ht hb ha h2,F.Ht hb ha h3];subst z;rw[hb] at h1;injection h1 with h1;injection h1 with _ _ h1;have:=congrArg List.length h1;revert this;change 5=2 ->False;decide;subst z;rw[ha] at h1;cases h1
def Fs (s:fP)(M M':Mp):Prop:= ∀a o,M a=some o ->a≠s ->M' a=some o
theorem Fs.trans {M M1 M2:Mp}(f:Fs s M M1)(g:Fs s M1 M2):Fs s M M2:=λa o h n=>g a o (f a o h n) n
theorem Fs.self:Fs s M (um M s o):=λa u h n=>by rw[aP n];show h
theorem Fs.new (f:Fs s M M')(hp:M' p=none):Fs s M (um M' p o):=λa u h n=>by rw[aP (bY (f a u h n) hp)];show f a u h n
theorem Fs.put (f:Fs s M M'):Fs s M (um M' s o):=λa u h n=>by rw[aP n];show f a u h n
def Fs.free (f:Fs s M M')(hp:M' p=none)(n:p≠s):M p=none:=by
 cases e:M p with
 | none=>rfl
 | some o=>rw[f p o e n] at hp;cases hp
structure p9 (p:Int)(R:Rm):Prop where
 nd:(R.map (·.1)).Nodup
 len:R.length<=1000
 ok: ∀z∈R,dQ p z.2.2 /\ z.2.2.length<=401 /\ gl z.2 200 200=false
def RT (C:fP):fc:=λxs M q e=> ∃n:Str,gm (xs= [ws n]) (gQ n) (n.length<=100) (ci n=true ->q wn M) (ci n=false ->e C M)
def RI:fe:=λxs M q=>fY λ(d:fP) (kvs:cA (b8×W)) (n:Str) (x:W)=>fj (xs= [wr d,ws n,x]) (M d=some (.dK kvs)) (kvs.length<=2000) (∀r,M r=none ->q (wr r) (um M r (.dK (uN kvs (.inr n) x))))
def Ji:fe:=λxs M q=>eQ λ(d:fP) (kvs:cA (b8×W)) (n:Str)=>fj (xs= [wr d,ws n]) (M d=some (.dK kvs)) ((eU kvs (.inr n)).isSome=true) (∀r,M r=none ->q (wr r) (um M r (.dK (jQ kvs (.inr n)))))
def V8 (C:fP):fe:=λxs M q=>fY λ(s dx r t:fP)=>cW (xs= [wr s,wr r,wr t]) (M s=some (.ins C dx [])) (q wn (um M s (.ins C dx (lK r t))))
def Wd (B C:fP):fe:=λxs M q=>eQ λ(s dx:fP) (p:Int)=>fj (xs= [wr s,wi p]) (p=2 \/ p=3 \/ p=5 \/ p=7) (M s=some (.ins B dx [])) (∀M' la lu lh now,Bk B C M' s la lu lh p now [] [] [] [] [] ->Fs s M M' ->M la=none ->M lu=none ->M lh=none ->la≠s ->q wn M')
def Gb (B C:fP):fe:=λxs M q=>sO λ(b la lu lh now:fP)=>fY λ(p:Int) (pa un he:cA fP)=>cg λ(R:Rm) (T:Tm)=>cW (xs= [wr b]) (Bk B C M b la lu lh p now pa un he R T) (q (wi p) M)
def V2 (B C:fP):fe:=λxs M q=>UE λ(b la lu lh now pg:fP)=>fY λ(p:Int) (pa un he:cA fP)=>fY λ(R:Rm) (T:Tm) (R':Rm) (T':Tm)=>gm (xs= [wr b,wr pg]) (Bk B C M b la lu lh p now pa un he R T) (Pg C M pg R' T') (pa.length<=1000) (∀M' eL,Bk B C M' b la eL lh p pg (pa++ [now]) [] he R' T' ->zU b la M M' ->M eL=none ->q wn M')
def Ge (B C:fP):fe:=λxs M q=>sO λ(b la lu lh now:fP)=>fY λ(p:Int) (pa un he:cA fP)=>eQ λ(R:Rm) (T:Tm) (n:Str)=>fj (xs= [wr b,ws n]) (Bk B C M b la lu lh p now pa un he R T) (T.length<=1000) (q (wb (sS T n)) M)
def dm (T:Tm)(n:Str)(a:Rd):Bool:=gl a 200 200 || (sS T n && gl a 8 24)
def Gc (B C X:fP):fc:=λxs M q e=>sO λ(b la lu lh now:fP)=>fY λ(p:Int) (pa un he:cA fP)=>fY λ(R:Rm) (T:Tm) (n:Str) (a:Rd)=>BG (xs= [wr b,ws n,gv a]) (Bk B C M b la lu lh p now pa un he R T) (pa.length<=1000) (R.length<=1000) (T.length<=1000) (a.2.length<=1000000) (dm T n a=false -> ∀M' eL pg,Bk B C M' b la eL lh p pg (pa++ [now]) [] he (gV R n a) T ->zU b la M M' ->M eL=none ->M pg=none ->q wn M') (dm T n a=true ->e X M)
def Jj:fe:=λxs M q=>eQ λ(a:Rd) (e r:Int)=>cW (xs= [gv a,wi e,wi r]) (a.2.length<=1000000) (q (wb (!gl a e r)) M)
def RS:fe:=λxs M q=> ∃a:Rd,cW (xs= [gv a]) (a.2.length<=1000000) (q (wb (!gl a 8 24)) M)
inductive dR where
 | tell (n:Str) (ds:List (Str×Int)) | join (n x y:Str) | back (n x:Str) | times (n x:Str) (k:Int) | drop (n:Str)
inductive Oc (α:Type) where
 | ok (R:α) | bad (r:Rf)
noncomputable def IV (p:Int) (a:Rd) (n:Int):Rd:=Classical.epsilon λr=>hW p a n r
theorem Eh (hp:0<p)(h:hW p a n r):IV p a n=r:=(Classical.epsilon_spec (p:=λr=>hW p a n r) #[r,h]).eq hp h
def VP (hp:0<p)(h:dQ p a.2):hW p a 1 a:=by
 exact#[by rw[Int.mul_one],h,λx=> ?_];have e:lv (fE a.2) a.1 1 x=fE a.2 x:=by simp[lv,fZ]
 rw[e, <- mO hp,Jz hp h]
theorem Ru (hp:0<p):hW p a (-1) (bk p a):=(VP hp (Dl hp a)).y_ hp ⋯
def jp (ds:cA (Str×Int)):Bool:=ds.all λd=>decide (d.1= "go") || decide (d.1= "turn")
def vC:jp ds=true↔ ∀d∈ds,Good d:=by unfold jp Good;rw[List.all_eq_true];simp![Bool.or_eq_true,dq]
def jK (R:Rm)(T:Tm)(n:Str)(a:Rd):Oc Rm:=if dm T n a=true then .bad .TooFar else .ok (gV R n a)
noncomputable def cC (p:Int) (R:Rm) (T:Tm):dR ->Oc Rm
 | .tell n ds=>if ci n=false then .bad .BadName else if jp ds=false then .bad .NoDeed else jK R T n ((e_ ds).1,qH p (e_ ds).2)
 | .join n x y=>if ci n=false then .bad .BadName else match cw R x,cw R y with
  | some a,some b=>jK R T n (jn p a b)
  | _,_=> .bad .NoRound
 | .back n x=>if ci n=false then .bad .BadName else match cw R x with
  | some a=>jK R T n (bk p a)
  | none=> .bad .NoRound
 | .times n x k=>if ci n=false then .bad .BadName else match cw R x with
  | some a=>jK R T n (IV p a k)
  | none=> .bad .NoRound
 | .drop n=>match cw R n with
  | none=> .bad .NoRound
  | some _=>if sS T n=true then .bad .InUse else .ok (oa R n)
structure Nm (n:Str):Prop where
 as:gQ n
 len:n.length<=100
def Hn:dR ->Prop
 | .tell n ds=>cW (Nm n) (ds.length<=50) (∀d∈ds,d.1.length<=100)
 | .join n x y=>cW (Nm n) (Nm x) (Nm y)
 | .back n x=>Nm n /\ Nm x
 | .times n x k=>fj (Nm n) (Nm x) (-100<=k) (k<=100)
 | .drop n=>Nm n
structure OQ (p:Int)(R:Rm)(T:Tm)(pa:List Addr):Prop where
 p4:p=2 \/ p=3 \/ p=5 \/ p=7
 pa:pa.length<=900
 r:p9 p R
 t:T.length<=900
def sQ (B C:fP)(M:Mp)(b la lh:fP)(p:Int)(now:fP)(pa he:cA fP)(R:Rm)(T:Tm)(q:WK):Prop:=∀M' eL pg,Bk B C M' b la eL lh p pg (pa++ [now]) [] he R T ->zU b la M M' ->M eL=none ->M pg=none ->q wn M'
def Wc (B C:fP)(vR:Rf ->fP)(f:cA W ->Mp ->dR ->Prop):fc:=λxs M q e=>sO λ(b la lu lh now:fP)=>fY λ(p:Int) (pa un he:cA fP)=>fY λ(R:Rm) (T:Tm) (dd:dR) (ys:cA W)=>Ld (xs=wr b::ys) (f ys M dd) (Hn dd) (Bk B C M b la lu lh p now pa un he R T) (OQ p R T pa) (∀R',cC p R T dd= .ok R' ->sQ B C M b la lh p now pa he R' T q) (∀r,cC p R T dd= .bad r ->e (vR r) M)
def yL {vR:Rf ->fP}(hB:Bk B C M b la lu lh p now pa un he R T)(hS:OQ p R T pa)(hl:a.2.length<=1000000)(ho:O=jK R T n a)(kq: ∀R',O= .ok R' ->sQ B C M b la lh p now pa he R' T q)(ke: ∀r,O= .bad r ->up e (vR r) M)(hX:X=vR .TooFar:=by rfl):Gc B C X [wr b,ws n,gv a] M (λ_ M1=> ∃M0,Sm M0 M1 /\ q wn M0) (up e):=by have h1:=hS.pa;have h2:=hS.r.len;have h3:=hS.t;exact#[b,la,lu,lh,now,p,pa,un,he,R,T,n,a,rfl,hB,by omega,h2,by omega,hl,λhb M' eL pg B' F hu hp=>dY (kq _ (by rw[ho,jK,ak (by rw[hb];decide)]) M' eL pg B' F hu hp),λhb=> ?_];rw[hX];show ke .TooFar (by rw[ho,jK,ao hb])
def XE (ys:cA W)(M:Mp)(dd:dR):Prop:=eQ λ(n:Str) (a:fP) (ds:cA (Str×Int))=>cW (ys= [ws n,wr a]) (dd= .tell n ds) (M a=some (.lst (ds.map fV)))
def XF (ys:cA W)(_:Mp)(dd:dR):Prop:=eQ λ(n x y:Str)=>ys= [ws n,ws x,ws y] /\ dd= .join n x y
def XH (ys:cA W)(_:Mp)(dd:dR):Prop:=cg λ(n x:Str)=>ys= [ws n,ws x] /\ dd= .back n x
def Tk (ys:cA W)(_:Mp)(dd:dR):Prop:=eQ λ(n x:Str) (k:Int)=>ys= [ws n,ws x,wi k] /\ dd= .times n x k
def XG (ys:cA W)(_:Mp)(dd:dR):Prop:= ∃n:Str,ys= [ws n] /\ dd= .drop n
def Jl (B C X:fP):fc:=λxs M q e=>sO λ(b la lu lh now:fP)=>fY λ(p:Int) (pa un he:cA fP)=>eQ λ(R:Rm) (T:Tm) (n:Str)=>gm (xs= [wr b,ws n]) (Bk B C M b la lu lh p now pa un he R T) (n.length<=100) (∀a,cw R n=some a ->q (gv a) M) (cw R n=none ->e X M)
def MT (B C:fP):fe:=λxs M q=>sO λ(b la lu lh now:fP)=>fY λ(p:Int) (pa un he:cA fP)=>cg λ(R:Rm) (T:Tm)=>fj (xs= [wr b]) (Bk B C M b la lu lh p now pa un he R T) (R.length<=1000) (∀ (u:fP) (ns:cA Str),M u=none ->ns.Perm (R.map (·.1)) ->ns.Pairwise (λx y=>¬y.cps.toList<x.cps.toList) ->q (wr u) (um M u (.lst (ns.map ws))))
def MX (B C:fP):fe:=λxs M q=>sO λ(b la lu lh now:fP)=>fY λ(p:Int) (pa un he:cA fP)=>cg λ(R:Rm) (T:Tm)=>fj (xs= [wr b]) (Bk B C M b la lu lh p now pa un he R T) (T.length<=1000) (∀ (u:fP) (ns:cA Str),M u=none ->ns.Perm (T.map (·.1)) ->ns.Pairwise (λx y=>¬y.cps.toList<x.cps.toList) ->q (wr u) (um M u (.lst (ns.map ws))))
theorem Qn {a n:Str}(h:a.length<=100)(hn:n.length<=100):(a++n).length<=sizeLine:=bg (by rw[bz];omega)
theorem Qm {a n c:Str}(h:a.length<=100)(hn:n.length<=100)(hc:c.length<=100):(a++n++c).length<=sizeLine:=bg (by rw[bz,bz];omega)
theorem ZH {a n c d:Str}(h:a.length<=100)(hn:n.length<=100)(hc:c.length<=100)(hd:d.length<=100):(a++n++c++d).length<=sizeLine:=bg (by rw[bz,bz,bz];omega)
theorem As {lo hi:Int}: ∀ {l:Pt} {a:Int},l.Pairwise (λx y=>x.1<y.1) ->(∀z∈l,a<=z.1 /\ z.1<=hi) ->a<=hi+1 ->(l.length:Int) <=hi+1 - a
 | [],a,_,_,h=>by simp;omega
 | z::l,a,hp,hb,h=>by have h0:=hb z (by simp);have:=As (lo:=lo) (hi:=hi) (l:=l) (a:=z.1+1) (bZ.mp hp).2 (λy hy=>#[by have:=(bZ.mp hp).1 y hy;omega,(hb y (by simp[hy])).2]) (by omega);rw[aB];push_cast;omega
def N7 (h:gl a 200 200=false)(hp:dQ p a.2):a.2.length<=401:=by unfold gl at h;rw[Bool.not_eq_false',cz,List.all_eq_true] at h;have:=As (lo:=0) (hi:=200) (a:= -200) hp.2 (λz hz=>by have:=of_decide_eq_true (h.2 z hz);split at this<;>omega) ⋯;omega
def p9.put (h:p9 p R)(hl:R.length<1000)(ha:dQ p a.2)(hb:dm T n a=false):p9 p (gV R n a):=by
 have hf:gl a 200 200=false:=by unfold dm at hb;rw[Bool.or_eq_false_iff] at hb;show hb.1
 show#[IZ h.nd,ar (mP _ _ _) hl,λz hz=>(oV hz).elim (h.ok z) λe=>by rw[e];show#[ha,N7 hf ha,hf]]
theorem p9.del (h:p9 p R):p9 p (oa R n):=#[KI h.nd,ar (uq _ _) h.len,λz hz=>h.ok z (pS hz)]
def mI:gQ x↔ ∀c∈x.cps.toList,c<128:=by unfold gQ;rw[<- Array.all_toList,List.all_eq_true];simp![dq]
def Nm.app (hx:gQ x)(hy:gQ y):gQ (x++y):=by rw[mI] at*;intro c hc;rw[gD] at hc;show(a9.mp hc).elim (hx c) (hy c)
def BF (hx:gQ x):gQ (Txt.slice x lo hi):=by unfold Txt.slice;split;show hx;rw[mI] at*;intro c hc;rw[List.mem_filterMap] at hc;let⟨i,_,hi⟩:=hc;show hx c (Array.mem_toList_iff.mpr (Array.mem_of_getElem? hi))
def La (hx:gQ x):gQ (iC x n):=by
 unfold iC;split;decide+kernel;split;show hx;rw [mI] at*;have: ∀ (n:Nat) (a:gH Nat),(∀c∈a.toList,c<128) -> ∀c∈((List.replicate n x.cps).foldl (· ++ ·) a).toList,c<128:=by
  intro n;induction n with
  | zero=>intro a ha c hc;show ha c hc
  | succ n ih=>intro a ha c hc;rw[List.replicate_succ,List.foldl_cons] at hc;exact ih (a++x.cps) (λc hc=> ?_) c hc;rw[bS] at hc;show(a9.mp hc).elim (ha c) (hx c)
 show this n #[] (by simp)
def FP:(iC x n).length<=n*x.length:=by unfold iC;split;change 0<=_;omega;split;rename_i h0 h;obtain h | h:=h;subst h;omega;rw[h];omega;rw[Eg];show aq _
def Lb (h0:gQ ju)(h: ∀x∈ss,gQ x):gQ (Builtin.Str.glued ju ss):=by
 cases ss with
 | nil=>rw[xG];decide+kernel
 | cons x ss=>rw[mI];intro c hc;rw[mV,a9] at hc;obtain hc | hc:=hc;show mI.mp (h x (by simp)) c hc;let⟨l,hl,hc⟩:=List.mem_flatten.mp hc;let⟨y,hy,rfl⟩:=bX.mp hl;obtain hc | hc:=a9.mp hc;show mI.mp h0 c hc;show mI.mp (h y (by simp[hy])) c hc
def JJ (h0:0<=i)(h1:i<26): ∃c,gP zT.cps.toList i=some c /\ gQ ⟨#[c]⟩:=by
 have hl:zT.cps.toList.length=26:=by decide+kernel
 have hj:i.toNat<zT.cps.toList.length:=by omega
 have ha: ∀c∈zT.cps.toList,c<128:=by decide+kernel
 exact#[zT.cps.toList[i.toNat],gd h0 (aO hj),mI.mpr λc hc=> ?_];have e:c=zT.cps.toList[i.toNat]:= ⇑hc;rw[e];show ha _ (List.getElem_mem _)
def MS:fe:=λxs M q=>eQ λ(d l:fP) (m:Int)=>gm (xs= [wr d,wi m]) (Dr M d l) (0<=m) (m<=20) (∀ (u:fP) (ns:cA Str) (M':Mp),M' u=some (.lst (ns.map ws)) ->(ns.length:Int)=m ->(∀n∈ns,Nm n) ->u≠d ->u≠l ->Dr M' d l ->q (wr u) M')
end WQ
namespace WL
open PySem L2
section
variable {K:WV}
def HP:WM:=λx ys M q=>cg λa l=>fj (x=wr a) (ys= []) (M a=some (.lst l)) (q wn (um M a (.lst [])))
instance:IM K IY HP where
 imp:=by
  rintro x v ys us M H q Q m r1 r2 ⟨a,l,rfl,rfl,ha,h⟩ k;cases r1.eq;let⟨vs,hv,rr⟩:=m a _ ha;have e:us= []:=by simpa only[cI] using r2
  subst e;show#[a,vs,rfl,rfl,hv,k _ _ _ _ h (iB hv) (m.putL hv cI.nil) WR.v]
def U9:HP (.v (.ref a)) [] M q=lstK (M a) λ_=>q wn (um M a (.lst [])):=by apply propext;symm;rintro⟨_,l,h1,_,h2,k⟩;cases h1;show#[l,h2,k];rintro⟨l,h2,k⟩;show#[_,l,rfl,rfl,h2,k]
end
end WL
namespace WQ
open PySem L2 WL WP
def WY (x:Str):Qa (.str x) [.str "go", .str "turn"]=(decide (x= "go") || decide (x= "turn")):=by
 change(Hs (.str "go") (.str x) || (Hs (.str "turn") (.str x) || false))=_;rw[Bool.or_false,Bool.eq_iff_iff,Bool.or_eq_true,Bool.or_eq_true,dq,dq];have e: ∀y:Str,Hs (.str y) (.str x)=true↔x=y:=λy=>by simp[Hs];show eq_comm
 rw[e,e]
theorem rn:Of ws Dt.str:=λ_=>rfl
def Db (l:cA Str):tQ (.lst (l.map Dt.str)) <=50:=by
 have: ∀l:cA Str,ka (l.map Dt.str) <=1:=λl=>by
  induction l with
  | nil=>simp[ka]
  | cons x l ih=>simp[ka,tQ];omega
 have:=this l;simp![tQ];omega
theorem yA (h:p xs M q λ_ _=>False):mG (VI p) xs M q:=h
def mR (P:W ->Prop)(h0:0<=y)(h1:y<xs.length)(hP: ∀x∈xs,P x)(hk: ∀x,P x ->k x):iN (gP xs y) k:=by
 have hj:y.toNat<xs.length:=by omega
 show#[xs[y.toNat],gd h0 (aO hj),hk _ (hP _ (List.getElem_mem _))]
structure tR (T:Tm):Prop where
 nd:(T.map (·.1)).Nodup
 len:T.length<=900
 key: ∀z∈T,z.1.length<=100
 mem: ∀z∈T,z.2.length<=100
def zk (h:(l.map (·.1)).Nodup){z:Str×α}(hz:z∈l):cw l z.1=some z.2:=by
 induction l with
 | nil=>cases hz
 | cons y l ih=>rw[aN,List.nodup_cons] at h;unfold cw;rw[cJ];obtain e | e:=aT.mp hz;subst e;simp;have lT:y.1≠z.1:=λe2=>h.1 (bX.mpr #[z,e,e2.symm]);rw[aF lT];show ih h.2 e
def IN (M:Mp)(h:fP):Mp:=λa=>if a=h then none else M a
theorem qy (n:a≠h):IN M h a=M a:=ak n
theorem MC {M M2:Mp}(s:Sm M M2):Sm (IN M h) (um M2 h o):=λa u e=>by by_cases n:a=h;subst n;unfold IN at e;rw[ao rfl] at e;cases e;rw[qy n] at e;rw[aP n];show s _ _ e
def Bk.IN {pa un he:cA fP}(hB:Bk B C M b la lu lh p now pa un he R T)(hh:M h=some (.lst l))(n1:la≠h)(n2:lu≠h)(n3:lh≠h):Bk B C (IN M h) b la lu lh p now pa un he R T:=by
 let⟨⟨dx,h1⟩,h2,h3,h4,h5,lj,r,t,h6,h7,h8⟩:=hB;have ni: ∀ {a:fP} {o:MO},M a=some o ->(∀l,o≠ .lst l) ->WQ.IN M h a=some o:=λ{a o} e n=>by rw[qy (λz=>by subst z;rw[e] at hh;cases hh;show n _ rfl)];show e
 show#[#[dx,ni h1 (λ_ z=>nomatch z)],by rw[qy n1];show h2,by rw[qy n2];show h3,by rw[qy n3];show h4,h5,lj,r,t,ni h6 (λ_ z=>nomatch z),ni h7 (λ_ z=>nomatch z),ni h8 (λ_ z=>nomatch z)]
theorem zU.IN {M M1 M':Mp}(F:zU b la M1 M')(s:Sm M M1)(hh:M h=none):zU b la M (IN M' h):=λa o e n1 n2=>by rw[qy (bY e hh)];show F a o (s a o e) n1 n2
def DV (M:Mp):dR ->W ->Prop
 | .tell n ds,w=> ∃a:fP,w= .tup [ws "tell",ws n,wr a] /\ M a=some (.lst (ds.map fV))
 | .join n x y,w=>w= .tup [ws "join",ws n, .tup [ws x,ws y]]
 | .back n x,w=>w= .tup [ws "back",ws n, .tup [ws x],wi (-1)]
 | .times n x k,w=>w= .tup [ws "times",ws n, .tup [ws x],wi k]
 | .drop n,w=>w= .tup [ws "drop",ws n]
def DV.mv (h:DV M dd w)(f: ∀a l,M a=some (.lst l) ->(∃n,w= .tup [ws "tell",n,wr a]) ->M' a=some (.lst l)):DV M' dd w:=by
 cases dd with
 | tell n ds=>let⟨a,rfl,ha⟩:=h;show#[a,rfl,f a _ ha #[_,rfl]]
 | _=>show h
theorem DV.sm (h:DV M dd w)(s:Sm M M'):DV M' dd w:=h.mv λa l e _=>s a _ e
noncomputable def i7 (p:Int) (R:Rm):dR ->e9 Rd
 | .tell _ ds=>some ((e_ ds).1,qH p (e_ ds).2)
 | .join _ x y=>match cw R x,cw R y with
  | some a,some b=>some (jn p a b)
  | _,_=>none
 | .back _ x=>(cw R x).map λa=>IV p a (-1)
 | .times _ x k=>(cw R x).map λa=>IV p a k
 | .drop _=>none
def gk:dR ->Str
 | .tell n _=>n | .join n _ _=>n | .back n _=>n | .times n _ _=>n | .drop n=>n
def kdOf:dR ->Str
 | .tell _ _=> "tell" | .join _ _ _=> "join" | .back _ _=> "back" | .times _ _ _=> "times" | .drop _=> "drop"
def MV:fe:=λxs M q=> ∃n:Str,cW (xs= [ws n]) (Nm n) (q (wb (ci n)) M)
def V':fe:=λxs M q=>eQ λ(a:Rd) (m r:Int)=>cW (xs= [gv a,wi m,wi r]) (a.2.length<=1000000) (q (wb (gl a m r)) M)
def RK:fe:=λxs M q=>sO λ(p:Int) (r:fP) (R:Rm) (dd:dR) (w:W)=>BG (xs= [wi p,wr r,w]) (p=2 \/ p=3 \/ p=5 \/ p=7) (M r=some (.dK (xp R))) (p9 p R) (DV M dd w) (Hn dd) ((i7 p R dd).isSome=true) (∀a,i7 p R dd=some a ->dQ p a.2 ->a.2.length<=1000000 ->q (gv a) M)
def V_:fe:=λxs M q=>ZO λ(p:Int) (r t:fP) (R:Rm) (T:Tm) (dd:dR) (w:W)=>BG (xs= [wi p, .tup [wr r,wr t],w]) (p=2 \/ p=3 \/ p=5 \/ p=7) (M r=some (.dK (xp R)) /\ M t=some (.dK (qg T))) (p9 p R /\ tR T) (DV M dd w) (Hn dd) (∀R',cC p R T dd= .ok R' ->p9 p R /\ (R.length<1000 ->p9 p R') -> ∀r' M',Sm M M' ->M r'=none ->M' r'=some (.dK (xp R')) ->q (.tup [ws "", .tup [wr r',wr t]]) M') (∀f,cC p R T dd= .bad f ->q (.tup [ws (Cu f), .tup [wr r,wr t]]) M)
def EC (h:ci (gk dd)=false)(hd: ∀n,dd≠ .drop n):cC p R T dd= .bad .BadName:=by
 cases dd with
 | drop n=>show absurd rfl (hd n)
 | _=>rw[cC];show ao h
def Jw (p0:0<p)(h:ci (gk dd)=true)(hg: ∀n ds,dd= .tell n ds ->jp ds=true)(hv:i7 p R dd=some a):cC p R T dd=jK R T (gk dd) a:=by
 have hn:¬ci (gk dd)=false:=by rw[h];decide
 cases dd with
 | tell n ds=>replace hn:¬ci n=false:=hn;rw[cC,ak hn,ak (by rw[hg n ds rfl];decide)];cases hv;rfl
 | join n x y=>
  replace hn:¬ci n=false:=hn;rw[cC,ak hn];rw[i7] at hv;cases hx:cw R x with
  | none=>rw[hx] at hv;cases hv
  | some a1=>
   cases hy:cw R y with
   | none=>rw[hx,hy] at hv;cases hv
   | some a2=>rw[hx,hy] at hv;cases hv;rfl
 | back n x=>
  replace hn:¬ci n=false:=hn;rw[cC,ak hn];rw[i7] at hv;cases hx:cw R x with
  | none=>rw[hx] at hv;cases hv
  | some a1=>rw[hx] at hv;cases hv;change jK R T n (bk p a1)=jK R T n (IV p a1 (-1));rw[Eh p0 (Ru p0)]
 | times n x k=>
  replace hn:¬ci n=false:=hn;rw[cC,ak hn];rw[i7] at hv;cases hx:cw R x with
  | none=>rw[hx] at hv;cases hv
  | some a1=>rw[hx] at hv;cases hv;rfl
 | drop n=>cases hv
def N8 (la:fP)(w:W):Prop:= ∀n,w≠ .tup [ws "tell",n,wr la]
def Ey (B C:fP):fe:=λxs M q=>ZO λ(b la lu lh now r t:fP)=>fY λ(p:Int) (pa un he:cA fP)=>cg λ(R:Rm) (T:Tm)=>lm (xs= [wi p,wr b, .tup [wr r,wr t]]) (Bk B C M b la lu lh p now pa un he R T) (M r=some (.dK (xp R)) /\ M t=some (.dK (qg T))) (p9 p R) (tR T /\ ∀z∈R,z.1.length<=100) (q (wb true) M)
def MW:fe:=λxs M q=>cg λ(d l:fP)=>cW (xs= [wr d]) (Dr M d l) (∀ (u:fP) (ds:cA (Str×Int)) (M':Mp),M u=none ->M' u=some (.lst (ds.map fV)) ->ds.length<=50 ->(∀z∈ds,z.1.length<=100) ->Dr M' d l ->Fs d M M' ->q (wr u) M')
def yQ:fe:=λxs M q=>fY λ(d l nl:fP) (ns:cA Str)=>Ld (xs= [wr d,wr nl]) (Dr M d l) (M nl=some (.lst (ns.map ws))) (nl≠d) (0<ns.length /\ ns.length<=100) (∀n∈ns,Nm n) (∀ (n:Str) (M':Mp),Nm n ->Dr M' d l ->NB d M M' ->q (ws n) M')
def RN:fe:=λxs M q=>fY λ(d l nl:fP) (ns:cA Str)=>Ld (xs= [wr d,wr nl]) (Dr M d l) (M nl=some (.lst (ns.map ws))) (nl≠d) (0<ns.length /\ ns.length<=100) (∀n∈ns,Nm n) (∀ (dd:dR) (w:W) (M':Mp),DV M' dd w ->Hn dd ->(∀a n,w= .tup [ws "tell",n,wr a] ->M a=none) ->Dr M' d l ->Fs d M M' ->q w M')
def V3 (B C X:fP):fc:=λxs M q e=>sO λ(b la lu lh now:fP)=>fY λ(p:Int) (pa un he:cA fP)=>eQ λ(R:Rm) (T:Tm) (n:Str)=>gm (xs= [wr b,ws n]) (Bk B C M b la lu lh p now pa un he R T) (n.length<=100) (∀a,cw T n=some a ->q (fk a) M) (cw T n=none ->e X M)
def Jo (B C X:fP):fc:=λxs M q e=>sO λ(b la lu lh now:fP)=>fY λ(p:Int) (pa un he:cA fP)=>eQ λ(R:Rm) (T:Tm) (n:Str)=>gm (xs= [wr b,ws n]) (Bk B C M b la lu lh p now pa un he R T) (n.length<=100) (∀a,cw T n=some a -> ∀u,M u=none ->q (wr u) (um M u (.lst (a.map ws)))) (cw T n=none ->e X M)
def yS (h:jK R T n a= .ok R'):R'=gV R n a:=by unfold jK at h;split at h;cases h;cases h;rfl
def Wj (h:cC p R T dd= .ok R'):(∃a,R'=gV R (gk dd) a /\ ci (gk dd)=true) \/ R'=oa R (gk dd):=by
 cases dd<;>rw[cC] at h;case drop n=>
  repeat' split at h
  all_goals first
  | (cases h;done)
  | (cases h;show .inr rfl)
 all_goals
  repeat' split at h
  all_goals first
  | (cases h;done)
  | (rename_i h1 _;exact .inl #[_,yS h,?_];show(Bool.not_eq_false _).mp h1)
  | (rename_i h1 _ _ _;exact .inl #[_,yS h,?_];show(Bool.not_eq_false _).mp h1)
  | (rename_i h1 _ _ _ _ _ _;exact .inl #[_,yS h,?_];show(Bool.not_eq_false _).mp h1)
def JD (h:ci n=true):n.length<=100:=by unfold ci at h;rw[cz,cz] at h;have:=of_decide_eq_true h.1.2;omega
def Ni (h:cC p R T dd= .ok R')(hk: ∀z∈R,z.1.length<=100):(∀z∈R',z.1.length<=100) /\ R'.length<=R.length+1:=by
 rcases Wj h with⟨a,rfl,hn⟩ | rfl
 show#[λz hz=>(oV hz).elim (hk z) λe=>by rw[e];show JD hn,mP _ _ _];show#[λz hz=>hk z (pS hz),ar (uq _ _) (by omega)]
def DV.head (h:DV M dd w): ∃cQ,w= .tup (ws (kdOf dd)::cQ):=by
 cases dd with
 | tell n ds=>let⟨a,rfl,_⟩:=h;show#[_,rfl]
 | _=>cases h;show#[_,rfl]
def Bk.fs {pa un he:cA fP}(hB:Bk B C M b la lu lh p now pa un he R T)(F:Fs d M M')(hd:M d=some (.lst x))(n1:la≠d)(n2:lu≠d)(n3:lh≠d):Bk B C M' b la lu lh p now pa un he R T:=by let⟨⟨dx,h1⟩,h2,h3,h4,h5,lj,r,t,h6,h7,h8⟩:=hB;have ni: ∀ {a:fP} {o:MO},M a=some o ->(∀l,o≠ .lst l) ->M' a=some o:=λ{a o} e n=>F a o e (λz=>by subst z;rw[e] at hd;cases hd;show n _ rfl);show#[#[dx,ni h1 (λ_ z=>nomatch z)],F _ _ h2 n1,F _ _ h3 n2,F _ _ h4 n3,h5,lj,r,t,ni h6 (λ_ z=>nomatch z),ni h7 (λ_ z=>nomatch z),ni h8 (λ_ z=>nomatch z)]
theorem Fs.Ht (F:Fs d M M')(hd:M d=some (.lst x))(h:M r=some (.dK kvs)):M' r=some (.dK kvs):=F _ _ h λz=>by subst z;rw[hd] at h;cases h
def KG (h:Dr M d l)(s:Sm M M'):Dr M' d l:=by let⟨ns,i,c,sd,h1,h2,h3,h4⟩:=h;show#[ns,i,c,sd,s _ _ h1,s _ _ h2,h3,h4]
def Fi (h:Dr M d l): ∃x,M d=some (.lst x):=by let⟨ns,i,c,sd,h1,h2,h3,h4⟩:=h;show#[_,h1]
def IP (f:Rf):Cu f≠ "" :=by cases f<;>decide+kernel
end WQ
namespace L2
open PySem
def Ii (td ty:TE):TE:=Ik td ty
theorem Jf (hu:X.A.units+1<cLine)(ho:PE X o td)(hi:PE X i ty)(hs:TH i):PE X (.Subscript o i pos) (Ii td ty):=eK hu ho hi hs
end L2
namespace WL
open PySem L2
section
variable {K:WV}
def Ob (o:e9 MO)(k:cA (b8×W) ->Prop):Prop:= ∃l,(o=some (.dK l) \/ cg λb ks=>o=some (.fz b ks l)) /\ k l
def HK (a b:WE):WE:=λρ M q=>a ρ M λx M1=>b ρ M1 λy M2=>d5 x λp=>iZ y λk=>Ob (M2 p) λkvs=>iN (eU kvs k) λz=>q z M2
instance {t u:TE}{a b:WE} [ia:IE K t a] [ib:IE K u b]:IE K (Ii t u) (HK a b) where
 imp :=λρ M σ H q Q o h k=>ia.imp ρ M σ H _ _ o h λx M1 v H1 h1 t1 m1 r1=>ib.imp ρ M1 σ H1 _ _ (o.mv t1 m1) h1 λy M2 u H2 h2 t2 m2 r2=>by
  let⟨p,e1,ky,e3,kvs,e2,z,e4,h2⟩:=h2;subst e1 e3;have fin: ∀ks,KR K H2 kvs ks ->Rd H2 p (.dK ks) ->cg λa v=>cW (V.ref p= .ref a) (ng H2 a (kV ky) (some v)) (Q v H2):=λks rr hk=>by
   rcases rr.val ky with⟨n1,_⟩ | ⟨x',v',n1,n2,rx⟩
   rw[n1] at e4;cases e4;rw[n1] at e4;cases e4;show#[p,v',rfl, .inl #[ks,ky,hk,rfl,n2.symm],k _ M2 _ H2 h2 (t1.trans t2) m2 rx]
  rw[je r2,r1.eq];obtain e2 | ⟨ob,ks,e2⟩:=e2;let⟨ks,hk,rr⟩:=m2 p _ e2;show fin ks rr (.inl hk);let⟨hk,rr⟩:=m2 p _ e2;show fin ks rr (.inr #[ob,hk])
def ahB:Ob (some (.fz b ks l)) k=k l:=by unfold Ob;apply propext;symm;rintro⟨_,h | ⟨_,_,h⟩,k⟩;cases h;cases h;show k;intro h;show#[l, .inr #[b,ks,rfl],h]
theorem U6:HK a b ρ M q=a ρ M λx M1=>b ρ M1 λy M2=>d5 x λp=>iZ y λk=>Ob (M2 p) λkvs=>iN (eU kvs k) λz=>q z M2:=rfl
end
end WL
namespace WQ
open PySem L2 WL WP
inductive gf where
 | found (c:Str) | disband (c:Str) | enlist (c n:Str) | dismiss (c n:Str)
def cG (R:Rm)(T:Tm):gf ->Oc Tm
 | .found c=>if ci c=false then .bad .BadName else match cw T c with
  | some _=> .bad .Taken
  | none=> .ok (gV T c [])
 | .disband c=>match cw T c with
  | none=> .bad .NoCrew
  | some _=> .ok (oa T c)
 | .enlist c n=>match cw T c with
  | none=> .bad .NoCrew
  | some l=>match cw R n with
   | none=> .bad .NoRound
   | some a=>if rW n l=true then .bad .Taken else if 6<=l.length then .bad .TooMany else if gl a 8 24=true then .bad .TooFar else .ok (gV T c (l++ [n]))
 | .dismiss c n=>match cw T c with
  | none=> .bad .NoCrew
  | some l=>if rW n l=false then .bad .NoRound else .ok (gV T c (l.filter λm=>decide (m≠n)))
def BW:gf ->Prop
 | .found c=>Nm c
 | .disband c=>Nm c
 | .enlist c n=>Nm c /\ Nm n
 | .dismiss c n=>Nm c /\ Nm n
def Jm (B C:fP):fe:=λxs M q=>sO λ(b la lu lh now:fP)=>fY λ(p:Int) (pa un he:cA fP)=>fY λ(R:Rm) (T:Tm) (c:Str) (l:cA Str)=>gm (xs= [wr b,ws c,fk l]) (Bk B C M b la lu lh p now pa un he R T) (pa.length<=900) (T.length<=900) (sQ B C M b la lh p now pa he R (gV T c l) q)
def ug (B C:fP)(vR:Rf ->fP)(f:cA W ->gf ->Prop):fc:=λxs M q e=>sO λ(b la lu lh now:fP)=>fY λ(p:Int) (pa un he:cA fP)=>fY λ(R:Rm) (T:Tm) (dd:gf) (ys:cA W)=>BG (xs=wr b::ys) (f ys dd) (BW dd) (Bk B C M b la lu lh p now pa un he R T) (OQ p R T pa) (tR T) (∀T',cG R T dd= .ok T' ->sQ B C M b la lh p now pa he R T' q) (∀r,cG R T dd= .bad r ->e (vR r) M)
def Tl (ys:cA W)(dd:gf):Prop:= ∃c:Str,ys= [ws c] /\ dd= .found c
def Kx (ys:cA W)(dd:gf):Prop:= ∃c:Str,ys= [ws c] /\ dd= .disband c
def N9 (ys:cA W)(dd:gf):Prop:=cg λ(c n:Str)=>ys= [ws c,ws n] /\ dd= .enlist c n
def Kw (ys:cA W)(dd:gf):Prop:=cg λ(c n:Str)=>ys= [ws c,ws n] /\ dd= .dismiss c n
def UI (b la lu:fP)(M M':Mp):Prop:= ∀a o,M a=some o ->a≠b ->a≠la ->a≠lu ->M' a=some o
def UI.pg (F:UI b la lu M M')(hb:M b=some (.ins B dx (eP p now la' eL lh)))(ha:M la=some (.lst l))(hu:M lu=some (.lst l2))(h:Pg C M a R T):Pg C M' a R T:=by
 have F2:zU b la M (λx=>if x=lu then M x else M' x):=λx o e n1 n2=>by change(if x=lu then M x else M' x)=some o;split;show e;rename_i n3;show F x o e n1 n2 n3
 let⟨lj,r,t,h1,h2,h3⟩:=F2.pg hb ha h;have nl: ∀ {x:fP} {o:MO},(if x=lu then M x else M' x)=some o ->(∀l,o≠ .lst l) ->M' x=some o:=λ{x o} e n=>by split at e;rename_i z;rw[z,hu] at e;cases e;show absurd rfl (n _);show e
 show#[lj,r,t,nl h1 (λ_ z=>nomatch z),nl h2 (λ_ z=>nomatch z),nl h3 (λ_ z=>nomatch z)]
def Pr (B C X:fP):fc:=λxs M q e=>sO λ(b la lu lh now:fP)=>fY λ(p:Int) (pa un he:cA fP)=>cg λ(R:Rm) (T:Tm)=>gm (xs= [wr b]) (Bk B C M b la lu lh p now pa un he R T) (un.length<=1000) (pa= [] ->e X M) (∀MP pg,pa=MP++ [pg] ->cg λR' T'=>Pg C M pg R' T' /\ ∀M',Bk B C M' b la lu lh p pg MP (un++ [now]) he R' T' ->UI b la lu M M' ->q wn M')
def Px (B C X:fP):fc:=λxs M q e=>sO λ(b la lu lh now:fP)=>fY λ(p:Int) (pa un he:cA fP)=>cg λ(R:Rm) (T:Tm)=>gm (xs= [wr b]) (Bk B C M b la lu lh p now pa un he R T) (pa.length<=1000) (un= [] ->e X M) (∀QY pg,un=QY++ [pg] ->cg λR' T'=>Pg C M pg R' T' /\ ∀M',Bk B C M' b la lu lh p pg (pa++ [now]) QY he R' T' ->UI b la lu M M' ->q wn M')
def Py (B C:fP):fe:=λxs M q=>sO λ(b la lu lh now:fP)=>fY λ(p:Int) (pa un he:cA fP)=>cg λ(R:Rm) (T:Tm)=>fj (xs= [wr b]) (Bk B C M b la lu lh p now pa un he R T) (he.length<=1000) (∀M',Bk B C M' b la lu lh p now pa un (he++ [now]) R T ->zU b lh M M' ->q (wi he.length) M')
inductive fJ where
 | r (d:dR) | c (d:gf) | undo | redo | hold | ret (k:Int)
def vj:fJ ->Prop
 | .r _=>True | .c _=>True | _=>False
structure gh where
 R:Rm
 T:Tm
 past:List (Addr×Rm×Tm)
 qp:List (Addr×Rm×Tm)
 held:List (Addr×Rm×Tm)
def zG (C:fP)(M:Mp)(l:cA (fP×Rm×Tm)):Prop:= ∀z∈l,Pg C M z.1 z.2.1 z.2.2
structure tY (B C:Addr)(M:Mp)(b la lu lh:Addr)(p:Int)(now:Addr)(S:gh):Prop where
 bk:Bk B C M b la lu lh p now (S.past.map (·.1)) (S.qp.map (·.1)) (S.held.map (·.1)) S.R S.T
 pp:zG C M S.past
 pu:zG C M S.qp
 ph:zG C M S.held
theorem zG.sm (h:zG C M l)(s:Sm M M'):zG C M' l:=λz hz=>(h z hz).sm s
theorem zG.snoc (h:zG C M l)(hz:Pg C M z.1 z.2.1 z.2.2):zG C M (l++ [z]):=λy hy=>(a9.mp hy).elim (h y) λe=>by rw[be.mp e];show hz
theorem tY.sm (h:tY B C M b la lu lh p now S)(s:Sm M M'):tY B C M' b la lu lh p now S:=#[h.bk.sm s,h.pp.sm s,h.pu.sm s,h.ph.sm s]
def Hw (b la lu lh:fP)(M M':Mp):Prop:= ∀a o,M a=some o ->a≠b ->a≠la ->a≠lu ->a≠lh ->M' a=some o
def keep (s:gh)(now:fP):gh:= {s with past:=s.past++ [(now,s.R,s.T)],qp:= []}
noncomputable def za (p:Int) (R:Rm) (T:Tm):fJ ->Oc (Rm×Tm)
 | .r d=>match cC p R T d with
  | .ok R'=> .ok (R',T)
  | .bad f=> .bad f
 | .c d=>match cG R T d with
  | .ok T'=> .ok (R,T')
  | .bad f=> .bad f
 | _=> .bad .NoMore
noncomputable def oA (p:Int) (now:fP) (S:gh):fJ ->Oc (gh×W)
 | .undo=>match S.past.getLast? with
  | none=> .bad .NoMore
  | some z=> .ok (#[z.2.1,z.2.2,S.past.dropLast,S.qp++ [(now,S.R,S.T)],S.held],wn)
 | .redo=>match S.qp.getLast? with
  | none=> .bad .NoMore
  | some z=> .ok (#[z.2.1,z.2.2,S.past++ [(now,S.R,S.T)],S.qp.dropLast,S.held],wn)
 | .hold=> .ok ({S with held:=S.held++ [(now,S.R,S.T)]},wi S.held.length)
 | .ret k=>if 0<=k then match S.held[k.toNat]? with
   | none=> .bad .NoState
   | some z=> .ok (#[z.2.1,z.2.2,S.past++ [(now,S.R,S.T)],[],S.held],wn)
  else .bad .NoState
 | dd=>match za p S.R S.T dd with
  | .ok z=> .ok (#[z.1,z.2,S.past++ [(now,S.R,S.T)],[],S.held],wn)
  | .bad f=> .bad f
theorem Jy (h:vj dd):oA p now S dd=match za p S.R S.T dd with
  | .ok z=> .ok (#[z.1,z.2,S.past++ [(now,S.R,S.T)],[],S.held],wn)
  | .bad f=> .bad f:=by
 cases dd with
 | r d=>rfl
 | c d=>rfl
 | _=>cases h
def DC (B C:fP)(M:Mp)(b la lu lh:fP)(p:Int)(S:gh)(q:WK)(v:W):Prop:= ∀M' eL Gr,tY B C M' b la eL lh p Gr S ->Hw b la lu lh M M' ->(eL=lu \/ M eL=none) ->q v M'
theorem Lc (hS:tY B C M b la lu lh p now S)(k:DC B C M b la lu lh p #[R',T',S.past++ [(now,S.R,S.T)],[],S.held] q wn):sQ B C M b la lh p now (S.past.map (·.1)) (S.held.map (·.1)) R' T' q:=λM' eL pg B' F hu _=>by let⟨dx,hb⟩:=hS.bk.ob;have pm: ∀ {l},zG C M l ->zG C M' l:=λh z hz=>F.pg hb hS.bk.pa (h z hz);exact k M' eL pg #[?_,(pm hS.pp).snoc (F.pg hb hS.bk.pa hS.bk.pg),λz hz=>(by cases hz),pm hS.ph] (λa o h n1 n2 _ _=>F a o h n1 n2) (.inr hu);change Bk B C M' b la eL lh p pg ((S.past++ [(now,S.R,S.T)]).map (·.1)) [] (S.held.map (·.1)) R' T';rw[aA];show B'
def DA (M:Mp):fJ ->W ->Prop
 | .r d,w=>DV M d w
 | .c (.found c),w=>w= .tup [ws "found",ws c]
 | .c (.disband c),w=>w= .tup [ws "disband",ws c]
 | .c (.enlist c n),w=>w= .tup [ws "enlist",ws c,ws n]
 | .c (.dismiss c n),w=>w= .tup [ws "dismiss",ws c,ws n]
 | .undo,w=>w= .tup [ws "undo"]
 | .redo,w=>w= .tup [ws "redo"]
 | .hold,w=>w= .tup [ws "hold"]
 | .ret k,w=>w= .tup [ws "return",wi k]
def DA.sm (h:DA M dd w)(s:Sm M M'):DA M' dd w:=by
 cases dd with
 | r d=>show DV.sm h s
 | c d=>cases d<;>show h
 | _=>show h
def UK:fJ ->Prop
 | .r d=>Hn d
 | .c d=>BW d
 | _=>True
structure nL (p:Int)(R:Rm)(T:Tm):Prop where
 r:p9 p R
 t:tR T
 k: ∀z∈R,z.1.length<=100
 m: ∀z∈T, ∀n∈z.2,n.length<=100
structure Lg (p:Int)(S:gh):Prop where
 p4:p=2 \/ p=3 \/ p=5 \/ p=7
 s:nL p S.R S.T
 pa:S.past.length<=900
 un:S.qp.length<=900
 he:S.held.length<=900
theorem Lg.bk (h:Lg p S):OQ p S.R S.T (S.past.map (·.1)):=#[h.p4,by rw[af];show h.pa,h.s.r,h.s.t.len]
def V6 (ok:fJ ->Prop)(B C:fP)(vR:Rf ->fP):fc:=λxs M q e=>UE λ(b la lu lh now:fP) (p:Int)=>eQ λ(S:gh) (dd:fJ) (w:W)=>BG (xs= [wr b,w]) (DA M dd w /\ ok dd) (N8 la w) (UK dd) (tY B C M b la lu lh p now S) (Lg p S) (∀S' v,oA p now S dd= .ok (S',v) ->DC B C M b la lu lh p S' q v) (∀r,oA p now S dd= .bad r ->e (vR r) M)
def RU (ok:fJ ->Prop)(B C:fP):fe:=λxs M q=>UE λ(b la lu lh now:fP) (p:Int)=>eQ λ(S:gh) (dd:fJ) (w:W)=>BG (xs= [wr b,w]) (DA M dd w /\ ok dd) (N8 la w) (UK dd) (tY B C M b la lu lh p now S) (Lg p S) (∀S' v,oA p now S dd= .ok (S',v) ->DC B C M b la lu lh p S' (λv M'=>q (.tup [ws "",v]) M') v) (∀r,oA p now S dd= .bad r ->q (.tup [ws (Cu r),wn]) M)
def nV (R:Rm)(l:cA Str):gf ->Oc (cA Str)
 | .dismiss _ n=>if rW n l=false then .bad .NoRound else .ok (l.filter λm=>decide (m≠n))
 | .enlist _ n=>match cw R n with
  | none=> .bad .NoRound
  | some a=>if rW n l=true then .bad .Taken else if 6<=l.length then .bad .TooMany else if gl a 8 24=true then .bad .TooFar else .ok (l++ [n])
 | _=> .bad .NoMore
def Oi:gf ->Str
 | .found c=>c | .disband c=>c | .enlist c _=>c | .dismiss c _=>c
def J8:gf ->Prop
 | .enlist _ _=>True | .dismiss _ _=>True | _=>False
theorem Bw {T:Tm}(h:J8 d)(hg:cw T (Oi d)=some l):cG R T d=match nV R l d with
  | .ok l'=> .ok (gV T (Oi d) l')
  | .bad f=> .bad f:=by
 cases d with
 | found c=>cases h
 | disband c=>cases h
 | enlist c n=>
  rw[cG,nV];replace hg:cw T c=some l:=hg;rw[hg];dsimp only;cases cw R n with
  | none=>rfl
  | some a=>dsimp only;by_cases h1:rW n l=true;rw[ao h1,ao h1];rw[ak h1,ak h1];by_cases h2:6<=l.length;rw[ao h2,ao h2];rw[ak h2,ak h2];by_cases h3:gl a 8 24=true;rw[ao h3,ao h3];rw[ak h3,ak h3];rfl
 | dismiss c n=>rw[cG,nV];replace hg:cw T c=some l:=hg;rw[hg];dsimp only;by_cases h1:rW n l=false;rw[ao h1,ao h1];rw[ak h1,ak h1];rfl
def Pz:fe:=λxs M q=>sO λ(r t:fP) (R:Rm) (T:Tm) (d:gf)=>cg λ(w:W) (l:cA Str)=>BG (xs= [.tup [wr r,wr t],w]) (M r=some (.dK (xp R)) /\ M t=some (.dK (qg T))) (J8 d /\ BW d) (DA M (.c d) w) (cw T (Oi d)=some l) (l.length<=100 /\ ∀z∈R,z.2.2.length<=1000) (∀l',nV R l d= .ok l' ->q (.tup [ws "",fk l']) M) (∀f,nV R l d= .bad f ->q (.tup [ws (Cu f), .tup []]) M)
def Wa:fe:=λxs M q=>UE λ(r t:fP) (R:Rm) (T:Tm) (d:gf) (w:W)=>BG (xs= [.tup [wr r,wr t],w]) (M r=some (.dK (xp R)) /\ M t=some (.dK (qg T))) (BW d) (DA M (.c d) w) (tR T) (∀z∈R,z.2.2.length<=1000) (∀T',cG R T d= .ok T' -> ∀t' M',Sm M M' ->M' t'=some (.dK (qg T')) ->q (.tup [ws "", .tup [wr r,wr t']]) M') (∀f,cG R T d= .bad f ->q (.tup [ws (Cu f), .tup [wr r,wr t]]) M)
def Wb:fe:=λxs M q=>ZO λ(p:Int) (r t:fP) (R:Rm) (T:Tm) (dd:fJ) (w:W)=>BG (xs= [wi p, .tup [wr r,wr t],w]) (p=2 \/ p=3 \/ p=5 \/ p=7) (M r=some (.dK (xp R)) /\ M t=some (.dK (qg T))) (nL p R T) (DA M dd w /\ vj dd) (UK dd) (∀R' T',za p R T dd= .ok (R',T') ->(R.length<1000 ->T.length<900 ->nL p R' T') ->(R'.length<=R.length+1 /\ T'.length<=T.length+1) -> ∀r' t' M',Sm M M' ->M' r'=some (.dK (xp R')) ->M' t'=some (.dK (qg T')) ->q (.tup [ws "", .tup [wr r',wr t']]) M') (∀f,za p R T dd= .bad f ->q (.tup [ws (Cu f), .tup [wr r,wr t]]) M)
def zm (h:tR T)(hg:cw T c=some l):l.length<=100:=by let⟨z,hz,_,rfl⟩:=d4 hg;show h.mem z hz
theorem tR.put (h:tR T)(hl:T.length<900)(hc:c.length<=100)(hm:l.length<=100):tR (gV T c l):=#[IZ h.nd,ar (mP _ _ _) hl,λz hz=>(oV hz).elim (h.key z) λe=>by rw[e];show hc,λz hz=>(oV hz).elim (h.mem z) λe=>by rw[e];show hm]
def Og (hd:BW d)(h:tR T)(ho:cG R T d= .ok T'):(T.length<900 ->tR T') /\ T'.length<=T.length+1:=by
 cases d with
 | found c=>
  rw[cG] at ho;repeat' split at ho
  all_goals first
  | (cases ho;done)
  | (cases ho;show#[λhl=>h.put hl hd.len (by simp),mP _ _ _])
 | disband c=>rw[cG] at ho;split at ho;cases ho;cases ho;show#[λhl=>#[KI h.nd,ar (uq _ _) h.len,λz hz=>h.key z (pS hz),λz hz=>h.mem z (pS hz)],ar (uq _ _) (by omega)]
 | enlist c n=>
  rw[cG] at ho;split at ho;cases ho;split at ho;cases ho;repeat' split at ho
  all_goals first
  | (cases ho;done)
  | (cases ho;show#[λhl=>h.put hl hd.1.len (by rw[aD];simp;omega),mP _ _ _])
 | dismiss c n=>rw[cG] at ho;split at ho;cases ho;rename_i l hg;split at ho;cases ho;cases ho;show#[λhl=>h.put hl hd.1.len (ar (List.length_filter_le _ _) (zm h hg)),mP _ _ _]
def Oh (hd:BW d)(h: ∀z∈T, ∀n∈z.2,n.length<=100)(ho:cG R T d= .ok T'): ∀z∈T', ∀n∈z.2,n.length<=100:=by
 have pt: ∀ {c:Str} {l:cA Str},(∀n∈l,n.length<=100) -> ∀z∈gV T c l, ∀n∈z.2,n.length<=100:=λhl z hz=>(oV hz).elim (h z) λe=>by rw[e];show hl
 have gt: ∀ {c:Str} {l:cA Str},cw T c=some l -> ∀n∈l,n.length<=100:=λhg=>by let⟨z,hz,_,rfl⟩:=d4 hg;show h z hz
 cases d with
 | found c=>
  rw[cG] at ho;repeat' split at ho
  all_goals first
  | (cases ho;done)
  | (cases ho;show pt (by simp))
 | disband c=>rw[cG] at ho;split at ho;cases ho;cases ho;show λz hz=>h z (pS hz)
 | enlist c n=>
  rw[cG] at ho;split at ho;cases ho;rename_i l hg;split at ho;cases ho;repeat' split at ho
  all_goals first
  | (cases ho;done)
  | (cases ho;show pt λy hy=>(a9.mp hy).elim (gt hg y) λe=>by rw[be.mp e];show hd.2.len)
 | dismiss c n=>rw[cG] at ho;split at ho;cases ho;rename_i l hg;split at ho;cases ho;cases ho;show pt λy hy=>gt hg y (List.mem_filter.mp hy).1
def RV:fe:=λxs M q=>fY λ(d l nl:fP) (ns:cA Str)=>Ld (xs= [wr d,wr nl]) (Dr M d l) (M nl=some (.lst (ns.map ws))) (nl≠d) (2<=ns.length /\ ns.length<=100) (∀n∈ns,Nm n) (∀ (dd:gf) (w:W) (M':Mp),DA M' (.c dd) w ->BW dd ->Dr M' d l ->NB d M M' ->q w M')
def Pg.fs (h:Pg C M a R T)(F:Fs d M M')(hd:M d=some (.lst x)):Pg C M' a R T:=by let⟨lj,r,t,h6,h7,h8⟩:=h;have ni: ∀ {a:fP} {o:MO},M a=some o ->(∀l,o≠ .lst l) ->M' a=some o:=λ{a o} e n=>F a o e (λz=>by subst z;rw[e] at hd;cases hd;show n _ rfl);show#[lj,r,t,ni h6 (λ_ z=>nomatch z),ni h7 (λ_ z=>nomatch z),ni h8 (λ_ z=>nomatch z)]
structure Ap (x la lu lh:Addr):Prop where
 a:la≠x
 u:lu≠x
 h:lh≠x
theorem Ap.step {M:Mp}(h:Ap x la lu lh)(hx:M x=some o)(hu:eL=lu \/ M eL=none):Ap x la eL lh:=#[h.a,(by obtain rfl | hu:=hu;show h.u;show(bY hx hu).symm),h.h]
theorem Ap.new (h:tY B C M b la lu lh p now S)(hx:M x=none):Ap x la lu lh:=#[bY h.bk.pa hx,bY h.bk.un hx,bY h.bk.he hx]
theorem tY.fs (h:tY B C M b la lu lh p now S)(F:Fs d M M')(hd:M d=some (.lst x))(n:Ap d la lu lh):tY B C M' b la lu lh p now S:=#[h.bk.fs F hd n.a n.u n.h,λz hz=>(h.pp z hz).fs F hd,λz hz=>(h.pu z hz).fs F hd,λz hz=>(h.ph z hz).fs F hd]
def Hw.lst {B C b la lu lh now x:fP}{M M':Mp}{p:Int}{S:gh}{l:cA W}(F:Hw b la lu lh M M')(hB:tY B C M b la lu lh p now S)(h:M x=some (.lst l))(n:Ap x la lu lh):M' x=some (.lst l):=by let⟨dx,hb⟩:=hB.bk.ob;show F _ _ h (λz=>by subst z;rw[hb] at h;cases h) n.a.symm n.u.symm n.h.symm
def Hw.Ht (F:Hw b la lu lh M M')(hB:tY B C M b la lu lh p now S)(h:M x=some (.dK l)):M' x=some (.dK l):=by let⟨dx,hb⟩:=hB.bk.ob;show F _ _ h (λz=>by subst z;rw[hb] at h;cases h) (λz=>by subst z;rw[hB.bk.pa] at h;cases h) (λz=>by subst z;rw[hB.bk.un] at h;cases h) λz=>by subst z;rw[hB.bk.he] at h;cases h
def Hw.dr (F:Hw b la lu lh M M')(hB:tY B C M b la lu lh p now S)(h:Dr M d l)(n1:Ap d la lu lh)(n2:Ap l la lu lh):Dr M' d l:=by let⟨ns,i,c,sd,h1,h2,h3,h4⟩:=h;show#[ns,i,c,sd,F.lst hB h1 n1,F.lst hB h2 n2,h3,h4]
def XM (h:Dr M d l): ∃x,M l=some (.lst x):=by let⟨ns,i,c,sd,h1,h2,h3,h4⟩:=h;show#[_,h2]
def k_join_tell:decide (("join" :Str)= "tell")=false:=by decide+kernel
def k_back_tell:decide (("back" :Str)= "tell")=false:=by decide+kernel
def k_back_join:decide (("back" :Str)= "join")=false:=by decide+kernel
def k_times_tell:decide (("times" :Str)= "tell")=false:=by decide+kernel
def k_times_join:decide (("times" :Str)= "join")=false:=by decide+kernel
def k_times_back:decide (("times" :Str)= "back")=false:=by decide+kernel
def k_drop_tell:decide (("drop" :Str)= "tell")=false:=by decide+kernel
def k_drop_join:decide (("drop" :Str)= "join")=false:=by decide+kernel
def k_drop_back:decide (("drop" :Str)= "back")=false:=by decide+kernel
def k_drop_times:decide (("drop" :Str)= "times")=false:=by decide+kernel
def k_found_tell:decide (("found" :Str)= "tell")=false:=by decide+kernel
def k_found_join:decide (("found" :Str)= "join")=false:=by decide+kernel
def k_found_back:decide (("found" :Str)= "back")=false:=by decide+kernel
def k_found_times:decide (("found" :Str)= "times")=false:=by decide+kernel
def k_found_drop:decide (("found" :Str)= "drop")=false:=by decide+kernel
def k_disband_tell:decide (("disband" :Str)= "tell")=false:=by decide+kernel
def k_disband_join:decide (("disband" :Str)= "join")=false:=by decide+kernel
def k_disband_back:decide (("disband" :Str)= "back")=false:=by decide+kernel
def k_disband_times:decide (("disband" :Str)= "times")=false:=by decide+kernel
def k_disband_drop:decide (("disband" :Str)= "drop")=false:=by decide+kernel
def k_disband_found:decide (("disband" :Str)= "found")=false:=by decide+kernel
def k_enlist_tell:decide (("enlist" :Str)= "tell")=false:=by decide+kernel
def k_enlist_join:decide (("enlist" :Str)= "join")=false:=by decide+kernel
def k_enlist_back:decide (("enlist" :Str)= "back")=false:=by decide+kernel
def k_enlist_times:decide (("enlist" :Str)= "times")=false:=by decide+kernel
def k_enlist_drop:decide (("enlist" :Str)= "drop")=false:=by decide+kernel
def k_enlist_found:decide (("enlist" :Str)= "found")=false:=by decide+kernel
def k_enlist_disband:decide (("enlist" :Str)= "disband")=false:=by decide+kernel
def k_dismiss_tell:decide (("dismiss" :Str)= "tell")=false:=by decide+kernel
def k_dismiss_join:decide (("dismiss" :Str)= "join")=false:=by decide+kernel
def k_dismiss_back:decide (("dismiss" :Str)= "back")=false:=by decide+kernel
def k_dismiss_times:decide (("dismiss" :Str)= "times")=false:=by decide+kernel
def k_dismiss_drop:decide (("dismiss" :Str)= "drop")=false:=by decide+kernel
def k_dismiss_found:decide (("dismiss" :Str)= "found")=false:=by decide+kernel
def k_dismiss_disband:decide (("dismiss" :Str)= "disband")=false:=by decide+kernel
def k_dismiss_enlist:decide (("dismiss" :Str)= "enlist")=false:=by decide+kernel
def k_undo_tell:decide (("undo" :Str)= "tell")=false:=by decide+kernel
def k_undo_join:decide (("undo" :Str)= "join")=false:=by decide+kernel
def k_undo_back:decide (("undo" :Str)= "back")=false:=by decide+kernel
def k_undo_times:decide (("undo" :Str)= "times")=false:=by decide+kernel
def k_undo_drop:decide (("undo" :Str)= "drop")=false:=by decide+kernel
def k_undo_found:decide (("undo" :Str)= "found")=false:=by decide+kernel
def k_undo_disband:decide (("undo" :Str)= "disband")=false:=by decide+kernel
def k_undo_enlist:decide (("undo" :Str)= "enlist")=false:=by decide+kernel
def k_undo_dismiss:decide (("undo" :Str)= "dismiss")=false:=by decide+kernel
def k_redo_tell:decide (("redo" :Str)= "tell")=false:=by decide+kernel
def k_redo_join:decide (("redo" :Str)= "join")=false:=by decide+kernel
def k_redo_back:decide (("redo" :Str)= "back")=false:=by decide+kernel
def k_redo_times:decide (("redo" :Str)= "times")=false:=by decide+kernel
def k_redo_drop:decide (("redo" :Str)= "drop")=false:=by decide+kernel
def k_redo_found:decide (("redo" :Str)= "found")=false:=by decide+kernel
def k_redo_disband:decide (("redo" :Str)= "disband")=false:=by decide+kernel
def k_redo_enlist:decide (("redo" :Str)= "enlist")=false:=by decide+kernel
def k_redo_dismiss:decide (("redo" :Str)= "dismiss")=false:=by decide+kernel
def k_redo_undo:decide (("redo" :Str)= "undo")=false:=by decide+kernel
def k_hold_tell:decide (("hold" :Str)= "tell")=false:=by decide+kernel
def k_hold_join:decide (("hold" :Str)= "join")=false:=by decide+kernel
def k_hold_back:decide (("hold" :Str)= "back")=false:=by decide+kernel
def k_hold_times:decide (("hold" :Str)= "times")=false:=by decide+kernel
def k_hold_drop:decide (("hold" :Str)= "drop")=false:=by decide+kernel
def k_hold_found:decide (("hold" :Str)= "found")=false:=by decide+kernel
def k_hold_disband:decide (("hold" :Str)= "disband")=false:=by decide+kernel
def k_hold_enlist:decide (("hold" :Str)= "enlist")=false:=by decide+kernel
def k_hold_dismiss:decide (("hold" :Str)= "dismiss")=false:=by decide+kernel
def k_hold_undo:decide (("hold" :Str)= "undo")=false:=by decide+kernel
def k_hold_redo:decide (("hold" :Str)= "redo")=false:=by decide+kernel
def k_return_tell:decide (("return" :Str)= "tell")=false:=by decide+kernel
def k_return_join:decide (("return" :Str)= "join")=false:=by decide+kernel
def k_return_back:decide (("return" :Str)= "back")=false:=by decide+kernel
def k_return_times:decide (("return" :Str)= "times")=false:=by decide+kernel
def k_return_drop:decide (("return" :Str)= "drop")=false:=by decide+kernel
def k_return_found:decide (("return" :Str)= "found")=false:=by decide+kernel
def k_return_disband:decide (("return" :Str)= "disband")=false:=by decide+kernel
def k_return_enlist:decide (("return" :Str)= "enlist")=false:=by decide+kernel
def k_return_dismiss:decide (("return" :Str)= "dismiss")=false:=by decide+kernel
def k_return_undo:decide (("return" :Str)= "undo")=false:=by decide+kernel
def k_return_redo:decide (("return" :Str)= "redo")=false:=by decide+kernel
def k_return_hold:decide (("return" :Str)= "hold")=false:=by decide+kernel
def k_enlist_dismiss:decide (("enlist" :Str)= "dismiss")=false:=by decide+kernel
def at0 (hρ:ρ[i]? =some (some (.tup (ws k::l))))(h:q (wb (decide (k=s))) M):LG T8 (LG FI (fC i) (wC (W.v (V.int 0)))) (wC (W.v (V.str s))) ρ M q:=by
 unfold LG fC wC;rw[hρ];exact#[_,0,_,rfl,rfl,XZ,_,_,rfl,rfl,rfl,?_];have e:decide (V.str k=V.str s)=decide (k=s):=by simp
 rw[e];show h
theorem eX {a cQ:WS}(hρ:ρ[i]? =some (some (.tup (ws k::l))))(lT:decide (k=s)=false)(h:cQ D ρ M):FY (Ro (w5 (LG T8 (LG FI (fC i) (wC (W.v (V.int 0)))) (wC (W.v (V.str s))))) a Ed) cQ D ρ M:=at0 hρ #[false,by rw[lT],h]
theorem Ho {a cQ:WS}(hρ:ρ[i]? =some (some (.tup (ws s::l))))(h:a {nx:=hold (cQ D),rt:=D.rt,bk:=D.bk,ct:=D.ct} ρ M):FY (Ro (w5 (LG T8 (LG FI (fC i) (wC (W.v (V.int 0)))) (wC (W.v (V.str s))))) a Ed) cQ D ρ M:=at0 hρ #[true,by rw[a6 rfl],h]
def jv:dR ->cA Str
 | .join _ x y=> [x,y] | .back _ x=> [x] | .times _ x _=> [x] | _=> []
def Um:dR ->Prop
 | .join _ _ _=>True | .back _ _=>True | .times _ _ _=>True | _=>False
def dvn (h:DV M dd w)(hn:Um dd): ∃tail,w= .tup (ws (kdOf dd)::ws (gk dd):: .tup ((jv dd).map ws)::tail):=by cases dd<;>first | cases hn;done | (cases h;show#[_,rfl])
def kdn (hn:Um dd):cW (decide (kdOf dd= "drop")=false) (decide (kdOf dd= "tell")=false) (decide (kdOf dd≠ "tell")=true):=by
 have h: ∀k:Str,k= "join" \/ k= "back" \/ k= "times" ->cW (decide (k= "drop")=false) (decide (k= "tell")=false) (decide (k≠ "tell")=true):=by rintro k (rfl | rfl | rfl) <;>show#[by decide+kernel,by decide+kernel,by decide+kernel]
 cases dd<;>first | cases hn;done | show h _ (.inl rfl) | show h _ (.inr (.inl rfl)) | show h _ (.inr (.inr rfl))
def nmn (hn:Um dd)(h:Hn dd):Nm (gk dd):=by cases dd<;>first | cases hn;done | show h.1
def Wl {R:Rm}(hn:Um dd)(jm:ci (gk dd)=true)(h:((jv dd).all λx=>(cw R x).isSome)=false):cC p R T dd= .bad .NoRound:=by
 have A4:¬ci (gk dd)=false:=by rw[jm];decide
 cases dd with
 | join n x y=>
  replace A4:¬ci n=false:=A4;rw[cC,ak A4];simp![jv,List.all_cons,List.all_nil,Bool.and_true] at h;cases hx:cw R x with
  | none=>rfl
  | some a=>
   cases hy:cw R y with
   | none=>rfl
   | some b=>rw[hx,hy] at h;cases h
 | back n x=>
  replace A4:¬ci n=false:=A4;rw[cC,ak A4];simp![jv,List.all_cons,List.all_nil,Bool.and_true] at h;cases hx:cw R x with
  | none=>rfl
  | some a=>rw[hx] at h;cases h
 | times n x k=>
  replace A4:¬ci n=false:=A4;rw[cC,ak A4];simp![jv,List.all_cons,List.all_nil,Bool.and_true] at h;cases hx:cw R x with
  | none=>rfl
  | some a=>rw[hx] at h;cases h
 | _=>cases hn
def Mo {R:Rm}(hn:Um dd)(h:((jv dd).all λx=>(cw R x).isSome)=true):(i7 p R dd).isSome=true:=by
 cases dd with
 | join n x y=>simp![jv,List.all_cons,List.all_nil,Bool.and_true,cz] at h;let⟨a,ha⟩:=Option.isSome_iff_exists.mp h.1;let⟨b,hb⟩:=Option.isSome_iff_exists.mp h.2;rw[i7,ha,hb];rfl
 | back n x=>simp![jv,List.all_cons,List.all_nil,Bool.and_true] at h;rw[i7,bW];show h
 | times n x k=>simp![jv,List.all_cons,List.all_nil,Bool.and_true] at h;rw[i7,bW];show h
 | _=>cases hn
def QB (dd:dR):(jv dd).length<=2:=by cases dd<;>simp[jv]
end WQ
namespace L2
open PySem
theorem JF (h:X.K=K):Hu X "str.join" (oU K):=h▸j7
theorem RH {T id:String}{dH dk:Pos}(hK:X.K=K)(pa:PlainAttrs T)(slot:Slot T name id)(W7:typeOf (.builtin id)=pure (.type "method_descriptor"))(hm:Hu X id r)(ho:PE X o to)(ha:PA X (e::es) t)(vB:attributeBase o name X.env (eval o X.env)=eval o X.env:=by rfl)(Tb:((backTo dk (starEach (e::es) X.env)).all (λx=> !x.1) && (backToKw dk (keywordEach [] X.env)).all (λx=>x.1.isSome) && decide ((e::es).length+([]:cA Keyword).length+(if([]:cA Keyword).isEmpty then 0 else 1) <30))=true:=by rfl)(vA:(dH.endLine==dk.line)=true:=by rfl)(hs:starEach (e::es) X.env=(false,eval e X.env)::starEach es X.env:=by rfl)(C1:(backTo dk (starEach es X.env)).any (·.1)=false:=by rfl): PE X (.Call (.Attribute o name dH) (e::es) [] dk) (YY K T r to t):=hK▸eN pa slot W7 hm ho ha vB Tb vA hs C1
end L2
namespace WQ
open PySem L2 WL WP
noncomputable def Rj (l:cA Str):cA Str:=Classical.epsilon λns:cA Str=>ns.Perm l /\ ns.Pairwise λx y=>¬y.cps.toList<x.cps.toList
def Is (h1:ns.Perm l)(h2:ns.Pairwise λx y=>¬y.cps.toList<x.cps.toList):ns=Rj l:=by have:=Classical.epsilon_spec (p:=λns:cA Str=>ns.Perm l /\ ns.Pairwise λx y=>¬y.cps.toList<x.cps.toList) #[ns,h1,h2];show uI h1 this.1 h2 this.2
def ik (R:Rm)(n:Str):Str:=match cw R n with
 | some a=> "round " ++n++ " " ++jV a
 | none=> ""
def qw (T:Tm)(c:Str):Str:=match cw T c with
 | some l=>Builtin.Str.glued " " ("crew" ::c::l)
 | none=> ""
noncomputable def Bz (p:Int) (R:Rm) (T:Tm):Str:=Builtin.Str.glued "\n" (("settings " ++Str.ofString (toString p))::((Rj (R.map (·.1))).map (ik R)++(Rj (T.map (·.1))).map (qw T)))
def xt (B C:fP):fe:=λxs M q=>sO λ(b la lu lh now:fP)=>fY λ(p:Int) (pa un he:cA fP)=>cg λ(R:Rm) (T:Tm)=>lm (xs= [wr b]) (Bk B C M b la lu lh p now pa un he R T) (p=2 \/ p=3 \/ p=5 \/ p=7) (nL p R T) (R.length<=100 /\ T.length<=100) (q (ws (Bz p R T)) M)
def uR:fe:=λxs M q=>sO λ(p:Int) (r t:fP) (R:Rm) (T:Tm)=>lm (xs= [wi p, .tup [wr r,wr t]]) (M r=some (.dK (xp R)) /\ M t=some (.dK (qg T))) (p=2 \/ p=3 \/ p=5 \/ p=7) (nL p R T) (R.length<=100 /\ T.length<=100) (q (ws (Bz p R T)) M)
def zb (hp:p<1000)(h:dQ p a.2)(hf:gl a 200 200=false):TF a:=by
 unfold gl at hf;rw[Bool.not_eq_false',cz,List.all_eq_true] at hf;have h1:=of_decide_eq_true hf.1;exact#[?_,λz hz=> ?_];split at h1<;>(have:a.1.natAbs<=200:=by omega) <;>omega;have h2:=of_decide_eq_true (hf.2 z hz);have h3:=h.1 z hz;have:z.1.natAbs<=200:=by split at h2<;>omega
 have:z.2.natAbs<=1000:=by omega
 omega
def qu (h:TF a)(hl:a.2.length<=401):(jV a).length<=50000:=by
 unfold jV;rw[bz,bz];have l1:=fq h.1;have lc:(Str.ofString ":").length=1:=by decide+kernel
 have l0:(Str.ofString "").length=0:=by decide+kernel
 have lb:(Str.ofString " ").length=1:=by decide+kernel
 have dJ: ∀x∈a.2.map (λz=>Str.ofString " " ++fQ z),x.length<=124:=λx hx=>by let⟨z,CW,rfl⟩:=bX.mp hx;have:=ve (h.2 z CW);rw[bz];omega
 have:=gb (Str.ofString "") _ dJ;rw[af,l0] at this;omega
def IK (hp:p<1000)(h:p9 p R)(hn:n.length<=100):(ik R n).length<=51000:=by
 unfold ik;split;rename_i a hg;let⟨z,hz,_,rfl⟩:=d4 hg;have:=qu (zb hp (h.ok z hz).1 (h.ok z hz).2.2) (h.ok z hz).2.1;have l1:(Str.ofString "round ").length=6:=by decide+kernel
 have l2:(Str.ofString " ").length=1:=by decide+kernel
 rw[bz,bz,bz];omega;have:(Str.ofString "").length=0:=by decide+kernel
 omega
theorem yH {T:Tm}(hm: ∀z∈T, ∀n∈z.2,n.length<=100)(hc:c.length<=100)(hg:cw T c=some l): ∀x∈(Str.ofString "crew" ::c::l),x.length<=100:=λx hx=>by let⟨z,hz,_,rfl⟩:=d4 hg;obtain rfl | hx:=aT.mp hx;decide+kernel;obtain rfl | hx:=aT.mp hx;show hc;show hm z hz x hx
def IL (h:tR T)(hm: ∀z∈T, ∀n∈z.2,n.length<=100)(hc:c.length<=100):(qw T c).length<=51000:=by
 unfold qw;split;rename_i l hg;have h1:=gb (Str.ofString " ") _ (yH hm hc hg);have l2:(Str.ofString " ").length=1:=by decide+kernel
 have:=zm h hg;rw[aB,aB,l2] at h1;omega;have:(Str.ofString "").length=0:=by decide+kernel
 omega
theorem kg (h:n<=16000000):n<=sizeLine:=ar h (by rw[cR];decide)
def ya {ns cs:cA Str}(hp:p=2 \/ p=3 \/ p=5 \/ p=7)(hS:nL p R T)(hl:R.length<=100 /\ T.length<=100)(n1:ns.Perm (R.map (·.1)))(n2:ns.Pairwise λx y=>¬y.cps.toList<x.cps.toList)(c1:cs.Perm (T.map (·.1)))(c2:cs.Pairwise λx y=>¬y.cps.toList<x.cps.toList)(hb:M b=some (.lst ((ws ("settings " ++Str.ofString (toString p)))::(ns.map (λn=>ws (ik R n))++cs.map λc=>ws (qw T c)))))(k:q (ws (Bz p R T)) M):HH (ws "\n") [wr b] M q:=by
 have l1:(Str.ofString "\n").length=1:=by decide+kernel
 have en:=n1.length_eq;have ec:=c1.length_eq;rw[af] at en ec;exact qP (ss:=("settings " ++Str.ofString (toString p))::(ns.map (ik R)++cs.map (qw T))) (c:=51000) (by rw[hb,aN,aA,aZ,aZ];rfl) (λx hx=> ?_) ?_ ?_;obtain rfl | hx:=aT.mp hx;have:=fq (i:=p) (by omega);have l2:(Str.ofString "settings ").length=9:=by decide+kernel
 rw[bz];omega;obtain hx | hx:=a9.mp hx;let⟨n,hn,rfl⟩:=bX.mp hx;let⟨z,hz,rfl⟩:=bX.mp (n1.mem_iff.mp hn);show IK (by omega) hS.r (hS.k z hz);let⟨n,hn,rfl⟩:=bX.mp hx;let⟨z,hz,rfl⟩:=bX.mp (c1.mem_iff.mp hn);show IL hS.t hS.m (hS.t.key z hz);exact kg ?_;rw[aB,aD,af,af,l1];omega;rw[Is n1 n2,Is c1 c2];show k
def ij {α:Type}(l:cA α):l= [] \/ ∃l' z,l=l'++ [z]:=by obtain h | ⟨l',z,h⟩:=List.eq_nil_or_concat l;show .inl h;show .inr #[l',z,by rw[h,List.concat_eq_append]]
section
variable {B C X b la lu lh now:fP}{M:Mp}{p:Int}{S:gh}{q:WK}{e:WX}
def Mq (hS:tY B C M b la lu lh p now S)(hl:S.qp.length<=900)(ke:S.past= [] ->e X M)(kq: ∀z l,S.past=l++ [z] -> ∀M',tY B C M' b la lu lh p z.1 #[z.2.1,z.2.2,l,S.qp++ [(now,S.R,S.T)],S.held] ->Hw b la lu lh M M' ->q wn M'):Pr B C X [wr b] M q e:=by let⟨dx,hb⟩:=hS.bk.ob;exact#[b,la,lu,lh,now,p,_,_,_,_,_,rfl,hS.bk,by rw[af];omega,λh=>ke (List.map_eq_nil_iff.mp h),λMP pg h=> ?_];obtain h0 | ⟨l,z,h0⟩:=ij S.past;rw[h0] at h;simp at h;rw[h0,aA] at h;let⟨h1,h2⟩:=List.append_inj' h rfl;cases h2;exact#[z.2.1,z.2.2,hS.pp z (by rw[h0];simp),λM' B' F=> ?_];have pm: ∀ {l},zG C M l ->zG C M' l:=λh z hz=>F.pg hb hS.bk.pa hS.bk.un (h z hz);exact kq z l h0 M' #[?_,λy hy=>pm hS.pp y (by rw[h0];show List.mem_append_left _ hy),(pm hS.pu).snoc (F.pg hb hS.bk.pa hS.bk.un hS.bk.pg),pm hS.ph] λa o h n1 n2 n3 _=>F a o h n1 n2 n3;change Bk B C M' b la lu lh p z.1 (l.map (·.1)) ((S.qp++ [(now,S.R,S.T)]).map (·.1)) (S.held.map (·.1)) z.2.1 z.2.2;rw[aA,h1];show B'
def MD (hS:tY B C M b la lu lh p now S)(hl:S.past.length<=900)(ke:S.qp= [] ->e X M)(kq: ∀z l,S.qp=l++ [z] -> ∀M',tY B C M' b la lu lh p z.1 #[z.2.1,z.2.2,S.past++ [(now,S.R,S.T)],l,S.held] ->Hw b la lu lh M M' ->q wn M'):Px B C X [wr b] M q e:=by let⟨dx,hb⟩:=hS.bk.ob;exact#[b,la,lu,lh,now,p,_,_,_,_,_,rfl,hS.bk,by rw[af];omega,λh=>ke (List.map_eq_nil_iff.mp h),λMP pg h=> ?_];obtain h0 | ⟨l,z,h0⟩:=ij S.qp;rw[h0] at h;simp at h;rw[h0,aA] at h;let⟨h1,h2⟩:=List.append_inj' h rfl;cases h2;exact#[z.2.1,z.2.2,hS.pu z (by rw[h0];simp),λM' B' F=> ?_];have pm: ∀ {l},zG C M l ->zG C M' l:=λh z hz=>F.pg hb hS.bk.pa hS.bk.un (h z hz);exact kq z l h0 M' #[?_,(pm hS.pp).snoc (F.pg hb hS.bk.pa hS.bk.un hS.bk.pg),λy hy=>pm hS.pu y (by rw[h0];show List.mem_append_left _ hy),pm hS.ph] λa o h n1 n2 n3 _=>F a o h n1 n2 n3;change Bk B C M' b la lu lh p z.1 ((S.past++ [(now,S.R,S.T)]).map (·.1)) (l.map (·.1)) (S.held.map (·.1)) z.2.1 z.2.2;rw[aA,h1];show B'
def NO (hS:tY B C M b la lu lh p now S)(hl:S.held.length<=900)(kq: ∀M',tY B C M' b la lu lh p now {S with held:=S.held++ [(now,S.R,S.T)]} ->Hw b la lu lh M M' ->q (wi S.held.length) M'):Py B C [wr b] M q:=by let⟨dx,hb⟩:=hS.bk.ob;exact#[b,la,lu,lh,now,p,_,_,_,_,_,rfl,hS.bk,by rw[af];omega,λM' B' F=> ?_];rw[af];have pm: ∀ {l},zG C M l ->zG C M' l:=λh z hz=>F.pg hb hS.bk.he (h z hz);exact kq M' #[?_,pm hS.pp,pm hS.pu,(pm hS.ph).snoc (F.pg hb hS.bk.he hS.bk.pg)] λa o h n1 _ _ n2=>F a o h n1 n2;change Bk B C M' b la lu lh p now (S.past.map (·.1)) (S.qp.map (·.1)) ((S.held++ [(now,S.R,S.T)]).map (·.1)) S.R S.T;rw[aA];show B'
def V7 (B C X:fP):fc:=λxs M q e=>UE λ(b la lu lh now:fP) (k:Int)=>fY λ(p:Int) (pa un he:cA fP)=>cg λ(R:Rm) (T:Tm)=>Ld (xs= [wr b,wi k]) (Bk B C M b la lu lh p now pa un he R T) (pa.length<=1000) (he.length<=1000) (k.natAbs<10 ^ 60) (¬(0<=k /\ k<he.length) ->e X M) (∀pg,0<=k ->he[k.toNat]? =some pg ->cg λR' T'=>Pg C M pg R' T' /\ ∀M' eL,Bk B C M' b la eL lh p pg (pa++ [now]) [] he R' T' ->zU b la M M' ->M eL=none ->q wn M')
def Rs {k:Int}(hS:tY B C M b la lu lh p now S)(hl:S.past.length<=900)(hh:S.held.length<=900)(hk:k.natAbs<10 ^ 60)(ke:¬(0<=k /\ k<S.held.length) ->e X M)(kq: ∀z,0<=k ->S.held[k.toNat]? =some z -> ∀M' eL,tY B C M' b la eL lh p z.1 #[z.2.1,z.2.2,S.past++ [(now,S.R,S.T)],[],S.held] ->Hw b la lu lh M M' ->M eL=none ->q wn M'):V7 B C X [wr b,wi k] M q e:=by
 let⟨dx,hb⟩:=hS.bk.ob;exact#[b,la,lu,lh,now,k,p,_,_,_,_,_,rfl,hS.bk,by rw[af];omega,by rw[af];omega,hk,λh=>ke (by rw[af] at h;show h),λpg k0 h=> ?_];rw[aI] at h;cases hz:S.held[k.toNat]? with
 | none=>rw[hz] at h;cases h
 | some z=>rw[hz] at h;cases h;exact#[z.2.1,z.2.2,hS.ph z (aV hz),λM' eL B' F hu=> ?_];have pm: ∀ {l},zG C M l ->zG C M' l:=λh z hz=>F.pg hb hS.bk.pa (h z hz);exact kq z k0 hz M' eL #[?_,(pm hS.pp).snoc (F.pg hb hS.bk.pa hS.bk.pg),λz hz=>(by cases hz),pm hS.ph] (λa o h n1 n2 _ _=>F a o h n1 n2) hu;change Bk B C M' b la eL lh p z.1 ((S.past++ [(now,S.R,S.T)]).map (·.1)) [] (S.held.map (·.1)) z.2.1 z.2.2;rw[aA];show B'
end
structure G' where
 R:Rm
 T:Tm
 past:List (Rm×Tm)
 qp:List (Rm×Tm)
 held:List (Rm×Tm)
def gh.pure (S:gh):G':=#[S.R,S.T,S.past.map (·.2),S.qp.map (·.2),S.held.map (·.2)]
noncomputable def oS (p:Int) (Z:G'):fJ ->Oc (G'×W)
 | .undo=>match Z.past.getLast? with
  | none=> .bad .NoMore
  | some z=> .ok (#[z.1,z.2,Z.past.dropLast,Z.qp++ [(Z.R,Z.T)],Z.held],wn)
 | .redo=>match Z.qp.getLast? with
  | none=> .bad .NoMore
  | some z=> .ok (#[z.1,z.2,Z.past++ [(Z.R,Z.T)],Z.qp.dropLast,Z.held],wn)
 | .hold=> .ok ({Z with held:=Z.held++ [(Z.R,Z.T)]},wi Z.held.length)
 | .ret k=>if 0<=k then match Z.held[k.toNat]? with
   | none=> .bad .NoState
   | some z=> .ok (#[z.1,z.2,Z.past++ [(Z.R,Z.T)],[],Z.held],wn)
  else .bad .NoState
 | dd=>match za p Z.R Z.T dd with
  | .ok z=> .ok (#[z.1,z.2,Z.past++ [(Z.R,Z.T)],[],Z.held],wn)
  | .bad f=> .bad f
def Oc.pu:Oc (gh×W) ->Oc (G'×W)
 | .ok z=> .ok (z.1.pure,z.2)
 | .bad f=> .bad f
def Nj:oS p S.pure dd=(oA p now S dd).pu:=by
 have rc:vj dd ->oS p S.pure dd=(oA p now S dd).pu:=λh=>by
  rw[Jy h];have e:oS p S.pure dd=match za p S.R S.T dd with
  | .ok z=> .ok (#[z.1,z.2,S.pure.past++ [(S.R,S.T)],[],S.pure.held],wn)
  | .bad f=> .bad f:=by cases dd<;>first | rfl | cases h
  rw[e];cases za p S.R S.T dd with
  | ok z=>simp[Oc.pu,gh.pure]
  | bad f=>rfl
 cases dd with
 | r d=>show rc trivial
 | c d=>show rc trivial
 | undo=>rw[oS,oA];obtain h | ⟨l,z,h⟩:=ij S.past;simp[gh.pure,h,Oc.pu];simp[gh.pure,h,Oc.pu]
 | redo=>rw[oS,oA];obtain h | ⟨l,z,h⟩:=ij S.qp;simp[gh.pure,h,Oc.pu];simp[gh.pure,h,Oc.pu]
 | hold=>rw[oS,oA];simp[gh.pure,Oc.pu]
 | ret k=>
  rw[oS,oA];split;cases h:S.held[k.toNat]? with
  | none=>simp[gh.pure,h,Oc.pu]
  | some z=>simp[gh.pure,h,Oc.pu]
  rfl
def AF:fJ ->Prop
 | .ret k=>k.natAbs<1000
 | _=>True
def KW (l:cA W)(x:W):Dd (l++ [x]) none (some (-1))=l:=by
 unfold Dd;have h1:HT.ub (l++ [x]).length 0 none=0:=rfl;have h2:HT.ub (l++ [x]).length (l++ [x]).length (some (-1))=l.length:=by unfold HT.ub;rw[aD,List.length_singleton];simp;try omega
 rw[h1,h2];simp
abbrev Lp:=cA ((fP×fP)×Rm×Tm)
def sU (z:(fP×fP)×Rm×Tm):W:= .tup [wr z.1.1,wr z.1.2]
def FD (M:Mp)(a:fP)(l:cA (Rm×Tm)):Prop:= ∃lp:Lp,cW (M a=some (.lst (lp.map sU))) (lp.map (·.2)=l) (∀z∈lp,M z.1.1=some (.dK (xp z.2.1)) /\ M z.1.2=some (.dK (qg z.2.2)))
structure TJ (M:Mp)(r t sp sa sh:Addr)(Z:G'):Prop where
 r:M r=some (.dK (xp Z.R))
 t:M t=some (.dK (qg Z.T))
 p:FD M sp Z.past
 u:FD M sa Z.qp
 h:FD M sh Z.held
def FD.sm (h:FD M a l)(s:Sm M M'):FD M' a l:=by let⟨lp,h1,h2,h3⟩:=h;show#[lp,s _ _ h1,h2,λz hz=>#[s _ _ (h3 z hz).1,s _ _ (h3 z hz).2]]
theorem TJ.sm {r t sp sa sh:fP}(h:TJ M r t sp sa sh Z)(s:Sm M M'):TJ M' r t sp sa sh Z:=#[s _ _ h.r,s _ _ h.t,h.p.sm s,h.u.sm s,h.h.sm s]
def FD.at (h:FD M a l): ∃x,M a=some (.lst x):=by let⟨lp,h1,h2,h3⟩:=h;show#[_,h1]
def FD.fs (h:FD M a l)(F:Fs d M M')(hd:M d=some (.lst x))(n:a≠d):FD M' a l:=by let⟨lp,h1,h2,h3⟩:=h;show#[lp,F _ _ h1 n,h2,λz hz=>#[F.Ht hd (h3 z hz).1,F.Ht hd (h3 z hz).2]]
def FD.fr (h:FD M a l)(F:Hw b la lu lh M M')(hB:tY B C M b la lu lh p now S)(n:Ap a la lu lh):FD M' a l:=by let⟨lp,h1,h2,h3⟩:=h;show#[lp,F.lst hB h1 n,h2,λz hz=>#[F.Ht hB (h3 z hz).1,F.Ht hB (h3 z hz).2]]
def eE (r t sp sa sh:fP):W:= .tup [.tup [wr r,wr t],wr sp,wr sa,wr sh]
structure X3 (p:Int)(Z:G'):Prop where
 p4:p=2 \/ p=3 \/ p=5 \/ p=7
 s:nL p Z.R Z.T
 sz:Z.R.length<900 /\ Z.T.length<900
 pa:Z.past.length<=900
 un:Z.qp.length<=900
 he:Z.held.length<=900
def V5:fe:=λxs M q=>ZN λ(p:Int) (r t sp sa sh:fP) (Z:G') (dd:fJ)=> ∃w:W,BG (xs= [wi p,eE r t sp sa sh,w]) (TJ M r t sp sa sh Z) (X3 p Z) (DA M dd w) (AF dd) (UK dd) (∀Z' v,oS p Z dd= .ok (Z',v) ->(vj dd ->nL p Z'.R Z'.T /\ Z'.R.length<=Z.R.length+1 /\ Z'.T.length<=Z.T.length+1) -> ∀r' t' BX LJ LI M',Sm M M' ->TJ M' r' t' BX LJ LI Z' ->(∀x,x=BX \/ x=LJ \/ x=LI ->x=sp \/ x=sa \/ x=sh \/ M x=none) ->q (.tup [.tup [ws "",v],eE r' t' BX LJ LI]) M') (∀f,oS p Z dd= .bad f ->q (.tup [.tup [ws (Cu f),wn],eE r t sp sa sh]) M)
def aap:fe:=λxs M q=>fY λ(d l nl:fP) (ns:cA Str)=>Ld (xs= [wr d,wr nl]) (Dr M d l) (M nl=some (.lst (ns.map ws))) (nl≠d) (2<=ns.length /\ ns.length<=100) (∀n∈ns,Nm n) (∀ (dd:fJ) (w:W) (M':Mp),DA M' dd w ->AF dd ->UK dd ->(∀a n,w= .tup [ws "tell",n,wr a] ->M a=none) ->Dr M' d l ->Fs d M M' ->q w M')
def ME (h:DA M dd w)(CY:vj dd):cg λ(k:Str) (cQ:cA W)=>gm (w= .tup (ws k::cQ)) (decide (k= "undo")=false) (decide (k= "redo")=false) (decide (k= "hold")=false) (decide (k= "return")=false):=by
 cases dd with
 | r d=>cases d with
  | tell n ds=>let⟨a,rfl,_⟩:=h;show#[_,_,rfl,by decide+kernel,by decide+kernel,by decide+kernel,by decide+kernel]
  | _=>cases h;show#[_,_,rfl,by decide+kernel,by decide+kernel,by decide+kernel,by decide+kernel]
 | c d=>cases d<;>cases h<;>show#[_,_,rfl,by decide+kernel,by decide+kernel,by decide+kernel,by decide+kernel]
 | _=>cases CY
theorem Jx (h:vj dd):oS p Z dd=match za p Z.R Z.T dd with
 | .ok z=> .ok (#[z.1,z.2,Z.past++ [(Z.R,Z.T)],[],Z.held],wn)
 | .bad f=> .bad f:=by cases dd<;>first | rfl | cases h
structure Gd (p:Int)(i:Nat)(z:Rm×Tm):Prop where
 s:nL p z.1 z.2
 r:z.1.length<=i
 t:z.2.length<=i
structure B8 (p:Int)(i:Nat)(Z:G'):Prop where
 now:Gd p i (Z.R,Z.T)
 pa:Z.past.length<=i /\ ∀z∈Z.past,Gd p i z
 un:Z.qp.length<=i /\ ∀z∈Z.qp,Gd p i z
 he:Z.held.length<=i /\ ∀z∈Z.held,Gd p i z
theorem Gd.up (h:Gd p i z):Gd p (i+1) z:=#[h.s,Nat.le_succ_of_le h.r,Nat.le_succ_of_le h.t]
theorem pE {l:cA (Rm×Tm)}(h:l.length<=i /\ ∀z∈l,Gd p i z):l.length<=i+1 /\ ∀z∈l,Gd p (i+1) z:=#[Nat.le_succ_of_le h.1,λz hz=>(h.2 z hz).up]
theorem vD (h:l.length<=i /\ ∀z∈l,Gd p i z)(hy:Gd p i y):(l++ [y]).length<=i+1 /\ ∀z∈l++ [y],Gd p (i+1) z:=#[by rw[aD];simp;omega,λz hz=>(a9.mp hz).elim (λe=>(h.2 z e).up) λe=>by rw[be.mp e];show hy.up]
theorem E8 {l:cA (Rm×Tm)}(h:l.length<=i /\ ∀z∈l,Gd p i z):l.dropLast.length<=i+1 /\ ∀z∈l.dropLast,Gd p (i+1) z:=#[by rw[List.length_dropLast];omega,λz hz=>(h.2 z (List.dropLast_subset _ hz)).up]
theorem B8.up (h:B8 p i Z):B8 p (i+1) Z:=#[h.now.up,pE h.pa,pE h.un,pE h.he]
def B8.step (h:B8 p i Z)(ho:oS p Z dd= .ok (Z',v))(hr:vj dd ->nL p Z'.R Z'.T /\ Z'.R.length<=Z.R.length+1 /\ Z'.T.length<=Z.T.length+1):B8 p (i+1) Z' /\ (v=wn \/ ∃n:Nat,v=wi n):=by
 have rc:vj dd ->B8 p (i+1) Z' /\ (v=wn \/ ∃n:Nat,v=wi n):=λCY=>by
  have h1:=hr CY;rw[Jx CY] at ho;cases hz:za p Z.R Z.T dd with
  | bad f=>rw[hz] at ho;cases ho
  | ok z=>rw[hz] at ho;cases ho;have a1:=h.now.r;have a2:=h.now.t;show#[#[#[h1.1,ar h1.2.1 (Nat.succ_le_succ a1),ar h1.2.2 (Nat.succ_le_succ a2)],vD h.pa h.now,#[by simp,by simp],pE h.he], .inl rfl]
 cases dd with
 | r d=>show rc trivial
 | c d=>show rc trivial
 | undo=>
  rw[oS] at ho;cases hz:Z.past.getLast? with
  | none=>rw[hz] at ho;cases ho
  | some z=>rw[hz] at ho;cases ho;show#[#[(h.pa.2 z (List.mem_of_getLast? hz)).up,E8 h.pa,vD h.un h.now,pE h.he], .inl rfl]
 | redo=>
  rw[oS] at ho;cases hz:Z.qp.getLast? with
  | none=>rw[hz] at ho;cases ho
  | some z=>rw[hz] at ho;cases ho;show#[#[(h.un.2 z (List.mem_of_getLast? hz)).up,vD h.pa h.now,E8 h.un,pE h.he], .inl rfl]
 | hold=>cases ho;show#[#[h.now.up,pE h.pa,pE h.un,vD h.he h.now], .inr #[_,rfl]]
 | ret k=>
  rw[oS] at ho;split at ho;cases hz:Z.held[k.toNat]? with
  | none=>rw[hz] at ho;cases ho
  | some z=>rw[hz] at ho;cases ho;show#[#[(h.he.2 z (aV hz)).up,vD h.pa h.now,#[by simp,by simp],pE h.he], .inl rfl]
  cases ho
theorem B8.ok (h:B8 p i Z)(hp:p=2 \/ p=3 \/ p=5 \/ p=7)(hi:i<=800):X3 p Z:=#[hp,h.now.s,#[by have:=h.now.r;dsimp only at this;omega,by have:=h.now.t;dsimp only at this;omega],by have:=h.pa.1;omega,by have:=h.un.1;omega,by have:=h.he.1;omega]
def B8.sk (h:B8 p i S.pure)(hp:p=2 \/ p=3 \/ p=5 \/ p=7)(hi:i<=800):Lg p S:=by have h1:=h.pa.1;have h2:=h.un.1;have h3:=h.he.1;simp![gh.pure,af] at h1 h2 h3;show#[hp,h.now.s,by omega,by omega,by omega]
structure Lk (B C:Addr)(p:Int)(d l nl b r t sp sa sh la lu lh now:Addr)(ns:List Str)(S:gh)(M:Mp):Prop where
 bk:tY B C M b la lu lh p now S
 dr:Dr M d l
 nl:M nl=some (.lst (ns.map ws))
 ll:TJ M r t sp sa sh S.pure
structure Lq (d l nl sp sa sh la lu lh:Addr):Prop where
 qd:Ap d la lu lh
 ql:Ap l la lu lh
 qn:Ap nl la lu lh
 qx: ∀x,x=sp \/ x=sa \/ x=sh ->Ap x la lu lh /\ x≠d
theorem Lk.sm {B C d l nl b r t sp sa sh la lu lh now:fP}(h:Lk B C p d l nl b r t sp sa sh la lu lh now ns S M)(s:Sm M M'):Lk B C p d l nl b r t sp sa sh la lu lh now ns S M':=#[h.bk.sm s,KG h.dr s,s _ _ h.nl,h.ll.sm s]
def Lk.fs {B C d l nl b r t sp sa sh la lu lh now:fP}(h:Lk B C p d l nl b r t sp sa sh la lu lh now ns S M)(q:Lq d l nl sp sa sh la lu lh)(wE:nl≠d)(D:Dr M' d l)(F:Fs d M M'):Lk B C p d l nl b r t sp sa sh la lu lh now ns S M':=by let⟨x,hx⟩:=Fi h.dr;show#[h.bk.fs F hx q.qd,D,F _ _ h.nl wE,F.Ht hx h.ll.r,F.Ht hx h.ll.t,h.ll.p.fs F hx (q.qx _ (.inl rfl)).2,h.ll.u.fs F hx (q.qx _ (.inr (.inl rfl))).2,h.ll.h.fs F hx (q.qx _ (.inr (.inr rfl))).2]
theorem ZY:B8 p 0 (gh.pure #[[],[],[],[],[]]):=#[#[#[#[List.nodup_nil,by simp[gh.pure],by simp[gh.pure]],#[List.nodup_nil,by simp[gh.pure],by simp[gh.pure],by simp[gh.pure]],by simp[gh.pure],by simp[gh.pure]],by simp[gh.pure],by simp[gh.pure]],by simp[gh.pure],by simp[gh.pure],by simp[gh.pure]]
def aaw (hr:M r=none)(ht:um M r (.dK []) t=none)(wq:um (um M r (.dK [])) t (.dK []) sp=none)(W_:um (um (um M r (.dK [])) t (.dK [])) sp (.lst []) sa=none)(SS:um (um (um (um M r (.dK [])) t (.dK [])) sp (.lst [])) sa (.lst []) sh=none): gm (Sm M (um (um (um (um (um M r (.dK [])) t (.dK [])) sp (.lst [])) sa (.lst [])) sh (.lst []))) (TJ (um (um (um (um (um M r (.dK [])) t (.dK [])) sp (.lst [])) sa (.lst [])) sh (.lst [])) r t sp sa sh (gh.pure #[[],[],[],[],[]])) (M sp=none) (M sa=none) (M sh=none):=by have s1:=a5 hr (o:= .dK []);have s2:=a5 ht (o:= .dK []);have s3:=a5 wq (o:= .lst []);have s4:=a5 W_ (o:= .lst []);have s5:=a5 SS (o:= .lst []);show#[s1.trans (s2.trans (s3.trans (s4.trans s5))),#[(s2.trans (s3.trans (s4.trans s5))) _ _ am,(s3.trans (s4.trans s5)) _ _ am,#[[],(s4.trans s5) _ _ am,rfl,nofun],#[[],s5 _ _ am,rfl,nofun],#[[],am,rfl,nofun]],s1.free (s2.free wq),s1.free (s2.free (s3.free W_)),s1.free (s2.free (s3.free (s4.free SS)))]
end WQ
namespace WL
open PySem L2
section
variable {M:Mp}{ρ:cc}{q:WK}{a b c:WE}{D:fA}{x y z:W}
def xA (b:WE)(ρ:cc)(k:W ->WK):WK:=λx M=>b ρ M (k x)
theorem Zk:xA b ρ k x M=b ρ M (k x):=rfl
def kR (f:W ->Mp ->WK ->Prop)(q:WK):WK:=λy M=>f y M q
theorem ai0:kR f q y M=f y M q:=rfl
theorem ahS:LG r a b ρ M q=a ρ M (xA b ρ λx=>kR (r x) q):=rfl
theorem ahM:_b r a ρ M q=a ρ M (kR r q):=rfl
def kB (q:Bool ->Mp ->Prop):WK:=λx M=>P_ x M q
theorem ai2 {q:Bool ->Mp ->Prop}:kB q x M=P_ x M q:=rfl
theorem Yt {q:Bool ->Mp ->Prop}:w5 a ρ M q=a ρ M (kB q):=rfl
def WJ (b:WT)(ρ:cc)(q:Bool ->Mp ->Prop):Bool ->Mp ->Prop:=λc M=>gy c (b ρ M q) (q false M)
def kb (b:WT)(q:Bool ->Mp ->Prop):cc ->Mp ->Prop:=λρ M=>b ρ M q
theorem aiX {b:WT}{q:Bool ->Mp ->Prop}:kb b q ρ M=b ρ M q:=rfl
def kq (q:Bool ->Mp ->Prop)(c:Bool):cc ->Mp ->Prop:=λ_ M=>q c M
theorem aiW {q:Bool ->Mp ->Prop}{c:Bool}:kq q c ρ M=q c M:=rfl
theorem aaW {b:WT}{q:Bool ->Mp ->Prop}{c:Bool}:WJ b ρ q c M=gy c (hold (kb b q) ρ M) (hold (kq q false) ρ M):=rfl
theorem _M {a b:WT}{q:Bool ->Mp ->Prop}:QV a b ρ M q=a ρ M (WJ b ρ q):=rfl
def kOr (b:WT)(ρ:cc)(q:Bool ->Mp ->Prop):Bool ->Mp ->Prop:=λc M=>gy c (q true M) (b ρ M q)
theorem aih {b:WT}{q:Bool ->Mp ->Prop}{c:Bool}:kOr b ρ q c M=gy c (hold (kq q true) ρ M) (hold (kb b q) ρ M):=rfl
theorem ahQ {a b:WT}{q:Bool ->Mp ->Prop}:_k a b ρ M q=a ρ M (kOr b ρ q):=rfl
def WC (q:Bool ->Mp ->Prop):Bool ->Mp ->Prop:=λc M=>q (!c) M
theorem aaI {c:Bool}{q:Bool ->Mp ->Prop}:WC q c M=q (!c) M:=rfl
theorem _l {a:WT}{q:Bool ->Mp ->Prop}:QE a ρ M q=a ρ M (WC q):=rfl
def kIf (a b:WS)(D:fA)(ρ:cc):Bool ->Mp ->Prop:=λk M=>gy k (a D ρ M) (b D ρ M)
theorem air {a b:WS}:kIf a b D ρ k M=gy k (hold (a D) ρ M) (hold (b D) ρ M):=rfl
theorem ah5 {c:WT}{a b:WS}:Ro c a b D ρ M=c ρ M (kIf a b D ρ):=rfl
def kC2 (q:cA W ->Mp ->Prop)(x:W):cA W ->Mp ->Prop:=λxs M=>q (x::xs) M
theorem aiD {q:cA W ->Mp ->Prop}:kC2 q x xs M=q (x::xs) M:=rfl
def P9 (r:WA)(ρ:cc)(q:cA W ->Mp ->Prop):WK:=λx M=>r ρ M (kC2 q x)
theorem Zo {q:cA W ->Mp ->Prop}:P9 r ρ q x M=r ρ M (kC2 q x):=rfl
theorem YH {q:cA W ->Mp ->Prop}:HL a r ρ M q=a ρ M (P9 r ρ q):=rfl
def Wz (q:WK):cA W ->Mp ->Prop:=λxs M=>ce (xs.length<=sizeLine) (q (.tup xs) M)
theorem aaD:Wz q xs M=ce (xs.length<=sizeLine) (q (.tup xs) M):=rfl
theorem _c {a:WA}:QD a ρ M q=a ρ M (Wz q):=rfl
def k8 (q:WK)(M:Mp)(o:MO):Prop:= ∀p,M p=none ->q (wr p) (um M p o)
def kLs (q:WK):cA W ->Mp ->Prop:=λxs M=>ce (xs.length<=sizeLine) (k8 q M (.lst xs))
theorem aik:kLs q xs M=ce (xs.length<=sizeLine) (k8 q M (.lst xs)):=rfl
theorem _p {a:WA}:QG a ρ M q=a ρ M (kLs q):=rfl
def kU (q:WK)(M:Mp):W ->Prop:=λu=>q u M
theorem aiZ:kU q M x=q x M:=rfl
def kIx (i:Int)(q:WK)(M:Mp):cA W ->Prop:=λl=>iN (gP l i) (kU q M)
theorem aiq:kIx i q M l=iN (gP l i) (kU q M):=rfl
theorem _z {x:fP}:QM (.v (.ref x)) (.v (.int i)) M q=lstK (M x) (kIx i q M):=QL
theorem _x:FI (.tup l) (.v (.int i)) M q=iN (gP l i) (kU q M):=QK
def P' (p:fe)(q:WK):cA W ->Mp ->Prop:=λxs M=>mG p xs M q
theorem Zp:P' p q xs M=mG p xs M q:=rfl
theorem YM {a:WA}:HR p a ρ M q=a ρ M (P' p q):=rfl
def kCl (r:zE)(q:WK):cA W ->Mp ->Prop:=λxs M=>r xs M q
theorem aiC:kCl r q xs M=r xs M q:=rfl
theorem ah2 {a:WA}:_I r a ρ M q=a ρ M (kCl r q):=rfl
def WH (g:WG)(ρ:cc)(n:cc ->Mp ->Prop):WK:=λx M=>g x ρ M n
theorem aaV:WH g ρ n x M=g x ρ M n:=rfl
theorem aaj:Rq a g D ρ M=a ρ M (WH g ρ D.nx):=rfl
def PZ (n:cc ->Mp ->Prop)(ρ:cc):WK:=λ_ M=>n ρ M
theorem Zn:PZ n ρ x M=n ρ M:=rfl
theorem Y3:ID a D ρ M=a ρ M (PZ D.nx ρ):=rfl
def kFor (g:WG)(b:WS)(D:fA)(ρ:cc):cA W ->(Mp ->Prop) ->Mp ->Prop:=λxs keep M=>N4 xs keep g b D ρ M
theorem aaM {b:WS}:kFor g b D ρ xs keep M=N4 xs keep g b D ρ M:=rfl
theorem aag {b:WS}:Rp it g b D ρ M=it ρ M (kFor g b D ρ):=rfl
def SA (r:WM)(x:W)(q:WK):cA W ->Mp ->Prop:=λxs M=>r x xs M q
theorem aaS:SA r x q xs M=r x xs M q:=rfl
def SD (r:WM)(b:WA)(ρ:cc)(x:W)(q:WK)(M:Mp):cA W ->Prop:=λ_=>b ρ M (SA r x q)
theorem aaT {b:WA}:SD r b ρ x q M l=b ρ M (SA r x q):=rfl
def kBm (r:WM)(b:WA)(ρ:cc)(q:WK):WK:=λx M=>d5 x λp=>lstK (M p) (SD r b ρ x q M)
theorem aiF {b:WA}:kBm r b ρ q (.v (.ref p)) M=lstK (M p) (SD r b ρ (.v (.ref p)) q M):=gu
theorem ah4 {b:WA}:YO r a b ρ M q=a ρ M (kBm r b ρ q):=Vb
def SE (r:WM)(x:W)(q:WK)(M:Mp):cA W ->Prop:=λ_=>r x [] M q
theorem aaU:SE r x q M l=r x [] M q:=rfl
def kBz (r:WM)(q:WK):WK:=λx M=>d5 x λp=>lstK (M p) (SE r x q M)
theorem aiE:kBz r q (.v (.ref p)) M=lstK (M p) (SE r (.v (.ref p)) q M):=gu
theorem _K:Mm r a ρ M q=a ρ M (kBz r q):=QU
def kM2 (p:fe)(x:W)(q:WK):cA W ->Mp ->Prop:=λxs M=>mG p (x::xs) M q
theorem aii:kM2 p x q xs M=mG p (x::xs) M q:=rfl
def kM1 (C:fP)(m:Str)(p:fe)(b:WA)(ρ:cc)(x:W)(q:WK)(M:Mp):fP ->fP ->cA (Str×W) ->Prop:=λC' _ fs=>ce (C'=C /\ fs.lookup m=none) (b ρ M (kM2 p x q))
theorem aij {b:WA}:kM1 C m p b ρ x q M C' dx fs=ce (C'=C /\ fs.lookup m=none) (b ρ M (kM2 p x q)):=rfl
def kM (C:fP)(m:Str)(p:fe)(b:WA)(ρ:cc)(q:WK):WK:=λx M=>d5 x λo=>lS (M o) (kM1 C m p b ρ x q M)
theorem ai1 {b:WA}:kM C m p b ρ q (.v (.ref o)) M=lS (M o) (kM1 C m p b ρ (.v (.ref o)) q M):=gu
theorem YA {b:WA}:DI C m p a b ρ M q=a ρ M (kM C m p b ρ q):=Mf
def Zm (k:b8)(q:WK)(M:Mp):cA (b8×W) ->Prop:=λkvs=>iN (eU kvs k) (kU q M)
theorem ais:Zm k q M kvs=iN (eU kvs k) (kU q M):=rfl
def WD (x:W)(q:WK):WK:=λy M=>d5 x λp=>iZ y λk=>fI (M p) (Zm k q M)
def aiu:WD (.v (.ref p)) q (.v (.int i)) M=fI (M p) (Zm (.inl i) q M):=by unfold WD;rw[gu,JX]
def ait:WD (.v (.ref p)) q (.v (.str i)) M=fI (M p) (Zm (.inr i) q M):=by unfold WD;rw[gu,ze]
theorem YG:DJ a b ρ M q=a ρ M (xA b ρ λx=>WD x q):=Ml
def Ss (q:cA W ->(Mp ->Prop) ->Mp ->Prop)(M:Mp)(p:fP):cA W ->Prop:=λl=>q l (λM'=>M' p=some (.lst l)) M
theorem aaJ {q:cA W ->(Mp ->Prop) ->Mp ->Prop}:Ss q M p l=q l (λM'=>M' p=some (.lst l)) M:=rfl
def kJl (q:cA W ->(Mp ->Prop) ->Mp ->Prop):WK:=λx M=>d5 x λp=>lstK (M p) (Ss q M p)
theorem aip {q:cA W ->(Mp ->Prop) ->Mp ->Prop}:kJl q (.v (.ref p)) M=lstK (M p) (Ss q M p):=gu
theorem Zs {q:cA W ->(Mp ->Prop) ->Mp ->Prop}:EW a ρ M q=a ρ M (kJl q):=NH
theorem YE:HJ ρ M q=k8 q M (.dK []):=rfl
def kLo (q:WK)(M:Mp):cA W ->Prop:=λl=>k8 q M (.lst l)
theorem ail:kLo q M l=k8 q M (.lst l):=rfl
theorem QI {x:fP}:oq [.v (.ref x)] M q=lstK (M x) (kLo q M):=FH
theorem QH:oq [.tup l] M q=k8 q M (.lst l):=FG
def kTo (q:WK)(M:Mp):cA W ->Prop:=λl=>q (.tup l) M
theorem ah':kTo q M l=q (.tup l) M:=rfl
theorem OR {x:fP}:ux [.v (.ref x)] M q=lstK (M x) (kTo q M):=Cb
def kPt (q:e9 Int ->Mp ->Prop):WK:=λx M=>A1 x λi=>q (some i) M
theorem aif {q:e9 Int ->Mp ->Prop}:kPt q (.v (.int i)) M=q (some i) M:=J9
theorem Yx {q:e9 Int ->Mp ->Prop}:HF a ρ M q=a ρ M (kPt q):=rfl
def kS3 (r:G9)(x:W)(l:e9 Int)(q:WK):e9 Int ->Mp ->Prop:=λu M=>r x l u M q
theorem aia:kS3 r x l q u M=r x l u M q:=rfl
def kS2 (r:G9)(hi:WO)(ρ:cc)(x:W)(q:WK):e9 Int ->Mp ->Prop:=λl M=>hi ρ M (kS3 r x l q)
theorem aib:kS2 r hi ρ x q l M=hi ρ M (kS3 r x l q):=rfl
def kS1 (r:G9)(lo hi:WO)(ρ:cc)(q:WK):WK:=λx M=>lo ρ M (kS2 r hi ρ x q)
theorem aic:kS1 r lo hi ρ q x M=lo ρ M (kS2 r hi ρ x q):=rfl
theorem ahO:_h r a lo hi ρ M q=a ρ M (kS1 r lo hi ρ q):=rfl
def kLn (q:WK)(M:Mp):cA W ->Prop:=λl=>q (wi l.length) M
theorem aim:kLn q M l=q (wi l.length) M:=rfl
theorem YB {x:fP}:Mg [.v (.ref x)] M q=lstK (M x) (kLn q M):=QJ
def kAp (x:fP)(y:W)(q:WK)(M:Mp):cA W ->Prop:=λl=>ce (l.length<sizeLine) (q wn (um M x (.lst (l++ [y]))))
theorem aiG {x:fP}:kAp x y q M l=ce (l.length<sizeLine) (q wn (um M x (.lst (l++ [y])))):=rfl
theorem T_ {x:fP}:yt (.v (.ref x)) [y] M q=lstK (M x) (kAp x y q M):=FL
def Sw (x:fP)(l:cA W)(q:WK)(M:Mp):cA W ->Prop:=λl'=>ce (l.length+l'.length<=sizeLine) (q wn (um M x (.lst (l++l'))))
theorem aaO {x:fP}:Sw x l q M l'=ce (l.length+l'.length<=sizeLine) (q wn (um M x (.lst (l++l')))):=rfl
def kEx (x y:fP)(q:WK)(M:Mp):cA W ->Prop:=λl=>lstK (M y) (Sw x l q M)
theorem aiw {x y:fP}:kEx x y q M l=lstK (M y) (Sw x l q M):=rfl
theorem TZ {x y:fP}:yr (.v (.ref x)) [.v (.ref y)] M q=lstK (M x) (kEx x y q M):=FJ
def Sz (l:cA W)(q:WK)(M:Mp):cA W ->Prop:=λl'=>ce (l.length+l'.length<=sizeLine) (k8 q M (.lst (l++l')))
theorem aaR:Sz l q M l'=ce (l.length+l'.length<=sizeLine) (k8 q M (.lst (l++l'))):=rfl
def kCt (y:fP)(q:WK)(M:Mp):cA W ->Prop:=λl=>lstK (M y) (Sz l q M)
theorem aiA {y:fP}:kCt y q M l=lstK (M y) (Sz l q M):=rfl
theorem _H {x y:fP}:QS (.v (.ref x)) (.v (.ref y)) M q=lstK (M x) (kCt y q M):=QR
def kD1 (k:b8)(q:WK)(M:Mp):cA (b8×W) ->Prop:=λkvs=>q (wb (eU kvs k).isSome) M
theorem aix:kD1 k q M kvs=q (wb (eU kvs k).isSome) M:=rfl
def kD0 (k:b8)(q:WK)(M:Mp):cA (b8×W) ->Prop:=λkvs=>q (wb (!(eU kvs k).isSome)) M
theorem aiy:kD0 k q M kvs=q (wb (!(eU kvs k).isSome)) M:=rfl
def Sx (y:W)(q:WK):WK:=λx M=>d5 x λp=>iZ y λk=>fI (M p) (kD1 k q M)
def aaP:Sx (.v (.str i)) q (.v (.ref p)) M=fI (M p) (kD1 (.inr i) q M):=by unfold Sx;rw[gu,ze]
theorem _G:Mj a b ρ M q=a ρ M (xA b ρ λy=>Sx y q):=QQ
def Sy (y:W)(q:WK):WK:=λx M=>d5 x λp=>iZ y λk=>fI (M p) (kD0 k q M)
def aaQ:Sy (.v (.str i)) q (.v (.ref p)) M=fI (M p) (kD0 (.inr i) q M):=by unfold Sy;rw[gu,ze]
theorem T9:tZ a b ρ M q=a ρ M (xA b ρ λy=>Sy y q):=FK
def Zl (p:fP)(k:b8)(z:W)(n:cc ->Mp ->Prop)(ρ:cc)(M:Mp):cA (b8×W) ->Prop:=λkvs=>ce (kvs.length<sizeLine) (n ρ (um M p (.dK (uN kvs k z))))
theorem aie:Zl p k z n ρ M kvs=ce (kvs.length<sizeLine) (n ρ (um M p (.dK (uN kvs k z)))):=rfl
def GC (z x:W)(n:cc ->Mp ->Prop)(ρ:cc):WK:=λy M=>d5 x λp=>iZ y λk=>fI (M p) (Zl p k z n ρ M)
def aaF:GC z (.v (.ref p)) n ρ (.v (.int i)) M=fI (M p) (Zl p (.inl i) z n ρ M):=by unfold GC;rw[gu,JX]
def aaE:GC z (.v (.ref p)) n ρ (.v (.str i)) M=fI (M p) (Zl p (.inr i) z n ρ M):=by unfold GC;rw[gu,ze]
def Sr (b:WE)(z:W)(n:cc ->Mp ->Prop)(ρ:cc):WK:=λx M=>b ρ M (GC z x n ρ)
theorem aaG:Sr b z n ρ x M=b ρ M (GC z x n ρ):=rfl
def WB (a b:WE)(n:cc ->Mp ->Prop)(ρ:cc):WK:=λz M=>a ρ M (Sr b z n ρ)
theorem aaH:WB a b n ρ z M=a ρ M (Sr b z n ρ):=rfl
theorem VM:yF a b c D ρ M=c ρ M (WB a b D.nx ρ):=IF
def Sv (K:WV)(f:Str)(q:WK)(M:Mp):fP ->fP ->cA (Str×W) ->Prop:=λC _ fs=>ce (wW K C) (ce (d_ K C f) (iN (fs.lookup f) (kU q M)))
theorem aaN:Sv K f q M C dx fs=ce (wW K C) (ce (d_ K C f) (iN (fs.lookup f) (kU q M))):=rfl
def kFl (K:WV)(f:Str)(q:WK):WK:=λx M=>d5 x λp=>lS (M p) (Sv K f q M)
theorem aiv:kFl K f q (.v (.ref p)) M=lS (M p) (Sv K f q M):=gu
theorem _F:Mi K a f ρ M q=a ρ M (kFl K f q):=QP
def Su (K:WV)(f:Str)(p:fP)(y:W)(n:cc ->Mp ->Prop)(ρ:cc)(M:Mp):fP ->fP ->cA (Str×W) ->Prop:=λC dx fs=>ce (wW K C) (ce (d_ K C f) (ce (fs.length<1000) (n ρ (um M p (.ins C dx (hJ f y fs))))))
theorem aaL:Su K f p y n ρ M C dx fs=ce (wW K C) (ce (d_ K C f) (ce (fs.length<1000) (n ρ (um M p (.ins C dx (hJ f y fs)))))):=rfl
def WF (K:WV)(f:Str)(y:W)(n:cc ->Mp ->Prop)(ρ:cc):WK:=λx M=>d5 x λp=>lS (M p) (Su K f p y n ρ M)
theorem aaK:WF K f y n ρ (.v (.ref p)) M=lS (M p) (Su K f p y n ρ M):=gu
theorem Y2:Ee K a b f D ρ M=b ρ M (xA a ρ λy=>WF K f y D.nx ρ):=Mz
def kX2 (p:fc)(x:W)(e:WX)(q:WK):cA W ->Mp ->Prop:=λxs M=>sK p (x::xs) M q (up e)
theorem ah8:kX2 p x e q xs M=sK p (x::xs) M q (up e):=rfl
def kX1 (C:fP)(m:Str)(p:fc)(e:WX)(b:WA)(ρ:cc)(x:W)(q:WK)(M:Mp):fP ->fP ->cA (Str×W) ->Prop:=λC' _ fs=>ce (C'=C /\ fs.lookup m=none) (b ρ M (kX2 p x e q))
theorem ah9 {b:WA}:kX1 C m p e b ρ x q M C' dx fs=ce (C'=C /\ fs.lookup m=none) (b ρ M (kX2 p x e q)):=rfl
def kX (C:fP)(m:Str)(p:fc)(e:WX)(b:WA)(ρ:cc)(q:WK):WK:=λx M=>d5 x λo=>lS (M o) (kX1 C m p e b ρ x q M)
theorem aiY {b:WA}:kX C m p e b ρ q (.v (.ref o)) M=lS (M o) (kX1 C m p e b ρ (.v (.ref o)) q M):=gu
theorem U0 {b:WA}:yq C m p e a b ρ M q=a ρ M (kX C m p e b ρ q):=HG
def kCx (p:fc)(e:WX)(q:WK):cA W ->Mp ->Prop:=λxs M=>sK p xs M q (up e)
theorem aiz:kCx p e q xs M=sK p xs M q (up e):=rfl
theorem U_ {a:WA}:Cg p e a ρ M q=a ρ M (kCx p e q):=rfl
def kRs (C:fP)(e:WX):cA W ->Mp ->Prop:=λxs M=>ce (xs.length<=sizeLine) (up e C M)
theorem aid:kRs C e xs M=ce (xs.length<=sizeLine) (up e C M):=rfl
theorem UV {a:WA}:Cc C e a D ρ M=a ρ M (kRs C e):=rfl
def kJr (q:cA W ->(Mp ->Prop) ->Mp ->Prop):cA W ->Mp ->Prop:=λxs M=>Nc xs λx=>A1 x λj=>ce (-(2 ^ 62) <=j /\ j<2 ^ 62) (q (gU 0 j.toNat) (λ_=>True) M)
def aio {q:cA W ->(Mp ->Prop) ->Mp ->Prop}:kJr q [.v (.int j)] M=ce (-(2 ^ 62) <=j /\ j<2 ^ 62) (q (gU 0 j.toNat) (λ_=>True) M):=by unfold kJr;rw[R0,J9]
theorem Zr {a:WA}{q:cA W ->(Mp ->Prop) ->Mp ->Prop}:EV a ρ M q=a ρ M (kJr q):=NG
def kJt (q:cA W ->(Mp ->Prop) ->Mp ->Prop):WK:=λx M=>tupK x λl=>q l (λ_=>True) M
theorem ain {q:cA W ->(Mp ->Prop) ->Mp ->Prop}:kJt q (.tup l) M=q l (λ_=>True) M:=Q2
theorem aaX {q:cA W ->(Mp ->Prop) ->Mp ->Prop}:SG a ρ M q=a ρ M (kJt q):=rfl
def kCo (own:Nat)(fr:cA Nat)(g:WG)(c:WT)(el:WE)(ρ:cc)(q:WK):cA W ->(Mp ->Prop) ->Mp ->Prop:=λxs keep M=>sI xs keep own fr g c el ρ M q
theorem aiB {c:WT}:kCo own fr g c el ρ q xs keep M=sI xs keep own fr g c el ρ M q:=rfl
theorem YJ {c:WT}:HN it own fr g c el ρ M q=it ρ M (kCo own fr g c el ρ q):=rfl
end
end WL
set_option synthInstance.maxSize 100000
set_option synthInstance.maxHeartbeats 0
open PySem L2 WL WP WQ PyProof.Rows
local macro_rules | `(tactic| simp? [$xs,*]) => do let a <- ("aay ahA aas ahG aa1 aa2 aiL gu Q2 JX ze _a Z_ Z9 Z8 Z7 Z6 Z5 Z4 Z3 Z2 Yr Yq Yp Yo Yn Ym Yl Yk Yj Yi Yh Yg Yf Ye aiU ahT ahN aiT ahY aiS ah1 ahV ah0 ahU Yu _N ahR _m YQ _j Yz U' _n YI _d _q QL QK TY J9 Yy ahP _g ah3 YN QJ _s _P FH FG Cb _A Vb QU FL FJ QR UQ YF Ml QQ FK U7 Y1 Y4 aaf ah6 aak aai IF aah YS _T YT _R _S Yw NH aaY R0 NG YK Z1 U8 YR Yv aaa _J _E _D ahX ahW aa0 aad aac YL QP Mz aa3 VN aaZ _y _e _B TX YC U4 Zt Zq ahZ HG Mf Va UW Ys U5 U9 U6 ahB".splitOn " ").toArray.mapM λs => `(Lean.Parser.Tactic.simpLemma| ↓ $(Lean.mkIdent s.toName):term); let b <- ("PX ND PV LS NC NF LV NE JW LU PU Ny PR LP Nx Gz EU Gy CT ET LO JU LN Hq JT NA LR Nz JV LQ sl1 Pc sl3 sl4 sl5 sl0 List.map_cons List.map_nil List.length_cons List.length_nil Nat.zero_add List.cons_append List.nil_append List.set_cons_zero List.set_cons_succ am kl XZ aiQ aiP aiO aiJ aiI aiH Bool.not_true Bool.not_false List.getElem?_cons_zero List.getElem?_cons_succ Option.join_some and_self and_true true_and Option.getD_some Option.getD_none YU og".splitOn " ").toArray.mapM λs => `(Lean.Parser.Tactic.simpLemma| $(Lean.mkIdent s.toName):term); `(tactic| try simp only [$a,*, $b,*, Nat.reduceAdd, Nat.reduceSub, List.reduceReplicate, $xs,*])
local macro_rules | `(tactic| dsimp? [$xs,*]) => `(tactic| (simp? [↓eM, $xs,*]; repeat (with_reducible refine iP ?_; simp? [↓eM, $xs,*])))
local macro_rules | `(tactic| simp?! [$xs,*]) => do let a <- ("aay ahA aas ahG aa1 aa2 aiL gu Q2 JX ze _a Z_ Z9 Z8 Z7 Z6 Z5 Z4 Z3 Z2 Yr Yq Yp Yo Yn Ym Yl Yk Yj Yi Yh Yg Yf Ye aiU aiT ahY aiS ah1 ahV ah0 ahU YQ _j Yz U' _n TY J9 _s _P _A UQ U7 Y1 aaf aai YS _T YT _R _S Yw R0 Z1 U8 YR Yv aaa _J _E _D ahX ahW aa0 aad aac YL aa3 VN aaZ _y _e _B TX YC U4 Zt Zq ahZ Ys U5 U9 U6 ahB Zk ai0 ahS ahM ai2 Yt aiX aiW aaW _M aih ahQ aaI _l air ah5 aiD Zo YH aaD _c aik _p aiZ aiq _z _x Zp YM aiC ah2 aaV aaj Zn Y3 aaM aag aaS aaT aiF ah4 aaU aiE _K aii aij ai1 YA ais aiu ait YG aaJ aip Zs YE ail QI QH ah' OR aif Yx aia aib aic ahO aim YB aiG T_ aaO aiw TZ aaR aiA _H aix aiy aaP _G aaQ T9 aie aaF aaE aaG aaH VM aaN aiv _F aaL aaK Y2 ah8 ah9 aiY U0 aiz U_ aid UV aio Zr ain aaX aiB YJ".splitOn " ").toArray.mapM λs => `(Lean.Parser.Tactic.simpLemma| ↓ $(Lean.mkIdent s.toName):term); let b <- ("PX ND PV LS NC NF LV NE JW LU PU Ny PR LP Nx Gz EU Gy CT ET LO JU LN Hq JT NA LR Nz JV LQ sl1 Pc sl3 sl4 sl5 sl0 List.map_cons List.map_nil List.length_cons List.length_nil Nat.zero_add List.cons_append List.nil_append List.set_cons_zero List.set_cons_succ am kl XZ aiQ aiP aiO aiJ aiI aiH Bool.not_true Bool.not_false List.getElem?_cons_zero List.getElem?_cons_succ Option.join_some and_self and_true true_and Option.getD_some Option.getD_none YU og".splitOn " ").toArray.mapM λs => `(Lean.Parser.Tactic.simpLemma| $(Lean.mkIdent s.toName):term); `(tactic| try simp only [$a,*, $b,*, Nat.reduceAdd, Nat.reduceSub, List.reduceReplicate, $xs,*])
local macro_rules | `(tactic| dsimp?! [$xs,*]) => `(tactic| (simp?! [↓eM, $xs,*]; repeat (with_reducible refine iP ?_; simp?! [↓eM, $xs,*])))
local macro_rules | `(tactic| trivial) => `(tactic| first | exact Or.inl rfl | exact Or.inr rfl)
local macro_rules | `(tactic| right) => `(tactic| decide +kernel)
local macro_rules | `(tactic| left) => `(tactic| (intro _ _ _ h; (repeat (cases h; rename_i h)); subst_vars; rfl))
set_option hygiene false
local macro_rules | `(tactic| exists $a, $n, $c) => `(tactic| (have nd : List.Nodup ($n : List Str) := (by decide +kernel); refine okS (N := $n) $a ⟨rfl, rfl, rfl, nd, rfl, by decide +kernel, by decide +kernel⟩ (by left) λcdv A' outer s H E hr => ?_; refine ⟨_, $c, ?_⟩; (try dsimp only [eI]); refine ⟨_, inferInstance, ?_⟩))
set_option hygiene true
set_option hygiene false
local macro_rules | `($a ∩ $b) => `(uP (show UG _ (Ry K) from NI) $a $b (λ_ _ => rfl))
local macro_rules | `($a ∪ $b) => `(uP (show UG _ (Rx K) from zf) $a $b (λ_ _ => rfl))
local macro_rules | `($i \ $e) => `(RB (i := $i) nd rfl (by trivial) $e)
set_option hygiene true
namespace eY
open PySem L2 WL WP WQ PyProof.Rows
nonrec def top (i:Nat):Stmt:=PySem.Challenge.pw_duskround_k46_whole_book_forth_and_back.main.body.getD i (.Pass #[0,0,0,0])
nonrec abbrev Cq:Stmt:=top 15
nonrec abbrev Ec:Stmt:=top 16
nonrec abbrev yD:Stmt:=top 17
nonrec abbrev yC:Stmt:=top 18
nonrec abbrev Cr:Stmt:=top 21
nonrec abbrev Aq:Stmt:=top 22
nonrec abbrev uM:Stmt:=top 23
nonrec abbrev iD:Stmt:=top 24
nonrec abbrev jj:Stmt:=top 25
nonrec abbrev rK:Stmt:=top 53
nonrec abbrev jW:Stmt:=top 64
nonrec abbrev oI:Stmt:=top 65
nonrec abbrev xj:Stmt:=top 66
nonrec abbrev Iy:Stmt:=e7 (top 67) 0
nonrec abbrev Iz:Stmt:=e7 (top 68) 0
nonrec abbrev kA:Stmt:=e7 (top 68) 1
nonrec abbrev lE:Stmt:=e7 (top 68) 2
nonrec abbrev nQ:Stmt:=e7 (top 68) 3
nonrec abbrev kC:Stmt:=e7 (top 68) 4
nonrec abbrev kF:Stmt:=e7 (top 68) 5
nonrec abbrev lG:Stmt:=e7 (top 68) 6
nonrec abbrev lF:Stmt:=e7 (top 68) 7
nonrec abbrev iF:Stmt:=e7 (top 68) 8
nonrec abbrev iI:Stmt:=e7 (top 68) 9
nonrec abbrev gS:Stmt:=e7 (top 68) 10
nonrec abbrev lI:Stmt:=e7 (top 68) 11
nonrec abbrev jX:Stmt:=e7 (top 68) 12
nonrec abbrev iH:Stmt:=e7 (top 68) 13
nonrec abbrev jk:Stmt:=e7 (top 68) 14
nonrec abbrev iG:Stmt:=e7 (top 68) 15
nonrec abbrev lD:Stmt:=e7 (top 68) 16
nonrec abbrev lH:Stmt:=e7 (top 68) 17
nonrec abbrev rM:Stmt:=e7 (top 68) 18
nonrec abbrev gr:Stmt:=e7 (top 68) 19
nonrec abbrev oN:Stmt:=e7 (top 68) 21
nonrec abbrev oO:Stmt:=e7 (top 68) 22
nonrec abbrev gT:Stmt:=e7 (top 68) 23
nonrec abbrev iE:Stmt:=e7 (top 68) 24
nonrec abbrev DY:Stmt:=top 70
nonrec abbrev rL:Stmt:=top 71
nonrec abbrev qv:Stmt:=top 73
nonrec abbrev Ak:Stmt:=top 74
nonrec abbrev Pd:Stmt:=top 75
nonrec abbrev xo:Stmt:=top 76
nonrec abbrev Aj:Stmt:=top 77
nonrec abbrev DZ:Stmt:=top 78
nonrec abbrev Am:Stmt:=top 79
nonrec abbrev Ao:Stmt:=top 80
nonrec abbrev xm:Stmt:=top 81
nonrec abbrev rJ:Stmt:=top 82
nonrec abbrev Ea:Stmt:=top 83
nonrec abbrev Ai:Stmt:=top 84
nonrec abbrev xk:Stmt:=top 85
nonrec abbrev no:Stmt:=top 86
nonrec abbrev lB:Stmt:=top 87
nonrec abbrev oK:Stmt:=top 88
nonrec abbrev Eb:Stmt:=top 89
nonrec abbrev Al:Stmt:=top 90
nonrec abbrev yE:Stmt:=top 91
nonrec abbrev An:Stmt:=top 92
nonrec abbrev D_:Stmt:=top 93
nonrec abbrev lA:Stmt:=top 94
nonrec abbrev oJ:Stmt:=top 95
nonrec abbrev uL:Stmt:=top 96
nonrec abbrev lC:Stmt:=top 97
nonrec abbrev uK:Stmt:=top 98
nonrec abbrev lz:Stmt:=top 99
nonrec abbrev nq:Stmt:=top 100
nonrec abbrev oM:Stmt:=top 101
nonrec abbrev xn:Stmt:=top 102
nonrec abbrev nr:Stmt:=top 103
nonrec abbrev Ix:Stmt:=top 104
set_option genInjectivity false in
set_option genSizeOf false in
structure ZX where
 Ks:Addr
 KL:FuncData
 Fg:Addr
 Fx:FuncData
 Fa:Addr
 Fp:FuncData
 E9:Addr
 Fn:FuncData
 Kt:Addr
 KN:FuncData
 Be:Addr
 Bs:FuncData
 vG:Addr
 vM:FuncData
 iQ:Addr
 iR:FuncData
 nA:Addr
 nF:FuncData
 se:Addr
 sy:FuncData
 pK:Addr
 pX:FuncData
 pG:Addr
 pT:FuncData
 xK:Addr
 xS:FuncData
 Ku:Addr
 KO:FuncData
 Kv:Addr
 KP:FuncData
 kN:Addr
 kT:FuncData
 l7:Addr
 mx:FuncData
 vH:Addr
 vN:FuncData
 kP:Addr
 kY:FuncData
 kQ:Addr
 kZ:FuncData
 sq:Addr
 sE:FuncData
 sj:Addr
 sD:FuncData
 md:Addr
 mC:FuncData
 mh:Addr
 mF:FuncData
 kL:Addr
 kS:FuncData
 sv:Addr
 sH:FuncData
 pM:Addr
 pZ:FuncData
 mf:Addr
 mE:FuncData
 nE:Addr
 nJ:FuncData
 me:Addr
 mD:FuncData
 si:Addr
 sC:FuncData
 sr:Addr
 sF:FuncData
 su:Addr
 sG:FuncData
 jP:Addr
 jR:FuncData
 pL:Addr
 pY:FuncData
 pN:Addr
 p6:FuncData
 kO:Addr
 kW:FuncData
 l_:Addr
 mB:FuncData
 E_:Addr
 Fo:FuncData
 sf:Addr
 sB:FuncData
 xP:Addr
 xX:FuncData
 A_:Addr
 Bn:FuncData
 Qq:Addr
 Qt:FuncData
 xO:Addr
 xW:FuncData
 A9:Addr
 Bm:FuncData
 Fb:Addr
 Fq:FuncData
 Bb:Addr
 Bp:FuncData
 Bd:Addr
 Br:FuncData
 xM:Addr
 xU:FuncData
 r_:Addr
 sw:FuncData
 Fe:Addr
 Fv:FuncData
 A8:Addr
 Bl:FuncData
 xL:Addr
 xT:FuncData
 nB:Addr
 nG:FuncData
 l4:Addr
 mq:FuncData
 pI:Addr
 pV:FuncData
 Ff:Addr
 Fw:FuncData
 Ba:Addr
 Bo:FuncData
 Fc:Addr
 Ft:FuncData
 Bc:Addr
 Bq:FuncData
 Fd:Addr
 Fu:FuncData
 lZ:Addr
 mn:FuncData
 pH:Addr
 pU:FuncData
 vF:Addr
 vL:FuncData
 l5:Addr
 mw:FuncData
 vE:Addr
 vK:FuncData
 lY:Addr
 mm:FuncData
 nC:Addr
 nH:FuncData
 pJ:Addr
 pW:FuncData
 xN:Addr
 xV:FuncData
 nD:Addr
 nI:FuncData
 Qp:Addr
 Qs:FuncData
 dX:Addr
 fM:Addr
 eB:Addr
 eO:Addr
 eA:Addr
 dW:Addr
 c_:Addr
 fL:Addr
 dG:Addr
 eo:Addr
 bq:Addr
 aW:Addr
structure fg (K:PySem.W.Frag)(mg:Str ->Option Value)(A:ZX):Prop where
 sN:mg "abs" =none
 yg:mg "all" =none
 Qw:mg "any" =none
 Tz:mg "bool" =none
 zB:mg "dict" =none
 XR:mg "int" =none
 eC:mg "isinstance" =none
 gN:mg "len" =none
 gZ:mg "list" =none
 jh:mg "range" =none
 gM:mg "sorted" =none
 FC:mg "str" =none
 jg:mg "tuple" =none
 tidy:gR K mg "tidy" ["p","pairs"] Cq A.Ks A.KL
 added:gR K mg "added" ["p","one","other"] Ec A.Fg A.Fx
 moved:gR K mg "moved" ["pattern","by"] yD A.Fa A.Fp
 timed:gR K mg "timed" ["p","pattern","n"] yC A.E9 A.Fn
 gone:gR K mg "gone" ["p","deeds"] Cr A.Kt A.KN
 joined:gR K mg "joined" ["p","one","other"] Aq A.Be A.Bs
 backward:gR K mg "backward" ["p","one"] uM A.vG A.vM
 repeated:gR K mg "repeated" ["p","one","n"] iD A.iQ A.iR
 lies_within:gR K mg "lies_within" ["one","farthest_end","farthest_place"] jj A.nA A.nF
 fits_crew:gR K mg "fits_crew" ["one"] rK A.se A.sy
 check_name:gR K mg "check_name" ["name"] jW A.pK A.pX
 with_thing:gR K mg "with_thing" ["things","name","thing"] oI A.pG A.pT
 without:gR K mg "without" ["things","name"] xj A.xK A.xS
 Page:UJ K mg "Page" "Page.__init__" ["self","rounds","teams"] Iy A.bq A.Ku A.KO
 Book:UJ K mg "Book" "Book.__init__" ["self","p"] Iz A.aW A.Kv A.KP
 nN:p_ K "settings" "Book.settings" ["self"] kA A.aW A.kN A.kT
 fw:p_ K "turn_to" "Book.turn_to" ["self","page"] lE A.aW A.l7 A.mx
 mL:p_ K "put" "Book.put" ["self","name","one"] nQ A.aW A.vH A.vN
 gE:p_ K "put_team" "Book.put_team" ["self","crew","team"] kC A.aW A.kP A.kY
 jt:p_ K "enlisted" "Book.enlisted" ["self","name"] kF A.aW A.kQ A.kZ
 jT:p_ K "team" "Book.team" ["self","crew"] lG A.aW A.sq A.sE
 yj:p_ K "tell" "Book.tell" ["self","name","deeds"] lF A.aW A.sj A.sD
 qb:p_ K "join_as" "Book.join_as" ["self","name","one","other"] iF A.aW A.md A.mC
 qf:p_ K "back_as" "Book.back_as" ["self","name","one"] iI A.aW A.mh A.mF
 nM:p_ K "times_as" "Book.times_as" ["self","name","one","n"] gS A.aW A.kL A.kS
 ym:p_ K "drop" "Book.drop" ["self","name"] lI A.aW A.sv A.sH
 wg:p_ K "found" "Book.found" ["self","crew"] jX A.aW A.pM A.pZ
 qe:p_ K "disband" "Book.disband" ["self","crew"] iH A.aW A.mf A.mE
 sP:p_ K "enlist" "Book.enlist" ["self","crew","name"] jk A.aW A.nE A.nJ
 qc:p_ K "dismiss" "Book.dismiss" ["self","crew","name"] iG A.aW A.me A.mD
 yi:p_ K "undo" "Book.undo" ["self"] lD A.aW A.si A.sC
 yk:p_ K "redo" "Book.redo" ["self"] lH A.aW A.sr A.sF
 yl:p_ K "hold" "Book.hold" ["self"] rM A.aW A.su A.sG
 mK:p_ K "return_to" "Book.return_to" ["self","k"] gr A.aW A.jP A.jR
 oj:p_ K "names" "Book.names" ["self"] oN A.aW A.pL A.pY
 ol:p_ K "crews" "Book.crews" ["self"] oO A.aW A.pN A.p6
 dC:p_ K "round_of" "Book.round_of" ["self","name"] gT A.aW A.kO A.kW
 kj:p_ K "members" "Book.members" ["self","crew"] iE A.aW A.l_ A.mB
 shown:gR K mg "shown" ["one"] DY A.E_ A.Fo
 book_text:gR K mg "book_text" ["book"] rL A.sf A.sB
 EN:gR K mg "_law_begin" ["_law_script"] qv A.xP A.xX
 c5:gR K mg "_law_take" ["_law_draw","_law_many"] Ak A.A_ A.Bn
 l_p:gR K mg "_law_p" ["_law_draw"] Pd A.Qq A.Qt
 EL:gR K mg "_law_names" ["_law_draw","_law_many"] xo A.xO A.xW
 zd:gR K mg "_law_tidy" ["_law_p_here","_law_pairs"] Aj A.A9 A.Bm
 EJ:gR K mg "_law_sum" ["_law_p_here","_law_one","_law_other","_law_by","_law_many"] DZ A.Fb A.Fq
 JO:gR K mg "_law_join" ["_law_p_here","_law_one","_law_other"] Am A.Bb A.Bp
 JQ:gR K mg "_law_back" ["_law_p_here","_law_one"] Ao A.Bd A.Br
 EI:gR K mg "_law_times" ["_law_p_here","_law_one","_law_n"] xm A.xM A.xU
 qL:gR K mg "_law_is_name" ["_law_name"] rJ A.r_ A.sw
 EM:gR K mg "_law_far" ["_law_one","_law_most","_law_reach"] Ea A.Fe A.Fv
 JM:gR K mg "_law_walk" ["_law_p_here","_law_deeds"] Ai A.A8 A.Bl
 EH:gR K mg "_law_value" ["_law_p_here","_law_rounds","_law_deed"] xk A.xL A.xT
 rR:gR K mg "_law_due_round" ["_law_p_here","_law_stand","_law_deed"] no A.nB A.nG
 pk:gR K mg "_law_due_member" ["_law_stand","_law_deed"] lB A.l4 A.mq
 vg:gR K mg "_law_due_crew" ["_law_stand","_law_deed"] oK A.pI A.pV
 PN:gR K mg "_law_due" ["_law_p_here","_law_stand","_law_deed"] Eb A.Ff A.Fw
 JN:gR K mg "_law_step" ["_law_p_here","_law_state","_law_deed"] Al A.Ba A.Bo
 PM:gR K mg "_law_run" ["_law_book","_law_deed"] yE A.Fc A.Ft
 JP:gR K mg "_law_call" ["_law_book","_law_deed"] An A.Bc A.Bq
 AS:gR K mg "_law_int" ["_law_thing"] D_ A.Fd A.Fu
 pj:gR K mg "_law_is_pattern" ["_law_p_here","_law_thing"] lA A.lZ A.mn
 vf:gR K mg "_law_is_round" ["_law_p_here","_law_thing"] oJ A.pH A.pU
 AR:gR K mg "_law_stands" ["_law_p_here","_law_book","_law_stand"] uL A.vF A.vL
 pq:gR K mg "_law_draw_deeds" ["_law_draw"] lC A.l5 A.mw
 jL:gR K mg "_law_target" ["_law_draw","_law_names_here"] uK A.vE A.vK
 j8:gR K mg "_law_round_deed" ["_law_draw","_law_names_here"] lz A.lY A.mm
 rS:gR K mg "_law_crew_deed" ["_law_draw","_law_names_here"] nq A.nC A.nH
 vh:gR K mg "_law_any_deed" ["_law_draw","_law_names_here"] oM A.pJ A.pW
 EK:gR K mg "_law_shown" ["_law_one"] xn A.xN A.xV
 rT:gR K mg "_law_book_text" ["_law_p_here","_law_stand"] nr A.nD A.nI
 law:gR K mg "law" ["_law_script"] Ix A.Qp A.Qs
 n_Book_held:d_ K A.aW "held"
 n_Book_now:d_ K A.aW "now"
 n_Book_p:d_ K A.aW "p"
 n_Book_past:d_ K A.aW "past"
 n_Book_undone:d_ K A.aW "undone"
 n_Page_rounds:d_ K A.bq "rounds"
 n_Page_teams:d_ K A.bq "teams"
 nO: ∃t,mg "FARTHEST" =some (.int 200 t)
 uA: ∃t,mg "FARTHEST_END" =some (.int 8 t)
 qo: ∃t,mg "FARTHEST_PLACE" =some (.int 24 t)
 lr: ∃t,mg "LONGEST_NAME" =some (.int 12 t)
 ln: ∃t,mg "MOST_MEMBERS" =some (.int 6 t)
 FM: ∃t,mg "LETTERS" =some (.str "abcdefghijklmnopqrstuvwxyz" t)
 HZ:TC K mg "COUNTS" [2,3,5,7]
 Uk:mg "BadName" =some (.ref A.dX)
 Zi:mg "InUse" =some (.ref A.fM)
 Ww:mg "NoCrew" =some (.ref A.eB)
 Wv:mg "NoDeed" =some (.ref A.eO)
 Wu:mg "NoMore" =some (.ref A.eA)
 Uj:mg "NoRound" =some (.ref A.dW)
 Ui:mg "NoState" =some (.ref A.c_)
 Zh:mg "Taken" =some (.ref A.fL)
 Wt:mg "TooFar" =some (.ref A.dG)
 Uh:mg "TooMany" =some (.ref A.eo)
 wZ:qa K "BadName" A.dX
 DE:qa K "InUse" A.fM
 zW:qa K "NoCrew" A.eB
 zV:qa K "NoDeed" A.eO
 uv:qa K "NoMore" A.eA
 qj:qa K "NoRound" A.dW
 wY:qa K "NoState" A.c_
 yn:qa K "Taken" A.fL
 om:qa K "TooFar" A.dG
 wX:qa K "TooMany" A.eo
 tN:PySem.W.kitOne K (.ref A.fM) (.ref A.dX)=some false
 vy:PySem.W.kitOne K (.ref A.fM) (.ref A.eB)=some false
 vx:PySem.W.kitOne K (.ref A.fM) (.ref A.eO)=some false
 tM:PySem.W.kitOne K (.ref A.fM) (.ref A.dW)=some false
 wG:PySem.W.kitOne K (.ref A.fM) (.ref A.fL)=some false
 rh:PySem.W.kitOne K (.ref A.eB) (.ref A.dX)=some false
 tL:PySem.W.kitOne K (.ref A.eB) (.ref A.eO)=some false
 rg:PySem.W.kitOne K (.ref A.eB) (.ref A.dW)=some false
 rf:PySem.W.kitOne K (.ref A.eO) (.ref A.dX)=some false
 re:PySem.W.kitOne K (.ref A.eA) (.ref A.dX)=some false
 vw:PySem.W.kitOne K (.ref A.eA) (.ref A.fM)=some false
 tK:PySem.W.kitOne K (.ref A.eA) (.ref A.eB)=some false
 tJ:PySem.W.kitOne K (.ref A.eA) (.ref A.eO)=some false
 rb:PySem.W.kitOne K (.ref A.eA) (.ref A.dW)=some false
 vv:PySem.W.kitOne K (.ref A.eA) (.ref A.fL)=some false
 tI:PySem.W.kitOne K (.ref A.eA) (.ref A.dG)=some false
 ra:PySem.W.kitOne K (.ref A.eA) (.ref A.eo)=some false
 pD:PySem.W.kitOne K (.ref A.dW) (.ref A.dX)=some false
 q_:PySem.W.kitOne K (.ref A.dW) (.ref A.eO)=some false
 pC:PySem.W.kitOne K (.ref A.c_) (.ref A.dX)=some false
 tH:PySem.W.kitOne K (.ref A.c_) (.ref A.fM)=some false
 qZ:PySem.W.kitOne K (.ref A.c_) (.ref A.eB)=some false
 qY:PySem.W.kitOne K (.ref A.c_) (.ref A.eO)=some false
 qX:PySem.W.kitOne K (.ref A.c_) (.ref A.eA)=some false
 pB:PySem.W.kitOne K (.ref A.c_) (.ref A.dW)=some false
 tG:PySem.W.kitOne K (.ref A.c_) (.ref A.fL)=some false
 qW:PySem.W.kitOne K (.ref A.c_) (.ref A.dG)=some false
 pA:PySem.W.kitOne K (.ref A.c_) (.ref A.eo)=some false
 tF:PySem.W.kitOne K (.ref A.fL) (.ref A.dX)=some false
 vt:PySem.W.kitOne K (.ref A.fL) (.ref A.eB)=some false
 vq:PySem.W.kitOne K (.ref A.fL) (.ref A.eO)=some false
 tE:PySem.W.kitOne K (.ref A.fL) (.ref A.dW)=some false
 qV:PySem.W.kitOne K (.ref A.dG) (.ref A.dX)=some false
 vp:PySem.W.kitOne K (.ref A.dG) (.ref A.fM)=some false
 tD:PySem.W.kitOne K (.ref A.dG) (.ref A.eB)=some false
 tz:PySem.W.kitOne K (.ref A.dG) (.ref A.eO)=some false
 qU:PySem.W.kitOne K (.ref A.dG) (.ref A.dW)=some false
 vo:PySem.W.kitOne K (.ref A.dG) (.ref A.fL)=some false
 qT:PySem.W.kitOne K (.ref A.dG) (.ref A.eo)=some false
 pz:PySem.W.kitOne K (.ref A.eo) (.ref A.dX)=some false
 tw:PySem.W.kitOne K (.ref A.eo) (.ref A.fM)=some false
 qS:PySem.W.kitOne K (.ref A.eo) (.ref A.eB)=some false
 qR:PySem.W.kitOne K (.ref A.eo) (.ref A.eO)=some false
 py:PySem.W.kitOne K (.ref A.eo) (.ref A.dW)=some false
 tt:PySem.W.kitOne K (.ref A.eo) (.ref A.fL)=some false
theorem DX:cf ["p","deeds","place","pairs","deed","word"] ["p","deeds"] (aS Cr):=#[rfl,rfl,rfl,by right,rfl,by right,by right]
theorem i8:cf ["p","one","n","end","pattern","pairs"] ["p","one","n"] (aS iD):=#[rfl,rfl,rfl,by right,rfl,by right,by right]
theorem nk:cf ["name"] ["name"] (aS jW):=#[rfl,rfl,rfl,by right,rfl,by right,by right]
theorem rG:cf ["self","name","one"] ["self","name","one"] (aS nQ):=#[rfl,rfl,rfl,by right,rfl,by right,by right]
theorem oF:cf ["self","crew"] ["self","crew"] (aS lG):=#[rfl,rfl,rfl,by right,rfl,by right,by right]
theorem oE:cf ["self","name","deeds"] ["self","name","deeds"] (aS lF):=#[rfl,rfl,rfl,by right,rfl,by right,by right]
theorem kr:cf ["self","name","one","other"] ["self","name","one","other"] (aS iF):=#[rfl,rfl,rfl,by right,rfl,by right,by right]
theorem kz:cf ["self","name","one"] ["self","name","one"] (aS iI):=#[rfl,rfl,rfl,by right,rfl,by right,by right]
theorem jB:cf ["self","name","one","n"] ["self","name","one","n"] (aS gS):=#[rfl,rfl,rfl,by right,rfl,by right,by right]
theorem oH:cf ["self","name"] ["self","name"] (aS lI):=#[rfl,rfl,rfl,by right,rfl,by right,by right]
theorem nn:cf ["self","crew"] ["self","crew"] (aS jX):=#[rfl,rfl,rfl,by right,rfl,by right,by right]
theorem kx:cf ["self","crew"] ["self","crew"] (aS iH):=#[rfl,rfl,rfl,by right,rfl,by right,by right]
theorem ly:cf ["self","crew","name","team","one"] ["self","crew","name"] (aS jk):=#[rfl,rfl,rfl,by right,rfl,by right,by right]
theorem ku:cf ["self","crew","name","team"] ["self","crew","name"] (aS iG):=#[rfl,rfl,rfl,by right,rfl,by right,by right]
theorem oC:cf ["self"] ["self"] (aS lD):=#[rfl,rfl,rfl,by right,rfl,by right,by right]
theorem oG:cf ["self"] ["self"] (aS lH):=#[rfl,rfl,rfl,by right,rfl,by right,by right]
theorem i9:cf ["self","k"] ["self","k"] (aS gr):=#[rfl,rfl,rfl,by right,rfl,by right,by right]
theorem jC:cf ["self","name"] ["self","name"] (aS gT):=#[rfl,rfl,rfl,by right,rfl,by right,by right]
theorem ko:cf ["self","crew"] ["self","crew"] (aS iE):=#[rfl,rfl,rfl,by right,rfl,by right,by right]
theorem uJ:cf ["_law_script"] ["_law_script"] (aS qv):=#[rfl,rfl,rfl,by right,rfl,by right,by right]
theorem Ah:cf ["_law_book","_law_deed","_law_handed","_law_told"] ["_law_book","_law_deed"] (aS yE):=#[rfl,rfl,rfl,by right,rfl,by right,by right]
theorem Iw:cf ["_law_script","_law_draw","_law_p_here","_law_names_here","_law_book","_law_state","_law_k","_law_deed","_law_due_here","_law_told"] ["_law_script"] (aS Ix):=#[rfl,rfl,rfl,by right,rfl,by right,by right]
def vR (A:ZX):Rf ->fP
 | .BadName=>A.dX | .NoDeed=>A.eO | .NoRound=>A.dW | .NoCrew=>A.eB | .Taken=>A.fL | .InUse=>A.fM | .TooMany=>A.eo | .TooFar=>A.dG | .NoMore=>A.eA | .NoState=>A.c_
def CI {K:WV}(T:fg K mg A):bD P w K mg base fi 1 A.xP A.xX ["_law_script"] (DU K):=by
 exact T.EN.fn.ok uJ (λvs H Q E h=> ?_) (λcdv A' outer s H vs Q E hr h=> ?_);let⟨a,ns,rfl,_⟩:=h;rfl;let⟨a,ns,rfl,hs,k⟩:=h;have nd:=uJ.nd;exact#[_,(aj (aE (dP (aa (ca eV (by rfl) T.gZ Boot.«list» (aa (lL yz (pv 0) oY (oX ai)) ae)) (aa ai (aa ai (aa ai ae))))))),?_];have ec: ∃ms:cA Int,Bv (ns.map V.int) none (some 63)=ms.map V.int:=by exact#[(ns.drop (HT.ub (ns.map V.int).length 0 none)).take (HT.ub (ns.map V.int).length (ns.map V.int).length (some 63) - HT.ub (ns.map V.int).length 0 none),?_];unfold Bv;rw[List.map_take,List.map_drop]
 let⟨ms,em⟩:=ec;exact#[_,rfl,_,rfl,_,_,rfl,hs,λp hp=>#[_,_,rfl, .inl (g0.of bU),λl hl=>#[by change 4<=sizeLine;decide,λd hd=> ?_]]];have hld:l≠d:=λe=>by rw[e,bU] at hd;cases hd
 exact k d l ms _ hld.symm bU ?_;rw[bN hld,bU,em]
def bM {K:WV}(T:fg K mg A):bD P w K mg base fi 1 A.A_ A.Bn ["_law_draw","_law_many"] (fK K V4):=by
 exists T.c5.fn,["_law_draw","_law_many","_law_number","_law_got"],(ag (bi (nR (aQ hU ((pv 0)∩ai) (pv 1) (a7 _)) (jY (aQ hU ((pv 0)∩ai) (bh (dM (K:=K) rfl) (by rfl) T.gN Boot.«len» (aa ((pv 0)∩ai) ae)) (a7 _)))).pt (ag (2\(((pv 0)∩ai)∩((pv 0)∩ai))) (ag (f6 (bL fb ((pv 0)∩ai) ai) (qA (pv 0) ai jA)) (ag (f6 ai (qA (pv 0) ai jA)) (aj (bi (aQ AB (bh fS (by rfl) T.sN Boot.«abs» (aa (pv 2) ae)) (bL RX ai ai) (a7 _)) (aj (f6 (bh fS (by rfl) T.sN Boot.«abs» (aa (pv 2) ae)) (qA (pv 0) ai jA))) (aj (f6 (bL lN (bL fb (bL fb (bL gY ((pv 0)∩ai) ai) (bL gY (bL lN (pv 2) ai) ai)) ai) ai) (qA (pv 0) ai jA)))))))) aK) (ag (bi (aQ AB ((pv 0)∩ai) (pv 1) (a7 _)) (ag (3\(bL lN ((pv 0)∩ai) (pv 1))) (ag (f6 (bL EA ((pv 0)∩ai) (pv 1)) (qA (pv 0) ai jA)) (aj (aE (pv 3))))) aK) (ag (f6 (bL lN (bL fb (bL gY ((pv 0)∩ai) ai) ai) ai) (qA (pv 0) ai jA)) (aj (aE (bL lN (bL EA ((pv 0)∩ai) ai) (pv 1)))))))
 rintro vs M q ⟨d,l,n,rfl,⟨ns,i,c,sd,hd,hl,hi,lT⟩,n0,n1,k⟩;exact qQ (λρ M'=>sO λ(o1 o2:e9 W) (i' c' s':Int)=>fj (ρ= [some (wr d),some (wi n),o1,o2]) (M' d=some (.lst [wr l,wi i',wi c',wi s'])) (NB d M M') (0<=i')) ?_ λN hN=> ?_;rintro ρ M' ⟨o1,o2,i',c',s',rfl,h,nb,rZ⟩;have fin: ∀ (r c' s':Int),0<=r ->r<n -> ∃M0,Sm M0 (um M' d (.lst [wr l,wi i',wi c',wi s'])) /\ q (wi r) M0:=λr c' s' h0 h1=>dY (k r _ h0 h1 #[ns,i',c',s',am,by rw[aP (du lT),nb l (du lT)];show hl,rZ,lT] (nb.trans NB.put));have cm3: ∀x,nh x 16807=True:=λx=>by simp[nh]
 have cd1: ∀x,LF x n=True:=λx=>by simp[LF,n0,n1]
 have cd2: ∀x,LF x 64=True:=λx=>by simp[LF]
 have z2:((0:Int) <2147483647)=True:=⋯
 dsimp?! [h];exact di (λ_=> ?_) λ_=> ?_;dsimp?! [h,n0,cd1];show fin _ _ _ (Int.emod_nonneg _ ∅) (Int.emod_lt_of_pos _ n0);dsimp?! [h,am,n0,cm3,cd2,z2];show fin _ _ _ (Int.emod_nonneg _ ∅) (Int.emod_lt_of_pos _ n0);have nx: ∀ (o1 o2:e9 W) (i' c' s':Int),0<=i' ->N [some (wr d),some (wi n),o1,o2] (um M d (.lst [wr l,wi i',wi c',wi s'])):=λ_ _ _ _ _ h=>hN _ _ #[_,_,_,_,_,rfl,am,NB.put,h];have Zc: ∀ (o1 o2:e9 W),N [some (wr d),some (wi n),o1,o2] M:=λ_ _=>hN _ _ #[_,_,_,_,_,rfl,hd,NB.refl d M,hi];have cp:TV 10 18=True:=by simp[TV]
 have cm: ∀x,nh x 48271=True:=λx=>by simp[nh]
 have cm2: ∀x,nh x 69621=True:=λx=>by simp[nh]
 have z1:((0:Int) <2147483629)=True:=⋯
 have z2:((0:Int) <2147483647)=True:=⋯
 by_cases m8:i<ns.length;have hx:gP (ns.map wi) i=some (wi (ns[i.toNat]'∅)):=gd hi (by rw[aI,aO ∅];rfl);dsimp?! [hd,hl,af];exact di (λ_=> ?_) λ_=>Zc _ _;dsimp?! [hd,hl,af];exact di (λ_=> ?_) λ_=>Zc _ _;dsimp?! [hd,hl,hx,am,aP lT.symm,cp];exact di (λ_=> ?_) λ_=> ?_;dsimp?! [am];show nx _ _ _ _ _ ∅;dsimp?! [am,cm,cm2,z1,z2];show nx _ _ _ _ _ ∅;dsimp?! [hd,hl];exact di (λ_=> ?_) λ_=>Zc _ _;dsimp?! [hd,hl,m8,af,decide_false];show Zc _ _
def R9 {K:WV}(T:fg K mg A):bD P w K mg base fi 2 A.Qq A.Qt ["_law_draw"] (fK K pP):=by
 exists T.l_p.fn,["_law_draw"],(aj (aE ((aJ (aa ai (aa ai (aa ai (aa ai ae)))))∪(ax T.c5 (bM T) hr (aa (pv 0) (aa ai ae))))))
 rintro vs M q ⟨d,l,rfl,hD,k⟩;dsimp?! [];exact#[d,l,4,rfl,hD,⋯,⋯,λr M1 r0 r1 D1 b1=> ?_];have hr4:r=0 \/ r=1 \/ r=2 \/ r=3:=by omega
 obtain rfl | rfl | rfl | rfl:=hr4 <;> dsimp?! [];show dY (k 2 _ ⋯ D1 b1);show dY (k 3 _ ⋯ D1 b1);show dY (k 5 _ ⋯ D1 b1);show dY (k 7 _ ⋯ D1 b1)
def pc {K:WV}(T:fg K mg A):bD P w K mg base fi 1 A.Fd A.Fu ["_law_thing"] (fK K aao):=by
 exists T.AS.fn,["_law_thing"],(aj (aE (yP (bh (fR (K:=K) rfl) (by rfl) T.eC Boot.«isinstance» (aa (pv 0) (aa (i_ (by rfl) T.XR Boot.«int» (show RelV (.ty "int") _ from rfl)) ae))) (uO (Cw (bh (fR (K:=K) rfl) (by rfl) T.eC Boot.«isinstance» (aa (pv 0) (aa (i_ (by rfl) T.Tz Boot.«bool» (show RelV (.ty "bool") _ from rfl)) ae))))))))
 rintro vs M q ⟨i,rfl,k⟩;dsimp?! [];show dY k
def o6 {K:WV}(T:fg K mg A):bD P w K mg base fi 1 A.Ks A.KL ["p","pairs"] (fK K Ps):=by
 exists T.tidy.fn,["p","pairs","turned","place","setting"],(ag (2\jH) (ag (gw cT rfl (ue (pv 1)) (d9 (n:=2) rfl (bp (aX (i:=3) nd rfl (by trivial)) (bp (aX (i:=4) nd rfl (by trivial)) dj))) (aj (mQ (dU hr) (pv 2) (pv 3) (bL lN (bL fb (Az (dU hr) (pv 2) (pv 3) ai #[by rfl,by rfl,by rfl,by rfl]) (pv 4)) (pv 0)) rfl))) (aj (aE (ca gL (by rfl) T.jg Boot.«tuple» (aa (dy rfl (cU.of (sc:=aS Cq) (N:= ["p","pairs","turned","place","setting"]) (own:= ["place"]) (fr:= [2]) (N':= ["place","turned"])) (ue (bh (p7 rfl) (by rfl) T.gM Boot.«sorted» (aa (pv 2) ae))) (λ_ _ _ _=>(aX (i:=0) (by change(["place","turned"]:cA Str).Nodup;decide+kernel) rfl (by trivial))) ed (λ_ _ _ _=>(ud (aQ oZ (eK (dU hr) (pv 1) (pv 0) (λ_ _=>rfl)) ai (a7 _)))) (λ_ _ _ _=>(aJ (aa (pv 0) (aa (eK (dU hr) (pv 1) (pv 0) (λ_ _=>rfl)) ae))))) ae))))))
 rintro vs M q ⟨a,p,ps,rfl,ha,p0,NX,abi,k⟩;dsimp?! [];intro d hd;have Wr:a≠d:=bY ha hd;dsimp?! [aP Wr,ha];exact jO (λi ρ M'=>eQ λ(o1 o2:e9 W) (m:Pt)=>lm (ρ= [some (wi p),some (wr a),some (wr d),o1,o2]) (M'=um M d (.dK (wo m))) ((m.map (·.1)).Nodup) (m.length<=i) (∀x,look m x=fE (ps.take i) x % p) (∀k∈m.map (·.1), ∃q∈ps,q.1=k)) #[none,none,[],rfl,rfl,List.nodup_nil,aq _,λx=>by simp[look,fE],by simp] ?_ ?_ ?_;rintro i ρ M' _ ⟨o1,o2,m,rfl,rfl,_⟩;rw[aP Wr];show ha;rintro i x ρ M' hx ⟨o1,o2,m,rfl,rfl,hn,hl,ht,A6⟩ N hN;let⟨z,hz,rfl⟩:=pairs_at hx;have hil:=(bv.mp hz).1;have hs:((wo m).length<sizeLine)=True:=by rw[wo,af];show au (kh (by omega))
 dsimp?! [bV,E7,p0,hs,En];exact hN _ _ #[_,_,_,rfl,rfl,EE hn,ar AQ (by omega),λx=> ?_,λk hk=>(AM hk).elim (λe=>#[z,aV hz,e.symm]) (A6 k)];rw[xx,cD,hz];change _=fE (ps.take i++ [z]) x % p;rw[uD];by_cases hx:x=z.1;subst hx;rw[ao rfl,ao rfl,ht,Int.emod_add_emod];rw[ak hx,ak (du hx),Int.add_zero];show ht x;rintro ρ M' ⟨o1,o2,m,rfl,rfl,hn,hl,ht,A6⟩;rw[af] at hl ht;rw[cP] at ht;dsimp?! [];exact#[d,wo m,m.map (·.1),rfl,am,AT m,(by rw[af];show big (by omega)),λsp ns wq jM A3=> ?_];have Tc:d≠sp:=bY am wq;have tP:ns.length<=16000000:=by rw[jM.length_eq,af];omega
 dsimp?! [];exact iS (λx=>match x with | .v (.int n)=>if look m n=0 then none else some (bV (n,look m n)) | _=>none) (by rw[af];show big tP) (λM3 s3=>s3 _ _ am) ?_ λt ht0=> ?_;intro i x hx M3 N s3 hN;let⟨n,A4,rfl⟩:=A0 hx;have hdM:M3 d=some (.dK (wo m)):=s3 _ _ (by rw[aP Tc,am]);have hnk:n∈m.map (·.1):=jM.mem_iff.mp (aV A4);dsimp?! [hdM,HS hnk];exact SI (λh=> ?_) λh=> ?_;simp![h,bC] at hN;show hN;simp![h,b0] at hN;show hN;dsimp?! [];exact#[M,((Sm.um (Sm.refl M) hd).trans (a5 wq)).trans (a5 ht0),?_];have e:(ns.map wi).filterMap (λx=>match x with | .v (.int n)=>if look m n=0 then none else some (bV (n,look m n)) | _=>none)=(qH p ps).map bV:=by rw[<- DW p0 hn ht jM A3,List.filterMap_map];unfold Ud;rw[List.map_filterMap];congr 1;funext n;simp![Function.comp];split<;>rfl
 rw[e];show k
def qE {K:WV}(T:fg K mg A):bD P w K mg base fi 1 A.A9 A.Bm ["_law_p_here","_law_pairs"] (fK K Ps):=by
 exists T.zd.fn,["_law_p_here","_law_pairs","_law_sums","_law_place","_law_setting"],(ag (2\jH) (ag (gw cT rfl (f7 (K:=K) rfl (pv 1)) (d9 (n:=2) rfl (bp (aX (i:=3) nd rfl (by trivial)) (bp (aX (i:=4) nd rfl (by trivial)) dj))) (aj (mQ (dU hr) (pv 2) (pv 3) (bL lN (bL fb (Az (dU hr) (pv 2) (pv 3) ai #[by rfl,by rfl,by rfl,by rfl]) (pv 4)) (pv 0)) rfl))) (aj (aE (ca gL (by rfl) T.jg Boot.«tuple» (aa (dy rfl (cU.of (sc:=_) (N:= ["_law_p_here","_law_pairs","_law_sums","_law_place","_law_setting"]) (own:= ["_law_place"]) (fr:= [2]) (N':= ["_law_place","_law_sums"])) (f7 (K:=K) rfl (bh (p7 rfl) (by rfl) T.gM Boot.«sorted» (aa (pv 2) ae))) (λ_ _ _ _=>(aX (i:=0) (by change(["_law_place","_law_sums"]:cA Str).Nodup;decide+kernel) rfl (by trivial))) ed (λ_ _ _ _=>(ud (aQ Jr (eK (dU hr) (pv 1) (pv 0) (λ_ _=>rfl)) ai (a7 _)))) (λ_ _ _ _=>(aJ (aa (pv 0) (aa (eK (dU hr) (pv 1) (pv 0) (λ_ _=>rfl)) ae))))) ae))))))
 rintro vs M q ⟨a,p,ps,rfl,ha,p0,NX,abi,k⟩;dsimp?! [];intro d hd;have Wr:a≠d:=bY ha hd;dsimp?! [aP Wr,ha];exact jO (λi ρ M'=>eQ λ(o1 o2:e9 W) (m:Pt)=>lm (ρ= [some (wi p),some (wr a),some (wr d),o1,o2]) (M'=um M d (.dK (wo m))) ((m.map (·.1)).Nodup) (m.length<=i) (∀x,look m x=fE (ps.take i) x % p) (∀k∈m.map (·.1), ∃q∈ps,q.1=k)) #[none,none,[],rfl,rfl,List.nodup_nil,aq _,λx=>by simp[look,fE],by simp] ?_ ?_ ?_;rintro i ρ M' _ ⟨o1,o2,m,rfl,rfl,_⟩;rw[aP Wr];show ha;rintro i x ρ M' hx ⟨o1,o2,m,rfl,rfl,hn,hl,ht,A6⟩ N hN;let⟨z,hz,rfl⟩:=pairs_at hx;have hil:=(bv.mp hz).1;have hs:((wo m).length<sizeLine)=True:=by rw[wo,af];show au (kh (by omega))
 dsimp?! [bV,E7,p0,hs,En];exact hN _ _ #[_,_,_,rfl,rfl,EE hn,ar AQ (by omega),λx=> ?_,λk hk=>(AM hk).elim (λe=>#[z,aV hz,e.symm]) (A6 k)];rw[xx,cD,hz];change _=fE (ps.take i++ [z]) x % p;rw[uD];by_cases hx:x=z.1;subst hx;rw[ao rfl,ao rfl,ht,Int.emod_add_emod];rw[ak hx,ak (du hx),Int.add_zero];show ht x;rintro ρ M' ⟨o1,o2,m,rfl,rfl,hn,hl,ht,A6⟩;rw[af] at hl ht;rw[cP] at ht;dsimp?! [];exact#[d,wo m,m.map (·.1),rfl,am,AT m,(by rw[af];show big (by omega)),λsp ns wq jM A3=> ?_];have Tc:d≠sp:=bY am wq;have tP:ns.length<=16000000:=by rw[jM.length_eq,af];omega
 dsimp?! [];exact iS (λx=>match x with | .v (.int n)=>if look m n=0 then none else some (bV (n,look m n)) | _=>none) (by rw[af];show big tP) (λM3 s3=>s3 _ _ am) ?_ λt ht0=> ?_;intro i x hx M3 N s3 hN;let⟨n,A4,rfl⟩:=A0 hx;have hdM:M3 d=some (.dK (wo m)):=s3 _ _ (by rw[aP Tc,am]);have hnk:n∈m.map (·.1):=jM.mem_iff.mp (aV A4);dsimp?! [hdM,HS hnk];have hge:0<=look m n:=by rw[ht];show Int.emod_nonneg _ (by omega)
 exact di (λh=> ?_) λh=> ?_;have h':¬look m n=0:=by omega
 simp![h',bC] at hN;show hN;have h':look m n=0:=by omega
 simp![h',b0] at hN;show hN;dsimp?! [];exact#[M,((Sm.um (Sm.refl M) hd).trans (a5 wq)).trans (a5 ht0),?_];have e:(ns.map wi).filterMap (λx=>match x with | .v (.int n)=>if look m n=0 then none else some (bV (n,look m n)) | _=>none)=(qH p ps).map bV:=by rw[<- DW p0 hn ht jM A3,List.filterMap_map];unfold Ud;rw[List.map_filterMap];congr 1;funext n;simp![Function.comp];split<;>rfl
 rw[e];show k
def AD {K:WV}(T:fg K mg A):bD P w K mg base fi 1 A.Fa A.Fp ["pattern","by"] (fK K RO):=by
 exists T.moved.fn,["pattern","by"],(aj (aE (ca gL (by rfl) T.jg Boot.«tuple» (aa (dy rfl (cU.of (sc:=aS yD) (N:= ["pattern","by"]) (own:= ["place","setting"]) (fr:= [1]) (N':= ["place","setting","by"])) (qz (pv 0)) (λ_ _ _ _=>(d9 (n:=2) rfl (bp (aX (i:=0) (by change(["place","setting","by"]:cA Str).Nodup;decide+kernel) rfl (by trivial)) (bp (aX (i:=1) (by change(["place","setting","by"]:cA Str).Nodup;decide+kernel) rfl (by trivial)) dj)))) gc (λ_ _ _ _=>dw) (λ_ _ _ _=>(aJ (aa (bL fb (pv 0) (pv 2)) (aa (pv 1) ae))))) ae))))
 rintro vs M q ⟨uQ,b,rfl,hl,k⟩;dsimp?! [gj];exact iS (λx=>match x with | .tup [.v (.int x),s]=>some (.tup [wi (x+b),s]) | _=>none) (by rw[af];show big hl) (λ_ _=>trivial) ?_ λt ht=> ?_;intro i x hx M3 N s3 hN;let⟨z,hz,rfl⟩:=pairs_at hx;dsimp?! [bV];show hN;dsimp?! [];exact#[M,a5 ht,?_];have e:(uQ.map bV).filterMap (λx=>match x with | .tup [.v (.int x),s]=>some (.tup [wi (x+b),s]) | _=>none)=(mv b uQ).map bV:=by rw[List.filterMap_map,mv,aZ];show List.filterMap_eq_map.symm▸rfl
 rw[e];show k
def sV {K:WV}(T:fg K mg A):bD P w K mg base fi 2 A.lZ A.mn ["_law_p_here","_law_thing"] (fK K RP):=by
 exists T.pj.fn,["_law_p_here","_law_thing","_law_k","_law_pair"],(ag (bi (dS (dE (bh (fR (K:=K) rfl) (by rfl) T.eC Boot.«isinstance» (aa (pv 1) (aa (i_ (by rfl) T.jg Boot.«tuple» (show RelV (.ty "tuple") _ from rfl)) ae))))) (aj (aE ja)) aK) (ag (gw cT rfl (fO (by rfl) T.jh (aa (bh (dM (K:=K) rfl) (by rfl) T.gN Boot.«len» (aa (pv 1) ae)) ae)) (aX (i:=2) nd rfl (by trivial)) (ag (3\((pv 1)∪(pv 2))) (ag (bi (kG (dS (dE (bh (fR (K:=K) rfl) (by rfl) T.eC Boot.«isinstance» (aa (pv 3) (aa (i_ (by rfl) T.jg Boot.«tuple» (show RelV (.ty "tuple") _ from rfl)) ae))))) (iK (aQ oZ (bh (dM (K:=K) rfl) (by rfl) T.gN Boot.«len» (aa (pv 3) ae)) ai (a7 _)))).pt (aj (aE ja)) aK) (ag (bi (kG (dS (dE (ax T.AS (pc T) hr (aa ((pv 3)∪ai) ae)))) (kG (dS (dE (ax T.AS (pc T) hr (aa ((pv 3)∪ai) ae)))) (iK (dS (oW hU hU ai ((pv 3)∪ai) (pv 0)))))).pt (aj (aE ja)) aK) (aj (bi (nR (aQ Jr (pv 2) ai (a7 _)) (jY (aQ AB (((pv 1)∪(bL qC (pv 2) ai))∪ai) ((pv 3)∪ai) (a7 _)))).pt (aj (aE ja)) aK)))))) (aj (aE ja))))
 rintro vs M q ⟨p,uQ,rfl,⟨h1,h2⟩,hl,k⟩;have rY:(uQ.map bV).length=uQ.length:=af _;dsimp?! [gj,rY];exact#[#[by omega,by omega],jO (λi ρ M'=>cg λ(o1 o2:e9 W)=>ρ= [some (wi p),some (gj uQ),o1,o2] /\ M'=M) #[none,none,rfl,rfl] (λ_ _ _ _ _=>trivial) ?_ ?_];rintro i x ρ M' hx ⟨o1,o2,rfl,rfl⟩ N hN;let⟨hi,rfl⟩:=jE hx;have rZ:i<uQ.length:=by omega
 have ha:gP (uQ.map bV) (0+(i:Int))=some (bV uQ[i]):=by rw[Int.zero_add];show fN (by rw[aI,aO rZ];rfl)
 have hz:=h1 uQ[i] (List.getElem_mem rZ);have e2:decide (((2:Nat):Int)=2)=true:=⋯
 dsimp?! [gj,ha,bV,e2,aG];exact#[_,rfl,?_];dsimp?! [bV,aG];exact#[_,rfl,?_];have GJ:decide (0<uQ[i].2)=true:=a6 hz.1;have NJ:decide (uQ[i].2<p)=true:=a6 hz.2;dsimp?! [bV,GJ,NJ,aG];exact di (λh=> ?_) λh=>hN _ _ #[_,_,rfl,rfl];have hi1:i - 1<uQ.length:=by omega
 have ha':gP (uQ.map bV) (0+(i:Int) - 1)=some (bV uQ[i - 1]):=by
  have:(0+(i:Int) - 1)=((i - 1:Nat):Int):=by omega
  rw[this];show fN (by rw[aI,aO hi1];rfl)
 have m8:=List.pairwise_iff_getElem.mp h2 (i - 1) i hi1 rZ (by omega);dsimp?! [ha',bV];show di (λh=>by omega) λ_=>hN _ _ #[_,_,rfl,rfl];rintro ρ M' ⟨o1,o2,rfl,rfl⟩;dsimp?! [];show dY k
def Jv {K:WV}(T:fg K mg A):bD P w K mg base fi 2 A.Fg A.Fx ["p","one","other"] (fK K RW):=by
 exists T.added.fn,["p","one","other"],(aj (aE (ax T.tidy (o6 T) hr (aa (pv 0) (aa (bL j5 (ca eV (by rfl) T.gZ Boot.«list» (aa (pv 1) ae)) (ca eV (by rfl) T.gZ Boot.«list» (aa (pv 2) ae))) ae)))))
 rintro vs M q ⟨p,a,b,rfl,p0,hf,ha,hb,k⟩;dsimp?! [gj];intro u hu;dsimp?! [];intro v hv;have huv:u≠v:=bY am hv;have hs:((a.map bV).length+(b.map bV).length<=sizeLine)=True:=au (big (by rw[af,af];omega));dsimp?! [aP huv,hs];intro c hc;dsimp?! [];exact#[c,p,a++b,rfl,by rw[am,aA],p0,hf,by rw[aD];omega,?_];show#[M,((a5 hu).trans (a5 hv)).trans (a5 hc),k]
def uU {K:WV}(T:fg K mg A):bD P w K mg base fi 2 A.E9 A.Fn ["p","pattern","n"] (fK K RL):=by
 exists T.timed.fn,["p","pattern","n"],(aj (aE (ax T.tidy (o6 T) hr (aa (pv 0) (aa (dy rfl (cU.of (sc:=aS yC) (N:= ["p","pattern","n"]) (own:= ["place","setting"]) (fr:= [2]) (N':= ["place","setting","n"])) (qz (pv 1)) (λ_ _ _ _=>(d9 (n:=2) rfl (bp (aX (i:=0) (by change(["place","setting","n"]:cA Str).Nodup;decide+kernel) rfl (by trivial)) (bp (aX (i:=1) (by change(["place","setting","n"]:cA Str).Nodup;decide+kernel) rfl (by trivial)) dj)))) gc (λ_ _ _ _=>dw) (λ_ _ _ _=>(aJ (aa (pv 0) (aa (bL gY (pv 1) (pv 2)) ae))))) ae)))))
 rintro vs M q ⟨p,a,n,rfl,p0,hf,ha,hz,k⟩;dsimp?! [gj];exact iS (λx=>match x with | .tup [x, .v (.int s)]=>some (.tup [x,wi (s*n)]) | _=>none) (by rw[af];show big (by omega)) (λ_ _=>trivial) ?_ λt ht=> ?_;intro i x hx M3 N s3 hN;let⟨z,Ka,rfl⟩:=pairs_at hx;have:=hz z (aV Ka);have cm:nh z.2 n=True:=au (.inl #[by omega,by omega]);dsimp?! [bV,cm];show hN
 .have e:(a.map bV).filterMap (λx=>match x with | .tup [x, .v (.int s)]=>some (.tup [x,wi (s*n)]) | _=>none)=(tm n a).map bV:=by rw[List.filterMap_map,tm,aZ];show List.filterMap_eq_map.symm▸rfl
  rw[e];try dsimp?! []
  exact#[t,p,tm n a,rfl,am,p0,hf,by rw[tm,af];omega,M,a5 ht,k]
def uV {K:WV}(T:fg K mg A):bD P w K mg base fi 2 A.Fb A.Fq ["_law_p_here","_law_one","_law_other","_law_by","_law_many"] (fK K aan):=by
 exists T.EJ.fn,["_law_p_here","_law_one","_law_other","_law_by","_law_many"],(aj (aE (ax T.zd (qE T) hr (aa (pv 0) (aa (bL j5 (ca eV (by rfl) T.gZ Boot.«list» (aa (pv 1) ae)) (dy rfl (cU.of (sc:=_) (N:= ["_law_p_here","_law_one","_law_other","_law_by","_law_many"]) (own:= ["_law_place","_law_setting"]) (fr:= [3,4]) (N':= ["_law_place","_law_setting","_law_by","_law_many"])) (jZ (K:=K) rfl (pv 2)) (λ_ _ _ _=>(d9 (n:=2) rfl (bp (aX (i:=0) (by change(["_law_place","_law_setting","_law_by","_law_many"]:cA Str).Nodup;decide+kernel) rfl (by trivial)) (bp (aX (i:=1) (by change(["_law_place","_law_setting","_law_by","_law_many"]:cA Str).Nodup;decide+kernel) rfl (by trivial)) dj)))) gc (λ_ _ _ _=>dw) (λ_ _ _ _=>(aJ (aa (bL fb (pv 0) (pv 2)) (aa (bL gY (pv 1) (pv 3)) ae)))))) ae)))))
 rintro vs M q ⟨p,a,b,y,n,rfl,p0,hf,ha,hb,hz,k⟩;dsimp?! [gj];intro u hu;dsimp?! [];exact iS (λx=>match x with | .tup [.v (.int x), .v (.int s)]=>some (.tup [wi (x+y),wi (s*n)]) | _=>none) (by rw[af];show big (by omega)) (λ_ _=>trivial) ?_ λt ht=> ?_;intro i x hx M3 N s3 hN;let⟨z,Ka,rfl⟩:=pairs_at hx;have:=hz z (aV Ka);have cm:nh z.2 n=True:=au (.inl #[by omega,by omega]);dsimp?! [bV,cm];show hN;have e:(b.map bV).filterMap (λx=>match x with | .tup [.v (.int x), .v (.int s)]=>some (.tup [wi (x+y),wi (s*n)]) | _=>none)=(EF y n b).map bV:=by rw[List.filterMap_map,EF,aZ];show List.filterMap_eq_map.symm▸rfl
 rw[e];have hut:u≠t:=bY am ht;have hs:((a.map bV).length+((EF y n b).map bV).length<=sizeLine)=True:=au (big (by rw[af,af,EF,af];omega));dsimp?! [aP hut,hs];intro c hc;dsimp?! [];exact#[c,p,a++EF y n b,rfl,by rw[am,aA],p0,hf,by rw[aD,EF,af];omega,?_];show#[M,((a5 hu).trans (a5 ht)).trans (a5 hc),k]
end eY
open PySem L2 WL WP WQ PyProof.Rows
namespace eY
open PySem L2 WL WP WQ PyProof.Rows
def Go {K:WV}(T:fg K mg A):bD P w K mg base fi 3 A.Be A.Bs ["p","one","other"] (fK K MU):=by
 exists T.joined.fn,["p","one","other","end","pattern","more","behind"],(ag (f6 (pv 1) (d9 (n:=2) rfl (bp (aX (i:=3) nd rfl (by trivial)) (bp (aX (i:=4) nd rfl (by trivial)) dj)))) (ag (f6 (pv 2) (d9 (n:=2) rfl (bp (aX (i:=5) nd rfl (by trivial)) (bp (aX (i:=6) nd rfl (by trivial)) dj)))) (aj (aE (aJ (aa (bL fb (pv 3) (pv 5)) (aa (ax T.added (Jv T) hr (aa (pv 0) (aa (pv 4) (aa (ax T.moved (AD T) hr (aa (pv 6) (aa (pv 3) ae))) ae)))) ae)))))))
 rintro vs M q ⟨p,a,b,rfl,p0,hf,ha,hb,k⟩;dsimp?! [gv];exact#[b.2,a.1,rfl,by omega,?_];dsimp?! [];exact#[p,a.2,mv a.1 b.2,rfl,p0,hf,ar ha ⋯,by rw[qJ];show ar hb ⋯,?_];dsimp?! [];show dY k
def lP {K:WV}(T:fg K mg A):bD P w K mg base fi 3 A.vG A.vM ["p","one"] (fK K PB):=by
 exists T.backward.fn,["p","one","end","pattern"],(ag (f6 (pv 1) (d9 (n:=2) rfl (bp (aX (i:=2) nd rfl (by trivial)) (bp (aX (i:=3) nd rfl (by trivial)) dj)))) (aj (aE (aJ (aa (fF eD (pv 2)) (aa (ax T.timed (uU T) hr (aa (pv 0) (aa (ax T.moved (AD T) hr (aa (pv 3) (aa (fF eD (pv 2)) ae))) (aa (fF eD ai) ae)))) ae))))))
 rintro vs M q ⟨p,a,rfl,p0,hf,ha,hz,k⟩;dsimp?! [gv];exact#[a.2, -a.1,rfl,by omega,?_];dsimp?! [];exact#[p,mv (-a.1) a.2, -1,rfl,p0,Kr hf,by rw[qJ];show ha,λz Ka=> ?_,?_];let⟨y,hy,rfl⟩:=bX.mp Ka;show hz y hy;dsimp?! [];show dY k
def Gk {K:WV}(T:fg K mg A):bD P w K mg base fi 3 A.Bb A.Bp ["_law_p_here","_law_one","_law_other"] (fK K V9):=by
 exists T.JO.fn,["_law_p_here","_law_one","_law_other"],(aj (aE (aJ (aa (bL fb ((pv 1)∪ai) ((pv 2)∪ai)) (aa (ax T.EJ (uV T) hr (aa (pv 0) (aa ((pv 1)∪ai) (aa ((pv 2)∪ai) (aa ((pv 1)∪ai) (aa ai ae)))))) ae)))))
 rintro vs M q ⟨p,a,b,rfl,p0,hf,ha,hb,hz,k⟩;have e:EF a.1 1 b.2=mv a.1 b.2:=by rw[CK,Q9]
 dsimp?! [gv];exact#[p,a.2,b.2,a.1,1,rfl,p0,by rw[e];show hf,ar ha ⋯,ar hb ⋯,hz,?_];rw[e];dsimp?! [];show dY k
def Gn {K:WV}(T:fg K mg A):bD P w K mg base fi 3 A.Bd A.Br ["_law_p_here","_law_one"] (fK K PB):=by
 exists T.JQ.fn,["_law_p_here","_law_one"],(aj (aE (aJ (aa (fF eD ((pv 1)∪ai)) (aa (ax T.EJ (uV T) hr (aa (pv 0) (aa (aJ ae) (aa ((pv 1)∪ai) (aa (fF eD ((pv 1)∪ai)) (aa (fF eD ai) ae)))))) ae)))))
 rintro vs M q ⟨p,a,rfl,p0,hf,ha,hz,k⟩;have e:EF (-a.1) (-1) a.2=tm (-1) (mv (-a.1) a.2):=CK;dsimp?! [gv];exact#[p,[],a.2, -a.1, -1,rfl,p0,by rw[e];show Kr hf,⋯,ar ha ⋯,hz,?_];rw[e,List.nil_append];dsimp?! [];show dY k
def wz {K:WV}(T:fg K mg A):bD P w K mg base fi 3 A.pH A.pU ["_law_p_here","_law_thing"] (fK K Jp):=by
 exists T.vf.fn,["_law_p_here","_law_thing"],(ag (bi (kG (dS (dE (bh (fR (K:=K) rfl) (by rfl) T.eC Boot.«isinstance» (aa (pv 1) (aa (i_ (by rfl) T.jg Boot.«tuple» (show RelV (.ty "tuple") _ from rfl)) ae))))) (iK (aQ oZ (bh (dM (K:=K) rfl) (by rfl) T.gN Boot.«len» (aa (pv 1) ae)) ai (a7 _)))).pt (aj (aE ja)) aK) (aj (aE (yP (ax T.AS (pc T) hr (aa ((pv 1)∪ai) ae)) (uO (ax T.pj (sV T) hr (aa (pv 0) (aa ((pv 1)∪ai) ae))))))))
 rintro vs M q ⟨p,a,rfl,hp,hl,k⟩;have e2:decide ((((0+1+1:Nat)):Int)=2)=true:=⋯
 have e2':decide (((2:Nat):Int)=2)=true:=⋯
 dsimp?! [gv,e2,e2'];exact#[_,rfl,?_];dsimp?! [];show#[p,a.2,rfl,hp,ar hl ⋯,dY k]
def Nd {K:WV}(T:fg K mg A):bD P w K mg base (iV P w) 2 A.Kt A.KN ["p","deeds"] (t_ K (RQ A.eO)):=by
 exact y9 T.gone.fn DX (by rintro vs M q e ⟨a,p,ds,rfl,_⟩;rfl) λcdv A' outer s H E e hr hF hP=> ?_;have nd:=DX.nd;exact#[_,(ag (2\ai) (ag (3\(dP ae)) (ag (gw MY rfl (ue (pv 1)) (aX (i:=4) nd rfl (by trivial)) (ag (5\(uP zf (pv 4) ai (λ_ _=>rfl))) (aj (bi (aQ cX (pv 5) ay (a7 _)) (aj (RC (i:=2) nd rfl (Or.inl rfl) (uP zf (pv 4) ai (λ_ _=>rfl)) SJ)) (aj (bi (aQ cX (pv 5) ay (a7 _)) (aj (bF (eN aL bt br c9 (pv 3) (aa (aJ (aa (pv 2) (aa (uP zf (pv 4) ai (λ_ _=>rfl)) ae))) ae)))) (aj (dn hF rfl (by rfl) T.zV (aa (eJ (bK ay (bK (gX (pv 5)) fD))) ae))))))))) (aj (aE (aJ (aa (pv 2) (aa (ax T.tidy (o6 T) hr (aa (pv 0) (aa (pv 3) ae))) ae)))))))),?_];try dsimp only[eI]
 exact#[_,inferInstance,?_];rintro vs M q ⟨a,p,ds,rfl,ha,p0,hf,hl,hw,kq,ke⟩;dsimp?! [];intro b hb;have E6:a≠b:=bY ha hb;dsimp?! [aP E6,ha];exact jO (λi ρ M'=> ∃ (o1 o2:e9 W),(∀d∈ds.take i,Good d) /\ ρ= [some (wi p),some (wr a),some (wi (e_ (ds.take i)).1),some (wr b),o1,o2] /\ M'=um M b (.lst ((e_ (ds.take i)).2.map bV))) #[none,none,by simp,rfl,rfl] ?_ ?_ ?_;rintro i ρ M' _ ⟨o1,o2,_,rfl,rfl⟩;rw[aP E6];show ha
 .rintro i x ρ M' hx ⟨o1,o2,Uv,rfl,rfl⟩ N hN;let⟨z,hz,rfl⟩:=Qr hx;have hil:=(bv.mp hz).1;have et:ds.take (i+1)=ds.take i++ [z]:=by rw[cD,hz];rfl
  have dJ:(((e_ (ds.take i)).2.map bV).length<sizeLine)=True:=au (kh (by have:=jz (ds.take i);rw[af];rw[bP] at this;omega));have NT:Good z -> ∀d∈ds.take (i+1),Good d:=λhg d hd=>by rw[et,a9] at hd;obtain hd | hd:=hd;show Uv d hd;simp at hd;rw[hd];show hg
  have CW:z∈ds:=aV hz;let⟨z1,z2⟩:=z;have Zu:=hw _ CW;have e3:decide (("go" :Str)= "go")=true:=by right
  have e1:decide (("turn" :Str)= "go")=false:=by right
  have e2:decide (("turn" :Str)= "turn")=true:=by right
  by_cases h1:z1= "go";subst h1;have hs:sstep (e_ (ds.take i)) ("go",z2)=((e_ (ds.take i)).1+z2,(e_ (ds.take i)).2):=ao rfl;dsimp?! [fV,e3,bI];simp![et,jy,hs] at hN NT;show hN _ _ #[_,_,NT (.inl rfl),rfl,rfl];by_cases h2:z1= "turn";subst h2;have hs:sstep (e_ (ds.take i)) ("turn",z2)=((e_ (ds.take i)).1,(e_ (ds.take i)).2++ [((e_ (ds.take i)).1,z2)]):=ak (show ¬((("turn" :Str),z2).1=("go" :Str)) from(by right:¬(("turn" :Str)=("go" :Str))));dsimp?! [fV,e1,e2,dJ,bI];simp![et,jy,hs,aA,aN,List.map_nil] at hN NT;show hN _ _ #[_,_,NT (.inr rfl),rfl,rfl];have f1:decide (z1= "go")=false:=aF h1;have f2:decide (z1= "turn")=false:=aF h2;dsimp?! [fV,f1,f2];have W3:z1.length<=100:=Zu;(repeat (exact#[by first | decide | decide+kernel | show bg (by omega) | show Qn (by right) W3 | show Qm (by right) W3 (by right),?_]));show#[M,a5 hb,ke #[(z1,z2),CW,λh=>h.elim h1 h2]]
 rintro ρ M' ⟨o1,o2,Uv,rfl,rfl⟩;rw[af,cP] at*;dsimp?! [];have:=jz ds;exact#[b,p,(e_ ds).2,rfl,am,p0,hf,by omega,?_];dsimp?! [];show#[M,a5 hb,kq Uv]
def Gi {K:WV}(T:fg K mg A):bD P w K mg base fi 2 A.A8 A.Bl ["_law_p_here","_law_deeds"] (fK K RJ):=by
 exists T.JM.fn,["_law_p_here","_law_deeds","_law_here","_law_pairs","_law_word","_law_number"],(ag (2\ai) (ag (3\(dP ae)) (ag (gw cT rfl (f7 (K:=K) rfl (pv 1)) (d9 (n:=2) rfl (bp (aX (i:=4) nd rfl (by trivial)) (bp (aX (i:=5) nd rfl (by trivial)) dj))) (aj (bi (aQ cX (pv 4) ay (a7 _)) (aj (2\(bL fb (pv 2) (pv 5)))) (aj (bF (eN aL bt br c9 (pv 3) (aa (aJ (aa (pv 2) (aa (pv 5) ae))) ae))))))) (aj (aE (aJ (aa (pv 2) (aa (ax T.zd (qE T) hr (aa (pv 0) (aa (pv 3) ae))) ae))))))))
 rintro vs M q ⟨a,p,ds,rfl,ha,p0,hf,hl,k⟩;dsimp?! [];intro b hb;have E6:a≠b:=bY ha hb;dsimp?! [aP E6,ha];exact jO (λi ρ M'=> ∃ (o1 o2:e9 W),ρ= [some (wi p),some (wr a),some (wi (e_ (ds.take i)).1),some (wr b),o1,o2] /\ M'=um M b (.lst ((e_ (ds.take i)).2.map bV))) #[none,none,rfl,rfl] ?_ ?_ ?_;rintro i ρ M' _ ⟨o1,o2,rfl,rfl⟩;rw[aP E6];show ha;rintro i x ρ M' hx ⟨o1,o2,rfl,rfl⟩ N hN;let⟨z,hz,rfl⟩:=Qr hx;have hil:=(bv.mp hz).1;have et:ds.take (i+1)=ds.take i++ [z]:=by rw[cD,hz];rfl
 have dJ:(((e_ (ds.take i)).2.map bV).length<sizeLine)=True:=au (kh (by have:=jz (ds.take i);rw[af];rw[bP] at this;omega));let⟨z1,z2⟩:=z;have e3:decide (("go" :Str)= "go")=true:=by right
 by_cases h1:z1= "go";subst h1;have hs:sstep (e_ (ds.take i)) ("go",z2)=((e_ (ds.take i)).1+z2,(e_ (ds.take i)).2):=ao rfl;dsimp?! [fV,e3,bI];simp![et,jy,hs] at hN;show hN _ _ #[_,_,rfl,rfl];have hs:sstep (e_ (ds.take i)) (z1,z2)=((e_ (ds.take i)).1,(e_ (ds.take i)).2++ [((e_ (ds.take i)).1,z2)]):=ak h1;have f1:decide (z1= "go")=false:=aF h1;dsimp?! [fV,f1,dJ];simp![et,jy,hs,aA,aN,List.map_nil] at hN;show hN _ _ #[_,_,rfl,rfl];rintro ρ M' ⟨o1,o2,rfl,rfl⟩;rw[af,cP];dsimp?! [];have:=jz ds;exact#[b,p,(e_ ds).2,rfl,am,p0,hf,by omega,?_];dsimp?! [];show#[M,a5 hb,k]
def o9 {K:WV}(T:fg K mg A):bD P w K mg base fi 4 A.iQ A.iR ["p","one","n"] (fK K Pw):=by
 have oi:bD P w K mg base fi 3 A.iQ A.iR ["p","one","n"] (fK K Jn):=Ko;exact okS T.repeated.fn i8 (by left) λcdv A' outer s H E hr=> ?_;have nd:=i8.nd;exact#[_,(ag (bi (aQ hU (pv 2) ai (a7 _)) (aj (aE (ax T.repeated oi hr (aa (pv 0) (aa (ax T.backward (lP T) hr (aa (pv 0) (aa (pv 1) ae))) (aa (fF eD (pv 2)) ae)))))) aK) (ag (f6 (pv 1) (d9 (n:=2) rfl (bp (aX (i:=3) nd rfl (by trivial)) (bp (aX (i:=4) nd rfl (by trivial)) dj)))) (ag (bi (aQ cX (pv 3) ai (a7 _)) (aj (aE (aJ (aa ai (aa (ax T.timed (uU T) hr (aa (pv 0) (aa (pv 4) (aa (pv 2) ae)))) ae))))) aK) (ag (rN (i:=5) (n1:=2) rfl nd rfl (Or.inl rfl) (cU.of (sc:=aS iD) (N:= ["p","one","n","end","pattern","pairs"]) (own:= ["place","setting","k"]) (fr:= [3,2]) (N':= ["place","setting","k","end","n"])) (qz (pv 4)) (λ_ _ _ _=>(d9 (n:=2) rfl (bp (aX (i:=0) (by change(["place","setting","k","end","n"]:cA Str).Nodup;decide+kernel) rfl (by trivial)) (bp (aX (i:=1) (by change(["place","setting","k","end","n"]:cA Str).Nodup;decide+kernel) rfl (by trivial)) dj)))) ⋯ (ES (by change _<_;decide) (by change _<_;decide)) (λ_ _ _ _=>dw) (λ_ _ _ _=>(fO (by rfl) T.jh (aa (pv 4) ae))) (λ_ _ _ _=>(aX (i:=2) (by change(["place","setting","k","end","n"]:cA Str).Nodup;decide+kernel) rfl (by trivial))) (AV (by change _<=_ /\ _<_;decide)) (λ_ _ _ _=>dw) (λ_ _ _ _=>(aJ (aa (bL fb (pv 0) (bL gY (pv 3) (pv 2))) (aa (pv 1) ae)))) rfl) (aj (aE (aJ (aa (bL gY (pv 3) (pv 2)) (aa (ax T.tidy (o6 T) hr (aa (pv 0) (aa (pv 5) ae))) ae))))))))),?_];try dsimp only[eI]
 exact#[_,inferInstance,?_];rintro vs M q ⟨p,a,n,rfl,p0,p1,hP,hl,n0,hb,k⟩;have S1:decide (n<0)=false:=aF (by omega);have sA:=lx hP p1;dsimp?! [gv,S1];exact di (λh=> ?_) λh=> ?_;simp?! [↓eM];exact#[p,a.2,n,rfl,p0,C7,hl,sA,?_];simp?! [↓eM];exact dY (k (0,qH p (tm n a.2)) #[?_,f_ p0 _,λx=> ?_] (λ_=> ?_) λh'=>absurd h h');rw[h,Int.zero_mul];rw[mO p0,Cj];unfold lv;rw[ak (by omega),h,jU];have:((n.toNat:Nat):Int)=n:=by omega
 rw[this];show ar (jd _ _) (by rw[tm,af];show aq _);let⟨nb,dJ⟩:=hb h;have cm: ∀j:Int,j<100000 ->0<=j ->nh a.1 j=True:=λj h1 h2=>au (.inr #[by omega,by omega]);dsimp?! [gj];exact G0 (λ_=>List.range n.toNat) (λ(k:Nat)=>wi (0+(k:Int))) (λz k=>bV (z.1+a.1*(0+(k:Int)),z.2)) ?_ (λ_ _=>trivial) ?_ λt ht=> ?_;exact kh ?_;simp![List.length_range];rw[List.map_const',List.sum_replicate_nat];show ar dJ ⋯;intro z hz M3 s3 B N0 hB;simp?! [↓IB,bV];exact#[#[by omega,by omega],hB _ _ (λ_ _=>trivial) ?_];intro j hj M4 s4 N hN;have hj:=List.mem_range.mp hj;simp?! [↓IB,cm (0+(j:Int)) (by omega) (by omega)];show hN;have e:(a.2.map λz=>(List.range n.toNat).map λ(k:Nat)=>bV (z.1+a.1*(0+(k:Int)),z.2)).flatten=(lR a.1 n.toNat a.2).map bV:=by rw[lR,List.map_flatten,aZ];congr 1;apply dB;intro z _;simp![Function.comp_apply,oP,aZ];apply dB;intro j _;rw[Int.zero_add];rfl
 rw[e];have cn:nh a.1 n=True:=cm n nb n0;dsimp?! [cn];exact#[t,p,lR a.1 n.toNat a.2,rfl,am,p0,C7,by rw[va];show ar dJ ⋯,?_];simp?! [↓eM];exact#[M,a5 ht,k (a.1*n,qH p (lR a.1 n.toNat a.2)) #[rfl,f_ p0 _,λx=> ?_] (λh'=>absurd h' h) λ_=> ?_];rw[mO p0,z6];unfold lv;rw[ak (by omega)];exact ar (jd _ _) ?_;rw[va];have:n.toNat=n.natAbs:=by omega
 rw[this];show aq _
def yV {K:WV}(T:fg K mg A):bD P w K mg base fi 5 A.iQ A.iR ["p","one","n"] (fK K Pu):=by
 have oi:=o9 (P:=P) (w:=w) (base:=base) T;exact okS T.repeated.fn i8 (by left) λcdv A' outer s H E hr=> ?_;have nd:=i8.nd;exact#[_,(ag (bi (aQ hU (pv 2) ai (a7 _)) (aj (aE (ax T.repeated oi hr (aa (pv 0) (aa (ax T.backward (lP T) hr (aa (pv 0) (aa (pv 1) ae))) (aa (fF eD (pv 2)) ae)))))) aK) (ag (f6 (pv 1) (d9 (n:=2) rfl (bp (aX (i:=3) nd rfl (by trivial)) (bp (aX (i:=4) nd rfl (by trivial)) dj)))) (ag (bi (aQ cX (pv 3) ai (a7 _)) (aj (aE (aJ (aa ai (aa (ax T.timed (uU T) hr (aa (pv 0) (aa (pv 4) (aa (pv 2) ae)))) ae))))) aK) (ag (rN (i:=5) (n1:=2) rfl nd rfl (Or.inl rfl) (cU.of (sc:=aS iD) (N:= ["p","one","n","end","pattern","pairs"]) (own:= ["place","setting","k"]) (fr:= [3,2]) (N':= ["place","setting","k","end","n"])) (qz (pv 4)) (λ_ _ _ _=>(d9 (n:=2) rfl (bp (aX (i:=0) (by change(["place","setting","k","end","n"]:cA Str).Nodup;decide+kernel) rfl (by trivial)) (bp (aX (i:=1) (by change(["place","setting","k","end","n"]:cA Str).Nodup;decide+kernel) rfl (by trivial)) dj)))) ⋯ (ES (by change _<_;decide) (by change _<_;decide)) (λ_ _ _ _=>dw) (λ_ _ _ _=>(fO (by rfl) T.jh (aa (pv 4) ae))) (λ_ _ _ _=>(aX (i:=2) (by change(["place","setting","k","end","n"]:cA Str).Nodup;decide+kernel) rfl (by trivial))) (AV (by change _<=_ /\ _<_;decide)) (λ_ _ _ _=>dw) (λ_ _ _ _=>(aJ (aa (bL fb (pv 0) (bL gY (pv 3) (pv 2))) (aa (pv 1) ae)))) rfl) (aj (aE (aJ (aa (bL gY (pv 3) (pv 2)) (aa (ax T.tidy (o6 T) hr (aa (pv 0) (aa (pv 5) ae))) ae))))))))),?_];try dsimp only[eI]
 exact#[_,inferInstance,?_];rintro vs M q ⟨p,a,n,rfl,p0,p1,hP,hl,hn,hb,k⟩;have S1:decide (n<0)=true:=a6 hn;have sA:=lx hP p1;dsimp?! [S1];exact#[p,a,rfl,p0,C7,hl,sA,?_];dsimp?! [];have hB:=Dm p a;exact#[p,bk p a, -n,rfl,p0,p1,Dl p0 a,by omega,by omega,λhe=> ?_,λr hr Xf NQ=> ?_];have he':a.1≠0:=λz=>he (by change -a.1=0;omega);let⟨h1,h2,h3⟩:=hb he';exact#[by omega,ar (Nat.mul_le_mul hB (Nat.le_of_eq ?_)) h3];omega;dsimp?! [];have e:(-n).natAbs=n.natAbs:=by omega
 rw[e] at NQ;have hm:(bk p a).2.length*n.natAbs<=a.2.length*n.natAbs:=Nat.mul_le_mul_right _ hB;show dY (k r (hr.y_ p0 hn) (λh=>ar (Xf (by change -a.1=0;omega)) hB) λh=>ar (NQ (by change -a.1≠0;omega)) hm)
theorem AC {K:WV}(T:fg K mg A):bD P w K mg base fi 5 A.iQ A.iR ["p","one","n"] (fK K RM):=XD ((o9 T).mono ⋯) (yV T) λ_ _ _=>MQ
def CF {K:WV}(T:fg K mg A):bD P w K mg base fi 4 A.xM A.xU ["_law_p_here","_law_one","_law_n"] (fK K RM):=by
 exists T.EI.fn,["_law_p_here","_law_one","_law_n","_law_base","_law_pairs","_law_k"],(ag (bi (aQ cX ((pv 1)∪ai) ai (a7 _)) (aj (aE (aJ (aa ai (aa (ax T.EJ (uV T) hr (aa (pv 0) (aa (aJ ae) (aa ((pv 1)∪ai) (aa ai (aa (pv 2) ae)))))) ae))))) aK) (ag (3\(pv 1)) (ag (bi (aQ hU (pv 2) ai (a7 _)) (aj (3\(ax T.JQ (Gn T) hr (aa (pv 0) (aa (pv 1) ae))))) aK) (ag (4\(dP ae)) (ag (gw cT rfl (fO (by rfl) T.jh (aa (bh fS (by rfl) T.sN Boot.«abs» (aa (pv 2) ae)) ae)) (aX (i:=5) nd rfl (by trivial)) (aj (bF (eN aL PySem.F.slot_list_extend PySem.F.type_list_extend mT (pv 4) (aa (dy rfl (cU.of (sc:=_) (N:= ["_law_p_here","_law_one","_law_n","_law_base","_law_pairs","_law_k"]) (own:= ["_law_place","_law_setting"]) (fr:= [5,3]) (N':= ["_law_place","_law_setting","_law_k","_law_base"])) (jZ (K:=K) rfl ((pv 3)∪ai)) (λ_ _ _ _=>(d9 (n:=2) rfl (bp (aX (i:=0) (by change(["_law_place","_law_setting","_law_k","_law_base"]:cA Str).Nodup;decide+kernel) rfl (by trivial)) (bp (aX (i:=1) (by change(["_law_place","_law_setting","_law_k","_law_base"]:cA Str).Nodup;decide+kernel) rfl (by trivial)) dj)))) gc (λ_ _ _ _=>dw) (λ_ _ _ _=>(aJ (aa (bL fb (pv 0) (bL gY (pv 2) ((pv 3)∪ai))) (aa (pv 1) ae))))) ae))))) (aj (aE (aJ (aa (bL gY ((pv 3)∪ai) (bh fS (by rfl) T.sN Boot.«abs» (aa (pv 2) ae))) (aa (ax T.zd (qE T) hr (aa (pv 0) (aa (pv 4) ae))) ae))))))))))
 rintro vs M q ⟨p,a,n,rfl,p0,p1,hP,hl,hb,k⟩;have sA:=lx hP p1;dsimp?! [gv];exact di (λh=> ?_) λh=> ?_;dsimp?! [gv];exact#[p,[],a.2,0,n,rfl,p0,C7,⋯,by omega,sA,?_];dsimp?! [];exact dY (k (0,qH p (EF 0 n a.2)) #[by rw[h,Int.zero_mul],f_ p0 _,λx=> ?_] (λ_=> ?_) λh'=>absurd h h');rw[mO p0,CK,Cj,Nt,h];unfold lv;by_cases hn:n<0;rw[ao hn, <- uF (f:=fE a.2) (g:=λx=> -fE a.2 (x+0)) (λ_=>rfl)];change _=fZ (λx=> -fE a.2 (x+0)) 0 (-n).toNat x % p;rw[jU,Int.add_zero];have:(((-n).toNat:Nat):Int)= -n:=by omega
 rw[this,Int.neg_mul_neg];rw[ak hn,jU];have:((n.toNat:Nat):Int)=n:=by omega
 rw[this];exact ar (jd _ _) ?_;rw[EF,af];show aq _;let⟨b1,b2,b3⟩:=hb h;exact iP ?_; simp?! [↓eM];exact iP ?_; simp?! [↓eM];exact iP (qQ (λρ M'=>M'=M /\ ∃b:WQ.Rd,gm (ρ= [some (wi p),some (gv a),some (wi n),some (gv b),none,none]) (dQ p b.2) (b.2.length<=a.2.length) (b.2.length*n.natAbs<=100000) (∀r,hW p b n.natAbs r ->hW p a n r)) ?_ λN hN=> ?_);rintro ρ M' ⟨rfl,b,rfl,hPb,hlb,hbn,aa7⟩;have Xt:(if n<0 then -n else n)=(n.natAbs:Int):=by split<;>omega
 dsimp?! [];intro t ht;dsimp?! [Xt];exact#[#[by omega,by omega],jO (λi ρ Qy=> ∃o1:e9 W,ρ= [some (wi p),some (gv a),some (wi n),some (gv b),some (wr t),o1] /\ Qy t=some (.lst ((oT b i).map bV)) /\ Sm M' Qy) #[none,rfl,am,a5 ht] (λ_ _ _ _ _=>trivial) ?_ ?_];rintro i x ρ Qy hx ⟨o1,rfl,hM,sM⟩ N hN;let⟨hi,rfl⟩:=jE hx;have cm:nh (0+(i:Int)) b.1=True:=au (.inl #[by omega,by omega]);dsimp?! [hM,gv,gj];exact e8 (λz=>bV (z.1+(0+(i:Int))*b.1,z.2)) (big (by omega)) (λ_ _=>trivial) ?_ λu hu=> ?_;intro z hz M3 N3 s3 jo;dsimp?! [bV,cm];show jo;have e:b.2.map (λz=>bV (z.1+(0+(i:Int))*b.1,z.2))=(mv ((i:Int)*b.1) b.2).map bV:=by rw[mv,aZ,Int.zero_add];rfl
 rw[e];have htu:t≠u:=bY hM hu;have dJ:(((oT b i).map bV).length+((mv ((i:Int)*b.1) b.2).map bV).length<=sizeLine)=True:=au (big (by rw[af,af,oR,qJ];have h1:(i+1)*b.2.length<=n.natAbs*b.2.length:=Nat.mul_le_mul_right _ (by omega);rw[Nat.succ_mul] at h1;rw[Nat.mul_comm n.natAbs] at h1;omega));dsimp?! [aP htu,hM,dJ];exact hN _ _ #[_,rfl,?_,λc o e=> ?_];rw[am,oT,aA];rw[aP (bY e ht)];show(a5 hu) _ _ (sM c o e);rintro ρ Qy ⟨o1,rfl,hM,sM⟩;rw[jD] at hM;have en:((n.natAbs:Int)).toNat=n.natAbs:=by omega
 rw[en] at hM;dsimp only;have cm:nh b.1 (n.natAbs:Int)=True:=au (.inr #[by omega,by omega]);dsimp?! [Xt,gv,cm];exact#[t,p,oT b n.natAbs,rfl,hM,p0,C7,by rw[oR,Nat.mul_comm];omega,?_];dsimp?! [];exact#[M',sM,k (b.1*(n.natAbs:Int),qH p (oT b n.natAbs)) (aa7 _ #[rfl,f_ p0 _,λx=> ?_]) (λh'=>absurd h' h) λ_=> ?_];rw[mO p0,xc];unfold lv;rw[ak (by omega)];have:((n.natAbs:Int)).toNat=n.natAbs:=by omega
 rw[this];exact ar (jd _ _) ?_;rw[oR,Nat.mul_comm];show Nat.mul_le_mul_right _ hlb;dsimp?! [];have hB:=Dm p a;exact di (λhn=> ?_) λhn=> ?_;dsimp?! [];exact#[p,a,rfl,p0,C7,hl,sA,?_];dsimp?! [];exact hN _ _ #[rfl,bk p a,rfl,Dl p0 a,hB,ar (Nat.mul_le_mul_right _ hB) b3,λr hr=> ?_];have e:((n.natAbs:Nat):Int)= -n:=by omega
 rw[e] at hr;show hr.y_ p0 hn;dsimp?! [];exact hN _ _ #[rfl,a,rfl,hP,aq _,b3,λr hr=> ?_];have e:((n.natAbs:Nat):Int)=n:=by omega
 rw[e] at hr;show hr
def fG {K:WV}(T:fg K mg A):bD P w K mg base (iV P w) 1 A.pK A.pX ["name"] (t_ K (RT A.dX)):=by
 exact y9 T.check_name.fn nk (by rintro vs M q e ⟨n,rfl,_⟩;rfl) λcdv A' outer s H E e hr hF hP=> ?_;have nd:=nk.nd;exact#[_,(aj (bi (kG (dS (oW o0 o0 ai (bh rA (by rfl) T.gN Boot.«len» (aa (pv 0) ae)) (f8 (by rfl) T.lr.choose_spec (show RelV (.int 12) _ from#[_,rfl])))) (iK (dE (bh (x_ rfl) (by rfl) T.Qw Boot.«any» (aa (dy rfl (cU.of (sc:=_) (N:= ["name"]) (own:= ["sign"]) (fr:= []) (N':= ["sign"])) (Je (pv 0)) (λ_ _ _ _=>(aX (i:=0) (by change(["sign"]:cA Str).Nodup;decide+kernel) rfl (by trivial))) ed (λ_ _ _ _=>dw) (λ_ _ _ _=>(im Gf (pv 0) (f8 (by rfl) T.FM.choose_spec (show RelV (.str "abcdefghijklmnopqrstuvwxyz") _ from#[_,rfl])) (by rfl)))) ae))))).pt (aj (dn hF rfl (by rfl) T.wZ (aa (eJ (bK ay (bK (lM (f8 (by rfl) T.lr.choose_spec (show RelV (.int 12) _ from#[_,rfl]))) (bK ay fD)))) ae))) aK)),?_];try dsimp only[eI]
 exact#[_,inferInstance,?_];rintro vs M q ⟨n,rfl,ha,hl,kq,ke⟩;have hz:n.length<=sizeLine:=bg (by omega);have Ka:(n.length<=sizeLine)=True:=au hz;dsimp?! [Ka];by_cases h1:1<=n.length
 .have e1:decide (1<=(n.length:Int))=true:=a6 (by omega);by_cases h2:n.length<=12
  .have e2:decide ((n.length:Int) <=12)=true:=a6 (by omega);dsimp?! [e1,e2,ha,aG];exact e8 (λc=>wb (!BZ c zT)) (by unfold BY;rw[af, <- str_len];show hz) (λ_ _=>trivial) ?_ λu hu=> ?_;intro c hc M3 N3 s3 jo;dsimp?! [];show jo;exact#[u,(BY n).map λc=> !BZ c zT,rfl,by rw[am,aZ];rfl,?_];have e3:((BY n).map λc=> !BZ c zT).any id= !ci n:=by have d1:decide (1<=n.length)=true:=a6 h1;have d2:decide (n.length<=12)=true:=a6 h2;unfold ci;rw[d1,d2,List.any_map,Bool.true_and,Bool.true_and,List.not_all_eq_any_not];rfl
   rw[e3];dsimp?! [];cases hn:ci n with
   | true=> dsimp?! [aG];show#[M,a5 hu,kq hn]
   | false=> dsimp?! [aU];(repeat (exact#[by first | decide | decide+kernel,?_]));show#[M,a5 hu,ke hn]
  .have e2:decide ((n.length:Int) <=12)=false:=aF (by omega);dsimp?! [e1,e2,aU];(repeat (exact#[by first | decide | decide+kernel,?_]));show#[M,Sm.refl M,ke (by unfold ci;rw[aF h2];simp)]
 .have e1:decide (1<=(n.length:Int))=false:=aF (by omega);dsimp?! [e1];(repeat (exact#[by first | decide | decide+kernel,?_]));show#[M,Sm.refl M,ke (by unfold ci;rw[aF h1];simp)]
def nv {K:WV}(T:fg K mg A):bD P w K mg base fi 1 A.pG A.pT ["things","name","thing"] (fK K RI):=by
 exists T.with_thing.fn,["things","name","thing","changed"],(ag (3\(ca kf (by rfl) T.zB Boot.«dict» (aa (pv 0) ae))) (ag (mQ (dU hr) (pv 3) (pv 1) (pv 2) rfl) (aj (aE (pv 3)))))
 rintro vs M q ⟨d,kvs,n,x,rfl,hd,hl,k⟩;dsimp?! [hd];intro u hu;have hs:(kvs.length<sizeLine)=True:=au (kh (by omega));exact iP ?_; simp?! [↓eM,hs];show dY (k u hu)
def uT {K:WV}(T:fg K mg A):bD P w K mg base fi 1 A.xK A.xS ["things","name"] (fK K Ji):=by
 exists T.without.fn,["things","name","changed"],(ag (2\(ca kf (by rfl) T.zB Boot.«dict» (aa (pv 0) ae))) (ag (MJ (pv 2) (pv 1)) (aj (aE (pv 2)))))
 rintro vs M q ⟨d,kvs,n,rfl,hd,hl,k⟩;dsimp?! [hd];intro u hu;exact iP ?_; simp?! [↓eM,hl];show dY (k u hu)
def pe {K:WV}(T:fg K mg A):bD P w K mg base fi 1 A.Ku A.KO ["self","rounds","teams"] (fK K (V8 A.bq)):=by
 have cl:=au T.Page.cl;have n1:=au T.n_Page_rounds;have n2:=au T.n_Page_teams;exists T.Page.fn,["self","rounds","teams"],(ag (iL (pv 0) (pv 1) rfl) (aj (iL (pv 0) (pv 2) rfl)))
 rintro vs M q ⟨s,dx,r,t,rfl,hs,k⟩;have e1:hJ "rounds" (wr r) []= [(("rounds" :Str),wr r)]:=rfl;have e2:hJ "teams" (wr t) [(("rounds" :Str),wr r)]=lK r t:=rfl;dsimp?! [hs,cl,n1,n2,e1,e2,Nat.reduceLT];show dY k
def Nf {K:WV}(T:fg K mg A):bD P w K mg base fi 3 A.Kv A.KP ["self","p"] (fK K (Wd A.aW A.bq)):=by
 have cl:=au T.Book.cl;have n1:=au T.n_Book_p;have n2:=au T.n_Book_now;have n3:=au T.n_Book_past;have n4:=au T.n_Book_undone;have n5:=au T.n_Book_held;exists T.Book.fn,["self","p"],(ag (bi (aQ (mS (K:=K) rfl) (pv 1) (MN (by rfl) T.HZ) (by rfl)) (aj Jd) aK) (ag (iL (pv 0) (pv 1) rfl) (ag (iL (pv 0) (jG T.Page (pe T) (hr.mono ⋯) (by rfl) (aa jH (aa jH ae))) rfl) (ag (iL (pv 0) (dP ae) rfl) (ag (iL (pv 0) (dP ae) rfl) (aj (iL (pv 0) (dP ae) rfl)))))))
 rintro vs M q ⟨s,dx,p,rfl,hp,hs,k⟩;dsimp?! [];exact#[.int p,[.int 2, .int 3, .int 5, .int 7],rfl, .inl rfl,rfl,rfl,?_];have A6:(if true=true then !Qa (.int p) [.int 2, .int 3, .int 5, .int 7] else Qa (.int p) [.int 2, .int 3, .int 5, .int 7])=false:=by obtain rfl | rfl | rfl | rfl:=hp <;>decide+kernel
 rw[A6];have e1:hJ "p" (wi p) []= [(("p" :Str),wi p)]:=rfl;dsimp?! [hs,cl,n1,e1,Nat.reduceLT];intro r iO;dsimp?! [];intro t ht;dsimp?! [];intro pg lj mU LZ lT;exact#[pg,lj,r,t,rfl,am,rfl,?_];have h1:Fs s M (um M s (.ins A.aW dx [("p",wi p)])):=Fs.self;have h2:=h1.new (o:= .dK []) iO;have h3:=h2.new (o:= .dK []) ht;have h4:=(h3.new (o:= .ins A.bq lj []) mU)
 have Ze:s≠r:=bY am iO;have nts:s≠t:=bY (by rw[aP Ze];show am) ht;have nps:s≠pg:=bY (by rw[aP nts,aP Ze];show am) mU;have nrt:r≠t:=bY am ht;have nrp:r≠pg:=bY (by rw[aP nrt];show am) mU;have ntp:t≠pg:=bY am mU;have f5:Fs s M (um (um (um (um (um M s (.ins A.aW dx [("p",wi p)])) r (.dK [])) t (.dK [])) pg (.ins A.bq lj [])) pg (.ins A.bq lj (lK r t))):=by rw[kl];show h3.new mU
 have g1:(um (um (um (um (um M s (.ins A.aW dx [("p",wi p)])) r (.dK [])) t (.dK [])) pg (.ins A.bq lj [])) pg (.ins A.bq lj (lK r t))) s=some (.ins A.aW dx [("p",wi p)]):=by rw[kl,aP nps,aP nts,aP Ze];show am
 have g2:(um (um (um (um (um M s (.ins A.aW dx [("p",wi p)])) r (.dK [])) t (.dK [])) pg (.ins A.bq lj [])) pg (.ins A.bq lj (lK r t))) r=some (.dK []):=by rw[kl,aP nrp,aP nrt];show am
 have g3:(um (um (um (um (um M s (.ins A.aW dx [("p",wi p)])) r (.dK [])) t (.dK [])) pg (.ins A.bq lj [])) pg (.ins A.bq lj (lK r t))) t=some (.dK []):=by rw[kl,aP ntp];show am
 have g4:(um (um (um (um (um M s (.ins A.aW dx [("p",wi p)])) r (.dK [])) t (.dK [])) pg (.ins A.bq lj [])) pg (.ins A.bq lj (lK r t))) pg=some (.ins A.bq lj (lK r t)):=am;generalize (um (um (um (um (um M s (.ins A.aW dx [("p",wi p)])) r (.dK [])) t (.dK [])) pg (.ins A.bq lj [])) pg (.ins A.bq lj (lK r t)))=M4 at f5 g1 g2 g3 g4;clear h1 h2 h3 h4 iO ht mU LZ;have e2:hJ "now" (wr pg) [(("p" :Str),wi p)]= [(("p" :Str),wi p),("now",wr pg)]:=rfl;dsimp?! [g1,cl,n2,e2,aB,List.length_nil,Nat.reduceLT];intro la LX;have JC:s≠la:=bY am LX;have e3:hJ "past" (wr la) [(("p" :Str),wi p),("now",wr pg)]= [(("p" :Str),wi p),("now",wr pg),("past",wr la)]:=rfl;dsimp?! [aP JC,cl,n3,e3,aB,List.length_nil,Nat.reduceLT];intro lu zR;have Sb:s≠lu:=bY am zR;have Nn:la≠lu:=bY (by rw[aP JC.symm];show am) zR;have e4:hJ "undone" (wr lu) [(("p" :Str),wi p),("now",wr pg),("past",wr la)]= [(("p" :Str),wi p),("now",wr pg),("past",wr la),("undone",wr lu)]:=rfl;dsimp?! [aP Sb,cl,n4,e4,aB,List.length_nil,Nat.reduceLT];intro lh NR;have PF:s≠lh:=bY am NR;have Sc:la≠lh:=bY (by rw[aP JC.symm,aP Nn,aP JC.symm];show am) NR;have Sa:lu≠lh:=bY (by rw[aP Sb.symm];show am) NR;have e5:hJ "held" (wr lh) [(("p" :Str),wi p),("now",wr pg),("past",wr la),("undone",wr lu)]=eP p pg la lu lh:=rfl;dsimp?! [aP PF,cl,n5,e5,aB,List.length_nil,Nat.reduceLT];have F:=((((((Fs.self (M:=M4) (s:=s)).new LX (o:= .lst [])).put (o:= .ins A.aW dx [(("p" :Str),wi p),("now",wr pg),("past",wr la)])).new zR (o:= .lst [])).put (o:= .ins A.aW dx [(("p" :Str),wi p),("now",wr pg),("past",wr la),("undone",wr lu)])).new NR (o:= .lst [])).put (o:= .ins A.aW dx (eP p pg la lu lh));exact dY (k _ la lu lh pg #[#[dx,am],?_,?_,?_,#[Nn,Sc,Sa],lj,r,t,F _ _ g4 nps.symm,F _ _ g2 Ze.symm,F _ _ g3 nts.symm] (f5.trans F) ?_ ?_ ?_ JC.symm);rw[aP JC.symm,aP Sc,aP JC.symm,aP Nn,aP JC.symm];show am;rw[aP Sb.symm,aP Sa,aP Sb.symm];show am;rw[aP PF.symm];show am;rw[aP JC.symm] at LX;show f5.free LX JC.symm;rw[aP Sb.symm,aP Nn.symm,aP Sb.symm] at zR;show f5.free zR Sb.symm;rw[aP PF.symm,aP Sa.symm,aP PF.symm,aP Sc.symm,aP PF.symm] at NR;show f5.free NR PF.symm
def qG {K:WV}(T:fg K mg A):bD P w K mg base fi 1 A.kN A.kT ["self"] (fK K (Gb A.aW A.bq)):=by
 have cl:=au T.Book.cl;have n1:=au T.n_Book_p;exists T.nN.fn,["self"],(aj (aE (bw (K:=K) rfl (pv 0) rfl)))
 rintro vs M q ⟨b,la,lu,lh,now,p,pa,un,he,R,T',rfl,hB,k⟩;let⟨dx,hb⟩:=hB.ob;dsimp?! [hb,cl,n1,G4];show dY k
def lO {K:WV}(T:fg K mg A):bD P w K mg base fi 1 A.nA A.nF ["one","farthest_end","farthest_place"] (fK K Jj):=by
 exists T.lies_within.fn,["one","farthest_end","farthest_place","end","pattern"],(ag (f6 (pv 0) (d9 (n:=2) rfl (bp (aX (i:=3) nd rfl (by trivial)) (bp (aX (i:=4) nd rfl (by trivial)) dj)))) (aj (aE (yP (im o0 (bh fS (by rfl) T.sN Boot.«abs» (aa (pv 3) ae)) (pv 1) (a7 _)) (uO (bh (iz rfl) (by rfl) T.yg Boot.«all» (aa (dy rfl (cU.of (sc:=aS jj) (N:= ["one","farthest_end","farthest_place","end","pattern"]) (own:= ["place","setting"]) (fr:= [2]) (N':= ["place","setting","farthest_place"])) (qz (pv 4)) (λ_ _ _ _=>(d9 (n:=2) rfl (bp (aX (i:=0) (by change(["place","setting","farthest_place"]:cA Str).Nodup;decide+kernel) rfl (by trivial)) (bp (aX (i:=1) (by change(["place","setting","farthest_place"]:cA Str).Nodup;decide+kernel) rfl (by trivial)) dj)))) gc (λ_ _ _ _=>dw) (λ_ _ _ _=>(im o0 (bh fS (by rfl) T.sN Boot.«abs» (aa (pv 0) ae)) (pv 2) (a7 _)))) ae)))))))
 rintro vs M q ⟨a,e,r,rfl,hl,k⟩;have sm: ∀u o,M u=none ->Sm M (um M u o):=λu o h=>a5 h;have ef:gl a e r= !(decide ((if a.1<0 then -a.1 else a.1) <=e) && a.2.all λz=>decide ((if z.1<0 then -z.1 else z.1) <=r)):=rfl;dsimp?! [gv,gj];cases h1:decide ((if a.1<0 then -a.1 else a.1) <=e) with
 | false=>rw[h1,Bool.false_and] at ef;rw[ef] at k;dsimp?! [];show dY k
 | true=>rw[h1,Bool.true_and] at ef;rw[ef,Bool.not_not] at k;dsimp?! [];exact e8 (λz=>wb (decide ((if z.1<0 then -z.1 else z.1) <=r))) (big (by omega)) (λ_ _=>trivial) ?_ λu hu=> ?_;intro z hz M3 N3 s3 jo;dsimp?! [bV];show jo;exact#[u,a.2.map λz=>decide ((if z.1<0 then -z.1 else z.1) <=r),rfl,by rw[am,aZ];rfl,?_];rw[List.all_map];show#[M,a5 hu,k]
def pd {K:WV}(T:fg K mg A):bD P w K mg base fi 2 A.se A.sy ["one"] (fK K RS):=by
 exists T.fits_crew.fn,["one"],(aj (aE (ax T.lies_within (lO T) hr (aa (pv 0) (aa (f8 (by rfl) T.uA.choose_spec (show RelV (.int 8) _ from#[_,rfl])) (aa (f8 (by rfl) T.qo.choose_spec (show RelV (.int 24) _ from#[_,rfl])) ae))))))
 rintro vs M q ⟨a,rfl,hl,k⟩;dsimp?! [];show#[a,8,24,rfl,hl,dY k]
def eZ {K:WV}(T:fg K mg A):bD P w K mg base fi 1 A.l7 A.mx ["self","page"] (fK K (V2 A.aW A.bq)):=by
 have cl:=au T.Book.cl;have n2:=au T.n_Book_now;have n3:=au T.n_Book_past;have n4:=au T.n_Book_undone;exists T.fw.fn,["self","page"],(ag (bF (eN aL bt br c9 (bw (K:=K) rfl (pv 0) rfl) (aa (bw (K:=K) rfl (pv 0) rfl) ae))) (ag (iL (pv 0) (dP ae) rfl) (aj (iL (pv 0) (pv 1) rfl))))
 rintro vs M q ⟨b,la,lu,lh,now,pg,p,pa,un,he,R,T',R',T1,rfl,hB,hP,hl,k⟩;let⟨dx,hb⟩:=hB.ob;have hs:((pa.map wr).length<sizeLine)=True:=au (kh (by rw[af];omega));have ha:=hB.pa;have LM:b≠la:=λz=>by subst z;rw[hb] at ha;cases ha
 dsimp?! [hb,cl,n2,n3,n4,ip,K8,ha,hs];intro eL hu;have Nq:la≠eL:=bY am hu;have Np:b≠eL:=bY (by rw[aP LM];show hb) hu;dsimp?! [aP Np,aP LM,hb,cl,n2,n4,Tx,ahF,Tv];have Ur:M eL=none:=by rwa [aP Nq.symm] at hu
 have F:zU b la M (um (um (um M la (.lst (pa.map wr++ [wr now]))) eL (.lst [])) b (.ins A.aW dx (eP p pg la eL lh))):=λa o h n1 n2=>by rw[aP n1,aP (bY h Ur),aP n2];show h
 have hh:=hB.he;exact dY (k _ eL #[#[dx,am],?_,?_,F _ _ hh (λz=>by subst z;rw[hb] at hh;cases hh) hB.ne.2.1.symm,#[Nq,hB.ne.2.1,(bY hh Ur).symm],F.pg hb ha hP] F Ur);rw[aP LM.symm,aP Nq,am,aA];rfl;rw[aP Np.symm];show am
def jJ {K:WV}(T:fg K mg A):bD P w K mg base fi 1 A.kQ A.kZ ["self","name"] (fK K (Ge A.aW A.bq)):=by
 have cl:=au T.Book.cl;have rq:=au T.Page.cl;have n2:=au T.n_Book_now;have n3:=au T.n_Page_teams;exists T.jt.fn,["self","name"],(aj (aE (bh (x_ rfl) (by rfl) T.Qw Boot.«any» (aa (Et (dy rfl (cU.of (sc:=_) (N:= ["self","name"]) (own:= ["team"]) (fr:= [1]) (N':= ["team","name"])) (MK (bw (K:=K) rfl (bw (K:=K) rfl (pv 0) rfl) rfl)) (λ_ _ _ _=>(aX (i:=0) (by change(["team","name"]:cA Str).Nodup;decide+kernel) rfl (by trivial))) ed (λ_ _ _ _=>dw) (λ_ _ _ _=>(im (uS (K:=K) rfl) (pv 1) (pv 0) (by rfl))))) ae))))
 rintro vs M q ⟨b,la,lu,lh,now,p,pa,un,he,R,T',n,rfl,hB,hl,k⟩;let⟨dx,hb⟩:=hB.ob;let⟨lj,r,t,h1,h2,h3⟩:=hB.pg;dsimp?! [];exact#[t,_,h3,?_];dsimp?! [hb,h1,cl,rq,n2,n3,ip,nT,h3];intro o ks;rw[HY];exact e8 (λz=>wb (rW n z.2)) (big (by omega)) (λM2 s2=>s2 _ _ am) ?_ λu hu=> ?_;intro z hz M3 N3 s3 jo;dsimp?! [];show uj jo;have nut:t≠u:=bY am hu;exact#[o,ks,_,by rw[aP nut];show am,u,T'.map λz=>rW n z.2,rfl,by rw[aP nut.symm,am,aZ];rfl,M,DM h3 hu,?_];rw[List.any_map];show k
def jc {K:WV}(T:fg K mg A):bD P w K mg base (iV P w) 4 A.vH A.vN ["self","name","one"] (t_ K (Gc A.aW A.bq A.dG)):=by
 have cl:=au T.Book.cl;have rq:=au T.Page.cl;have n2:=au T.n_Book_now;have n3:=au T.n_Page_teams;have n4:=au T.n_Page_rounds;exact y9 T.mL.fn rG (by rintro vs M q e ⟨b,la,lu,lh,now,p,pa,un,he,R,T',n,a,rfl,_⟩;rfl) λcdv A' outer s H E e hr hF hP=> ?_;have nd:=rG.nd;exact#[_,(ag (bi (dS (dE (ax T.lies_within (lO T) hr (aa (pv 2) (aa (f8 (by rfl) T.nO.choose_spec (show RelV (.int 200) _ from#[_,rfl])) (aa (f8 (by rfl) T.nO.choose_spec (show RelV (.int 200) _ from#[_,rfl])) ae)))))) (aj (dn hF rfl (by rfl) T.om (aa (eJ (bK ay (bK (lM (f8 (by rfl) T.nO.choose_spec (show RelV (.int 200) _ from#[_,rfl]))) (bK ay fD)))) ae))) aK) (ag (bi (nR (dE (ez T.jt (jJ T) (hr.mono ⋯) (pv 0) (aa (pv 1) ae))) (jY (dS (dE (ax T.fits_crew (pd T) hr (aa (pv 2) ae)))))).pt (aj (dn hF rfl (by rfl) T.om (aa ay ae))) aK) (aj (bF (ez T.fw (eZ T) (hr.mono ⋯) (pv 0) (aa (jG T.Page (pe T) (hr.mono ⋯) (by rfl) (aa (ax T.with_thing (nv T) hr (aa (bw (K:=K) rfl (bw (K:=K) rfl (pv 0) rfl) rfl) (aa (pv 1) (aa (pv 2) ae)))) (aa (bw (K:=K) rfl (bw (K:=K) rfl (pv 0) rfl) rfl) ae))) ae)))))),?_];try dsimp only[eI]
 exact#[_,inferInstance,?_];rintro vs M q ⟨b,la,lu,lh,now,p,pa,un,he,R,T',n,a,rfl,hB,hl,hlR,hlT,LX,kq,ke⟩;let⟨dx,hb⟩:=hB.ob;let⟨lj,r,t,h1,h2,h3⟩:=hB.pg;have up: ∀C,e C M ->WL.up e C M:=λC h=>#[M,Sm.refl M,h]
 dsimp?! [];exact#[a,200,200,rfl,LX,?_];cases hf:gl a 200 200 with
 | true=>dsimp?! [aG,aU];(repeat (exact#[by first | decide | decide+kernel,?_]));show up _ (ke (by unfold dm;rw[hf];rfl))
 | false=>
  dsimp?! [aG,aU,hb,sL];exact#[b,la,lu,lh,now,p,pa,un,he,R,T',n,rfl,hB,hlT,?_];cases hu:sS T' n with
  | false=>
   have n8:dm T' n a=false:=by unfold dm;rw[hf,hu];rfl
   dsimp?! [hb,h1,cl,rq,n2,n3,n4,ip,nT,qB,gz];rw[mM];dsimp?! [hb,h1,cl,rq,n2,n3,n4,ip,nT,qB];exact#[r,_,n,_,rfl,h2,by rw[oy];omega,λu hu=> ?_];have NP:=bY hb hu;have nZ:=bY h1 hu;dsimp?! [aP NP,aP nZ,hb,h1,cl,rq,n2,n3,n4,ip,nT,qB];intro pg zr mU LZ lT;rw[gB] at mU ⊢;exact#[pg,zr,u,t,rfl,am,rfl,?_];rw[kl];have s2:=(a5 hu (o:= .dK (sT gv (gV R n a)))).trans (a5 mU (o:= .ins A.bq zr (lK u t)));have Nk:=bY am mU;show#[b,la,lu,lh,now,pg,p,pa,un,he,R,T',_,T',rfl,hB.sm s2,#[zr,u,t,am,by rw[aP Nk];show am,s2 _ _ h3],hl,λM' eL B' F zR=>dY (kq n8 M' eL pg B' (F.sm s2) (s2.free zR) ((a5 hu).free mU))]
  | true=>
   dsimp?! [];exact#[a,rfl,LX,?_];cases LY:gl a 8 24 with
   | true=>dsimp?! [aG,aU];(repeat (exact#[by first | decide | decide+kernel,?_]));show up _ (ke (by unfold dm;rw[hu,LY,hf];rfl))
   | false=>
    have n8:dm T' n a=false:=by unfold dm;rw[hf,hu,LY];rfl
    dsimp?! [aG,aU,hb,h1,cl,rq,n2,n3,n4,ip,nT,qB,gz];rw[mM];dsimp?! [hb,h1,cl,rq,n2,n3,n4,ip,nT,qB];exact#[r,_,n,_,rfl,h2,by rw[oy];omega,λu hu=> ?_];have NP:=bY hb hu;have nZ:=bY h1 hu;dsimp?! [aP NP,aP nZ,hb,h1,cl,rq,n2,n3,n4,ip,nT,qB];intro pg zr mU LZ lT;rw[gB] at mU ⊢;exact#[pg,zr,u,t,rfl,am,rfl,?_];rw[kl];have s2:=(a5 hu (o:= .dK (sT gv (gV R n a)))).trans (a5 mU (o:= .ins A.bq zr (lK u t)));have Nk:=bY am mU;show#[b,la,lu,lh,now,pg,p,pa,un,he,R,T',_,T',rfl,hB.sm s2,#[zr,u,t,am,by rw[aP Nk];show am,s2 _ _ h3],hl,λM' eL B' F zR=>dY (kq n8 M' eL pg B' (F.sm s2) (s2.free zR) ((a5 hu).free mU))]
def cY {K:WV}(T:fg K mg A):bD P w K mg base (iV P w) 1 A.kO A.kW ["self","name"] (t_ K (Jl A.aW A.bq A.dW)):=by
 have cl:=au T.Book.cl;have rq:=au T.Page.cl;have n2:=au T.n_Book_now;have n4:=au T.n_Page_rounds;exact y9 T.dC.fn jC (by rintro vs M q e ⟨b,la,lu,lh,now,p,pa,un,he,R,T',n,rfl,_⟩;rfl) λcdv A' outer s H E e hr hF hP=> ?_;have nd:=jC.nd;exact#[_,(ag (bi (nS (jI (dU hr) (pv 1) (bw (K:=K) rfl (bw (K:=K) rfl (pv 0) rfl) rfl))) (aj (dn hF rfl (by rfl) T.qj (aa (eJ (bK ay (bK (gX (pv 1)) fD))) ae))) aK) (aj (aE (eK (dU hr) (bw (K:=K) rfl (bw (K:=K) rfl (pv 0) rfl) rfl) (pv 1) (λ_ _=>rfl))))),?_];try dsimp only[eI]
 exact#[_,inferInstance,?_];rintro vs M q ⟨b,la,lu,lh,now,p,pa,un,he,R,T',n,rfl,hB,hl,kq,ke⟩;let⟨dx,hb⟩:=hB.ob;let⟨lj,r,t,h1,h2,h3⟩:=hB.pg;dsimp?! [hb,h1,h2,cl,rq,n2,n4,ip,qB,cF];cases hg:cw R n with
 | some a=>dsimp?! [bB,cj,aG];dsimp?! [hb,h1,h2,cl,rq,n2,n4,ip,qB,cF,hg,bB];show dY (kq a hg)
 | none=>dsimp?! [Option.map_none,db,aU];(repeat (exact#[by first | decide | decide+kernel | show bg (by omega) | show Qn (by right) hl | show Qm (by right) hl (by right),?_]));show#[M,Sm.refl M,ke hg]
def nw {K:WV}(T:fg K mg A):bD P w K mg base fi 1 A.pL A.pY ["self"] (fK K (MT A.aW A.bq)):=by
 have cl:=au T.Book.cl;have rq:=au T.Page.cl;have n2:=au T.n_Book_now;have n4:=au T.n_Page_rounds;exists T.oj.fn,["self"],(aj (aE (bh (fu rfl) (by rfl) T.gM Boot.«sorted» (aa (bw (K:=K) rfl (bw (K:=K) rfl (pv 0) rfl) rfl) ae))))
 rintro vs M q ⟨b,la,lu,lh,now,p,pa,un,he,R,T',rfl,hB,hl,k⟩;let⟨dx,hb⟩:=hB.ob;let⟨lj,r,t,h1,h2,h3⟩:=hB.pg;dsimp?! [hb,h1,h2,cl,rq,n2,n4,ip,qB];show#[r,_,R.map (·.1),rfl,h2,jx _ _,by rw[af];show big (by omega),λu ns hu h3 h4=>dY (k u ns hu h3 h4)]
def ny {K:WV}(T:fg K mg A):bD P w K mg base fi 1 A.pN A.p6 ["self"] (fK K (MX A.aW A.bq)):=by
 have cl:=au T.Book.cl;have rq:=au T.Page.cl;have n2:=au T.n_Book_now;have n4:=au T.n_Page_teams;exists T.ol.fn,["self"],(aj (aE (bh (fu rfl) (by rfl) T.gM Boot.«sorted» (aa (bw (K:=K) rfl (bw (K:=K) rfl (pv 0) rfl) rfl) ae))))
 rintro vs M q ⟨b,la,lu,lh,now,p,pa,un,he,R,T',rfl,hB,hl,k⟩;let⟨dx,hb⟩:=hB.ob;let⟨lj,r,t,h1,h2,h3⟩:=hB.pg;dsimp?! [hb,h1,h3,cl,rq,n2,n4,ip,nT];show#[t,_,T'.map (·.1),rfl,h3,jx _ _,by rw[af];show big (by omega),λu ns hu h3 h4=>dY (k u ns hu h3 h4)]
def yY {K:WV}(T:fg K mg A):bD P w K mg base (iV P w) 5 A.sj A.sD ["self","name","deeds"] (t_ K (Wc A.aW A.bq (vR A) XE)):=by
 have cl:=au T.Book.cl;have n1:=au T.n_Book_p;exact y9 T.yj.fn oE (by rintro vs M q e ⟨b,la,lu,lh,now,p,pa,un,he,R,T',dd,ys,rfl,⟨n,a,ds,rfl,_⟩,_⟩;rfl) λcdv A' outer s H E e hr hF hP=> ?_;have nd:=oE.nd;exact#[_,(ag (bF (iu hP T.check_name (fG T) (hr.mono ⋯) (by rfl) (aa (pv 1) ae))) (aj (bF (cr hP T.mL (jc T) (hr.mono ⋯) (pv 0) (aa (pv 1) (aa (iu hP T.gone (Nd T) (hr.mono ⋯) (by rfl) (aa (bw (K:=K) rfl (pv 0) rfl) (aa (pv 2) ae))) ae)))))),?_];try dsimp only[eI]
 exact#[_,inferInstance,?_];rintro vs M q ⟨b,la,lu,lh,now,p,pa,un,he,R,T',dd,ys,rfl,⟨n,a,ds,rfl,rfl,ha⟩,⟨hn,hd,hw⟩,hB,hS,kq,ke⟩;let⟨dx,hb⟩:=hB.ob;have p0:0<p:=by have:=hS.p4;omega
 have up: ∀C,e C M ->WL.up e C M:=λC h=>#[M,Sm.refl M,h]
 exact#[n,rfl,hn.as,hn.len,λjm=> ?_,λjm=>up _ (ke .BadName (by rw[cC,ao jm]))];have CZ: ∀ (a':WQ.Rd),a'.2.length<=1000000 ->cC p R T' (.tell n ds)=jK R T' n a' ->Gc A.aW A.bq A.dG [wr b,ws n,gv a'] M (λ_ M1=> ∃M0,Sm M0 M1 /\ q wn M0) (WL.up e):=λa' hl ho=>yL hB hS hl ho kq λr h=>up _ (ke r h);dsimp?! [hb,cl,n1,G4,vS];exact#[a,p,ds,rfl,ha,p0,C7,by omega,hw,λhg=> ?_,λhg=>up _ (ke .NoDeed ?_)];dsimp?! [];show CZ _ (ar (jd _ _) (ar (jz _) (by omega))) (by rw[cC,ak (by rw[jm];decide),ak (by rw[vC.mpr hg];decide)]);have:jp ds=false:=by
  cases h:jp ds with
  | false=>rfl
  | true=>let⟨d,h1,h2⟩:=hg;show absurd (vC.mp h d h1) h2
 rw[cC,ak (by rw[jm];decide),ao this]
def sY {K:WV}(T:fg K mg A):bD P w K mg base (iV P w) 5 A.md A.mC ["self","name","one","other"] (t_ K (Wc A.aW A.bq (vR A) XF)):=by
 have cl:=au T.Book.cl;have n1:=au T.n_Book_p;exact y9 T.qb.fn kr (by rintro vs M q e ⟨b,la,lu,lh,now,p,pa,un,he,R,T',dd,ys,rfl,⟨n,x,y,rfl,_⟩,_⟩;rfl) λcdv A' outer s H E e hr hF hP=> ?_;have nd:=kr.nd;exact#[_,(ag (bF (iu hP T.check_name (fG T) (hr.mono ⋯) (by rfl) (aa (pv 1) ae))) (aj (bF (cr hP T.mL (jc T) (hr.mono ⋯) (pv 0) (aa (pv 1) (aa (ax T.joined (Go T) hr (aa (bw (K:=K) rfl (pv 0) rfl) (aa (cr hP T.dC (cY T) (hr.mono ⋯) (pv 0) (aa (pv 2) ae)) (aa (cr hP T.dC (cY T) (hr.mono ⋯) (pv 0) (aa (pv 3) ae)) ae)))) ae)))))),?_];try dsimp only[eI]
 exact#[_,inferInstance,?_];rintro vs M q ⟨b,la,lu,lh,now,p,pa,un,he,R,T',dd,ys,rfl,⟨n,x,y,rfl,rfl⟩,⟨hn,hx,hy⟩,hB,hS,kq,ke⟩;let⟨dx,hb⟩:=hB.ob;have p0:0<p:=by have:=hS.p4;omega
 have up: ∀C,e C M ->WL.up e C M:=λC h=>#[M,Sm.refl M,h]
 dsimp?! [];exact#[n,rfl,hn.as,hn.len,λjm=> ?_,λjm=>up _ (ke .BadName (by rw[cC,ao jm]))];have CZ: ∀ (a':WQ.Rd),a'.2.length<=1000000 ->cC p R T' (.join n x y)=jK R T' n a' ->Gc A.aW A.bq A.dG [wr b,ws n,gv a'] M (λ_ M1=> ∃M0,Sm M0 M1 /\ q wn M0) (WL.up e):=λa' hl ho=>yL hB hS hl ho kq λr h=>up _ (ke r h);have nZ:¬ci n=false:=by rw[jm];decide
 dsimp?! [hb,cl,n1,G4,vS,eT];exact#[b,la,lu,lh,now,p,pa,un,he,R,T',x,rfl,hB,hx.len,λa hg=> ?_,λhg=>up _ (ke .NoRound (by rw[cC,ak nZ,hg]))];dsimp?! [hb,cl,n1,G4,vS,eT];exact#[b,la,lu,lh,now,p,pa,un,he,R,T',y,rfl,hB,hy.len,λa2 B7=> ?_,λB7=>up _ (ke .NoRound (by rw[cC,ak nZ,hg,B7]))];dsimp?! [];let⟨z,hz,rfl,rfl⟩:=d4 hg;let⟨z2,NJ,rfl,rfl⟩:=d4 B7;have l1:=(hS.r.ok z hz).2.1;have l2:=(hS.r.ok z2 NJ).2.1;exact#[p,z.2,z2.2,rfl,p0,C7,by omega,by omega,?_];dsimp?! [];show CZ _ (ar (JY _ _ _) (by omega)) (by rw[cC,ak nZ,hg,B7])
def tf {K:WV}(T:fg K mg A):bD P w K mg base (iV P w) 5 A.mh A.mF ["self","name","one"] (t_ K (Wc A.aW A.bq (vR A) XH)):=by
 have cl:=au T.Book.cl;have n1:=au T.n_Book_p;exact y9 T.qf.fn kz (by rintro vs M q e ⟨b,la,lu,lh,now,p,pa,un,he,R,T',dd,ys,rfl,⟨n,x,rfl,_⟩,_⟩;rfl) λcdv A' outer s H E e hr hF hP=> ?_;have nd:=kz.nd;exact#[_,(ag (bF (iu hP T.check_name (fG T) (hr.mono ⋯) (by rfl) (aa (pv 1) ae))) (aj (bF (cr hP T.mL (jc T) (hr.mono ⋯) (pv 0) (aa (pv 1) (aa (ax T.backward (lP T) hr (aa (bw (K:=K) rfl (pv 0) rfl) (aa (cr hP T.dC (cY T) (hr.mono ⋯) (pv 0) (aa (pv 2) ae)) ae))) ae)))))),?_];try dsimp only[eI]
 exact#[_,inferInstance,?_];rintro vs M q ⟨b,la,lu,lh,now,p,pa,un,he,R,T',dd,ys,rfl,⟨n,x,rfl,rfl⟩,⟨hn,hx⟩,hB,hS,kq,ke⟩;let⟨dx,hb⟩:=hB.ob;have p0:0<p:=by have:=hS.p4;omega
 have p1:p<1000:=by have:=hS.p4;omega
 have up: ∀C,e C M ->WL.up e C M:=λC h=>#[M,Sm.refl M,h]
 dsimp?! [];exact#[n,rfl,hn.as,hn.len,λjm=> ?_,λjm=>up _ (ke .BadName (by rw[cC,ao jm]))];have CZ: ∀ (a':WQ.Rd),a'.2.length<=1000000 ->cC p R T' (.back n x)=jK R T' n a' ->Gc A.aW A.bq A.dG [wr b,ws n,gv a'] M (λ_ M1=> ∃M0,Sm M0 M1 /\ q wn M0) (WL.up e):=λa' hl ho=>yL hB hS hl ho kq λr h=>up _ (ke r h);have nZ:¬ci n=false:=by rw[jm];decide
 dsimp?! [hb,cl,n1,G4,vS,eT];exact#[b,la,lu,lh,now,p,pa,un,he,R,T',x,rfl,hB,hx.len,λa hg=> ?_,λhg=>up _ (ke .NoRound (by rw[cC,ak nZ,hg]))];dsimp?! [];let⟨z,hz,rfl,rfl⟩:=d4 hg;have l1:=(hS.r.ok z hz).2.1;exact#[p,z.2,rfl,p0,C7,by omega,lx (hS.r.ok z hz).1 p1,?_];dsimp?! [];show CZ _ (ar (Dm _ _) (by omega)) (by rw[cC,ak nZ,hg])
def qF {K:WV}(T:fg K mg A):bD P w K mg base (iV P w) 6 A.kL A.kS ["self","name","one","n"] (t_ K (Wc A.aW A.bq (vR A) Tk)):=by
 have cl:=au T.Book.cl;have n1:=au T.n_Book_p;exact y9 T.nM.fn jB (by rintro vs M q e ⟨b,la,lu,lh,now,p,pa,un,he,R,T',dd,ys,rfl,⟨n,x,j,rfl,_⟩,_⟩;rfl) λcdv A' outer s H E e hr hF hP=> ?_;have nd:=jB.nd;exact#[_,(ag (bF (iu hP T.check_name (fG T) (hr.mono ⋯) (by rfl) (aa (pv 1) ae))) (aj (bF (cr hP T.mL (jc T) (hr.mono ⋯) (pv 0) (aa (pv 1) (aa (ax T.repeated (AC T) hr (aa (bw (K:=K) rfl (pv 0) rfl) (aa (cr hP T.dC (cY T) (hr.mono ⋯) (pv 0) (aa (pv 2) ae)) (aa (pv 3) ae)))) ae)))))),?_];try dsimp only[eI]
 exact#[_,inferInstance,?_];rintro vs M q ⟨b,la,lu,lh,now,p,pa,un,he,R,T',dd,ys,rfl,⟨n,x,j,rfl,rfl⟩,⟨hn,hx,j0,j1⟩,hB,hS,kq,ke⟩;let⟨dx,hb⟩:=hB.ob;have p0:0<p:=by have:=hS.p4;omega
 have p1:p<1000:=by have:=hS.p4;omega
 have up: ∀C,e C M ->WL.up e C M:=λC h=>#[M,Sm.refl M,h]
 dsimp?! [];exact#[n,rfl,hn.as,hn.len,λjm=> ?_,λjm=>up _ (ke .BadName (by rw[cC,ao jm]))];have CZ: ∀ (a':WQ.Rd),a'.2.length<=1000000 ->cC p R T' (.times n x j)=jK R T' n a' ->Gc A.aW A.bq A.dG [wr b,ws n,gv a'] M (λ_ M1=> ∃M0,Sm M0 M1 /\ q wn M0) (WL.up e):=λa' hl ho=>yL hB hS hl ho kq λr h=>up _ (ke r h);have nZ:¬ci n=false:=by rw[jm];decide
 dsimp?! [hb,cl,n1,G4,vS,eT];exact#[b,la,lu,lh,now,p,pa,un,he,R,T',x,rfl,hB,hx.len,λa hg=> ?_,λhg=>up _ (ke .NoRound (by rw[cC,ak nZ,hg]))];dsimp?! [];let⟨z,hz,rfl,rfl⟩:=d4 hg;have l1:=(hS.r.ok z hz).2.1;have l3:z.2.2.length*j.natAbs<=401*100:=Nat.mul_le_mul l1 (by omega);exact#[p,z.2,j,rfl,p0,p1,(hS.r.ok z hz).1,by omega,λ_=>#[by omega,by omega,by omega],λr hr Xf NQ=> ?_];dsimp?! [];exact CZ _ ?_ (by rw[cC,ak nZ,hg];simp![Eh p0 hr]);by_cases h0:z.2.1=0;have:=Xf h0;omega;have:=NQ h0;omega
def y8 {K:WV}(T:fg K mg A):bD P w K mg base (iV P w) 3 A.sv A.sH ["self","name"] (t_ K (Wc A.aW A.bq (vR A) XG)):=by
 have cl:=au T.Book.cl;have rq:=au T.Page.cl;have n2:=au T.n_Book_now;have n3:=au T.n_Page_teams;have n4:=au T.n_Page_rounds;exact y9 T.ym.fn oH (by rintro vs M q e ⟨b,la,lu,lh,now,p,pa,un,he,R,T',dd,ys,rfl,⟨n,rfl,_⟩,_⟩;rfl) λcdv A' outer s H E e hr hF hP=> ?_;have nd:=oH.nd;exact#[_,(ag (bF (cr hP T.dC (cY T) (hr.mono ⋯) (pv 0) (aa (pv 1) ae))) (ag (bi (dE (ez T.jt (jJ T) (hr.mono ⋯) (pv 0) (aa (pv 1) ae))) (aj (dn hF rfl (by rfl) T.DE (aa (eJ (bK (gX (pv 1)) (bK ay fD))) ae))) aK) (aj (bF (ez T.fw (eZ T) (hr.mono ⋯) (pv 0) (aa (jG T.Page (pe T) (hr.mono ⋯) (by rfl) (aa (ax T.without (uT T) hr (aa (bw (K:=K) rfl (bw (K:=K) rfl (pv 0) rfl) rfl) (aa (pv 1) ae))) (aa (bw (K:=K) rfl (bw (K:=K) rfl (pv 0) rfl) rfl) ae))) ae)))))),?_];try dsimp only[eI]
 exact#[_,inferInstance,?_];rintro vs M q ⟨b,la,lu,lh,now,p,pa,un,he,R,T',dd,ys,rfl,⟨n,rfl,rfl⟩,hn,hB,hS,kq,ke⟩;let⟨dx,hb⟩:=hB.ob;let⟨lj,r,t,h1,h2,h3⟩:=hB.pg;have up: ∀C,e C M ->WL.up e C M:=λC h=>#[M,Sm.refl M,h]
 have hT:=hS.t;have hPa:=hS.pa;dsimp?! [hb,eT];exact#[b,la,lu,lh,now,p,pa,un,he,R,T',n,rfl,hB,hn.len,λa hg=> ?_,λhg=>up _ (ke .NoRound (by rw[cC,hg]))];dsimp?! [hb,sL];exact#[b,la,lu,lh,now,p,pa,un,he,R,T',n,rfl,hB,by omega,?_];cases hu:sS T' n with
 | true=>dsimp?! [];have iW:=hn.len;(repeat (exact#[by first | decide | decide+kernel | show bg (by omega) | show Qn (by right) iW | show Qm (by right) iW (by right),?_]));show up _ (ke .InUse (by rw[cC,hg];show ao hu))
 | false=>
  have ho:cC p R T' (.drop n)= .ok (oa R n):=by rw[cC,hg];show ak (by rw[hu];decide)
  dsimp?! [hb,gz];rw[mM];dsimp?! [hb,h1,cl,rq,n2,n3,n4,ip,nT,qB];exact#[r,_,n,rfl,h2,by rw[cF,hg];rfl,λu hu=> ?_];have NP:=bY hb hu;have nZ:=bY h1 hu;dsimp?! [aP NP,aP nZ,hb,h1,cl,rq,n2,n3,n4,ip,nT,qB];intro pg zr mU LZ lT;rw[pO] at mU ⊢;exact#[pg,zr,u,t,rfl,am,rfl,?_];rw[kl];have s2:=(a5 hu (o:= .dK (sT gv (oa R n)))).trans (a5 mU (o:= .ins A.bq zr (lK u t)));have Nk:=bY am mU;show#[b,la,lu,lh,now,pg,p,pa,un,he,R,T',_,T',rfl,hB.sm s2,#[zr,u,t,am,by rw[aP Nk];show am,s2 _ _ h3],by omega,λM' eL B' F zR=>dY (kq _ ho M' eL pg B' (F.sm s2) (s2.free zR) ((a5 hu).free mU))]
def CH {K:WV}(T:fg K mg A):bD P w K mg base fi 2 A.xO A.xW ["_law_draw","_law_many"] (fK K MS):=by
 exists T.EL.fn,["_law_draw","_law_many","_law_letters","_law_body","_law_cut","_law_start","_law_names_here","_law_k","_law_sign"],(ag (2\ay) (ag (3\(eN dt c6 dN (show Hu _ _ (oU K) from j7) ay (aa (dy rfl (cU.of (sc:=_) (N:= ["_law_draw","_law_many","_law_letters","_law_body","_law_cut","_law_start","_law_names_here","_law_k","_law_sign"]) (own:= ["_law_k"]) (fr:= [2,0]) (N':= ["_law_k","_law_letters","_law_draw"])) (fO (by rfl) T.jh (aa (ax T.c5 (bM T) hr (aa (pv 0) (aa ai ae))) ae)) (λ_ _ _ _=>(aX (i:=0) (by change(["_law_k","_law_letters","_law_draw"]:cA Str).Nodup;decide+kernel) rfl (by trivial))) ed (λ_ _ _ _=>dw) (λ_ _ _ _=>(uP J1 (pv 1) (ax T.c5 (bM T) hr (aa (pv 2) (aa ai ae))) (λ_ _=>rfl)))) ae))) (ag (4\(ax T.c5 (bM T) hr (aa (pv 0) (aa (bL fb (bh rA (by rfl) T.gN Boot.«len» (aa (pv 3) ae)) ai) ae)))) (ag (5\(ax T.c5 (bM T) hr (aa (pv 0) (aa ai ae)))) (ag (6\(dP ae)) (ag (gw cT rfl (fO (by rfl) T.jh (aa (pv 1) ae)) (aX (i:=7) nd rfl (by trivial)) (ag (8\(bL MZ (uP J1 (pv 2) (bL lN (bL fb (pv 5) (bL gY ai (pv 7))) ai) (λ_ _=>rfl)) (bL fb ai (ax T.c5 (bM T) hr (aa (pv 0) (aa ai ae)))))) (aj (bF (eN aL bt br c9 (pv 6) (aa (bL gC (bL gC (lL Iu (pv 3) oY (oX (pv 4))) (pv 8)) (lL Iu (pv 3) (oX (pv 4)) oY)) ae)))))) (aj (aE (pv 6)))))))))
 rintro vs M q ⟨d,l,m,rfl,hD,m0,m1,k⟩;have hLz:(zT.length<=sizeLine)=True:=au (by right);dsimp?! [];exact#[d,l,11,rfl,hD,⋯,⋯,λj M1 j0 j1 D1 b1=> ?_];dsimp?! [];exact#[#[by omega,by omega],Tt (by rw[jD];show big (by omega)) λu hu=> ?_];let⟨Gq,nul⟩:=D1.ne hu;exact#[λi ys M'=> ∃ss:cA Str,gm (ys=ss.map ws) (ss.length=i) (∀x∈ss,gQ x /\ x.length=1) (M' u=some (.lst ys)) (Dr M' d l),#[[],rfl,rfl,by simp,am,D1.put hu],?_,?_,?_];rintro i ys M' _ ⟨ss,rfl,hl,_,hM,_⟩;show#[trivial,hM,by rw[af];omega];rintro i x ys M' hx ⟨ss,rfl,hl,hs,hM,D2⟩ N hN;let⟨hi,rfl⟩:=jE hx;dsimp?! [];exact#[d,l,26,rfl,D2,⋯,⋯,λr M3 r0 r1 D3 b3=> ?_];let⟨c,hc,ac⟩:=JJ r0 r1;dsimp?! [hLz,hc];exact#[by rw[b3 u Gq];show hM,hN _ _ #[ss++ [⟨#[c]⟩],by rw[aA];rfl,by simp[hl],λx hx=> ?_,by rw[am],D3.RA Gq nul]];obtain h | h:=a9.mp hx;show hs x h;rw[be.mp h];show#[ac,rfl];rintro ys M' ⟨ss,rfl,hl,hs,hM,D2⟩;rw[jD] at hl;exact qP hM (c:=1) (λx hx=>by rw[(hs x hx).2];show aq _) (bg (by
  have:(Str.ofString "").length=0:=by right
  rw[this];omega)) ?_
 have Uy:(Builtin.Str.glued (Str.ofString "") ss).length<=10:=ar (gb _ ss (c:=1) λx hx=>by rw[(hs x hx).2];show aq _) (by
  have:(Str.ofString "").length=0:=by right
  rw[this];omega)
 have ha0:gQ (Builtin.Str.glued (Str.ofString "") ss):=Lb (by right) λx hx=>(hs x hx).1;generalize Builtin.Str.glued (Str.ofString "") ss=bo at Uy ha0;have hbz:(bo.length<=sizeLine)=True:=au (bg (by omega));clear hM hs hl hu b1 D1;dsimp?! [hbz];exact#[d,l,_,rfl,D2,by omega,by omega,λcu M3 c0 c1 D3 b3=> ?_];dsimp?! [];exact#[d,l,26,rfl,D3,⋯,⋯,λsta M4 s0 s1 D4 b4=> ?_];dsimp?! [];intro v hv;let⟨nvd,nvl⟩:=D4.ne hv;dsimp?! [];exact#[#[by omega,by omega],jO (λi ρ M'=>eQ λ(o1 o2:e9 W) (ns:cA Str)=>gm (ρ= [some (wr d),some (wi m),some (ws zT),some (ws bo),some (wi cu),some (wi sta),some (wr v),o1,o2]) (ns.length=i) (∀n∈ns,Nm n) (M' v=some (.lst (ns.map ws))) (Dr M' d l)) #[none,none,[],rfl,rfl,by simp,am,D4.put hv] (λ_ _ _ _ _=>trivial) ?_ ?_];rintro i x ρ M5 hx ⟨o1,o2,ns,rfl,hl,tP,hM,D5⟩ N hN;let⟨hi,rfl⟩:=jE hx;have cm:nh 7 (0+(i:Int))=True:=au (.inl #[by omega,by omega]);have h26:((0:Int) <26)=True:=au ⋯;let⟨c,hc,ac⟩:=JJ (i:=(sta+7*(0+(i:Int))) % 26) (by omega) (by omega);dsimp?! [cm,h26,hLz,hc];exact#[d,l,2,rfl,D5,⋯,⋯,λr M6 r0 r1 D6 b6=> ?_];dsimp?! [];let⟨w,rfl⟩:=Int.eq_ofNat_of_zero_le r0;exact#[⟨#[c]⟩,1+w,rfl,by push_cast;rfl,by omega,by change 1<=1000;decide,?_];have tl:=FP (x:=⟨#[c]⟩) (n:=1+w);have tl':(iC ⟨#[c]⟩ (1+w)).length<=2:=ar tl (by change(1+w)*1<=2;omega);have l1:=Txt.slice_le bo none (some cu);have l2:=Txt.slice_le bo (some cu) none;have z1:((Txt.slice bo none (some cu)).length+(iC ⟨#[c]⟩ (1+w)).length<=sizeLine)=True:=au (bg (by omega));have z2:(((Txt.slice bo none (some cu))++(iC ⟨#[c]⟩ (1+w))).length+(Txt.slice bo (some cu) none).length<=sizeLine)=True:=au (bg (by rw[bz];omega));have NV:M6 v=some (.lst (ns.map ws)):=by rw[b6 v nvd];show hM
 have hls:((ns.map ws).length<sizeLine)=True:=au (kh (by rw[af];omega));dsimp?! [hbz,z1,z2,NV,hls];exact hN _ _ #[_,_,ns++ [Txt.slice bo none (some cu)++iC ⟨#[c]⟩ (1+w)++Txt.slice bo (some cu) none],rfl,by simp[hl],λn hn=> ?_,by rw[am,aA];rfl,D6.RA nvd nvl];obtain h | h:=a9.mp hn;show tP n h;rw[be.mp h];show#[Nm.app (Nm.app (BF ha0) (La ac)) (BF ha0),by rw[bz,bz];omega];rintro ρ M5 ⟨o1,o2,ns,rfl,hl,tP,hM,D5⟩;rw[jD] at hl;dsimp?! [];show dY (k v ns M5 hM (by omega) tP nvd nvl D5)
def o_ {K:WV}(T:fg K mg A):bD P w K mg base fi 1 A.r_ A.sw ["_law_name"] (fK K MV):=by
 exists T.qL.fn,["_law_name","_law_good"],(ag (1\(bh (iz rfl) (by rfl) T.yg Boot.«all» (aa (dy rfl (cU.of (sc:=_) (N:= ["_law_name","_law_good"]) (own:= ["_law_sign"]) (fr:= []) (N':= ["_law_sign"])) (Je (pv 0)) (λ_ _ _ _=>(aX (i:=0) (by change(["_law_sign"]:cA Str).Nodup;decide+kernel) rfl (by trivial))) ed (λ_ _ _ _=>dw) (λ_ _ _ _=>(im RY (pv 0) ay (by rfl)))) ae))) (aj (aE (yP (pv 1) (uO (Jg o0 o0 ai (bh rA (by rfl) T.gN Boot.«len» (aa (pv 0) ae)) ai))))))
 rintro vs M q ⟨n,rfl,hn,k⟩;have hz:n.length<=sizeLine:=bg (by have:=hn.len;omega);have Ka:(n.length<=sizeLine)=True:=au hz;have ha:=hn.as;dsimp?! [Ka,ha];exact e8 (λc=>wb (BZ c zT)) (by unfold BY;rw[af, <- str_len];show hz) (λ_ _=>trivial) ?_ λu hu=> ?_;intro c hc M3 N3 s3 jo;dsimp?! [];show jo;exact#[u,(BY n).map λc=>BZ c zT,rfl,by rw[am,aZ];rfl,?_];have e3:((BY n).map λc=>BZ c zT).all id=(BY n).all λc=>BZ c zT:=by rw[List.all_map];rfl
 rw[e3];have ek:ci n=(decide (1<=n.length) && decide (n.length<=12) && (BY n).all λc=>BZ c zT):=rfl;dsimp?! [Ka];cases hA:(BY n).all λc=>BZ c zT with
 | false=>rw[hA,Bool.and_false] at ek;rw[ek] at k;dsimp?! [];show#[M,a5 hu,k]
 | true=>rw[hA,Bool.and_true] at ek;dsimp?! [Ka];by_cases h1:1<=n.length;have e1:decide (1<=(n.length:Int))=true:=a6 (by omega);have e2:decide ((n.length:Int) <=12)=decide (n.length<=12):=decide_eq_decide.mpr (by omega);rw[a6 h1,Bool.true_and] at ek;rw[ek] at k;dsimp?! [e1,e2];show#[M,a5 hu,k];have e1:decide (1<=(n.length:Int))=false:=aF (by omega);rw[aF h1,Bool.false_and] at ek;rw[ek] at k;dsimp?! [e1];show#[M,a5 hu,k]
def uW {K:WV}(T:fg K mg A):bD P w K mg base fi 1 A.Fe A.Fv ["_law_one","_law_most","_law_reach"] (fK K V'):=by
 exists T.EM.fn,["_law_one","_law_most","_law_reach"],(aj (aE (V1 (im Jr (bh fS (by rfl) T.sN Boot.«abs» (aa ((pv 0)∪ai) ae)) (pv 1) (a7 _)) (uO (Cw (bh (iz rfl) (by rfl) T.yg Boot.«all» (aa (dy rfl (cU.of (sc:=_) (N:= ["_law_one","_law_most","_law_reach"]) (own:= ["_law_place","_law_setting"]) (fr:= [2]) (N':= ["_law_place","_law_setting","_law_reach"])) (jZ (K:=K) rfl ((pv 0)∪ai)) (λ_ _ _ _=>(d9 (n:=2) rfl (bp (aX (i:=0) (by change(["_law_place","_law_setting","_law_reach"]:cA Str).Nodup;decide+kernel) rfl (by trivial)) (bp (aX (i:=1) (by change(["_law_place","_law_setting","_law_reach"]:cA Str).Nodup;decide+kernel) rfl (by trivial)) dj)))) gc (λ_ _ _ _=>dw) (λ_ _ _ _=>(im o0 (bh fS (by rfl) T.sN Boot.«abs» (aa (pv 0) ae)) (pv 2) (a7 _)))) ae)))))))
 rintro vs M q ⟨a,m,r,rfl,hl,k⟩;have ef:gl a m r= !(decide ((if a.1<0 then -a.1 else a.1) <=m) && a.2.all λz=>decide ((if z.1<0 then -z.1 else z.1) <=r)):=rfl;dsimp?! [gv,gj];by_cases h1:(if a.1<0 then -a.1 else a.1) <=m;have e1:decide (m<if a.1<0 then -a.1 else a.1)=false:=aF (by omega);rw[a6 h1,Bool.true_and] at ef;rw[ef] at k;dsimp?! [e1];exact e8 (λz=>wb (decide ((if z.1<0 then -z.1 else z.1) <=r))) (big (by omega)) (λ_ _=>trivial) ?_ λu hu=> ?_;intro z hz M3 N3 s3 jo;dsimp?! [bV];show jo;exact#[u,a.2.map λz=>decide ((if z.1<0 then -z.1 else z.1) <=r),rfl,by rw[am,aZ];rfl,?_];rw[List.all_map];dsimp?! [];show#[M,a5 hu,k];have e1:decide (m<if a.1<0 then -a.1 else a.1)=true:=a6 (by omega);rw[aF h1,Bool.false_and] at ef;rw[ef] at k;dsimp?! [e1];show dY k
def CD {K:WV}(T:fg K mg A):bD P w K mg base fi 5 A.xL A.xT ["_law_p_here","_law_rounds","_law_deed"] (fK K RK):=by
 exists T.EH.fn,["_law_p_here","_law_rounds","_law_deed"],(ag (bi (aQ cX ((pv 2)∪ai) ay (a7 _)) (aj (aE (ax T.JM (Gi T) hr (aa (pv 0) (aa ((pv 2)∪ai) ae))))) aK) (ag (bi (aQ cX ((pv 2)∪ai) ay (a7 _)) (aj (aE (ax T.JO (Gk T) hr (aa (pv 0) (aa (eK (dU hr) (pv 1) (((pv 2)∪ai)∪ai) (λ_ _=>rfl)) (aa (eK (dU hr) (pv 1) (((pv 2)∪ai)∪ai) (λ_ _=>rfl)) ae)))))) aK) (aj (aE (ax T.EI (CF T) hr (aa (pv 0) (aa (eK (dU hr) (pv 1) (((pv 2)∪ai)∪ai) (λ_ _=>rfl)) (aa ((pv 2)∪ai) ae))))))))
 rintro vs M q ⟨p,r,R,dd,w,rfl,hp,iO,hR,hD,hO,Hr,k⟩;have p0:0<p:=by omega
 have p1:p<1000:=by omega
 have s1:decide (("tell" :Str)= "tell")=true:=by right
 have s2:decide (("join" :Str)= "tell")=false:=by right
 have s3:decide (("join" :Str)= "join")=true:=by right
 have s4:decide (("back" :Str)= "tell")=false:=by right
 have s5:decide (("back" :Str)= "join")=false:=by right
 have s6:decide (("times" :Str)= "tell")=false:=by right
 have s7:decide (("times" :Str)= "join")=false:=by right
 cases dd with
 | tell n ds=>let⟨c,rfl,hc⟩:=hD;let⟨hn,hds,hw⟩:=hO;dsimp?! [s1,bI];exact#[c,p,ds,rfl,hc,p0,C7,by omega,?_];dsimp?! [];show dY (k _ rfl (f_ p0 _) (ar (jd _ _) (ar (jz _) (by omega))))
 | join n x y=>
  cases hD;rw[i7] at Hr k;cases hx:cw R x with
  | none=>rw[hx] at Hr;cases Hr
  | some a1=>
  cases hy:cw R y with
  | none=>rw[hx,hy] at Hr;cases Hr
  | some a2=>
  rw[hx,hy] at k;let⟨z,hz,_,rfl⟩:=d4 hx;let⟨z2,NJ,_,rfl⟩:=d4 hy;have l1:=(hR.ok z hz).2.1;have l2:=(hR.ok z2 NJ).2.1;dsimp?! [s2,bI,iO,cF,hx,hy,bB,bI];show#[p,z.2,z2.2,rfl,p0,C7,by omega,by omega,lx (hR.ok z2 NJ).1 p1,dY (k _ rfl (SF p0 _ _) (ar (JY _ _ _) (by omega)))]
 | back n x=>
  cases hD;rw[i7] at Hr k;cases hx:cw R x with
  | none=>rw[hx] at Hr;cases Hr
  | some a1=>
  rw[hx] at k;let⟨z,hz,_,rfl⟩:=d4 hx;have l1:=(hR.ok z hz).2.1;dsimp?! [s4,s5,iO,cF,hx,bB];exact#[p,z.2, -1,rfl,p0,p1,(hR.ok z hz).1,by omega,λ_=>#[by omega,by omega,by change z.2.2.length*1<=100000;omega],λr hr h0 h1=>dY (k _ (by rw[bB,Eh p0 hr]) hr.pt ?_)];by_cases SN:z.2.1=0;have:=h0 SN;omega
  .have:=h1 SN;try simp![Int.natAbs_neg,Int.natAbs_one,Nat.mul_one] at this
   omega
 | times n x j=>
  cases hD;let⟨hn,W4,j0,j1⟩:=hO;rw[i7] at Hr k;cases hx:cw R x with
  | none=>rw[hx] at Hr;cases Hr
  | some a1=>
  rw[hx] at k;let⟨z,hz,_,rfl⟩:=d4 hx;have l1:=(hR.ok z hz).2.1;have l3:z.2.2.length*j.natAbs<=401*100:=Nat.mul_le_mul l1 (by omega);dsimp?! [s6,s7,iO,cF,hx,bB];exact#[p,z.2,j,rfl,p0,p1,(hR.ok z hz).1,by omega,λ_=>#[by omega,by omega,by omega],λr hr h0 h1=>dY (k _ (by rw[bB,Eh p0 hr]) hr.pt ?_)];by_cases SN:z.2.1=0;have:=h0 SN;omega
  .have:=h1 SN;try simp![Int.natAbs_neg,Int.natAbs_one,Nat.mul_one] at this
   omega
 | drop n=>cases Hr
def uX {K:WV}(T:fg K mg A):bD P w K mg base fi 6 A.nB A.nG ["_law_p_here","_law_stand","_law_deed"] (fK K V_):=by
 exists T.rR.fn,["_law_p_here","_law_stand","_law_deed","_law_rounds","_law_used","_law_one"],(ag (3\(ca kf (by rfl) T.zB Boot.«dict» (aa ((pv 1)∪ai) ae))) (ag (4\(Cw (bh (iz rfl) (by rfl) T.yg Boot.«all» (aa (Et (dy rfl (cU.of (sc:=_) (N:= ["_law_p_here","_law_stand","_law_deed","_law_rounds","_law_used","_law_one"]) (own:= ["_law_crew"]) (fr:= [2,1]) (N':= ["_law_crew","_law_deed","_law_stand"])) (ML ((pv 1)∪ai)) (λ_ _ _ _=>(aX (i:=0) (by change(["_law_crew","_law_deed","_law_stand"]:cA Str).Nodup;decide+kernel) rfl (by trivial))) ed (λ_ _ _ _=>dw) (λ_ _ _ _=>(im (mS (K:=K) rfl) ((pv 1)∪ai) (Jf (dU hr) ((pv 2)∪ai) (pv 0) (λ_ _=>rfl)) (by rfl))))) ae)))) (ag (bi (aQ cX ((pv 2)∪ai) ay (a7 _)) (ag (bi (nS (jI (dU hr) ((pv 2)∪ai) (pv 3))) (aj (aE (aJ (aa ay (aa (pv 1) ae))))) aK) (ag (bi (dE (pv 4)) (aj (aE (aJ (aa ay (aa (pv 1) ae))))) aK) (ag (bF (Ay (pv 3) ((pv 2)∪ai) #[by rfl,by rfl,by rfl,by rfl])) (aj (aE (aJ (aa ay (aa (aJ (aa (pv 3) (aa ((pv 1)∪ai) ae))) ae)))))))) aK) (ag (bi (dS (dE (ax T.qL (o_ T) hr (aa ((pv 2)∪ai) ae)))) (aj (aE (aJ (aa ay (aa (pv 1) ae))))) aK) (ag (bi (nR (aQ cX ((pv 2)∪ai) ay (a7 _)) (jY (dS (dE (bh (iz rfl) (by rfl) T.yg Boot.«all» (aa (dy rfl (cU.of (sc:=_) (N:= ["_law_p_here","_law_stand","_law_deed","_law_rounds","_law_used","_law_one"]) (own:= ["_law_word","_law_number"]) (fr:= []) (N':= ["_law_word","_law_number"])) (Es (K:=K) rfl ((pv 2)∪ai)) (λ_ _ _ _=>(d9 (n:=2) rfl (bp (aX (i:=0) (by change(["_law_word","_law_number"]:cA Str).Nodup;decide+kernel) rfl (by trivial)) (bp (aX (i:=1) (by change(["_law_word","_law_number"]:cA Str).Nodup;decide+kernel) rfl (by trivial)) dj)))) gc (λ_ _ _ _=>dw) (λ_ _ _ _=>(im (uS (K:=K) rfl) (pv 0) (aJ (aa ay (aa ay ae))) (by rfl)))) ae)))))).pt (aj (aE (aJ (aa ay (aa (pv 1) ae))))) aK) (ag (bi (nR (aQ oZ ((pv 2)∪ai) ay (a7 _)) (jY (dS (dE (bh (iz rfl) (by rfl) T.yg Boot.«all» (aa (dy rfl (cU.of (sc:=_) (N:= ["_law_p_here","_law_stand","_law_deed","_law_rounds","_law_used","_law_one"]) (own:= ["_law_name"]) (fr:= [3]) (N':= ["_law_name","_law_rounds"])) (Es (K:=K) rfl ((pv 2)∪ai)) (λ_ _ _ _=>(aX (i:=0) (by change(["_law_name","_law_rounds"]:cA Str).Nodup;decide+kernel) rfl (by trivial))) ed (λ_ _ _ _=>dw) (λ_ _ _ _=>(RG (Cy (dU hr) (pv 0) (pv 1))))) ae)))))).pt (aj (aE (aJ (aa ay (aa (pv 1) ae))))) aK) (ag (5\(ax T.EH (CD T) hr (aa (pv 0) (aa (pv 3) (aa (pv 2) ae))))) (ag (bi (kG (dE (ax T.EM (uW T) hr (aa (pv 5) (aa ai (aa ai ae))))) (iK (nR (dE (pv 4)) (jY (dE (ax T.EM (uW T) hr (aa (pv 5) (aa ai (aa ai ae))))))).pt)).pt (aj (aE (aJ (aa ay (aa (pv 1) ae))))) aK) (ag (mQ (dU hr) (pv 3) ((pv 2)∪ai) (pv 5) rfl) (aj (aE (aJ (aa ay (aa (aJ (aa (pv 3) (aa ((pv 1)∪ai) ae))) ae))))))))))))))
 rintro vs M q ⟨p,r,t,R,T',dd,w,rfl,hp,⟨iO,ht⟩,⟨hR,hT⟩,hD,hO,kq,ke⟩;have p0:0<p:=by omega
 have rH:decide (("tell" :Str)= "drop")=false:=by right
 dsimp?! [iO];intro u hu;have hsz:((xp R).length<sizeLine)=True:=au (kh (by rw[oy];have:=hR.len;omega));have A2:um M u (.dK (xp R)) t=some (.dK (qg T')):=by rw[aP (bY ht hu)];show ht
 dsimp?! [];exact#[t,_,A2,?_];dsimp?! [A2];intro o ks;have dv: ∃cQ,w= .tup (ws (kdOf dd)::ws (gk dd)::cQ):=by
  cases dd with
  | tell n ds=>let⟨c,rfl,hc⟩:=hD;show#[_,rfl]
  | _=>cases hD;show#[_,rfl]
 let⟨cQ,ew⟩:=dv;have e1:gP (ws (kdOf dd)::ws (gk dd)::cQ) 1=some (ws (gk dd)):=gd ⋯ rfl;have ek:(qg T').map (λkv=>iY kv.1)=T'.map λz=>ws z.1:=by unfold qg sT;rw[aZ];rfl
 rw[ek];exact e8 (λz=>wb (!rW (gk dd) z.2)) (big (by have:=hT.len;omega)) (λM2 s2=>s2 _ _ am) ?_ λv hv=> ?_;intro z hz M3 N3 s3 jo;have h3:=s3 _ _ am;dsimp?! [ew,e1,h3,cF,zk hT.nd hz,bB];show nW jo;have nvt:t≠v:=bY am hv;exact#[o,ks,_,by rw[aP nvt];show am,v,T'.map λz=> !rW (gk dd) z.2,rfl,by rw[aP nvt.symm,am,aZ];rfl,?_];have eu:(!(T'.map λz=> !rW (gk dd) z.2).all id)=sS T' (gk dd):=by rw[List.all_map,List.not_all_eq_any_not];unfold sS;congr 1;funext z;simp
 have s1:=DM (l:= .lst (T'.map λz=>wb (!rW (gk dd) z.2))) A2 hv;generalize um (um (um (um M u (.dK (xp R))) t (.fz o ks (qg T'))) v (.lst (T'.map λz=>wb (!rW (gk dd) z.2)))) t (.dK (qg T'))=M1 at s1;generalize wK:(T'.map λz=> !rW (gk dd) z.2).all id=G5 at eu;have m7:M1 u=some (.dK (xp R)):=s1 _ _ am;have st:Sm M M1:=(a5 hu).trans s1;have L1:=hD.sm st;clear hv nvt s1 A2 e1 wK ek;by_cases wH:Um dd
 .obtain⟨k1,k2,k3⟩:=kdn wH;let⟨tail,rfl⟩:=dvn L1 wH;dsimp?! [k1,k2,k3,aG];exact#[_,rfl,nmn wH hO,?_];cases jm:ci (gk dd) with
  | false=>dsimp?! [aU];show#[M,st,ke .BadName (EC jm (λ_ z=>by subst z;cases wH))]
  | true=>
  dsimp?! [aG,k1,k2,k3,bI];exact e8 (l:=jv dd) (fW:=ws) (λz=>wb (cw R z).isSome) (big (by have:=QB dd;omega)) (λ_ _=>trivial) ?_ λv hv=> ?_;intro z hz M3 N3 s3 jo;dsimp?! [s3 _ _ m7,cF,bW];show jo;exact#[v,(jv dd).map λz=>(cw R z).isSome,rfl,by rw[am,aZ];rfl,?_];have st:=st.trans (a5 hv (o:= .lst ((jv dd).map λz=>wb (cw R z).isSome)));have m7:um M1 v (.lst ((jv dd).map λz=>wb (cw R z).isSome)) u=some (.dK (xp R)):=by rw[aP (bY m7 hv)];show m7
  replace L1:=L1.sm (a5 hv (o:= .lst ((jv dd).map λz=>wb (cw R z).isSome)));generalize um M1 v (.lst ((jv dd).map λz=>wb (cw R z).isSome))=M1 at st m7 L1;clear hv;have ea:((jv dd).map λz=>(cw R z).isSome).all id=(jv dd).all λz=>(cw R z).isSome:=by rw[List.all_map];rfl
  have Kl: ∀n' Tp,dd= .tell n' Tp ->jp Tp=true:=λ_ _ z=>by subst z;cases wH
  rw[ea];cases wK:(jv dd).all λz=>(cw R z).isSome with
  | false=>dsimp?! [aU];show#[M,st,ke .NoRound (Wl wH jm wK)]
  | true=>
  have Kc:=Mo (p:=p) wH wK;dsimp?! [aG];exact#[p,u,R,_,_,rfl,hp,m7,hR,L1,hO,Kc,λa ha hP hl=> ?_];have ho:=Jw (T:=T') (dd:=dd) p0 jm Kl ha;dsimp?! [];exact#[a,200,200,rfl,hl,?_];cases hf:gl a 200 200 with
  | true=>dsimp?! [];show#[M,st,ke .TooFar (by rw[ho,jK,ao (by unfold dm;rw[hf];rfl)])]
  | false=>
   cases xD:sS T' (gk dd) with
   | false=>
    have Kz:(!G5)=false:=eu.trans xD;have n8:dm T' (gk dd) a=false:=by unfold dm;rw[hf,xD];rfl
    have zi:=ho.trans (ak (by change ¬dm T' (gk dd) a=true;rw[n8];decide));dsimp?! [Kz,m7,hsz];exact#[_,Sm.refl _,kq _ zi #[hR,λrY=>hR.put rY hP n8] u _ (st.um hu) hu ?_];rw[am,gB]
   | true=>
    have Kz:(!G5)=true:=eu.trans xD;dsimp?! [Kz];exact#[a,8,24,rfl,hl,?_];cases LY:gl a 8 24 with
    | true=>dsimp?! [];show#[M,st,ke .TooFar (by rw[ho,jK,ao (by unfold dm;change(gl a 200 200 || (sS T' (gk dd) && gl a 8 24))=true;rw[hf,xD,LY];rfl)])]
    | false=>
     have n8:dm T' (gk dd) a=false:=by unfold dm;rw[hf,xD,LY];rfl
     have zi:=ho.trans (ak (by change ¬dm T' (gk dd) a=true;rw[n8];decide));dsimp?! [m7,hsz];exact#[_,Sm.refl _,kq _ zi #[hR,λrY=>hR.put rY hP n8] u _ (st.um hu) hu ?_];rw[am,gB]
 cases dd with
 | join n x y=>show absurd trivial wH
 | back n x=>show absurd trivial wH
 | times n x k=>show absurd trivial wH
 | tell n ds=>
  let⟨c,rfl,hc⟩:=L1;let⟨hn,hds,hw⟩:=id hO;have L1:DV M1 (.tell n ds) (.tup [ws "tell",ws n,wr c]):=#[c,rfl,hc]
  dsimp?! [rH,hc,aG];exact#[n,rfl,hn,?_];cases jm:ci n with
  | false=>dsimp?! [aU];show#[M,st,ke .BadName (EC jm (λ_ z=>nomatch z))]
  | true=>
  dsimp?! [aG,rH,hc,bI,hc];exact e8 (l:=ds) (fW:=fV) (λz:Str×Int=>wb (decide (z.1= "go") || decide (z.1= "turn"))) (big (by omega)) (λM2 s2=>s2 _ _ hc) ?_ λv hv=> ?_;intro z hz M3 N3 s3 jo;dsimp?! [fV];show#[.str z.1,[.str "go", .str "turn"],rfl, .inl rfl,rfl,rfl,by rw[WY];show jo];exact#[v,ds.map λz:Str×Int=>(decide (z.1= "go") || decide (z.1= "turn")),rfl,by rw[am,aZ];rfl,?_];have eg:(ds.map λz:Str×Int=>(decide (z.1= "go") || decide (z.1= "turn"))).all id=jp ds:=by rw[List.all_map];rfl
  rw[eg];have st:=st.trans (a5 hv (o:= .lst (ds.map λz:Str×Int=>wb (decide (z.1= "go") || decide (z.1= "turn")))));have m7:um M1 v (.lst (ds.map λz:Str×Int=>wb (decide (z.1= "go") || decide (z.1= "turn")))) u=some (.dK (xp R)):=by rw[aP (bY m7 hv)];show m7
  have hc:um M1 v (.lst (ds.map λz:Str×Int=>wb (decide (z.1= "go") || decide (z.1= "turn")))) c=some (.lst (ds.map fV)):=by rw[aP (bY hc hv)];show hc
  generalize um M1 v (.lst (ds.map λz:Str×Int=>wb (decide (z.1= "go") || decide (z.1= "turn"))))=M1 at st m7 hc;have L1:DV M1 (.tell n ds) (.tup [ws "tell",ws n,wr c]):=#[c,rfl,hc]
  cases Uv:jp ds with
  | false=>dsimp?! [aU];show#[M,st,ke .NoDeed (by rw[cC,ak (by rw[jm];decide),ao Uv])]
  | true=>
  have Kl: ∀n' Tp,dR.tell n ds= .tell n' Tp ->jp Tp=true:=λ_ _ z=>by cases z;show Uv
  have Kc:(i7 p R (.tell n ds)).isSome=true:=rfl;have nt:(("tell" :Str)≠ "tell")=False:=by simp
  dsimp?! [aG,nt,decide_false,ne_eq,not_true,not_true_eq_false];exact#[p,u,R,_,_,rfl,hp,m7,hR,L1,hO,Kc,λa ha hP hl=> ?_];have ho:=Jw (T:=T') (dd:= .tell n ds) p0 jm Kl ha;dsimp?! [];exact#[a,200,200,rfl,hl,?_];cases hf:gl a 200 200 with
  | true=>dsimp?! [];show#[M,st,ke .TooFar (by rw[ho,jK,ao (by unfold dm;rw[hf];rfl)])]
  | false=>
   cases xD:sS T' n with
   | false=>
    have Kz:(!G5)=false:=eu.trans xD;have n8:dm T' n a=false:=by unfold dm;rw[hf,xD];rfl
    have zi:=ho.trans (ak (by change ¬dm T' n a=true;rw[n8];decide));dsimp?! [Kz,m7,hsz];exact#[_,Sm.refl _,kq _ zi #[hR,λrY=>hR.put rY hP n8] u _ (st.um hu) hu ?_];rw[am,gB];rfl
   | true=>
    have Kz:(!G5)=true:=eu.trans xD;dsimp?! [Kz];exact#[a,8,24,rfl,hl,?_];cases LY:gl a 8 24 with
    | true=>dsimp?! [];show#[M,st,ke .TooFar (by rw[ho,jK,ao (by unfold dm;change(gl a 200 200 || (sS T' n && gl a 8 24))=true;rw[hf,xD,LY];rfl)])]
    | false=>
     have n8:dm T' n a=false:=by unfold dm;rw[hf,xD,LY];rfl
     have zi:=ho.trans (ak (by change ¬dm T' n a=true;rw[n8];decide));dsimp?! [m7,hsz];exact#[_,Sm.refl _,kq _ zi #[hR,λrY=>hR.put rY hP n8] u _ (st.um hu) hu ?_];rw[am,gB];rfl
 | drop n=>
  cases L1;dsimp?! [bI,m7,cF,bW];cases hx:cw R n with
  | none=>dsimp?! [db,aU];show#[M,st,ke .NoRound (by rw[cC,hx])]
  | some a1=>
   cases xD:sS T' n with
   | true=>have Kz:(!G5)=true:=eu.trans xD;dsimp?! [cj,aG,Kz];show#[M,st,ke .InUse (by rw[cC,hx];show ao xD)]
   | false=>have Kz:(!G5)=false:=eu.trans xD;dsimp?! [cj,aG,Kz,m7,cF,hx,bB];exact#[_,Sm.refl _,kq (oa R n) (by rw[cC,hx];show ak (by rw[xD];decide)) #[hR,λ_=>hR.del] u _ (st.um hu) hu ?_];rw[am,pO]
def io {K:WV}(T:fg K mg A):bD P w K mg base (iV P w) 1 A.sq A.sE ["self","crew"] (t_ K (V3 A.aW A.bq A.eB)):=by
 have cl:=au T.Book.cl;have rq:=au T.Page.cl;have n2:=au T.n_Book_now;have n4:=au T.n_Page_teams;exact y9 T.jT.fn oF (by rintro vs M q e ⟨b,la,lu,lh,now,p,pa,un,he,R,T',n,rfl,_⟩;rfl) λcdv A' outer s H E e hr hF hP=> ?_;have nd:=oF.nd;exact#[_,(ag (bi (nS (jI (dU hr) (pv 1) (bw (K:=K) rfl (bw (K:=K) rfl (pv 0) rfl) rfl))) (aj (dn hF rfl (by rfl) T.zW (aa (eJ (bK ay (bK (gX (pv 1)) fD))) ae))) aK) (aj (aE (eK (dU hr) (bw (K:=K) rfl (bw (K:=K) rfl (pv 0) rfl) rfl) (pv 1) (λ_ _=>rfl))))),?_];try dsimp only[eI]
 exact#[_,inferInstance,?_];rintro vs M q ⟨b,la,lu,lh,now,p,pa,un,he,R,T',n,rfl,hB,hl,kq,ke⟩;let⟨dx,hb⟩:=hB.ob;let⟨lj,r,t,h1,h2,h3⟩:=hB.pg;dsimp?! [hb,h1,h3,cl,rq,n2,n4,ip,nT,cF];cases hg:cw T' n with
 | some a=>dsimp?! [bB,cj,aG];dsimp?! [hb,h1,h3,cl,rq,n2,n4,ip,nT,cF,hg,bB];show dY (kq a hg)
 | none=>dsimp?! [Option.map_none,db,aU];(repeat (exact#[by first | decide | decide+kernel | show bg (by omega) | show Qn (by right) hl | show Qm (by right) hl (by right),?_]));show#[M,Sm.refl M,ke hg]
def kI {K:WV}(T:fg K mg A):bD P w K mg base (iV P w) 2 A.l_ A.mB ["self","crew"] (t_ K (Jo A.aW A.bq A.eB)):=by
 exact y9 T.kj.fn ko (by rintro vs M q e ⟨b,la,lu,lh,now,p,pa,un,he,R,T',n,rfl,_⟩;rfl) λcdv A' outer s H E e hr hF hP=> ?_;have nd:=ko.nd;exact#[_,(aj (aE (ca eV (by rfl) T.gZ Boot.«list» (aa (cr hP T.jT (io T) (hr.mono ⋯) (pv 0) (aa (pv 1) ae)) ae)))),?_];try dsimp only[eI]
 exact#[_,inferInstance,?_];rintro vs M q ⟨b,la,lu,lh,now,p,pa,un,he,R,T',n,rfl,hB,hl,kq,ke⟩;let⟨dx,hb⟩:=hB.ob;dsimp?! [hb,ut];exact#[b,la,lu,lh,now,p,pa,un,he,R,T',n,rfl,hB,hl,λa hg=> ?_,λhg=>#[M,Sm.refl M,ke hg]];dsimp?! [fk];show λu hu=>dY (kq a hg u hu)
def gx {K:WV}(T:fg K mg A):bD P w K mg base fi 3 A.kP A.kY ["self","crew","team"] (fK K (Jm A.aW A.bq)):=by
 have cl:=au T.Book.cl;have rq:=au T.Page.cl;have n2:=au T.n_Book_now;have n3:=au T.n_Page_teams;have n4:=au T.n_Page_rounds;exists T.gE.fn,["self","crew","team"],(aj (bF (ez T.fw (eZ T) (hr.mono ⋯) (pv 0) (aa (jG T.Page (pe T) (hr.mono ⋯) (by rfl) (aa (bw (K:=K) rfl (bw (K:=K) rfl (pv 0) rfl) rfl) (aa (ax T.with_thing (nv T) hr (aa (bw (K:=K) rfl (bw (K:=K) rfl (pv 0) rfl) rfl) (aa (pv 1) (aa (pv 2) ae)))) ae))) ae))))
 rintro vs M q ⟨b,la,lu,lh,now,p,pa,un,he,R,T',c,l,rfl,hB,hPa,hT,k⟩;let⟨dx,hb⟩:=hB.ob;let⟨lj,r,t,h1,h2,h3⟩:=hB.pg;dsimp?! [hb,gz];rw[mM];dsimp?! [hb,h1,cl,rq,n2,n3,n4,ip,nT,qB];exact#[t,_,c,_,rfl,h3,by rw[oy];omega,λu hu=> ?_];intro pg zr mU LZ lT;rw[gB] at mU ⊢;exact#[pg,zr,r,u,rfl,am,rfl,?_];rw[kl];have s2:=(a5 hu (o:= .dK (sT fk (gV T' c l)))).trans (a5 mU (o:= .ins A.bq zr (lK r u)));have Nk:=bY am mU;show#[b,la,lu,lh,now,pg,p,pa,un,he,R,T',R,_,rfl,hB.sm s2,#[zr,r,u,am,s2 _ _ h2,by rw[aP Nk];show am],by omega,λM' eL B' F zR=>dY (k M' eL pg B' (F.sm s2) (s2.free zR) ((a5 hu).free mU))]
def wD {K:WV}(T:fg K mg A):bD P w K mg base (iV P w) 4 A.pM A.pZ ["self","crew"] (t_ K (ug A.aW A.bq (vR A) Tl)):=by
 have cl:=au T.Book.cl;have rq:=au T.Page.cl;have n2:=au T.n_Book_now;have n3:=au T.n_Page_teams;exact y9 T.wg.fn nn (by rintro vs M q e ⟨b,la,lu,lh,now,p,pa,un,he,R,T',dd,ys,rfl,⟨c,rfl,_⟩,_⟩;rfl) λcdv A' outer s H E e hr hF hP=> ?_;have nd:=nn.nd;exact#[_,(ag (bF (iu hP T.check_name (fG T) (hr.mono ⋯) (by rfl) (aa (pv 1) ae))) (ag (bi (nS (Cy (dU hr) (pv 1) (bw (K:=K) rfl (bw (K:=K) rfl (pv 0) rfl) rfl))) (aj (dn hF rfl (by rfl) T.yn (aa (eJ (bK ay (bK (gX (pv 1)) fD))) ae))) aK) (aj (bF (ez T.gE (gx T) (hr.mono ⋯) (pv 0) (aa (pv 1) (aa (aJ ae) ae))))))),?_];try dsimp only[eI]
 exact#[_,inferInstance,?_];rintro vs M q ⟨b,la,lu,lh,now,p,pa,un,he,R,T',dd,ys,rfl,⟨c,rfl,rfl⟩,hc,hB,hS,hT,kq,ke⟩;let⟨dx,hb⟩:=hB.ob;let⟨lj,r,t,h1,h2,h3⟩:=hB.pg;have k9:=hc.len;have up: ∀C,e C M ->WL.up e C M:=λC h=>#[M,Sm.refl M,h]
 dsimp?! [];exact#[c,rfl,hc.as,hc.len,λjm=> ?_,λjm=>up _ (ke .BadName (by rw[cG,ao jm]))];have nZ:¬ci c=false:=by rw[jm];decide
 dsimp?! [hb,h1,h3,cl,rq,n2,n3,ip,nT,cF,bW];cases hg:cw T' c with
 | some l=>dsimp?! [cj];(repeat (exact#[by first | decide | decide+kernel | show bg (by omega) | show Qn (by right) k9 | show Qm (by right) k9 (by right),?_]));show up _ (ke .Taken (by rw[cG,ak nZ,hg]))
 | none=>dsimp?! [db,hb,mH];show#[b,la,lu,lh,now,p,pa,un,he,R,T',c,[],rfl,hB,hS.pa,hS.t,λM' eL pg B' F h1 h2=>dY (kq _ (by rw[cG,ak nZ,hg]) M' eL pg B' F h1 h2)]
def s_ {K:WV}(T:fg K mg A):bD P w K mg base (iV P w) 3 A.mf A.mE ["self","crew"] (t_ K (ug A.aW A.bq (vR A) Kx)):=by
 have cl:=au T.Book.cl;have rq:=au T.Page.cl;have n2:=au T.n_Book_now;have n3:=au T.n_Page_teams;have n4:=au T.n_Page_rounds;exact y9 T.qe.fn kx (by rintro vs M q e ⟨b,la,lu,lh,now,p,pa,un,he,R,T',dd,ys,rfl,⟨c,rfl,_⟩,_⟩;rfl) λcdv A' outer s H E e hr hF hP=> ?_;have nd:=kx.nd;exact#[_,(ag (bF (cr hP T.jT (io T) (hr.mono ⋯) (pv 0) (aa (pv 1) ae))) (aj (bF (ez T.fw (eZ T) (hr.mono ⋯) (pv 0) (aa (jG T.Page (pe T) (hr.mono ⋯) (by rfl) (aa (bw (K:=K) rfl (bw (K:=K) rfl (pv 0) rfl) rfl) (aa (ax T.without (uT T) hr (aa (bw (K:=K) rfl (bw (K:=K) rfl (pv 0) rfl) rfl) (aa (pv 1) ae))) ae))) ae))))),?_];try dsimp only[eI]
 exact#[_,inferInstance,?_];rintro vs M q ⟨b,la,lu,lh,now,p,pa,un,he,R,T',dd,ys,rfl,⟨c,rfl,rfl⟩,hc,hB,hS,hT,kq,ke⟩;let⟨dx,hb⟩:=hB.ob;let⟨lj,r,t,h1,h2,h3⟩:=hB.pg;have hPa:=hS.pa;have up: ∀C,e C M ->WL.up e C M:=λC h=>#[M,Sm.refl M,h]
 dsimp?! [hb,ut];exact#[b,la,lu,lh,now,p,pa,un,he,R,T',c,rfl,hB,hc.len,λl hg=> ?_,λhg=>up _ (ke .NoCrew (by rw[cG,hg]))];have ho:cG R T' (.disband c)= .ok (oa T' c):=by rw[cG,hg]
 dsimp?! [hb,gz];rw[mM];dsimp?! [hb,h1,cl,rq,n2,n3,n4,ip,nT,qB];exact#[t,_,c,rfl,h3,by rw[cF,hg];rfl,λu hu=> ?_];intro pg zr mU LZ lT;rw[pO] at mU ⊢;exact#[pg,zr,r,u,rfl,am,rfl,?_];rw[kl];have s2:=(a5 hu (o:= .dK (sT fk (oa T' c)))).trans (a5 mU (o:= .ins A.bq zr (lK r u)));have Nk:=bY am mU;show#[b,la,lu,lh,now,pg,p,pa,un,he,R,T',R,_,rfl,hB.sm s2,#[zr,r,u,am,s2 _ _ h2,by rw[aP Nk];show am],by omega,λM' eL B' F zR=>dY (kq _ ho M' eL pg B' (F.sm s2) (s2.free zR) ((a5 hu).free mU))]
def u4 {K:WV}(T:fg K mg A):bD P w K mg base (iV P w) 4 A.nE A.nJ ["self","crew","name"] (t_ K (ug A.aW A.bq (vR A) N9)):=by
 exact y9 T.sP.fn ly (by rintro vs M q e ⟨b,la,lu,lh,now,p,pa,un,he,R,T',dd,ys,rfl,⟨c,n,rfl,_⟩,_⟩;rfl) λcdv A' outer s H E e hr hF hP=> ?_;have nd:=ly.nd;exact#[_,(ag (3\(cr hP T.jT (io T) (hr.mono ⋯) (pv 0) (aa (pv 1) ae))) (ag (4\(cr hP T.dC (cY T) (hr.mono ⋯) (pv 0) (aa (pv 2) ae))) (ag (bi (aQ (uS (K:=K) rfl) (pv 2) (pv 3) (by rfl)) (aj (dn hF rfl (by rfl) T.yn (aa (eJ (bK (gX (pv 2)) (bK ay (bK (gX (pv 1)) fD)))) ae))) aK) (ag (bi (aQ AB (bh (dM (K:=K) rfl) (by rfl) T.gN Boot.«len» (aa (pv 3) ae)) (f8 (by rfl) T.ln.choose_spec (show RelV (.int 6) _ from#[_,rfl])) (a7 _)) (aj (dn hF rfl (by rfl) T.wX (aa (eJ (bK ay (bK (lM (f8 (by rfl) T.ln.choose_spec (show RelV (.int 6) _ from#[_,rfl]))) (bK ay fD)))) ae))) aK) (ag (bi (dS (dE (ax T.fits_crew (pd T) hr (aa (pv 4) ae)))) (aj (dn hF rfl (by rfl) T.om (aa (eJ (bK (gX (pv 2)) (bK ay fD))) ae))) aK) (aj (bF (ez T.gE (gx T) (hr.mono ⋯) (pv 0) (aa (pv 1) (aa (bL EB (pv 3) (aJ (aa (pv 2) ae))) ae)))))))))),?_];try dsimp only[eI]
 exact#[_,inferInstance,?_];rintro vs M q ⟨b,la,lu,lh,now,p,pa,un,he,R,T',dd,ys,rfl,⟨c,n,rfl,rfl⟩,⟨hc,hn⟩,hB,hS,hT,kq,ke⟩;let⟨dx,hb⟩:=hB.ob;have k9:=hc.len;have iW:=hn.len;have up: ∀C,e C M ->WL.up e C M:=λC h=>#[M,Sm.refl M,h]
 dsimp?! [hb,ut];exact#[b,la,lu,lh,now,p,pa,un,he,R,T',c,rfl,hB,hc.len,λl hg=> ?_,λhg=>up _ (ke .NoCrew (by rw[cG,hg]))];dsimp?! [hb,eT];exact#[b,la,lu,lh,now,p,pa,un,he,R,T',n,rfl,hB,hn.len,λa B7=> ?_,λB7=>up _ (ke .NoRound (by rw[cG,hg];dsimp only;rw[B7]))];dsimp?! [];exact uj ?_;let⟨z,hz,_,rfl⟩:=d4 B7;cases hi:rW n l with
 | true=>dsimp?! [];exact#[bg (by omega),Qn (by right) iW,Qm (by right) iW (by right),bg (by omega),ZH (by right) iW (by right) k9,ZH (by right) iW (by right) k9,?_];show up _ (ke .Taken (by rw[cG,hg];dsimp only;rw[B7];dsimp only;rw[ao hi]))
 | false=>
 have GK:¬rW n l=true:=by rw[hi];decide
 dsimp?! [fk,af];by_cases h6:6<=l.length
 .have e6:decide ((6:Int) <=(l.length:Int))=true:=a6 (by omega);dsimp?! [e6];(repeat (exact#[by first | decide | decide+kernel,?_]));show up _ (ke .TooMany (by rw[cG,hg];dsimp only;rw[B7];dsimp only;rw[ak GK,ao h6]))
 .have e6:decide ((6:Int) <=(l.length:Int))=false:=aF (by omega);dsimp?! [e6];exact#[z.2,rfl,by have:=(hS.r.ok z hz).2.1;omega,?_];cases hf:gl z.2 8 24 with
  | true=>dsimp?! [aG,aU];(repeat (exact#[by first | decide | decide+kernel | show bg (by omega) | show Qn (by right) iW | show Qm (by right) iW (by right),?_]));show up _ (ke .TooFar (by rw[cG,hg];dsimp only;rw[B7];dsimp only;rw[ak GK,ak h6,ao hf]))
  | false=>
   have hsz:((l.map ws).length+ [ws n].length<=sizeLine)=True:=au (big (by rw[af];simp;omega));dsimp?! [aG,aU,hb,mH];exact#[big (by rw[af];omega),?_];have el:W.tup (l.map ws++ [ws n])=fk (l++ [n]):=by unfold fk;rw[aA];rfl
   rw[el];show#[b,la,lu,lh,now,p,pa,un,he,R,T',c,l++ [n],rfl,hB,hS.pa,hS.t,λM' eL pg B' F h1 h2=>dY (kq _ (by rw[cG,hg];dsimp only;rw[B7];dsimp only;rw[ak GK,ak h6,ak (by rw[hf];decide)]) M' eL pg B' F h1 h2)]
def sZ {K:WV}(T:fg K mg A):bD P w K mg base (iV P w) 4 A.me A.mD ["self","crew","name"] (t_ K (ug A.aW A.bq (vR A) Kw)):=by
 exact y9 T.qc.fn ku (by rintro vs M q e ⟨b,la,lu,lh,now,p,pa,un,he,R,T',dd,ys,rfl,⟨c,n,rfl,_⟩,_⟩;rfl) λcdv A' outer s H E e hr hF hP=> ?_;have nd:=ku.nd;exact#[_,(ag (3\(cr hP T.jT (io T) (hr.mono ⋯) (pv 0) (aa (pv 1) ae))) (ag (bi (aQ (mS (K:=K) rfl) (pv 2) (pv 3) (by rfl)) (aj (dn hF rfl (by rfl) T.qj (aa (eJ (bK (gX (pv 2)) (bK ay (bK (gX (pv 1)) fD)))) ae))) aK) (aj (bF (ez T.gE (gx T) (hr.mono ⋯) (pv 0) (aa (pv 1) (aa (ca gL (by rfl) T.jg Boot.«tuple» (aa (dy rfl (cU.of (sc:=_) (N:= ["self","crew","name","team"]) (own:= ["member"]) (fr:= [2]) (N':= ["member","name"])) (jZ (K:=K) rfl (pv 3)) (λ_ _ _ _=>(aX (i:=0) (by change(["member","name"]:cA Str).Nodup;decide+kernel) rfl (by trivial))) ed (λ_ _ _ _=>(ud (aQ oZ (pv 0) (pv 1) (a7 _)))) (λ_ _ _ _=>(pv 0))) ae)) ae))))))),?_];try dsimp only[eI]
 exact#[_,inferInstance,?_];rintro vs M q ⟨b,la,lu,lh,now,p,pa,un,he,R,T',dd,ys,rfl,⟨c,n,rfl,rfl⟩,⟨hc,hn⟩,hB,hS,hT,kq,ke⟩;let⟨dx,hb⟩:=hB.ob;have k9:=hc.len;have iW:=hn.len;have up: ∀C,e C M ->WL.up e C M:=λC h=>#[M,Sm.refl M,h]
 dsimp?! [hb,ut];exact#[b,la,lu,lh,now,p,pa,un,he,R,T',c,rfl,hB,hc.len,λl hg=> ?_,λhg=>up _ (ke .NoCrew (by rw[cG,hg]))];dsimp?! [];exact nW ?_;cases hi:rW n l with
 | false=>dsimp?! [aU];exact#[bg (by omega),Qn (by right) iW,Qm (by right) iW (by right),bg (by omega),ZH (by right) iW (by right) k9,ZH (by right) iW (by right) k9,?_];show up _ (ke .NoRound (by rw[cG,hg];dsimp only;rw[ao hi]))
 | true=>dsimp?! [aG,hb,mH,fk];let⟨z,hz,_,rfl⟩:=d4 hg;exact vP (λm=>decide (m≠n)) ws (big (by have:=hT.mem z hz;omega)) (λ_ _=>trivial) ?_ λu hu=> ?_;intro m hm M3 N3 s3 jo;dsimp?! [];by_cases h:m=n;rw[aF ⇑h] at jo;rw[a6 h];show jo;rw[a6 h] at jo;rw[aF h];show jo;dsimp?! [am];have s2:=a5 hu (o:= .lst ((z.2.filter λm=>decide (m≠n)).map ws));show#[b,la,lu,lh,now,p,pa,un,he,R,T',c,z.2.filter λm=>decide (m≠n),rfl,hB.sm s2,hS.pa,hS.t,λM' eL pg B' F h1 h2=>dY (kq _ (by rw[cG,hg];dsimp only;rw[ak (by rw[hi];decide)]) M' eL pg B' (F.sm s2) (s2.free h1) (s2.free h2))]
def yX {K:WV}(T:fg K mg A):bD P w K mg base (iV P w) 1 A.si A.sC ["self"] (t_ K (Pr A.aW A.bq A.eA)):=by
 have cl:=au T.Book.cl;have n2:=au T.n_Book_now;have n3:=au T.n_Book_past;have n4:=au T.n_Book_undone;exact y9 T.yi.fn oC (by rintro vs M q e ⟨b,la,lu,lh,now,p,pa,un,he,R,T',rfl,_⟩;rfl) λcdv A' outer s H E e hr hF hP=> ?_;have nd:=oC.nd;exact#[_,(ag (bi (dS (xq (bw (K:=K) rfl (pv 0) rfl))) (aj (dn hF rfl (by rfl) T.uv (aa ay ae))) aK) (ag (bF (eN aL bt br c9 (bw (K:=K) rfl (pv 0) rfl) (aa (bw (K:=K) rfl (pv 0) rfl) ae))) (aj (iL (pv 0) (yO aL PySem.F.slot_list_pop PySem.F.type_list_pop JE (bw (K:=K) rfl (pv 0) rfl)) rfl)))),?_];try dsimp only[eI]
 exact#[_,inferInstance,?_];rintro vs M q ⟨b,la,lu,lh,now,p,pa,un,he,R,T',rfl,hB,hl,ke,kq⟩;let⟨dx,hb⟩:=hB.ob;have ha:=hB.pa;have hu:=hB.un;dsimp?! [hb,cl,n2,n3,n4,K8,Ou,ip,ha,hu];rw[z3 ha];cases pa using WP.iw with
 | h0=>dsimp?! [List.map_nil,List.isEmpty_nil,aG,aU];show#[M,Sm.refl M,ke rfl]
 | h1 MP pg=>
  have lT:((MP++ [pg]).map wr).isEmpty=false:=by simp
  have hs:((un.map wr).length<sizeLine)=True:=au (kh (by rw[af];omega));have LM:b≠la:=λz=>by subst z;rw[hb] at ha;cases ha
  have Np:b≠lu:=λz=>by subst z;rw[hb] at hu;cases hu
  have Nq:=hB.ne.1;dsimp?! [lT,aG,aU,hb,cl,n2,n3,n4,K8,Ou,ip,hu,hs,aP Np];have ha1:um M lu (.lst (un.map wr++ [wr now])) la=some (.lst (MP.map wr++ [wr pg])):=by rw[aP Nq,ha,aA];rfl
  rw[ha1];exact#[_,rfl,la,_,_,rfl,rfl,ha1,?_];dsimp?! [aP LM,aP Np,hb,cl,n2,Tx,Tv];have hh:=hB.he;have NP:lh≠b:=λz=>by subst z;rw[hb] at hh;cases hh
  have F:UI b la lu M (um (um (um M lu (.lst (un.map wr++ [wr now]))) la (.lst (MP.map wr))) b (.ins A.aW dx (eP p pg la lu lh))):=λa o h n1 n2 n3=>by rw[aP n1,aP n2,aP n3];show h
  let⟨R',T1,hP,kq⟩:=kq MP pg rfl;exact dY (kq _ #[#[dx,am],?_,?_,F _ _ hh NP hB.ne.2.1.symm hB.ne.2.2.symm,hB.ne,F.pg hb ha hu hP] F);rw[aP LM.symm];show am;rw[aP Np.symm,aP Nq.symm,am,aA];rfl
def yZ {K:WV}(T:fg K mg A):bD P w K mg base (iV P w) 1 A.sr A.sF ["self"] (t_ K (Px A.aW A.bq A.eA)):=by
 have cl:=au T.Book.cl;have n2:=au T.n_Book_now;have n3:=au T.n_Book_past;have n4:=au T.n_Book_undone;exact y9 T.yk.fn oG (by rintro vs M q e ⟨b,la,lu,lh,now,p,pa,un,he,R,T',rfl,_⟩;rfl) λcdv A' outer s H E e hr hF hP=> ?_;have nd:=oG.nd;exact#[_,(ag (bi (dS (xq (bw (K:=K) rfl (pv 0) rfl))) (aj (dn hF rfl (by rfl) T.uv (aa ay ae))) aK) (ag (bF (eN aL bt br c9 (bw (K:=K) rfl (pv 0) rfl) (aa (bw (K:=K) rfl (pv 0) rfl) ae))) (aj (iL (pv 0) (yO aL PySem.F.slot_list_pop PySem.F.type_list_pop JE (bw (K:=K) rfl (pv 0) rfl)) rfl)))),?_];try dsimp only[eI]
 exact#[_,inferInstance,?_];rintro vs M q ⟨b,la,lu,lh,now,p,pa,un,he,R,T',rfl,hB,hl,ke,kq⟩;let⟨dx,hb⟩:=hB.ob;have ha:=hB.pa;have hu:=hB.un;dsimp?! [hb,cl,n2,n3,n4,K8,Ou,ip,ha,hu];rw[z3 hu];cases un using WP.iw with
 | h0=>dsimp?! [List.map_nil,List.isEmpty_nil,aG,aU];show#[M,Sm.refl M,ke rfl]
 | h1 QY pg=>
  have lT:((QY++ [pg]).map wr).isEmpty=false:=by simp
  have hs:((pa.map wr).length<sizeLine)=True:=au (kh (by rw[af];omega));have LM:b≠la:=λz=>by subst z;rw[hb] at ha;cases ha
  have Np:b≠lu:=λz=>by subst z;rw[hb] at hu;cases hu
  have Nq:=hB.ne.1;dsimp?! [lT,aG,aU,hb,cl,n2,n3,n4,K8,Ou,ip,ha,hs,aP LM];have m7:um M la (.lst (pa.map wr++ [wr now])) lu=some (.lst (QY.map wr++ [wr pg])):=by rw[aP Nq.symm,hu,aA];rfl
  rw[m7];exact#[_,rfl,lu,_,_,rfl,rfl,m7,?_];dsimp?! [aP LM,aP Np,hb,cl,n2,Tx,Tv];have hh:=hB.he;have NP:lh≠b:=λz=>by subst z;rw[hb] at hh;cases hh
  have F:UI b la lu M (um (um (um M la (.lst (pa.map wr++ [wr now]))) lu (.lst (QY.map wr))) b (.ins A.aW dx (eP p pg la lu lh))):=λa o h n1 n2 n3=>by rw[aP n1,aP n3,aP n2];show h
  let⟨R',T1,hP,kq⟩:=kq QY pg rfl;exact dY (kq _ #[#[dx,am],?_,?_,F _ _ hh NP hB.ne.2.1.symm hB.ne.2.2.symm,hB.ne,F.pg hb ha hu hP] F);rw[aP LM.symm,aP Nq,am,aA];rfl;rw[aP Np.symm];show am
def y3 {K:WV}(T:fg K mg A):bD P w K mg base fi 1 A.su A.sG ["self"] (fK K (Py A.aW A.bq)):=by
 have cl:=au T.Book.cl;have n2:=au T.n_Book_now;have n3:=au T.n_Book_held;exists T.yl.fn,["self"],(ag (bF (eN aL bt br c9 (bw (K:=K) rfl (pv 0) rfl) (aa (bw (K:=K) rfl (pv 0) rfl) ae))) (aj (aE (bL qC (bh (dM (K:=K) rfl) (by rfl) T.gN Boot.«len» (aa (bw (K:=K) rfl (pv 0) rfl) ae)) ai))))
 rintro vs M q ⟨b,la,lu,lh,now,p,pa,un,he,R,T',rfl,hB,hl,kq⟩;let⟨dx,hb⟩:=hB.ob;have hh:=hB.he;have Zg:b≠lh:=λz=>by subst z;rw[hb] at hh;cases hh
 have hs:(he.length<sizeLine)=True:=au (kh (by omega));dsimp?! [hb,cl,n2,n3,Ov,ip,hh,af,hs];have e1:um M lh (.lst (he.map wr++ [wr now])) b=_:=(aP Zg).trans hb;have e2:um M lh (.lst (he.map wr++ [wr now])) lh=some (.lst (he.map wr++ [wr now])):=am;dsimp?! [e1,e2,cl,n3,Ov,aD,af];have F:zU b lh M (um M lh (.lst (he.map wr++ [wr now]))):=λa o h _ n=>by rw[aP n];show h
 have ev:wi ((he.length+1:Nat) - 1:Int)=wi he.length:=by congr 2;omega
 have kq':=kq _ #[#[dx,e1],by rw[aP hB.ne.2.1];show hB.pa,by rw[aP hB.ne.2.2];show hB.un,by rw[am,aA];rfl,hB.ne,F.pg hb hh hB.pg] F;rw[<- ev] at kq';show dY kq'
def pf {K:WV}(T:fg K mg A):bD P w K mg base (iV P w) 2 A.jP A.jR ["self","k"] (t_ K (V7 A.aW A.bq A.c_)):=by
 have cl:=au T.Book.cl;have n3:=au T.n_Book_held;exact y9 T.mK.fn i9 (by rintro vs M q e ⟨b,la,lu,lh,now,k,p,pa,un,he,R,T',rfl,_⟩;rfl) λcdv A' outer s H E e hr hF hP=> ?_;have nd:=i9.nd;exact#[_,(ag (bi (dS (oW o0 hU ai (pv 1) (bh (dM (K:=K) rfl) (by rfl) T.gN Boot.«len» (aa (bw (K:=K) rfl (pv 0) rfl) ae)))) (aj (dn hF rfl (by rfl) T.wY (aa (eJ (bK ay (bK (lM (pv 1)) fD))) ae))) aK) (aj (bF (ez T.fw (eZ T) (hr.mono ⋯) (pv 0) (aa ((bw (K:=K) rfl (pv 0) rfl)∩(pv 1)) ae))))),?_];try dsimp only[eI]
 exact#[_,inferInstance,?_];rintro vs M q ⟨b,la,lu,lh,now,k,p,pa,un,he,R,T',rfl,hB,hl,Us,hk,ke,kq⟩;let⟨dx,hb⟩:=hB.ob;have hh:=hB.he;dsimp?! [hb,cl,n3,Ov,hh,af];have bad:¬(0<=k /\ k<he.length) ->up e A.c_ M:=λh=>#[M,Sm.refl M,ke h]
 have kn:=fq hk;have l1:(Str.ofString "nothing is held under ").length=22:=by right
 have rz:up e A.c_ M ->ce ((Str.empty++Str.ofString "nothing is held under ").length<=sizeLine) (ce (k.natAbs.log2<1920) (ce ((Str.empty++Str.ofString "nothing is held under " ++Str.ofString (toString k)).length<=sizeLine) (ce ((Str.empty++Str.ofString "nothing is held under " ++Str.ofString (toString k)).length<=sizeLine) (up e A.c_ M)))):=λh=>by have hh:(Str.empty++Str.ofString "nothing is held under " ++Str.ofString (toString k)).length<=sizeLine:=bg (by rw[xQ,bz];omega);show#[bg (by rw[xQ];omega),f9 hk,hh,hh,h]
 by_cases h0:0<=k;by_cases h1:k<he.length;have d0:=a6 h0;have d1:=a6 h1;let⟨pg,mU⟩: ∃z,he[k.toNat]? =some z:=#[_,aO (by omega)]
 have ek:gP (he.map wr) k=some (wr pg):=gd h0 (by rw[aI,mU];rfl);let⟨R',T1,hP,kq⟩:=kq pg h0 mU;dsimp?! [d0,d1,aG,hb,cl,n3,Ov,hh,ek,gz];show#[b,la,lu,lh,now,pg,p,pa,un,he,R,T',R',T1,rfl,hB,hP,hl,λM' eL B' F hu=>dY (kq M' eL B' F hu)];have d0:=a6 h0;have d1:=aF h1;dsimp?! [d0,d1,aU];show rz (bad λh=>h1 h.2);have d0:=aF h0;dsimp?! [d0];show rz (bad λh=>h0 h.1)
def AE {K:WV}(T:fg K mg A):bD P w K mg base fi 4 A.vF A.vL ["_law_p_here","_law_book","_law_stand"] (fK K (Ey A.aW A.bq)):=by
 have gA:=Fz (cY (P:=P) (w:=w) (base:=base) T);have hG:=Fz (kI (P:=P) (w:=w) (base:=base) T);exists T.AR.fn,["_law_p_here","_law_book","_law_stand","_law_names_here","_law_crews","_law_name","_law_one","_law_crew","_law_members"],(ag (3\(iq T.oj (nw T) (hr.mono ⋯) (pv 1))) (ag (4\(iq T.ol (ny T) (hr.mono ⋯) (pv 1))) (ag (bi (kG (dS (dE (bh (fR (K:=K) rfl) (by rfl) T.eC Boot.«isinstance» (aa (pv 3) (aa (i_ (by rfl) T.gZ Boot.«list» (show RelV (.ty "list") _ from rfl)) ae))))) (iK (aQ (show i6 _ _ (Aw K) from qD (by show hr.Ua)) (pv 3) (bh (fu rfl) (by rfl) T.gM Boot.«sorted» (aa ((pv 2)∪ai) ae)) (a7 _)))).pt (aj (aE ja)) aK) (ag (bi (kG (dS (dE (bh (fR (K:=K) rfl) (by rfl) T.eC Boot.«isinstance» (aa (pv 4) (aa (i_ (by rfl) T.gZ Boot.«list» (show RelV (.ty "list") _ from rfl)) ae))))) (iK (aQ (show i6 _ _ (Aw K) from qD (by show hr.Ua)) (pv 4) (bh (fu rfl) (by rfl) T.gM Boot.«sorted» (aa ((pv 2)∪ai) ae)) (a7 _)))).pt (aj (aE ja)) aK) (ag (gw cT rfl (f7 (K:=K) rfl (pv 3)) (aX (i:=5) nd rfl (by trivial)) (ag (6\(ez T.dC gA (hr.mono ⋯) (pv 1) (aa (pv 5) ae))) (aj (bi (kG (dS (dE (ax T.vf (wz T) hr (aa (pv 0) (aa (pv 6) ae))))) (iK (aQ (show i6 _ _ (Aw K) from qD (by show hr.Ua)) (pv 6) (eK (dU hr) ((pv 2)∪ai) (pv 5) (λ_ _=>rfl)) (a7 _)))).pt (aj (aE ja)) aK)))) (ag (gw cT rfl (f7 (K:=K) rfl (pv 4)) (aX (i:=7) nd rfl (by trivial)) (ag (8\(ez T.kj hG (hr.mono ⋯) (pv 1) (aa (pv 7) ae))) (ag (bi (kG (dS (dE (bh (fR (K:=K) rfl) (by rfl) T.eC Boot.«isinstance» (aa (pv 8) (aa (i_ (by rfl) T.gZ Boot.«list» (show RelV (.ty "list") _ from rfl)) ae))))) (iK (aQ (show i6 _ _ (Aw K) from qD (by show hr.Ua)) (pv 8) (ca eV (by rfl) T.gZ Boot.«list» (aa (eK (dU hr) ((pv 2)∪ai) (pv 7) (λ_ _=>rfl)) ae)) (a7 _)))).pt (aj (aE ja)) aK) (aj (bF (eN aL PySem.F.slot_list_insert PySem.F.type_list_insert xv (pv 8) (aa ai (aa ay ae)))))))) (ag (bF (yO aL PySem.F.slot_list_clear PySem.F.type_list_clear AI (pv 3))) (ag (bF (yO aL PySem.F.slot_list_clear PySem.F.type_list_clear AI (pv 4))) (aj (aE ja))))))))))
 rintro vs M q ⟨b,la,lu,lh,now,r,t,p,pa,un,he,R,T',rfl,hB,⟨iO,ht⟩,hR,⟨hT,dJ⟩,k⟩;let⟨dx,hb⟩:=hB.ob;have hRl:=hR.len;dsimp?! [hb,BC];exact#[b,la,lu,lh,now,p,pa,un,he,R,T',rfl,hB,hRl,λnl ns iW jM A3=> ?_];have s1:Sm M (um M nl (.lst (ns.map ws))):=a5 iW;have Xx:=hB.sm s1;have Qg:um M nl (.lst (ns.map ws)) nl=some (.lst (ns.map ws)):=am;generalize um M nl (.lst (ns.map ws))=M1 at s1 Xx Qg;have ZE:=s1 _ _ hb;dsimp?! [ZE,BD];exact#[b,la,lu,lh,now,p,pa,un,he,R,T',rfl,Xx,by have:=hT.len;omega,λcl cs k9 hpc hsc=> ?_];have s2:=s1.trans (a5 k9 (o:= .lst (cs.map ws)));have hB2:=hB.sm s2;have wt:um M1 cl (.lst (cs.map ws)) nl=some (.lst (ns.map ws)):=a5 k9 _ _ Qg;have GP:um M1 cl (.lst (cs.map ws)) cl=some (.lst (cs.map ws)):=am;generalize um M1 cl (.lst (cs.map ws))=M2 at s2 hB2 wt GP;dsimp?! [wt,GP];exact#[r,_,R.map (·.1),rfl,s2 _ _ iO,jx _ _,by rw[af];show big (by omega),λv B0 hv vz gJ=> ?_];have en:=uI vz jM gJ A3;subst en;exact nX (DR.list rn (by rw[aP (bY wt hv)];show wt)) (DR.list rn am) (Db _) rfl ?_;have s3:=s2.trans (a5 hv (o:= .lst (B0.map ws)));have hB3:=hB.sm s3;have S3:=a5 hv (o:= .lst (B0.map ws)) _ _ wt;have Xq:=a5 hv (o:= .lst (B0.map ws)) _ _ GP;generalize um M2 v (.lst (B0.map ws))=M3 at s3 hB3 S3 Xq;dsimp?! [S3,Xq];exact#[t,_,T'.map (·.1),rfl,s3 _ _ ht,jx _ _,by rw[af];show big (by have:=hT.len;omega),λv2 UB Zx hp2 E2=> ?_];have ec:=uI hp2 hpc E2 hsc;subst ec;exact nX (DR.list rn (by rw[aP (bY Xq Zx)];show Xq)) (DR.list rn am) (Db _) rfl ?_;have s4:=s3.trans (a5 Zx (o:= .lst (UB.map ws)));have Uz:=hB.sm s4;have S2:=a5 Zx (o:= .lst (UB.map ws)) _ _ S3;have Qi:=a5 Zx (o:= .lst (UB.map ws)) _ _ Xq;generalize um M3 v2 (.lst (UB.map ws))=M4 at s4 Uz S2 Qi;have hr4:=s4 _ _ iO;have Xs:=s4 _ _ hb;dsimp?! [S2];exact jO (λi ρ M'=>cg λ(o1 o2:e9 W)=>ρ= [some (wi p),some (wr b),some (.tup [wr r,wr t]),some (wr nl),some (wr cl),o1,o2,none,none] /\ M'=M4) #[none,none,rfl,rfl] (by rintro i ρ M' _ ⟨o1,o2,rfl,rfl⟩;show S2) ?_ ?_;rintro i x ρ M' hx ⟨o1,o2,rfl,rfl⟩ N hN;let⟨nm,jm,rfl⟩: ∃nm,B0[i]? =some nm /\ x=ws nm:=by
  rw[aI] at hx;cases e:B0[i]? with
  | none=>rw[e] at hx;cases hx
  | some y=>rw[e] at hx;cases hx;show#[y,rfl,rfl]
 have A6:nm∈R.map (·.1):=jM.mem_iff.mp (aV jm);let⟨z,hz,rfl⟩:=bX.mp A6;let⟨a,hg⟩:=zn hz;let⟨z2,NJ,_,rfl⟩:=d4 hg;dsimp?! [Xs,eT];exact yA ?_;exact#[b,la,lu,lh,now,p,pa,un,he,R,T',z.1,rfl,Uz,dJ z hz,λa' n6=> ?_,λn6=>by rw[hg] at n6;cases n6];have ea:a'=z2.2:=by rw[hg] at n6;show(bu n6).symm
 subst ea;dsimp?! [];exact#[p,z2.2,rfl,(hR.ok z2 NJ).1,by have:=(hR.ok z2 NJ).2.1;omega,?_];dsimp?! [hr4,cF,hg,bB];exact Wo rfl ?_;dsimp?! [];show hN _ _ #[_,_,rfl,rfl];rintro ρ M5 ⟨o1,o2,rfl,rfl⟩;dsimp?! [Qi];have ht4:=s4 _ _ ht;exact jO (λi ρ M'=>cg λ(o3 o4:e9 W)=>ρ= [some (wi p),some (wr b),some (.tup [wr r,wr t]),some (wr nl),some (wr cl),o1,o2,o3,o4] /\ Sm M5 M') #[none,none,rfl,Sm.refl M5] (by rintro i ρ M' _ ⟨o3,o4,rfl,s5⟩;show s5 _ _ Qi) ?_ ?_;rintro i x ρ M6 hx ⟨o3,o4,rfl,s5⟩ N hN;let⟨nm,jm,rfl⟩: ∃nm,UB[i]? =some nm /\ x=ws nm:=by
  rw[aI] at hx;cases e:UB[i]? with
  | none=>rw[e] at hx;cases hx
  | some y=>rw[e] at hx;cases hx;show#[y,rfl,rfl]
 have A6:nm∈T'.map (·.1):=hpc.mem_iff.mp (aV jm);let⟨z,hz,rfl⟩:=bX.mp A6;have hg:=zk hT.nd hz;have hb6:=s5 _ _ Xs;have ht6:=s5 _ _ ht4;dsimp?! [hb6,vT];exact yA ?_;exact#[b,la,lu,lh,now,p,pa,un,he,R,T',z.1,rfl,Uz.sm s5,hT.key z hz,λa' n6 u hu=> ?_,λn6=>by rw[hg] at n6;cases n6];have ea:a'=z.2:=by rw[hg] at n6;show(bu n6).symm
 subst ea;have s6:=s5.trans (a5 hu (o:= .lst (z.2.map ws)));have W6:um M6 u (.lst (z.2.map ws)) u=some (.lst (z.2.map ws)):=am;have ht7:=s6 _ _ ht4;have abj:M5 u=none:=s5.free hu;generalize um M6 u (.lst (z.2.map ws))=M7 at s6 W6 ht7;dsimp?! [W6,ht7,cF,hg,bB,fk];intro v hv;exact nX (DR.list rn (by rw[aP (bY W6 hv)];show W6)) (DR.list rn am) (Db _) rfl ?_;have s7:=s6.trans (a5 hv (o:= .lst (z.2.map ws)));have hu7:=a5 hv (o:= .lst (z.2.map ws)) _ _ W6;generalize um M7 v (.lst (z.2.map ws))=M8 at s7 hu7;dsimp?! [hu7];exact#[u,_,ws "zz",0,rfl,rfl,hu7,kh (by rw[af];have:=hT.mem z hz;omega),de _,?_];show hN _ _ #[_,_,rfl,s7.um abj];rintro ρ M6 ⟨o3,o4,rfl,s5⟩;have hn6:=s5 _ _ S2;have ZC:=s5 _ _ Qi;have s6:=s4.trans s5;dsimp?! [hn6,ZC];by_cases hcn:cl=nl;subst hcn;dsimp?! [am];show#[M,s6.um (s1.free k9),k];dsimp?! [aP hcn,ZC];show#[M,(s6.um iW).um (s1.free k9),k]
def sX {K:WV}(T:fg K mg A):bD P w K mg base fi 2 A.l5 A.mw ["_law_draw"] (fK K MW):=by
 exists T.pq.fn,["_law_draw","_law_deeds","_law_k","_law_word","_law_way"],(ag (1\(dP ae)) (ag (gw cT rfl (fO (by rfl) T.jh (aa (ax T.c5 (bM T) hr (aa (pv 0) (aa ai ae))) ae)) (aX (i:=2) nd rfl (by trivial)) (ag (3\((aJ (aa ay (aa ay (aa ay ae))))∪(ax T.c5 (bM T) hr (aa (pv 0) (aa ai ae))))) (aj (bF (eN aL bt br c9 (pv 1) (aa (aJ (aa (pv 3) (aa (bL qC (ax T.c5 (bM T) hr (aa (pv 0) (aa ai ae))) ai) ae))) ae)))))) (ag (4\(ax T.c5 (bM T) hr (aa (pv 0) (aa ai ae)))) (ag (bi (aQ cX (pv 4) ai (a7 _)) (ag (bF (eN aL bt br c9 (pv 1) (aa (aJ (aa ay (aa ((aJ (aa ai (aa ai (aa (fF eD ai) (aa (fF eD ai) (aa ai (aa ai (aa (fF eD ai) (aa (fF eD ai) (aa ai (aa ai (aa (fF eD ai) (aa (fF eD ai) ae)))))))))))))∪(ax T.c5 (bM T) hr (aa (pv 0) (aa ai ae)))) ae))) ae))) (ag (bF (eN aL bt br c9 (pv 1) (aa (aJ (aa ay (aa (ax T.c5 (bM T) hr (aa (pv 0) (aa ai ae))) ae))) ae))) (aj (bF (eN aL bt br c9 (pv 1) (aa (aJ (aa ay (aa ((aJ (aa ai (aa (fF eD ai) (aa ai (aa (fF eD ai) (aa ai ae))))))∪(ax T.c5 (bM T) hr (aa (pv 0) (aa ai ae)))) ae))) ae)))))) aK) (ag (bi (aQ cX (pv 4) ai (a7 _)) (aj (bF (eN aL PySem.F.slot_list_insert PySem.F.type_list_insert xv (pv 1) (aa (ax T.c5 (bM T) hr (aa (pv 0) (aa (bL fb (bh (dM (K:=K) rfl) (by rfl) T.gN Boot.«len» (aa (pv 1) ae)) ai) ae))) (aa (aJ (aa ((aJ (aa ay (aa ay (aa ay ae))))∪(ax T.c5 (bM T) hr (aa (pv 0) (aa ai ae)))) (aa ai ae))) ae))))) aK) (aj (aE (pv 1))))))))
 rintro vs M q ⟨d,l,rfl,hD,k⟩;dsimp?! [];intro u hu;let⟨Gq,nul⟩:=hD.ne hu;have D0:=hD.put hu (o:= .lst []);have F0:Fs d M (um M u (.lst [])):=λa o h n=>by rw[aP (bY h hu)];show h
 have Ur:um M u (.lst []) u=some (.lst (([]:cA (Str×Int)).map fV)):=am;generalize um M u (.lst [])=M1 at D0 F0 Ur;dsimp?! [];exact#[d,l,5,rfl,D0,⋯,⋯,λm M2 m0 m1 D2 b2=> ?_];have F2:Fs d M M2:=λa o h n=>by rw[b2 a n];show F0 a o h n
 have hu2:M2 u=some (.lst (([]:cA (Str×Int)).map fV)):=by rw[b2 u Gq];show Ur
 have put: ∀ (M':Mp) (o:MO),Dr M' d l ->Fs d M M' ->Dr (um M' u o) d l /\ Fs d M (um M' u o):=λM' o hD' hF=>#[hD'.RA Gq nul,λa o' h n=>by rw[aP (bY h hu)];show hF a o' h n]
 have dr: ∀ (M' Qy:Mp),NB d M' Qy ->Fs d M M' ->Fs d M Qy:=λM' Qy hb hF a o h n=>by rw[hb a n];show hF a o h n
 have wd: ∀ {ds:cA (Str×Int)} {z:Str×Int},(∀y∈ds,y.1.length<=100) ->z.1.length<=100 -> ∀y∈ds++ [z],y.1.length<=100:=λ{ds z} h hz y hy=>by obtain h' | h':=a9.mp hy;show h y h';rw[be.mp h'];show hz
 have sz: ∀ {ds:cA (Str×Int)},ds.length<=50 ->((ds.map fV).length<sizeLine)=True:=λ{ds} h=>au (kh (by rw[af];omega));have snoc: ∀ (ds:cA (Str×Int)) (z:Str×Int),(MO.lst (ds.map fV++ [fV z]))= .lst ((ds++ [z]).map fV):=λds z=>by rw[aA];rfl
 simp?! [↓eM];exact#[#[by omega,by omega],jO (λi ρ M'=>eQ λ(o1 o2:e9 W) (ds:cA (Str×Int))=>lm (ρ= [some (wr d),some (wr u),o1,o2,none]) (ds.length=i) (∀y∈ds,y.1.length<=100) (M' u=some (.lst (ds.map fV))) (Dr M' d l) (Fs d M M')) #[none,none,[],rfl,rfl,by simp,hu2,D2,F2] (λ_ _ _ _ _=>trivial) ?_ ?_]
 .rintro i x ρ M3 hx ⟨o1,o2,ds,rfl,hl,hw,hM,D3,F3⟩ N hN;let⟨hi,rfl⟩:=jE hx;dsimp?! [];exact#[d,l,3,rfl,D3,⋯,⋯,λr M4 r0 r1 D4 b4=> ?_];have Ti:M4 u=some (.lst (ds.map fV)):=by rw[b4 u Gq];show hM
  have F4:=dr _ _ b4 F3;have hr3:r=0 \/ r=1 \/ r=2:=by omega
  obtain rfl | rfl | rfl:=hr3;all_goals
   dsimp?! [XS,Ti]
   exact#[d,l,7,rfl,D4,⋯,⋯,λx M5 x0 x1 D5 b5=> ?_]
   have Th:M5 u=some (.lst (ds.map fV)):=by rw[b5 u Gq];show Ti
   have F5:=dr _ _ b5 F4
   dsimp?! [Th,sz (ds:=ds) (by omega)]
   exact hN _ _ #[_,_,ds++ [(_,x - 3)],rfl,by simp[hl],wd hw ?_,by rw[am];show congrArg some (snoc ds (_,x - 3)),(put _ _ D5 F5).1,(put _ _ D5 F5).2]
   first | show(by right:Str.length "go" <=100) | show(by right:Str.length "turn" <=100)
 rintro ρ M3 ⟨o1,o2,ds,rfl,hl,hw,hM,D3,F3⟩;rw[jD] at hl;have hl4:ds.length<=4:=by omega
 clear hl;simp?! [↓eM];exact iP ?_;simp?! [↓eM];exact#[d,l,12,rfl,D3,⋯,⋯,λwy M4 w0 w1 D4 b4=> ?_];have Ti:M4 u=some (.lst (ds.map fV)):=by rw[b4 u Gq];show hM
 have F4:=dr _ _ b4 F3;simp?! [↓eM];exact iP (qQ (λρ M'=> ∃ds:cA (Str×Int),lm (ρ= [some (wr d),some (wr u),o1,o2,some (wi wy)]) (ds.length<=7) (∀y∈ds,y.1.length<=100) (M' u=some (.lst (ds.map fV))) (Dr M' d l) (Fs d M M')) ?_ λN hN=> ?_);clear Ti F4 hM D3 F3 hl4 hw;rintro ρ M5 ⟨ds,rfl,hl,hw,Th,D5,F5⟩;exact qQ (λρ M'=> ∃ds:cA (Str×Int),lm (ρ= [some (wr d),some (wr u),o1,o2,some (wi wy)]) (ds.length<=8) (∀y∈ds,y.1.length<=100) (M' u=some (.lst (ds.map fV))) (Dr M' d l) (Fs d M M')) ?_ λN hN=> ?_;rintro ρ M6 ⟨ds,rfl,hl,hw,NV,D6,F6⟩;dsimp?! [];show dY (k u ds M6 hu NV (by omega) hw D6 F6);simp?! [↓eM];exact di (λh=> ?_) λh=>hN _ _ #[ds,rfl,by omega,hw,Th,D5,F5];dsimp?! [Th,af];exact#[d,l,_,rfl,D5,by omega,by omega,λj M6 j0 j1 D6 b6=> ?_];have NV:M6 u=some (.lst (ds.map fV)):=by rw[b6 u Gq];show Th
 have F6:=dr _ _ b6 F5;dsimp?! [];exact#[d,l,3,rfl,D6,⋯,⋯,λr M7 r0 r1 D7 b7=> ?_];have hM7:M7 u=some (.lst (ds.map fV)):=by rw[b7 u Gq];show NV
 have F7:=dr _ _ b7 F6;dsimp?! [];exact mR (λx=> ∃e:Str,x=ws e /\ e.length<=100) r0 (by change r< ((3:Nat):Int);omega) (λx hx=> ?_) ?_;simp![aT,List.not_mem_nil,or_false] at hx;obtain h | h | h:=hx <;>show#[_,h,by right];rintro _ ⟨v,rfl,hv⟩;let⟨jn,rfl⟩:=Int.eq_ofNat_of_zero_le j0;dsimp?! [];exact#[u,_,fV (v,1),jn,rfl,rfl,hM7,kh (by rw[af];omega),by rw[af];omega,?_];have em:(ds.map fV).take jn++fV (v,1)::(ds.map fV).drop jn=(ds.take jn++(v,1)::ds.drop jn).map fV:=by rw[aA,aN,List.map_take,List.map_drop]
 rw[em];exact hN _ _ #[ds.take jn++(v,1)::ds.drop jn,rfl,by simp;omega,λy hy=> ?_,am,(put _ _ D7 F7).1,(put _ _ D7 F7).2];obtain h' | h':=a9.mp hy;show hw y (List.mem_of_mem_take h');obtain h' | h':=aT.mp h';rw[h'];show hv;show hw y (List.mem_of_mem_drop h');simp?! [↓eM];exact di (λh=> ?_) λh=>hN _ _ #[ds,rfl,by omega,hw,Ti,D4,F4];dsimp?! [Ti];exact#[⋯,d,l,12,rfl,D4,⋯,⋯,λj M5 j0 j1 D5 b5=> ?_];have Th:M5 u=some (.lst (ds.map fV)):=by rw[b5 u Gq];show Ti
 have F5:=dr _ _ b5 F4;dsimp?! [];exact mR (λx=> ∃e:Int,x=wi e) j0 (by change j< ((12:Nat):Int);omega) (λx hx=> ?_) ?_;simp![aT,List.not_mem_nil,or_false] at hx;obtain h | h | h | h | h | h | h | h | h | h | h | h:=hx <;>show#[_,h];rintro _ ⟨v,rfl⟩;dsimp?! [Th,sz (ds:=ds) (by omega)];have P6:=put M5 (.lst (ds.map fV++ [fV ("go",v)])) D5 F5;have NV:um M5 u (.lst (ds.map fV++ [fV ("go",v)])) u=some (.lst ((ds++ [(("go" :Str),v)]).map fV)):=by rw[am,snoc]
 have w6:=wd (z:=("go",v)) hw (by change Str.length "go" <=100;decide+kernel);have l6:(ds++ [(("go" :Str),v)]).length<=5:=by simp;omega
 change mG _ _ (um M5 u (.lst (ds.map fV++ [fV ("go",v)]))) _;generalize um M5 u (.lst (ds.map fV++ [fV ("go",v)]))=M6 at P6 NV ⊢;generalize ds++ [(("go" :Str),v)]=d6 at NV w6 l6;let⟨D6,F6⟩:=P6;exact#[d,l,2,rfl,D6,⋯,⋯,λx7 M7 _ _ D7 b7=> ?_];have hM7:M7 u=some (.lst (d6.map fV)):=by rw[b7 u Gq];show NV
 have F7:=dr _ _ b7 F6;dsimp?! [hM7,sz (ds:=d6) (by omega)];have P8:=put M7 (.lst (d6.map fV++ [fV ("turn",x7)])) D7 F7;have hM8:um M7 u (.lst (d6.map fV++ [fV ("turn",x7)])) u=some (.lst ((d6++ [(("turn" :Str),x7)]).map fV)):=by rw[am,snoc]
 have w8:=wd (z:=("turn",x7)) w6 (by change Str.length "turn" <=100;decide+kernel);have l8:(d6++ [(("turn" :Str),x7)]).length<=6:=by simp;omega
 change mG _ _ (um M7 u (.lst (d6.map fV++ [fV ("turn",x7)]))) _;generalize um M7 u (.lst (d6.map fV++ [fV ("turn",x7)]))=M8 at P8 hM8 ⊢;generalize d6++ [(("turn" :Str),x7)]=d8 at hM8 w8 l8;let⟨D8,F8⟩:=P8;exact#[d,l,5,rfl,D8,⋯,⋯,λx9 M9 x90 x91 D9 b9=> ?_];have hM9:M9 u=some (.lst (d8.map fV)):=by rw[b9 u Gq];show hM8
 have F9:=dr _ _ b9 F8;dsimp?! [];exact mR (λx=> ∃e:Int,x=wi e) x90 (by change x9< ((5:Nat):Int);omega) (λx hx=> ?_) ?_;simp![aT,List.not_mem_nil,or_false] at hx;obtain h | h | h | h | h:=hx <;>show#[_,h];rintro _ ⟨v9,rfl⟩;dsimp?! [hM9,sz (ds:=d8) (by omega)];show hN _ _ #[d8++ [(("go" :Str),v9)],rfl,by simp;omega,wd (z:=("go",v9)) w8 (by change Str.length "go" <=100;decide+kernel),by rw[am];show congrArg some (snoc d8 ("go",v9)),(put _ _ D9 F9).1,(put _ _ D9 F9).2]
def gF {K:WV}(T:fg K mg A):bD P w K mg base fi 2 A.vE A.vK ["_law_draw","_law_names_here"] (fK K yQ):=by
 exists T.jL.fn,["_law_draw","_law_names_here"],(ag (bi (aQ cX (ax T.c5 (bM T) hr (aa (pv 0) (aa ai ae))) ai (a7 _)) (aj (aE ((aJ (aa ay (aa ay (aa ay (aa ay (aa ay (aa ay (aa ay (aa ay (aa ay (aa ay ae)))))))))))∪(ax T.c5 (bM T) hr (aa (pv 0) (aa ai ae)))))) aK) (aj (aE ((pv 1)∩(ax T.c5 (bM T) hr (aa (pv 0) (aa (bh (dM (K:=K) rfl) (by rfl) T.gN Boot.«len» (aa (pv 1) ae)) ae)))))))
 rintro vs M q ⟨d,l,nl,ns,rfl,hD,iW,wE,⟨n0,n1⟩,tP,k⟩;dsimp?! [];exact#[d,l,15,rfl,hD,⋯,⋯,λm M2 m0 m1 D2 b2=> ?_];dsimp?! [];exact di (λh=> ?_) λh=> ?_;dsimp?! [];exact#[⋯,d,l,10,rfl,D2,⋯,⋯,λj M3 j0 j1 D3 b3=> ?_];dsimp?! [];exact mR (λx=> ∃e:Str,x=ws e /\ Nm e) j0 (by change j< ((10:Nat):Int);omega) (λx hx=> ?_) ?_;simp![aT,List.not_mem_nil,or_false] at hx;obtain h | h | h | h | h | h | h | h | h | h:=hx <;>show#[_,h,by right,by right];rintro _ ⟨v,rfl,hv⟩;show dY (k v _ hv D3 (NB.trans b2 b3));have Xc:M2 nl=some (.lst (ns.map ws)):=by rw[b2 nl wE];show iW
 dsimp?! [Xc,af];exact#[d,l,_,rfl,D2,by omega,by omega,λj M3 j0 j1 D3 b3=> ?_];have abb:M3 nl=some (.lst (ns.map ws)):=by rw[b3 nl wE];show Xc
 let⟨z,hz⟩: ∃z,ns[j.toNat]? =some z:=#[_,aO (by omega)]
 have ek:gP (ns.map ws) j=some (ws z):=gd j0 (by rw[aI,hz];rfl);dsimp?! [abb,ek];show dY (k z _ (tP z (aV hz)) D3 (NB.trans b2 b3))
def kH {K:WV}(T:fg K mg A):bD P w K mg base fi 3 A.lY A.mm ["_law_draw","_law_names_here"] (fK K RN):=by
 exists T.j8.fn,["_law_draw","_law_names_here","_law_name","_law_one","_law_way"],(ag (2\(ax T.jL (gF T) hr (aa (pv 0) (aa (pv 1) ae)))) (ag (3\(ax T.jL (gF T) hr (aa (pv 0) (aa (pv 1) ae)))) (ag (4\(ax T.c5 (bM T) hr (aa (pv 0) (aa ai ae)))) (ag (bi (aQ hU (pv 4) ai (a7 _)) (aj (aE (aJ (aa ay (aa (pv 2) (aa (ax T.pq (sX T) hr (aa (pv 0) ae)) ae)))))) aK) (ag (bi (aQ cX (pv 4) ai (a7 _)) (aj (aE (aJ (aa ay (aa (pv 2) (aa (aJ (aa (pv 3) (aa (ax T.jL (gF T) hr (aa (pv 0) (aa (pv 1) ae))) ae))) ae)))))) aK) (ag (bi (aQ cX (pv 4) ai (a7 _)) (aj (aE (aJ (aa ay (aa (pv 2) (aa (aJ (aa (pv 3) ae)) (aa (fF eD ai) ae))))))) aK) (ag (bi (aQ cX (pv 4) ai (a7 _)) (aj (aE (aJ (aa ay (aa (pv 2) (aa (aJ (aa (pv 3) ae)) (aa ((aJ (aa (bL qC (ax T.c5 (bM T) hr (aa (pv 0) (aa ai ae))) ai) (aa (bL qC (ax T.c5 (bM T) hr (aa (pv 0) (aa ai ae))) ai) ae)))∪(ax T.c5 (bM T) hr (aa (pv 0) (aa ai ae)))) ae))))))) aK) (aj (aE (aJ (aa ay (aa (pv 2) ae))))))))))))
 rintro vs M q ⟨d,l,nl,ns,rfl,hD,iW,wE,n0,tP,k⟩;have tg: ∀ (M':Mp) (q':WK),Dr M' d l ->NB d M M' ->(∀ (n:Str) (M2:Mp),Nm n ->Dr M2 d l ->NB d M M2 ->q' (ws n) M2) ->yQ [wr d,wr nl] M' q':=λM' q' D' b' k'=>#[d,l,nl,ns,rfl,D',by rw[b' nl wE];show iW,wE,n0,tP,λn M2 hn D2 b2=>k' n M2 hn D2 (NB.trans b' b2)]
 have fs: ∀M':Mp,NB d M M' ->Fs d M M':=λM' b a o h n=>by rw[b a n];show h
 dsimp?! [];exact tg M _ hD (λ_ _=>rfl) λn M1 hn D1 b1=> ?_;dsimp?! [];exact tg M1 _ D1 b1 λx M2 hx D2 b2=> ?_;dsimp?! [];exact#[d,l,8,rfl,D2,⋯,⋯,λwy M3 w0 w1 D3 b3=> ?_];replace b3:=NB.trans b2 b3;dsimp?! [];exact di (λh=> ?_) λh=> ?_;dsimp?! [];exact#[d,l,rfl,D3,λu ds M4 hu hM hl hw D4 F4=> ?_];dsimp?! [];show dY (k (.tell n ds) _ M4 #[u,rfl,hM] #[hn,hl,hw] (λa n' e=>by cases e;rw[<- b3 u (D3.ne hu).1];show hu) D4 (λa o h n=>F4 a o (by rw[b3 a n];show h) n));dsimp?! [];exact di (λh=> ?_) λh=> ?_;dsimp?! [];exact tg M3 _ D3 b3 λy M4 hy D4 b4=> ?_;dsimp?! [];show dY (k (.join n x y) _ M4 rfl #[hn,hx,hy] (λa n' e=>nomatch e) D4 (fs _ b4));dsimp?! [];exact di (λh=> ?_) λh=> ?_;dsimp?! [];show dY (k (.back n x) _ M3 rfl #[hn,hx] (λa n' e=>nomatch e) D3 (fs _ b3));dsimp?! [];exact di (λh=> ?_) λh=> ?_;dsimp?! [];exact#[d,l,7,rfl,D3,⋯,⋯,λy1 M4 y0 y2 D4 b4=> ?_];dsimp?! [];exact#[d,l,101,rfl,D4,⋯,⋯,λz1 M5 z0 z2 D5 b5=> ?_];dsimp?! [];exact#[d,l,2,rfl,D5,⋯,⋯,λr M6 r0 r1 D6 b6=> ?_];dsimp?! [];exact mR (λx=> ∃e:Int,cW (x=wi e) (-100<=e) (e<=100)) r0 (by change r< ((2:Nat):Int);omega) (λx hx=> ?_) ?_;simp![aT,List.not_mem_nil,or_false] at hx;obtain h | h:=hx <;>show#[_,h,by omega,by omega];rintro _ ⟨v,rfl,v0,v1⟩;dsimp?! [];show dY (k (.times n x v) _ M6 rfl #[hn,hx,v0,v1] (λa n' e=>nomatch e) D6 (fs _ (NB.trans (NB.trans (NB.trans b3 b4) b5) b6)));dsimp?! [];show dY (k (.drop n) _ M3 rfl hn (λa n' e=>nomatch e) D3 (fs _ b3))
def sW {K:WV}(T:fg K mg A):bD P w K mg base fi 2 A.l4 A.mq ["_law_stand","_law_deed"] (fK K Pz):=by
 exists T.pk.fn,["_law_stand","_law_deed","_law_names_here"],(ag (2\(eK (dU hr) ((pv 0)∪ai) ((pv 1)∪ai) (λ_ _=>rfl))) (ag (bi (aQ cX ((pv 1)∪ai) ay (a7 _)) (ag (bi (aQ (mS (K:=K) rfl) ((pv 1)∪ai) (pv 2) (by rfl)) (aj (aE (aJ (aa ay (aa (aJ ae) ae))))) aK) (aj (aE (aJ (aa ay (aa (ca gL (by rfl) T.jg Boot.«tuple» (aa (dy rfl (cU.of (sc:=_) (N:= ["_law_stand","_law_deed","_law_names_here"]) (own:= ["_law_name"]) (fr:= [1]) (N':= ["_law_name","_law_deed"])) (jZ (K:=K) rfl (pv 2)) (λ_ _ _ _=>(aX (i:=0) (by change(["_law_name","_law_deed"]:cA Str).Nodup;decide+kernel) rfl (by trivial))) ed (λ_ _ _ _=>(ud (aQ oZ (pv 0) ((pv 1)∪ai) (a7 _)))) (λ_ _ _ _=>(pv 0))) ae)) ae)))))) aK) (ag (bi (nS (jI (dU hr) ((pv 1)∪ai) ((pv 0)∪ai))) (aj (aE (aJ (aa ay (aa (aJ ae) ae))))) aK) (ag (bi (aQ (uS (K:=K) rfl) ((pv 1)∪ai) (pv 2) (by rfl)) (aj (aE (aJ (aa ay (aa (aJ ae) ae))))) aK) (ag (bi (aQ AB (bh (dM (K:=K) rfl) (by rfl) T.gN Boot.«len» (aa (pv 2) ae)) ai (a7 _)) (aj (aE (aJ (aa ay (aa (aJ ae) ae))))) aK) (ag (bi (dE (ax T.EM (uW T) hr (aa (eK (dU hr) ((pv 0)∪ai) ((pv 1)∪ai) (λ_ _=>rfl)) (aa ai (aa ai ae))))) (aj (aE (aJ (aa ay (aa (aJ ae) ae))))) aK) (aj (aE (aJ (aa ay (aa (bL EB (pv 2) (aJ (aa ((pv 1)∪ai) ae))) ae)))))))))))
 rintro vs M q ⟨r,t,R,T',d,w,l,rfl,⟨iO,ht⟩,⟨hm,hc⟩,hD,hg,⟨hl,hR⟩,kq,ke⟩;cases d with
 | found c=>cases hm
 | disband c=>cases hm
 | enlist c n=>
  cases hD;replace hg:cw T' c=some l:=hg;have bad: ∀f,nV R l (.enlist c n)= .bad f -> ∃M0,Sm M0 M /\ q (.tup [ws (Cu f), .tup []]) M0:=λf h=>dY (ke f h);dsimp?! [ht,cF,hg,bB,k_enlist_dismiss,iO,bW];cases hx:cw R n with
  | none=>dsimp?! [db,aU];show bad .NoRound (by rw[nV,hx])
  | some a=>
  dsimp?! [cj,aG];exact uj ?_;cases hi:rW n l with
  | true=>dsimp?! [];show bad .Taken (by rw[nV,hx];show ao hi)
  | false=>
  have GK:¬rW n l=true:=by rw[hi];decide
  dsimp?! [fk,af];by_cases h6:6<=l.length;have e6:decide ((6:Int) <=(l.length:Int))=true:=a6 (by omega);dsimp?! [e6];show bad .TooMany (by rw[nV,hx];dsimp only;rw[ak GK,ao h6]);have e6:decide ((6:Int) <=(l.length:Int))=false:=aF (by omega);dsimp?! [e6,iO,cF,hx,bB];let⟨z,hz,_,rfl⟩:=d4 hx;exact#[z.2,8,24,rfl,by have:=hR z hz;omega,?_];cases hf:gl z.2 8 24 with
  | true=>dsimp?! [];show bad .TooFar (by rw[nV,hx];dsimp only;rw[ak GK,ak h6,ao hf])
  | false=>
   dsimp?! [];exact#[big (by rw[af];simp;omega),?_];have el:W.tup (l.map ws++ [ws n])=fk (l++ [n]):=by unfold fk;rw[aA];rfl
   rw[el];show dY (kq _ (by rw[nV,hx];dsimp only;rw[ak GK,ak h6,ak (by rw[hf];decide)]))
 | dismiss c n=>
  cases hD;replace hg:cw T' c=some l:=hg;dsimp?! [ht,cF,hg,bB,bI];exact nW ?_;cases hi:rW n l with
  | false=>dsimp?! [aU];show dY (ke .NoRound (by rw[nV];show ao hi))
  | true=>dsimp?! [aG,fk];exact vP (λm=>decide (m≠n)) ws (big (by omega)) (λ_ _=>trivial) ?_ λu hu=> ?_;intro m hm M3 N3 s3 jo;dsimp?! [];by_cases h:m=n;rw[aF ⇑h] at jo;rw[a6 h];show jo;rw[a6 h] at jo;rw[aF h];show jo;dsimp?! [am];show#[M,a5 hu,kq _ (by rw[nV];show ak (by rw[hi];decide))]
def wA {K:WV}(T:fg K mg A):bD P w K mg base fi 3 A.pI A.pV ["_law_stand","_law_deed"] (fK K Wa):=by
 exists T.vg.fn,["_law_stand","_law_deed","_law_crews","_law_told"],(ag (2\(ca kf (by rfl) T.zB Boot.«dict» (aa ((pv 0)∪ai) ae))) (ag (bi (aQ cX ((pv 1)∪ai) ay (a7 _)) (ag (bi (dS (dE (ax T.qL (o_ T) hr (aa ((pv 1)∪ai) ae)))) (aj (aE (aJ (aa ay (aa (pv 0) ae))))) aK) (ag (bi (nS (Cy (dU hr) ((pv 1)∪ai) (pv 2))) (aj (aE (aJ (aa ay (aa (pv 0) ae))))) aK) (ag (mQ (dU hr) (pv 2) ((pv 1)∪ai) (aJ ae) rfl) (aj (aE (aJ (aa ay (aa (aJ (aa ((pv 0)∪ai) (aa (pv 2) ae))) ae)))))))) aK) (ag (bi (nS (jI (dU hr) ((pv 1)∪ai) (pv 2))) (aj (aE (aJ (aa ay (aa (pv 0) ae))))) aK) (ag (bi (aQ cX ((pv 1)∪ai) ay (a7 _)) (ag (bF (Ay (pv 2) ((pv 1)∪ai) #[by rfl,by rfl,by rfl,by rfl])) (aj (aE (aJ (aa ay (aa (aJ (aa ((pv 0)∪ai) (aa (pv 2) ae))) ae)))))) aK) (ag (3\(ax T.pk (sW T) hr (aa (pv 0) (aa (pv 1) ae)))) (ag (bi (aQ oZ ((pv 3)∪ai) ay (a7 _)) (aj (aE (aJ (aa ((pv 3)∪ai) (aa (pv 0) ae))))) aK) (ag (mQ (dU hr) (pv 2) ((pv 1)∪ai) ((pv 3)∪ai) rfl) (aj (aE (aJ (aa ay (aa (aJ (aa ((pv 0)∪ai) (aa (pv 2) ae))) ae))))))))))))
 rintro vs M q ⟨r,t,R,T',d,w,rfl,⟨iO,ht⟩,hc,hD,hT,hR,kq,ke⟩;dsimp?! [ht];intro u hu;have st:=a5 hu (o:= .dK (qg T'));have m7:um M u (.dK (qg T')) u=some (.dK (qg T')):=am;have hsz:((qg T').length<sizeLine)=True:=au (kh (by rw[oy];have:=hT.len;omega));have mem: ∀ (d:gf) (w:W) (q':WK),J8 d ->BW d ->DA M (.c d) w -> ∀l,cw T' (Oi d)=some l ->(∀l',nV R l d= .ok l' ->q' (.tup [ws "",fk l']) (um M u (.dK (qg T')))) ->(∀f,nV R l d= .bad f ->q' (.tup [ws (Cu f), .tup []]) (um M u (.dK (qg T')))) ->Pz [.tup [wr r,wr t],w] (um M u (.dK (qg T'))) q':=λd w q' hm hc hD l hg h1 h2=>#[r,t,R,T',d,w,l,rfl,#[st _ _ iO,st _ _ ht],#[hm,hc],hD.sm st,hg,#[zm hT hg,hR],h1,h2]
 change hold _ _ (um M u (.dK (qg T')));generalize um M u (.dK (qg T'))=M1 at st m7 mem ⊢;have fin: ∀T2,cG R T' d= .ok T2 -> ∀M2,M2=um M1 u (.dK (qg T2)) -> ∃M0,Sm M0 M2 /\ q (.tup [ws "", .tup [wr r,wr u]]) M0:=λT2 h M2 e=>dY (kq T2 h u M2 (by rw[e];show st.um hu) (by rw[e];show am));have bad: ∀f,cG R T' d= .bad f -> ∃M0,Sm M0 M1 /\ q (.tup [ws (Cu f), .tup [wr r,wr t]]) M0:=λf h=>#[M,st,ke f h]
 cases d with
 | found c=>
  cases hD;dsimp?! [bI];exact#[c,rfl,hc,?_];cases jm:ci c with
  | false=>dsimp?! [aU];show bad .BadName (by rw[cG];show ao jm)
  | true=>
  have nZ:¬ci c=false:=by rw[jm];decide
  dsimp?! [aG,m7,cF,bW];cases hg:cw T' c with
  | some l=>dsimp?! [cj];show bad .Taken (by rw[cG,ak nZ,hg])
  | none=>dsimp?! [db,m7,hsz];exact fin (gV T' c []) (by rw[cG,ak nZ,hg]) _ ?_;show congrArg (λz=>um M1 u (.dK z)) (gB fk T' c [])
 | disband c=>
  cases hD;dsimp?! [k_disband_found,bI,m7,cF,bW];cases hg:cw T' c with
  | none=>dsimp?! [db,aU];show bad .NoCrew (by rw[cG,hg])
  | some l=>dsimp?! [cj,aG,bI,m7,cF,hg,bB];exact fin (oa T' c) (by rw[cG,hg]) _ ?_;rw[pO]
 | enlist c n=>
  cases hD;dsimp?! [k_enlist_found,k_enlist_disband,m7,cF,bW];cases hg:cw T' c with
  | none=>dsimp?! [db,aU];show bad .NoCrew (by rw[cG,hg])
  | some l=>
   have ec:=Bw (R:=R) (d:= .enlist c n) trivial hg;dsimp?! [cj,aG,k_enlist_disband];exact mem (.enlist c n) _ _ trivial hc rfl l hg (λl' h=> ?_) λf h=> ?_;have ef:decide (("" :Str)= "")=true:=by right
   dsimp?! [ef,bI,m7,hsz];exact fin _ (by rw[ec,h]) _ ?_;rw[gB];rfl;have Xm:decide (Cu f=Str.ofString "")=false:=aF (IP f);dsimp?! [Xm,aU];show bad f (by rw[ec,h])
 | dismiss c n=>
  cases hD;dsimp?! [k_dismiss_found,k_dismiss_disband,m7,cF,bW];cases hg:cw T' c with
  | none=>dsimp?! [db,aU];show bad .NoCrew (by rw[cG,hg])
  | some l=>
   have ec:=Bw (R:=R) (d:= .dismiss c n) trivial hg;dsimp?! [cj,aG,k_dismiss_disband];exact mem (.dismiss c n) _ _ trivial hc rfl l hg (λl' h=> ?_) λf h=> ?_;have ef:decide (("" :Str)= "")=true:=by right
   dsimp?! [ef,bI,m7,hsz];exact fin _ (by rw[ec,h]) _ ?_;rw[gB];rfl;have Xm:decide (Cu f=Str.ofString "")=false:=aF (IP f);dsimp?! [Xm,aU];show bad f (by rw[ec,h])
def Ju {K:WV}(T:fg K mg A):bD P w K mg base fi 7 A.Ff A.Fw ["_law_p_here","_law_stand","_law_deed"] (fK K Wb):=by
 exists T.PN.fn,["_law_p_here","_law_stand","_law_deed"],(ag (bi (aQ (uS (K:=K) rfl) ((pv 2)∪ai) (aJ (aa ay (aa ay (aa ay (aa ay ae))))) (by rfl)) (aj (aE (ax T.vg (wA T) hr (aa (pv 1) (aa (pv 2) ae))))) aK) (aj (aE (ax T.rR (uX T) hr (aa (pv 0) (aa (pv 1) (aa (pv 2) ae)))))))
 rintro vs M q ⟨p,r,t,R,T',dd,w,rfl,hp,⟨iO,ht⟩,hS,⟨hD,CY⟩,hO,kq,ke⟩;have inl: ∀ (x:Str) (M:Mp) (q':WK),q' (wb (rW x ["found","disband","enlist","dismiss"])) M ->YD false (ws x) (.tup [ws "found",ws "disband",ws "enlist",ws "dismiss"]) M q':=λx M q' h=>uj (l:= ["found","disband","enlist","dismiss"]) h;cases dd with
 | r d=>
  let⟨cQ,rfl⟩:=DV.head hD;have e0:gP (ws (kdOf d)::cQ) 0=some (ws (kdOf d)):=gd ⋯ rfl;have e1:rW (kdOf d) ["found","disband","enlist","dismiss"]=false:=by cases d<;>(simp![kdOf];decide+kernel)
  dsimp?! [e0];exact inl _ _ _ ?_;dsimp?! [e1];exact#[p,r,t,R,T',d,_,rfl,hp,#[iO,ht],#[hS.r,hS.t],hD,hO,λR' ho hR r' M' s _ hr2=>dY ?_,λf ho=>dY (ke f (by rw[za,ho]))];let⟨hk,hl⟩:=Ni ho hS.k;show kq R' T' (by rw[za,ho]) (λh _=>#[hR.2 h,hS.t,hk,hS.m]) #[hl,by omega] r' t M' s hr2 (s _ _ ht)
 | c d=>
  let⟨kd,cQ,rfl,e1⟩: ∃ (k:Str) (cQ:cA W),w= .tup (ws k::cQ) /\ rW k ["found","disband","enlist","dismiss"]=true:=by cases d<;>cases hD<;>show#[_,_,rfl,by right]
  have e0:gP (ws kd::cQ) 0=some (ws kd):=gd ⋯ rfl;dsimp?! [e0];exact inl _ _ _ ?_;dsimp?! [e1];exact#[r,t,R,T',d,_,rfl,#[iO,ht],hO,hD,hS.t,λz hz=>by have:=(hS.r.ok z hz).2.1;omega,λT2 ho t' M' s ht2=>dY ?_,λf ho=>dY (ke f (by rw[za,ho]))];let⟨hk,hl⟩:=Og hO hS.t ho;show kq R T2 (by rw[za,ho]) (λ_ h=>#[hS.r,hk h,hS.k,Oh hO hS.m ho]) #[by omega,hl] r t' M' s (s _ _ iO) ht2
 | _=>cases CY
def Jt {K:WV}(T:fg K mg A):bD P w K mg base (iV P w) 7 A.Fc A.Ft ["_law_book","_law_deed"] (t_ K (V6 AF A.aW A.bq (vR A))):=by
 exact y9 T.PM.fn Ah (by rintro vs M q e ⟨b,la,lu,lh,now,p,S,dd,w,rfl,_⟩;rfl) λcdv A' outer s H E e hr hF hP=> ?_;have nd:=Ah.nd;exact#[_,(ag (bi (aQ cX ((pv 1)∪ai) ay (a7 _)) (ag (2\(ca eV (by rfl) T.gZ Boot.«list» (aa ((pv 1)∪ai) ae))) (ag (3\(cr hP T.yj (yY T) (hr.mono ⋯) (pv 0) (aa ((pv 1)∪ai) (aa (pv 2) ae)))) (ag (bi (aQ (show i6 _ _ (Aw K) from qD (by show hr.Ua)) (pv 2) (ca eV (by rfl) T.gZ Boot.«list» (aa ((pv 1)∪ai) ae)) (a7 _)) (aj (aE ay)) aK) (ag (bF (eN aL bt br c9 (pv 2) (aa (aJ (aa ay (aa ai ae))) ae))) (aj (aE (pv 3))))))) aK) (ag (bi (aQ cX ((pv 1)∪ai) ay (a7 _)) (aj (aE (cr hP T.qb (sY T) (hr.mono ⋯) (pv 0) (aa ((pv 1)∪ai) (aa (((pv 1)∪ai)∪ai) (aa (((pv 1)∪ai)∪ai) ae)))))) aK) (ag (bi (aQ cX ((pv 1)∪ai) ay (a7 _)) (aj (aE (cr hP T.qf (tf T) (hr.mono ⋯) (pv 0) (aa ((pv 1)∪ai) (aa (((pv 1)∪ai)∪ai) ae))))) aK) (ag (bi (aQ cX ((pv 1)∪ai) ay (a7 _)) (aj (aE (cr hP T.nM (qF T) (hr.mono ⋯) (pv 0) (aa ((pv 1)∪ai) (aa (((pv 1)∪ai)∪ai) (aa ((pv 1)∪ai) ae)))))) aK) (ag (bi (aQ cX ((pv 1)∪ai) ay (a7 _)) (aj (aE (cr hP T.ym (y8 T) (hr.mono ⋯) (pv 0) (aa ((pv 1)∪ai) ae)))) aK) (ag (bi (aQ cX ((pv 1)∪ai) ay (a7 _)) (aj (aE (cr hP T.wg (wD T) (hr.mono ⋯) (pv 0) (aa ((pv 1)∪ai) ae)))) aK) (ag (bi (aQ cX ((pv 1)∪ai) ay (a7 _)) (aj (aE (cr hP T.qe (s_ T) (hr.mono ⋯) (pv 0) (aa ((pv 1)∪ai) ae)))) aK) (ag (bi (aQ cX ((pv 1)∪ai) ay (a7 _)) (aj (aE (cr hP T.sP (u4 T) (hr.mono ⋯) (pv 0) (aa ((pv 1)∪ai) (aa ((pv 1)∪ai) ae))))) aK) (ag (bi (aQ cX ((pv 1)∪ai) ay (a7 _)) (aj (aE (cr hP T.qc (sZ T) (hr.mono ⋯) (pv 0) (aa ((pv 1)∪ai) (aa ((pv 1)∪ai) ae))))) aK) (ag (bi (aQ cX ((pv 1)∪ai) ay (a7 _)) (aj (aE (xr hP T.yi (yX T) (hr.mono ⋯) (pv 0)))) aK) (ag (bi (aQ cX ((pv 1)∪ai) ay (a7 _)) (aj (aE (xr hP T.yk (yZ T) (hr.mono ⋯) (pv 0)))) aK) (ag (bi (aQ cX ((pv 1)∪ai) ay (a7 _)) (aj (aE (iq T.yl (y3 T) (hr.mono ⋯) (pv 0)))) aK) (aj (aE (cr hP T.mK (pf T) (hr.mono ⋯) (pv 0) (aa ((pv 1)∪ai) ae)))))))))))))))),?_];try dsimp only[eI]
 exact#[_,inferInstance,?_];rintro vs M q ⟨b,la,lu,lh,now,p,S,dd,w,rfl,⟨hD,CY⟩,hF',hO,Qk,NU,kq,ke⟩;have hB:=Qk.bk;have hS:=NU.bk;let⟨dx,hb⟩:=hB.ob;have up: ∀C,e C M ->WL.up e C M:=λC h=>#[M,Sm.refl M,h]
 have pg2: ∀z:Rm×Tm,za p S.R S.T dd= .ok z ->vj dd ->sQ A.aW A.bq M b la lh p now (S.past.map (·.1)) (S.held.map (·.1)) z.1 z.2 q:=λz h hi=>Lc Qk (kq _ _ (by rw[Jy hi,h]));have pb2: ∀f,za p S.R S.T dd= .bad f ->vj dd ->e (vR A f) M:=λf h hi=>ke f (by rw[Jy hi,h]);cases dd with
 | r d=>
  have kq: ∀R',cC p S.R S.T d= .ok R' ->sQ A.aW A.bq M b la lh p now (S.past.map (·.1)) (S.held.map (·.1)) R' S.T q:=λR' h=>pg2 (R',S.T) (by rw[za,h]) trivial;have ke: ∀f,cC p S.R S.T d= .bad f ->e (vR A f) M:=λf h=>pb2 f (by rw[za,h]) trivial;cases d with
  | tell n ds=>let⟨c,rfl,hc⟩:=hD;exact Ho rfl ?_;dsimp?! [hc];intro h hh;have s1:Sm M (um M h (.lst (ds.map fV))):=a5 hh;have Zg:=bY hb hh;dsimp?! [aP Zg,hb,Om];exact#[b,la,lu,lh,now,p,_,_,_,_,_, .tell n ds,_,rfl,#[n,h,ds,rfl,rfl,am],hO,hB.sm s1,hS,λR' ho M' eL pg B' F tO vz=> ?_,λr ho=>#[M,s1,ke r ho]];have nah:=bY hB.pa hh;have PF:=bY hB.he hh;have nuh:h≠eL:=bY am tO;have ZD:M' c=some (.lst (ds.map fV)):=F _ _ (s1 _ _ hc) (λz=>by subst z;rw[hb] at hc;cases hc) (λz=>by subst z;show hF' _ rfl);have Xl:M' h=some (.lst (ds.map fV)):=F _ _ am Zg.symm nah.symm;dsimp?! [ZD];intro g hg;exact nX (DR.list KU (by rw[aP (bY Xl hg)];show Xl)) (DR.list KU am) (Tr ds) rfl ?_;have hsz:((ds.map fV).length<sizeLine)=True:=au (kh (by rw[af];have:=hO.2;omega));dsimp?! [aP (bY Xl hg),Xl,hsz];show#[IN M' h,MC (a5 hg),kq R' ho _ eL pg (B'.IN Xl nah nuh.symm PF) (F.IN s1 hh) (s1.free tO) (s1.free vz)]
  | join n x y=>cases hD;exact eX rfl k_join_tell (Ho rfl ?_);dsimp?! [hb,Dh];exact#[b,la,lu,lh,now,p,_,_,_,_,_, .join n x y,_,rfl,#[n,x,y,rfl,rfl],hO,hB,hS,λR' ho M' eL pg B' F tO vz=> ?_,λr ho=>up _ (ke r ho)];dsimp?! [];show dY (kq R' ho M' eL pg B' F tO vz)
  | back n x=>cases hD;exact eX rfl k_back_tell (eX rfl k_back_join (Ho rfl ?_));dsimp?! [hb,Dk];exact#[b,la,lu,lh,now,p,_,_,_,_,_, .back n x,_,rfl,#[n,x,rfl,rfl],hO,hB,hS,λR' ho M' eL pg B' F tO vz=> ?_,λr ho=>up _ (ke r ho)];dsimp?! [];show dY (kq R' ho M' eL pg B' F tO vz)
  | times n x j=>cases hD;exact eX rfl k_times_tell (eX rfl k_times_join (eX rfl k_times_back (Ho rfl ?_)));dsimp?! [hb,BA];exact#[b,la,lu,lh,now,p,_,_,_,_,_, .times n x j,_,rfl,#[n,x,j,rfl,rfl],hO,hB,hS,λR' ho M' eL pg B' F tO vz=> ?_,λr ho=>up _ (ke r ho)];dsimp?! [];show dY (kq R' ho M' eL pg B' F tO vz)
  | drop n=>cases hD;exact eX rfl k_drop_tell (eX rfl k_drop_join (eX rfl k_drop_back (eX rfl k_drop_times (Ho rfl ?_))));dsimp?! [hb,Oq];exact#[b,la,lu,lh,now,p,_,_,_,_,_, .drop n,_,rfl,#[n,rfl,rfl],hO,hB,hS,λR' ho M' eL pg B' F tO vz=> ?_,λr ho=>up _ (ke r ho)];dsimp?! [];show dY (kq R' ho M' eL pg B' F tO vz)
 | c d=>
  have kq: ∀T',cG S.R S.T d= .ok T' ->sQ A.aW A.bq M b la lh p now (S.past.map (·.1)) (S.held.map (·.1)) S.R T' q:=λT' h=>pg2 (S.R,T') (by rw[za,h]) trivial;have ke: ∀f,cG S.R S.T d= .bad f ->e (vR A f) M:=λf h=>pb2 f (by rw[za,h]) trivial;have hT:=NU.s.t;cases d with
  | found c=>cases hD;exact eX rfl k_found_tell (eX rfl k_found_join (eX rfl k_found_back (eX rfl k_found_times (eX rfl k_found_drop (Ho rfl ?_)))));dsimp?! [hb,K7];exact#[b,la,lu,lh,now,p,_,_,_,_,_, .found c,_,rfl,#[c,rfl,rfl],hO,hB,hS,hT,λR' ho M' eL pg B' F tO vz=> ?_,λr ho=>up _ (ke r ho)];dsimp?! [];show dY (kq R' ho M' eL pg B' F tO vz)
  | disband c=>cases hD;exact eX rfl k_disband_tell (eX rfl k_disband_join (eX rfl k_disband_back (eX rfl k_disband_times (eX rfl k_disband_drop (eX rfl k_disband_found (Ho rfl ?_))))));dsimp?! [hb,Dj];exact#[b,la,lu,lh,now,p,_,_,_,_,_, .disband c,_,rfl,#[c,rfl,rfl],hO,hB,hS,hT,λR' ho M' eL pg B' F tO vz=> ?_,λr ho=>up _ (ke r ho)];dsimp?! [];show dY (kq R' ho M' eL pg B' F tO vz)
  | enlist c n=>cases hD;exact eX rfl k_enlist_tell (eX rfl k_enlist_join (eX rfl k_enlist_back (eX rfl k_enlist_times (eX rfl k_enlist_drop (eX rfl k_enlist_found (eX rfl k_enlist_disband (Ho rfl ?_)))))));dsimp?! [hb,G3];exact#[b,la,lu,lh,now,p,_,_,_,_,_, .enlist c n,_,rfl,#[c,n,rfl,rfl],hO,hB,hS,hT,λR' ho M' eL pg B' F tO vz=> ?_,λr ho=>up _ (ke r ho)];dsimp?! [];show dY (kq R' ho M' eL pg B' F tO vz)
  | dismiss c n=>cases hD;exact eX rfl k_dismiss_tell (eX rfl k_dismiss_join (eX rfl k_dismiss_back (eX rfl k_dismiss_times (eX rfl k_dismiss_drop (eX rfl k_dismiss_found (eX rfl k_dismiss_disband (eX rfl k_dismiss_enlist (Ho rfl ?_))))))));dsimp?! [hb,Di];exact#[b,la,lu,lh,now,p,_,_,_,_,_, .dismiss c n,_,rfl,#[c,n,rfl,rfl],hO,hB,hS,hT,λR' ho M' eL pg B' F tO vz=> ?_,λr ho=>up _ (ke r ho)];dsimp?! [];show dY (kq R' ho M' eL pg B' F tO vz)
 | undo=>cases hD;exact eX rfl k_undo_tell (eX rfl k_undo_join (eX rfl k_undo_back (eX rfl k_undo_times (eX rfl k_undo_drop (eX rfl k_undo_found (eX rfl k_undo_disband (eX rfl k_undo_enlist (eX rfl k_undo_dismiss (Ho rfl ?_)))))))));dsimp?! [hb,Ol];exact Mq Qk NU.un (λh=>up _ (ke .NoMore (by rw[oA,h];rfl))) λz l h M' B' F=> ?_;dsimp?! [];show dY (kq _ _ (by rw[oA,h,List.getLast?_concat,List.dropLast_concat]) M' lu z.1 B' F (.inl rfl))
 | redo=>cases hD;exact eX rfl k_redo_tell (eX rfl k_redo_join (eX rfl k_redo_back (eX rfl k_redo_times (eX rfl k_redo_drop (eX rfl k_redo_found (eX rfl k_redo_disband (eX rfl k_redo_enlist (eX rfl k_redo_dismiss (eX rfl k_redo_undo (Ho rfl ?_))))))))));dsimp?! [hb,Oo];exact MD Qk NU.pa (λh=>up _ (ke .NoMore (by rw[oA,h];rfl))) λz l h M' B' F=> ?_;dsimp?! [];show dY (kq _ _ (by rw[oA,h,List.getLast?_concat,List.dropLast_concat]) M' lu z.1 B' F (.inl rfl))
 | hold=>cases hD;exact eX rfl k_hold_tell (eX rfl k_hold_join (eX rfl k_hold_back (eX rfl k_hold_times (eX rfl k_hold_drop (eX rfl k_hold_found (eX rfl k_hold_disband (eX rfl k_hold_enlist (eX rfl k_hold_dismiss (eX rfl k_hold_undo (eX rfl k_hold_redo (Ho rfl ?_)))))))))));dsimp?! [hb,Op];exact NO Qk NU.he λM' B' F=> ?_;dsimp?! [];show dY (kq _ _ rfl M' lu now B' F (.inl rfl))
 | ret k=>cases hD;exact eX rfl k_return_tell (eX rfl k_return_join (eX rfl k_return_back (eX rfl k_return_times (eX rfl k_return_drop (eX rfl k_return_found (eX rfl k_return_disband (eX rfl k_return_enlist (eX rfl k_return_dismiss (eX rfl k_return_undo (eX rfl k_return_redo (eX rfl k_return_hold (?_))))))))))));dsimp?! [hb,zA];exact Rs Qk NU.pa NU.he (bx CY ⋯) (λh=>up _ (ke .NoState ?_)) λz k0 h M' eL B' F hu=> ?_;rw[oA];split;rename_i k0;rw[List.getElem?_eq_none (by have:=λh2=>h #[k0,h2];omega)];rfl;dsimp?! [];show dY (kq _ _ (by rw[oA,ao k0,h]) M' eL z.1 B' F (.inr hu))
def Gm {K:WV}(T:fg K mg A):bD P w K mg base fi 8 A.Bc A.Bq ["_law_book","_law_deed"] (fK K (RU AF A.aW A.bq)):=by
 exists T.JP.fn,["_law_book","_law_deed","_law_told","_law_value_here"],(ag (2\ay) (ag (3\jl) (ag (MG (iy:=3) rfl rfl T.PM (Jt T) (hr.mono ⋯) (by rfl) (aa (pv 0) (aa (pv 1) ae)) nd rfl (by rfl) (BH.cons (by rfl) T.wZ (λea=>(aj (2\ay))) (BH.cons (by rfl) T.zV (λea=>(aj (2\ay))) (BH.cons (by rfl) T.qj (λea=>(aj (2\ay))) (BH.cons (by rfl) T.zW (λea=>(aj (2\ay))) (BH.cons (by rfl) T.yn (λea=>(aj (2\ay))) (BH.cons (by rfl) T.DE (λea=>(aj (2\ay))) (BH.cons (by rfl) T.wX (λea=>(aj (2\ay))) (BH.cons (by rfl) T.om (λea=>(aj (2\ay))) (BH.cons (by rfl) T.uv (λea=>(aj (2\ay))) (BH.cons (by rfl) T.wY (λea=>(aj (2\ay))) BH.nil))))))))))) (aj (aE (aJ (aa (pv 2) (aa (pv 3) ae))))))))
 rintro vs M q ⟨b,la,lu,lh,now,p,S,dd,w,rfl,hD,hF',hO,Qk,NU,kq,ke⟩;dsimp?! [];exact#[b,la,lu,lh,now,p,S,dd,w,rfl,hD,hF',hO,Qk,NU,λS' v ho M' eL Gr B' F tO=> ?_,λr ho ea E3=> ?_];dsimp?! [];show dY (kq S' v ho M' eL Gr B' F tO);have fin: ∃M0,Sm M0 (um M ea (.exc (vR A r))) /\ q (.tup [ws (Cu r),wn]) M0:=#[M,a5 E3,ke r ho]
 cases r with
 | BadName=>exact nK ?_;dsimp?! [];show fin
 | NoDeed=>exact cE T.rf (nK ?_);dsimp?! [];show fin
 | NoRound=>exact cE T.pD (cE T.q_ (nK ?_));dsimp?! [];show fin
 | NoCrew=>exact cE T.rh (cE T.tL (cE T.rg (nK ?_)));dsimp?! [];show fin
 | Taken=>exact cE T.tF (cE T.vq (cE T.tE (cE T.vt (nK ?_))));dsimp?! [];show fin
 | InUse=>exact cE T.tN (cE T.vx (cE T.tM (cE T.vy (cE T.wG (nK ?_)))));dsimp?! [];show fin
 | TooMany=>exact cE T.pz (cE T.qR (cE T.py (cE T.qS (cE T.tt (cE T.tw (nK ?_))))));dsimp?! [];show fin
 | TooFar=>exact cE T.qV (cE T.tz (cE T.qU (cE T.tD (cE T.vo (cE T.vp (cE T.qT (nK ?_)))))));dsimp?! [];show fin
 | NoMore=>exact cE T.re (cE T.tJ (cE T.rb (cE T.tK (cE T.vv (cE T.vw (cE T.ra (cE T.tI (nK ?_))))))));dsimp?! [];show fin
 | NoState=>exact cE T.pC (cE T.qY (cE T.pB (cE T.qZ (cE T.tG (cE T.tH (cE T.pA (cE T.qW (cE T.qX (nK ?_)))))))));dsimp?! [];show fin
def Js {K:WV}(T:fg K mg A):bD P w K mg base fi 1 A.E_ A.Fo ["one"] (fK K Jk):=by
 exists T.shown.fn,["one","end","pattern"],(ag (f6 (pv 0) (d9 (n:=2) rfl (bp (aX (i:=1) nd rfl (by trivial)) (bp (aX (i:=2) nd rfl (by trivial)) dj)))) (aj (aE (bL gC (eJ (bK (lM (pv 1)) (bK ay fD))) (eN dt c6 dN (show Hu _ _ (oU K) from j7) ay (aa (dy rfl (cU.of (sc:=_) (N:= ["one","end","pattern"]) (own:= ["place","setting"]) (fr:= []) (N':= ["place","setting"])) (jZ (K:=K) rfl (pv 2)) (λ_ _ _ _=>(d9 (n:=2) rfl (bp (aX (i:=0) (by change(["place","setting"]:cA Str).Nodup;decide+kernel) rfl (by trivial)) (bp (aX (i:=1) (by change(["place","setting"]:cA Str).Nodup;decide+kernel) rfl (by trivial)) dj)))) gc (λ_ _ _ _=>dw) (λ_ _ _ _=>(eJ (bK ay (bK (lM (pv 0)) (bK ay (bK (lM (pv 1)) fD))))))) ae))))))
 rintro vs M q ⟨a,rfl,hl,⟨hn,hz⟩,k⟩;have l1:=fq hn;have lc:(Str.ofString ":").length=1:=by right
 have lb:(Str.ofString " ").length=1:=by right
 have le:(Str.ofString "=").length=1:=by right
 have l0:(Str.ofString "").length=0:=by right
 dsimp?! [gv,gj,au (f9 hn),xQ];exact#[bg (by omega),?_];dsimp?! [];exact#[bg (by rw[bz];omega),?_];dsimp?! [];exact#[bg (by rw[bz];omega),?_];dsimp?! [];exact e8 (λz=>ws (" " ++fQ z)) (big (by omega)) (λ_ _=>trivial) ?_ λt ht=> ?_;intro z CW M3 N3 s3 jo;have GJ:=hz z CW;have n1:=fq GJ.1;have n2:=fq GJ.2;dsimp?! [bV,xQ];exact#[bg (by omega),?_];dsimp?! [bV,au (f9 GJ.1),au (f9 GJ.2)];exact#[bg (by rw[bz];omega),?_];dsimp?! [];exact#[bg (by rw[bz,bz];omega),?_];dsimp?! [au (f9 GJ.2)];exact#[bg (by rw[bz,bz,bz];omega),?_];dsimp?! [];exact#[bg (by rw[bz,bz,bz];omega),?_];rw[show Str.ofString " " ++Str.ofString (toString z.1)++Str.ofString "=" ++Str.ofString (toString z.2)=Str.ofString " " ++fQ z by rw[fQ,rB,rB,rB]];show jo;have dJ: ∀x∈a.2.map (λz=>Str.ofString " " ++fQ z),x.length<=124:=λx hx=>by let⟨z,CW,rfl⟩:=bX.mp hx;have:=ve (hz z CW);rw[bz];omega
 have hml:(a.2.map λz=>Str.ofString " " ++fQ z).length*(124+(Str.ofString "").length) <=200000:=by rw[af,l0];omega
 have hsz:(200000:Nat) <=sizeLine:=by rw[cR];decide
 exact qP (ss:=a.2.map λz=>Str.ofString " " ++fQ z) (c:=124) (by rw[am,aZ];rfl) dJ (ar hml hsz) ?_;have hgl:=gb (Str.ofString "") (a.2.map λz=>Str.ofString " " ++fQ z) dJ;dsimp?! [];exact#[ar (m:=300000) (by rw[bz];omega) (by rw[cR];decide),?_];show#[M,a5 ht,k]
def CG {K:WV}(T:fg K mg A):bD P w K mg base fi 1 A.xN A.xV ["_law_one"] (fK K Jk):=by
 exists T.EK.fn,["_law_one","_law_words"],(ag (1\(dP (aa (bL gC (ca mW (by rfl) T.FC Boot.«str» (aa ((pv 0)∪ai) ae)) ay) ae))) (ag (bF (eN aL PySem.F.slot_list_extend PySem.F.type_list_extend mT (pv 1) (aa (dy rfl (cU.of (sc:=_) (N:= ["_law_one","_law_words"]) (own:= ["_law_place","_law_setting"]) (fr:= []) (N':= ["_law_place","_law_setting"])) (jZ (K:=K) rfl ((pv 0)∪ai)) (λ_ _ _ _=>(d9 (n:=2) rfl (bp (aX (i:=0) (by change(["_law_place","_law_setting"]:cA Str).Nodup;decide+kernel) rfl (by trivial)) (bp (aX (i:=1) (by change(["_law_place","_law_setting"]:cA Str).Nodup;decide+kernel) rfl (by trivial)) dj)))) gc (λ_ _ _ _=>dw) (λ_ _ _ _=>(bL gC (bL gC (ca mW (by rfl) T.FC Boot.«str» (aa (pv 0) ae)) ay) (ca mW (by rfl) T.FC Boot.«str» (aa (pv 1) ae))))) ae))) (aj (aE (eN dt c6 dN (show Hu _ _ (oU K) from j7) ay (aa (pv 1) ae))))))
 rintro vs M q ⟨a,rfl,hl,⟨hn,hz⟩,k⟩;have l1:=fq hn;have lc:(Str.ofString ":").length=1:=by right
 have lb:(Str.ofString " ").length=1:=by right
 have le:(Str.ofString "=").length=1:=by right
 dsimp?! [gv,gj,au (f9 hn)];exact#[bg (by omega),?_];intro t ht;dsimp?! [];exact e8 (λz=>ws (fQ z)) (big (by omega)) (λ_ _=>trivial) ?_ λu hu=> ?_;intro z CW M3 N3 s3 jo;have GJ:=hz z CW;have n1:=fq GJ.1;have n2:=fq GJ.2;dsimp?! [bV,au (f9 GJ.1),au (f9 GJ.2)];exact#[bg (by omega),?_];dsimp?! [au (f9 GJ.2)];exact#[bg (by rw[bz];omega),?_];show jo;have htu:t≠u:=bY am hu;have Xh:(1+(a.2.map λz=>ws (fQ z)).length<=sizeLine)=True:=au (by rw[af];show big (by omega));dsimp?! [aP htu,Xh];have hsm:Sm M (um (um (um M t (.lst [ws (Str.ofString (toString a.1)++Str.ofString ":")])) u (.lst (a.2.map λz=>ws (fQ z)))) t (.lst ([ws (Str.ofString (toString a.1)++Str.ofString ":")]++a.2.map λz=>ws (fQ z)))):=λc o e=>by
  have nt:=bY e ht;have h2:um M t (.lst [ws (Str.ofString (toString a.1)++Str.ofString ":")]) c=some o:=by rw[aP nt];show e
  rw[aP nt,aP (bY h2 hu)];show h2
 have dJ: ∀x∈((toString a.1:Str)++Str.ofString ":")::a.2.map fQ,x.length<=124:=λx hx=>by obtain rfl | hx:=aT.mp hx;rw[bz];omega;let⟨z,CW,rfl⟩:=bX.mp hx;have:=ve (hz z CW);omega
 exact qP (ss:=((toString a.1:Str)++Str.ofString ":")::a.2.map fQ) (c:=124) ?_ dJ ?_ ?_;rw[am,aN,aZ];rfl;exact ar (m:=200000) ?_ (by rw[cR];decide);rw[aB,af,lb];omega;rw[<- Ag];show#[M,hsm,k]
def yW {K:WV}(T:fg K mg A):bD P w K mg base fi 3 A.sf A.sB ["book"] (fK K (xt A.aW A.bq)):=by
 have gA:=Fz (cY (P:=P) (w:=w) (base:=base) T);have hG:=Fz (kI (P:=P) (w:=w) (base:=base) T);exists T.book_text.fn,["book","rows"],(ag (1\(dP (aa (eJ (bK ay (bK (lM (iq T.nN (qG T) (hr.mono ⋯) (pv 0))) fD))) ae))) (ag (bF (eN aL PySem.F.slot_list_extend PySem.F.type_list_extend mT (pv 1) (aa (dy rfl (cU.of (sc:=_) (N:= ["book","rows"]) (own:= ["name"]) (fr:= [0]) (N':= ["name","book"])) (f7 (K:=K) rfl (iq T.oj (nw T) (hr.mono ⋯) (pv 0))) (λ_ _ _ _=>(aX (i:=0) (by change(["name","book"]:cA Str).Nodup;decide+kernel) rfl (by trivial))) ed (λ_ _ _ _=>dw) (λ_ _ _ _=>(eJ (bK ay (bK (gX (pv 0)) (bK ay (bK (gX (ax T.shown (Js T) hr (aa (ez T.dC gA (hr.mono ⋯) (pv 1) (aa (pv 0) ae)) ae))) fD))))))) ae))) (ag (bF (eN aL PySem.F.slot_list_extend PySem.F.type_list_extend mT (pv 1) (aa (dy rfl (cU.of (sc:=_) (N:= ["book","rows"]) (own:= ["crew"]) (fr:= [0]) (N':= ["crew","book"])) (f7 (K:=K) rfl (iq T.ol (ny T) (hr.mono ⋯) (pv 0))) (λ_ _ _ _=>(aX (i:=0) (by change(["crew","book"]:cA Str).Nodup;decide+kernel) rfl (by trivial))) ed (λ_ _ _ _=>dw) (λ_ _ _ _=>(RH (K:=K) rfl dt c6 dN (JF (K:=K) rfl) ay (aa (bL j5 (dP (aa ay (aa (pv 0) ae))) (ez T.kj hG (hr.mono ⋯) (pv 1) (aa (pv 0) ae))) ae)))) ae))) (aj (aE (eN dt c6 dN (show Hu _ _ (oU K) from j7) ay (aa (pv 1) ae)))))))
 rintro vs M q ⟨b,la,lu,lh,now,p,pa,un,he,R,T',rfl,hB,hp,hS,⟨Ut,Us⟩,k⟩;let⟨dx,hb⟩:=hB.ob;have pn:=fq (i:=p) (by omega);have pl:=f9 (i:=p) (by omega);have l9:(Str.ofString "settings ").length=9:=by right
 have l6:(Str.ofString "round ").length=6:=by right
 have l1:(Str.ofString " ").length=1:=by right
 dsimp?! [xQ];exact#[bg (by omega),?_];dsimp?! [hb,BB];exact#[b,la,lu,lh,now,p,pa,un,he,R,T',rfl,hB,?_];dsimp?! [au pl];exact#[bg (by rw[bz];omega),bg (by rw[bz];omega),?_];dsimp?! [];intro w hw;have s1:Sm M (um M w (.lst [ws (Str.ofString "settings " ++Str.ofString (toString p))])):=a5 hw;have Qe:um M w (.lst [ws (Str.ofString "settings " ++Str.ofString (toString p))]) w=some (.lst [ws (Str.ofString "settings " ++Str.ofString (toString p))]):=am;change hold _ _ (um M w (.lst [ws (Str.ofString "settings " ++Str.ofString (toString p))]));generalize um M w (.lst [ws (Str.ofString "settings " ++Str.ofString (toString p))])=M1 at s1 Qe ⊢;have ZE:=s1 _ _ hb;have Xx:=hB.sm s1;dsimp?! [Qe,ZE,BC];exact#[b,la,lu,lh,now,p,pa,un,he,R,T',rfl,Xx,by omega,λnl ns iW np nsr=> ?_];have hMw:M w=none:=hw;have s2:Sm M1 (um M1 nl (.lst (ns.map ws))):=a5 iW;have wt:um M1 nl (.lst (ns.map ws)) nl=some (.lst (ns.map ws)):=am;generalize um M1 nl (.lst (ns.map ws))=M2 at s2 wt ⊢;have nln:=np.length_eq;rw[af] at nln;dsimp?! [wt];exact e8 (λn=>ws (ik R n)) (big (by omega)) (λM' s=>s _ _ wt) ?_ λu hu=> ?_;intro n hn M3 N3 s3 jo;let⟨z,hz,rfl⟩:=bX.mp (np.mem_iff.mp hn);have iW:=hS.k z hz;let⟨a,hg⟩:=zn hz;have hB3:=Xx.sm (s2.trans s3);have hb3:=(s2.trans s3) _ _ ZE;let⟨y,hy,_,rfl⟩:=d4 hg;have jm:=zb (by omega) (hS.r.ok y hy).1 (hS.r.ok y hy).2.2;have hsl:=qu jm (hS.r.ok y hy).2.1;dsimp?! [xQ];exact#[bg (by omega),?_];dsimp?! [];exact#[bg (by omega),?_];dsimp?! [];exact#[bg (by rw[bz];omega),?_];dsimp?! [];exact#[bg (by rw[bz,bz];omega),?_];dsimp?! [hb3,eT];exact yA #[b,la,lu,lh,now,p,pa,un,he,R,T',_,rfl,hB3,iW,λa n6=> ?_,λn6=>by rw[hg] at n6;cases n6];rw[hg] at n6;cases n6;dsimp?! [];exact#[_,rfl,by have:=(hS.r.ok y hy).2.1;omega,jm,?_];dsimp?! [];exact#[kg (by omega),?_];dsimp?! [];exact#[kg (by rw[bz,bz,bz];omega),?_];dsimp?! [];exact#[kg (by rw[bz,bz,bz];omega),?_];have er:ik R z.1= "round " ++z.1++ " " ++jV y.2:=by unfold ik;rw[hg]
 rw[er] at jo;show jo;have s3:=s2.trans (a5 hu (o:= .lst (ns.map λn=>ws (ik R n))));have NK:=s3 _ _ Qe;have hu3:um M2 u (.lst (ns.map λn=>ws (ik R n))) u=some (.lst (ns.map λn=>ws (ik R n))):=am;generalize um M2 u (.lst (ns.map λn=>ws (ik R n)))=M3 at s3 NK hu3 ⊢;have z1:(1+(ns.map λn=>ws (ik R n)).length<=sizeLine)=True:=au (by rw[af];show big (by omega));dsimp?! [NK,hu3,z1];have f4: ∀a o,M a=some o ->um M3 w (.lst (ws (Str.ofString "settings " ++Str.ofString (toString p))::ns.map λn=>ws (ik R n))) a=some o:=λa o h=>by rw[aP (bY h hMw)];show s3 _ _ (s1 _ _ h)
 have Uq:um M3 w (.lst (ws (Str.ofString "settings " ++Str.ofString (toString p))::ns.map λn=>ws (ik R n))) w=some (.lst (ws (Str.ofString "settings " ++Str.ofString (toString p))::ns.map λn=>ws (ik R n))):=am;generalize um M3 w (.lst (ws (Str.ofString "settings " ++Str.ofString (toString p))::ns.map λn=>ws (ik R n)))=M4 at f4 Uq ⊢;have Xs:=f4 _ _ hb;have Uz:=hB.sm f4;dsimp?! [Uq,Xs,BD];exact#[b,la,lu,lh,now,p,pa,un,he,R,T',rfl,Uz,by omega,λcl cs k9 cp csr=> ?_];have s5:Sm M4 (um M4 cl (.lst (cs.map ws))):=a5 k9;have Ux:um M4 cl (.lst (cs.map ws)) cl=some (.lst (cs.map ws)):=am;generalize um M4 cl (.lst (cs.map ws))=M5 at s5 Ux ⊢;have cln:=cp.length_eq;rw[af] at cln;dsimp?! [Ux];exact KY (λn=>ws (qw T' n)) (big (by omega)) (λM' s=>s _ _ Ux) ?_ λv M7 hv s7 hv7=> ?_;intro n hn M6 N6 s6 hN6;let⟨z,hz,rfl⟩:=bX.mp (cp.mem_iff.mp hn);have iW:=hS.t.key z hz;have hg:=zk hS.t.nd hz;have hB6:=Uz.sm (s5.trans s6);have hb6:=(s5.trans s6) _ _ Xs;have er:qw T' z.1=Builtin.Str.glued " " ("crew" ::z.1::z.2):=by unfold qw;rw[hg]
 dsimp?! [];intro x1 Up;have hb7:um M6 x1 (.lst [ws "crew",ws z.1]) b=_:=a5 Up _ _ hb6;dsimp?! [hb7,vT];exact yA #[b,la,lu,lh,now,p,pa,un,he,R,T',_,rfl,hB6.sm (a5 Up),iW,λa n6 x2 SO=> ?_,λn6=>by rw[hg] at n6;cases n6];rw[hg] at n6;cases n6;have n12:x1≠x2:=bY am SO;have zl:=hS.t.mem z hz;have z2:(2+z.2.length<=sizeLine)=True:=au (big (by omega));dsimp?! [am,aP n12,af,z2];intro x3 hx3;dsimp?! [];exact qP (ss:=Str.ofString "crew" ::z.1::z.2) (c:=100) (by rw[am];rfl) (yH hS.m iW hg) (by rw[aB,aB,l1];show kg (by omega)) ?_;rw[er] at hN6;show hN6 _ (((a5 Up).trans (a5 SO)).trans (a5 hx3));have hw7:=s7 _ _ (s5 _ _ Uq);have z2:((ns.map λn=>ws (ik R n)).length+1+(cs.map λn=>ws (qw T' n)).length<=sizeLine)=True:=au (by rw[af,af];show big (by omega));dsimp?! [hw7,hv7,aB,z2];exact ya hp hS #[Ut,Us] np nsr cp csr am ?_;show#[M,λa o h=>by rw[aP (bY h hMw)];show s7 _ _ (s5 _ _ (f4 _ _ h)),k]
def uZ {K:WV}(T:fg K mg A):bD P w K mg base fi 2 A.nD A.nI ["_law_p_here","_law_stand"] (fK K uR):=by
 exists T.rT.fn,["_law_p_here","_law_stand","_law_rows","_law_name","_law_crew"],(ag (2\(dP (aa (bL gC ay (ca mW (by rfl) T.FC Boot.«str» (aa (pv 0) ae))) ae))) (ag (gw cT rfl (f7 (K:=K) rfl (bh (fu rfl) (by rfl) T.gM Boot.«sorted» (aa ((pv 1)∪ai) ae))) (aX (i:=3) nd rfl (by trivial)) (aj (bF (eN aL bt br c9 (pv 2) (aa (bL gC (bL gC (bL gC ay (pv 3)) ay) (ax T.EK (CG T) hr (aa (eK (dU hr) ((pv 1)∪ai) (pv 3) (λ_ _=>rfl)) ae))) ae))))) (ag (gw cT rfl (f7 (K:=K) rfl (bh (fu rfl) (by rfl) T.gM Boot.«sorted» (aa ((pv 1)∪ai) ae))) (aX (i:=4) nd rfl (by trivial)) (aj (bF (eN aL bt br c9 (pv 2) (aa (eN dt c6 dN (show Hu _ _ (oU K) from j7) ay (aa (bL j5 (dP (aa ay (aa (pv 4) ae))) (ca eV (by rfl) T.gZ Boot.«list» (aa (eK (dU hr) ((pv 1)∪ai) (pv 4) (λ_ _=>rfl)) ae))) ae)) ae))))) (aj (aE (eN dt c6 dN (show Hu _ _ (oU K) from j7) ay (aa (pv 2) ae)))))))
 rintro vs M q ⟨p,r,t,R,T',rfl,⟨iO,ht⟩,hp,hS,⟨Ut,Us⟩,k⟩;have pn:=fq (i:=p) (by omega);have pl:=f9 (i:=p) (by omega);have l9:(Str.ofString "settings ").length=9:=by right
 have l6:(Str.ofString "round ").length=6:=by right
 have l1:(Str.ofString " ").length=1:=by right
 dsimp?! [au pl];exact#[bg (by omega),?_];intro w hw;have s1:Sm M (um M w (.lst [ws (Str.ofString "settings " ++Str.ofString (toString p))])):=a5 hw;have Qe:um M w (.lst [ws (Str.ofString "settings " ++Str.ofString (toString p))]) w=some (.lst [ws (Str.ofString "settings " ++Str.ofString (toString p))]):=am;change hold _ _ (um M w (.lst [ws (Str.ofString "settings " ++Str.ofString (toString p))]));generalize um M w (.lst [ws (Str.ofString "settings " ++Str.ofString (toString p))])=M1 at s1 Qe ⊢;dsimp?! [];exact#[r,_,R.map (·.1),rfl,s1 _ _ iO,jx _ _,by rw[af];show big (by omega),λnl ns iW np nsr=> ?_];have nln:=np.length_eq;rw[af] at nln;have nwl:nl≠w:=λz=>by subst z;rw[Qe] at iW;cases iW
 have s2:=s1.trans (a5 iW (o:= .lst (ns.map ws)));have SQ:=a5 iW (o:= .lst (ns.map ws)) _ _ Qe;have wt:um M1 nl (.lst (ns.map ws)) nl=some (.lst (ns.map ws)):=am;generalize um M1 nl (.lst (ns.map ws))=M2 at s2 SQ wt ⊢;dsimp?! [wt];exact jO (λi ρ M'=> ∃o1:e9 W,fj (ρ= [some (wi p),some (.tup [wr r,wr t]),some (wr w),o1,none]) (M' w=some (.lst (ws (Str.ofString "settings " ++Str.ofString (toString p))::(ns.take i).map λn=>ws (ik R n)))) (M' nl=some (.lst (ns.map ws))) (Sm M M')) #[none,rfl, ⇑SQ,wt,s2] (by rintro i ρ M' _ ⟨o1,rfl,h1,h2,h3⟩;show h2) ?_ ?_;rintro i x ρ M3 hx ⟨o1,rfl,NK,S3,s3⟩ N hN;let⟨n,hn,rfl⟩:=qK hx;let⟨z,hz,rfl⟩:=bX.mp (np.mem_iff.mp (aV hn));have iW:=hS.k z hz;let⟨a,hg⟩:=zn hz;let⟨y,hy,_,rfl⟩:=d4 hg;have jm:=zb (by omega) (hS.r.ok y hy).1 (hS.r.ok y hy).2.2;have hsl:=qu jm (hS.r.ok y hy).2.1;have hr3:=s3 _ _ iO;have er:ik R z.1= "round " ++z.1++ " " ++jV y.2:=by unfold ik;rw[hg]
 have c1:((Str.ofString "round ").length+z.1.length<=sizeLine)=True:=au (bg (by omega));have c2:((Str.ofString "round " ++z.1).length+(Str.ofString " ").length<=sizeLine)=True:=au (bg (by rw[bz];omega));dsimp?! [c1,c2,hr3,cF,hg,bB,NK];exact#[_,rfl,by have:=(hS.r.ok y hy).2.1;omega,jm,?_];have c3:((Str.ofString "round " ++z.1++Str.ofString " ").length+(jV y.2).length<=sizeLine)=True:=au (kg (by rw[bz,bz];omega));have c4:(((ns.take i).map λn=>ws (ik R n)).length+1<sizeLine)=True:=au (kh (by rw[af,bP];omega));dsimp?! [c3,c4,NK,aB];have et:ns.take (i+1)=ns.take i++ [z.1]:=by rw[cD,hn];rfl
 exact hN _ _ #[_,rfl,?_,?_,λa o h=> ?_];rw[am,et,aA,aN,List.map_nil,er];rw[aP nwl];show S3;rw[aP (bY h hw)];show s3 _ _ h;rintro ρ M3 ⟨o1,rfl,NK,S3,s3⟩;rw[af,cP] at NK;clear Qe SQ wt s1 s2 S3 iW;dsimp?! [];exact#[t,_,T'.map (·.1),rfl,s3 _ _ ht,jx _ _,by rw[af];show big (by omega),λcl cs k9 cp csr=> ?_];have cln:=cp.length_eq;rw[af] at cln;have nwc:cl≠w:=λz=>by subst z;rw[NK] at k9;cases k9
 have s4:=s3.trans (a5 k9 (o:= .lst (cs.map ws)));have Uq:=a5 k9 (o:= .lst (cs.map ws)) _ _ NK;have Qi:um M3 cl (.lst (cs.map ws)) cl=some (.lst (cs.map ws)):=am;generalize um M3 cl (.lst (cs.map ws))=M4 at s4 Uq Qi ⊢;dsimp?! [Qi];exact jO (λi ρ M'=> ∃o2:e9 W,fj (ρ= [some (wi p),some (.tup [wr r,wr t]),some (wr w),o1,o2]) (M' w=some (.lst (ws (Str.ofString "settings " ++Str.ofString (toString p))::((ns.map λn=>ws (ik R n))++(cs.take i).map λn=>ws (qw T' n))))) (M' cl=some (.lst (cs.map ws))) (Sm M M')) #[none,rfl, ⇑Uq,Qi,s4] (by rintro i ρ M' _ ⟨o1,rfl,h1,h2,h3⟩;show h2) ?_ ?_;rintro i x ρ M5 hx ⟨o2,rfl,W5,Ux,s5⟩ N hN;let⟨n,hn,rfl⟩:=qK hx;let⟨z,hz,rfl⟩:=bX.mp (cp.mem_iff.mp (aV hn));have iW:=hS.t.key z hz;have hg:=zk hS.t.nd hz;have ht5:=s5 _ _ ht;have er:qw T' z.1=Builtin.Str.glued " " ("crew" ::z.1::z.2):=by unfold qw;rw[hg]
 have zl:=hS.t.mem z hz;dsimp?! [W5];intro x1 Up;have ht6:=a5 Up (o:= .lst [ws "crew",ws z.1]) _ _ ht5;dsimp?! [ht6,cF,hg,bB,fk];intro x2 SO;have n12:x1≠x2:=bY am SO;have z2:(2+z.2.length<=sizeLine)=True:=au (big (by omega));dsimp?! [am,aP n12,af,z2];intro x3 hx3;dsimp?! [];exact qP (ss:=Str.ofString "crew" ::z.1::z.2) (c:=100) (by rw[am];rfl) (yH hS.m iW hg) (by rw[aB,aB,l1];show kg (by omega)) ?_;have sx:=((a5 Up (o:= .lst [ws "crew",ws z.1])).trans (a5 SO (o:= .lst (z.2.map ws)))).trans (a5 hx3 (o:= .lst ([ws "crew",ws z.1]++z.2.map ws)));have hw6:=sx _ _ W5;have ZC:=sx _ _ Ux;have s6:=s5.trans sx;have c4:((ns.map (λn=>ws (ik R n))++(cs.take i).map λn=>ws (qw T' n)).length+1<sizeLine)=True:=au (kh (by rw[aD,af,af,bP];omega));dsimp?! [];exact#[_,hw6,?_];dsimp?! [c4,aB];have et:cs.take (i+1)=cs.take i++ [z.1]:=by rw[cD,hn];rfl
 exact hN _ _ #[_,rfl,?_,?_,λa o h=> ?_];rw[am,et,aA,aN,List.map_nil,er,bQ];rw[aP nwc];show ZC;rw[aP (bY h hw)];show s6 _ _ h;rintro ρ M5 ⟨o2,rfl,W5,Ux,s5⟩;rw[af,cP] at W5;dsimp?! [];exact ya hp hS #[Ut,Us] np nsr cp csr W5 ?_;show#[M,s5,k]
def uY {K:WV}(T:fg K mg A):bD P w K mg base fi 3 A.nC A.nH ["_law_draw","_law_names_here"] (fK K RV):=by
 exists T.rS.fn,["_law_draw","_law_names_here","_law_crew","_law_name","_law_way"],(ag (2\((pv 1)∩(ax T.c5 (bM T) hr (aa (pv 0) (aa ai ae))))) (ag (bi (aQ cX (ax T.c5 (bM T) hr (aa (pv 0) (aa ai ae))) ai (a7 _)) (aj (2\(ax T.jL (gF T) hr (aa (pv 0) (aa (pv 1) ae))))) aK) (ag (3\(ax T.jL (gF T) hr (aa (pv 0) (aa (pv 1) ae)))) (ag (4\(ax T.c5 (bM T) hr (aa (pv 0) (aa ai ae)))) (ag (bi (aQ hU (pv 4) ai (a7 _)) (aj (aE (aJ (aa ay (aa ((aJ (aa (pv 2) (aa (pv 2) (aa (pv 2) (aa (pv 3) ae)))))∪(ax T.c5 (bM T) hr (aa (pv 0) (aa ai ae)))) ae))))) aK) (ag (bi (aQ cX (pv 4) ai (a7 _)) (aj (aE (aJ (aa ay (aa (pv 2) ae))))) aK) (ag (bi (aQ hU (pv 4) ai (a7 _)) (aj (aE (aJ (aa ay (aa (pv 2) (aa (pv 3) ae)))))) aK) (aj (aE (aJ (aa ay (aa (pv 2) (aa (pv 3) ae)))))))))))))
 rintro vs M q ⟨d,l,nl,ns,rfl,hD,iW,wE,⟨n0,n1⟩,tP,k⟩;have tg: ∀ (M':Mp) (q':WK),Dr M' d l ->NB d M M' ->(∀ (n:Str) (M2:Mp),Nm n ->Dr M2 d l ->NB d M M2 ->q' (ws n) M2) ->yQ [wr d,wr nl] M' q':=λM' q' D' b' k'=>#[d,l,nl,ns,rfl,D',by rw[b' nl wE];show iW,wE,#[by omega,by omega],tP,λn M2 hn D2 b2=>k' n M2 hn D2 (NB.trans b' b2)]
 dsimp?! [];exact#[d,l,2,rfl,hD,⋯,⋯,λj M1 j0 j1 D1 b1=> ?_];have Kd:M1 nl=some (.lst (ns.map ws)):=by rw[b1 nl wE];show iW
 let⟨z,hz⟩: ∃z,ns[j.toNat]? =some z:=#[_,aO (by omega)]
 have hzn:=tP z (aV hz);have ek:gP (ns.map ws) j=some (ws z):=gd j0 (by rw[aI,hz];rfl);simp?! [↓eM,Kd,ek];exact iP (qQ (λρ M'=> ∃c:Str,fj (ρ= [some (wr d),some (wr nl),some (ws c),none,none]) (Nm c) (Dr M' d l) (NB d M M')) ?_ λN hN=> ?_);clear D1 b1 Kd ek hzn hz;rintro ρ M2 ⟨c,rfl,hc,D2,b2⟩;dsimp?! [];dsimp?! [];exact tg M2 _ D2 b2 λn M3 hn D3 b3=> ?_;dsimp?! [];exact#[d,l,11,rfl,D3,⋯,⋯,λwy M4 w0 w1 D4 b4=> ?_];replace b4:=NB.trans b3 b4;dsimp?! [];exact di (λh=> ?_) λh=> ?_;dsimp?! [];exact#[d,l,4,rfl,D4,⋯,⋯,λr M5 r0 r1 D5 b5=> ?_];dsimp?! [];exact mR (λx=> ∃e:Str,x=ws e /\ Nm e) r0 (by change r< ((4:Nat):Int);omega) (λx hx=> ?_) ?_;simp![aT,List.not_mem_nil,or_false] at hx;obtain h | h | h | h:=hx;show#[c,h,hc];show#[c,h,hc];show#[c,h,hc];show#[n,h,hn];rintro _ ⟨v,rfl,hv⟩;dsimp?! [];show dY (k (.found v) _ M5 rfl hv D5 (NB.trans b4 b5));dsimp?! [];exact di (λh=> ?_) λh=> ?_;dsimp?! [];show dY (k (.disband c) _ M4 rfl hc D4 b4);dsimp?! [];exact di (λh=> ?_) λh=> ?_;dsimp?! [];show dY (k (.enlist c n) _ M4 rfl #[hc,hn] D4 b4);dsimp?! [];show dY (k (.dismiss c n) _ M4 rfl #[hc,hn] D4 b4);dsimp?! [];exact#[d,l,12,rfl,D1,⋯,⋯,λr M2 r0 r1 D2 b2=> ?_];replace b2:=NB.trans b1 b2;dsimp?! [];exact di (λh=> ?_) λh=>hN _ _ #[z,rfl,hzn,D2,b2];dsimp?! [];exact tg M2 _ D2 b2 λn M3 hn D3 b3=> ?_;dsimp?! [];show hN _ _ #[n,rfl,hn,D3,b3]
def wB {K:WV}(T:fg K mg A):bD P w K mg base fi 4 A.pJ A.pW ["_law_draw","_law_names_here"] (fK K aap):=by
 exists T.vh.fn,["_law_draw","_law_names_here","_law_way"],(ag (2\(ax T.c5 (bM T) hr (aa (pv 0) (aa ai ae)))) (ag (bi (aQ hU (pv 2) ai (a7 _)) (aj (aE (aJ (aa ay ae)))) aK) (ag (bi (aQ hU (pv 2) ai (a7 _)) (aj (aE (aJ (aa ay ae)))) aK) (ag (bi (aQ cX (pv 2) ai (a7 _)) (aj (aE (aJ (aa ay ae)))) aK) (ag (bi (aQ cX (pv 2) ai (a7 _)) (aj (aE (aJ (aa ay (aa (bL qC (ax T.c5 (bM T) hr (aa (pv 0) (aa ai ae))) ai) ae))))) aK) (ag (bi (aQ hU (pv 2) ai (a7 _)) (aj (aE (ax T.j8 (kH T) hr (aa (pv 0) (aa (pv 1) ae))))) aK) (aj (aE (ax T.rS (uY T) hr (aa (pv 0) (aa (pv 1) ae)))))))))))
 rintro vs M q ⟨d,l,nl,ns,rfl,hD,iW,wE,⟨n0,n1⟩,tP,kq⟩;dsimp?! [];exact#[d,l,17,rfl,hD,⋯,⋯,λj M1 j0 j1 D1 b1=> ?_];have Kd:M1 nl=some (.lst (ns.map ws)):=by rw[b1 nl wE];show iW
 have f1:Fs d M M1:=λa o h n=>by rw[b1 a n];show h
 dsimp?! [];exact di (λh=> ?_) λh=> ?_;dsimp?! [];show dY (kq .undo _ _ rfl trivial trivial (λa n e=>nomatch e) D1 f1);dsimp?! [];exact di (λh=> ?_) λh=> ?_;dsimp?! [];show dY (kq .redo _ _ rfl trivial trivial (λa n e=>nomatch e) D1 f1);dsimp?! [];exact di (λh=> ?_) λh=> ?_;dsimp?! [];show dY (kq .hold _ _ rfl trivial trivial (λa n e=>nomatch e) D1 f1);dsimp?! [];exact di (λh=> ?_) λh=> ?_;dsimp?! [];exact#[d,l,9,rfl,D1,⋯,⋯,λj M2 j0 j1 D2 b2=> ?_];dsimp?! [];show dY (kq (.ret (j - 1)) _ _ rfl (by change(j - 1).natAbs<1000;omega) trivial (λa n e=>nomatch e) D2 (f1.trans λa o h n=>by rw[b2 a n];show h));dsimp?! [];exact di (λh=> ?_) λh=> ?_;exact#[d,l,nl,ns,rfl,D1,Kd,wE,#[by omega,by omega],tP,λdd w M2 hDV hO hf D2 F2=>dY (kq (.r dd) w M2 hDV trivial hO (λa n e=> ?_) D2 (f1.trans F2))];have h1:=hf a n e;by_cases hn:a=d;subst hn;let⟨x,hx⟩:=Fi D1;rw[hx] at h1;cases h1;show f1.free h1 hn;exact#[d,l,nl,ns,rfl,D1,Kd,wE,#[by omega,by omega],tP,λdd w M2 NW hO D2 b2=>dY (kq (.c dd) w M2 NW trivial hO (λa n e=> ?_) D2 (f1.trans λa o h n=>by rw[b2 a n];show h))];cases dd<;>cases NW<;>cases e
def Gj {K:WV}(T:fg K mg A):bD P w K mg base fi 8 A.Ba A.Bo ["_law_p_here","_law_state","_law_deed"] (fK K V5):=by
 exists T.JN.fn,["_law_p_here","_law_state","_law_deed","_law_stand","_law_past","_law_ahead","_law_held","_law_due_here"],(ag (f6 (pv 1) (d9 (n:=4) rfl (bp (aX (i:=3) nd rfl (by trivial)) (bp (aX (i:=4) nd rfl (by trivial)) (bp (aX (i:=5) nd rfl (by trivial)) (bp (aX (i:=6) nd rfl (by trivial)) dj)))))) (ag (bi (aQ cX ((pv 2)∪ai) ay (a7 _)) (ag (bi (aQ cX (bh (dM (K:=K) rfl) (by rfl) T.gN Boot.«len» (aa (pv 4) ae)) ai (a7 _)) (aj (aE (aJ (aa (aJ (aa ay (aa jl ae))) (aa (pv 1) ae))))) aK) (aj (aE (aJ (aa (aJ (aa ay (aa jl ae))) (aa (aJ (aa ((pv 4)∩(fF eD ai)) (aa (lL yz (pv 4) oY (oX (fF eD ai))) (aa (bL j5 (pv 5) (dP (aa (pv 3) ae))) (aa (pv 6) ae))))) ae)))))) aK) (ag (bi (aQ cX ((pv 2)∪ai) ay (a7 _)) (ag (bi (aQ cX (bh (dM (K:=K) rfl) (by rfl) T.gN Boot.«len» (aa (pv 5) ae)) ai (a7 _)) (aj (aE (aJ (aa (aJ (aa ay (aa jl ae))) (aa (pv 1) ae))))) aK) (aj (aE (aJ (aa (aJ (aa ay (aa jl ae))) (aa (aJ (aa ((pv 5)∩(fF eD ai)) (aa (bL j5 (pv 4) (dP (aa (pv 3) ae))) (aa (lL yz (pv 5) oY (oX (fF eD ai))) (aa (pv 6) ae))))) ae)))))) aK) (ag (bi (aQ cX ((pv 2)∪ai) ay (a7 _)) (aj (aE (aJ (aa (aJ (aa ay (aa (bh (dM (K:=K) rfl) (by rfl) T.gN Boot.«len» (aa (pv 6) ae)) ae))) (aa (aJ (aa (pv 3) (aa (pv 4) (aa (pv 5) (aa (bL j5 (pv 6) (dP (aa (pv 3) ae))) ae))))) ae))))) aK) (ag (bi (aQ cX ((pv 2)∪ai) ay (a7 _)) (ag (bi (dS (oW o0 hU ai ((pv 2)∪ai) (bh (dM (K:=K) rfl) (by rfl) T.gN Boot.«len» (aa (pv 6) ae)))) (aj (aE (aJ (aa (aJ (aa ay (aa jl ae))) (aa (pv 1) ae))))) aK) (aj (aE (aJ (aa (aJ (aa ay (aa jl ae))) (aa (aJ (aa ((pv 6)∩((pv 2)∪ai)) (aa (bL j5 (pv 4) (dP (aa (pv 3) ae))) (aa (dP ae) (aa (pv 6) ae))))) ae)))))) aK) (ag (7\(ax T.PN (Ju T) hr (aa (pv 0) (aa (pv 3) (aa (pv 2) ae))))) (ag (bi (aQ oZ ((pv 7)∪ai) ay (a7 _)) (aj (aE (aJ (aa (aJ (aa ((pv 7)∪ai) (aa jl ae))) (aa (pv 1) ae))))) aK) (aj (aE (aJ (aa (aJ (aa ay (aa jl ae))) (aa (aJ (aa ((pv 7)∪ai) (aa (bL j5 (pv 4) (dP (aa (pv 3) ae))) (aa (dP ae) (aa (pv 6) ae))))) ae))))))))))))
 rintro vs M q ⟨p,r,t,sp,sa,sh,Z,dd,w,rfl,hL,hZ,hD,cN,hO,kq,ke⟩;let⟨lp,hp,ep,LW⟩:=hL.p;let⟨lu,hu,eu,C0⟩:=hL.u;let⟨lh,hh,eh,Zy⟩:=hL.h;have zp:lp.length=Z.past.length:=by rw[<- ep,af]
 have zu:lu.length=Z.qp.length:=by rw[<- eu,af]
 have zh:lh.length=Z.held.length:=by rw[<- eh,af]
 have c1:=hZ.pa;have c2:=hZ.un;have c3:=hZ.he;have now: ∀ {lq:Lp},(∀z∈lq,M z.1.1=some (.dK (xp z.2.1)) /\ M z.1.2=some (.dK (qg z.2.2))) -> ∀z∈lq++ [((r,t),Z.R,Z.T)],M z.1.1=some (.dK (xp z.2.1)) /\ M z.1.2=some (.dK (qg z.2.2)):=λh z hz=>(a9.mp hz).elim (h z) λe=>by rw[be.mp e];show#[hL.r,hL.t]
 have snoc: ∀lq:Lp,lq.map sU++ [.tup [wr r,wr t]]=(lq++ [((r,t),Z.R,Z.T)]).map sU:=λlq=>by rw[aA];rfl
 have one: ∀ {lq:Lp} {z:(fP×fP)×Rm×Tm},gP ((lq++ [z]).map sU) (-1)=some (sU z):=λ{lq z}=>K' (by rw[aA];show List.getLast?_concat);have cut: ∀ {lq:Lp} {z:(fP×fP)×Rm×Tm},Dd ((lq++ [z]).map sU) none (some (-1))=lq.map sU:=λ{lq z}=>by rw[aA];show KW _ _
 have cat: ∀ {a x0:fP} {lq:Lp} {M1:Mp} {Q:cA W ->fP ->Prop},M1 a=some (.lst (lq.map sU)) ->lq.length<=900 ->Sm M M1 ->M1 x0=none ->(∀x,Sm M1 (um (um M1 x0 (.lst [.tup [wr r,wr t]])) x (.lst (lq.map sU++ [.tup [wr r,wr t]]))) ->(um (um M1 x0 (.lst [.tup [wr r,wr t]])) x (.lst (lq.map sU++ [.tup [wr r,wr t]]))) x=some (.lst ((lq++ [((r,t),Z.R,Z.T)]).map sU)) ->M x=none ->Q (lq.map sU) x) ->lstK (um M1 x0 (.lst [.tup [wr r,wr t]]) a) λl=>ce (l.length+1<=sizeLine) (CJ (um M1 x0 (.lst [.tup [wr r,wr t]])) λx=>Q l x):=λ{a x0 lq M1 Q} h hl s h0 k=>#[_,a5 h0 _ _ h,big (by rw[af];omega),λx hx=>k x ((a5 h0).trans (a5 hx)) (by rw[am,snoc]) (s.free ((a5 h0).free hx))]
 by_cases CY:vj dd;let⟨kk,cQ,rfl,f1,f2,f3,f4⟩:=ME hD CY;have e0:gP (ws kk::cQ) 0=some (ws kk):=gd ⋯ rfl;dsimp? [eE,e0,f1,f2,f3,f4];exact#[p,r,t,Z.R,Z.T,_,_,rfl,hZ.p4,#[hL.r,hL.t],hZ.s,#[hD,CY],hO,λR' T' ho uk hle r' t' M1 s1 hr2 ht2=> ?_,λf ho=> ?_];have ef:decide (("" :Str)= "")=true:=by right
 have uk:=uk (by have:=hZ.sz;omega) (by have:=hZ.sz;omega);have hp1:=s1 _ _ hp;dsimp? [ef,bI];intro x0 h0;exact cat hp1 (by omega) s1 h0 λx s2 hx hn=> ?_;generalize um (um M1 x0 (.lst [.tup [wr r,wr t]])) x (.lst (lp.map sU++ [.tup [wr r,wr t]]))=M2 at s2 hx ⊢;intro x1 h1;have s3:=s2.trans (a5 h1 (o:= .lst []));have s4:=s1.trans s3;exact dY (kq #[R',T',Z.past++ [(Z.R,Z.T)],[],Z.held] wn (by rw[Jx CY,ho]) (λ_=>#[uk,hle]) r' t' x x1 sh _ s4 #[s3 _ _ hr2,s3 _ _ ht2,?_,#[[],am,rfl,nofun],hL.h.sm s4] ?_);show#[_,a5 h1 _ _ hx,by rw[aA,ep];rfl,λy hy=>#[s4 _ _ (now LW y hy).1,s4 _ _ (now LW y hy).2]];rintro y (rfl | rfl | rfl);show .inr (.inr (.inr hn));show .inr (.inr (.inr ((s1.trans s2).free h1)));show .inr (.inr (.inl rfl));have Xm:decide (Cu f=Str.ofString "")=false:=aF (IP f);dsimp? [Xm,aU];show dY (ke f (by rw[Jx CY,ho]));cases dd with
 | undo=>cases hD;dsimp? [eE,bI,hp,af];obtain h0 | ⟨l,z,h0⟩:=ij lp;have e0:decide ((lp.length:Int)=0)=true:=a6 (by rw[h0];rfl);dsimp? [e0];show dY (ke .NoMore (by rw[oS, <- ep,h0];rfl));have e0:decide ((lp.length:Int)=0)=false:=aF (by rw[h0,aD];simp;omega);subst h0;dsimp? [e0,hp,one,cut];intro x1 h1;have m7:=a5 h1 (o:= .lst (l.map sU)) _ _ hu;have Ut:um M x1 (.lst (l.map sU)) x1=some (.lst (l.map sU)):=am;have s1:Sm M (um M x1 (.lst (l.map sU))):=a5 h1;generalize um M x1 (.lst (l.map sU))=M1 at m7 Ut s1 ⊢;dsimp? [];intro x0 h0;exact cat m7 (by omega) s1 h0 λx s2 hx hn=> ?_;generalize um (um M1 x0 (.lst [.tup [wr r,wr t]])) x (.lst (lu.map sU++ [.tup [wr r,wr t]]))=M2 at s2 hx ⊢;have LK:=s1.trans s2;exact dY (kq #[z.2.1,z.2.2,l.map (·.2),Z.qp++ [(Z.R,Z.T)],Z.held] wn (by rw[oS, <- ep];simp) (λh=>h.elim) z.1.1 z.1.2 x1 x sh M2 LK #[LK _ _ (LW z (by simp)).1,LK _ _ (LW z (by simp)).2,?_,?_,hL.h.sm LK] ?_);show#[l,s2 _ _ Ut,by simp,λy hy=>#[LK _ _ (LW y (by simp[hy])).1,LK _ _ (LW y (by simp[hy])).2]];show#[_,hx,by rw[aA,eu];rfl,λy hy=>#[LK _ _ (now C0 y hy).1,LK _ _ (now C0 y hy).2]];rintro y (rfl | rfl | rfl);show .inr (.inr (.inr h1));show .inr (.inr (.inr hn));show .inr (.inr (.inl rfl))
 | redo=>cases hD;dsimp? [eE,k_redo_undo,bI,hu,af];obtain h0 | ⟨l,z,h0⟩:=ij lu;have e0:decide ((lu.length:Int)=0)=true:=a6 (by rw[h0];rfl);dsimp? [e0];show dY (ke .NoMore (by rw[oS, <- eu,h0];rfl));have e0:decide ((lu.length:Int)=0)=false:=aF (by rw[h0,aD];simp;omega);subst h0;dsimp? [e0,hu,one,cut];intro x0 h0;exact cat hp (by omega) (Sm.refl M) h0 λx s2 hx hn=> ?_;generalize um (um M x0 (.lst [.tup [wr r,wr t]])) x (.lst (lp.map sU++ [.tup [wr r,wr t]]))=M2 at s2 hx ⊢;have hu2:=s2 _ _ hu;dsimp? [hu2,cut];intro x1 h1;have s3:=s2.trans (a5 h1 (o:= .lst (l.map sU)));exact dY (kq #[z.2.1,z.2.2,Z.past++ [(Z.R,Z.T)],l.map (·.2),Z.held] wn (by rw[oS, <- eu];simp) (λh=>h.elim) z.1.1 z.1.2 x x1 sh _ s3 #[s3 _ _ (C0 z (by simp)).1,s3 _ _ (C0 z (by simp)).2,?_,?_,hL.h.sm s3] ?_);show#[_,a5 h1 _ _ hx,by rw[aA,ep];rfl,λy hy=>#[s3 _ _ (now LW y hy).1,s3 _ _ (now LW y hy).2]];show#[l,am,by simp,λy hy=>#[s3 _ _ (C0 y (by simp[hy])).1,s3 _ _ (C0 y (by simp[hy])).2]];rintro y (rfl | rfl | rfl);show .inr (.inr (.inr hn));show .inr (.inr (.inr (s2.free h1)));show .inr (.inr (.inl rfl))
 | hold=>cases hD;dsimp? [eE,k_hold_undo,k_hold_redo,bI,hh,af];intro x0 h0;exact cat hh (by omega) (Sm.refl M) h0 λx s2 hx hn=> ?_;generalize um (um M x0 (.lst [.tup [wr r,wr t]])) x (.lst (lh.map sU++ [.tup [wr r,wr t]]))=M2 at s2 hx ⊢;rw[zh];exact dY (kq {Z with held:=Z.held++ [(Z.R,Z.T)]} _ rfl (λh=>h.elim) r t sp sa x _ s2 #[s2 _ _ hL.r,s2 _ _ hL.t,hL.p.sm s2,hL.u.sm s2,#[_,hx,by rw[aA,eh];rfl,λy hy=>#[s2 _ _ (now Zy y hy).1,s2 _ _ (now Zy y hy).2]]] ?_);rintro y (rfl | rfl | rfl);show .inl rfl;show .inr (.inl rfl);show .inr (.inr (.inr hn))
 | ret k =>
  cases hD;dsimp? [eE,k_return_undo,k_return_redo,k_return_hold,bI,hh,af];by_cases k0:0<=k;by_cases k1:k<lh.length;have d0:=a6 k0;have d1:=a6 k1;let⟨z,hz⟩: ∃z,lh[k.toNat]? =some z:=#[_,aO (by omega)]
  have ek:gP (lh.map sU) k=some (sU z):=gd k0 (by rw[aI,hz];rfl);have CW:=aV hz;dsimp? [d0,d1,aG,hh,ek];intro x0 h0;exact cat hp (by omega) (Sm.refl M) h0 λx s2 hx hn=> ?_;generalize um (um M x0 (.lst [.tup [wr r,wr t]])) x (.lst (lp.map sU++ [.tup [wr r,wr t]]))=M2 at s2 hx ⊢;intro x1 h1;have s3:=s2.trans (a5 h1 (o:= .lst []));exact dY (kq #[z.2.1,z.2.2,Z.past++ [(Z.R,Z.T)],[],Z.held] wn (by rw[oS,ao k0, <- eh,aI,hz];rfl) (λh=>h.elim) z.1.1 z.1.2 x x1 sh _ s3 #[s3 _ _ (Zy z CW).1,s3 _ _ (Zy z CW).2,?_,#[[],am,rfl,nofun],hL.h.sm s3] ?_);show#[_,a5 h1 _ _ hx,by rw[aA,ep];rfl,λy hy=>#[s3 _ _ (now LW y hy).1,s3 _ _ (now LW y hy).2]];rintro y (rfl | rfl | rfl);show .inr (.inr (.inr hn));show .inr (.inr (.inr (s2.free h1)));show .inr (.inr (.inl rfl));have d0:=a6 k0;have d1:=aF k1;dsimp? [d0,d1,aU];show dY (ke .NoState (by rw[oS,ao k0, <- eh,aI,List.getElem?_eq_none (by omega)];rfl));have d0:=aF k0;dsimp? [d0];show dY (ke .NoState (by rw[oS,ak k0]))
 | r d=>show absurd trivial CY
 | c d=>show absurd trivial CY
def R8 {K:WV}(T:fg K mg A):bD P w K mg base fi 9 A.Qp A.Qs ["_law_script"] (Ae K):=by
 have cl:=au T.Book.cl;exact Wi T.law.fn Iw ⋯ λcdv A' outer s H E hr=> ?_;have nd:=Iw.nd;exact#[_,(ag (1\(ax T.EN (CI T) hr (aa (pv 0) ae))) (ag (2\(ax T.l_p (R9 T) hr (aa (pv 1) ae))) (ag (3\(ax T.EL (CH T) hr (aa (pv 1) (aa ai ae)))) (ag (4\(jG T.Book (Nf T) (hr.mono ⋯) (by rfl) (aa (pv 2) ae))) (ag (5\(aJ (aa (aJ (aa jH (aa jH ae))) (aa (dP ae) (aa (dP ae) (aa (dP ae) ae)))))) (ag (gw cT rfl (fO (by rfl) T.jh (aa (ax T.c5 (bM T) hr (aa (pv 1) (aa ai ae))) ae)) (aX (i:=6) nd rfl (by trivial)) (ag (7\(ax T.vh (wB T) hr (aa (pv 1) (aa (pv 3) ae)))) (ag (bi (aQ hU (pv 6) ai (a7 _)) (aj (7\(ax T.j8 (kH T) hr (aa (pv 1) (aa (pv 3) ae))))) aK) (ag (8\(ax T.JN (Gj T) hr (aa (pv 2) (aa (pv 5) (aa (pv 7) ae))))) (ag (9\(ax T.JP (Gm T) hr (aa (pv 4) (aa (pv 7) ae)))) (ag (bi (kG (aQ (show i6 _ _ (Aw K) from qD (by show hr.Ua)) (pv 9) ((pv 8)∪ai) (a7 _)) (iK (nR (aQ Jq (((pv 8)∪ai)∪ai) jl (a7 _)) (jY (dS (dE (ax T.AS (pc T) hr (aa ((pv 9)∪ai) ae)))))).pt)).pt (aj (aE ja)) aK) (ag (5\((pv 8)∪ai)) (aj (bi (kG (dS (dE (ax T.AR (AE T) hr (aa (pv 2) (aa (pv 4) (aa ((pv 5)∪ai) ae)))))) (iK (aQ oZ (ax T.book_text (yW T) hr (aa (pv 4) ae)) (ax T.rT (uZ T) hr (aa (pv 2) (aa ((pv 5)∪ai) ae))) (a7 _)))).pt (aj (aE ja)) aK))))))))) (aj (aE ja)))))))),?_];try dsimp only[eI]
 exact#[_,inferInstance,?_];intro d l M hD;dsimp?! [];exact#[d,l,rfl,hD,λp M1 hp D1 _=> ?_];dsimp?! [];exact#[d,l,5,rfl,D1,⋯,⋯,λnl ns M2 iW hln tP wE nnl D2=> ?_];dsimp?! [];rw[mM];dsimp?! [];intro b dxb Uy abg lT;exact#[b,dxb,p,rfl,hp,am,λM4 la lu lh now B4 F4 LX zR NR JC=>#[rfl,?_]];have ZW: ∀a o,M2 a=some o ->M4 a=some o:=λa o h=>F4 a o (by rw[aP (bY h Uy)];show h) (bY h Uy);have D4:Dr M4 d l:=KG D2 ZW;have S2:=ZW _ _ iW;let⟨xd,Uo⟩:=Fi D2;let⟨xl,Zw⟩:=XM D2;have fr: ∀ {a c:fP} {o:MO},um M2 b (.ins A.aW dxb []) a=none ->M2 c=some o ->a≠c:=λ{a c o} h1 h2 e=>by subst e;rw[aP (bY h2 Uy),h2] at h1;cases h1
 have ap: ∀ {c:fP} {o:MO},M2 c=some o ->Ap c la lu lh:=λh=>#[fr LX h,fr zR h,fr NR h]
 have q1:=ap Uo;have q2:=ap Zw;have q3:=ap iW;have S4:tY A.aW A.bq M4 b la lu lh p now #[[],[],[],[],[]]:=#[B4,nofun,nofun,nofun]
 have ZB:=ZW _ _ Uo;clear fr ap LX zR NR F4 ZW Uo Zw Uy abg iW D2 D1 hD B4;dsimp?! [];intro r iO;dsimp?! [];intro t ht;dsimp?! [];intro sp wq;dsimp?! [];intro sa W_;dsimp?! [];intro sh SS;let⟨s5,LL5,fsp,fsa,fsh⟩:=aaw iO ht wq W_ SS;simp?! [↓eM];change hold _ _ (um (um (um (um (um M4 r (.dK [])) t (.dK [])) sp (.lst [])) sa (.lst [])) sh (.lst []));generalize um (um (um (um (um M4 r (.dK [])) t (.dK [])) sp (.lst [])) sa (.lst [])) sh (.lst [])=M5 at s5 LL5 ⊢;have L5:Lk A.aW A.bq p d l nl b r t sp sa sh la lu lh now ns #[[],[],[],[],[]] M5:=#[S4.sm s5,KG D4 s5,s5 _ _ S2,LL5]
 have Q5:Lq d l nl sp sa sh la lu lh:=#[q1,q2,q3,by rintro x (rfl | rfl | rfl);show#[.new S4 fsp,(bY ZB fsp).symm];show#[.new S4 fsa,(bY ZB fsa).symm];show#[.new S4 fsh,(bY ZB fsh).symm]]
 clear S4 D4 S2 s5 LL5 iO ht wq W_ SS fsp fsa fsh ZB q1 q2 q3;dsimp?! [];exact#[d,l,41,rfl,L5.dr,⋯,⋯,λm M6 m0 m1 D6 b6=> ?_];have L6:=L5.fs Q5 wE D6 (λa o h n=>by rw[b6 a n];show h);clear L5 b6 D6;dsimp?! [];exact#[#[by omega,by omega],jO (λi ρ M'=>fY λ(o1 o2 o3 o4:e9 W)=>ZN λ(r t sp sa sh lu now:fP) (S:gh)=>fj (ρ= [none,some (wr d),some (wi p),some (wr nl),some (wr b),some (eE r t sp sa sh),o1,o2,o3,o4]) (Lk A.aW A.bq p d l nl b r t sp sa sh la lu lh now ns S M') (Lq d l nl sp sa sh la lu lh) (B8 p i S.pure)) #[none,none,none,none,r,t,sp,sa,sh,lu,now,_,rfl,L6,Q5,ZY] (λ_ _ _ _ _=>trivial) ?_ ?_];clear L6 Q5;rintro i x ρ M8 hx ⟨o1,o2,o3,o4,r,t,sp,sa,sh,lu,now,S,rfl,L8,Q8,hZ⟩ N hN;let⟨hi,rfl⟩:=jE hx;have la8: ∀ {M':Mp} {w:W},Lk A.aW A.bq p d l nl b r t sp sa sh la lu lh now ns S M' ->(∀a n,w= .tup [ws "tell",n,wr a] ->M' a=none) ->N8 la w:=λ{M' w} L h n e=>by have h1:=L.bk.bk.pa;rw[h la n e] at h1;cases h1
 dsimp?! [];exact#[d,l,nl,ns,rfl,L8.dr,L8.nl,wE,#[by omega,by omega],tP,λdd w9 M9 NW cN hO hf D9 F9=> ?_];have GO:=la8 L8 hf;have L9:=L8.fs Q8 wE D9 F9;clear L8 hf D9 F9;simp?! [↓eM];exact iP (qQ (λρ M'=>cg λ(dd:fJ) (w:W)=>gm (ρ= [none,some (wr d),some (wi p),some (wr nl),some (wr b),some (eE r t sp sa sh),some (wi (0+(i:Int))),some w,o3,o4]) (DA M' dd w /\ AF dd) (N8 la w) (UK dd) (Lk A.aW A.bq p d l nl b r t sp sa sh la lu lh now ns S M')) ?_ λN hN=> ?_);clear L9 NW hO cN GO;rintro ρ M9 ⟨dd,w9,rfl,⟨NW,cN⟩,GO,hO,L9⟩;have e1:JB wn=true:=by simp[JB]
 have C0:=Nj (p:=p) (now:=now) (S:=S) (dd:=dd);have Co: ∀ {r t sp sa sh lu now:fP} {S:gh} {M':Mp} {q':WK},Lk A.aW A.bq p d l nl b r t sp sa sh la lu lh now ns S M' ->B8 p (i+1) S.pure ->q' (wb true) M' ->Ey A.aW A.bq [wi p,wr b, .tup [wr r,wr t]] M' q':=λ{r t sp sa sh lu now S M' q'} L hZ hq=>#[b,la,lu,lh,now,r,t,p,_,_,_,S.R,S.T,rfl,L.bk.bk,#[L.ll.r,L.ll.t],hZ.now.s.r,#[hZ.now.s.t,hZ.now.s.k],hq]
 have tx: ∀ {r t sp sa sh lu now:fP} {S:gh} {M':Mp} {q':WK},Lk A.aW A.bq p d l nl b r t sp sa sh la lu lh now ns S M' ->B8 p (i+1) S.pure ->q' (ws (Bz p S.R S.T)) M' ->xt A.aW A.bq [wr b] M' q':=λ{r t sp sa sh lu now S M' q'} L hZ hq=>#[b,la,lu,lh,now,p,_,_,_,S.R,S.T,rfl,L.bk.bk,hp,hZ.now.s,#[by have:=hZ.now.r;simp![gh.pure] at this;omega,by have:=hZ.now.t;simp![gh.pure] at this;omega],hq]
 have tl: ∀ {r t sp sa sh lu now:fP} {S:gh} {M':Mp} {q':WK},Lk A.aW A.bq p d l nl b r t sp sa sh la lu lh now ns S M' ->B8 p (i+1) S.pure ->q' (ws (Bz p S.R S.T)) M' ->uR [wi p, .tup [wr r,wr t]] M' q':=λ{r t sp sa sh lu now S M' q'} L hZ hq=>#[p,r,t,S.R,S.T,rfl,#[L.ll.r,L.ll.t],hp,hZ.now.s,#[by have:=hZ.now.r;simp![gh.pure] at this;omega,by have:=hZ.now.t;simp![gh.pure] at this;omega],hq]
 dsimp?! [];exact#[p,r,t,sp,sa,sh,S.pure,dd,w9,rfl,L9.ll,hZ.ok hp (by omega),NW,cN,hO,λZ' v ho uk r' t' BX LJ LI M10 Rr BK hx=> ?_,λf ho=> ?_];have Hv:=L9.sm Rr;dsimp?! [];exact#[b,la,lu,lh,now,p,S,dd,w9,rfl,#[NW.sm Rr,cN],GO,hO,Hv.bk,hZ.sk hp (by omega),λS' v' SX M11 eL Gr B11 TQ tO=> ?_,λf SX=> ?_];let⟨Tg,hv⟩:=hZ.step ho uk;rw[ho,SX] at C0;cases C0;let⟨xd,Uo⟩:=Fi L9.dr;let⟨xl,Zw⟩:=XM Hv.dr;have qx: ∀x,x=BX \/ x=LJ \/ x=LI ->Ap x la lu lh /\ x≠d:=λx h=>by obtain h | h | h | h:=hx x h;show Q8.qx x (.inl h);show Q8.qx x (.inr (.inl h));show Q8.qx x (.inr (.inr h));show#[.new L9.bk h,(bY Uo h).symm]
 have TK:Lk A.aW A.bq p d l nl b r' t' BX LJ LI la eL lh Gr ns S' M11:=#[B11,TQ.dr Hv.bk Hv.dr Q8.qd Q8.ql,TQ.lst Hv.bk Hv.nl Q8.qn,TQ.Ht Hv.bk BK.r,TQ.Ht Hv.bk BK.t,BK.p.fr TQ Hv.bk (qx _ (.inl rfl)).1,BK.u.fr TQ Hv.bk (qx _ (.inr (.inl rfl))).1,BK.h.fr TQ Hv.bk (qx _ (.inr (.inr rfl))).1]
 have Q11:Lq d l nl BX LJ LI la eL lh:=#[Q8.qd.step (Rr _ _ Uo) tO,Q8.ql.step Zw tO,Q8.qn.step Hv.nl tO,λx h=>#[by
  let⟨y,hy⟩: ∃y,M10 x=some (.lst y):=by obtain rfl | rfl | rfl:=h;show BK.p.at;show BK.u.at;show BK.h.at
  show(qx x h).1.step hy tO,(qx x h).2]]
 have fin: ∀o4,N [none,some (wr d),some (wi p),some (wr nl),some (wr b),some (eE r' t' BX LJ LI),some (wi (0+(i:Int))),some w9,some (.tup [.tup [ws "",v'],eE r' t' BX LJ LI]),o4] M11:=λo4=>hN _ _ #[_,_,_,o4,r',t',BX,LJ,LI,eL,Gr,S',rfl,TK,Q11,Tg];dsimp?! [];obtain rfl | ⟨n,rfl⟩:=hv;exact nX (d:= .tup [.str "", .d3]) (.inl rfl) (.inl rfl) ⋯ rfl ?_;dsimp?! [];exact#[rfl,?_];dsimp?! [e1,aG,eE];exact Co TK Tg ?_;dsimp?! [aG,eE];exact tx TK Tg ?_;dsimp?! [eE];exact tl TK Tg ?_;dsimp?! [bI,aG];show fin _;exact nX (d:= .tup [.str "", .int n]) (.inl rfl) (.inl rfl) (by simp[tQ,ka]) rfl ?_;dsimp?! [];exact#[rfl,?_];have e2:JB (wi n)=false:=by simp[JB]
 dsimp?! [e2,aU];exact#[_,rfl,?_];dsimp?! [aG,eE];exact Co TK Tg ?_;dsimp?! [aG,eE];exact tx TK Tg ?_;dsimp?! [eE];exact tl TK Tg ?_;dsimp?! [bI,aG];show fin _;rw[ho,SX] at C0;cases C0;dsimp?! [];exact#[b,la,lu,lh,now,p,S,dd,w9,rfl,#[NW,cN],GO,hO,L9.bk,hZ.sk hp (by omega),λS' v' SX=> ?_,λf' SX=> ?_];rw[ho,SX] at C0;cases C0;rw[ho,SX] at C0;cases C0;dsimp?! [];exact nX (d:= .tup [.str (Cu f), .d3]) (.inl rfl) (.inl rfl) (by simp[tQ,ka]) rfl ?_;dsimp?! [];exact#[rfl,?_];dsimp?! [e1,aG,eE];exact Co L9 hZ.up ?_;dsimp?! [aG,eE];exact tx L9 hZ.up ?_;dsimp?! [eE];exact tl L9 hZ.up ?_;dsimp?! [bI,aG];show hN _ _ #[_,_,_,_,r,t,sp,sa,sh,lu,now,S,rfl,L9,Q8,hZ.up];dsimp?! [];exact di (λh=> ?_) λh=>hN _ _ #[dd,w9,rfl,#[NW,cN],GO,hO,L9];dsimp?! [];exact#[d,l,nl,ns,rfl,L9.dr,L9.nl,wE,#[by omega,by omega],tP,λdd w M' hDV hO2 hf D2 F2=> ?_];dsimp?! [];show hN _ _ #[.r dd,w,rfl,#[hDV,trivial],la8 L9 hf,hO2,L9.fs Q8 wE D2 F2]
 .rintro ρ M7 ⟨o1,o2,o3,o4,r,t,sp,sa,sh,lu,now,S,rfl,_⟩;dsimp?! []
end eY
namespace eY
open PySem L2 WL WQ PyProof.Rows
theorem walk {l:W.OpenLaw}{d:DefRec}{K:Params ->WV}(hn:l.most=some 63)(Td:d.params.defaults= [])(hY: ∀ (w:World) (h:Heap),YP w h ->(K w.params).In h)(nm:d.name= "law")(F: ∀ (w:World) (mg:Str ->e9 c7) (h:Heap),(K w.params).In h ->h.Ns mainGlobals mg -> ∃A,fg (K w.params) mg A): W.WalkO q xw XP YP l.row.toRowW d [] (λf vs=>PySem.call f vs):=L2.Md (n:=63) (k:=9) (x:= "_law_script") (CX:=λ_=>fi) (sp:=λw=>Ae (K w.params)) hn ⋯ Td #[rfl,⋯,⋯] hY (λw mg fa h X G e=>(F w mg h X G).elim λ_ T=>Sk T.law (nm▸e) (λ_ _ _ _ _ _ _=>rfl) λ_=>R8 T) (λ_ _ a ns hl _ hS=>#[a,ns,rfl,hS,λ_=>rfl]) λ_ _ _ _ _ z=>z
end eY
end
def PySem.W.Fast.tw2208115890943294754:Nat:=0
def PySem.W.Fast.tw12070845970139841334:Nat:=0
def PySem.W.Fast.tw1740424640107792302:Nat:=0
def PySem.W.Fast.tw16486745707489268176:Nat:=0
def PySem.W.Fast.tw17340876341690749211:Nat:=0
def PySem.W.Fast.tw17447764996995700306:Nat:=0
def PySem.W.Fast.tw407208312977195085:Nat:=0
def PySem.W.Fast.tw17728791898885851730:Nat:=0
def PySem.W.Fast.tw15482238755291740037:Nat:=0
def PySem.W.Fast.tw14493428934410545273:Nat:=0
def PySem.W.Fast.tw7260046787256335665:Nat:=0
def PySem.W.Fast.tw6178747725096656498:Nat:=0
def PySem.W.Fast.tw16556343737456920405:Nat:=0
def PySem.W.Fast.tw951720573049540248:Nat:=0
def PySem.W.Fast.tw1583490568494393508:Nat:=0
def PySem.W.Fast.tw3170583511883755332:Nat:=0
def PySem.W.Fast.tw18145212437997197812:Nat:=0
def PySem.W.Fast.tw7200535182257325111:Nat:=0
def PySem.W.Fast.tw9170370571327513881:Nat:=0
def PySem.W.Fast.tw2346586039681658805:Nat:=0
def PySem.W.Fast.tw1773025854751257368:Nat:=0
def PySem.W.Fast.tw11519350432231769462:Nat:=0
def PySem.W.Fast.tw16887815109334485183:Nat:=0
def PySem.W.Fast.tw14635135261250365303:Nat:=0
def PySem.W.Fast.tw6419934987175637786:Nat:=0
def PySem.W.Fast.tw11401685664301890266:Nat:=0
def PySem.W.Fast.tw15525806423728249042:Nat:=0
def PySem.W.Fast.tw359053052358614268:Nat:=0
def PySem.W.Fast.tw16140636009212005019:Nat:=0
def PySem.W.Fast.tw4398684347108191743:Nat:=0
def PySem.W.Fast.tw11993421046518320008:Nat:=0
def PySem.W.Fast.tw1464196120962368463:Nat:=0
def PySem.W.Fast.tw2565915079414088548:Nat:=0
def PySem.W.Fast.tw14576652788146307846:Nat:=0
def PySem.W.Fast.tw10814085248522472615:Nat:=0
def PySem.W.Fast.tw14534623470232965219:Nat:=0
def PySem.W.Fast.tw13072593729410591196:Nat:=0
def PySem.W.Fast.tw14364720173509398308:Nat:=0
def PySem.W.Fast.tw1706022702190726755:Nat:=0
def PySem.W.Fast.tw3925560884778778999:Nat:=0
def PySem.W.Fast.tw12154444044420062381:Nat:=0
def PySem.W.Fast.tw12625113813725772895:Nat:=0
def PySem.W.Fast.tw14612082810881464151:Nat:=0
def PySem.W.Fast.tw15705300583164284934:Nat:=0
def PySem.W.Fast.tw18123090233912216225:Nat:=0
def PySem.W.Fast.tw17350698835922174573:Nat:=0
def PySem.W.Fast.tw4950585377453989620:Nat:=0
def PySem.W.Fast.tw8680861269739059682:Nat:=0
def PySem.W.Fast.tw2317406529076592137:Nat:=0
def PySem.W.Fast.tw6810287568295256100:Nat:=0
def PySem.W.Fast.tw15824992863799202703:Nat:=0
def PySem.W.Fast.tw3351345258319965421:Nat:=0
def PySem.W.Fast.tw18163057955900456260:Nat:=0
def PySem.W.Fast.tw11553726526161923011:Nat:=0
def PySem.W.Fast.tw8373782603591887211:Nat:=0
def PySem.W.Fast.tw2904464008623621358:Nat:=0
def PySem.W.Fast.tw3205335321494833623:Nat:=0
def PySem.W.Fast.tw1417586485273056100:Nat:=0
def PySem.W.Fast.tw1472504775202487698:Nat:=0
def PySem.W.Fast.tw5776413148470185110:Nat:=0
def PySem.W.Fast.tw3106623922541898890:Nat:=0
def PySem.W.Fast.tw15277597571166478803:Nat:=0
def PySem.W.Fast.tw13299870780187164427:Nat:=0
def PySem.W.Fast.tw13896632380332490484:Nat:=0
def PySem.W.Fast.tw5417107182564350662:Nat:=0
def PySem.W.Fast.tw16063956135064849568:Nat:=0
def PySem.W.Fast.tw6281733570974654646:Nat:=0
def PySem.W.Fast.tw4475446982714765494:Nat:=0
def PySem.W.Fast.tw3852250802957346596:Nat:=0
def PySem.W.Fast.tw10684703580323311115:Nat:=0
def PySem.W.Fast.tw2800469124431323139:Nat:=0
def PySem.W.Fast.tw11692253524981603056:Nat:=0
def PySem.W.Fast.tw9687964406082738166:Nat:=0
def PySem.W.Fast.tw4161866820642804073:Nat:=0
def PySem.W.Fast.tw8503930945632641414:Nat:=0
def PySem.W.Fast.tw16036726526421046003:Nat:=0
def PySem.W.Fast.tw3124215412869962658:Nat:=0
def PySem.W.Fast.tw8278377097051903968:Nat:=0
def PySem.W.Fast.tw779198694255913500:Nat:=0
def PySem.W.Fast.tw8120142885999756594:Nat:=0
def PySem.W.Fast.tw11842283642205355701:Nat:=0
def PySem.W.Fast.tw8704574048426694866:Nat:=0
def PySem.W.Fast.tw6609614146227179622:Nat:=0
def PySem.W.Fast.tw6576249654534914974:Nat:=0
def PySem.W.Fast.tw7657295190024089035:Nat:=0
def PySem.W.Fast.tw7381962543175709991:Nat:=0
def PySem.W.Fast.tw5048325417822697138:Nat:=0
def PySem.W.Fast.tw3423040953411350176:Nat:=0
def PySem.W.Fast.tw6486047254341345674:Nat:=0
def PySem.W.Fast.tw17624189015993730397:Nat:=0
def PySem.W.Fast.tw7090375356858692340:Nat:=0
def PySem.W.Fast.tw10192895078285725604:Nat:=0
def PySem.W.Fast.tw8199608931478302138:Nat:=0
def PySem.W.Fast.tw362739309945761978:Nat:=0
def PySem.W.Fast.tw5291992993172276551:Nat:=0
def PySem.W.Fast.tw9088642152492334016:Nat:=0
def PySem.W.Fast.tw18346779096091787964:Nat:=0
def PySem.W.Fast.tw64252719300448672:Nat:=0
def PySem.W.Fast.tw13600689576196270882:Nat:=0
def PySem.W.Fast.tw232288441314670548:Nat:=0
def PySem.W.Fast.tw3042805095248738728:Nat:=0
def PySem.W.Fast.tw1250258093443805909:Nat:=0
def PySem.W.Fast.tw9137589354780418607:Nat:=0
def PySem.W.Fast.tw9171990481057764490:Nat:=0
def PySem.W.Fast.tw12566021796257211979:Nat:=0
def PySem.W.Fast.tw16199831251598626145:Nat:=0
def PySem.W.Fast.tw8732650011063407773:Nat:=0
def PySem.W.Fast.tw12866723544114724703:Nat:=0
def PySem.W.Fast.tw7073024642065794263:Nat:=0
def PySem.W.Fast.tw945651252286438440:Nat:=0
def PySem.W.Fast.tw3565015104676480476:Nat:=0
def PySem.W.Fast.tw4569188219929234871:Nat:=0
def PySem.W.Fast.tw6223194417647928395:Nat:=0
def PySem.W.Fast.tw6870800119280939467:Nat:=0
def PySem.W.Fast.tw14754023069783575058:Nat:=0
def PySem.W.Fast.tw14139768232816452518:Nat:=0
def PySem.W.Fast.tw16394107957873185587:Nat:=0
def PySem.W.Fast.tw13667916678640526845:Nat:=0
def PySem.W.Fast.tw11683149183868262480:Nat:=0
def PySem.W.Fast.tw12087576977509825985:Nat:=0
def PySem.W.Fast.tw16440480441395884377:Nat:=0
def PySem.W.Fast.tw18424652471686186346:Nat:=0
def PySem.W.Fast.tw4653313349856982678:Nat:=0
def PySem.W.Fast.tw5667371002943859719:Nat:=0
def PySem.W.Fast.tw13362863700657864056:Nat:=0
def PySem.W.Fast.tw14779962493950387639:Nat:=0
def PySem.W.Fast.tw6290094421765327284:Nat:=0
def PySem.W.Fast.tw2234659971557016523:Nat:=0
def PySem.W.Fast.tw8577601311712884893:Nat:=0
def PySem.W.Fast.tw12618190836459904883:Nat:=0
def PySem.W.Fast.tw11958363332144419246:Nat:=0
def PySem.W.Fast.tw12670669214207550192:Nat:=0
def PySem.W.Fast.tw3979317145823413060:Nat:=0
def PySem.W.Fast.tw12375034360292301825:Nat:=0
def PySem.W.Fast.tw12155638489633878863:Nat:=0
def PySem.W.Fast.tw8313511264342499437:Nat:=0
def PySem.W.Fast.tw14222908355106414011:Nat:=0
def PySem.W.Fast.tw6157153895858086281:Nat:=0
def PySem.W.Fast.tw2294130915101425581:Nat:=0
def PySem.W.Fast.tw1055730781449970818:Nat:=0
def PySem.W.Fast.tw14772461324638602545:Nat:=0
def PySem.W.Fast.tw14976034345769560442:Nat:=0
def PySem.W.Fast.tw7113657925980739824:Nat:=0
def PySem.W.Fast.tw6310217006544899815:Nat:=0
def PySem.W.Fast.tw16168022721565578082:Nat:=0
def PySem.W.Fast.tw16813855516744872720:Nat:=0
def PySem.W.Fast.tw1320336076119901:Nat:=0
def PySem.W.Fast.tw15205202888283514020:Nat:=0
def PySem.W.Fast.tw11821565961691812936:Nat:=0
def PySem.W.Fast.tw17269622870893737174:Nat:=0
def PySem.W.Fast.tw4798770939849280868:Nat:=0
def PySem.W.Fast.tw9417708431768520932:Nat:=0
def PySem.W.Fast.tw7417238459305807319:Nat:=0
def PySem.W.Fast.tw8185418213630459925:Nat:=0
def PySem.W.Fast.tw11581349984128810538:Nat:=0
def PySem.W.Fast.tw13959826684379329114:Nat:=0
def PySem.W.Fast.tw15851961933267251034:Nat:=0
def PySem.W.Fast.tw4051556557120209418:Nat:=0
def PySem.W.Fast.tw3841790288878445593:Nat:=0
def PySem.W.Fast.tw12885639995232435733:Nat:=0
def PySem.W.Fast.tw6210397133161775594:Nat:=0
def PySem.W.Fast.tw11624158888480772784:Nat:=0
def PySem.W.Fast.tw661695519370725441:Nat:=0
def PySem.W.Fast.tw16232112835773318830:Nat:=0
def PySem.W.Fast.tw16614812023457768807:Nat:=0
def PySem.W.Fast.tw15846686792703752063:Nat:=0
def PySem.W.Fast.tw3887518452308560587:Nat:=0
def PySem.W.Fast.tw9307475196754543639:Nat:=0
def PySem.W.Fast.tw16541725488931729740:Nat:=0
def PySem.W.Fast.tw9624028410409846772:Nat:=0
def PySem.W.Fast.tw2637783796617961914:Nat:=0
def PySem.W.Fast.tw18014675015123080856:Nat:=0
def PySem.W.Fast.tw17999819466235439186:Nat:=0
def PySem.W.Fast.tw2134927560696295976:Nat:=0
def PySem.W.Fast.tw7753198346223424951:Nat:=0
def PySem.W.Fast.tw2591028100264467871:Nat:=0
def PySem.W.Fast.tw5019397416519346044:Nat:=0
def PySem.W.Fast.tw15268147662943182649:Nat:=0
def PySem.W.Fast.tw324329083073285786:Nat:=0
def PySem.W.Fast.tw15415432588193973129:Nat:=0
def PySem.W.Fast.tw10550291179427457797:Nat:=0
def PySem.W.Fast.tw7067017240761169230:Nat:=0
def PySem.W.Fast.tw3292629434484373664:Nat:=0
def PySem.W.Fast.tw2358181240115804640:Nat:=0
def PySem.W.Fast.tw13527874822964832968:Nat:=0
def PySem.W.Fast.tw10116147068532130694:Nat:=0
def PySem.W.Fast.tw10952704629155638987:Nat:=0
def PySem.W.Fast.tw4023505759387754400:Nat:=0
def PySem.W.Fast.tw5688853100769806391:Nat:=0
def PySem.W.Fast.tw1199546701929297330:Nat:=0
def PySem.W.Fast.tw8350015540675334532:Nat:=0
def PySem.W.Fast.tw4556131086208902017:Nat:=0
def PySem.W.Fast.tw10472358913481313682:Nat:=0
def PySem.W.Fast.tw6206372778358646679:Nat:=0
def PySem.W.Fast.tw18205689993184098180:Nat:=0
def PySem.W.Fast.tw10100739000230029761:Nat:=0
def PySem.W.Fast.tw5231955802951893610:Nat:=0
def PySem.W.Fast.tw5433789565996658341:Nat:=0
def PySem.W.Fast.tw2377864563094431519:Nat:=0
def PySem.W.Fast.tw11257938594936385101:Nat:=0
def PySem.W.Fast.tw9204044790539448847:Nat:=0
def PySem.W.Fast.tw5799182621476035258:Nat:=0
def PySem.W.Fast.tw9468767608566395870:Nat:=0
def PySem.W.Fast.tw11954234005465801077:Nat:=0
def PySem.W.Fast.tw8347241701503586772:Nat:=0
def PySem.W.Fast.tw14830901215259535753:Nat:=0
def PySem.W.Fast.tw9526944087553361746:Nat:=0
def PySem.W.Fast.tw16107146012419484646:Nat:=0
def PySem.W.Fast.tw13786392425741707087:Nat:=0
def PySem.W.Fast.tw17367781284059830568:Nat:=0
def PySem.W.Fast.tw2619391441516480907:Nat:=0
def PySem.W.Fast.tw8837236162225210952:Nat:=0
def PySem.W.Fast.tw14118413362100388539:Nat:=0
def PySem.W.Fast.tw9885594976907846356:Nat:=0
def PySem.W.Fast.tw8211481537447393256:Nat:=0
def PySem.W.Fast.tw18054097007204582364:Nat:=0
def PySem.W.Fast.tw4464924885210036133:Nat:=0
def PySem.W.Fast.tw13650194148043498809:Nat:=0
def PySem.W.Fast.tw9685041265146146474:Nat:=0
def PySem.W.Fast.tw17148609517973717144:Nat:=0
def PySem.W.Fast.tw17150921900937917681:Nat:=0
def PySem.W.Fast.tw17811689867580430913:Nat:=0
def PySem.W.Fast.tw304176925127902882:Nat:=0
def PySem.W.Fast.tw4450281456621453616:Nat:=0
def PySem.W.Fast.tw6762801506994349734:Nat:=0
def PySem.W.Fast.tw1722578993793060488:Nat:=0
def PySem.W.Fast.tw9801314024080369687:Nat:=0
def PySem.W.Fast.tw12929772014469310081:Nat:=0
def PySem.W.Fast.tw4334279935687240232:Nat:=0
def PySem.W.Fast.tw4235505855328513289:Nat:=0
def PySem.W.Fast.tw4472645190245710515:Nat:=0
def PySem.W.Fast.tw14630377346658195274:Nat:=0
def PySem.W.Fast.tw5649451860452534975:Nat:=0
def PySem.W.Fast.tw15121561563281997224:Nat:=0
def PySem.W.Fast.tw1758443011990749816:Nat:=0
def PySem.W.Fast.tw10042979797794701619:Nat:=0
def PySem.W.Fast.tw18116768646487346021:Nat:=0
def PySem.W.Fast.tw10363710523639947484:Nat:=0
def PySem.W.Fast.tw15644214717500777531:Nat:=0
def PySem.W.Fast.tw5378390046198953347:Nat:=0
def PySem.W.Fast.tw1736993051836014032:Nat:=0
def PySem.W.Fast.tw13189383587568335435:Nat:=0
def PySem.W.Fast.tw16489875996042026568:Nat:=0
def PySem.W.Fast.tw11580652195040866701:Nat:=0
def PySem.W.Fast.tw2692481881741639314:Nat:=0
def PySem.W.Fast.tw10425232552116825971:Nat:=0
def PySem.W.Fast.tw15674320768046022703:Nat:=0
def PySem.W.Fast.tw4292404371217575623:Nat:=0
def PySem.W.Fast.tw18016449450142688955:Nat:=0
def PySem.W.Fast.tw5739771434912857107:Nat:=0
def PySem.W.Fast.tw13535451106894216727:Nat:=0
def PySem.W.Fast.tw9688456649374318064:Nat:=0
def PySem.W.Fast.tw9029391741328365366:Nat:=0
def PySem.W.Fast.tw3570260786998760262:Nat:=0
def PySem.W.Fast.tw4002125605905947461:Nat:=0
def PySem.W.Fast.tw10822094775181356649:Nat:=0
def PySem.W.Fast.tw15620818016055514028:Nat:=0
def PySem.W.Fast.tw7963689139009694376:Nat:=0
def PySem.W.Fast.tw2223260596763445275:Nat:=0
def PySem.W.Fast.tw10565480158852277454:Nat:=0
def PySem.W.Fast.tw11925575436328866228:Nat:=0
def PySem.W.Fast.tw8122952347195275410:Nat:=0
def PySem.W.Fast.tw3912406025406727360:Nat:=0
def PySem.W.Fast.tw16879552263810817326:Nat:=0
def PySem.W.Fast.tw16598886944587873538:Nat:=0
def PySem.W.Fast.tw6717350943309780790:Nat:=0
def PySem.W.Fast.tw17860307219260242977:Nat:=0
def PySem.W.Fast.tw6462026830653977430:Nat:=0
def PySem.W.Fast.tw16062187933237909443:Nat:=0
def PySem.W.Fast.tw10725608495993858093:Nat:=0
def PySem.W.Fast.tw15825173332942540146:Nat:=0
def PySem.W.Fast.tw17800359999137938542:Nat:=0
open PySem PySem.W PyProof.Rows L2
set_option maxRecDepth 100000 in
set_option maxHeartbeats 0 in
theorem PySem.Challenge.cw_duskround_k46_whole_book_forth_and_back_holds : PySem.Challenge.rw_duskround_k46_whole_book_forth_and_back.Holds := by
 w_on;o_law;k_head;(case hw=>w_witness2)
 k_fill
 refine eY.walk (l:=PySem.Challenge.rw_duskround_k46_whole_book_forth_and_back) rfl rfl (λw h Y=>PySem.W.kIn_of Y) rfl λw mg h X G=> ?_
 have' TM:=bO (x:= "tidy") (ps:= ["p","pairs"]) (st:=eY.Cq) X G ?g14 ?g15 ?g16 ?g17;(case g14 | g15 | g16 | g17=>k_is);have' OM:=bO (x:= "added") (ps:= ["p","one","other"]) (st:=eY.Ec) X G ?g18 ?g19 ?g20 ?g21;(case g18 | g19 | g20 | g21=>k_is);have' OG:=bO (x:= "moved") (ps:= ["pattern","by"]) (st:=eY.yD) X G ?g22 ?g23 ?g24 ?g25;(case g22 | g23 | g24 | g25=>k_is);have' OE:=bO (x:= "timed") (ps:= ["p","pattern","n"]) (st:=eY.yC) X G ?g26 ?g27 ?g28 ?g29;(case g26 | g27 | g28 | g29=>k_is);have' TN:=bO (x:= "gone") (ps:= ["p","deeds"]) (st:=eY.Cr) X G ?g30 ?g31 ?g32 ?g33;(case g30 | g31 | g32 | g33=>k_is);have' Ly:=bO (x:= "joined") (ps:= ["p","one","other"]) (st:=eY.Aq) X G ?g34 ?g35 ?g36 ?g37;(case g34 | g35 | g36 | g37=>k_is);have' Dw:=bO (x:= "backward") (ps:= ["p","one"]) (st:=eY.uM) X G ?g38 ?g39 ?g40 ?g41;(case g38 | g39 | g40 | g41=>k_is);have' Ds:=bO (x:= "repeated") (ps:= ["p","one","n"]) (st:=eY.iD) X G ?g42 ?g43 ?g44 ?g45;(case g42 | g43 | g44 | g45=>k_is);have' wQ:=bO (x:= "lies_within") (ps:= ["one","farthest_end","farthest_place"]) (st:=eY.jj) X G ?g46 ?g47 ?g48 ?g49;(case g46 | g47 | g48 | g49=>k_is);have' BN:=bO (x:= "fits_crew") (ps:= ["one"]) (st:=eY.rK) X G ?g50 ?g51 ?g52 ?g53;(case g50 | g51 | g52 | g53=>k_is);have' zN:=bO (x:= "check_name") (ps:= ["name"]) (st:=eY.jW) X G ?g54 ?g55 ?g56 ?g57;(case g54 | g55 | g56 | g57=>k_is);have' zJ:=bO (x:= "with_thing") (ps:= ["things","name","thing"]) (st:=eY.oI) X G ?g58 ?g59 ?g60 ?g61;(case g58 | g59 | g60 | g61=>k_is);have' Hd:=bO (x:= "without") (ps:= ["things","name"]) (st:=eY.xj) X G ?g62 ?g63 ?g64 ?g65;(case g62 | g63 | g64 | g65=>k_is);have' Dx:=K0 (x:= "Page") (ps:= ["self","rounds","teams"]) (st:=eY.Iy) X G ?g66 ?g67 ?g68 ?g69 ?g70 ?g71 ?g72 ?g73 ?g74 ?g75 ?g76 ?g77;(case g66 | g67 | g68 | g69 | g70 | g71 | g72 | g73 | g74 | g75 | g76 | g77=>k_is);have' c8:=K0 (x:= "Book") (ps:= ["self","p"]) (st:=eY.Iz) X G ?g78 ?g79 ?g80 ?g81 ?g82 ?g83 ?g84 ?g85 ?g86 ?g87 ?g88 ?g89;(case g78 | g79 | g80 | g81 | g82 | g83 | g84 | g85 | g86 | g87 | g88 | g89=>k_is);have' tU:=dZ (m:= "settings") (ps:= ["self"]) (st:=eY.kA) c8 ?g90 ?g91 ?g92 ?g93 ?g94;(case g90 | g91 | g92 | g93 | g94=>k_is);have' vZ:=dZ (m:= "turn_to") (ps:= ["self","page"]) (st:=eY.lE) c8 ?g95 ?g96 ?g97 ?g98 ?g99;(case g95 | g96 | g97 | g98 | g99=>k_is);have' Dy:=dZ (m:= "put") (ps:= ["self","name","one"]) (st:=eY.nQ) c8 ?g100 ?g101 ?g102 ?g103 ?g104;(case g100 | g101 | g102 | g103 | g104=>k_is);have' tW:=dZ (m:= "put_team") (ps:= ["self","crew","team"]) (st:=eY.kC) c8 ?g105 ?g106 ?g107 ?g108 ?g109;(case g105 | g106 | g107 | g108 | g109=>k_is);have' tX:=dZ (m:= "enlisted") (ps:= ["self","name"]) (st:=eY.kF) c8 ?g110 ?g111 ?g112 ?g113 ?g114;(case g110 | g111 | g112 | g113 | g114=>k_is);have' BR:=dZ (m:= "team") (ps:= ["self","crew"]) (st:=eY.lG) c8 ?g115 ?g116 ?g117 ?g118 ?g119;(case g115 | g116 | g117 | g118 | g119=>k_is);have' BQ:=dZ (m:= "tell") (ps:= ["self","name","deeds"]) (st:=eY.lF) c8 ?g120 ?g121 ?g122 ?g123 ?g124;(case g120 | g121 | g122 | g123 | g124=>k_is);have' v7:=dZ (m:= "join_as") (ps:= ["self","name","one","other"]) (st:=eY.iF) c8 ?g125 ?g126 ?g127 ?g128 ?g129;(case g125 | g126 | g127 | g128 | g129=>k_is);have' wc:=dZ (m:= "back_as") (ps:= ["self","name","one"]) (st:=eY.iI) c8 ?g130 ?g131 ?g132 ?g133 ?g134;(case g130 | g131 | g132 | g133 | g134=>k_is);have' tT:=dZ (m:= "times_as") (ps:= ["self","name","one","n"]) (st:=eY.gS) c8 ?g135 ?g136 ?g137 ?g138 ?g139;(case g135 | g136 | g137 | g138 | g139=>k_is);have' BV:=dZ (m:= "drop") (ps:= ["self","name"]) (st:=eY.lI) c8 ?g140 ?g141 ?g142 ?g143 ?g144;(case g140 | g141 | g142 | g143 | g144=>k_is);have' zP:=dZ (m:= "found") (ps:= ["self","crew"]) (st:=eY.jX) c8 ?g145 ?g146 ?g147 ?g148 ?g149;(case g145 | g146 | g147 | g148 | g149=>k_is);have' v_:=dZ (m:= "disband") (ps:= ["self","crew"]) (st:=eY.iH) c8 ?g150 ?g151 ?g152 ?g153 ?g154;(case g150 | g151 | g152 | g153 | g154=>k_is);have' wV:=dZ (m:= "enlist") (ps:= ["self","crew","name"]) (st:=eY.jk) c8 ?g155 ?g156 ?g157 ?g158 ?g159;(case g155 | g156 | g157 | g158 | g159=>k_is);have' v8:=dZ (m:= "dismiss") (ps:= ["self","crew","name"]) (st:=eY.iG) c8 ?g160 ?g161 ?g162 ?g163 ?g164;(case g160 | g161 | g162 | g163 | g164=>k_is);have' BP:=dZ (m:= "undo") (ps:= ["self"]) (st:=eY.lD) c8 ?g165 ?g166 ?g167 ?g168 ?g169;(case g165 | g166 | g167 | g168 | g169=>k_is);have' BS:=dZ (m:= "redo") (ps:= ["self"]) (st:=eY.lH) c8 ?g170 ?g171 ?g172 ?g173 ?g174;(case g170 | g171 | g172 | g173 | g174=>k_is);have' BU:=dZ (m:= "hold") (ps:= ["self"]) (st:=eY.rM) c8 ?g175 ?g176 ?g177 ?g178 ?g179;(case g175 | g176 | g177 | g178 | g179=>k_is);have' rD:=dZ (m:= "return_to") (ps:= ["self","k"]) (st:=eY.gr) c8 ?g180 ?g181 ?g182 ?g183 ?g184;(case g180 | g181 | g182 | g183 | g184=>k_is);have' zO:=dZ (m:= "names") (ps:= ["self"]) (st:=eY.oN) c8 ?g185 ?g186 ?g187 ?g188 ?g189;(case g185 | g186 | g187 | g188 | g189=>k_is);have' zQ:=dZ (m:= "crews") (ps:= ["self"]) (st:=eY.oO) c8 ?g190 ?g191 ?g192 ?g193 ?g194;(case g190 | g191 | g192 | g193 | g194=>k_is);have' tV:=dZ (m:= "round_of") (ps:= ["self","name"]) (st:=eY.gT) c8 ?g195 ?g196 ?g197 ?g198 ?g199;(case g195 | g196 | g197 | g198 | g199=>k_is);have' v6:=dZ (m:= "members") (ps:= ["self","crew"]) (st:=eY.iE) c8 ?g200 ?g201 ?g202 ?g203 ?g204;(case g200 | g201 | g202 | g203 | g204=>k_is);have' OF:=bO (x:= "shown") (ps:= ["one"]) (st:=eY.DY) X G ?g205 ?g206 ?g207 ?g208;(case g205 | g206 | g207 | g208=>k_is);have' BO:=bO (x:= "book_text") (ps:= ["book"]) (st:=eY.rL) X G ?g209 ?g210 ?g211 ?g212;(case g209 | g210 | g211 | g212=>k_is);have' Hi:=bO (x:= "_law_begin") (ps:= ["_law_script"]) (st:=eY.qv) X G ?g213 ?g214 ?g215 ?g216;(case g213 | g214 | g215 | g216=>k_is);have' Ls:=bO (x:= "_law_take") (ps:= ["_law_draw","_law_many"]) (st:=eY.Ak) X G ?g217 ?g218 ?g219 ?g220;(case g217 | g218 | g219 | g220=>k_is);have' Yc:=bO (x:= "_law_p") (ps:= ["_law_draw"]) (st:=eY.Pd) X G ?g221 ?g222 ?g223 ?g224;(case g221 | g222 | g223 | g224=>k_is);have' Hh:=bO (x:= "_law_names") (ps:= ["_law_draw","_law_many"]) (st:=eY.xo) X G ?g225 ?g226 ?g227 ?g228;(case g225 | g226 | g227 | g228=>k_is);have' Lr:=bO (x:= "_law_tidy") (ps:= ["_law_p_here","_law_pairs"]) (st:=eY.Aj) X G ?g229 ?g230 ?g231 ?g232;(case g229 | g230 | g231 | g232=>k_is);have' OH:=bO (x:= "_law_sum") (ps:= ["_law_p_here","_law_one","_law_other","_law_by","_law_many"]) (st:=eY.DZ) X G ?g233 ?g234 ?g235 ?g236;(case g233 | g234 | g235 | g236=>k_is);have' Lv:=bO (x:= "_law_join") (ps:= ["_law_p_here","_law_one","_law_other"]) (st:=eY.Am) X G ?g237 ?g238 ?g239 ?g240;(case g237 | g238 | g239 | g240=>k_is);have' Lx:=bO (x:= "_law_back") (ps:= ["_law_p_here","_law_one"]) (st:=eY.Ao) X G ?g241 ?g242 ?g243 ?g244;(case g241 | g242 | g243 | g244=>k_is);have' Hf:=bO (x:= "_law_times") (ps:= ["_law_p_here","_law_one","_law_n"]) (st:=eY.xm) X G ?g245 ?g246 ?g247 ?g248;(case g245 | g246 | g247 | g248=>k_is);have' BM:=bO (x:= "_law_is_name") (ps:= ["_law_name"]) (st:=eY.rJ) X G ?g249 ?g250 ?g251 ?g252;(case g249 | g250 | g251 | g252=>k_is);have' OK:=bO (x:= "_law_far") (ps:= ["_law_one","_law_most","_law_reach"]) (st:=eY.Ea) X G ?g253 ?g254 ?g255 ?g256;(case g253 | g254 | g255 | g256=>k_is);have' Lo:=bO (x:= "_law_walk") (ps:= ["_law_p_here","_law_deeds"]) (st:=eY.Ai) X G ?g257 ?g258 ?g259 ?g260;(case g257 | g258 | g259 | g260=>k_is);have' He:=bO (x:= "_law_value") (ps:= ["_law_p_here","_law_rounds","_law_deed"]) (st:=eY.xk) X G ?g261 ?g262 ?g263 ?g264;(case g261 | g262 | g263 | g264=>k_is);have' wR:=bO (x:= "_law_due_round") (ps:= ["_law_p_here","_law_stand","_law_deed"]) (st:=eY.no) X G ?g265 ?g266 ?g267 ?g268;(case g265 | g266 | g267 | g268=>k_is);have' vX:=bO (x:= "_law_due_member") (ps:= ["_law_stand","_law_deed"]) (st:=eY.lB) X G ?g269 ?g270 ?g271 ?g272;(case g269 | g270 | g271 | g272=>k_is);have' zL:=bO (x:= "_law_due_crew") (ps:= ["_law_stand","_law_deed"]) (st:=eY.oK) X G ?g273 ?g274 ?g275 ?g276;(case g273 | g274 | g275 | g276=>k_is);have' OL:=bO (x:= "_law_due") (ps:= ["_law_p_here","_law_stand","_law_deed"]) (st:=eY.Eb) X G ?g277 ?g278 ?g279 ?g280;(case g277 | g278 | g279 | g280=>k_is);have' Lu:=bO (x:= "_law_step") (ps:= ["_law_p_here","_law_state","_law_deed"]) (st:=eY.Al) X G ?g281 ?g282 ?g283 ?g284;(case g281 | g282 | g283 | g284=>k_is);have' OI:=bO (x:= "_law_run") (ps:= ["_law_book","_law_deed"]) (st:=eY.yE) X G ?g285 ?g286 ?g287 ?g288;(case g285 | g286 | g287 | g288=>k_is);have' Lw:=bO (x:= "_law_call") (ps:= ["_law_book","_law_deed"]) (st:=eY.An) X G ?g289 ?g290 ?g291 ?g292;(case g289 | g290 | g291 | g292=>k_is);have' OJ:=bO (x:= "_law_int") (ps:= ["_law_thing"]) (st:=eY.D_) X G ?g293 ?g294 ?g295 ?g296;(case g293 | g294 | g295 | g296=>k_is);have' vW:=bO (x:= "_law_is_pattern") (ps:= ["_law_p_here","_law_thing"]) (st:=eY.lA) X G ?g297 ?g298 ?g299 ?g300;(case g297 | g298 | g299 | g300=>k_is);have' zK:=bO (x:= "_law_is_round") (ps:= ["_law_p_here","_law_thing"]) (st:=eY.oJ) X G ?g301 ?g302 ?g303 ?g304;(case g301 | g302 | g303 | g304=>k_is);have' Dv:=bO (x:= "_law_stands") (ps:= ["_law_p_here","_law_book","_law_stand"]) (st:=eY.uL) X G ?g305 ?g306 ?g307 ?g308;(case g305 | g306 | g307 | g308=>k_is);have' vY:=bO (x:= "_law_draw_deeds") (ps:= ["_law_draw"]) (st:=eY.lC) X G ?g309 ?g310 ?g311 ?g312;(case g309 | g310 | g311 | g312=>k_is);have' Du:=bO (x:= "_law_target") (ps:= ["_law_draw","_law_names_here"]) (st:=eY.uK) X G ?g313 ?g314 ?g315 ?g316;(case g313 | g314 | g315 | g316=>k_is);have' vV:=bO (x:= "_law_round_deed") (ps:= ["_law_draw","_law_names_here"]) (st:=eY.lz) X G ?g317 ?g318 ?g319 ?g320;(case g317 | g318 | g319 | g320=>k_is);have' wS:=bO (x:= "_law_crew_deed") (ps:= ["_law_draw","_law_names_here"]) (st:=eY.nq) X G ?g321 ?g322 ?g323 ?g324;(case g321 | g322 | g323 | g324=>k_is);have' zM:=bO (x:= "_law_any_deed") (ps:= ["_law_draw","_law_names_here"]) (st:=eY.oM) X G ?g325 ?g326 ?g327 ?g328;(case g325 | g326 | g327 | g328=>k_is);have' Hg:=bO (x:= "_law_shown") (ps:= ["_law_one"]) (st:=eY.xn) X G ?g329 ?g330 ?g331 ?g332;(case g329 | g330 | g331 | g332=>k_is);have' wT:=bO (x:= "_law_book_text") (ps:= ["_law_p_here","_law_stand"]) (st:=eY.nr) X G ?g333 ?g334 ?g335 ?g336;(case g333 | g334 | g335 | g336=>k_is);have' Yb:=bO (x:= "law") (ps:= ["_law_script"]) (st:=eY.Ix) X G ?g337 ?g338 ?g339 ?g340;(case g337 | g338 | g339 | g340=>k_is);have' BJ:=u_ c8 "held" ?n_Book_held;(case n_Book_held=>k_is);have' Dp:=u_ c8 "now" ?n_Book_now;(case n_Book_now=>k_is);have' Lh:=u_ c8 "p" ?n_Book_p;(case n_Book_p=>k_is);have' BI:=u_ c8 "past" ?n_Book_past;(case n_Book_past=>k_is);have' wP:=u_ c8 "undone" ?n_Book_undone;(case n_Book_undone=>k_is);have' wO:=u_ Dx "rounds" ?n_Page_rounds;(case n_Page_rounds=>k_is);have' zH:=u_ Dx "teams" ?n_Page_teams;(case n_Page_teams=>k_is);have' Hc:=jr (x:= "BadName") X G ?g349;(case g349=>k_is);have' OC:=jr (x:= "InUse") X G ?g350;(case g350=>k_is);have' Ln:=jr (x:= "NoCrew") X G ?g351;(case g351=>k_is);have' Lm:=jr (x:= "NoDeed") X G ?g352;(case g352=>k_is);have' Ll:=jr (x:= "NoMore") X G ?g353;(case g353=>k_is);have' Hb:=jr (x:= "NoRound") X G ?g354;(case g354=>k_is);have' Ha:=jr (x:= "NoState") X G ?g355;(case g355=>k_is);have' OB:=jr (x:= "Taken") X G ?g356;(case g356=>k_is);have' Lj:=jr (x:= "TooFar") X G ?g357;(case g357=>k_is);have' G_:=jr (x:= "TooMany") X G ?g358;(case g358=>k_is);have' Hm:=ji (x:= "BadName") X ?g359 ?g360 ?g361 ?g362 ?g363 ?g364 ?g365 ?g366;(case g359=>k_is);(case g360=>k_exc);(case g361 | g362 | g363 | g364 | g365 | g366=>k_is);have' OO:=ji (x:= "InUse") X ?g367 ?g368 ?g369 ?g370 ?g371 ?g372 ?g373 ?g374;(case g367=>k_is);(case g368=>k_exc);(case g369 | g370 | g371 | g372 | g373 | g374=>k_is);have' LC:=ji (x:= "NoCrew") X ?g375 ?g376 ?g377 ?g378 ?g379 ?g380 ?g381 ?g382;(case g375=>k_is);(case g376=>k_exc);(case g377 | g378 | g379 | g380 | g381 | g382=>k_is);have' LB:=ji (x:= "NoDeed") X ?g383 ?g384 ?g385 ?g386 ?g387 ?g388 ?g389 ?g390;(case g383=>k_is);(case g384=>k_exc);(case g385 | g386 | g387 | g388 | g389 | g390=>k_is);have' LA:=ji (x:= "NoMore") X ?g391 ?g392 ?g393 ?g394 ?g395 ?g396 ?g397 ?g398;(case g391=>k_is);(case g392=>k_exc);(case g393 | g394 | g395 | g396 | g397 | g398=>k_is);have' Hl:=ji (x:= "NoRound") X ?g399 ?g400 ?g401 ?g402 ?g403 ?g404 ?g405 ?g406;(case g399=>k_is);(case g400=>k_exc);(case g401 | g402 | g403 | g404 | g405 | g406=>k_is);have' Hk:=ji (x:= "NoState") X ?g407 ?g408 ?g409 ?g410 ?g411 ?g412 ?g413 ?g414;(case g407=>k_is);(case g408=>k_exc);(case g409 | g410 | g411 | g412 | g413 | g414=>k_is);have' ON:=ji (x:= "Taken") X ?g415 ?g416 ?g417 ?g418 ?g419 ?g420 ?g421 ?g422;(case g415=>k_is);(case g416=>k_exc);(case g417 | g418 | g419 | g420 | g421 | g422=>k_is);have' Lz:=ji (x:= "TooFar") X ?g423 ?g424 ?g425 ?g426 ?g427 ?g428 ?g429 ?g430;(case g423=>k_is);(case g424=>k_exc);(case g425 | g426 | g427 | g428 | g429 | g430=>k_is);have' Hj:=ji (x:= "TooMany") X ?g431 ?g432 ?g433 ?g434 ?g435 ?g436 ?g437 ?g438;(case g431=>k_is);(case g432=>k_exc);(case g433 | g434 | g435 | g436 | g437 | g438=>k_is)
 refine' ⟨⟨_,_,_,_,_,_,_,_,_,_,_,_,_,_,_,_,_,_,_,_,_,_,_,_,_,_,_,_,_,_,_,_,_,_,_,_,_,_,_,_,_,_,_,_,_,_,_,_,_,_,_,_,_,_,_,_,_,_,_,_,_,_,_,_,_,_,_,_,_,_,_,_,_,_,_,_,_,_,_,_,_,_,_,_,_,_,_,_,_,_,_,_,_,_,_,_,_,_,_,_,_,_,_,_,_,_,_,_,_,_,_,_,_,_,_,_,_,_,_,_,_,_,_,_,_,_,_,_,_,_,_,_,_,_,_,_,_,_,_,_,_,_,_,_,_,_,_,_,_,_,_,_,_,_,_,_⟩,bR X G ?g1,bR X G ?g2,bR X G ?g3,bR X G ?g4,bR X G ?g5,bR X G ?g6,bR X G ?g7,bR X G ?g8,bR X G ?g9,bR X G ?g10,bR X G ?g11,bR X G ?g12,bR X G ?g13,TM,OM,OG,OE,TN,Ly,Dw,Ds,wQ,BN,zN,zJ,Hd,Dx,c8,tU,vZ,Dy,tW,tX,BR,BQ,v7,wc,tT,BV,zP,v_,wV,v8,BP,BS,BU,rD,zO,zQ,tV,v6,OF,BO,Hi,Ls,Yc,Hh,Lr,OH,Lv,Lx,Hf,BM,OK,Lo,He,wR,vX,zL,OL,Lu,OI,Lw,OJ,vW,zK,Dv,vY,Du,vV,wS,zM,Hg,wT,Yb,BJ,Dp,Lh,BI,wP,wO,zH,vn X G ?g341,vn X G ?g342,vn X G ?g343,vn X G ?g344,vn X G ?g345,Rc X G ?g346,Q1 X G ?g347 ?g348,Hc,OC,Ln,Lm,Ll,Hb,Ha,OB,Lj,G_,Hm,OO,LC,LB,LA,Hl,Hk,ON,Lz,Hj,?g439,?g440,?g441,?g442,?g443,?g444,?g445,?g446,?g447,?g448,?g449,?g450,?g451,?g452,?g453,?g454,?g455,?g456,?g457,?g458,?g459,?g460,?g461,?g462,?g463,?g464,?g465,?g466,?g467,?g468,?g469,?g470,?g471,?g472,?g473,?g474,?g475,?g476,?g477,?g478,?g479,?g480,?g481,?g482,?g483⟩
 (case g1 | g2 | g3 | g4 | g5 | g6 | g7 | g8 | g9 | g10 | g11 | g12 | g13 | g341 | g342 | g343 | g344 | g345 | g346 | g347 | g348=>k_is);(case g439 | g440 | g441 | g442 | g443 | g444 | g445 | g446 | g447 | g448 | g449 | g450 | g451 | g452 | g453 | g454 | g455 | g456 | g457 | g458 | g459 | g460 | g461 | g462 | g463 | g464 | g465 | g466 | g467 | g468 | g469 | g470 | g471 | g472 | g473 | g474 | g475 | g476 | g477 | g478 | g479 | g480 | g481 | g482 | g483=>kit_is)
