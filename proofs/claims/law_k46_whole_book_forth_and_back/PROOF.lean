import PyProof.Rows.All
import Wide.All
import OpenK.AllK
import Wide.FinOn
import Lean
import PyProof.EqAt
import PyProof.EqKinds
import PyProof.TupleCall
import PyProof.NeKinds
import PyProof.SumAny
import PyProof.ConsumeS
import PyProof.WalkInts
import PyProof.Draws
import PyProof.EnumMake
import PyProof.Rows.Range3
import PyProof.MeetsStr
import KE.KDictLaws
import PyProof.Rows.CallKwBuiltin
import PyProof.DictItems
import KE.KPairComp
import PyProof.AttrMissHeap
import KE.KDictOf
import KE.KItemsList
import KE.KTryMore
import PyProof.StrBlockG
import PyProof.StrWalks
import PyProof.Rows.SortStr
import PyProof.Rows.SortKeyStr
import PySem.Challenge.RW_duskround_k46_whole_book_forth_and_back
set_option linter.all false
set_option genSizeOf false
set_option genInjectivity false
abbrev cH:=@List
abbrev df:=@PySem.Value
abbrev dG:=@PySem.Shared
abbrev fj:=@Option
abbrev fY:=@PySem.Addr
abbrev gO:=@PyProof.Rows.Keyed
abbrev gP:=@Array
abbrev WW:=@PySem.W.Frag
abbrev WY:=@PyProof.Rows.SortSt
def af:=@List.length_map
def ak:=@if_neg
def ao:=@if_pos
def aq:=@Nat.le_refl
def ar:=@Nat.le_trans
def au:=@eq_true
def av:=@PySem.Heap.get?_push_of_some
def aw:=@PyProof.Rows.wpS_bind
def aA:=@PySem.wpAny_bind
def aB:=@List.map_append
def aC:=@List.length_cons
def aD:=@Bool.false_eq_true
def aE:=@List.length_append
def aG:=@decide_eq_false
def aI:=@Bool.not_true
def aJ:=@PyProof.Rows.wpS_pure
def aK:=@List.getElem?_map
def aN:=@PySem.F.plainAttrs_list
def aO:=@List.size_toArray
def aP:=@List.map_cons
def aQ:=@List.getElem?_eq_getElem
def aT:=@PySem.Heap.lt_size
def aV:=@List.mem_cons
def aW:=@Bool.not_false
def aX:=@List.mem_of_getElem?
def a4:=@List.mem_append_right
def a5:=@List.map_map
def a6:=@PySem.Heap.get?_push_size
def a8:=@decide_eq_true
def be:=@List.mem_append
def bf:=@PySem.wpAny_pure
def bg:=@List.mem_singleton
def bi:=@List.getElem?_append_right
def br:=@Bool.false_ne_true
def bt:=@of_decide_eq_true
def bu:=@List.getElem?_append_left
def bx:=@PySem.F.type_list_append
def bz:=@PySem.F.slot_list_append
def bA:=@Option.some.inj
def bB:=@List.getElem?_eq_some_iff
def bD:=@Nat.lt_of_lt_of_le
def bF:=@Nat.ne_of_lt
def bG:=@Option.map_some
def bH:=@if_false
def bJ:=@PySem.wpAny_mono
def bL:=@List.take_append_drop
def bT:=@List.length_take
def bU:=@List.append_assoc
def bV:=@PySem.W.mg_none_of
def bW:=@Array.toList_append
def b0:=@decide_true
def b8:=@Option.isSome_map
def b_:=@List.mem_map
def cc:=@List.pairwise_cons
def ce:=@if_true
def cz:=@Option.isSome_some
def cA:=@PySem.wpAny_truthy_bool
def cD:=@PyProof.Rows.wpS_forRange
def cF:=@PySem.W.kia_one
def cG:=@Bool.and_eq_true
def cK:=@List.take_add_one
def cQ:=@List.find?_cons
def cW:=@List.take_length
def cY:=@PySem.sizeLine_eq
def c5:=@PySem.PassesOwn.never
def de:=@PySem.F.slot_str_join
def dj:=@Option.isSome_none
def dm:=@Nat.zero_le
def dn:=@List.pairwise_append
def dq:=@List.mem_cons_of_mem
def dt:=@List.getElem?_replicate
def dB:=@decide_eq_true_eq
def dC:=@PySem.F.plainAttrs_str
def dD:=@Ne.symm
def dH:=@PySem.mem_of_lookup
def dI:=@List.map_congr_left
def dL:=@Array.length_toList
def dQ:=@List.append_nil
def dW:=@PySem.F.type_str_join
def dX:=@List.perm_append_comm
inductive cx {T0 T1:Type}(P:T0 ->T1 ->Prop):Prop | mk (x0:T0) (x1:T1) (h:P x0 x1):cx P
inductive eZ {T0 T1 T2:Type}(P:T0 ->T1 ->T2 ->Prop):Prop | mk (x0:T0) (x1:T1) (x2:T2) (h:P x0 x1 x2):eZ P
inductive gc {T0 T1 T2 T3:Type}(P:T0 ->T1 ->T2 ->T3 ->Prop):Prop | mk (x0:T0) (x1:T1) (x2:T2) (x3:T3) (h:P x0 x1 x2 x3):gc P
inductive sW {T0 T1 T2 T3 T4:Type}(P:T0 ->T1 ->T2 ->T3 ->T4 ->Prop):Prop | mk (x0:T0) (x1:T1) (x2:T2) (x3:T3) (x4:T4) (h:P x0 x1 x2 x3 x4):sW P
inductive UG {T0 T1 T2 T3 T4 T5:Type}(P:T0 ->T1 ->T2 ->T3 ->T4 ->T5 ->Prop):Prop | mk (x0:T0) (x1:T1) (x2:T2) (x3:T3) (x4:T4) (x5:T5) (h:P x0 x1 x2 x3 x4 x5):UG P
inductive ZP {T0 T1 T2 T3 T4 T5 T6:Type}(P:T0 ->T1 ->T2 ->T3 ->T4 ->T5 ->T6 ->Prop):Prop | mk (x0:T0) (x1:T1) (x2:T2) (x3:T3) (x4:T4) (x5:T5) (x6:T6) (h:P x0 x1 x2 x3 x4 x5 x6):ZP P
inductive ZO {T0 T1 T2 T3 T4 T5 T6 T7:Type}(P:T0 ->T1 ->T2 ->T3 ->T4 ->T5 ->T6 ->T7 ->Prop):Prop | mk (x0:T0) (x1:T1) (x2:T2) (x3:T3) (x4:T4) (x5:T5) (x6:T6) (x7:T7) (h:P x0 x1 x2 x3 x4 x5 x6 x7):ZO P
inductive c8 (P0 P1 P2:Prop):Prop | mk (Xx:P0) (Xw:P1) (Xv:P2):c8 P0 P1 P2
inductive fA (P0 P1 P2 P3:Prop):Prop | mk (Xx:P0) (Xw:P1) (Xv:P2) (ZG:P3):fA P0 P1 P2 P3
inductive gy (P0 P1 P2 P3 P4:Prop):Prop | mk (Xx:P0) (Xw:P1) (Xv:P2) (ZG:P3) (hP4:P4):gy P0 P1 P2 P3 P4
inductive lz (P0 P1 P2 P3 P4 P5:Prop):Prop | mk (Xx:P0) (Xw:P1) (Xv:P2) (ZG:P3) (hP4:P4) (hP5:P5):lz P0 P1 P2 P3 P4 P5
inductive Lj (P0 P1 P2 P3 P4 P5 P6:Prop):Prop | mk (Xx:P0) (Xw:P1) (Xv:P2) (ZG:P3) (hP4:P4) (hP5:P5) (hP6:P6):Lj P0 P1 P2 P3 P4 P5 P6
inductive BM (P0 P1 P2 P3 P4 P5 P6 P7:Prop):Prop | mk (Xx:P0) (Xw:P1) (Xv:P2) (ZG:P3) (hP4:P4) (hP5:P5) (hP6:P6) (hP7:P7):BM P0 P1 P2 P3 P4 P5 P6 P7
set_option Elab.async false
set_option maxRecDepth 100000
set_option genSizeOf false
set_option genInjectivity false
local macro_rules | `(∅) => `(by lia)
local macro_rules | `(⇑$x) => `(by simpa using $x)
set_option compiler.extract_closed false
noncomputable section
local macro_rules|`(⋯)=>`(by decide)
local macro_rules|`(tactic|symm)=>`(tactic|constructor)
local macro_rules|`(tactic|exact $e)=>`(tactic|refine $e)
local macro_rules|`(tactic|show $e)=>`(tactic|refine $e)
local macro_rules|`(def $i $s:optDeclSig:=by $v)=>do let d:=Lean.mkNode ``Lean.Parser.Command.declSig #[s.raw[0],s.raw[1][0]];`(theorem $i $(⟨d⟩):declSig:=by $v)|`(def $i $s:optDeclSig $v:declVal)=>`(noncomputable def $i $s:optDeclSig $v:declVal)|`(abbrev $i $s:optDeclSig $v:declVal)=>`(noncomputable abbrev $i $s:optDeclSig $v:declVal)
local macro_rules|`(tactic|let $p:term$[:$t]?:=$e)=>do let r:=p.raw.rewriteBottomUp (λs=>let k:=s.getKind;if s.isIdent then Lean.mkNode `Lean.Parser.Tactic.rcasesPat.one #[s] else if k==`Lean.Parser.Term.hole then Lean.mkNode `Lean.Parser.Tactic.rcasesPat.ignore s.getArgs else if k==`Lean.Parser.Term.anonymousCtor then Lean.mkNode `Lean.Parser.Tactic.rcasesPat.tuple (s.getArgs.modify 1 λa=>.node .none `null (a.getArgs.map λq=>if q.isAtom then q else Lean.mkNode `Lean.Parser.Tactic.rcasesPatLo #[Lean.mkNode `Lean.Parser.Tactic.rcasesPatMed #[Lean.mkNullNode #[q]],Lean.mkNullNode])) else s);`(tactic|obtain $(⟨Lean.mkNode `Lean.Parser.Tactic.rcasesPatMed #[Lean.mkNullNode #[r]]⟩):rcasesPatMed$[:$t]?:=$e)
local macro_rules|`(tactic|simp![$x,*]$[$l]?)=>`(tactic|simp only[$x,*]$[$l]?)
local macro_rules|`(#[$x,$y])=>`(⟨$x,$y⟩)|`(#[$x,$y,$z,*])=>`(⟨$x,$y,$z,*⟩)
namespace TS
open PySem PyProof.Rows
def LE (less:gO ->gO ->Bool)(x y:gO):Prop:=less y x=false
structure Ord (less:Keyed ->Keyed ->Bool):Prop where
 X1: ∀x y,less x y=true ->less y x=false
 trans: ∀x y z,LE less x y ->LE less y z ->LE less x z
def Ord.refl (O:Ord less)(x:gO):LE less x x:=by
 unfold LE;cases h:less x x with
 | false=>rfl
 | true=>show(O.X1 x x h).symm.trans h▸rfl
theorem Ord.le (O:Ord less)(h:less x y=true):LE less x y:=O.X1 x y h
def Ord.Wy (O:Ord less)(h:LE less x y)(h':less y z=true):less x z=true:=by
 cases e:less x z with
 | true=>rfl
 | false=>have:=O.trans z x y e h;unfold LE at this;rw[h'] at this;cases this
def cI (xs:gP gO)(i:Nat):gO:=(xs[i]?).getD (.none, .none)
def Ld (h:i<xs.size):xs[i]? =some (cI xs i):=by unfold cI;rw[getElem?_pos xs i h];rfl
def j5 (h:xs[i]? =ys[j]?):cI xs i=cI ys j:=by unfold cI;rw[h]
def zI (h:i<xs.size):cI xs i∈xs.toList:=by unfold cI;rw[getElem?_pos xs i h];simp
def Sg (less:gO ->gO ->Bool)(xs:gP gO)(lo hi:Nat):Prop:= ∀i j,lo<=i ->i<=j ->j<hi ->LE less (cI xs i) (cI xs j)
def Ng (less:gO ->gO ->Bool)(xs:gP gO)(lo hi:Nat):Prop:= ∀i j,lo<=i ->i<=j ->j<hi ->LE less (cI xs j) (cI xs i)
structure SB (kd:SortKind)(a₀:Array Keyed)(st:SortSt):Prop where
 perm:(arrOf st).Perm a₀
 kd:kindOf st=kd
 fl:failedOf st=none
theorem SB.size {kd:SortKind}{st:WY}(h:SB kd a₀ st):(arrOf st).size=a₀.size:=h.perm.size_eq
theorem SB.mem {kd:SortKind}{st:WY}(h:SB kd a₀ st)(hi:i<a₀.size):cI (arrOf st) i∈a₀.toList:=(Array.perm_iff_toList_perm.mp h.perm).mem_iff.mp (zI (by rw[h.size];show hi))
theorem SB.arr {kd:SortKind}{st:WY}(h:SB kd a₀ st)(hp:xs.Perm (arrOf st)):SB kd a₀ (setArr st xs):=#[hp.trans h.perm,h.kd,h.fl]
def i5 (prog:Program)(w:World)(A:Around)(E:df ->dG ->Prop)(s:dG)(kd:SortKind)(a₀:gP gO)(less:gO ->gO ->Bool):Prop:=∀ (x y:gO) (st:WY) (Q:fj Bool ->WY ->Prop),x∈a₀.toList ->y∈a₀.toList ->kindOf st=kd ->Q (some (less x y)) st ->wpS (model prog w) A E s (lt' x y) Q st
def wp_elem {st:WY}(hi:i<xs.size)(h:Q (cI xs i) st):wpS (model prog w) A E s (elem' xs i) Q st:=by rw[elem'_eq,Ld hi];show aJ h
def wp_lt (L:i5 prog w A E s kd a₀ less){st:WY}(B:SB kd a₀ st)(hi:i<a₀.size)(hj:j<a₀.size)(h:Q (some (less (cI (arrOf st) i) (cI (arrOf st) j))) st):wpS (model prog w) A E s (ltAt' i j) Q st:=by rw[ltAt'_eq];exact aw (wpS_get ?_);show aw (wp_elem (by rw[B.size];show hi) (aw (wp_elem (by rw[B.size];show hj) (L _ _ _ _ (B.mem hi) (B.mem hj) B.kd h))))
def wp_rev {st:WY}(h:Q () (setArr st (mirror (arrOf st) i j ((j - i) / 2)))):wpS (model prog w) A E s (reverseSlice' i j) Q st:=by rw[reverseSlice'_eq];show wpS_modify h
def eP (hj:j<=xs.size)(k:Nat):cI (mirror xs i j ((j - i) / 2)) k=if i<=k /\ k<j then cI xs (i+j - 1 - k) else cI xs k:=by have e:=getElem?_mirror_all (i:=i) hj k;by_cases c:i<=k /\ k<j;rw[ao c] at e ⊢;show j5 e;rw[ak c] at e ⊢;show j5 e
def ox (hs:LN<xs.size)(hd:d<=LN)(k:Nat):cI (bubble xs LN d) k=if k=LN - d then cI xs LN else if LN - d<k /\ k<=LN then cI xs (k - 1) else cI xs k:=by have e:=getElem?_bubble hs d hd k;by_cases c:k=LN - d;rw[ao c] at e ⊢;show j5 e;rw[ak c] at e ⊢;by_cases c':LN - d<k /\ k<=LN;rw[ao c'] at e ⊢;show j5 e;rw[ak c'] at e ⊢;show j5 e
def Lf (lo a dN:Nat):StateT WY Sem AscSt:=forIn [a:dN] ((none,a):AscSt) λ_ c=>do
 let x <- ltAt' (lo+c.snd) (lo+c.snd - 1)
 match x with
 | some b=>if b=true then pure (ForInStep.done (none,c.snd)) else pure (ForInStep.yield (none,c.snd+1))
 | _=>pure (ForInStep.done (some none,c.snd))
def Ae (lo n dN:Nat):StateT WY Sem (fj Nat):=do
 reverseSlice' lo (lo+n)
 let c <- Lf lo n dN
 match c.fst with
 | some r=>pure r
 | none=>pure (some c.snd)
def Fp (lo n dN:Nat):StateT WY Sem DescSt:=forIn [n:dN] ((none,n,0):DescSt) λ_ c=>do
 let x <- ltAt' (lo+c.snd.fst) (lo+c.snd.fst - 1)
 match x with
 | some b=>
  if b=true then
   if c.snd.snd >0 then do
    reverseSlice' (lo+c.snd.fst - (c.snd.snd+1)) (lo+c.snd.fst)
    pure (ForInStep.yield (none,c.snd.fst+1,0))
   else pure (ForInStep.yield (none,c.snd.fst+1,0))
  else do
   let y <- ltAt' (lo+c.snd.fst - 1) (lo+c.snd.fst)
   match y with
   | some d=>
    if d=true then pure (ForInStep.done (none,c.snd.fst,c.snd.snd))
    else pure (ForInStep.yield (none,c.snd.fst+1,c.snd.snd+1))
   | _=>pure (ForInStep.done (some none,c.snd.fst,c.snd.snd))
 | _=>pure (ForInStep.done (some none,c.snd.fst,c.snd.snd))
def AG (lo n dN:Nat):StateT WY Sem (fj Nat):=do
 liftM (rule "list.sort.descending-run")
 let c <- Fp lo (n+1) dN
 match c.fst with
 | some r=>pure r
 | none=>
  if c.snd.snd >0 then do
   reverseSlice' (lo+c.snd.fst - (c.snd.snd+1)) (lo+c.snd.fst)
   Ae lo c.snd.fst dN
  else Ae lo c.snd.fst dN
theorem MG (lo dN:Nat):countRun' lo dN=(do
  let c <- Lf lo 1 dN
  match c.fst with
  | some r=>pure r
  | none =>
   if(c.snd==dN)=true then pure (some c.snd)
   else if c.snd >1 then do
    let x <- ltAt' lo (lo+c.snd - 1)
    match x with
    | some b=>if b=true then pure (some c.snd) else do
     reverseSlice' lo (lo+c.snd)
     AG lo c.snd dN
    | _=>pure none
   else AG lo c.snd dN):=by
 rw[countRun'_eq]
 dsimp only
 unfold AG Ae Fp Lf
 congr 1
 funext c
 let⟨r,n⟩:=c
 cases r with
 | some r=>rfl
 | none =>
  dsimp only;split;rfl;split;congr 1;funext x;cases x with
  | none=>rfl
  | some b=>
   dsimp only;split;rfl;congr 1;funext _r;congr 1;funext _u;congr 1;congr 1;funext s2;let⟨r2,n2,q2⟩:=s2;cases r2 with
   | some r2=>rfl
   | none=>dsimp only;split;congr 1;funext _v;congr 1;funext _w;congr 1;funext s3;let⟨r3,n3⟩:=s3;cases r3<;>rfl;congr 1;funext _w;congr 1;funext s3;let⟨r3,n3⟩:=s3;cases r3<;>rfl
  congr 1;funext _u;congr 1;congr 1;funext s2;let⟨r2,n2,q2⟩:=s2;cases r2 with
  | some r2=>rfl
  | none=>dsimp only;split;congr 1;funext _v;congr 1;funext _w;congr 1;funext s3;let⟨r3,n3⟩:=s3;cases r3<;>rfl;congr 1;funext _w;congr 1;funext s3;let⟨r3,n3⟩:=s3;cases r3<;>rfl
def t0 (lo hi:Nat)(xs ys:gP gO):Prop:= ∀k,k<lo \/ hi<=k ->cI ys k=cI xs k
theorem t0.refl {lo hi:Nat}:t0 lo hi xs xs:=λ_ _=>rfl
theorem t0.trans {lo hi:Nat}(a:t0 lo hi xs ys)(b:t0 lo hi ys zs):t0 lo hi xs zs:=λk h=>(b k h).trans (a k h)
def wp_ascL (O:Ord less)(L:i5 prog w A E s kd a₀ less){st:WY}{lo a dN:Nat}(hn:lo+dN<=a₀.size)(ha:1<=a)(han:a<=dN)(B:SB kd a₀ st)(hs:Sg less (arrOf st) lo (lo+a))(h: ∀n,a<=n ->n<=dN ->Sg less (arrOf st) lo (lo+n) ->(n=dN \/ less (cI (arrOf st) (lo+n)) (cI (arrOf st) (lo+n - 1))=true) ->Q (none,n) st): wpS (model prog w) A E s (Lf lo a dN) Q st:=by
 unfold Lf;exact cD (I:=λx c bM=>bM=st /\ c=(none,x) /\ Sg less (arrOf st) lo (lo+x)) ?step ?fin #[rfl,rfl,hs];case fin=>
  rintro c bM ⟨rfl,rfl,gR⟩
  rw[show max a dN=dN by lia] at gR ⊢
  show h dN han (aq _) gR (.inl rfl)
 case step=>
  rintro x c bM hax hxn ⟨rfl,rfl,gR⟩
  dsimp only
  exact aw (wp_lt L B ∅ ∅ ?_)
  cases e:less (cI (arrOf bM) (lo+x)) (cI (arrOf bM) (lo+x - 1)) with
  | true=>simp![ce];show aJ (h x hax ∅ gR (.inr e))
  | false=>simp![aD,bH];exact aJ #[rfl,rfl,λi j hi kW hj=> ?_];by_cases c:j<lo+x;show gR i j hi kW c;have:j=lo+x:= ∅;subst this;by_cases c2:i=lo+x;subst c2;show O.refl _;show O.trans _ _ _ (gR i (lo+x - 1) hi ∅ ∅) e
def wp_tailL (O:Ord less)(L:i5 prog w A E s kd a₀ less){st:WY}{lo n dN:Nat}(hn:lo+dN<=a₀.size)(h1:1<=n)(oi:n<=dN)(B:SB kd a₀ st)(hs:Ng less (arrOf st) lo (lo+n))(h: ∀m bM,SB kd a₀ bM ->1<=m ->m<=dN ->Sg less (arrOf bM) lo (lo+m) ->pendingOf bM=pendingOf st ->t0 lo (lo+dN) (arrOf st) (arrOf bM) ->Q (some m) bM): wpS (model prog w) A E s (Ae lo n dN) Q st:=by
 unfold Ae;have hsz:lo+n<=(arrOf st).size:=by rw[B.size];lia
 exact aw (wp_rev ?_);have B':SB kd a₀ (setArr st (mirror (arrOf st) lo (lo+n) ((lo+n - lo) / 2))):=B.arr (mirror_perm _ _ _ _);exact aw (wp_ascL O L hn h1 oi B' ?_ λm hm1 ZB hsm _=>aJ (h m _ B' ∅ ZB hsm rfl ?_));intro i j hi kW hj;change LE less (cI (mirror (arrOf st) lo (lo+n) ((lo+n - lo) / 2)) i) (cI (mirror (arrOf st) lo (lo+n) ((lo+n - lo) / 2)) j);rw[eP hsz,eP hsz,ao ∅,ao ∅];show hs _ _ ∅ ∅ ∅;intro k hk;change cI (mirror (arrOf st) lo (lo+n) ((lo+n - lo) / 2)) k=_;rw[eP hsz,ak ∅]
def qR (O:Ord less){lo i m:Nat}(hj:m<=xs.size)(hli:lo<=i)(hs:Ng less xs lo m)(he: ∀k,i<=k ->k<m ->LE less (cI xs k) (cI xs (m - 1))):Ng less (mirror xs i m ((m - i) / 2)) lo m:=by intro a b ha Fb hb;rw[eP hj,eP hj];by_cases c1:i<=a;rw[ao ∅,ao ∅];exact O.trans _ _ _ (he (i+m - 1 - b) ∅ ∅) (hs _ _ ∅ ∅ ∅);rw[ak (show ¬(i<=a /\ a<m) by lia)];by_cases c2:i<=b;rw[ao ∅];show hs _ _ ∅ ∅ ∅;rw[ak ∅];show hs _ _ ∅ ∅ ∅
theorem n9 {lo hi i j:Nat}(hj:j<=xs.size)(h1:lo<=i)(h2:j<=hi):t0 lo hi xs (mirror xs i j ((j - i) / 2)):=λk hk=>by rw[eP hj,ak ∅]
def wp_descL (O:Ord less)(L:i5 prog w A E s kd a₀ less){st:WY}{lo n dN:Nat}(hn:lo+dN<=a₀.size)(h1:1<=n)(oi:n<=dN)(B:SB kd a₀ st)(hs:Ng less (arrOf st) lo (lo+n))(h: ∀m xB bM,SB kd a₀ bM ->n<=m ->m<=dN ->Ng less (arrOf bM) lo (lo+m) ->xB+1<=m ->(∀i,lo+m - (xB+1) <=i ->i<lo+m ->LE less (cI (arrOf bM) i) (cI (arrOf bM) (lo+m - 1))) ->pendingOf bM=pendingOf st ->t0 lo (lo+dN) (arrOf st) (arrOf bM) ->Q (none,m,xB) bM): wpS (model prog w) A E s (Fp lo n dN) Q st:=by
 unfold Fp;exact cD (I:=λx c bM=> ∃xB,Lj (c=(none,x,xB)) (SB kd a₀ bM) (Ng less (arrOf bM) lo (lo+x)) (xB+1<=x) (∀i,lo+x - (xB+1) <=i ->i<lo+x ->LE less (cI (arrOf bM) i) (cI (arrOf bM) (lo+x - 1))) (pendingOf bM=pendingOf st) (t0 lo (lo+dN) (arrOf st) (arrOf bM))) ?step ?fin #[0,rfl,B,hs, ∅,λi h1 h2=>by rw[show i=lo+n - 1 by lia];show O.refl _,rfl,t0.refl];case fin=>
  rintro c bM ⟨xB,rfl,B',gR,hq,he,hp,ho⟩
  rw[show max n dN=dN by lia] at gR hq he ⊢
  show h dN xB bM B' oi (aq _) gR hq he hp ho
 case step =>
  rintro x c bM hax hxn ⟨xB,rfl,B',gR,hq,he,hp,ho⟩
  dsimp only
  have hsz:lo+x<=(arrOf bM).size:=by rw[B'.size];lia
  exact aw (wp_lt L B' ∅ ∅ ?_)
  cases e:less (cI (arrOf bM) (lo+x)) (cI (arrOf bM) (lo+x - 1)) with
  | true =>simp![ce];by_cases Kk:xB >0;rw [ao Kk];exact aw (wp_rev (aJ #[0,rfl,B'.arr (mirror_perm _ _ _ _),?_, ∅,λi h1 h2=>by rw[show i=lo+(x+1) - 1 by lia];show O.refl _,hp,ho.trans (n9 hsz ∅ ∅)]));have hm:=qR O (i:=lo+x - (xB+1)) hsz ∅ gR he;intro i j hi kW hj;by_cases c:j<lo+x;show hm i j hi kW c;have:j=lo+x:= ∅;subst this;by_cases c2:i=lo+x;subst c2;show O.refl _;exact O.trans _ _ _ ?_ (hm i (lo+x - 1) hi ∅ ∅);change LE less (cI (mirror (arrOf bM) (lo+x - (xB+1)) (lo+x) ((lo+x - (lo+x - (xB+1))) / 2)) (lo+x)) (cI (mirror (arrOf bM) (lo+x - (xB+1)) (lo+x) ((lo+x - (lo+x - (xB+1))) / 2)) (lo+x - 1));rw[eP hsz,eP hsz,ak ∅,ao ∅];show O.trans _ _ _ (O.le e) (gR _ _ ∅ ∅ ∅);rw[ak Kk];exact aJ #[0,rfl,B',λi j hi kW hj=> ?_, ∅,λi h1 h2=>by rw[show i=lo+(x+1) - 1 by lia];show O.refl _,hp,ho];by_cases c:j<lo+x;show gR i j hi kW c;have:j=lo+x:= ∅;subst this;by_cases c2:i=lo+x;subst c2;show O.refl _;show O.trans _ _ _ (O.le e) (gR i (lo+x - 1) hi ∅ ∅)
  | false =>
   simp![aD,bH];exact aw (wp_lt L B' ∅ ∅ ?_);cases e2:less (cI (arrOf bM) (lo+x - 1)) (cI (arrOf bM) (lo+x)) with
   | true=>simp![ce];show aJ (h x xB bM B' hax ∅ gR hq he hp ho)
   | false=>simp![aD,bH];exact aJ #[xB+1,rfl,B',λi j hi kW hj=> ?_, ∅,λi h1 h2=> ?_,hp,ho];by_cases c:j<lo+x;show gR i j hi kW c;have:j=lo+x:= ∅;subst this;by_cases c2:i=lo+x;subst c2;show O.refl _;show O.trans _ _ _ e2 (gR i (lo+x - 1) hi ∅ ∅);rw[show lo+(x+1) - 1=lo+x by lia];by_cases c:i=lo+x;subst c;show O.refl _;show O.trans _ _ _ (he i ∅ ∅) e
def wp_partL (O:Ord less)(L:i5 prog w A E s kd a₀ less){st:WY}{lo n dN:Nat}(hn:lo+dN<=a₀.size)(oi:n+1<=dN)(B:SB kd a₀ st)(hs:Ng less (arrOf st) lo (lo+(n+1)))(h: ∀m bM,SB kd a₀ bM ->1<=m ->m<=dN ->Sg less (arrOf bM) lo (lo+m) ->pendingOf bM=pendingOf st ->t0 lo (lo+dN) (arrOf st) (arrOf bM) ->Q (some m) bM): wpS (model prog w) A E s (AG lo n dN) Q st:=by
 unfold AG;exact aw (wpS_lift (wpAny_rule #[rfl,?_]));exact aw (wp_descL O L hn ∅ oi B hs λm xB bM B' hm1 ZB gR hq he hp ho=> ?_);dsimp only;have hsz:lo+m<=(arrOf bM).size:=by rw[B'.size];lia
 by_cases Kk:xB >0;rw[ao Kk];exact aw (wp_rev (wp_tailL O L hn ∅ ZB (B'.arr (mirror_perm _ _ _ _)) (qR O hsz ∅ gR he) λm2 oK b1 b2 b3 b4 b5 b6=>h m2 oK b1 b2 b3 b4 (b5.trans hp) (ho.trans ((n9 hsz ∅ ∅).trans b6))));rw[ak Kk];show wp_tailL O L hn ∅ ZB B' gR λm2 oK b1 b2 b3 b4 b5 b6=>h m2 oK b1 b2 b3 b4 (b5.trans hp) (ho.trans b6)
def wp_run (O:Ord less)(L:i5 prog w A E s kd a₀ less){st:WY}{lo dN:Nat}(hn:lo+dN<=a₀.size)(h1:1<=dN)(B:SB kd a₀ st)(h: ∀m bM,SB kd a₀ bM ->1<=m ->m<=dN ->Sg less (arrOf bM) lo (lo+m) ->pendingOf bM=pendingOf st ->t0 lo (lo+dN) (arrOf st) (arrOf bM) ->Q (some m) bM): wpS (model prog w) A E s (countRun' lo dN) Q st:=by
 rw[MG];exact aw (wp_ascL O L hn (aq 1) h1 B (λi j hi kW hj=>by rw[show i=j by lia];show O.refl _) λn Ql wB W' hor=> ?_);dsimp only;by_cases oi:n=dN;rw[ao ⇑oi];show aJ (h n st B Ql wB W' rfl t0.refl);rw [ak ⇑oi];have no:=hor.resolve_left oi;have hsz:lo+n<=(arrOf st).size:=by rw[B.size];lia
 by_cases hgt:n >1;rw [ao hgt];exact aw (wp_lt L B ∅ ∅ ?_);cases e:less (cI (arrOf st) lo) (cI (arrOf st) (lo+n - 1)) with
 | true=>simp![ce];show aJ (h n st B Ql wB W' rfl t0.refl)
 | false=>simp![aD,bH];have hng:Ng less (arrOf st) lo (lo+n):=λi j hi kW hj=>O.trans _ _ _ (O.trans _ _ _ (W' j (lo+n - 1) ∅ ∅ ∅) e) (W' lo i (aq _) hi ∅);exact aw (wp_rev (wp_partL O L hn ∅ (B.arr (mirror_perm _ _ _ _)) ?_ λm2 oK b1 b2 b3 b4 b5 b6=>h m2 oK b1 b2 b3 b4 b5 ((n9 hsz ∅ ∅).trans b6)));have hm:=qR O (i:=lo) hsz (aq _) hng λk _ _=>W' k (lo+n - 1) ∅ ∅ ∅;intro i j hi kW hj;by_cases c:j<lo+n;show hm i j hi kW c;have:j=lo+n:= ∅;subst this;by_cases c2:i=lo+n;subst c2;show O.refl _;exact O.trans _ _ _ ?_ (hm i (lo+n - 1) hi ∅ ∅);change LE less (cI (mirror (arrOf st) lo (lo+n) ((lo+n - lo) / 2)) (lo+n)) (cI (mirror (arrOf st) lo (lo+n) ((lo+n - lo) / 2)) (lo+n - 1));rw[eP hsz,eP hsz,ak ∅,ao ∅];show O.trans _ _ _ (O.le no) (hng _ _ ∅ ∅ ∅)
 rw[ak hgt];have abc:n=1:= ∅;subst abc;exact wp_partL O L hn ∅ B (λi j hi kW hj=> ?_) h;by_cases c:i=j;subst c;show O.refl _;rw[show i=lo+1 - 1 by lia,show j=lo+1 by lia];show O.le no
def wp_bin (O:Ord less)(L:i5 prog w A E s kd a₀ less){st:WY}{lo n ok:Nat}(hn:lo+n<=a₀.size)(cU:ok<=n)(B:SB kd a₀ st)(hs:Sg less (arrOf st) lo (lo+ok))(h: ∀bM,SB kd a₀ bM ->Sg less (arrOf bM) lo (lo+n) ->pendingOf bM=pendingOf st ->t0 lo (lo+n) (arrOf st) (arrOf bM) ->Q true bM):wpS (model prog w) A E s (binarySort' lo n ok) Q st:=by
 rw[binarySort'_eq];exact aw (wpS_mono (cD (I:=λk c bM=>c=(none,()) /\ SB kd a₀ bM /\ Sg less (arrOf bM) lo (lo+min k n) /\ pendingOf bM=pendingOf st /\ t0 lo (lo+n) (arrOf st) (arrOf bM)) (Q:=λc bM=>c=(none,()) /\ SB kd a₀ bM /\ Sg less (arrOf bM) lo (lo+n) /\ pendingOf bM=pendingOf st /\ t0 lo (lo+n) (arrOf st) (arrOf bM)) ?step ?fin ?init) ?post);case post=>
  rintro c bM ⟨rfl,B',gR,hp,ho⟩
  show aJ (h bM B' gR hp ho)
 case init=>
  exact#[rfl,B,λi j hi kW hj=> ?_,rfl,t0.refl]
  by_cases c:ok=0
  rw[show i=j by lia];show O.refl _
  show hs i j hi kW ∅
 case fin=>
  rintro c bM ⟨hc,B',gR,hp,ho⟩
  exact#[hc,B',?_,hp,ho]
  rwa [show min (max (max ok 1) n) n=n by lia] at gR
 case step=>
  rintro k c bM hak hkn ⟨rfl,B',gR,hp,ho⟩
  rw[show min k n=k by lia] at gR
  have hk:lo+k<a₀.size:= ∅
  exact aw (wpS_mono (cD (I:=λx c f8=>f8=bM /\ cx λl r=>lz (c=(none,l,r)) (l<=r) (r<=k) (r - l<=k - x) (∀i,i<l ->LE less (cI (arrOf bM) (lo+i)) (cI (arrOf bM) (lo+k))) (∀i,r<=i ->i<k ->LE less (cI (arrOf bM) (lo+k)) (cI (arrOf bM) (lo+i)))) (Q:=λc f8=>f8=bM /\ cx λl r=>fA (c=(none,l,r)) (l<=k) (∀i,i<l ->LE less (cI (arrOf bM) (lo+i)) (cI (arrOf bM) (lo+k))) (∀i,l<=i ->i<k ->LE less (cI (arrOf bM) (lo+k)) (cI (arrOf bM) (lo+i)))) ?istep ?ifin ?iinit) ?ipost)
  case iinit=>show#[rfl,0,k,rfl, ∅, ∅, ∅,λi hi=> ∅,λi h1 h2=> ∅]
  case ifin=>
   rintro c f8 ⟨rfl,l,r,rfl,Xg,hrk,hm,S9,Uw⟩
   have:l=r:= ∅
   subst this
   show#[rfl,l,l,rfl,hrk,S9,Uw]
  case istep=>
   rintro x c f8 _ hxk ⟨rfl,l,r,rfl,Xg,hrk,hm,S9,Uw⟩
   dsimp only
   by_cases hge:l≥r
   rw[ao hge]
   have:l=r:= ∅
   subst this
   show aJ #[rfl,l,l,rfl,hrk,S9,Uw]
   rw[ak hge]
   exact aw (wp_lt L B' hk ∅ ?_)
   cases e:less (cI (arrOf f8) (lo+k)) (cI (arrOf f8) (lo+(l+r) / 2)) with
   | true=>simp![ce];exact aJ #[rfl,l,(l+r) / 2,rfl, ∅, ∅, ∅,S9,λi h1 h2=> ?_];show O.trans _ _ _ (O.le e) (gR _ _ ∅ ∅ ∅)
   | false=>simp![aD,bH];exact aJ #[rfl,(l+r) / 2+1,r,rfl, ∅, ∅, ∅,λi h1=> ?_,Uw];show O.trans _ _ _ (gR (lo+i) (lo+(l+r) / 2) ∅ ∅ ∅) e
  case ipost=>
   rintro c f8 ⟨rfl,l,r,rfl,hlk,S9,Uw⟩
   change wpS _ _ _ _ (do moveDown' (lo+k) (lo+l);pure (ForInStep.yield (none,()))) _ _
   rw[moveDown'_eq]
   have hks:lo+k< (arrOf f8).size:=by rw[B'.size];show hk
   exact aw (wpS_modify (aJ #[rfl,B'.arr (bubble_perm _ _ _),?_,hp,ho.trans λj hj=> ?_]))
   .rw[show min (k+1) n=k+1 by lia];intro i j hi kW hj;change LE less (cI (bubble (arrOf f8) (lo+k) (lo+k - (lo+l))) i) (cI (bubble (arrOf f8) (lo+k) (lo+k - (lo+l))) j);rw[ox hks ∅,ox hks ∅,show lo+k - (lo+k - (lo+l))=lo+l by lia];have abd: ∀i,lo<=i ->i<lo+l ->LE less (cI (arrOf f8) i) (cI (arrOf f8) (lo+k)):=λi h1 h2=>by have:=S9 (i - lo) ∅;rwa [show lo+(i - lo)=i by lia] at this
    have abf: ∀i,lo+l<=i ->i<lo+k ->LE less (cI (arrOf f8) (lo+k)) (cI (arrOf f8) i):=λi h1 h2=>by have:=Uw (i - lo) ∅ ∅;rwa [show lo+(i - lo)=i by lia] at this
    repeat' split
    all_goals first
    | (exfalso;lia)
    | show O.refl _
    | show abd _ ∅ ∅
    | show abf _ ∅ ∅
    | show gR _ _ ∅ ∅ ∅
   change cI (bubble (arrOf f8) (lo+k) (lo+k - (lo+l))) j=_
   rw[ox hks ∅,ak ∅,ak ∅]
def N7:Bool ->gO ->gP gO ->Nat ->Nat ->Nat ->StateT WY Sem (fj Nat):=sortPriv% PySem.Builtin.gallop
def mLo:gP gO ->gP gO ->StateT WY Sem (gP gO):=sortPriv% PySem.Builtin.mergeLo
def mHi:gP gO ->gP gO ->StateT WY Sem (gP gO):=sortPriv% PySem.Builtin.mergeHi
abbrev cZ (st:WY)(g:Nat):WY:=SortSt.mk' (kindOf st) (arrOf st) (pendingOf st) g (failedOf st)
def bey (left:Bool)(key:gO)(arr:gP gO)(base i:Nat):StateT WY Sem (fj Bool):=do
 let x <- elem' arr (base+i)
 if left then lt' x key else return(<- lt' key x).map (!·)
def wp_gal0 {st:WY}(Bf:Nat ->Bool)(hh:fP<n)(hb: ∀i,i<n -> ∀Q':fj Bool ->WY ->Prop,Q' (some (Bf i)) st ->wpS (model prog w) A E s (bey left key arr base i) Q' st)(mono: ∀i j,i<=j ->j<n ->Bf j=true ->Bf i=true)(h: ∀k,k<=n ->(∀i,i<k ->Bf i=true) ->(∀i,k<=i ->i<n ->Bf i=false) ->Q (some k) st): wpS (model prog w) A E s (N7 left key arr base n fP) Q st:=by
 have EM: ∀i j,i<=j ->j<n ->Bf i=false ->Bf j=false:=λi j kW hj e=>by
  cases e2:Bf j with
  | false=>rfl
  | true=>rw[mono i j kW hj e2] at e;cases e
 exact aw (hb fP hh _ ?_);dsimp only;cases hB:Bf fP with
 | true =>
  simp![ce];exact aw (wpS_mono (cD (I:=λi c bM=>bM=st /\ cx λla f=>gy (c=(none,la,f)) (i+1<=f) (la<f) (fP+la<n) (Bf (fP+la)=true)) (Q:=λc bM=>bM=st /\ cx λla f=>gy (c=(none,la,f)) (la<f) (fP+la<n) (Bf (fP+la)=true) (n - fP<=f \/ (fP+f<n /\ Bf (fP+f)=false))) ?_ ?_ #[rfl,0,1,rfl,by omega,by omega,by omega,hB]) ?_);rintro i c bM _ hi ⟨rfl,la,f,rfl,h1,h2,h3,h4⟩;dsimp only;by_cases c1:f≥n - fP;rw[ao c1];show aJ #[rfl,la,f,rfl,h2,h3,h4, .inl c1];rw[ak c1];exact aw (hb _ (by omega) _ ?_);cases e:Bf (fP+f) with
  | true=>simp![aI,aD,bH];show aJ #[rfl,f,2*f+1,rfl,by omega,by omega,by omega,e]
  | false=>simp![aW,ce];show aJ #[rfl,la,f,rfl,h2,h3,h4, .inr #[by omega,e]]
  rintro c bM ⟨rfl,la,f,rfl,h1,h2,h3,h4⟩;show#[rfl,la,f,rfl,h2,h3,h4, .inl (by omega)];rintro c bM ⟨rfl,la,f,rfl,h2,h3,h4,h5⟩;dsimp only;exact aw (wpS_mono (cD (I:=λi c f8=>f8=bM /\ cx λlo hi=>lz (c=(none,lo,hi)) (lo<=hi) (hi<=n) (hi - lo<=n - i) (∀i,i<lo ->Bf i=true) (∀i,hi<=i ->i<n ->Bf i=false)) (Q:=λc f8=>f8=bM /\ cx λlo hi=>fA (c=(none,lo,hi)) (hi<=n) (∀i,i<hi ->Bf i=true) (∀i,hi<=i ->i<n ->Bf i=false)) ?_ ?_ #[rfl,_,_,rfl,by omega,by omega,by omega,λi hi=>mono i (fP+la) (by omega) h3 h4,λi hi Bb=> ?_]) ?_);rintro i c f8 _ hi ⟨rfl,lo,su,rfl,g1,g2,g3,g4,g5⟩;dsimp only;by_cases c1:lo≥su;rw[ao c1];have:lo=su:=by omega
  subst this;show aJ #[rfl,_,_,rfl,g2,g4,g5];rw[ak c1];exact aw (hb _ (by omega) _ ?_);cases e:Bf (lo+(su - lo) / 2) with
  | true=>simp![ce];show aJ #[rfl,_,_,rfl,by omega,g2,by omega,λj hj=>mono j _ (by omega) (by omega) e,g5]
  | false=>simp![aD,bH];show aJ #[rfl,_,_,rfl,by omega,by omega,by omega,g4,λj hj hjn=>EM _ j hj hjn e]
  rintro c f8 ⟨rfl,lo,su,rfl,g1,g2,g3,g4,g5⟩;have:lo=su:=by omega
  subst this;show#[rfl,_,_,rfl,g2,g4,g5];obtain h5 | ⟨h5,h6⟩:=h5;omega;show EM (fP+f) i (by omega) Bb h6;rintro c f8 ⟨rfl,lo,su,rfl,g2,g4,g5⟩;show aJ (h _ g2 g4 g5)
 | false =>
  simp![aD,bH];exact aw (wpS_mono (cD (I:=λi c bM=>bM=st /\ cx λla f=>gy (c=(none,la,f)) (i+1<=f) (la<f) (la<=fP) (Bf (fP - la)=false)) (Q:=λc bM=>bM=st /\ cx λla f=>gy (c=(none,la,f)) (la<f) (la<=fP) (Bf (fP - la)=false) (fP+1<=f \/ (f<=fP /\ Bf (fP - f)=true))) ?_ ?_ #[rfl,0,1,rfl,by omega,by omega,by omega,hB]) ?_);rintro i c bM _ hi ⟨rfl,la,f,rfl,h1,h2,h3,h4⟩;dsimp only;by_cases c1:f≥fP+1;rw[ao c1];show aJ #[rfl,la,f,rfl,h2,h3,h4, .inl c1];rw[ak c1];exact aw (hb _ (by omega) _ ?_);cases e:Bf (fP - f) with
  | false=>simp![aD,bH];show aJ #[rfl,f,2*f+1,rfl,by omega,by omega,by omega,e]
  | true=>simp![ce];show aJ #[rfl,la,f,rfl,h2,h3,h4, .inr #[by omega,e]]
  rintro c bM ⟨rfl,la,f,rfl,h1,h2,h3,h4⟩;show#[rfl,la,f,rfl,h2,h3,h4, .inl (by omega)];rintro c bM ⟨rfl,la,f,rfl,h2,h3,h4,h5⟩;dsimp only;exact aw (wpS_mono (cD (I:=λi c f8=>f8=bM /\ cx λlo hi=>lz (c=(none,lo,hi)) (lo<=hi) (hi<=n) (hi - lo<=n - i) (∀i,i<lo ->Bf i=true) (∀i,hi<=i ->i<n ->Bf i=false)) (Q:=λc f8=>f8=bM /\ cx λlo hi=>fA (c=(none,lo,hi)) (hi<=n) (∀i,i<hi ->Bf i=true) (∀i,hi<=i ->i<n ->Bf i=false)) ?_ ?_ #[rfl,_,_,rfl,by omega,by omega,by omega,λi hi=> ?_,λi hi Bb=>EM (fP - la) i (by omega) Bb h4]) ?_);rintro i c f8 _ hi ⟨rfl,lo,su,rfl,g1,g2,g3,g4,g5⟩;dsimp only;by_cases c1:lo≥su;rw[ao c1];have:lo=su:=by omega
  subst this;show aJ #[rfl,_,_,rfl,g2,g4,g5];rw[ak c1];exact aw (hb _ (by omega) _ ?_);cases e:Bf (lo+(su - lo) / 2) with
  | true=>simp![ce];show aJ #[rfl,_,_,rfl,by omega,g2,by omega,λj hj=>mono j _ (by omega) (by omega) e,g5]
  | false=>simp![aD,bH];show aJ #[rfl,_,_,rfl,by omega,by omega,by omega,g4,λj hj hjn=>EM _ j hj hjn e]
  rintro c f8 ⟨rfl,lo,su,rfl,g1,g2,g3,g4,g5⟩;have:lo=su:=by omega
  subst this;show#[rfl,_,_,rfl,g2,g4,g5];obtain h5 | ⟨h5,h6⟩:=h5;omega;show mono i (fP - f) (by omega) (by omega) h6;rintro c f8 ⟨rfl,lo,su,rfl,g2,g4,g5⟩;show aJ (h _ g2 g4 g5)
def wp_galL (O:Ord less)(L:i5 prog w A E s kd a₀ less){st:WY}(B:kindOf st=kd)(hk:key∈a₀.toList)(hm: ∀i,i<n ->base+i<arr.size /\ cI arr (base+i)∈a₀.toList)(hh:fP<n)(hs:Sg less arr base (base+n))(h: ∀k,k<=n ->(∀i,i<k ->less (cI arr (base+i)) key=true) ->(∀i,k<=i ->i<n ->LE less key (cI arr (base+i))) ->Q (some k) st): wpS (model prog w) A E s (N7 true key arr base n fP) Q st:=by exact wp_gal0 (λi=>less (cI arr (base+i)) key) hh (λi hi Q' hq=> ?_) (λi j kW hj e=>O.Wy (hs (base+i) (base+j) (by omega) (by omega) (by omega)) e) h;unfold bey;exact aw (wp_elem (hm i hi).1 ?_);simp![ce];show L _ _ _ _ (hm i hi).2 hk B hq
def wp_galR (O:Ord less)(L:i5 prog w A E s kd a₀ less){st:WY}(B:kindOf st=kd)(hk:key∈a₀.toList)(hm: ∀i,i<n ->base+i<arr.size /\ cI arr (base+i)∈a₀.toList)(hh:fP<n)(hs:Sg less arr base (base+n))(h: ∀k,k<=n ->(∀i,i<k ->LE less (cI arr (base+i)) key) ->(∀i,k<=i ->i<n ->less key (cI arr (base+i))=true) ->Q (some k) st): wpS (model prog w) A E s (N7 false key arr base n fP) Q st:=by exact wp_gal0 (λi=> !less key (cI arr (base+i))) hh (λi hi Q' hq=> ?_) (λi j kW hj e=> ?_) (λk h1 h2 h3=>h k h1 (λi hi=> ?_) λi h4 h5=> ?_);unfold bey;exact aw (wp_elem (hm i hi).1 ?_);simp![aD,bH];show aw (L _ _ _ _ hk (hm i hi).2 B (aJ hq));simp![Bool.not_eq_true'] at e ⊢;show O.trans _ _ _ (hs (base+i) (base+j) (by omega) (by omega) (by omega)) e;have:=h2 i hi;simp![Bool.not_eq_true'] at this;show this;have:=h3 i h4 h5;simpa using this
structure MI (less:Keyed ->Keyed ->Bool)(al bl o:List Keyed)(i j:Nat):Prop where
 pm:o.Perm (al.take i++bl.take j)
 so:o.Pairwise (LE less)
 ba: ∀x∈o, ∀y∈al.drop i,LE less x y
 bb: ∀x∈o, ∀y∈bl.drop j,LE less x y
section
variable {less:gO ->gO ->Bool}{al bl o:cH gO}{i j:Nat}
theorem MI.swap (h:MI less al bl o i j):MI less bl al o j i:=#[h.pm.trans dX,h.so,h.bb,h.ba]
def take_add {α:Type}(l:cH α)(i k:Nat):l.take (i+k)=l.take i++(l.drop i).take k:=by rw[List.take_add]
def MI.Oy (h:MI less al bl o i j)(sa:al.Pairwise (LE less))(k:Nat)(hk: ∀x∈(al.drop i).take k, ∀y∈bl.drop j,LE less x y):MI less al bl (o++(al.drop i).take k) (i+k) j:=by
 have sd:(al.drop i).Pairwise (LE less):=sa.sublist (List.drop_sublist _ _);have e:(al.drop i).take k++al.drop (i+k)=al.drop i:=by rw[<- List.drop_drop,bL]
 have Rr:=sd;rw[<- e,dn] at Rr;exact#[?_,?_,?_,?_];rw[take_add,bU];exact(h.pm.append_right _).trans ?_;rw[bU];show List.Perm.append_left _ dX;rw[dn];show#[h.so,Rr.1,λx hx y hy=>h.ba x hx y (List.mem_of_mem_take hy)];intro x hx y hy;obtain hx | hx:=be.mp hx;show h.ba x hx y (by rw[<- e];show a4 _ hy);show Rr.2.2 x hx y hy;intro x hx y hy;obtain hx | hx:=be.mp hx;show h.bb x hx y hy;show hk x hx y hy
def MI.fin (h:MI less al bl o i j)(sa:al.Pairwise (LE less))(sb:bl.Pairwise (LE less))(hk: ∀x∈bl.drop j, ∀y∈al.drop i,LE less x y):(o++bl.drop j++al.drop i).Perm (al++bl) /\ (o++bl.drop j++al.drop i).Pairwise (LE less):=by
 symm;rw[bU];exact(h.pm.append_right _).trans ?_;have e1:(al++bl).Perm ((al.take i++al.drop i)++(bl.take j++bl.drop j)):=by rw[bL,bL]
 exact List.Perm.trans ?_ e1.symm;rw[bU,bU];exact List.Perm.append_left _ ?_;rw[<- bU];show dX;rw[dn,dn];exact#[#[h.so,sb.sublist (List.drop_sublist _ _),h.bb],sa.sublist (List.drop_sublist _ _),λx hx y hy=> ?_];obtain hx | hx:=be.mp hx;show h.ba x hx y hy;show hk x hx y hy
structure MH (less:Keyed ->Keyed ->Bool)(al bl t:List Keyed)(i j:Nat):Prop where
 pm:t.Perm (al.drop i++bl.drop j)
 so:t.Pairwise (LE less)
 ba: ∀x∈t, ∀y∈al.take i,LE less y x
 bb: ∀x∈t, ∀y∈bl.take j,LE less y x
theorem MH.swap (h:MH less al bl t i j):MH less bl al t j i:=#[h.pm.trans dX,h.so,h.bb,h.ba]
def MH.Oy (h:MH less al bl t i j)(sa:al.Pairwise (LE less))(Xk:k<=i)(hk: ∀x∈(al.take i).drop k, ∀y∈bl.take j,LE less y x):MH less al bl ((al.take i).drop k++t) k j:=by
 have sd:(al.take i).Pairwise (LE less):=sa.sublist (List.take_sublist _ _);have e0:(al.take i).take k=al.take k:=by rw[List.take_take,Nat.min_eq_left Xk]
 have e:al.take k++(al.take i).drop k=al.take i:=by rw[<- e0,bL]
 have Rr:=sd;rw[<- e,dn] at Rr;have e3:al.drop k=(al.take i).drop k++al.drop i:=by
  have:=bL i al;have e4:al.drop k=(al.take i++al.drop i).drop k:=by rw[this]
  rw[e4];by_cases c:i<=al.length;rw[List.drop_append_of_le_length (by rw[bT];lia)];have z:al.drop i= []:=List.drop_eq_nil_of_le ∅;rw[z,dQ,dQ]
 exact#[?_,?_,?_,?_];rw[e3,bU];show List.Perm.append_left _ h.pm;rw[dn];show#[Rr.2.1,h.so,λx hx y hy=>h.ba y hy x (by rw[<- e];show a4 _ hx)];intro x hx y hy;obtain hx | hx:=be.mp hx;show Rr.2.2 y hy x hx;show h.ba x hx y (by rw[<- e];show List.mem_append_left _ hy);intro x hx y hy;obtain hx | hx:=be.mp hx;show hk x hx y hy;show h.bb x hx y hy
def MH.fin (h:MH less al bl t i j)(sa:al.Pairwise (LE less))(sb:bl.Pairwise (LE less))(hk: ∀x∈al.take i, ∀y∈bl.take j,LE less x y):(al.take i++bl.take j++t).Perm (al++bl) /\ (al.take i++bl.take j++t).Pairwise (LE less):=by
 symm;exact(List.Perm.append_left _ h.pm).trans ?_;have e1:(al++bl).Perm ((al.take i++al.drop i)++(bl.take j++bl.drop j)):=by rw[bL,bL]
 exact List.Perm.trans ?_ e1.symm;rw[bU,bU];exact List.Perm.append_left _ ?_;rw[<- bU, <- bU];show List.Perm.append_right _ dX;rw[dn,dn];exact#[#[sa.sublist (List.take_sublist _ _),sb.sublist (List.take_sublist _ _),hk],h.so,λx hx y hy=> ?_];obtain hx | hx:=be.mp hx;show h.ba y hy x hx;show h.bb y hy x hx
end
abbrev R5:=fj (gP gO)×gP gO×Nat×Nat×Nat
abbrev R6:=fj (gP gO)×gP gO×Nat×Nat×Nat×Nat
abbrev R7:=fj (gP gO)×gP gO×Nat×Nat×Nat×Nat×Nat
section
variable (a b:gP gO)
abbrev Mc (o:gP gO)(i j:Nat):gP gO:=o++a.extract i a.size++b.extract j b.size
abbrev Uo (o:gP gO)(i j:Nat):gP gO:=o++b.extract j b.size++a.extract i a.size
def R9 (mg:Nat)(o:gP gO)(i j ac bc:Nat):StateT WY Sem (ForInStep R6):=do
 let x <- elem' b j
 let y <- elem' a i
 let g <- lt' x y
 match g with
 | some g=>
  if g=true then do
   let x <- elem' b j
   if(j+1==b.size)=true then pure (.done (some (Mc a b (o.push x) i (j+1)),o.push x,i,j+1,0,bc+1))
   else if bc+1≥mg then pure (.done (none,o.push x,i,j+1,0,bc+1))
   else pure (.yield (none,o.push x,i,j+1,0,bc+1))
  else do
   let x <- elem' a i
   if(i+1+1==a.size)=true then pure (.done (some (Uo a b (o.push x) (i+1) j),o.push x,i+1,j,ac+1,0))
   else if ac+1≥mg then pure (.done (none,o.push x,i+1,j,ac+1,0))
   else pure (.yield (none,o.push x,i+1,j,ac+1,0))
 | _=>pure (.done (some (Mc a b o i j),o,i,j,ac,bc))
def Y8 (mg ac bc:Nat)(o:gP gO)(i j:Nat):StateT WY Sem (ForInStep R7):=do
 let x <- elem' a i
 if(i+1+1==a.size)=true then pure (.done (some (Uo a b (o.push x) (i+1) j),o.push x,i+1,j,mg,ac,bc))
 else if(decide (ac<7) && decide (bc<7))=true then pure (.done (none,o.push x,i+1,j,mg,ac,bc))
 else pure (.yield (none,o.push x,i+1,j,mg,ac,bc))
def Y' (mg ac bc:Nat)(o:gP gO)(i j:Nat):StateT WY Sem (ForInStep R7):=do
 let x <- elem' b j
 if(j+1==b.size)=true then pure (.done (some (Mc a b (o.push x) i (j+1)),o.push x,i,j+1,mg,ac,bc))
 else do
  let y <- elem' a i
  let r <- N7 true y b (j+1) (b.size - (j+1)) 0
  match r with
  | some k=>
   if k >0 then
    if(j+1+k==b.size)=true then pure (.done (some (Mc a b (o.push x++b.extract (j+1) (j+1+k)) i (j+1+k)),o.push x++b.extract (j+1) (j+1+k),i,j+1+k,mg,ac,k))
    else Y8 a b mg ac k (o.push x++b.extract (j+1) (j+1+k)) i (j+1+k)
   else Y8 a b mg ac k (o.push x) i (j+1)
  | _=>pure (.done (some (Mc a b (o.push x) i (j+1)),o.push x,i,j+1,mg,ac,bc))
def Za (mg ac bc:Nat)(o:gP gO)(i j:Nat):StateT WY Sem (ForInStep R7):=do
 modify λs=>cZ s mg
 let x <- elem' b j
 let r <- N7 false x a i (a.size - i) 0
 match r with
 | some k=>
  if k >0 then
   if(i+k+1==a.size)=true then pure (.done (some (Uo a b (o++a.extract i (i+k)) (i+k) j),o++a.extract i (i+k),i+k,j,mg,k,bc))
   else if(i+k==a.size)=true then pure (.done (some (Mc a b (o++a.extract i (i+k)) (i+k) j),o++a.extract i (i+k),i+k,j,mg,k,bc))
   else Y' a b mg k bc (o++a.extract i (i+k)) (i+k) j
  else Y' a b mg k bc o i j
 | _=>pure (.done (some (Mc a b o i j),o,i,j,mg,ac,bc))
def Wf (c:R5):StateT WY Sem (ForInStep R5):=do
 let d <- forIn [:a.size+b.size] ((none,c.2.1,c.2.2.1,c.2.2.2.1,0,0):R6) λ_ d=>R9 a b c.2.2.2.2 d.2.1 d.2.2.1 d.2.2.2.1 d.2.2.2.2.1 d.2.2.2.2.2
 match d.1 with
 | some r=>pure (.done (some r,d.2.1,d.2.2.1,d.2.2.2.1,c.2.2.2.2))
 | none=>do
  liftM (rule "list.sort.gallop")
  let e <- forIn [:a.size+b.size] ((none,d.2.1,d.2.2.1,d.2.2.2.1,c.2.2.2.2+1,d.2.2.2.2.1,d.2.2.2.2.2):R7) λ_ e=>if e.2.2.2.2.1 >1 then Za a b (e.2.2.2.2.1 - 1) e.2.2.2.2.2.1 e.2.2.2.2.2.2 e.2.1 e.2.2.1 e.2.2.2.1 else Za a b e.2.2.2.2.1 e.2.2.2.2.2.1 e.2.2.2.2.2.2 e.2.1 e.2.2.1 e.2.2.2.1
  match e.1 with
  | some r=>pure (.done (some r,e.2.1,e.2.2.1,e.2.2.2.1,e.2.2.2.2.1))
  | none=>do
   modify λs=>cZ s (e.2.2.2.2.1+1)
   pure (.yield (none,e.2.1,e.2.2.1,e.2.2.2.1,e.2.2.2.2.1+1))
end
def yi {f g:α ->StateT σ Sem β}(h: ∀x,f x=g x):(m >>=f)=(m >>=g):=by rw[funext h]
def G8 {f g:α ->StateT σ Sem β}(e:m=m')(h: ∀x,f x=g x):(m >>=f)=(m' >>=g):=by rw[e,funext h]
def GP [Decidable c]{x y x' y':α}(h:x=x')(h':y=y'):(if c then x else y)=(if c then x' else y'):=by rw[h,h']
def GY {r:Std.Legacy.Range}{f g:Nat ->β ->StateT σ Sem (ForInStep β)}(h: ∀i c,f i c=g i c):forIn r c f=forIn r c g:=by rw[funext λi=>funext (h i)]
section
variable (a b:gP gO)
theorem GB:mLo a b=(do
  liftM (rule "list.sort.merge-lo")
  let x <- elem' b 0
  if(1==b.size)=true then pure (Mc a b #[x] 0 1)
  else if(0+1==a.size)=true then pure (Uo a b #[x] 0 1)
  else do
   let g <- get
   let c <- forIn [:a.size+b.size] ((none, #[x],0,1,gallopOf g):R5) λ_ c=>Wf a b c
   match c.1 with
   | some r=>pure r
   | none=>unsupported "internal:list.sort.merge-bound"):=by
 exact yi λ_=>yi λx=> ?_
 exact GP rfl (GP rfl (yi λg=>G8 (GY λ_ c=> ?_) λc=> ?_))
 exact G8 (GY λ_ d=>rfl) λd=> ?_
 let⟨r,d⟩:=d
 cases r with
 | some r=>rfl
 | none =>
  exact yi λ_=>G8 (GY λ_ e=> ?_) λe=> ?_;exact GP ?_ ?_<;>
  .refine yi λ_=>yi λx=>yi λr=> ?_;cases r with
   | none=>rfl
   | some k=>
    exact GP (GP rfl (GP rfl ?_)) ?_<;>
    .exact yi λy=>GP rfl (yi λz=>yi λr=> ?_);cases r<;>rfl
  let⟨r,e⟩:=e;cases r<;>rfl
 let⟨r,c⟩:=c
 cases r<;>rfl
abbrev Md (o:gP gO)(i j:Nat):gP gO:=a.extract 0 i++b.extract 0 j++o.reverse
abbrev UC (o:gP gO)(i j:Nat):gP gO:=b.extract 0 j++a.extract 0 i++o.reverse
def Q6 (mg:Nat)(i j:Nat)(o:gP gO)(ac bc:Nat):StateT WY Sem (ForInStep (fj (gP gO)×Nat×Nat×gP gO×Nat×Nat)):=do
 let x <- elem' b (j - 1)
 let y <- elem' a (i - 1)
 let g <- lt' x y
 match g with
 | some g=>
  if g=true then do
   let x <- elem' a (i - 1)
   if(i - 1==0)=true then pure (.done (some (Md a b (o.push x) (i - 1) j),i - 1,j,o.push x,ac+1,0))
   else if ac+1≥mg then pure (.done (none,i - 1,j,o.push x,ac+1,0))
   else pure (.yield (none,i - 1,j,o.push x,ac+1,0))
  else do
   let x <- elem' b (j - 1)
   if(j - 1==1)=true then pure (.done (some (UC a b (o.push x) i (j - 1)),i,j - 1,o.push x,0,bc+1))
   else if bc+1≥mg then pure (.done (none,i,j - 1,o.push x,0,bc+1))
   else pure (.yield (none,i,j - 1,o.push x,0,bc+1))
 | _=>pure (.done (some (Md a b o i j),i,j,o,ac,bc))
abbrev S7:=fj (gP gO)×Nat×Nat×gP gO×Nat×Nat×Nat
def Y9 (mg ac bc:Nat)(i j:Nat)(o:gP gO):StateT WY Sem (ForInStep S7):=do
 let x <- elem' a (i - 1)
 if(i - 1==0)=true then pure (.done (some (Md a b (o.push x) (i - 1) j),i - 1,j,o.push x,mg,ac,bc))
 else if(decide (ac<7) && decide (bc<7))=true then pure (.done (none,i - 1,j,o.push x,mg,ac,bc))
 else pure (.yield (none,i - 1,j,o.push x,mg,ac,bc))
def Y_ (mg ac bc:Nat)(i j:Nat)(o:gP gO):StateT WY Sem (ForInStep S7):=do
 let x <- elem' b (j - 1)
 if(j - 1==1)=true then pure (.done (some (UC a b (o.push x) i (j - 1)),i,j - 1,o.push x,mg,ac,bc))
 else do
  let y <- elem' a (i - 1)
  let r <- N7 true y b 0 (j - 1) (j - 1 - 1)
  match r with
  | some k=>
   if j - 1 - k >0 then
    if(k==1)=true then pure (.done (some (UC a b (o.push x++(b.extract k (j - 1)).reverse) i k),i,k,o.push x++(b.extract k (j - 1)).reverse,mg,ac,j - 1 - k))
    else if(k==0)=true then pure (.done (some (Md a b (o.push x++(b.extract k (j - 1)).reverse) i k),i,k,o.push x++(b.extract k (j - 1)).reverse,mg,ac,j - 1 - k))
    else Y9 a b mg ac (j - 1 - k) i k (o.push x++(b.extract k (j - 1)).reverse)
   else Y9 a b mg ac (j - 1 - k) i (j - 1) (o.push x)
  | _=>pure (.done (some (Md a b (o.push x) i (j - 1)),i,j - 1,o.push x,mg,ac,bc))
def Zb (mg ac bc:Nat)(i j:Nat)(o:gP gO):StateT WY Sem (ForInStep S7):=do
 modify λs=>cZ s mg
 let x <- elem' b (j - 1)
 let r <- N7 false x a 0 i (i - 1)
 match r with
 | some k=>
  if i - k >0 then
   if(k==0)=true then pure (.done (some (Md a b (o++(a.extract k i).reverse) k j),k,j,o++(a.extract k i).reverse,mg,i - k,bc))
   else Y_ a b mg (i - k) bc k j (o++(a.extract k i).reverse)
  else Y_ a b mg (i - k) bc i j o
 | _=>pure (.done (some (Md a b o i j),i,j,o,mg,ac,bc))
abbrev S5:=fj (gP gO)×Nat×Nat×gP gO×Nat
def Wg (c:S5):StateT WY Sem (ForInStep S5):=do
 let d <- forIn [:a.size+b.size] ((none,c.2.1,c.2.2.1,c.2.2.2.1,0,0):fj (gP gO)×Nat×Nat×gP gO×Nat×Nat) λ_ d=>Q6 a b c.2.2.2.2 d.2.1 d.2.2.1 d.2.2.2.1 d.2.2.2.2.1 d.2.2.2.2.2
 match d.1 with
 | some r=>pure (.done (some r,d.2.1,d.2.2.1,d.2.2.2.1,c.2.2.2.2))
 | none=>do
  liftM (rule "list.sort.gallop")
  let e <- forIn [:a.size+b.size] ((none,d.2.1,d.2.2.1,d.2.2.2.1,c.2.2.2.2+1,d.2.2.2.2.1,d.2.2.2.2.2):S7) λ_ e=>if e.2.2.2.2.1 >1 then Zb a b (e.2.2.2.2.1 - 1) e.2.2.2.2.2.1 e.2.2.2.2.2.2 e.2.1 e.2.2.1 e.2.2.2.1 else Zb a b e.2.2.2.2.1 e.2.2.2.2.2.1 e.2.2.2.2.2.2 e.2.1 e.2.2.1 e.2.2.2.1
  match e.1 with
  | some r=>pure (.done (some r,e.2.1,e.2.2.1,e.2.2.2.1,e.2.2.2.2.1))
  | none=>do
   modify λs=>cZ s (e.2.2.2.2.1+1)
   pure (.yield (none,e.2.1,e.2.2.1,e.2.2.2.1,e.2.2.2.2.1+1))
theorem GC:mHi a b=(do
  liftM (rule "list.sort.merge-hi")
  let x <- elem' a (a.size - 1)
  if(a.size - 1==0)=true then pure (Md a b #[x] (a.size - 1) b.size)
  else if(b.size==1)=true then pure (UC a b #[x] (a.size - 1) b.size)
  else do
   let g <- get
   let c <- forIn [:a.size+b.size] ((none,a.size - 1,b.size, #[x],gallopOf g):S5) λ_ c=>Wg a b c
   match c.1 with
   | some r=>pure r
   | none=>unsupported "internal:list.sort.merge-bound"):=by
 exact yi λ_=>yi λx=> ?_
 exact GP rfl (GP rfl (yi λg=>G8 (GY λ_ c=> ?_) λc=> ?_))
 exact G8 (GY λ_ d=>rfl) λd=> ?_
 let⟨r,d⟩:=d
 cases r with
 | some r=>rfl
 | none =>
  exact yi λ_=>G8 (GY λ_ e=> ?_) λe=> ?_;exact GP ?_ ?_<;>
  .refine yi λ_=>yi λx=>yi λr=> ?_;cases r with
   | none=>rfl
   | some k=>
    exact GP (GP rfl ?_) ?_<;>
    .exact yi λy=>GP rfl (yi λz=>yi λr=> ?_);cases r<;>rfl
  let⟨r,e⟩:=e;cases r<;>rfl
 let⟨r,c⟩:=c
 cases r<;>rfl
end
def gX (h:i<xs.size):xs.toList[i]? =some (cI xs i):=by rw[<- Ld h];simp
def GZ (h:i<xs.size):xs.toList.drop i=cI xs i::xs.toList.drop (i+1):=by have h':i<xs.toList.length:= ⇑h;have e:=gX h;rw[aQ h'] at e;rw[List.drop_eq_getElem_cons h',bA e]
def Ad (h:i<xs.size):(xs.toList.drop i).take 1= [cI xs i]:=by rw[GZ h];rfl
def jm (h:y∈xs.toList.drop i): ∃k,c8 (i<=k) (k<xs.size) (y=cI xs k):=by let⟨n,hn⟩:=List.mem_iff_getElem?.mp h;rw[List.getElem?_drop] at hn;have hl:=(bB.mp hn).1;have sr:i+n<xs.size:= ⇑hl;rw[gX sr] at hn;show#[i+n, ∅,sr,(bA hn).symm]
def yC (h:y∈(xs.toList.drop i).take k): ∃n,fA (i<=n) (n<i+k) (n<xs.size) (y=cI xs n):=by let⟨n,hn⟩:=List.mem_iff_getElem?.mp h;rw[List.getElem?_take] at hn;split at hn;rename_i hk;rw[List.getElem?_drop] at hn;have hl:=(bB.mp hn).1;have sr:i+n<xs.size:= ⇑hl;rw[gX sr] at hn;show#[i+n, ∅, ∅,sr,(bA hn).symm];cases hn
def nD (O:Ord less)(h:xs.toList.Pairwise (LE less))(kW:i<=j)(hj:j<xs.size):LE less (cI xs i) (cI xs j):=by
 by_cases c:i=j;subst c;show O.refl _;rw[List.pairwise_iff_getElem] at h;have su:i<xs.toList.length:=by simp;lia
 have Tb:j<xs.toList.length:= ⇑hj;have:=h i j su Tb ∅;have e1:=gX (xs:=xs) (i:=i) ∅;have e2:=gX hj;rw[aQ su] at e1;rw[aQ Tb] at e2;rwa [bA e1,bA e2] at this
theorem yI (O:Ord less)(h:xs.toList.Pairwise (LE less))(hn:i+n<=xs.size):Sg less xs i (i+n):=λx y _ Zw hy=>nD O h Zw ∅
def Bn (xs:gP gO)(i k:Nat):(xs.extract i (i+k)).toList=(xs.toList.drop i).take k:=by rw[Array.toList_extract,List.extract_eq_take_drop];congr 1;lia
def uy (xs:gP gO)(i:Nat):(xs.extract i xs.size).toList=xs.toList.drop i:=by rw[Array.toList_extract,List.extract_eq_take_drop];show List.take_of_length_le (by simp)
section
variable {prog:Program}{w:World}{A:Around}{E:df ->dG ->Prop}{s:dG}{kd:SortKind}{a₀:gP gO}{less:gO ->gO ->Bool}
structure yo (less:Keyed ->Keyed ->Bool)(a₀ a b:Array Keyed):Prop where
 sa:a.toList.Pairwise (LE less)
 sb:b.toList.Pairwise (LE less)
 ma: ∀i,i<a.size ->cI a i∈a₀.toList
 mb: ∀i,i<b.size ->cI b i∈a₀.toList
 na:1<=a.size
 nb:1<=b.size
 h0:less (cI b 0) (cI a 0)=true
 hl: ∀j,j<b.size ->less (cI b j) (cI a (a.size - 1))=true
def v7 (less:gO ->gO ->Bool)(a b r:gP gO):Prop:=r.toList.Perm (a.toList++b.toList) /\ r.toList.Pairwise (LE less)
structure JL (less:Keyed ->Keyed ->Bool)(a b o:Array Keyed)(i j:Nat):Prop where
 mi:MI less a.toList b.toList o.toList i j
 hi:i+1<a.size
 hj:j<b.size
variable {a b:gP gO}
def yQ (T:yo less a₀ a b)(h:MI less a.toList b.toList o.toList i j)(hj:b.size<=j \/ a.size<=i):v7 less a b (Mc a b o i j):=by
 unfold v7 Mc;rw[bW,bW,uy,uy];have:=h.swap.fin T.sb T.sa λx hx y hy=>by obtain hj | hj:=hj;let⟨k,h1,h2,_⟩:=jm hy;lia;let⟨k,h1,h2,_⟩:=jm hx;lia
 show#[this.1.trans dX,this.2]
def yP (O:Ord less)(T:yo less a₀ a b)(h:MI less a.toList b.toList o.toList i j)(hi:i+1=a.size):v7 less a b (Uo a b o i j):=by unfold v7 Uo;rw[bW,bW,uy,uy];exact h.fin T.sa T.sb λx hx y hy=> ?_;let⟨k,h1,h2,rfl⟩:=jm hx;let⟨k',ZH,Qq,rfl⟩:=jm hy;rw[show k'=a.size - 1 by lia];show O.le (T.hl k h2)
def CC (O:Ord less)(T:yo less a₀ a b){o:gP gO}(h:MI less a.toList b.toList o.toList i j)(hj:j<b.size)(hc:i<a.size ->LE less (cI b j) (cI a i)):MI less a.toList b.toList (o.push (cI b j)).toList i (j+1):=by have:=(h.swap.Oy T.sb 1 λx hx y hy=>by rw[Ad hj] at hx;rw[bg.mp hx];let⟨k,h1,h2,rfl⟩:=jm hy;show O.trans _ _ _ (hc ∅) (nD O T.sa h1 h2)).swap;rw[Ad hj] at this;rwa [Array.toList_push]
def Jg (O:Ord less)(T:yo less a₀ a b){o:gP gO}(h:MI less a.toList b.toList o.toList i j)(hi:i<a.size)(hc:j<b.size ->LE less (cI a i) (cI b j)):MI less a.toList b.toList (o.push (cI a i)).toList (i+1) j:=by
 have:=h.Oy T.sa 1 λx hx y hy=>by rw[Ad hi] at hx;rw[bg.mp hx];let⟨k,h1,h2,rfl⟩:=jm hy;show O.trans _ _ _ (hc ∅) (nD O T.sb h1 h2)
 rw[Ad hi] at this;rwa [Array.toList_push]
def TW (less:gO ->gO ->Bool)(a b:gP gO)(st:WY)(N:Nat)(r:ForInStep R7)(bM:WY):Prop:=(∃g,bM=cZ st g) /\ ((cx λx c=>r= .done (some x,c) /\ v7 less a b x) \/ (gc λo i j c=>c8 (r= .done (none,o,i,j,c) \/ r= .yield (none,o,i,j,c)) (JL less a b o i j) (N<=i+j)))
def wp_p3L (O:Ord less)(T:yo less a₀ a b){st bM:WY}(hg: ∃g,bM=cZ st g)(J:JL less a b o i j)(hc:LE less (cI a i) (cI b j))(hN:N<=i+j):wpS (model prog w) A E s (Y8 a b mg ac bc o i j) (TW less a b st N) bM:=by
 unfold Y8;have hi:=J.hi;exact aw (wp_elem ∅ ?_);have m:=Jg O T J.mi ∅ λ_=>hc;by_cases c:i+1+1=a.size;rw[ao ⇑c];show aJ #[hg, .inl #[_,_,rfl,yP O T m c]];rw[ak ⇑c];have J':JL less a b (o.push (cI a i)) (i+1) j:=#[m, ∅,J.hj]
 split;show aJ #[hg, .inr #[_,_,_,_, .inl rfl,J', ∅]];show aJ #[hg, .inr #[_,_,_,_, .inr rfl,J', ∅]]
def wp_p2L (O:Ord less)(L:i5 prog w A E s kd a₀ less)(T:yo less a₀ a b){st bM:WY}(hk:kindOf bM=kd)(hg: ∃g,bM=cZ st g)(J:JL less a b o i j)(hc:less (cI b j) (cI a i)=true)(hN:N<=i+j):wpS (model prog w) A E s (Y' a b mg ac bc o i j) (TW less a b st N) bM:=by
 unfold Y';have hi:=J.hi;have hj:=J.hj;exact aw (wp_elem hj ?_);have m:=CC O T J.mi hj λ_=>O.le hc;by_cases c:j+1=b.size;rw[ao ⇑c];show aJ #[hg, .inl #[_,_,rfl,yQ T m (.inl ∅)]];rw [ak ⇑c];exact aw (wp_elem ∅ ?_);exact aw (wp_galL O L hk (T.ma i ∅) (λk hk=>#[∅,T.mb _ ∅]) ∅ (yI O T.sb ∅) λk h1 h2 h3=> ?_);dsimp only;by_cases ck:k >0;rw[ao ck];have m2:MI less a.toList b.toList (o.push (cI b j)++b.extract (j+1) (j+1+k)).toList i (j+1+k):=by rw[bW,Bn];exact(m.swap.Oy T.sb k λx hx y hy=> ?_).swap;let⟨n,n1,n2,n3,rfl⟩:=yC hx;let⟨k',k1,k2,rfl⟩:=jm hy;have:=h2 (n - (j+1)) ∅;rw[show j+1+(n - (j+1))=n by lia] at this;show O.trans _ _ _ (O.le this) (nD O T.sa k1 k2)
 by_cases c2:j+1+k=b.size;rw[ao ⇑c2];show aJ #[hg, .inl #[_,_,rfl,yQ T m2 (.inl ∅)]];rw[ak ⇑c2];show wp_p3L O T hg #[m2,hi, ∅] (h3 k (aq _) ∅) ∅;rw[ak ck];have:k=0:= ∅;subst this;show wp_p3L O T hg #[m,hi, ∅] (h3 0 (aq _) ∅) ∅
def wp_p1L (O:Ord less)(L:i5 prog w A E s kd a₀ less)(T:yo less a₀ a b){st bM:WY}(hk:kindOf st=kd)(hg: ∃g,bM=cZ st g)(J:JL less a b o i j)(hN:N<=i+j):wpS (model prog w) A E s (Za a b mg ac bc o i j) (TW less a b st N) bM:=by
 unfold Za;have hi:=J.hi;have hj:=J.hj;exact aw (wpS_modify ?_);have oj: ∃g,cZ bM mg=cZ st g:=by let⟨g,rfl⟩:=hg;show#[mg,rfl]
 have Cb:kindOf (cZ bM mg)=kd:=by let⟨g,rfl⟩:=hg;show hk
 exact aw (wp_elem hj ?_);exact aw (wp_galR O L Cb (T.mb j hj) (λk hk=>#[∅,T.ma _ ∅]) ∅ (yI O T.sa ∅) λk h1 h2 h3=> ?_);dsimp only;have hkl:i+k<a.size:=by by_cases c:i+k<a.size;show c;have:=h2 (a.size - 1 - i) ∅;rw[show i+(a.size - 1 - i)=a.size - 1 by lia] at this;unfold LE at this;rw[T.hl j hj] at this;cases this
 have Qk:=h3 k (aq _) ∅;by_cases ck:k >0;rw[ao ck];have m2:MI less a.toList b.toList (o++a.extract i (i+k)).toList (i+k) j:=by rw[bW,Bn];exact J.mi.Oy T.sa k λx hx y hy=> ?_;let⟨n,n1,n2,n3,rfl⟩:=yC hx;let⟨k',k1,k2,rfl⟩:=jm hy;have:=h2 (n - i) ∅;rw[show i+(n - i)=n by lia] at this;show O.trans _ _ _ this (nD O T.sb k1 k2)
 by_cases c2:i+k+1=a.size;rw[ao ⇑c2];show aJ #[oj, .inl #[_,_,rfl,yP O T m2 c2]];rw[ak ⇑c2,ak (by simp;lia)];show wp_p2L O L T Cb oj #[m2, ∅,hj] Qk ∅;rw[ak ck];have:k=0:= ∅;subst this;show wp_p2L O L T Cb oj J Qk hN
def wp_one1 (O:Ord less)(L:i5 prog w A E s kd a₀ less)(T:yo less a₀ a b)(hk:kindOf bM=kd)(J:JL less a b o i j)(h1: ∀x c,v7 less a b x ->Q (.done (some x,c)) bM)(h2: ∀o i' j' c,JL less a b o i' j' ->i'+j'=i+j+1 ->Q (.done (none,o,i',j',c)) bM /\ Q (.yield (none,o,i',j',c)) bM): wpS (model prog w) A E s (R9 a b mg o i j ac bc) Q bM:=by
 unfold R9;have hi:=J.hi;have hj:=J.hj;exact aw (wp_elem hj (aw (wp_elem ∅ (aw (L _ _ _ _ (T.mb j hj) (T.ma i ∅) hk ?_)))));dsimp only;cases e:less (cI b j) (cI a i) with
 | true=>simp![ce];exact aw (wp_elem hj ?_);have m:=CC O T J.mi hj λ_=>O.le e;by_cases c:j+1=b.size;rw[ao ⇑c];show aJ (h1 _ _ (yQ T m (.inl ∅)));rw[ak ⇑c];have:=h2 _ i (j+1) (0,bc+1) #[m,hi, ∅] ∅;split;show aJ this.1;show aJ this.2
 | false=>simp![aD,bH];exact aw (wp_elem ∅ ?_);have m:=Jg O T J.mi ∅ λ_=>e;by_cases c:i+1+1=a.size;rw[ao ⇑c];show aJ (h1 _ _ (yP O T m c));rw[ak ⇑c];have:=h2 _ (i+1) j (ac+1,0) #[m, ∅,hj] ∅;split;show aJ this.1;show aJ this.2
def wp_mLo (O:Ord less)(L:i5 prog w A E s kd a₀ less)(T:yo less a₀ a b){st:WY}(hk:kindOf st=kd)(h: ∀r g,v7 less a b r ->Q r (cZ st g)):wpS (model prog w) A E s (mLo a b) Q st:=by
 rw[GB];have na:=T.na;have nb:=T.nb;exact aw (wpS_lift (wpAny_rule #[rfl,?_]));exact aw (wp_elem ∅ ?_);have h': ∀r,v7 less a b r ->Q r st:=λr hr=>h r (gallopOf st) hr;have m:MI less a.toList b.toList (#[cI b 0]:gP gO).toList 0 1:=by
  have m0:MI less a.toList b.toList (#[]:gP gO).toList 0 0:=#[by simp,by simp,by simp,by simp]
  show CC O T m0 ∅ λ_=>O.le T.h0
 by_cases c:1=b.size;rw[ao ⇑c];show aJ (h' _ (yQ T m (.inl ∅)));rw[ak ⇑c];by_cases c2:0+1=a.size;rw[ao ⇑c2];show aJ (h' _ (yP O T m c2));rw[ak ⇑c2];exact aw (wpS_get ?_);exact aw (wpS_mono (cD (I:=λn c bM=>(∃g,bM=cZ st g) /\ gc λo i j mg=>c8 (c=(none,o,i,j,mg)) (JL less a b o i j) (n+1<=i+j)) (Q:=λc bM=>(∃g,bM=cZ st g) /\ cx λx d=>c=(some x,d) /\ v7 less a b x) ?_ ?_ #[#[gallopOf st,rfl],_,0,1,_,rfl,#[m, ∅, ∅], ∅]) ?_)
 .rintro n c bM _ hn ⟨hg,o,i,j,mg,rfl,J,hN⟩;unfold Wf;dsimp only;have Cb:kindOf bM=kd:=by let⟨g,rfl⟩:=hg;show hk
  exact aw (wpS_mono (cD (I:=λx c oK=>oK=bM /\ gc λo' i' j' d=>c8 (c=(none,o',i',j',d)) (JL less a b o' i' j') (i'+j'=i+j+x)) (Q:=λc oK=>oK=bM /\ ((cx λx d=>c=(some x,d) /\ v7 less a b x) \/ gc λo' i' j' d=>c8 (c=(none,o',i',j',d)) (JL less a b o' i' j') (i+j+1<=i'+j'))) ?_ ?_ #[rfl,o,i,j,_,rfl,J,rfl]) ?_);rintro x c oK _ hx ⟨rfl,o',i',j',⟨ac,bc⟩,rfl,J',Qo⟩;dsimp only;exact wp_one1 O L T Cb J' (λx c hr=>#[rfl, .inl #[x,c,rfl,hr]]) λo2 i2 j2 c J2 h2=>#[#[rfl, .inr #[o2,i2,j2,c,rfl,J2, ∅]],#[rfl,o2,i2,j2,c,rfl,J2, ∅]]
  rintro c oK ⟨rfl,o',i',j',d,rfl,J',Qo⟩;show#[rfl, .inr #[o',i',j',d,rfl,J', ∅]]
  .rintro c oK ⟨rfl,⟨x,d,rfl,hr⟩ | ⟨o',i',j',⟨ac,bc⟩,rfl,J',Qo⟩⟩;show aJ #[hg,x,_,rfl,hr]
   .dsimp only;exact aw (wpS_lift (wpAny_rule #[rfl,?_]));exact aw (wpS_mono (cD (I:=λx c wx=>(∃g,wx=cZ st g) /\ gc λo' i' j' d=>c8 (c=(none,o',i',j',d)) (JL less a b o' i' j') (i+j+1<=i'+j')) (Q:=λc wx=>(∃g,wx=cZ st g) /\ ((cx λx d=>c=(some x,d) /\ v7 less a b x) \/ gc λo' i' j' d=>c8 (c=(none,o',i',j',d)) (JL less a b o' i' j') (i+j+1<=i'+j'))) ?_ ?_ #[hg,o',i',j',_,rfl,J',Qo]) ?_)
    .rintro x c wx _ hx ⟨GU,o3,i3,j3,⟨mg3,ac3,bc3⟩,rfl,J3,jx⟩;dsimp only;split;all_goals
      exact wpS_mono (wp_p1L O L T hk GU J3 jx) ?_
      rintro r f9 ⟨Tc,⟨x,c,rfl,hr⟩ | ⟨o,i,j,c,rfl | rfl,J4,h4⟩⟩
      show#[Tc, .inl #[x,c,rfl,hr]]
      show#[Tc, .inr #[o,i,j,c,rfl,J4,h4]]
      show#[Tc,o,i,j,c,rfl,J4,h4]
    rintro c wx ⟨GU,o3,i3,j3,d,rfl,J3,jx⟩;show#[GU, .inr #[o3,i3,j3,d,rfl,J3,jx]];rintro c wx ⟨GU,⟨x,d,rfl,hr⟩ | ⟨o3,i3,j3,⟨mg3,ac3,bc3⟩,rfl,J3,jx⟩⟩;show aJ #[GU,x,_,rfl,hr];dsimp only;exact aw (wpS_modify (aJ #[?_,o3,i3,j3,_,rfl,J3, ∅]));let⟨g,rfl⟩:=GU;show#[_,rfl]
 rintro c bM ⟨hg,o,i,j,mg,rfl,J,hN⟩;have:=J.hi;have:=J.hj;lia;rintro c bM ⟨⟨g,rfl⟩,x,d,rfl,hr⟩;show aJ (h x g hr)
end
def xn (h:y∈xs.toList.take i): ∃n,c8 (n<i) (n<xs.size) (y=cI xs n):=by let⟨n,hn⟩:=List.mem_iff_getElem?.mp h;rw[List.getElem?_take] at hn;split at hn;have hl:=(bB.mp hn).1;have sr:n<xs.size:= ⇑hl;rw[gX sr] at hn;show#[n, ∅,sr,(bA hn).symm];cases hn
def DU (h:y∈(xs.toList.take i).drop k): ∃n,fA (k<=n) (n<i) (n<xs.size) (y=cI xs n):=by rw[List.drop_take] at h;let⟨n,h1,h2,h3,e⟩:=yC h;show#[n,h1, ∅,h3,e]
def YY (h0:1<=i)(h:i<=xs.size):(xs.toList.take i).drop (i - 1)= [cI xs (i - 1)]:=by rw[List.drop_take,show i - (i - 1)=1 by lia,Ad ∅]
def oq (xs:gP gO)(k i:Nat):(xs.extract k i).toList=(xs.toList.take i).drop k:=by rw[Array.toList_extract,List.extract_eq_take_drop,List.drop_take]
def Fn (xs:gP gO)(i:Nat):(xs.extract 0 i).toList=xs.toList.take i:=by rw[oq,List.drop_zero]
section
variable {prog:Program}{w:World}{A:Around}{E:df ->dG ->Prop}{s:dG}{kd:SortKind}{a₀:gP gO}{less:gO ->gO ->Bool}
structure JH (less:Keyed ->Keyed ->Bool)(a b o:Array Keyed)(i j:Nat):Prop where
 mi:MH less a.toList b.toList o.toList.reverse i j
 hi:1<=i
 hj:2<=j
 ia:i<=a.size
 jb:j<=b.size
variable {a b:gP gO}
def oZ (T:yo less a₀ a b)(h:MH less a.toList b.toList o.toList.reverse i j)(hj:i=0 \/ j=0):v7 less a b (Md a b o i j):=by unfold v7 Md;rw[bW,bW,Fn,Fn,Array.toList_reverse];exact h.fin T.sa T.sb λx hx y hy=> ?_;obtain hj | hj:=hj;subst hj;simp at hx;subst hj;simp at hy
def uk (O:Ord less)(T:yo less a₀ a b)(h:MH less a.toList b.toList o.toList.reverse i j)(hj:j=1):v7 less a b (UC a b o i j):=by
 unfold v7 UC;rw[bW,bW,Fn,Fn,Array.toList_reverse];have:=h.swap.fin T.sb T.sa λx hx y hy=>by let⟨n,n1,n2,rfl⟩:=xn hx;let⟨k,k1,k2,rfl⟩:=xn hy;rw[show n=0 by lia];show O.trans _ _ _ (O.le T.h0) (nD O T.sa (dm _) k2)
 show#[this.1.trans dX,this.2]
def yT (O:Ord less)(T:yo less a₀ a b){o:gP gO}(h:MH less a.toList b.toList o.toList.reverse i j)(h1:1<=i)(hi:i<=a.size)(hj:j<=b.size)(hc:1<=j ->LE less (cI b (j - 1)) (cI a (i - 1))):MH less a.toList b.toList (o.push (cI a (i - 1))).toList.reverse (i - 1) j:=by
 have:=h.Oy T.sa (k:=i - 1) ∅ λx hx y hy=>by rw[YY h1 hi] at hx;rw[bg.mp hx];let⟨k,k1,k2,rfl⟩:=xn hy;show O.trans _ _ _ (nD O T.sb (show k<=j - 1 by lia) ∅) (hc ∅)
 rw[YY h1 hi] at this;rw[Array.toList_push,List.reverse_append];show this
def Ev (O:Ord less)(T:yo less a₀ a b){o:gP gO}(h:MH less a.toList b.toList o.toList.reverse i j)(h1:1<=j)(hi:i<=a.size)(hj:j<=b.size)(hc:1<=i ->LE less (cI a (i - 1)) (cI b (j - 1))):MH less a.toList b.toList (o.push (cI b (j - 1))).toList.reverse i (j - 1):=by have:=(h.swap.Oy T.sb (k:=j - 1) ∅ λx hx y hy=>by rw[YY h1 hj] at hx;rw[bg.mp hx];let⟨k,k1,k2,rfl⟩:=xn hy;show O.trans _ _ _ (nD O T.sa (show k<=i - 1 by lia) ∅) (hc ∅)).swap;rw[YY h1 hj] at this;rw[Array.toList_push,List.reverse_append];show this
def El (o x:gP gO):(o++x.reverse).toList.reverse=x.toList++o.toList.reverse:=by rw[bW,Array.toList_reverse,List.reverse_append,List.reverse_reverse]
def TV (less:gO ->gO ->Bool)(a b:gP gO)(st:WY)(N:Nat)(r:ForInStep S7)(bM:WY):Prop:=(∃g,bM=cZ st g) /\ ((cx λx c=>r= .done (some x,c) /\ v7 less a b x) \/ (gc λi j o c=>c8 (r= .done (none,i,j,o,c) \/ r= .yield (none,i,j,o,c)) (JH less a b o i j) (i+j<=N)))
def wp_p3H (O:Ord less)(T:yo less a₀ a b){st bM:WY}(hg: ∃g,bM=cZ st g)(J:JH less a b o i j)(hc:LE less (cI b (j - 1)) (cI a (i - 1)))(hN:i+j<=N):wpS (model prog w) A E s (Y9 a b mg ac bc i j o) (TV less a b st N) bM:=by
 unfold Y9;have hi:=J.hi;have ia:=J.ia;exact aw (wp_elem ∅ ?_);have m:=yT O T J.mi J.hi J.ia J.jb λ_=>hc;by_cases c:i - 1=0;rw[ao ⇑c];show aJ #[hg, .inl #[_,_,rfl,oZ T m (.inl c)]];rw[ak ⇑c];have J':JH less a b (o.push (cI a (i - 1))) (i - 1) j:=#[m, ∅,J.hj, ∅,J.jb]
 split;show aJ #[hg, .inr #[_,_,_,_, .inl rfl,J', ∅]];show aJ #[hg, .inr #[_,_,_,_, .inr rfl,J', ∅]]
def wp_p2H (O:Ord less)(L:i5 prog w A E s kd a₀ less)(T:yo less a₀ a b){st bM:WY}(hk:kindOf bM=kd)(hg: ∃g,bM=cZ st g)(J:JH less a b o i j)(hc:LE less (cI a (i - 1)) (cI b (j - 1)))(hN:i+j<=N):wpS (model prog w) A E s (Y_ a b mg ac bc i j o) (TV less a b st N) bM:=by
 unfold Y_;have hi:=J.hi;have hj:=J.hj;have ia:=J.ia;have jb:=J.jb;exact aw (wp_elem ∅ ?_);have m:=Ev O T J.mi ∅ ia jb λ_=>hc;by_cases c:j - 1=1;rw[ao ⇑c];show aJ #[hg, .inl #[_,_,rfl,uk O T m c]];rw [ak ⇑c];exact aw (wp_elem ∅ ?_);have sg:=yI O T.sb (i:=0) (n:=j - 1) ∅;exact aw (wp_galL O L hk (T.ma (i - 1) ∅) (λk hk=>#[∅,T.mb _ ∅]) ∅ sg λk h1 h2 h3=> ?_);dsimp only;simp![Nat.zero_add] at h2 h3;by_cases ck:j - 1 - k >0;rw[ao ck];have m2:MH less a.toList b.toList (o.push (cI b (j - 1))++(b.extract k (j - 1)).reverse).toList.reverse i k:=by rw[El,oq];exact(m.swap.Oy T.sb ∅ λx hx y hy=> ?_).swap;let⟨n,n1,n2,n3,rfl⟩:=DU hx;let⟨k',k1,k2,rfl⟩:=xn hy;show O.trans _ _ _ (nD O T.sa (show k'<=i - 1 by lia) ∅) (h3 n n1 n2)
 by_cases c2:k=1;rw[ao ⇑c2];show aJ #[hg, .inl #[_,_,rfl,uk O T m2 c2]];rw[ak ⇑c2];by_cases c3:k=0;rw[ao ⇑c3];show aJ #[hg, .inl #[_,_,rfl,oZ T m2 (.inr c3)]];rw[ak ⇑c3];show wp_p3H O T hg #[m2,hi, ∅,ia, ∅] (O.le (h2 (k - 1) ∅)) ∅;rw[ak ck];show wp_p3H O T hg #[m,hi, ∅,ia, ∅] (O.le (h2 (j - 1 - 1) ∅)) ∅
def wp_p1H (O:Ord less)(L:i5 prog w A E s kd a₀ less)(T:yo less a₀ a b){st bM:WY}(hk:kindOf st=kd)(hg: ∃g,bM=cZ st g)(J:JH less a b o i j)(hN:i+j<=N):wpS (model prog w) A E s (Zb a b mg ac bc i j o) (TV less a b st N) bM:=by
 unfold Zb;have hi:=J.hi;have hj:=J.hj;have ia:=J.ia;have jb:=J.jb;exact aw (wpS_modify ?_);have oj: ∃g,cZ bM mg=cZ st g:=by let⟨g,rfl⟩:=hg;show#[mg,rfl]
 have Cb:kindOf (cZ bM mg)=kd:=by let⟨g,rfl⟩:=hg;show hk
 exact aw (wp_elem ∅ ?_);have sg:=yI O T.sa (i:=0) (n:=i) ∅;exact aw (wp_galR O L Cb (T.mb (j - 1) ∅) (λk hk=>#[∅,T.ma _ ∅]) ∅ sg λk h1 h2 h3=> ?_);dsimp only;simp![Nat.zero_add] at h2 h3;by_cases ck:i - k >0;rw[ao ck];have m2:MH less a.toList b.toList (o++(a.extract k i).reverse).toList.reverse k j:=by rw[El,oq];exact J.mi.Oy T.sa ∅ λx hx y hy=> ?_;let⟨n,n1,n2,n3,rfl⟩:=DU hx;let⟨k',k1,k2,rfl⟩:=xn hy;show O.trans _ _ _ (nD O T.sb (show k'<=j - 1 by lia) ∅) (O.le (h3 n n1 n2))
 by_cases c2:k=0;rw[ao ⇑c2];show aJ #[oj, .inl #[_,_,rfl,oZ T m2 (.inl c2)]];rw[ak ⇑c2];show wp_p2H O L T Cb oj #[m2, ∅,hj, ∅,jb] (h2 (k - 1) ∅) ∅;rw[ak ck];show wp_p2H O L T Cb oj J (h2 (i - 1) ∅) hN
def wp_two1 (O:Ord less)(L:i5 prog w A E s kd a₀ less)(T:yo less a₀ a b)(hk:kindOf bM=kd)(J:JH less a b o i j)(h1: ∀x c,v7 less a b x ->Q (.done (some x,c)) bM)(h2: ∀i' j' o c,JH less a b o i' j' ->i'+j'+1=i+j ->Q (.done (none,i',j',o,c)) bM /\ Q (.yield (none,i',j',o,c)) bM): wpS (model prog w) A E s (Q6 a b mg i j o ac bc) Q bM:=by
 unfold Q6;have hi:=J.hi;have hj:=J.hj;have ia:=J.ia;have jb:=J.jb;exact aw (wp_elem ∅ (aw (wp_elem ∅ (aw (L _ _ _ _ (T.mb (j - 1) ∅) (T.ma (i - 1) ∅) hk ?_)))));dsimp only;cases e:less (cI b (j - 1)) (cI a (i - 1)) with
 | true=>simp![ce];exact aw (wp_elem ∅ ?_);have m:=yT O T J.mi hi ia jb λ_=>O.le e;by_cases c:i - 1=0;rw[ao ⇑c];show aJ (h1 _ _ (oZ T m (.inl c)));rw[ak ⇑c];have:=h2 (i - 1) j _ (ac+1,0) #[m, ∅,hj, ∅,jb] ∅;split;show aJ this.1;show aJ this.2
 | false=>simp![aD,bH];exact aw (wp_elem ∅ ?_);have m:=Ev O T J.mi ∅ ia jb λ_=>e;by_cases c:j - 1=1;rw[ao ⇑c];show aJ (h1 _ _ (uk O T m c));rw[ak ⇑c];have:=h2 i (j - 1) _ (0,bc+1) #[m,hi, ∅,ia, ∅] ∅;split;show aJ this.1;show aJ this.2
def wp_mHi (O:Ord less)(L:i5 prog w A E s kd a₀ less)(T:yo less a₀ a b){st:WY}(hk:kindOf st=kd)(h: ∀r g,v7 less a b r ->Q r (cZ st g)):wpS (model prog w) A E s (mHi a b) Q st:=by
 rw[GC];have na:=T.na;have nb:=T.nb;exact aw (wpS_lift (wpAny_rule #[rfl,?_]));exact aw (wp_elem ∅ ?_);have h': ∀r,v7 less a b r ->Q r st:=λr hr=>h r (gallopOf st) hr;have m:MH less a.toList b.toList (#[cI a (a.size - 1)]:gP gO).toList.reverse (a.size - 1) b.size:=by
  have m0:MH less a.toList b.toList (#[]:gP gO).toList.reverse a.size b.size:=#[by simp,by simp,by simp,by simp]
  show yT O T m0 ∅ (aq _) (aq _) λ_=>O.le (T.hl _ ∅)
 by_cases c:a.size - 1=0;rw[ao ⇑c];show aJ (h' _ (oZ T m (.inl c)));rw[ak ⇑c];by_cases c2:b.size=1;rw[ao ⇑c2];show aJ (h' _ (uk O T m c2));rw[ak ⇑c2];exact aw (wpS_get ?_);exact aw (wpS_mono (cD (I:=λn c bM=>(∃g,bM=cZ st g) /\ gc λi j o mg=>c8 (c=(none,i,j,o,mg)) (JH less a b o i j) (i+j+n<a.size+b.size)) (Q:=λc bM=>(∃g,bM=cZ st g) /\ cx λx d=>c=(some x,d) /\ v7 less a b x) ?_ ?_ #[#[gallopOf st,rfl],_,_,_,_,rfl,#[m, ∅, ∅, ∅, ∅], ∅]) ?_)
 .rintro n c bM _ hn ⟨hg,i,j,o,mg,rfl,J,hN⟩;unfold Wg;dsimp only;have Cb:kindOf bM=kd:=by let⟨g,rfl⟩:=hg;show hk
  exact aw (wpS_mono (cD (I:=λx c oK=>oK=bM /\ gc λi' j' o' d=>c8 (c=(none,i',j',o',d)) (JH less a b o' i' j') (i'+j'+x=i+j)) (Q:=λc oK=>oK=bM /\ ((cx λx d=>c=(some x,d) /\ v7 less a b x) \/ gc λi' j' o' d=>c8 (c=(none,i',j',o',d)) (JH less a b o' i' j') (i'+j'+1<=i+j))) ?_ ?_ #[rfl,i,j,o,_,rfl,J,rfl]) ?_);rintro x c oK _ hx ⟨rfl,i',j',o',⟨ac,bc⟩,rfl,J',Qo⟩;dsimp only;exact wp_two1 O L T Cb J' (λx c hr=>#[rfl, .inl #[x,c,rfl,hr]]) λi2 j2 o2 c J2 h2=>#[#[rfl, .inr #[i2,j2,o2,c,rfl,J2, ∅]],#[rfl,i2,j2,o2,c,rfl,J2, ∅]]
  rintro c oK ⟨rfl,i',j',o',d,rfl,J',Qo⟩;show#[rfl, .inr #[i',j',o',d,rfl,J', ∅]]
  .rintro c oK ⟨rfl,⟨x,d,rfl,hr⟩ | ⟨i',j',o',⟨ac,bc⟩,rfl,J',Qo⟩⟩;show aJ #[hg,x,_,rfl,hr]
   .dsimp only;exact aw (wpS_lift (wpAny_rule #[rfl,?_]));exact aw (wpS_mono (cD (I:=λx c wx=>(∃g,wx=cZ st g) /\ gc λi' j' o' d=>c8 (c=(none,i',j',o',d)) (JH less a b o' i' j') (i'+j'+1<=i+j)) (Q:=λc wx=>(∃g,wx=cZ st g) /\ ((cx λx d=>c=(some x,d) /\ v7 less a b x) \/ gc λi' j' o' d=>c8 (c=(none,i',j',o',d)) (JH less a b o' i' j') (i'+j'+1<=i+j))) ?_ ?_ #[hg,i',j',o',_,rfl,J',Qo]) ?_)
    .rintro x c wx _ hx ⟨GU,i3,j3,o3,⟨mg3,ac3,bc3⟩,rfl,J3,jx⟩;dsimp only;split;all_goals
      exact wpS_mono (wp_p1H O L T (N:=i+j - 1) hk GU J3 ∅) ?_
      rintro r f9 ⟨Tc,⟨x,c,rfl,hr⟩ | ⟨i4,j4,o4,c,rfl | rfl,J4,h4⟩⟩
      show#[Tc, .inl #[x,c,rfl,hr]]
      show#[Tc, .inr #[i4,j4,o4,c,rfl,J4, ∅]]
      show#[Tc,i4,j4,o4,c,rfl,J4, ∅]
    rintro c wx ⟨GU,i3,j3,o3,d,rfl,J3,jx⟩;show#[GU, .inr #[i3,j3,o3,d,rfl,J3,jx]];rintro c wx ⟨GU,⟨x,d,rfl,hr⟩ | ⟨i3,j3,o3,⟨mg3,ac3,bc3⟩,rfl,J3,jx⟩⟩;show aJ #[GU,x,_,rfl,hr];dsimp only;exact aw (wpS_modify (aJ #[?_,i3,j3,o3,_,rfl,J3, ∅]));let⟨g,rfl⟩:=GU;show#[_,rfl]
 rintro c bM ⟨hg,i,j,o,mg,rfl,J,hN⟩;have:=J.hi;have:=J.hj;lia;rintro c bM ⟨⟨g,rfl⟩,x,d,rfl,hr⟩;show aJ (h x g hr)
end
def DL (xs:gP gO)(at_:Nat)(l:cH (gO×Nat)):gP gO:=l.foldl (λa (p,j)=>a.setIfInBounds (at_+j) p) xs
theorem Ci (at_ n:Nat): ∀ (ms:cH gO) (k:Nat) (xs:gP gO),at_+k+ms.length<=xs.size ->(DL xs at_ (ms.zipIdx k))[n]? =if at_+k<=n /\ n<at_+k+ms.length then ms[n - (at_+k)]? else xs[n]?
 | [],k,xs,h=>by rw[ak (by simp)];rfl
 | p ::ms,k,xs,h=>by rw[aC] at h;change(DL (xs.setIfInBounds (at_+k) p) at_ (ms.zipIdx (k+1)))[n]? =_;rw[Ci at_ n ms (k+1) _ (by rw[Array.size_setIfInBounds];lia)];rw[aC];by_cases c:n=at_+k;subst c;rw[ak ∅,ao ∅,Array.getElem?_setIfInBounds_self_of_lt ∅];simp;rw[Array.getElem?_setIfInBounds_ne (dD c)];by_cases c2:at_+(k+1) <=n /\ n<at_+(k+1)+ms.length;rw[ao c2,ao ∅,show n - (at_+k)=(n - (at_+(k+1)))+1 by lia,List.getElem?_cons_succ];rw[ak c2,ak ∅]
def HF (h:at_+ms.length<=xs.size):(DL xs at_ ms.zipIdx).toList=xs.toList.take at_++(ms++xs.toList.drop (at_+ms.length)):=by
 apply List.ext_getElem?;intro n;have e:=Ci at_ n ms 0 xs ∅;rw[Nat.add_zero] at e;have e':(DL xs at_ ms.zipIdx).toList[n]? =(DL xs at_ ms.zipIdx)[n]? :=by simp
 rw[e',e];have hx: ∀k:Nat,xs.toList[k]? =xs[k]? :=λk=>Array.getElem?_toList ..;by_cases c1:n<at_;rw[ak ∅,bu (by rw[bT];simp;lia),List.getElem?_take,ao c1,hx];have lt:(xs.toList.take at_).length=at_:=by rw[bT];simp;lia
 rw[bi ∅,lt];by_cases c2:n<at_+ms.length;rw[ao ∅,bu ∅];rw[ak ∅,bi ∅,List.getElem?_drop,hx];congr 1;lia
def Vm (l:cH gO)(i j k:Nat)(kW:i<=j)(hjk:j<=k)(hk:k<=l.length):l=l.take i++((l.take j).drop i++((l.take k).drop j++l.drop k)):=by
 have e1:(l.take k).drop j++l.drop k=l.drop j:=by rw[List.drop_take];have:=bL (k - j) (l.drop j);rw[List.drop_drop,show j+(k - j)=k by lia] at this;show this
 have e2:(l.take j).drop i++l.drop j=l.drop i:=by rw[List.drop_take];have:=bL (j - i) (l.drop i);rw[List.drop_drop,show i+(j - i)=j by lia] at this;show this
 rw[e1,e2,bL]
def KH (O:Ord less){i j lo hi:Nat}(h:Sg less xs lo hi)(h1:lo<=i)(h2:j<=hi)(h3:hi<=xs.size):(xs.extract i j).toList.Pairwise (LE less):=by
 rw[List.pairwise_iff_getElem];intro x y hx hy Zw;have e: ∀n (hn:n< (xs.extract i j).toList.length),(xs.extract i j).toList[n]=cI xs (i+n):=λn hn=>by
  have A_:n< (xs.extract i j).size:=by rw[dL] at hn;show hn
  rw[Array.size_extract] at A_;unfold cI;rw[getElem?_pos xs (i+n) ∅];simp
 rw[e x hx,e y hy];have hy':y< (xs.extract i j).size:=by rw[dL] at hy;show hy
 rw[Array.size_extract] at hy';show h _ _ ∅ ∅ ∅
def nh (h:n< (xs.extract i j).size):cI (xs.extract i j) n=cI xs (i+n):=by unfold cI;rw[Array.size_extract] at h;rw[Array.getElem?_extract,ao ∅]
abbrev Rn:=Nat×Nat×Nat
theorem Sj (i:Nat):mergeAt' i=(do
 let s <- get
 let (some (sa,na,pw),some (sb,nb,_)):=((pendingOf s)[i]?,(pendingOf s)[i+1]?) | unsupported "internal:list.sort.pending"
 set (setPending s (((pendingOf s).setIfInBounds i (sa,na+nb,pw)).eraseIdxIfInBounds (i+1)))
 let some k <- N7 false (<- elem' (arrOf s) sb) (arrOf s) sa na 0 | return false
 let (sa,na):=(sa+k,na - k)
 if na==0 then return true
 let some nb <- N7 true (<- elem' (arrOf s) (sa+na - 1)) (arrOf s) sb nb (nb - 1) | return false
 if nb==0 then return true
 let x:=(arrOf s).extract sa sb
 let y:=(arrOf s).extract sb (sb+nb)
 let r <- if na<=nb then mLo x y else mHi x y
 modify λs=>setArr s (DL (arrOf s) sa r.toList.zipIdx)
 return(failedOf (<- get)).isNone):=rfl
def Mi {st:σ}(h:Q ⟨⟩ v):wpS M A E s (set v:StateT σ Sem PUnit) Q st:=by unfold wpS;rw[StateT.run_set];show bf #[rfl,h]
def wp_mAt (O:Ord less)(L:i5 prog w A E s kd a₀ less){st:WY}{l1 l2:cH Rn}(B:SB kd a₀ st)(hp:pendingOf st=(l1++(sa,na,pw)::(sb,nb,pw2)::l2).toArray)(hi:i=l1.length)(W_:sb=sa+na)(h1:1<=na)(h2:1<=nb)(hz:sb+nb<=a₀.size)(s1:Sg less (arrOf st) sa sb)(s2:Sg less (arrOf st) sb (sb+nb))(h: ∀bM,SB kd a₀ bM ->pendingOf bM=(l1++(sa,na+nb,pw)::l2).toArray ->Sg less (arrOf bM) sa (sb+nb) ->t0 sa (sb+nb) (arrOf st) (arrOf bM) ->Q true bM):wpS (model prog w) A E s (mergeAt' i) Q st:=by
 subst hi;rw[Sj];exact aw (wpS_get ?_);have p1:(pendingOf st)[l1.length]? =some (sa,na,pw):=by rw[hp];simp
 have p2:(pendingOf st)[l1.length+1]? =some (sb,nb,pw2):=by rw[hp];simp[bi]
 rw[p1,p2];dsimp only;exact aw (Mi ?_);have hpd:((pendingOf st).setIfInBounds l1.length (sa,na+nb,pw)).eraseIdxIfInBounds (l1.length+1)=(l1++(sa,na+nb,pw)::l2).toArray:=by rw[hp];simp![List.setIfInBounds_toArray,List.eraseIdxIfInBounds_toArray];congr 1;rw[List.set_append_right _ _ (aq _),Nat.sub_self,List.set_cons_zero];rw[List.eraseIdx_append_of_length_le ∅,show l1.length+1 - l1.length=1 by lia];rfl
 rw[hpd];let F':WY:=setPending st (l1++(sa,na+nb,pw)::l2).toArray
 have B1:SB kd a₀ F':=#[B.perm,B.kd,B.fl]
 have hsz:=B.size;change wpS _ _ _ _ _ Q F';exact aw (wp_elem ∅ ?_);exact aw (wp_galR O L B.kd (B.mem ∅) (λk hk=>#[∅,B.mem ∅]) ∅ (by rw[<- W_];show s1) λk g1 g2 g3=> ?_);dsimp only;by_cases c1:na - k=0;rw [ao ⇑c1];exact aJ (h F' B1 rfl (λi j hi kW hj=> ?_) t0.refl);change LE less (cI (arrOf st) i) (cI (arrOf st) j);by_cases c2:j<sb;show s1 i j hi kW c2;by_cases c3:sb<=i;show s2 i j c3 kW hj;have:=g2 (i - sa) ∅;rw[show sa+(i - sa)=i by lia] at this;show O.trans _ _ _ this (s2 sb j (aq _) ∅ hj);rw [ak ⇑c1];exact aw (wp_elem ∅ ?_);rw[show sa+k+(na - k) - 1=sb - 1 by lia];exact aw (wp_galL O L B.kd (B.mem ∅) (λk hk=>#[∅,B.mem ∅]) ∅ s2 λm f1 f2 f3=> ?_);dsimp only;by_cases c2:m=0;rw [ao ⇑c2];exact aJ (h F' B1 rfl (λi j hi kW hj=> ?_) t0.refl);change LE less (cI (arrOf st) i) (cI (arrOf st) j);by_cases c2:j<sb;show s1 i j hi kW c2;by_cases c3:sb<=i;show s2 i j c3 kW hj;have:=f3 (j - sb) ∅ ∅;rw[show sb+(j - sb)=j by lia] at this;show O.trans _ _ _ (s1 i (sb - 1) hi ∅ ∅) this;rw [ak ⇑c2];have hxs:((arrOf st).extract (sa+k) sb).size=na - k:=by rw[Array.size_extract];lia
 have hys:((arrOf st).extract sb (sb+m)).size=m:=by rw[Array.size_extract];lia
 have T:yo less a₀ ((arrOf st).extract (sa+k) sb) ((arrOf st).extract sb (sb+m)):=by exact#[KH O s1 ∅ (aq _) ∅,KH O s2 (aq _) ∅ ∅,λi hi=> ?_,λi hi=> ?_, ∅, ∅,?_,λj hj=> ?_];rw[nh hi];rw[hxs] at hi;show B.mem ∅;rw[nh hi];rw[hys] at hi;show B.mem ∅;rw[nh ∅,nh ∅];show g3 k (aq _) ∅;rw[nh hj,nh ∅];rw[hys] at hj;rw[hxs,show sa+k+(na - k - 1)=sb - 1 by lia];show f2 j hj
 have fin : ∀ (r:gP gO) (g:Nat),v7 less ((arrOf st).extract (sa+k) sb) ((arrOf st).extract sb (sb+m)) r ->wpS (model prog w) A E s (do modify λs=>setArr s (DL (arrOf s) (sa+k) r.toList.zipIdx);return(failedOf (<- get)).isNone) Q (cZ F' g):=by
  rintro r g ⟨rp,rs⟩;have rl:r.toList.length=sb+m - (sa+k):=by
   rw[rp.length_eq,aE];have e1:((arrOf st).extract (sa+k) sb).toList.length=na - k:=by rw[dL];show hxs
   have e2:((arrOf st).extract sb (sb+m)).toList.length=m:=by rw[dL];show hys
   rw[e1,e2];lia
  have wl:=HF (xs:=arrOf st) (at_:=sa+k) (ms:=r.toList) (by rw[rl,hsz];lia);rw[rl,show sa+k+(sb+m - (sa+k))=sb+m by lia] at wl;have wa: ∀n,cI (DL (arrOf st) (sa+k) r.toList.zipIdx) n=if sa+k<=n /\ n<sb+m then(r.toList[n - (sa+k)]?).getD (.none, .none) else cI (arrOf st) n:=λn=>by have e:=Ci (sa+k) n r.toList 0 (arrOf st) (by rw[rl,hsz];lia);rw[Nat.add_zero,rl,show sa+k+(sb+m - (sa+k))=sb+m by lia] at e;unfold cI;rw[e];split<;>rfl
  have wm: ∀n,sa+k<=n ->n<sb+m -> ∃n',c8 (sa+k<=n') (n'<sb+m) (cI (DL (arrOf st) (sa+k) r.toList.zipIdx) n=cI (arrOf st) n'):=λn n1 n2=>by rw[wa,ao #[n1,n2],aQ ∅];have hm:=rp.mem_iff.mp (List.getElem_mem (l:=r.toList) (n:=n - (sa+k)) ∅);obtain hm | hm:=be.mp hm;rw[oq] at hm;let⟨q,q1,q2,q3,e⟩:=DU hm;show#[q,q1, ∅,e];rw[oq] at hm;let⟨q,q1,q2,q3,e⟩:=DU hm;show#[q, ∅,q2,e]
  exact aw (wpS_modify ?_);exact aw (wpS_get (aJ ?_));have ef:(failedOf (setArr (cZ F' g) (DL (arrOf (cZ F' g)) (sa+k) r.toList.zipIdx))).isNone=true:=by change(failedOf st).isNone=true;rw[B.fl];rfl
  rw[ef];exact h _ #[?_,B.kd,B.fl] rfl (λi j hi kW hj=> ?_) (λn hn=> ?_);change(DL (arrOf st) (sa+k) r.toList.zipIdx).Perm a₀;exact Array.Perm.trans ?_ B.perm;rw[Array.perm_iff_toList_perm,wl];have e3:=Vm (arrOf st).toList (sa+k) sb (sb+m) ∅ ∅ (by simp;lia);exact List.Perm.trans ?_ (List.Perm.of_eq e3.symm);exact List.Perm.append_left _ ?_;rw[<- bU];exact List.Perm.append_right _ ?_;rw[oq,oq] at rp;show rp;change LE less (cI (DL (arrOf st) (sa+k) r.toList.zipIdx) i) (cI (DL (arrOf st) (sa+k) r.toList.zipIdx) j);have Wz: ∀x y,sa<=x ->x<sa+k ->sa+k<=y ->y<sb+nb ->LE less (cI (arrOf st) x) (cI (arrOf st) y):=λx y x1 x2 y1 y2=>by by_cases c:y<sb;show s1 x y x1 ∅ c;have:=g2 (x - sa) ∅;rw[show sa+(x - sa)=x by lia] at this;show O.trans _ _ _ this (s2 sb y (aq _) ∅ y2)
  have aaC: ∀x y,sa+k<=x ->x<sb+m ->sb+m<=y ->y<sb+nb ->LE less (cI (arrOf st) x) (cI (arrOf st) y):=λx y x1 x2 y1 y2=>by by_cases c:x<sb;have:=f3 (y - sb) ∅ ∅;rw[show sb+(y - sb)=y by lia] at this;show O.trans _ _ _ (s1 x (sb - 1) ∅ ∅ ∅) this;show s2 x y ∅ ∅ y2
  by_cases i1:i<sa+k;have ei:=wa i;rw[ak ∅] at ei;rw[ei];by_cases j1:j<sa+k;have ej:=wa j;rw[ak ∅] at ej;rw[ej];show s1 i j hi kW ∅;by_cases j2:j<sb+m;let⟨n',n1,n2,e⟩:=wm j ∅ j2;rw[e];show Wz i n' hi i1 n1 ∅;have ej:=wa j;rw[ak ∅] at ej;rw[ej];show Wz i j hi i1 ∅ hj;by_cases i2:i<sb+m;by_cases j2:j<sb+m;rw[wa i,wa j,ao ∅,ao ∅,aQ ∅,aQ ∅];by_cases cij:i=j;subst cij;show O.refl _;show List.pairwise_iff_getElem.mp rs _ _ ∅ ∅ ∅;let⟨n',n1,n2,e⟩:=wm i ∅ i2;have ej:=wa j;rw[ak ∅] at ej;rw[e,ej];show aaC n' j n1 n2 ∅ hj;have ei:=wa i;have ej:=wa j;rw[ak ∅] at ei ej;rw[ei,ej];show s2 i j ∅ kW hj;change cI (DL (arrOf st) (sa+k) r.toList.zipIdx) n=_;rw[wa n,ak ∅]
 by_cases c3:na - k<=m;rw[ao c3];show aw (wp_mLo O L T B.kd λr g hr=>fin r g hr);rw[ak c3];show aw (wp_mHi O L T B.kd λr g hr=>fin r g hr)
def Runs (less:gO ->gO ->Bool)(xs:gP gO):cH Rn ->Nat ->Nat ->Prop
 | [],lo,hi=>lo=hi
 | (a,n,_)::r,lo,hi=>a=lo /\ 1<=n /\ Sg less xs lo (lo+n) /\ Runs less xs r (lo+n) hi
theorem Runs.le {less:gO ->gO ->Bool}{xs:gP gO}: ∀ {l:cH Rn} {lo hi:Nat},Runs less xs l lo hi ->lo+l.length<=hi
 | [],lo,hi,h=>Nat.le_of_eq h
 | (a,n,p)::r,lo,hi,h=>by have:=Runs.le h.2.2.2;have:=h.2.1;rw[aC];lia
theorem Runs.app {less:gO ->gO ->Bool}{xs:gP gO}: ∀ {l1 l2:cH Rn} {lo hi:Nat},Runs less xs (l1++l2) lo hi↔ ∃m,Runs less xs l1 lo m /\ Runs less xs l2 m hi
 | [],l2,lo,hi=>#[λh=>#[lo,rfl,h],λ⟨m,e,h⟩=>by cases e;show h]
 | (a,n,p)::r,l2,lo,hi=>by symm;rintro⟨h1,h2,h3,h4⟩;let⟨m,a1,a2⟩:=Runs.app.mp h4;show#[m,#[h1,h2,h3,a1],a2];rintro⟨m,⟨h1,h2,h3,a1⟩,a2⟩;show#[h1,h2,h3,Runs.app.mpr #[m,a1,a2]]
theorem Runs.out {less:gO ->gO ->Bool}{xs ys:gP gO}{e1 e2:Nat}(o:t0 e1 e2 xs ys): ∀ {l:cH Rn} {lo hi:Nat},(hi<=e1 \/ e2<=lo) ->Runs less xs l lo hi ->Runs less ys l lo hi
 | [],lo,hi,_,h=>h
 | (a,n,p)::r,lo,hi,hc,⟨h1,h2,h3,h4⟩=>by have:=Runs.le h4;exact#[h1,h2,λi j hi kW hj=> ?_,Runs.out o ∅ h4];rw[o i ∅,o j ∅];show h3 i j hi kW hj
theorem ID {e1 e2 lo hi:Nat}(o:t0 e1 e2 xs ys)(hc:hi<=e1 \/ e2<=lo)(h:Sg less xs lo hi):Sg less ys lo hi:=λi j hi kW hj=>by rw[o i ∅,o j ∅];show h i j hi kW hj
def Ia {l:cH α}(h:2<=l.length):eZ λl1 x y=>l=l1++ [x,y]:=by exact#[l.take (l.length - 2),l[l.length - 2],l[l.length - 1],?_];have:=bL (l.length - 2) l;rw[List.drop_eq_getElem_cons ∅,List.drop_eq_getElem_cons ∅,List.drop_eq_nil_of_le ∅] at this;have e:l.length - 2+1=l.length - 1:= ∅;simp![e] at this;show this.symm
theorem ix {α:Type}{l:cH α}(h:l≠ []): ∃l1 x,l=l1++ [x]:=#[l.dropLast,l.getLast h,(List.dropLast_concat_getLast h).symm]
def AQ (l1:cH Rn)(x:Rn)(f:Rn ->Rn):(l1++ [x]).modify l1.length f=l1++ [f x]:=by
 induction l1 with
 | nil=>rfl
 | cons a l ih=>rw[List.cons_append,aC,List.modify_succ_cons,ih];rfl
def wp_mR (O:Ord less)(L:i5 prog w A E s kd a₀ less){st:WY}{x y:Rn}{i lo:Nat}(B:SB kd a₀ st)(hp:pendingOf st=(l1++x::y::l2).toArray)(hi:i=l1.length)(hz:lo<=a₀.size)(R:Runs less (arrOf st) (l1++x::y::l2) 0 lo)(h: ∀bM z,SB kd a₀ bM ->pendingOf bM=(l1++z::l2).toArray ->Runs less (arrOf bM) (l1++z::l2) 0 lo ->t0 0 lo (arrOf st) (arrOf bM) ->Q true bM):wpS (model prog w) A E s (mergeAt' i) Q st:=by let⟨sa,na,pw⟩:=x;let⟨sb,nb,pw2⟩:=y;let⟨m,r1,rfl,h1,s1,rfl,h2,s2,r2⟩:=Runs.app.mp R;have hle:=r2.le;exact wp_mAt O L B hp hi rfl h1 h2 ∅ s1 s2 λbM B' vG s' o'=>h bM _ B' vG ?_ λk hk=>o' k ∅;exact Runs.app.mpr #[_,r1.out o' (.inl (aq _)),rfl, ∅,?_,?_];rw[<- Nat.add_assoc];show s';rw[<- Nat.add_assoc];show r2.out o' (.inr (aq _))
def Ax {a n p q lo hi:Nat}(h:Runs less xs (l1++ [(a,n,p)]) lo hi):Runs less xs (l1++ [(a,n,q)]) lo hi:=by let⟨m,r1,h1,h2,h3,h4⟩:=Runs.app.mp h;show Runs.app.mpr #[m,r1,h1,h2,h3,h4]
def wp_sort (O:Ord less)(L:i5 prog w A E s kd a₀ less){st:WY}(B:SB kd a₀ st)(hp0:pendingOf st= #[])(h2:2<=a₀.size)(h: ∀bM,(arrOf bM).Perm a₀ ->failedOf bM=none ->Sg less (arrOf bM) 0 a₀.size ->Q () bM):wpS (model prog w) A E s sortRuns' Q st:=by
 rw[sortRuns'_eq];exact aw (wpS_get ?_);dsimp only;simp![B.size];generalize minRun' a₀.size a₀.size 0=mr;exact aw (wpS_mono (cD (I:=λx c bM=>cx λlo pl=>lz (c=(none,lo)) (x<=lo) (lo<=a₀.size) (SB kd a₀ bM) (pendingOf bM=pl.toArray) (Runs less (arrOf bM) pl 0 lo)) (Q:=λc bM=> ∃pl,fA (c=(none,a₀.size)) (SB kd a₀ bM) (pendingOf bM=pl.toArray) (Runs less (arrOf bM) pl 0 a₀.size)) ?step ?fin #[0,[],rfl,aq _,dm _,B,hp0,rfl]) ?post);case fin=>
  rintro c bM ⟨lo,pl,rfl,h1,Qq,B',hp,R⟩
  have:lo=a₀.size:= ∅
  subst this
  show#[pl,rfl,B',hp,R]
 case step =>
  rintro x c bM _ hx ⟨lo,pl,rfl,h1,Qq,B',hp,R⟩
  dsimp only
  by_cases c1:lo≥a₀.size
  rw[ao c1]
  have:lo=a₀.size:= ∅
  subst this
  show aJ #[pl,rfl,B',hp,R]
  rw[ak c1]
  exact aw (wp_run O L ∅ ∅ B' λm oK B2 m1 m2 s2 p2 o2=> ?_)
  dsimp only
  have R2:Runs less (arrOf oK) pl 0 lo:=R.out o2 (.inl (aq _))
  by_cases c2:m<mr
  rw [ao c2]
  exact aw (wpS_lift (wpAny_rule #[rfl,?_]))
  exact aw (wp_bin O L ∅ ∅ B2 s2 λwx B3 s3 p3 o3=> ?_)
  simp![aI,aD,bH]
  have R3:=R2.out o3 (.inl (aq _))
  have n1:1<=min (a₀.size - lo) mr:= ∅
  have n2:lo+min (a₀.size - lo) mr<=a₀.size:= ∅
  rw[p2,hp] at p3
  clear o3
  revert s3 n1 n2
  generalize min (a₀.size - lo) mr=n
  intro s3 n1 n2
  exact aw (wpS_get ?_)
  cases hb:(pendingOf wx).back? with
  | none=>dsimp only;exact aw (wpS_modify (aJ #[lo+n,pl++ [(lo,n,0)],rfl, ∅,n2,#[B3.perm,B3.kd,B3.fl],?_,Runs.app.mpr #[lo,R3,rfl,n1,s3,rfl]]));change(pendingOf wx).push (lo,n,0)=_;rw[p3];simp
  | some q=>
   let⟨s1,Sf,p1⟩:=q;dsimp only;have l5:pl≠ []:=λe=>by subst e;rw[p3] at hb;simp at hb
   exact aw (wpS_mono (cD (I:=λ_ c f9=>c=(none,()) /\ ∃pl,gy (pl≠ []) (SB kd a₀ f9) (Sg less (arrOf f9) lo (lo+n)) (pendingOf f9=pl.toArray) (Runs less (arrOf f9) pl 0 lo)) (Q:=λc f9=>c=(none,()) /\ ∃pl,gy (pl≠ []) (SB kd a₀ f9) (Sg less (arrOf f9) lo (lo+n)) (pendingOf f9=pl.toArray) (Runs less (arrOf f9) pl 0 lo)) ?_ (λc f9 h=>h) #[rfl,pl,l5,B3,s3,p3,R3]) ?_);rintro y c f9 _ hy ⟨rfl,yU,ne4,B4,s4,p4,R4⟩;exact aw (wpS_get ?_);by_cases c2:(pendingOf f9).size >1;rw[ao c2];have hl:2<=yU.length:=by rw[p4] at c2;simp at c2;lia
   let⟨l1,u,v,e4⟩:=Ia hl;have e5:(pendingOf f9).size - 2=l1.length:=by rw[p4,e4];simp
   have e6:(pendingOf f9)[(pendingOf f9).size - 2]? =some u:=by rw[e5,p4,e4];simp
   rw[e6];let⟨u1,u2,u3⟩:=u;dsimp only;split;show aJ #[rfl,yU,ne4,B4,s4,p4,R4];subst e4;exact aw (wp_mR O L (l2:= []) B4 p4 e5 ∅ R4 λUe z B5 p5 R5 o5=> ?_);simp![aI,aD,bH];show aJ #[rfl,_,by simp,B5,ID o5 (.inr (aq _)) s4,p5,R5];rw[ak c2];show aJ #[rfl,yU,ne4,B4,s4,p4,R4];rintro c f9 ⟨rfl,yU,ne4,B4,s4,p4,R4⟩;dsimp only;exact aw (wpS_modify (aw (wpS_modify (aJ ?_))));let⟨l1,⟨u1,u2,u3⟩,rfl⟩:=ix ne4;exact#[lo+n,(l1++ [(u1,u2,power' a₀.size (2*s1+Sf) (2*s1+Sf+Sf+n) a₀.size)])++ [(lo,n,0)],rfl, ∅,n2,#[B4.perm,B4.kd,B4.fl],?_,Runs.app.mpr #[lo,Ax R4,rfl,n1,s4,rfl]];change((pendingOf f9).modify ((pendingOf f9).size - 1) _).push (lo,n,0)=_;rw[p4];simp![List.modify_toArray,List.push_toArray,aO];congr 2;rw[aE,List.length_singleton,Nat.add_sub_cancel];show AQ l1 _ _
  rw [ak c2]
  have s3:=s2
  have n1:=m1
  have n2:lo+m<=a₀.size:= ∅
  have p3:pendingOf oK=pl.toArray:=by rw[p2,hp]
  have B3:=B2
  have R3:=R2
  clear p2 o2 B2 R2 s2 m1 m2 c2
  revert s3 n1 n2
  generalize m=n
  intro s3 n1 n2
  revert p3 B3 R3 s3
  generalize oK=wx
  intro p3 B3 R3 s3
  exact aw (wpS_get ?_)
  cases hb:(pendingOf wx).back? with
  | none=>dsimp only;exact aw (wpS_modify (aJ #[lo+n,pl++ [(lo,n,0)],rfl, ∅,n2,#[B3.perm,B3.kd,B3.fl],?_,Runs.app.mpr #[lo,R3,rfl,n1,s3,rfl]]));change(pendingOf wx).push (lo,n,0)=_;rw[p3];simp
  | some q=>
   let⟨s1,Sf,p1⟩:=q;dsimp only;have l5:pl≠ []:=λe=>by subst e;rw[p3] at hb;simp at hb
   exact aw (wpS_mono (cD (I:=λ_ c f9=>c=(none,()) /\ ∃pl,gy (pl≠ []) (SB kd a₀ f9) (Sg less (arrOf f9) lo (lo+n)) (pendingOf f9=pl.toArray) (Runs less (arrOf f9) pl 0 lo)) (Q:=λc f9=>c=(none,()) /\ ∃pl,gy (pl≠ []) (SB kd a₀ f9) (Sg less (arrOf f9) lo (lo+n)) (pendingOf f9=pl.toArray) (Runs less (arrOf f9) pl 0 lo)) ?_ (λc f9 h=>h) #[rfl,pl,l5,B3,s3,p3,R3]) ?_);rintro y c f9 _ hy ⟨rfl,yU,ne4,B4,s4,p4,R4⟩;exact aw (wpS_get ?_);by_cases c2:(pendingOf f9).size >1;rw[ao c2];have hl:2<=yU.length:=by rw[p4] at c2;simp at c2;lia
   let⟨l1,u,v,e4⟩:=Ia hl;have e5:(pendingOf f9).size - 2=l1.length:=by rw[p4,e4];simp
   have e6:(pendingOf f9)[(pendingOf f9).size - 2]? =some u:=by rw[e5,p4,e4];simp
   rw[e6];let⟨u1,u2,u3⟩:=u;dsimp only;split;show aJ #[rfl,yU,ne4,B4,s4,p4,R4];subst e4;exact aw (wp_mR O L (l2:= []) B4 p4 e5 ∅ R4 λUe z B5 p5 R5 o5=> ?_);simp![aI,aD,bH];show aJ #[rfl,_,by simp,B5,ID o5 (.inr (aq _)) s4,p5,R5];rw[ak c2];show aJ #[rfl,yU,ne4,B4,s4,p4,R4];rintro c f9 ⟨rfl,yU,ne4,B4,s4,p4,R4⟩;dsimp only;exact aw (wpS_modify (aw (wpS_modify (aJ ?_))));let⟨l1,⟨u1,u2,u3⟩,rfl⟩:=ix ne4;exact#[lo+n,(l1++ [(u1,u2,power' a₀.size (2*s1+Sf) (2*s1+Sf+Sf+n) a₀.size)])++ [(lo,n,0)],rfl, ∅,n2,#[B4.perm,B4.kd,B4.fl],?_,Runs.app.mpr #[lo,Ax R4,rfl,n1,s4,rfl]];change((pendingOf f9).modify ((pendingOf f9).size - 1) _).push (lo,n,0)=_;rw[p4];simp![List.modify_toArray,List.push_toArray,aO];congr 2;rw[aE,List.length_singleton,Nat.add_sub_cancel];show AQ l1 _ _
 case post =>
  rintro c bM ⟨pl,rfl,B',hp,R⟩
  dsimp only
  have hle:=R.le
  exact aw (wpS_mono (cD (I:=λx c f9=>c=(none,()) /\ ∃pl,fA (SB kd a₀ f9) (pendingOf f9=pl.toArray) (Runs less (arrOf f9) pl 0 a₀.size) (pl.length<=1 \/ pl.length+x<=a₀.size)) (Q:=λc f9=>c=(none,()) /\ ∃pl,c8 (SB kd a₀ f9) (Runs less (arrOf f9) pl 0 a₀.size) (pl.length<=1)) ?_ ?_ #[rfl,pl,B',hp,R, .inr ∅]) ?_)
  rintro x c f9 _ hx ⟨rfl,yU,B4,p4,R4,hl⟩
  exact aw (wpS_get ?_)
  have esz:(pendingOf f9).size=yU.length:=by rw[p4];simp
  by_cases c1:(pendingOf f9).size<=1
  rw[ao c1]
  show aJ #[rfl,yU,B4,R4, ∅]
  rw [ak c1]
  generalize aiM:Option.any _ _=cnd
  have mk: ∀k,k+2<=yU.length -> ∀ (Q':ForInStep (fj Unit×Unit) ->WY ->Prop),(∀bM pl,SB kd a₀ bM ->pendingOf bM=pl.toArray ->Runs less (arrOf bM) pl 0 a₀.size ->(pl.length<=1 \/ pl.length+(x+1) <=a₀.size) ->Q' (.yield (none,())) bM) ->wpS (model prog w) A E s (do
    let b <- mergeAt' k
    if(!b)=true then pure (ForInStep.done ((some (),()):fj Unit×Unit)) else pure (ForInStep.yield (none,()))) Q' f9:=by
   intro k hk Q' hQ
   have e:=bL k yU
   rw[List.drop_eq_getElem_cons ∅,List.drop_eq_getElem_cons ∅] at e
   have Cb:(yU.take k).length=k:=by rw[bT];lia
   rw[<- e] at p4 R4
   exact aw (wp_mR O L B4 p4 Cb.symm (aq _) R4 λUe z B5 p5 R5 o5=> ?_)
   simp![aI,aD,bH]
   exact aJ (hQ _ _ B5 p5 R5 (.inr ?_))
   rw[aE,Cb,aC,List.length_drop]
   lia
  cases cnd with
  | true=>simp![ce];show mk ((pendingOf f9).size - 2 - 1) ∅ _ λbM pl b1 b2 b3 b4=>#[rfl,pl,b1,b2,b3,b4]
  | false=>simp![aD,bH];show mk ((pendingOf f9).size - 2) ∅ _ λbM pl b1 b2 b3 b4=>#[rfl,pl,b1,b2,b3,b4]
  rintro c f9 ⟨rfl,yU,B4,p4,R4,hl⟩
  show#[rfl,yU,B4,R4, ∅]
  rintro c f9 ⟨rfl,yU,B4,R4,hl⟩
  exact aJ (h _ B4.perm B4.fl ?_)
  match yU,R4,hl with
  | [],R4,_=>show absurd R4 (by change ¬(0=a₀.size);lia)
  | [(u1,u2,u3)],⟨_,_,h3,h4⟩,_=>have h4:0+u2=a₀.size:=h4;rw[h4] at h3;show h3
  | _::_::_,_,hl=>simp at hl
def GA (h:Heap)(a:fY)(vs:cH df):Heap:=((h.update a (Obj.mapSeq λ_=> #[])).push (seqObj "tuple" vs.toArray 0)).push (seqObj "list" #[] 0)
def NA (ho:h.get? a=some (seqObj "list" vs.toArray n)):(GA h a vs).get? a=some (seqObj "list" #[] (if((#[]:gP df)).size==vs.toArray.size then n else n+1)):=by have ha:=aT ho;unfold GA;rw[Heap.get?_push_ne _ _ _ (by rw[size_push',Heap.size_update];show bF (Nat.lt_succ_of_lt ha)),Heap.get?_push_ne _ _ _ (by rw[Heap.size_update];show bF ha)];show get?_update_seq ho (λ_=> #[])
def Al (O:Ord less)(ho:s.heap.get? a=some (seqObj "list" vs.toArray n))(hsz:vs.length<=sizeLine)(hk:2<=vs.length -> ∀ (Q:SortKind ->dG ->Prop),Q kd {s with heap:=GA s.heap a vs} ->wpAny (model prog w) A (keyKind' vs.toArray) Q E {s with heap:=GA s.heap a vs})(L:i5 prog w A E {s with heap:=GA s.heap a vs} kd (pairsOf vs) less)(h: ∀ (us:cH df),us.Perm vs ->us.Pairwise (λx y=>less (y,y) (x,x)=false) ->P (.done (.ret .none)) {s with heap:=sortedHeap s.heap a vs us.toArray}): wpAny (model prog w) A (Builtin.«list.sort» #[[.ref a],[]]) P E s:=by
 rw[list_sort_plain];exact aA (listItems_at ho rfl ?_);exact aA (listUpdate_at ho rfl ?_ (hsz:= ⇑hsz));exact aA (seqEpoch_at (get?_update_seq ho (λ_=> #[])) rfl ?_);exact aA (wpAny_newTuple ?_);exact aA (wpAny_newList ?_);exact wpAny_holding ?_;have ZA:=NA ho;change wpAny (model prog w) A _ P E {s with heap:=GA s.heap a vs};dsimp only;have fin: ∀xs:gP gO,xs.Perm (pairsOf vs) ->Sg less xs 0 (pairsOf vs).size ->P (.done (.ret .none)) {s with heap:=sortedHeap s.heap a vs (xs.map (·.2))}:=by
  intro xs hp hs;have hl:xs.toList.Perm (vs.zip vs):=by rw[<- pairsOf_toList];show Array.perm_iff_toList_perm.mp hp
  have Xf: ∀p,p∈xs.toList ->p.1=p.2 /\ p.1∈vs:=λp vG=>mem_zip_self (hl.mem_iff.mp vG);have:=h (xs.toList.map (·.2)) ?_ ?_;have e:(xs.toList.map (·.2)).toArray=xs.map (·.2):=by apply Array.toList_inj.mp;simp
  rwa [e] at this;have h1:=hl.map (λp:gO=>p.2);rwa [List.map_snd_zip (aq _)] at h1;rw[List.pairwise_iff_getElem];intro i j hi hj kW;have su:i<xs.size:= ⇑hi;have Tb:j<xs.size:= ⇑hj;have h1:=hs i j (dm _) (Nat.le_of_lt kW) (by rw[<- hp.size_eq];show Tb);have e1:cI xs i=((xs.toList.map (·.2))[i],(xs.toList.map (·.2))[i]):=by rw[List.getElem_map];have hm:=zI su;have e:=gX su;rw[aQ ⇑su] at e;have e:=bA e;rw[e];show Prod.ext (Xf _ hm).1 rfl
  have e2:cI xs j=((xs.toList.map (·.2))[j],(xs.toList.map (·.2))[j]):=by rw[List.getElem_map];have hm:=zI Tb;have e:=gX Tb;rw[aQ ⇑Tb] at e;have e:=bA e;rw[e];show Prod.ext (Xf _ hm).1 rfl
  rw[e1,e2] at h1;show h1
 have ai3:vs.toArray.size=vs.length:=by simp
 by_cases h2:vs.toArray.size<2;rw[ao h2,ao h2];exact aA (bf ?_);rw[StateT.run_pure];exact aA (bf ?_);dsimp only;exact aA (seqEpoch_at ZA rfl ?_);exact aA (listUpdate_at ZA rfl ?_ (hsz2:=by rw[Array.size_map];change(pairsOf vs).size<=_;rw[pairsOf_size];lia));simp![bne_self_eq_false,aD,bH];exact bf (fin (pairsOf vs) (Array.Perm.refl _) ?_);intro i j _ kW hj;have:i=j:=by rw[pairsOf_size] at hj;lia
 subst this;show O.refl _;rw[ak h2,ak h2];exact aA (hk ∅ _ ?_);exact aA (bJ (wp_sort O L (st:=SortSt.mk' kd (vs.toArray.zip vs.toArray) #[] 7 none) (Q:=λ_ bM=>(arrOf bM).Perm (pairsOf vs) /\ failedOf bM=none /\ Sg less (arrOf bM) 0 (pairsOf vs).size) #[Array.Perm.refl _,rfl,rfl] rfl (by rw[pairsOf_size];lia) λbM a1 a2 a3=>#[a1,a2,a3]) ?_ λ_ _ e=>e);rintro⟨⟨⟩,bM⟩ s' ⟨rfl,hp,hf,hs⟩;dsimp only;exact aA (seqEpoch_at ZA rfl ?_);exact aA (listUpdate_at ZA rfl ?_ (hsz2:=by exact ar (Nat.le_of_eq ((Array.size_map ..).trans (hp.size_eq.trans (pairsOf_size _)))) ?_;lia));rw[hf];simp![bne_self_eq_false,aD,bH];show bf (fin _ hp hs)
def vk (x y:gO):Bool:=decide (numOf x.1<numOf y.1)
def aar:Ord vk:=by exact#[λx y h=> ?_,λx y z h1 h2=> ?_];unfold vk at*;rw[dB] at h;show aG ∅;unfold LE vk at*;rw[decide_eq_false_iff_not] at*;lia
def ltI {a₀:gP gO}(h0:IntKeys a₀):i5 prog w A E s oneType' a₀ vk:=by
 intro x y st Q hx hy hk hq;let⟨n,t,e1⟩:=h0 x hx;let⟨m,u,e2⟩:=h0 y hy;rw[lt'_eq];exact aw (wpS_get ?_);rw[hk,keyLt'_oneType,e1,e2];exact aw (wpS_lift (wpAny_attempt (oneLt_int #[rfl,?_])));have e:vk x y=decide (n<m):=by unfold vk;rw[e1,e2];rfl
 rw[e] at hq;show aJ hq
def Ga (ho:s.heap.get? a=some (seqObj "list" vs.toArray n))(hI:IntsAre vs ns)(hsz:vs.length<=sizeLine)(h: ∀ (out:gP df) (Ca:cH Int),IntsAre out.toList Ca ->Ca.Perm ns ->Ca.Pairwise (· <= ·) ->P (.done (.ret .none)) {s with heap:=sortedHeap s.heap a vs out}): wpAny (model prog w) A (Builtin.«list.sort» #[[.ref a],[]]) P E s:=by
 exact Al aar ho hsz (kd:=oneType') (λh2 Q hq=> ?_) (ltI hI.intKeys) λus hp hs=> ?_;let⟨v₁,v₂,cX,rfl⟩:eZ λv₁ v₂ cX=>vs=v₁::v₂::cX:=by
  match vs,h2 with
  | [],h2=>simp at h2
  | [_],h2=>simp at h2
  | v₁::v₂::cX,_=>show#[v₁,v₂,cX,rfl]
 rw[keyKind_ints hI];show bf hq;have wR: ∀v,v∈us -> ∃n t,v= .int n t:=λv hv=>hI.all v (hp.mem_iff.mp hv);exact h us.toArray (us.map numOf) ⇑(intsAre_map us wR) ?_ ?_;have:=hp.map numOf;rwa [hI.nums] at this;rw[List.pairwise_map];exact hs.imp λ{x y} e=> ?_;unfold vk at e;rw[decide_eq_false_iff_not] at e;simp only at e;lia
end TS
namespace L2
open PySem PySem.Spec PyProof.Rows
abbrev cf:=Sum Int Str
def pF:cf ->df ->Bool
 | .inl k,v=>Value.isInt k v
 | .inr x,v=>Value.isStrOf x v
def aaB (w:World):cf ->Int
 | .inl k=>hashInt k
 | .inr x=>hashStr w x
theorem dk: ∀ {k:cf} {v:df},pF k v=true ->(cx λi t=>k=Sum.inl i /\ v=Value.int i t) \/ (cx λx t=>k=Sum.inr x /\ v=Value.str x t)
 | .inl i,v,h=>by let⟨t,e⟩:=Value.isInt_shape (k:=i) (v:=v) h;show .inl #[i,t,rfl,e]
 | .inr x,v,h=>by let⟨t,e⟩:=Value.isStrOf_shape (x:=x) (v:=v) h;show .inr #[x,t,rfl,e]
def GI (i:Int)(t:Tok):pF (.inl i) (.int i t)=true:=by simp[pF,Value.isInt]
def GH (x:Str)(t:Tok):pF (.inr x) (.str x t)=true:=by simp[pF,Value.isStrOf]
def Ss (a b:Int):decide ((Sum.inl a:cf)=Sum.inl b)=(a==b):=by by_cases e:a=b;subst e;simp;have h:¬(Sum.inl a:cf)=Sum.inl b:=λq=>e (Sum.inl.inj q);rw[aG h];show(beq_eq_false_iff_ne.mpr e).symm
def So (a b:Str):decide ((Sum.inr a:cf)=Sum.inr b)=decide (a=b):=by by_cases e:a=b;subst e;simp;have h:¬(Sum.inr a:cf)=Sum.inr b:=λq=>e (Sum.inr.inj q);rw[aG h,aG e]
theorem Sr (a:Int)(b:Str):decide ((Sum.inl a:cf)=Sum.inr b)=false:=aG (λq=>nomatch q)
theorem Sq (a:Str)(b:Int):decide ((Sum.inr a:cf)=Sum.inl b)=false:=aG (λq=>nomatch q)
def cO (prog:Program)(w:World):PySem.KeyKind prog w cf where
 is:=pF
 hash:=aaB w
 inj :=λv a b ha hb=>by
  rcases dk ha with⟨i,t,rfl,rfl⟩ | ⟨x,t,rfl,rfl⟩
  rcases dk hb with⟨j,u,rfl,e⟩ | ⟨y,u,rfl,e⟩
  injection e with e1 _;rw[e1];show nomatch e
  rcases dk hb with⟨j,u,rfl,e⟩ | ⟨y,u,rfl,e⟩
  show nomatch e
  injection e with e1 _;rw[e1]
 byValue:=λk v h=>by rcases dk h with⟨i,t,rfl,rfl⟩ | ⟨x,t,rfl,rfl⟩ <;>rfl
 pyHash:=λhv h=>by
  rcases dk hv with⟨i,t,rfl,rfl⟩ | ⟨x,t,rfl,rfl⟩
  show wpAny_pyHash_int h;show wpAny_pyHash_str h
 eqBool:=λhu hv h=>by
  rcases dk hu with⟨i,t,rfl,rfl⟩ | ⟨x,t,rfl,rfl⟩
  rcases dk hv with⟨j,u,rfl,rfl⟩ | ⟨y,u,rfl,rfl⟩
  rw[Ss] at h;show wpAny_eqBool_int h;rw[Sr] at h;show SeqAt.EqAt.int_str i t y u _ _ _ _ h;rcases dk hv with⟨j,u,rfl,rfl⟩ | ⟨y,u,rfl,rfl⟩
  rw[Sq] at h;show SeqAt.EqAt.str_int x t j u _ _ _ _ h;rw[So] at h;show wpAny_eqBool_str h
 «strs» :=λk x t v h=>by
  rcases dk h with⟨i,u,rfl,e⟩ | ⟨y,u,rfl,e⟩
  show nomatch e
  injection e with e1 _;subst e1;cases v<;>rfl
theorem AS (prog:Program)(w:World)(i:Int)(t:Tok):(cO prog w).is (.inl i) (.int i t)=true:=GI i t
theorem AR (prog:Program)(w:World)(x:Str)(t:Tok):(cO prog w).is (.inr x) (.str x t)=true:=GH x t
set_option genInjectivity true in
inductive V where
  | ez | bl (b:Bool) | int (i:Int) | str (x:Str) | Dm (b:Array UInt8) | Oa (b:UInt64) | ref (a:Addr) | ty (n:String)
 deriving DecidableEq
def RelV:V ->df ->Prop
 | .ez,u=>u=Value.none
 | .bl b,u=>u=Value.bool b
 | .int i,u=> ∃t,u=Value.int i t
 | .str x,u=> ∃t,u=Value.str x t
 | .Dm b,u=> ∃t,u=Value.bytes b t
 | .Oa b,u=> ∃t,u=Value.float b t
 | .ref a,u=>u=Value.ref a
 | .ty n,u=>u=Value.type n
abbrev cj:cH V ->cH df ->Prop:=Paired RelV
theorem cj.length (r:cj xs us):xs.length=us.length:=Paired.length r
theorem cj.get: ∀ {xs:cH V} {us:cH df} {i:Nat} {x:V},cj xs us ->xs[i]? =some x -> ∃u,us[i]? =some u /\ RelV x u
 | _,_,_,_, .nil,e=>by simp at e
 | _,_,0,_, .cons r _,e=>by simp at e;subst e;show#[_,rfl,r]
 | _,_,i+1,x, .cons _ t,e=>by let⟨u,h1,h2⟩:=cj.get (i:=i) (x:=x) t ⇑e;show#[u, ⇑h1,h2]
theorem cj.set {x:V}{u:df}(r:RelV x u): ∀ {xs:cH V} {us:cH df} (i:Nat),cj xs us ->cj (xs.set i x) (us.set i u)
 | _,_,_, .nil=> .nil
 | _,_,0, .cons _ t=> .cons r t
 | _,_,i+1, .cons q t=> .cons q (cj.set r i t)
theorem cj.append: ∀ {xs ys:cH V} {us ws:cH df},cj xs us ->cj ys ws ->cj (xs++ys) (us++ws)
 | _,_,_,_, .nil,s=>s
 | _,_,_,_, .cons r t,s=> .cons r (cj.append t s)
theorem cj.take: ∀ {xs:cH V} {us:cH df} (n:Nat),cj xs us ->cj (xs.take n) (us.take n)
 | _,_,0,_=> .nil
 | _,_,_+1, .nil=> .nil
 | _,_,n+1, .cons r t=> .cons r (cj.take n t)
theorem cj.drop: ∀ {xs:cH V} {us:cH df} (n:Nat),cj xs us ->cj (xs.drop n) (us.drop n)
 | _,_,0,r=>r
 | _,_,_+1, .nil=> .nil
 | _,_,n+1, .cons _ t=>cj.drop n t
def kz:fj V ->fj df ->Prop
 | some v,some u=>RelV v u
 | none,none=>True
 | _,_=>False
def KV {κ:Type}:cH (κ×V) ->cH (κ×df) ->Prop:=Paired λ(p:κ×V) (q:κ×df)=>p.1=q.1 /\ RelV p.2 q.2
def kV:cf ->V
 | .inl i=> .int i
 | .inr x=> .str x
set_option genInjectivity true in
inductive HO where
 /-- a list -/
 | lst (xs:List V)
 /-- a tuple (never changes) -/
 | tup (xs:List V)
 /-- a dict UP keys are ints and texts;one UP keys are tuples of ints and texts (Ud empty one is both) -/
 | dK (kvs:List (cf×V)) | dT (kvs:List (List cf×V))
 /-- a set of ints:bN members,bN size -/
 | set (S:Int ->Bool) (n:Nat)
 /-- an instance of Ud class at C,bN dict at dx,bN attributes -/
 | ins (C dx:Addr) (fs:List (Str×V))
 /-- Ud dict of Ud instance at x -/
 | own (x:Addr)
 /-- Ud dict of an exception -/
 | xd (fs:List (Str×V))
 /-- a bound method,f of x -/
 | met (f x:Addr)
 /-- a range object lo,lo+1, .. below hi -/
 | Y6 (lo hi:Int)
 /-- a thing aiV is known to Ud object (Ud aae;a dict while a loop walks it):read,never written while it is so -/
 | lw (o:Obj) (u:HO)
 /-- a code Wn table -/
 | Mz (ps:Array Value)
 /-- any other thing,by aiR is true of bN one object (a def of ah7 own:ai7 a S n:=HO.ext λh=> ..) -/
 | ext (φ:Heap ->Prop)
abbrev Hp:=fY ->fj HO
def cR (H:Hp)(a:fY)(o:HO):Hp:=λb=>if b=a then some o else H b
def bY:cR H a o a=some o:=by unfold cR;rw[ao rfl]
def bR (h:b≠a):cR H a o b=H b:=by unfold cR;rw[ak h]
def Wq {H:Hp}(h:H a=some o)(h':H b=some u)(d:o≠u):a≠b:=by intro e;subst e;rw[h] at h';show d (bA h')
def fC {H:Hp}(h:H a=some o)(h':H b=none):a≠b:=by intro e;subst e;rw[h] at h';cases h'
def zO (h:Heap)(a:fY)(bN:gP df):Prop:= ∃o,h.get? a=some o /\ o.cls= .type "tuple" /\ ∃n,o.data= .seq bN n /\ o.dict=none
theorem zO.t (x:zO h a bN):IsTup h a bN:=let ⟨o,e,c,n,d,_⟩:=x;#[o,e,c,n,d]
theorem zO.lt (x:zO h a bN):a<h.objs.size:=let ⟨_,e,_⟩:=x;aT e
theorem zO.new (h:Heap)(bN:gP df):zO (h.push {cls:= .type "tuple",data:= .seq bN}) h.objs.size bN:=#[_,a6 _ rfl,rfl,_,rfl,rfl]
section
variable (P:Program)(w:World)
def eC (H:Hp)(h:Heap)(a:fY):HO ->Prop
 | .lst xs=>xs.length<=sizeLine /\ cx λ(bN:cH df) (n:Nat)=>cj xs bN /\ h.get? a=some {cls:= .type "list",data:= .seq bN.toArray n}
 | .tup xs=>xs.length<=sizeLine /\ ∃bN:cH df,cj xs bN /\ zO h a bN.toArray
 | .dK kvs=>kvs.length<=sizeLine /\ (a==sysModules)=false /\ ∃vs,KV kvs vs /\ h.DictOf (cO P w) a vs
 | .dT kvs=>kvs.length<=sizeLine /\ (a==sysModules)=false /\ ∃xs:cH (cH cf×fY×df),Paired (λ(p:cH cf×V) (q:cH cf×fY×df)=>p.1=q.1 /\ H q.2.1=some (.tup (p.1.map kV)) /\ RelV p.2 q.2.2) kvs xs /\∃o es ep,h.get? a=some o /\ o.ExactDict /\ o.data= .dict es ep /\ es.toList=xs.map (entryOfKey (tupleKind (cO P w))) /\ (xs.map (·.1)).Nodup
 | .set S n=>h.SetOf (intKind P w) a S n
 | .ins C dx fs=>H dx=some (.own a) /\ fs.length<=1000 /\ dx≠a /\ h.get? a=some (W.instObj C dx) /\∃mA,h.Ns1 dx mA /\ (∀f,kz (fs.lookup f) (mA f)) /\ PySem.Within mA (fs.map (·.1))
 | .own _=> ∃o,h.get? a=some o
 | .xd fs=> ∃mA,h.Ns1 a mA /\ ∀f,kz (fs.lookup f) (mA f)
 | .Y6 lo hi=>eZ λt u v=>h.get? a=some {cls:= .type "range",data:= .fields (List.toArray [.int lo t, .int hi u, .int 1 v])}
 | .lw o u=>h.get? a=some o /\ eC H h a u
 | .Mz ps=>h.get? a=some {cls:= .none,data:= .fields ps}
 | .met f x=>h.get? a=some (W.methodObj (.ref f) (.ref x))
 | .ext φ=>φ h /\ (∃o,h.get? a=some o) /\ ∀h1 h2:Heap,φ h1 ->(∀o,h1.get? a=some o ->h2.get? a=some o) ->φ h2
def nj (H:Hp)(h:Heap):Prop:= ∀a o,H a=some o ->eC P w H h a o
end
def eC.lt (x:eC P w H h a o):a<h.objs.size:=by
 cases o with
 | lst xs=>let⟨_,_,_,_,e⟩:=x;show aT e
 | tup xs=>let⟨_,_,_,p⟩:=x;show p.lt
 | dK kvs=>let⟨_,_,_,_,o,_,_,e,_⟩:=x;show aT e
 | dT kvs=>let⟨_,_,_,_,o,_,_,e,_⟩:=x;show aT e
 | set S n=>let⟨o,_,_,_,e,_⟩:=x;show aT e
 | ins C dx fs=>let⟨_,_,_,e,_⟩:=x;show aT e
 | own y=>let⟨_,e⟩:=x;show aT e
 | xd fs=>let⟨_,⟨_,_,_,e,_⟩,_⟩:=x;show aT e
 | Y6 lo hi=>let⟨_,_,_,e⟩:=x;show aT e
 | lw ob u=>let⟨e,_⟩:=x;show aT e
 | Mz ps=>show aT (show h.get? a=some _ from x)
 | met f y=>show aT (show h.get? a=some _ from x)
 | ext φ=>let⟨_,⟨_,e⟩,_⟩:=x;show aT e
theorem Paired.Si {α β:Type}{F G:α ->β ->Prop}: ∀ {l₁:cH α} {l₂:cH β},Paired F l₁ l₂ ->(∀a b,F a b ->G a b) ->Paired G l₁ l₂
 | _,_, .nil,_=> .nil
 | _,_, .cons r t,f=> .cons (f _ _ r) (Paired.Si t f)
def eC.uO (x:eC P w H h a o)(k: ∀b u,(b=a \/ H b=some (.own a)) ->h.get? b=some u ->h'.get? b=some u)(ho: ∀b,H b=some (.own a) ->H' b=some (.own a))(ht: ∀b xs,H b=some (.tup xs) ->H' b=some (.tup xs)):eC P w H' h' a o:=by
 induction o with
 | lst xs=>let⟨z,bN,n,r,e⟩:=x;show#[z,bN,n,r,k _ _ (.inl rfl) e]
 | tup xs=>let⟨z,bN,r,ob,e,c⟩:=x;show#[z,bN,r,ob,k _ _ (.inl rfl) e,c]
 | dK kvs=>let⟨z,y,vs,r,ob,es,ep,e,c⟩:=x;show#[z,y,vs,r,ob,es,ep,k _ _ (.inl rfl) e,c]
 | dT kvs=>let⟨z,y,xs,r,ob,es,ep,e,c⟩:=x;show#[z,y,xs,Paired.Si r λp q z=>#[z.1,ht _ _ z.2.1,z.2.2],ob,es,ep,k _ _ (.inl rfl) e,c]
 | set S n=>let⟨ob,es,ep,t,e,c⟩:=x;show#[ob,es,ep,t,k _ _ (.inl rfl) e,c]
 | ins C dx fs=>let⟨d,z,ne,e,mA,⟨od,es,ep,e2,c⟩,r⟩:=x;show#[ho _ d,z,ne,k _ _ (.inl rfl) e,mA,#[od,es,ep,k _ _ (.inr d) e2,c],r]
 | own y=>let⟨ob,e⟩:=x;show#[ob,k _ _ (.inl rfl) e]
 | xd fs=>let⟨mA,⟨od,es,ep,e,c⟩,r⟩:=x;show#[mA,#[od,es,ep,k _ _ (.inl rfl) e,c],r]
 | Y6 lo hi=>let⟨t,u,v,e⟩:=x;show#[t,u,v,k _ _ (.inl rfl) e]
 | lw ob u ih=>let⟨e,q⟩:=x;show#[k _ _ (.inl rfl) e,ih q]
 | Mz ps=>have e:h.get? a=some {cls:= .none,data:= .fields ps}:=x;change h'.get? a=some {cls:= .none,data:= .fields ps};show k a _ (.inl rfl) e
 | met f y=>have e:h.get? a=some (W.methodObj (.ref f) (.ref y)):=x;change h'.get? a=some (W.methodObj (.ref f) (.ref y));show k a _ (.inl rfl) e
 | ext φ=>let⟨p,⟨o,e⟩,st⟩:=x;show#[st _ _ p λo q=>k _ _ (.inl rfl) q,#[o,k _ _ (.inl rfl) e],st]
theorem nj.lt (x:nj P w H h)(e:H a=some o):a<h.objs.size:=(x a o e).lt
def nj.fresh {a:fY}(x:nj P w H h)(e:h.objs.size<=a):H a=none:=by
 cases q:H a with
 | none=>rfl
 | some u=>show absurd (bD (x.lt q) e) (Nat.lt_irrefl _)
theorem nj.kept (x:nj P w H h)(k: ∀b u,h.get? b=some u ->h'.get? b=some u):nj P w H h':=λa o e=>(x a o e).uO (λb u _ q=>k b u q) (λ_ q=>q) λ_ _ q=>q
theorem nj.laid {a:fY}(x:nj P w H h)(k: ∀b u,h.get? b=some u ->h'.get? b=some u)(hp:h.objs.size<=a)(new:eC P w (cR H a o) h' a o):nj P w (cR H a o) h':=λb u e=>by have hn:=x.fresh hp;by_cases hb:b=a;subst hb;rw[bY] at e;cases e;show new;rw[bR hb] at e;show(x b u e).uO (λc v _ q=>k c v q) (λc q=>by rw[bR (fC q hn)];show q) λc xs q=>by rw[bR (fC q hn)];show q
def Rd (H:Hp)(a:fY)(u:HO):Prop:=H a=some u \/ ∃o,H a=some (.lw o u)
def Rd.ok (r:Rd H a u)(x:nj P w H h):eC P w H h a u:=by obtain r | ⟨o,r⟩:=r;show x a u r;let⟨_,q⟩:=x a _ r;show q
def X9:fj HO ->Prop
 | some (.lst _)=>True
 | some (.dK _)=>True
 | some (.dT _)=>True
 | some (.set _ _)=>True
 | some (.ins _ _ _)=>True
 | some (.ext _)=>True
 | _=>False
theorem nj.write (ok:nj P w H h)(mu:X9 (H x))(he:e=x \/ H e=some (.own x))(k: ∀b u,b≠e ->h.get? b=some u ->h'.get? b=some u)(Uy: ∃u,h'.get? e=some u)(new:eC P w (cR H x o') h' x o'):nj P w (cR H x o') h':=λb u q=>by
 have Wo: ∀c y,H c=some (.own y) ->c≠x:=λc y r z=>by subst z;rw[r] at mu;show mu
 have aat: ∀c xs,H c=some (.tup xs) ->c≠x:=λc xs r z=>by subst z;rw[r] at mu;show mu
 by_cases hb:b=x;subst hb;rw[bY] at q;cases q;show new;rw [bR hb] at q;by_cases Tg:b=e;have q':H b=some (.own x):=by obtain z | z:=he;show absurd (Tg.trans z) hb;rw[Tg];show z
 rw[q] at q';cases q';let⟨v,hv⟩:=Uy;show#[v,by rw[Tg];show hv];exact(ok b u q).uO (λc v hc r=>k c v ?_ r) (λc r=>by rw[bR (Wo c b r)];show r) λc xs r=>by rw[bR (aat c xs r)];show r
 obtain rfl | hc:=hc;show Tg;rintro rfl;obtain z | z:=he;show Wo c b hc z;rw[hc] at z;cases z;show hb rfl
structure Un (fs ex:List Addr)(H H':Hp)(h h':Heap):Prop where
 keep: ∀b o,h.get? b=some o ->H b=none ->b∉fs ->b∉ex ->h'.get? b=some o
 slot: ∀b o,h.get? b=some o ->H b=none ->b∈fs ->b∉ex -> ∃sl,h'.get? b=some {o with slots:=sl}
 free: ∀b o,h.get? b=some o ->H b=none ->b∉ex ->H' b=none
 there: ∀b o,h.get? b=some o ->b∉ex -> ∃o',h'.get? b=some o'
 oG: ∀b xs,H b=some (.tup xs) ->H' b=some (.tup xs)
 nq: ∀b o u,H b=some (.lw o u) ->H' b=some (.lw o u)
 qB: ∀b ps,H b=some (.Mz ps) -> ∃more,H' b=some (.Mz (ps++more))
section
variable {fs fs' ex ex':cH fY}{H H1 H2:Hp}{h h1 h2 h':Heap}{a x e:fY}{o:HO}
def Un.any (u:Un fs ex H H1 h h1)(q:h.get? b=some ob)(n:H b=none)(hx:b∉ex): ∃sl,h1.get? b=some {ob with slots:=sl}:=by by_cases hb:b∈fs;show u.slot b ob q n hb hx;show#[ob.slots,u.keep b ob q n hb hx]
theorem Un.kept (k: ∀b u,h.get? b=some u ->h'.get? b=some u):Un fs ex H H h h':=#[λb ob q _ _ _=>k b ob q,λb ob q _ _ _=>#[ob.slots,k b ob q],λ_ _ _ n _=>n,λb ob q _=>#[ob,k b ob q],λ_ _ q=>q,λ_ _ _ q=>q,λ_ ps q=>#[#[],by rw[q];simp]]
theorem Un.refl:Un fs ex H H h h:=Un.kept λ_ _ q=>q
theorem Un.laid (k: ∀b u,h.get? b=some u ->h'.get? b=some u)(hp:h.objs.size<=a)(hn:H a=none):Un fs ex H (cR H a o) h h' where
 keep:=λb u q _ _ _=>k b u q
 slot:=λb u q _ _ _=>#[u.slots,k b u q]
 free:=λb u q n _=>by rw[bR (bF (bD (aT q) hp))];show n
 there:=λb u q _=>#[u,k b u q]
 oG:=λb xs q=>by rw[bR (fC q hn)];show q
 nq:=λb u xs q=>by rw[bR (fC q hn)];show q
 qB:=λb ps q=>#[#[],by rw[bR (fC q hn),q];simp]
def Un.write (mu:X9 (H x))(he:e=x \/ H e=some (.own x))(k: ∀b u,b≠e ->h.get? b=some u ->h'.get? b=some u)(Uy: ∃u,h'.get? e=some u):Un fs ex H (cR H x o) h h':=by
 have hx: ∀b,H b=none ->b≠x:=λb n z=>by subst z;rw[n] at mu;show mu
 have hb: ∀b,H b=none ->b≠e:=λb n z=>by subst z;obtain r | r:=he;show hx b n r;rw[n] at r;cases r
 have hm: ∀b u,H b=some u ->¬X9 (some u) ->b≠x:=λb u q nm z=>by subst z;rw[q] at mu;show nm mu
 exact#[λb u q n _ _=>k b u (hb b n) q,λb u q n _ _=>#[u.slots,k b u (hb b n) q],λb u q n _=>by rw[bR (hx b n)];show n,λb u q _=> ?_,λb xs q=>by rw[bR (hm b _ q λz=>z)];show q,λb u xs q=>by rw[bR (hm b _ q λz=>z)];show q,λb ps q=>#[#[],by rw[bR (hm b _ q λz=>z),q];simp]];by_cases Tg:b=e;subst Tg;show Uy;show#[u,k b u Tg q]
end
def YX (h:Heap)(H:Hp):cH fY:=(List.range h.objs.size).filter λa=>(H a).isSome
def zr (h:Heap)(H:Hp):Heap:=W.hideAll h (YX h H)
theorem GS (h:Heap)(H:Hp):(zr h H).objs.size=h.objs.size:=W.hideAll_size _ _
theorem Kq (e:h.get? b=some o)(n:H b=none):(zr h H).get? b=some o:=W.hideAll_get _ e λhm=>by have q:(H b).isSome=true:=(List.mem_filter.mp hm).2;rw[n] at q;simp at q
def No (e:(zr h H).get? b=some o):h.get? b=some o /\ H b=none:=by
 have e':h.get? b=some o:=W.of_hideAll (YX h H) e;exact#[e',?_];cases q:H b with
 | none=>rfl
 | some x=>have hm:b∈YX h H:=List.mem_filter.mpr #[List.mem_range.mpr (aT e'),by simp[q]];have z:(zr h H).get? b=none:=W.hideAll_none (YX h H) hm;rw[z] at e;cases e
def OC (g h:Heap)(L:fY):cH (fY×Obj):=(List.range h.objs.size).filterMap λa=>if a=L \/ (g.get? a).isSome=true then none else(h.get? a).map λo=>(a,o)
def cX (g h:Heap)(L d:fY):cH (fY×Obj):=(OC g h L).filter λp=>decide (p.1≠d)
structure Mod (K:PySem.W.Frag)(mg:Str ->Option Value)(base:Heap):Prop where
 Qa:K.In base
 glob:base.Ns mainGlobals mg
 blt: ∃mb,base.Ns builtinsNs mb /\ ∀x:Str,x≠ "__name__" ->mb x=bootBuiltins x
 nolimit:base.NoLimit
structure Cx where
 prog:Program
 w:World
 K:PySem.W.Frag
 mg:Str ->Option Value
 base:Heap
 A:Around
 N:List Str
 s₀:Shared
 H₀:Hp
 env:Env
 outer:List Env
 stack:List Env
 ex:List Addr
 fn:Str ->Bool
 calm:Bool
 pn:List (Addr×Obj)
 xe:Value ->Shared ->Prop
def lx (l:cH Env):cH fY:=l.filterMap (·.frame)
abbrev Cx.fs (X:Cx):cH fY:=lx X.outer
def X5 (sc:Scope)(x:Str):Prop:=sc.names.lookup x=some .local \/ sc.names.lookup x=some .cell \/ sc.names.lookup x=some .free
def Loc (sc:Scope)(x:Str):Prop:=sc.names.lookup x=some .local \/ sc.names.lookup x=some .cell
def Look (env:Env)(h:Heap)(m:Str ->fj df)(x:Str)(u:df):Prop:=(env.kindOf x=some .local /\ m x=some u) \/ ((env.kindOf x=some .cell \/ env.kindOf x=some .free) /\ ∃c,env.cells.lookup x=some c /\ h.IsCell c (some u))
structure Cx.Ok (X:Cx):Prop where
 mod:Mod X.K X.mg X.base
 kind:X.env.scope.kind= .function
 glob:X.env.globals=mainGlobals
 blt:X.env.builtins=builtinsNs
 above:X.s₀.heap.objs.size<=X.env.locals
 inj: ∀x y c,X.env.cells.lookup x=some c ->X.env.cells.lookup y=some c ->x=y
 has: ∀x,(X.env.kindOf x=some .cell \/ X.env.kindOf x=some .free) -> ∃c,X.env.cells.lookup x=some c
 UF: ∀x c,X.fn x=true ->X.env.cells.lookup x=some c ->X.s₀.heap.objs.size<=c
 hd:X.calm=true ->X.A.handled=none
 frames:X.A.frames=some X.stack
 Rl:X.stack=X.outer \/ (X.stack=X.env::X.outer /\ X.env.frame=some X.env.locals)
 exf: ∀b∈X.ex,b≠X.env.locals /\ ∀x c,X.env.cells.lookup x=some c ->c≠b
 bs: ∀b o,X.base.get? b=some o ->X.s₀.heap.get? b=some o /\ X.H₀ b=none
 La:X.base.objs.size<=X.s₀.heap.objs.size
 Gz: ∀b o,X.base.get? b=some o ->b∉X.ex
 De: ∀b∈X.ex,b∉X.fs
 om:X.s₀.heap.FunFrames X.base X.outer
 Mb: ∀b∈X.fs,X.H₀ b=none
structure Inv (X:Cx)(ah:List (Addr×Obj))(σ:List (Option V))(H:Hp)(s:Shared):Prop where
 ok:X.Ok
 os:s.os=X.s₀.os
 bare:AllBare s.gens
 base:Un X.fs X.ex X.H₀ H X.s₀.heap s.heap
 loc: ∃m,s.heap.Ns X.env.locals m /\ ∀ (i:Nat) (x:Str) (v:V),X.N[i]? =some x ->σ[i]? =some (some v) ->X5 X.env.scope x -> ∃u,RelV v u /\ Look X.env s.heap m x u
 cell: ∀x c,X.env.cells.lookup x=some c -> ∃v,s.heap.IsCell c v
 free:H X.env.locals=none
 gS: ∀x c,X.env.cells.lookup x=some c ->H c=none
 pin: ∀p∈X.pn++ah,s.heap.get? p.1=some p.2 /\ H p.1=none /\ p.1≠X.env.locals /\ p.1∉X.fs /\ ∀v,p.2.data≠ .cell v
 cU:nj X.prog X.w H s.heap
 len:σ.length=X.N.length
theorem Cx.Ok.aav {X:Cx}(ok:X.Ok)(e:X.base.get? b=some o):b∉X.fs:=λhb=>by have:=(ok.om.mem hb).1;rw[e] at this;cases this
theorem Inv.bs (I:Inv X ah σ H s): ∀b o,X.base.get? b=some o ->s.heap.get? b=some o /\ H b=none:=λb o e=>#[I.base.keep b o (I.ok.bs b o e).1 (I.ok.bs b o e).2 (I.ok.aav e) (I.ok.Gz b o e),I.base.free b o (I.ok.bs b o e).1 (I.ok.bs b o e).2 (I.ok.Gz b o e)]
theorem Inv.bk (I:Inv X ah σ H s): ∀b o,X.base.get? b=some o ->s.heap.get? b=some o:=λb o e=>(I.bs b o e).1
theorem Inv.mod (I:Inv X ah σ H s):Mod X.K X.mg X.base:=I.ok.mod
theorem Inv.nH (I:Inv X ah σ H s):X.K.In s.heap:=I.ok.mod.Qa.keeps I.bk
theorem Inv.fr (I:Inv X ah σ H s): ∃m,Fr X.base X.env.locals s.heap m:=
 let ⟨m,hn,_⟩:=I.loc
 #[m,hn,I.bk,ar I.ok.La I.ok.above]
theorem Inv.lt (I:Inv X ah σ H s):X.env.locals<s.heap.objs.size:=let ⟨_,hn,_⟩:=I.loc;hn.lt
theorem Inv.sz (I:Inv X ah σ H s):X.s₀.heap.objs.size<=s.heap.objs.size:=ar I.ok.above (Nat.le_of_lt I.lt)
theorem Inv.aau (I:Inv X ah σ H s){a:fY}(h:s.heap.objs.size<=a):a∉X.fs:=λhb=>by let⟨_,o,ho,_⟩:=I.ok.om.mem hb;show absurd (bD (aT ho) (ar I.sz h)) (Nat.lt_irrefl _)
theorem Inv.Tw (I:Inv X ah σ H s): ∀x c,X.env.cells.lookup x=some c ->c≠X.env.locals:=λx c e z=>by let⟨v,o,ho,hd⟩:=I.cell x c e;let⟨m,⟨o',es,ep,zq,Xq,_⟩,_⟩:=I.loc;rw[z,zq] at ho;cases ho;rw[Xq] at hd;cases hd
def Inv.om (I:Inv X ah σ H s):s.heap.FunFrames X.base X.outer:=by
 have all: ∀ (l:cH Env),(∀b∈lx l,b∈X.fs) ->X.s₀.heap.FunFrames X.base l ->s.heap.FunFrames X.base l:=by
  intro l;induction l with
  | nil=>intro _ _;trivial
  | cons env r ih=>intro hs hl;let⟨hk,⟨L,o,hf,hn,ho,hd⟩,hr⟩:=hl;have hL:L∈X.fs:=hs L (by unfold lx;rw[List.filterMap_cons,hf];show List.mem_cons_self);let⟨sl,e⟩:=I.base.slot L o ho (I.ok.Mb L hL) hL λz=>I.ok.De L z hL;show#[hk,#[L,_,hf,hn,e,hd],ih (λb hb=>hs b (by unfold lx;rw[List.filterMap_cons,hf];show dq _ hb)) hr]
 show all X.outer (λ_ hb=>hb) I.ok.om
def Inv.stack (I:Inv X ah σ H s):s.heap.FunFrames X.base X.stack:=by obtain e | ⟨e,hf⟩:=I.ok.Rl;rw[e];show I.om;rw[e];let⟨m,hn,_⟩:=I.loc;exact .cons (by rw[I.ok.kind];decide) hf hn ?_ I.om;show Heap.get?_none_of_le (ar I.ok.La I.ok.above)
theorem Inv.yE (I:Inv X ah σ H s): ∀b∈lx X.stack,b∈X.env.locals::X.fs:=λb hb=>by obtain e | ⟨e,hf⟩:=I.ok.Rl;rw[e] at hb;show dq _ hb;rw[e] at hb;unfold lx at hb;rw[List.filterMap_cons,hf] at hb;show hb
theorem Inv.ug (I:Inv X ah σ H s): ∀b∈lx X.stack,H b=none:=λb hb=>by obtain e | hb:=aV.mp (I.yE b hb);rw[e];show I.free;let⟨_,o,ho,_⟩:=I.ok.om.mem hb;show I.base.free b o ho (I.ok.Mb b hb) λz=>I.ok.De b z hb
def Inv.step {ch:cH fY}(I:Inv X ah σ H s)(L_: ∀b∈ch,(b∈X.ex \/ X.s₀.heap.objs.size<=b) /\ b≠X.env.locals /\ (∀x c,X.env.cells.lookup x=some c ->c≠b) /\ ∀p∈X.pn++ah,p.1≠b)(keep: ∀b o,b≠X.env.locals ->b∉X.fs ->b∉ch ->s.heap.get? b=some o ->H b=none ->h'.get? b=some o)(slot: ∀b o,b≠X.env.locals ->b∈X.fs ->b∉ch ->s.heap.get? b=some o ->H b=none -> ∃sl,h'.get? b=some {o with slots:=sl})(free: ∀b o,b∉ch ->s.heap.get? b=some o ->H b=none ->H' b=none)(there: ∀b o,b∉ch ->s.heap.get? b=some o -> ∃o',h'.get? b=some o')(oG: ∀b xs,H b=some (.tup xs) ->H' b=some (.tup xs))(nq: ∀b o u,H b=some (.lw o u) ->H' b=some (.lw o u))(qB: ∀b ps,H b=some (.Mz ps) -> ∃more,H' b=some (.Mz (ps++more)))(ns: ∀m,s.heap.Ns X.env.locals m ->h'.Ns X.env.locals m)(cU:nj X.prog X.w H' h')(hg:AllBare g'): Inv X ah σ H' {s with heap:=h',gens:=g',drawn:=d',toks:=t'}:=by
 have neL: ∀b o,X.s₀.heap.get? b=some o ->b≠X.env.locals:=λb o e=>bF (bD (aT e) I.ok.above);have Zg: ∀b o,X.s₀.heap.get? b=some o ->b∉X.ex ->b∉ch:=λb o e hx hb=>by obtain z | z:=(L_ b hb).1;show hx z;show absurd (bD (aT e) z) (Nat.lt_irrefl _)
 have cellK: ∀x c,X.env.cells.lookup x=some c -> ∀v,s.heap.IsCell c v ->h'.IsCell c v:=λx c e v ⟨o,ho,hd⟩=>by have Wr:c∉ch:=λz=>(L_ c z).2.2.1 x c e rfl;by_cases hc:c∈X.fs;let⟨sl,q⟩:=slot c o (I.Tw x c e) hc Wr ho (I.gS x c e);show#[_,q,hd];show#[o,keep c o (I.Tw x c e) hc Wr ho (I.gS x c e),hd]
 exact#[I.ok,I.os,hg,#[λb o e n hb hx=> ?_,λb o e n hb hx=> ?_,λb o e n hx=> ?_,λb o e hx=> ?_,λb xs e=>oG b xs (I.base.oG b xs e),λb o xs e=>nq b o xs (I.base.nq b o xs e),λb ps e=> ?_],?_,λx c e=> ?_,?_,λx c e=> ?_,λp hp=> ?_,cU,I.len];show keep b o (neL b o e) hb (Zg b o e hx) (I.base.keep b o e n hb hx) (I.base.free b o e n hx);let⟨sl,e1⟩:=I.base.slot b o e n hb hx;let⟨sl',e2⟩:=slot b _ (neL b o e) hb (Zg b o e hx) e1 (I.base.free b o e n hx);show#[sl',e2];let⟨o',e1⟩:=I.base.there b o e hx;show free b o' (Zg b o e hx) e1 (I.base.free b o e n hx);let⟨o',e1⟩:=I.base.there b o e hx;show there b o' (Zg b o e hx) e1;let⟨m1,e1⟩:=I.base.qB b ps e;let⟨m2,e2⟩:=qB b _ e1;show#[m1++m2,by rw[e2,Array.append_assoc]];let⟨m,hn,hl⟩:=I.loc;exact#[m,ns m hn,λi x v e1 e2 e3=> ?_];let⟨u,r,l⟩:=hl i x v e1 e2 e3;exact#[u,r,?_];obtain l | ⟨k,c,e,z⟩:=l;show .inl l;show .inr #[k,c,e,cellK x c e _ z];let⟨v,z⟩:=I.cell x c e;show#[v,cellK x c e v z];let⟨m,⟨o,_,_,ho,_⟩,_⟩:=I.loc;show free _ o (λz=>(L_ _ z).2.1 rfl) ho I.free;let⟨v,o,ho,hd⟩:=I.cell x c e;show free c o (λz=>(L_ c z).2.2.1 x c e rfl) ho (I.gS x c e);let⟨e,n,ne,nf,d⟩:=I.pin p hp;have Wr:p.1∉ch:=λz=>(L_ p.1 z).2.2.2 p hp rfl;show#[keep p.1 p.2 ne nf Wr e n,free p.1 p.2 Wr e n,ne,nf,d]
def Inv.un (I:Inv X ah σ H s)(u:Un X.fs [] H H' s.heap h')(cU:nj X.prog X.w H' h'):Inv X ah σ H' {s with heap:=h',toks:=t'}:=by let⟨m,⟨o,es,ep,ho,r⟩,_⟩:=id I.loc;let⟨sl,hL⟩:=u.any ho I.free (by simp);show I.step (g':=s.gens) (d':=s.drawn) (ch:= []) (λ_ z=>nomatch z) (λb o _ hb _ e n=>u.keep b o e n hb (by simp)) (λb o _ hb _ e n=>u.slot b o e n hb (by simp)) (λb o _ e n=>u.free b o e n (by simp)) (λb o _ e=>u.there b o e (by simp)) u.oG u.nq u.qB (λm' hm=>by let⟨o',ZK,ZL,zq,r'⟩:=hm;rw[ho] at zq;cases zq;show#[_,ZK,ZL,hL,r']) cU I.bare
def Inv.call (I:Inv X ah σ H s)(u:Un (lx X.stack) ch H H' s.heap h')(cU:nj X.prog X.w H' h')(hg:AllBare g')(L_: ∀b∈ch,(b∈X.ex \/ X.s₀.heap.objs.size<=b) /\ b≠X.env.locals /\ (∀x c,X.env.cells.lookup x=some c ->c≠b) /\ ∀p∈X.pn++ah,p.1≠b): Inv X ah σ H' {s with heap:=h',gens:=g',drawn:=d',toks:=t'}:=by let⟨m,⟨o,es,ep,ho,r⟩,_⟩:=id I.loc;let⟨sl,hL⟩:=u.any ho I.free λz=>(L_ _ z).2.1 rfl;show I.step (ch:=ch) L_ (λb o hL hb hc e n=>u.keep b o e n (λz=>(aV.mp (I.yE b z)).elim hL hb) hc) (λb o _ _ hc e n=>u.any e n hc) (λb o hc e n=>u.free b o e n hc) (λb o hc e=>u.there b o e hc) u.oG u.nq u.qB (λm' hm=>by let⟨o',ZK,ZL,zq,r'⟩:=hm;rw[ho] at zq;cases zq;show#[_,ZK,ZL,hL,r']) cU hg
def Inv.turned (I:Inv X ah σ H s)(k: ∀b o,b≠it ->s.heap.get? b=some o ->h'.get? b=some o)(hn:H it=none)(hL:it≠X.env.locals)(h1:it∈X.ex \/ X.s₀.heap.objs.size<=it)(h2: ∀x c,X.env.cells.lookup x=some c ->c≠it)(h3: ∀p∈X.pn++ah,p.1≠it):Inv X ah σ H {s with heap:=h',toks:=t'}:=by
 have nit: ∀b u,H b=some u ->b≠it:=λb u e z=>by rw[z,hn] at e;cases e
 exact I.step (g':=s.gens) (d':=s.drawn) (ch:= [it]) (λb hb=> ?_) (λb o _ _ hc e _=>k b o (λz=>hc (by simp[z])) e) (λb o _ _ hc e _=>#[o.slots,k b o (λz=>hc (by simp[z])) e]) (λ_ _ _ _ n=>n) (λb o hc e=>#[o,k b o (λz=>hc (by simp[z])) e]) (λ_ _ e=>e) (λ_ _ _ e=>e) (λb ps e=>#[#[],by rw[e];simp]) (λm hm=> ?_) (λb u e=> ?_) I.bare;have e:b=it:=by simpa using hb
 subst e;show#[h1,hL,h2,h3];let⟨o,es,ep,ho,r⟩:=hm;show#[o,es,ep,k _ o (dD hL) ho,r];exact(I.cU b u e).uO (λc v hc q=>k c v ?_ q) (λ_ q=>q) λ_ _ q=>q;obtain z | z:=hc;rw[z];show nit b u e;show nit c _ z
theorem Inv.tok (I:Inv X ah σ H s)(t:Nat):Inv X ah σ H {s with toks:=t}:=I.un (h':=s.heap) (t':=t) Un.refl I.cU
theorem Inv.kept (I:Inv X ah σ H s)(k: ∀b u,s.heap.get? b=some u ->h'.get? b=some u):Inv X ah σ H {s with heap:=h',toks:=t'}:=I.un (Un.kept k) (I.cU.kept k)
theorem Inv.laid {a:fY}(I:Inv X ah σ H s)(k: ∀b u,s.heap.get? b=some u ->h'.get? b=some u)(hp:s.heap.objs.size<=a)(new:eC X.prog X.w (cR H a o) h' a o): Inv X ah σ (cR H a o) {s with heap:=h',toks:=t'}:=I.un (Un.laid k hp (I.cU.fresh hp)) (I.cU.laid k hp new)
theorem Inv.write (I:Inv X ah σ H s)(mu:X9 (H x))(he:e=x \/ H e=some (.own x))(k: ∀b u,b≠e ->s.heap.get? b=some u ->h'.get? b=some u)(Uy: ∃u,h'.get? e=some u)(new:eC X.prog X.w (cR H x o) h' x o):Inv X ah σ (cR H x o) {s with heap:=h',toks:=t'}:=I.un (Un.write mu he k Uy) (I.cU.write mu he k Uy new)
theorem Inv.weak (I:Inv X ah σ H s)(hl:σ'.length=σ.length)(w: ∀ (i:Nat) v,σ'[i]? =some (some v) ->σ[i]? =some (some v)):Inv X ah σ' H s:=#[I.ok,I.os,I.bare,I.base,let ⟨m,hn,sr⟩:=I.loc;#[m,hn,λi x v e1 e2 e3=>sr i x v e1 (w i v e2) e3],I.cell,I.free,I.gS,I.pin,I.cU,hl.trans I.len]
theorem Inv.Ew (I:Inv X ah σ H s)(h: ∀p∈Ey,s.heap.get? p.1=some p.2 /\ H p.1=none /\ p.1≠X.env.locals /\ p.1∉X.fs /\ ∀v,p.2.data≠ .cell v):Inv X Ey σ H s:=#[I.ok,I.os,I.bare,I.base,I.loc,I.cell,I.free,I.gS,λp hp=>(be.mp hp).elim (λz=>I.pin p (List.mem_append_left _ z)) (h p),I.cU,I.len]
def AM {N:cH Str}(hN:N.Nodup){i j:Nat}(a:N[i]? =some x)(b:N[j]? =some x):i=j:=by let⟨h1,e1⟩:=bB.mp a;let⟨h2,e2⟩:=bB.mp b;show(List.getElem_inj hN).mp (e1.trans e2.symm)
def xq (I:Inv X ah σ H s)(hN:X.N.Nodup)(hi:X.N[i]? =some x)(hx:Loc X.env.scope x)(r:RelV v u)(h: ∀s',Inv X ah (σ.set i (some v)) H s' ->(∃a,Heap.SameBut a s.heap s'.heap /\ (a=X.env.locals \/ X.env.cells.lookup x=some a)) ->Q () s')(hf:X.fn x=true \/ X.env.scope.names.lookup x=some .local:=by first | show .inl rfl | show .inr rfl | assumption):wpAny M A (storeName X.env x u) Q E s:=by
 let⟨m,hn,hl⟩:=id I.loc;have abh:(X.env.scope.kind== .class || (X.env.scope.kind== .module && X.env.locals !=X.env.globals))=false:=by rw[I.ok.kind];rfl
 have hiσ:i<σ.length:=by rw[I.len];show(bB.mp hi).1
 have Tw:=I.Tw;have tracked: ∀ {a:fY} {h':Heap},(∃o,s.heap.get? a=some o /\ H a=none) ->Heap.SameBut a s.heap h' ->nj X.prog X.w H h':=λ{a h'} ha hs b ob e=>by let⟨_,_,Qm⟩:=ha;exact(I.cU b ob e).uO (λc w' hc q=>(hs.2 c ?_).trans q) (λ_ q=>q) λ_ _ q=>q;rintro rfl;obtain rfl | hc:=hc;rw[Qm] at e;cases e;rw[Qm] at hc;cases hc
 obtain hk | hk:=hx;exact wpAny_storeName_local hk hn (λh' A_ hs=> ?_) abh;let⟨oL,_,_,hoL,_⟩:=id hn;exact h _ #[I.ok,I.os,I.bare,#[λb o e n hb hx=> ?_,λb o e n hb hx=> ?_,I.base.free,λb o e hx=> ?_,I.base.oG,I.base.nq,I.base.qB],#[_,A_,λj y v' e1 e2 e3=> ?_],λy c e=> ?_,I.free,I.gS,λp hp=> ?_,tracked #[oL,hoL,I.free] hs, ⇑I.len] #[_,hs, .inl rfl];show(hs.2 b (bF (bD (aT e) I.ok.above))).trans (I.base.keep b o e n hb hx);let⟨sl,e1⟩:=I.base.slot b o e n hb hx;show#[sl,(hs.2 b (bF (bD (aT e) I.ok.above))).trans e1];let⟨o',e1⟩:=I.base.there b o e hx;show#[o',(hs.2 b (bF (bD (aT e) I.ok.above))).trans e1];by_cases hj:j=i;subst hj;rw[hi] at e1;cases e1;rw[List.getElem?_set_self hiσ] at e2;cases e2;show#[u,r, .inl #[hk,by simp]];rw[List.getElem?_set_ne (dD hj)] at e2;let⟨u',r',q⟩:=hl j y v' e1 e2 e3;exact#[u',r',?_];rcases q with⟨k,e⟩ | ⟨k,c,e,z⟩
 exact .inl #[k,?_];have:y≠x:=λe=>hj (AM hN e1 (e▸hi));simp[this,e];show .inr #[k,c,e,z.sameBut hs (Tw y c e)];let⟨w',z⟩:=I.cell y c e;show#[w',z.sameBut hs (Tw y c e)];let⟨e,n,ne,nf,d⟩:=I.pin p hp;show#[(hs.2 p.1 ne).trans e,n,ne,nf,d];have hfn:X.fn x=true:=by obtain z | z:=hf;show z;rw[z] at hk;cases hk
 let⟨c,hc⟩:=I.ok.has x (.inl hk);let⟨w',z⟩:=I.cell x c hc;exact wpAny_storeName_cell I.ok.kind hk hc z (λh' ZE hs=> ?_);let⟨oc,hoc,aba⟩:=id z;exact h {s with heap:=h'} #[I.ok,I.os,I.bare,#[λb o e n hb hx=> ?_,λb o e n hb hx=> ?_,I.base.free,λb o e hx=> ?_,I.base.oG,I.base.nq,I.base.qB],#[m,hn.sameBut hs (dD (Tw x c hc)),λj y v' e1 e2 e3=> ?_],λy c' e=> ?_,I.free,I.gS,λp hp=> ?_,tracked #[oc,hoc,I.gS x c hc] hs, ⇑I.len] #[c,hs, .inr hc];show(hs.2 b (bF (bD (aT e) (I.ok.UF x c hfn hc)))).trans (I.base.keep b o e n hb hx);let⟨sl,e1⟩:=I.base.slot b o e n hb hx;show#[sl,(hs.2 b (bF (bD (aT e) (I.ok.UF x c hfn hc)))).trans e1];let⟨o',e1⟩:=I.base.there b o e hx;show#[o',(hs.2 b (bF (bD (aT e) (I.ok.UF x c hfn hc)))).trans e1];by_cases hj:j=i;subst hj;rw[hi] at e1;cases e1;rw[List.getElem?_set_self hiσ] at e2;cases e2;show#[u,r, .inr #[.inl hk,c,hc,ZE]];rw[List.getElem?_set_ne (dD hj)] at e2;let⟨u',r',q⟩:=hl j y v' e1 e2 e3;exact#[u',r',?_];obtain q | ⟨k,c',e,z'⟩:=q;show .inl q;exact .inr #[k,c',e,z'.sameBut hs ?_];rintro rfl;show hj (AM hN e1 (I.ok.inj _ _ _ e hc▸hi));by_cases hcc:c'=c;subst hcc;show#[_,ZE];let⟨w2,z2⟩:=I.cell y c' e;show#[w2,z2.sameBut hs hcc];let⟨e,n,ne,nf,d⟩:=I.pin p hp;exact#[(hs.2 p.1 ?_).trans e,n,ne,nf,d];intro q;rw[q,hoc] at e;have q':oc=p.2:=bA e;show d w' (by rw[<- q'];show aba)
theorem oJ (I:Inv X ah σ H s)(hN:X.N.Nodup)(hi:X.N[i]? =some x)(hx:Loc X.env.scope x)(r:RelV v u)(h: ∀s',Inv X ah (σ.set i (some v)) H s' ->Q () s')(hf:X.fn x=true \/ X.env.scope.names.lookup x=some .local:=by first | show .inl rfl | show .inr rfl | assumption):wpAny M A (storeName X.env x u) Q E s:=xq I hN hi hx r (λs' I' _=>h s' I') hf
def Inv.K_ (I:Inv X ah σ H s)(ho:s'.os=s.os)(u:Un (lx X.stack) ch H H' s.heap s'.heap)(cU:nj X.prog X.w H' s'.heap)(hg:AllBare s'.gens)(L_: ∀b∈ch,(b∈X.ex \/ X.s₀.heap.objs.size<=b) /\ b≠X.env.locals /\ (∀x c,X.env.cells.lookup x=some c ->c≠b) /\ ∀p∈X.pn++ah,p.1≠b):Inv X ah σ H' s':=by let⟨h',g',d',t',o'⟩:=s';have e:o'=s.os:=ho;subst e;show I.call (g':=g') (t':=t') (d':=d') u cU hg L_
abbrev XK:=df ->fj fY ->Hp ->Prop
abbrev St:=cH (fj V)
abbrev VK:=V ->Hp ->Prop
abbrev TE:=St ->Hp ->VK ->Prop
abbrev TT:=St ->Hp ->(Bool ->Hp ->Prop) ->Prop
abbrev TA:=St ->Hp ->(cH V ->Hp ->Prop) ->Prop
structure wv where
 nx:St ->Hp ->Prop
 rt:VK
 bk:St ->Hp ->Prop:=λ_ _=>False
 ct:St ->Hp ->Prop:=λ_ _=>False
abbrev TS:=wv ->St ->Hp ->Prop
def EP (X:Cx)(ah:cH (fY×Obj))(σ:St)(Q:VK)(u:df)(s':dG):Prop:=cx λv H'=>c8 (Inv X ah σ H' s') (RelV v u) (Q v H')
def TP (X:Cx)(ah:cH (fY×Obj))(σ:St)(Q:Bool ->Hp ->Prop)(b:Bool)(s':dG):Prop:= ∃H',Inv X ah σ H' s' /\ Q b H'
def AP (X:Cx)(ah:cH (fY×Obj))(σ:St)(Q:cH V ->Hp ->Prop)(us:cH df)(s':dG):Prop:=cx λvs H'=>c8 (Inv X ah σ H' s') (cj vs us) (Q vs H')
def SP (X:Cx)(ah:cH (fY×Obj))(D:wv)(f:Flow)(s':dG):Prop:=
 match f with
 | .next=>cx λσ' H'=>Inv X ah σ' H' s' /\ D.nx σ' H'
 | .brk=>cx λσ' H'=>Inv X ah σ' H' s' /\ D.bk σ' H'
 | .cont=>cx λσ' H'=>Inv X ah σ' H' s' /\ D.ct σ' H'
 | .ret u=>eZ λv σ' H'=>c8 (Inv X ah σ' H' s') (RelV v u) (D.rt v H')
def PE (X:Cx)(e:Expr)(t:TE):Prop:=∀ (ah:cH (fY×Obj)) (s:dG) (σ:St) (H:Hp) (Q:VK),Inv X ah σ H s ->t σ H Q ->wpAny (model X.prog X.w) X.A (eval e X.env) (EP X ah σ Q) X.xe s
def PT (X:Cx)(e:Expr)(t:TT):Prop:=∀ (ah:cH (fY×Obj)) (s:dG) (σ:St) (H:Hp) (Q:Bool ->Hp ->Prop),Inv X ah σ H s ->t σ H Q ->wpAny (model X.prog X.w) X.A (isTrue e X.env (eval e X.env)) (TP X ah σ Q) X.xe s
def PW (X:Cx)(e:Expr)(t:TT):Prop:=∀ (nw:Sem df) (ah:cH (fY×Obj)) (s:dG) (σ:St) (H:Hp) (Q:Bool ->Hp ->Prop),Inv X ah σ H s ->t σ H Q ->wpAny (model X.prog X.w) X.A (isTrue e X.env nw) (TP X ah σ Q) X.xe s
theorem PW.pt (h:PW X e t):PT X e t:=h _
def PA (X:Cx)(es:cH Expr)(t:TA):Prop:=∀ (pos:Pos) (ah:cH (fY×Obj)) (s:dG) (σ:St) (H:Hp) (Q:cH V ->Hp ->Prop),Inv X ah σ H s ->t σ H Q ->wpAny (model X.prog X.w) X.A (spliced (backTo pos (starEach es X.env))) (AP X ah σ Q) X.xe s
def PS (X:Cx)(st:Stmt)(t:TS):Prop:=∀ (ah:cH (fY×Obj)) (s:dG) (σ:St) (H:Hp) (D:wv),Inv X ah σ H s ->t D σ H ->wpAny (model X.prog X.w) X.A (exec st X.env) (SP X ah D) X.xe s
def zY (X:Cx)(st:cH Stmt)(t:TS):Prop:=∀ (ah:cH (fY×Obj)) (s:dG) (σ:St) (H:Hp) (D:wv),Inv X ah σ H s ->t D σ H ->wpAny (model X.prog X.w) X.A (execs st X.env) (SP X ah D) X.xe s
theorem c7 {Q Q':α ->dG ->Prop}(h:wpAny M A t Q E s)(hQ: ∀a s,Q a s ->Q' a s):wpAny M A t Q' E s:=bJ h hQ λ_ _ x=>x
section
variable {X:Cx}
def bin (ha:PE X a ta)(hb:PE X b tb){σ:St}{R:V ->V ->Hp ->Prop}(I:Inv X ah σ H s)(h:ta σ H λx H1=>tb σ H1 λy H2=>R x y H2){f:df ->df ->Sem α}(hf: ∀v u s2 x y H2,Inv X ah σ H2 s2 ->RelV x v ->RelV y u ->R x y H2 ->wpAny (model X.prog X.w) X.A (f v u) Q X.xe s2): wpAny (model X.prog X.w) X.A (eval a X.env) (λv s₁=>wpAny (model X.prog X.w) X.A (eval b X.env) (λu s₂=>wpAny (model X.prog X.w) X.A (f v u) Q X.xe s₂) X.xe s₁) X.xe s:=by exact c7 (ha ah s σ H _ I h) λv s1 ⟨x,H1,I1,r1,q1⟩=> ?_;exact c7 (hb ah s1 σ H1 _ I1 q1) λu s2 ⟨y,H2,I2,r2,q2⟩=> ?_;show hf v u s2 x y H2 I2 r1 r2 q2
def MA (i:Nat):TE:=λσ H Q=> ∃v,σ[i]? =some (some v) /\ Q v H
def tC (v:V):TE:=λ_ H Q=>Q v H
def RG {pos:Pos}(hN:X.N[i]? =some x)(hv:X5 X.env.scope x)(hd:(x==("__debug__" :Str))=false:=by decide)(Fa:(x==("__classdict__" :Str))=false:=by decide):PE X (.Name x pos) (MA i):=by
 intro ah s σ H Q I h;let⟨v,e,h⟩:=h;let⟨m,hn,hl⟩:=I.loc;let⟨u,r,l⟩:=hl i x v hN e hv;have fin:EP X ah σ Q u s:=#[v,H,I,r,h]
 rcases l with⟨hk,hm⟩ | ⟨hk,c,hc,E_⟩
 show wpAny_Name (wpAny_loadName_local I.ok.kind hk hn hm fin) hd;obtain hk | hk:=hk;show wpAny_Name (wpAny_loadName_cell I.ok.kind hk hc E_ fin) hd;show wpAny_Name (wpAny_loadName_free I.ok.kind hk hc E_ fin Fa) hd
theorem ai {i j pos}:PE X (.Constant (.int i) j pos) (tC (.int i)):=λ_ _ _ H _ I h=>wpAny_Constant_int #[.int i,H,I.tok _,#[_,rfl],h]
theorem ji {b j pos}:PE X (.Constant (.bool b) j pos) (tC (.bl b)):=λ_ _ _ H _ I h=>Constant_bool #[.bl b,H,I,rfl,h]
theorem jv {j pos}:PE X (.Constant .none j pos) (tC .ez):=λ_ _ _ H _ I h=>Constant_none #[.ez,H,I,rfl,h]
theorem ay {x j pos}:PE X (.Constant (.str x) j pos) (tC (.str x)):=λ_ _ _ H _ I h=>Calls.Constant_str #[.str x,H,I.tok _,#[_,rfl],h]
def Gl (X:Cx)(x:Str):Prop:=X.env.kindOf x=some .globalImplicit
theorem pB {σ:St}(I:Inv X ah σ H s)(hg:Gl X x)(hm:X.mg x=some u)(h:Q u s)(hd:(x==("__debug__" :Str))=false:=by decide):wpAny (model X.prog X.w) X.A (eval (.Name x pos) X.env) Q E s:=Calls.Name_function_global I.ok.kind hg (Calls.loadGlobal_global (by rw[I.ok.glob];show I.mod.glob.keeps I.bk) hm h) hd
def zk {E:df ->dG ->Prop}{σ:St}{pos:Pos}(I:Inv X ah σ H s)(hg:Gl X x)(hm:X.mg x=none)(hv:bootBuiltins x=some u)(h:Q u s)(hn:x≠ "__name__" :=by decide)(hd:(x==("__debug__" :Str))=false:=by decide):wpAny (model X.prog X.w) X.A (eval (.Name x pos) X.env) Q E s:=by let⟨mb,h1,h2⟩:=I.mod.blt;show Calls.Name_function_global I.ok.kind hg (Calls.loadGlobal_builtin (by rw[I.ok.glob];show I.mod.glob.keeps I.bk) hm (by rw[I.ok.blt];show h1.keeps I.bk) ((h2 x hn).trans hv) h) hd
theorem gg (hg:Gl X x)(hm:X.mg x=some u)(r:RelV v u)(hd:(x==("__debug__" :Str))=false:=by decide):PE X (.Name x pos) (tC v):=λ_ _ _ H _ I h=>pB I hg hm #[v,H,I,r,h] hd
theorem jh {pos:Pos}(hg:Gl X x)(hm:X.mg x=none)(hv:bootBuiltins x=some u)(r:RelV v u)(hn:x≠ "__name__" :=by decide)(hd:(x==("__debug__" :Str))=false:=by decide):PE X (.Name x pos) (tC v):=λ_ _ _ H _ I h=>zk I hg hm hv #[v,H,I,r,h] hn hd
variable {a b:Expr}{ta tb:TE}{pos:Pos}
def PC (X:Cx)(op:CmpOp)(a b:Expr)(t:TE):Prop:=∀ (ah:cH (fY×Obj)) (s:dG) (σ:St) (H:Hp) (Q:VK),Inv X ah σ H s ->t σ H Q ->wpAny (model X.prog X.w) X.A (eval a X.env) (λv s₁=>wpAny (model X.prog X.w) X.A (eval b X.env) (λu s₂=>wpAny (model X.prog X.w) X.A (compareOp op v u) (EP X ah σ Q) X.xe s₂) X.xe s₁) X.xe s
def AN (b:Expr)(h:op≠ .In)(h2:op≠ .NotIn):behindInMarks op b=false:=by
 have e1:(op==CmpOp.In)=false:=by cases op<;>first | rfl | show absurd rfl h
 have e2:(op==CmpOp.NotIn)=false:=by cases op<;>first | rfl | show absurd rfl h2
 cases b<;>simp[behindInMarks,e1,e2]
def tB (t:TE):TT:=λσ H Q=>t σ H λx H1=> ∃c,x= .bl c /\ Q c H1
theorem RI (h:PC X op a b t)(h1:behindInMarks op b=false:=by first | show AN _ ⋯ ⋯ | rfl):PE X (.Compare a [op] [b] pos) t:=λah s σ H Q I hw=>wpAny_Compare1 (h ah s σ H Q I hw) h1
def n6 (h:PC X op a b t)(h1:behindInMarks op b=false:=by first | show AN _ ⋯ ⋯ | rfl):PT X (.Compare a [op] [b] pos) (tB t):=by intro ah s σ H Q I hw;exact wpAny_isTrue_Compare1 (c7 (h ah s σ H _ I hw) λv s1 h1=>c7 h1 λu s2 h2=>c7 h2 λc s3 ⟨x,H1,I1,r1,q1⟩=> ?_) h1;let⟨d,rfl,q⟩:=q1;cases r1;show cA #[H1,I1,q]
def dM (h:PE X e t)(he: ∀nw,isTrue e X.env nw=(do let v <- nw;standAt e.pos;holding [v] (truthy v)):=by intro _;rfl):PT X e (tB t):=by intro ah s σ H Q I hw;exact isTrue_plain (c7 (h ah s σ H _ I hw) λv s1 ⟨x,H1,I1,r1,q1⟩=> ?_) (he _);let⟨d,rfl,q⟩:=q1;cases r1;show cA #[H1,I1,q]
variable {tA Y0:TT}{cX:cH Expr}
def VD (t u:TT):TT:=λσ H Q=>t σ H λc H1=>if c=true then u σ H1 Q else Q false H1
def tOr (t u:TT):TT:=λσ H Q=>t σ H λc H1=>if c=true then Q true H1 else u σ H1 Q
def Vu (t:TT):TT:=λσ H Q=>t σ H λc H1=>Q (!c) H1
def ka (ha:PT X a tA):PW X (.BoolOp .And [a] pos) tA:=by
 intro wh ah s σ H Q I h;exact isTrue_and (c7 (ha ah s σ H Q I h) λc s1 e=> ?_);cases c with
 | true=>show isTrue_and_nil e
 | false=>show e
def iS (ha:PT X a tA):PW X (.BoolOp .Or [a] pos) tA:=by
 intro wh ah s σ H Q I h;exact isTrue_or (c7 (ha ah s σ H Q I h) λc s1 e=> ?_);cases c with
 | false=>show isTrue_or_nil e
 | true=>show e
def nZ (ha:PT X a tA)(hb:PW X (.BoolOp .And (b::cX) pos) Y0):PW X (.BoolOp .And (a::b::cX) pos) (VD tA Y0):=by
 intro wh ah s σ H Q I h;exact isTrue_and (c7 (ha ah s σ H _ I h) λc s1 ⟨H1,I1,q1⟩=> ?_);cases c with
 | true=>show hb wh ah s1 σ H1 Q I1 q1
 | false=>show#[H1,I1,q1]
def kP (ha:PT X a tA)(hb:PW X (.BoolOp .Or (b::cX) pos) Y0):PW X (.BoolOp .Or (a::b::cX) pos) (tOr tA Y0):=by
 intro wh ah s σ H Q I h;exact isTrue_or (c7 (ha ah s σ H _ I h) λc s1 ⟨H1,I1,q1⟩=> ?_);cases c with
 | true=>show#[H1,I1,q1]
 | false=>show hb wh ah s1 σ H1 Q I1 q1
def d4 (ha:PT X a tA):PT X (.UnaryOp .Not a pos) (Vu tA):=by intro ah s σ H Q I h;show isTrue_not (ha ah s σ H (λc H1=>Q (!c) H1) I h)
def Pf (ta tb:TE):TE:=λσ H Q=>ta σ H λx H1=> ∃c,x= .bl c /\ if c=true then tb σ H1 Q else Q (.bl false) H1
def Vs (ta tb:TE):TE:=λσ H Q=>ta σ H λx H1=> ∃c,x= .bl c /\ if c=true then Q (.bl true) H1 else tb σ H1 Q
def Pb (ta:TE):TE:=λσ H Q=>ta σ H λx H1=> ∃c,x= .bl c /\ Q (.bl (!c)) H1
theorem uW {op}(h:PE X a t):PE X (.BoolOp op [a] pos) t:=λah s σ H Q I hw=>BoolOp_one (h ah s σ H Q I hw)
def yW (ha:PE X a ta)(hb:PE X (.BoolOp .And (b::cX) pos) tb):PE X (.BoolOp .And (a::b::cX) pos) (Pf ta tb):=by
 intro ah s σ H Q I h;exact BoolOp_and (c7 (ha ah s σ H _ I h) λv s1 ⟨x,H1,I1,r1,q1⟩=> ?_);let⟨c,rfl,q1⟩:=q1;cases r1;exact cA ?_;cases c with
 | true=>show hb ah s1 σ H1 Q I1 q1
 | false=>show#[.bl false,H1,I1,rfl,q1]
def V2 (ha:PE X a ta)(hb:PE X (.BoolOp .Or (b::cX) pos) tb):PE X (.BoolOp .Or (a::b::cX) pos) (Vs ta tb):=by
 intro ah s σ H Q I h;exact BoolOp_or (c7 (ha ah s σ H _ I h) λv s1 ⟨x,H1,I1,r1,q1⟩=> ?_);let⟨c,rfl,q1⟩:=q1;cases r1;exact cA ?_;cases c with
 | false=>show hb ah s1 σ H1 Q I1 q1
 | true=>show#[.bl true,H1,I1,rfl,q1]
def CD (ha:PE X a ta):PE X (.UnaryOp .Not a pos) (Pb ta):=by intro ah s σ H Q I h;exact UnaryOp_ (c7 (ha ah s σ H _ I h) λv s1 ⟨x,H1,I1,r1,q1⟩=> ?_);let⟨c,rfl,q1⟩:=q1;cases r1;show not_of (cA #[.bl (!c),H1,I1,rfl,q1])
end
def ij (K:WW)(H:Hp)(a:fY)(xs:cH V):Prop:=Rd H a (.lst xs) \/eZ λ(o:Obj) (bN:gP df) (n:Nat)=>lz (K.lookup a=some o) (o.cls= .type "list") (o.dict=none) (o.data= .seq bN n) (bN.size<=sizeLine) (cj xs bN.toList)
def lm (K:WW)(H:Hp)(a:fY)(xs:cH V):Prop:=Rd H a (.tup xs) \/eZ λ(o:Obj) (bN:gP df) (n:Nat)=>lz (K.lookup a=some o) (o.cls= .type "tuple") (o.dict=none) (o.data= .seq bN n) (bN.size<=sizeLine) (cj xs bN.toList)
def ahI:df ->fj V
 | .none=>some .ez
 | .bool b=>some (.bl b)
 | .int i _=>some (.int i)
 | .str x _=>some (.str x)
 | .bytes b _=>some (.Dm b)
 | .float b _=>some (.Oa b)
 | .ref a=>some (.ref a)
 | .type n=>some (.ty n)
 | _=>none
def RelV.abs (r:RelV x u):ahI u=some x:=by
 cases x with
 | ez=>cases r;rfl
 | bl _=>cases r;rfl
 | int _=>let⟨t,rfl⟩:=r;rfl
 | str _=>let⟨t,rfl⟩:=r;rfl
 | Dm _=>let⟨t,rfl⟩:=r;rfl
 | Oa _=>let⟨t,rfl⟩:=r;rfl
 | ref _=>cases r;rfl
 | ty _=>cases r;rfl
theorem RelV.inj {x y:V}{u:df}(r:RelV x u)(q:RelV y u):x=y:=bA (r.abs.symm.trans q.abs)
theorem cj.inj: ∀ {xs ys:cH V} {us:cH df},cj xs us ->cj ys us ->xs=ys
 | _,_,_, .nil, .nil=>rfl
 | _,_,_, .cons r t, .cons r' t'=>by rw[r.inj r',cj.inj t t']
theorem ij.of {K:WW}(h:H a=some (.lst xs)):ij K H a xs:= .inl (.inl h)
theorem lm.of {K:WW}(h:H a=some (.tup xs)):lm K H a xs:= .inl (.inl h)
def Inv.list {σ:St}(I:Inv X ah σ H s)(h:ij X.K H a xs): ∃bN:cH df,c8 (cj xs bN) (PlainL s.heap a bN.toArray) (xs.length<=sizeLine):=by obtain h | ⟨o,bN,n,hk,hc,hd,hs,hz,r⟩:=h;let⟨z,bN,n,r,e⟩:=h.ok I.cU;show#[bN,r,#[_,n,e,rfl,rfl,rfl],z];exact#[bN.toList,r,#[o,n,I.nH a o hk,hc,hd, ⇑hs],?_];have e:=r.length;simp![dL] at e;lia
def Inv.tuple {σ:St}(I:Inv X ah σ H s)(h:lm X.K H a xs): ∃bN:cH df,c8 (cj xs bN) (IsTup s.heap a bN.toArray) (xs.length<=sizeLine):=by obtain h | ⟨o,bN,n,hk,hc,_,hs,hz,r⟩:=h;let⟨z,bN,r,p⟩:=h.ok I.cU;show#[bN,r,p.t,z];exact#[bN.toList,r,#[o,I.nH a o hk,hc,n, ⇑hs],?_];have e:=r.length;simp![dL] at e;lia
def Inv.list_inj {σ:St}(I:Inv X ah σ H s)(h:ij X.K H a xs)(h':ij X.K H a ys):xs=ys:=by let⟨bN,r,⟨o,n,e,_,_,d⟩,_⟩:=I.list h;let⟨its',r',⟨o',n',e',_,_,d'⟩,_⟩:=I.list h';rw[e] at e';cases e';rw[d] at d';injection d' with d1 _;have:bN=its':= ⇑(congrArg Array.toList d1);subst this;show r.inj r'
def Inv.xk {σ:St}(I:Inv X ah σ H s)(h:lm X.K H a xs)(h':lm X.K H a ys):xs=ys:=by let⟨bN,r,⟨o,e,_,n,d⟩,_⟩:=I.tuple h;let⟨its',r',⟨o',e',_,n',d'⟩,_⟩:=I.tuple h';rw[e] at e';cases e';rw[d] at d';injection d' with d1 _;have:bN=its':= ⇑(congrArg Array.toList d1);subst this;show r.inj r'
abbrev Cx.qw (X:Cx)(E:df ->dG ->Prop):Cx:= {X with xe:=E}
abbrev Cx.LR (X:Cx):Cx:=X.qw λ_ _=>False
theorem Cx.Ok.qw {X:Cx}(ok:X.Ok)(E:df ->dG ->Prop):(X.qw E).Ok:=#[ok.mod,ok.kind,ok.glob,ok.blt,ok.above,ok.inj,ok.has,ok.UF,ok.hd,ok.frames,ok.Rl,ok.exf,ok.bs,ok.La,ok.Gz,ok.De,ok.om,ok.Mb]
theorem Cx.Ok.iI {X:Cx}(ok:(X.qw E).Ok):X.Ok:=#[ok.mod,ok.kind,ok.glob,ok.blt,ok.above,ok.inj,ok.has,ok.UF,ok.hd,ok.frames,ok.Rl,ok.exf,ok.bs,ok.La,ok.Gz,ok.De,ok.om,ok.Mb]
theorem Inv.qw {σ:St}(I:Inv X ah σ H s)(E:df ->dG ->Prop):Inv (X.qw E) ah σ H s:=#[I.ok.qw E,I.os,I.bare,I.base,I.loc,I.cell,I.free,I.gS,I.pin,I.cU,I.len]
theorem Inv.iI {σ:St}(I:Inv (X.qw E) ah σ H s):Inv X ah σ H s:=#[I.ok.iI,I.os,I.bare,I.base,I.loc,I.cell,I.free,I.gS,I.pin,I.cU,I.len]
def SP.iI (h:SP (X.qw E) ah D f s'):SP X ah D f s':=by
 cases f with
 | next=>let⟨σ',H',I,q⟩:=h;show#[σ',H',I.iI,q]
 | brk=>let⟨σ',H',I,q⟩:=h;show#[σ',H',I.iI,q]
 | cont=>let⟨σ',H',I,q⟩:=h;show#[σ',H',I.iI,q]
 | ret u=>let⟨v,σ',H',I,r,q⟩:=h;show#[v,σ',H',I.iI,r,q]
theorem zY.LR {st:cH Stmt}(h:zY X.LR st t):zY X st t:=λah s σ H D I hw=>bJ (h ah s σ H D (I.qw _) hw) (λ_ _ q=>q.iI) λ_ _ z=>False.elim z
section
variable {X:Cx}{st:Stmt}{cX:cH Stmt}{t u:TS}{e:Expr}{te:TE}{pos:Pos}
def Pc:TS:=λD σ H=>D.nx σ H
def Rh (t u:TS):TS:=λD σ H=>t {D with nx:=u D} σ H
theorem aM:zY X [] Pc:=λ_ _ σ H _ I h=>wpAny_execs_nil #[σ,H,I,h]
def ag (h1:PS X st t)(h2:zY X cX u):zY X (st::cX) (Rh t u):=by
 intro ah s σ H D I h;exact wpAny_execs_cons (c7 (h1 ah s σ H {D with nx:=u D} I h) λf s1 q=> ?_);cases f with
 | next=>let⟨σ',H',I',q⟩:=q;show h2 ah s1 σ' H' D I' q
 | ret v=>show q
 | brk=>show q
 | cont=>show q
def aj (h1:PS X st t):zY X [st] t:=by
 intro ah s σ H D I h;exact wpAny_execs_cons (c7 (h1 ah s σ H D I h) λf s1 q=> ?_);cases f with
 | next=>show wpAny_execs_nil q
 | ret v=>show q
 | brk=>show q
 | cont=>show q
def Inv.quiet {σ:St}(I:Inv X ah σ H s):interactive X.env=false:=by simp[interactive,I.ok.kind]
def Pd (te:TE):TS:=λD σ H=>te σ H λ_ H1=>D.nx σ H1
def bK (he:PE X e te)(hs:swapsWith e none pos.line X.env=pure false:=by rfl):PS X (.Expr e pos) (Pd te):=by intro ah s σ H D I h;show wpAny_Expr_any (c7 (he ah s σ H _ I h) λv s1 ⟨x,H1,I1,r1,q1⟩=>#[σ,H1,I1,q1]) I.quiet hs
def Vr (te:TE):TS:=λD σ H=>te σ H D.rt
def aF (he:PE X e te):PS X (.Return (some e) pos) (Vr te):=by intro ah s σ H D I h;show wpAny_Return_some (c7 (he ah s σ H _ I h) λv s1 ⟨x,H1,I1,r1,q1⟩=>#[x,σ,H1,I1,r1,q1])
def Vw (c:TT)(t u:TS):TS:=λD σ H=>c σ H λb H1=>if b=true then t D σ H1 else u D σ H1
def bp (hc:PT X c tc)(ha:zY X a t)(hb:zY X b u):PS X (.If c a b pos) (Vw tc t u):=by
 intro ah s σ H D I h;exact wpAny_If (c7 (hc ah s σ H _ I h) λd s1 ⟨H1,I1,q1⟩=> ?_);cases d with
 | true=>show ha ah s1 σ H1 D I1 q1
 | false=>show hb ah s1 σ H1 D I1 q1
def Ik:TS:=λ_ _ _=>False
theorem Jj:PS X st Ik:=λ_ _ _ _ _ _ h=>h.elim
end
abbrev TG:=V ->St ->Hp ->(St ->Hp ->Prop) ->Prop
abbrev Mg:=cH V ->St ->Hp ->(St ->Hp ->Prop) ->Prop
def PG (X:Cx)(qC:Expr)(t:TG):Prop:=∀ (ah:cH (fY×Obj)) (s:dG) (σ:St) (H:Hp) (v:V) (u:df) (Q:St ->Hp ->Prop),Inv X ah σ H s ->RelV v u ->t v σ H Q ->wpAny (model X.prog X.w) X.A (assign qC X.env u) (λ_ s'=>cx λσ' H'=>Inv X ah σ' H' s' /\ Q σ' H') X.xe s
def ZQ (X:Cx)(ts:cH Expr)(t:Mg):Prop:=∀ (ah:cH (fY×Obj)) (s:dG) (σ:St) (H:Hp) (vs:cH V) (us:cH df) (Q:St ->Hp ->Prop),Inv X ah σ H s ->cj vs us ->t vs σ H Q ->wpAny (model X.prog X.w) X.A (assignInOrder ((assignEach ts X.env).map (·.2)) us) (λ_ s'=>cx λσ' H'=>Inv X ah σ' H' s' /\ Q σ' H') X.xe s
abbrev Lm:=V ->V ->V ->Hp ->(Hp ->Prop) ->Prop
def X8 (X:Cx)(t:Lm):Prop:=∀ (ah:cH (fY×Obj)) (s:dG) (σ:St) (H:Hp) (o i v:V) (ov iv u:df) (Q:Hp ->Prop),Inv X ah σ H s ->RelV o ov ->RelV i iv ->RelV v u ->t o i v H Q ->wpAny (model X.prog X.w) X.A (setItem ov iv u) (λ_ s'=> ∃H',Inv X ah σ H' s' /\ Q H') X.xe s
abbrev UH:=V ->V ->Hp ->VK ->Prop
def PIp (X:Cx)(op:Operator)(t:UH):Prop:=∀ (ah:cH (fY×Obj)) (s:dG) (σ:St) (H:Hp) (x y:V) (v u:df) (Q:VK),Inv X ah σ H s ->RelV x v ->RelV y u ->t x y H Q ->wpAny (model X.prog X.w) X.A (inplaceOp op v u) (EP X ah σ Q) X.xe s
def md (i:Nat):TG:=λv σ H Q=>Q (σ.set i (some v)) H
def aZ (hN:X.N.Nodup)(hi:X.N[i]? =some x)(hx:Loc X.env.scope x)(hf:X.fn x=true \/ X.env.scope.names.lookup x=some .local:=by first | show .inl rfl | show .inr rfl | assumption):PG X (.Name x pos) (md i):=by intro ah s σ H v u Q I r h;show wpAny_assign_Name (oJ I hN hi hx r (λs' I'=>#[_,H,I',h]) hf)
def N9:Mg:=λvs σ H Q=>vs= [] /\ Q σ H
def xO (t:TG)(u:Mg):Mg:=λvs σ H Q=>cx λv r=>vs=v::r /\ t v σ H λσ' H'=>u r σ' H' Q
def dw:ZQ X [] N9:=by intro ah s σ H vs us Q I r h;let⟨e,h⟩:=h;subst e;cases r;show assignInOrder_nil #[σ,H,I,h]
def bv (h1:PG X e t)(h2:ZQ X es u)(hs:(assignEach (e::es) X.env).map (·.2)=assign e X.env::(assignEach es X.env).map (·.2):=by rfl):ZQ X (e::es) (xO t u):=by
 intro ah s σ H vs us Q I r h;let⟨v,vr,e1,h⟩:=h;subst e1;cases r with
 | cons r rr=>rw[hs];exact assignInOrder_cons (c7 (h1 ah s σ H _ _ _ I r h) λ_ s1 ⟨σ1,H1,I1,q1⟩=> ?_);show h2 ah s1 σ1 H1 _ _ Q I1 rr q1
def N8 (K:WW)(n:Nat)(t:Mg):TG:=λv σ H Q=>cx λa xs=>fA (v= .ref a) (lm K H a xs) (xs.length=n) (t xs σ H Q)
def eD {pos:Pos}{k:Nat}(hc:X.calm=true)(h:ZQ X es t)(hn:(assignEach es X.env).length=n:=by rfl)(uw:(assignEach es X.env).findIdx? (·.1)=none:=by rfl):PG X (.Tuple es k pos) (N8 X.K n t):=by intro ah s σ H v u Q I r hw;let⟨a,xs,e1,hq,hl,hw⟩:=hw;subst e1;cases r;let⟨bN,rv,ht,hz⟩:=I.tuple hq;exact assign_Tuple_tuple (I.ok.hd hc) ht (by simp[hn, <- hl,rv.length]) uw λh' hx=> ?_;have I1:Inv X ah σ H {s with heap:=h'}:=I.kept (t':=s.toks) λb o e=>hx b o (bF (aT e)) e;show h ah _ σ H xs _ Q I1 ⇑rv hw
def Xz (to ti:TE)(t:Lm):TG:=λv σ H Q=>to σ H λo H1=>ti σ H1 λi H2=>t o i v H2 λH3=>Q σ H3
theorem qI (ho:PE X o to)(hi:PE X i ti)(hs:X8 X t)(ha: ∀v,assign (.Subscript o i pos) X.env v=(do
  let ov <- holding [v] (eval o X.env)
  let iv <- holding [v,ov] (eval i X.env)
  standAt pos
  holding [v,ov,iv] (setItem ov iv v)
  release [v,ov,iv] []):=by intro _;rfl):PG X (.Subscript o i pos) (Xz to ti t):=by
 intro ah s σ H v u Q I r h
 rw[ha]
 exact aA (wpAny_holding (c7 (ho ah s σ H _ I h) λov s1 ⟨x,H1,I1,r1,q1⟩=> ?_))
 exact aA (wpAny_holding (c7 (hi ah s1 σ H1 _ I1 q1) λiv s2 ⟨y,H2,I2,r2,q2⟩=> ?_))
 exact aA (wpAny_standAt (aA (wpAny_holding (c7 (hs ah s2 σ H2 x y v ov iv u _ I2 r1 r2 r q2) λ_ s3 ⟨H3,I3,q3⟩=> ?_))))
 show wpAny_release #[σ,H3,I3,q3]
def Iv (te:TE)(g:TG):TS:=λD σ H=>te σ H λx H1=>g x σ H1 D.nx
def ge {pos:Pos}(he:PE X e te)(hg:PG X tg g)(hs:swapsWithSole [tg] e pos.line X.env=pure false:=by rfl)(hw:swappedStores [tg] e X.env=pure none:=by rfl)(h1:(assignEach [tg] X.env).map (·.2)= [assign tg X.env]:=by rfl):PS X (.Assign [tg] e pos) (Iv te g):=by intro ah s σ H D I h;exact wpAny_Assign_stores (c7 (he ah s σ H _ I h) λv s1 ⟨x,H1,I1,r1,q1⟩=> ?_) hs hw;rw[h1];show c7 (hg ah s1 σ H1 x v _ I1 r1 q1) λ_ s2 q=>q
def bh {pos:Pos}(hN:X.N.Nodup)(hi:X.N[i]? =some x)(hx:Loc X.env.scope x)(he:PE X e te)(hs:swapsWith e (some (.Name x lR)) pos.line X.env=pure false:=by rfl)(hf:X.fn x=true \/ X.env.scope.names.lookup x=some .local:=by first | show .inl rfl | show .inr rfl | assumption): PS X (.Assign [.Name x lR] e pos) (Iv te (md i)):=by intro ah s σ H D I h;exact wpAny_Assign_Name (c7 (he ah s σ H _ I h) λv s1 ⟨y,H1,I1,r1,q1⟩=> ?_) hs;show oJ I1 hN hi hx r1 (λs2 I2=>#[_,H1,I2,q1]) hf
def VC (i:Nat)(te:TE)(ti:UH):TS:=λD σ H=> ∃x,σ[i]? =some (some x) /\ te σ H λy H1=>ti x y H1 λz H2=>D.nx (σ.set i (some z)) H2
def RE (hN:X.N.Nodup)(hi:X.N[i]? =some x)(hx:Loc X.env.scope x)(he:PE X e te)(ho:PIp X op ti)(hf:X.fn x=true \/ X.env.scope.names.lookup x=some .local:=by first | show .inl rfl | show .inr rfl | assumption): PS X (.AugAssign (.Name x lR) op e pos) (VC i te ti):=by
 intro ah s σ H D I h;let⟨v,e1,h⟩:=h;let⟨m,hn,hl⟩:=I.loc;have _R:X5 X.env.scope x:=by obtain k | k:=hx;show .inl k;show .inr (.inl k)
 let⟨u,r,l⟩:=hl i x v hi e1 _R;exact wpAny_AugAssign_Name ?_;have go:wpAny (model X.prog X.w) X.A (eval e X.env) (λw s₂=>wpAny (model X.prog X.w) X.A (inplaceOp op u w) (λr s₃=>wpAny (model X.prog X.w) X.A (storeName X.env x r) (λ_=>SP X ah D .next) X.xe s₃) X.xe s₂) X.xe s:=by exact c7 (he ah s σ H _ I h) λw s1 ⟨y,H1,I1,r1,q1⟩=> ?_;exact c7 (ho ah s1 σ H1 v y u w _ I1 r r1 q1) λz s2 ⟨zv,H2,I2,r2,q2⟩=> ?_;show oJ I2 hN hi hx r2 (λs3 I3=>#[_,H2,I3,q2]) hf
 rcases l with⟨hk,hm⟩ | ⟨hk,c,hc,E_⟩
 show wpAny_loadName_local I.ok.kind hk hn hm go;obtain hk | hk:=hk;show wpAny_loadName_cell I.ok.kind hk hc E_ go;obtain k | k:=hx;have:X.env.scope.names.lookup x=some .free:=hk;rw[k] at this;cases this;have:X.env.scope.names.lookup x=some .free:=hk;rw[k] at this;cases this
def ipI (f:Int ->Int ->Int):UH:=λx y H Q=>cx λi j=>c8 (x= .int i) (y= .int j) (Q (.int (f i j)) H)
def SM:PIp X .Add (ipI λi j=>i+j):=by intro ah s σ H x y v u Q I r1 r2 h;let⟨i,j,e1,e2,q⟩:=h;subst e1;subst e2;let⟨t,rfl⟩:=r1;let⟨t',rfl⟩:=r2;show iadd_int #[.int _,H,I.tok _,#[_,rfl],q]
structure It where
 go:Nat ->Hp ->Prop
 TY:Nat ->Hp ->V ->Hp ->Prop
 stop:Nat ->Hp ->Prop
def lv (X:Cx)(ah:cH (fY×Obj))(H:Hp)(b:fY):Prop:=H b=none /\ b≠X.env.locals /\ b∉X.fs /\ (b∈X.ex \/ X.s₀.heap.objs.size<=b) /\ (∀x c,X.env.cells.lookup x=some c ->c≠b) /\ ∀p∈X.pn++ah,p.1≠b
def Inv.Dc {σ:St}{b:fY}(I:Inv X ah σ H s)(hb:s.heap.objs.size<=b)(hn:H' b=none):lv X ah H' b:=by exact#[hn,Nat.ne_of_gt (bD I.lt hb),I.aau hb, .inr (ar I.sz hb),λx c e z=> ?_,λp hp z=> ?_];let⟨v,q⟩:=I.cell x c e;show absurd (bD q.lt (by rw[z];show hb)) (Nat.lt_irrefl _);show absurd (bD (aT (I.pin p hp).1) (by rw[z];show hb)) (Nat.lt_irrefl _)
structure zL (P:Program)(w:World)(K:PySem.W.Frag)(tg:Expr)(J:It)(fp:List Addr)(it:Addr)(tn:Nat ->Heap ->Prop):Prop where
 mem:it∈fp
 obj: ∀i h,tn i h -> ∀b∈fp, ∃o,h.get? b=some o /\ ∀v,o.data≠ .cell v
 keep: ∀i h h',tn i h ->(∀b∈fp, ∀o,h.get? b=some o ->h'.get? b=some o) ->tn i h'
 item: ∀ (X:Cx),X.prog=P ->X.w=w ->X.K=K ->X.calm=true -> ∀ (i:Nat) (ah:List (Addr×Obj)) (s:Shared) (σ:St) (H:Hp) (E:Value ->Shared ->Prop),Inv X ah σ H s ->(∀b∈fp,lv X ah H b) ->tn i s.heap ->J.go i H ->wpAny (model P w) X.A (pyNext (.ref it)) (λr s1=> ∃u,r=some u /\wpAny (model P w) X.A (letOwnedTupleGo tg (.ref it) u) (λ_ s2=>cx λx H'=>gy (Inv X ah σ H' s2) (RelV x u) (J.TY i H x H') (tn (i+1) s2.heap) (∀b∈fp,H' b=none)) E s1) E s
 done: ∀ (X:Cx),X.prog=P ->X.w=w ->X.K=K ->X.calm=true -> ∀ (i:Nat) (ah:List (Addr×Obj)) (s:Shared) (σ:St) (H:Hp) (E:Value ->Shared ->Prop),Inv X ah σ H s ->(∀b∈fp,lv X ah H b) ->tn i s.heap ->J.stop i H ->wpAny (model P w) X.A (pyNext (.ref it)) (λr s1=>r=none /\ Inv X ah σ H s1) E s
 self: ∀ (A:Around) (i:Nat) (s:Shared) (Q:Value ->Shared ->Prop) (E:Value ->Shared ->Prop),tn i s.heap ->Q (.ref it) s ->wpAny (model P w) A (pyIter (.ref it)) Q E s
abbrev TI:=St ->Hp ->(It ->Hp ->Prop) ->Prop
def PIE (X:Cx)(ah:cH (fY×Obj))(σ:St)(tg:Expr)(R:It ->Hp ->Prop)(WV:df)(s2:dG):Prop:=sW λ(it:fY) (fp:cH fY) (tn:Nat ->Heap ->Prop) (J:It) (H':Hp)=>lz (WV= .ref it) (Inv X ah σ H' s2) (zL X.prog X.w X.K tg J fp it tn) (tn 0 s2.heap) (∀b∈fp,lv X ah H' b) (R J H')
def PI (X:Cx)(tg iter:Expr)(wi:TI):Prop:=∀ (ah:cH (fY×Obj)) (s:dG) (σ:St) (H:Hp) (R:It ->Hp ->Prop),Inv X ah σ H s ->wi σ H R ->wpAny (model X.prog X.w) X.A (eval iter X.env) (λv s1=>wpAny (model X.prog X.w) X.A (pyIter v) (PIE X ah σ tg R) X.xe s1) X.xe s
def xM (ho:s.heap.get? it=some o)(hc:o.cls= .type n)(hd:o.data= .fields vs)(hn: ["enumerate","zip","dict_itemiterator","dict_reverseitemiterator","odict_iterator","itertools.zip_longest","itertools.pairwise"].contains n=false)(hQ:Q () s):wpAny M A (letOwnedTupleGo tg (.ref it) u) Q E s:=by
 unfold letOwnedTupleGo;cases tg <;>first
 | show bf hQ
 | (cases u<;>first
  | show bf hQ
  | (exact aA (wpAny_load ho ?_)
     rw[hc,hd]
     change wpAny M A (if(["enumerate","zip","dict_itemiterator","dict_reverseitemiterator","odict_iterator","itertools.zip_longest","itertools.pairwise"].contains n && vs[0]? ==some (rawInt _))=true then _ else _) Q E s
     rw[ak (by intro h;rw[hn,Bool.false_and] at h;cases h)]
     show bf hQ))
def ZT (K:WW)(a:fY):It:=#[λi H=>cx λxs x=>ij K H a xs /\ xs[i]? =some x,λi H x H'=>H'=H /\ ∀xs,ij K H a xs ->xs[i]? =some x,λi H=> ∃xs,ij K H a xs /\ xs.length<=i]
def ZR (K:WW)(a:fY):It:=#[λi H=>cx λxs x=>lm K H a xs /\ xs[i]? =some x,λi H x H'=>H'=H /\ ∀xs,lm K H a xs ->xs[i]? =some x,λi H=> ∃xs,lm K H a xs /\ xs.length<=i]
def ZS (lo:Int)(n:Nat):It:=#[λi _=>i<n,λi H x H'=>H'=H /\ x= .int (lo+i),λi _=>n<=i]
def xj {P:Program}{w:World}{K:WW}{tg:Expr}(a it:fY):zL P w K tg (ZT K a) [it] it (λi h=>h.IsListIter it a i) where
 mem:=by simp
 obj:=λi h st b hb=>by have e:b=it:= ⇑hb;subst e;let⟨o,e,c,d⟩:=st;show#[o,e,λv z=>by rw[d] at z;cases z]
 keep:=λi h h' st k=>st.at λo e=>k it (by simp) o e
 item:=by intro X hP hw hK hc i ah s σ H E I hf st hg;subst hP hw hK;let⟨xs,x,hq,hx⟩:=hg;let⟨bN,rv,p,hz⟩:=I.list hq;let⟨u,hu,ru⟩:=rv.get hx;let⟨f0,f1,f2,f3,f4,f5⟩:=hf it (by simp);exact wpAny_pyNext_list_item st p.isList (x:=u) ⇑hu λh' bM sb=> ?_;have I1:Inv X ah σ H {s with heap:=h'}:=I.turned (t':=s.toks) (λb o hb e=>(sb.2 b hb).trans e) f0 f1 f3 f4 f5;let⟨o,e,c,d⟩:=id bM;show#[u,rfl,xM (s:= {s with heap:=h'}) e c d ⋯ #[x,H,I1,ru,#[rfl,λys hy=>by rw[I.list_inj hy hq];show hx],bM,λb hb=>(hf b hb).1]]
 done:=by intro X hP hw hK hc i ah s σ H E I hf st hg;subst hP hw hK;let⟨xs,hq,hx⟩:=hg;let⟨bN,rv,p,hz⟩:=I.list hq;let⟨f0,f1,f2,f3,f4,f5⟩:=hf it (by simp);have hl:=rv.length;show wpAny_pyNext_list_end (I.ok.hd hc) st p.isList (by simp;lia) λh' eb=>#[rfl,I.turned (t':=s.toks) (λb o hb e=>eb b o hb e) f0 f1 f3 f4 f5]
 self:=λ_ _ _ _ _ st h=>wpAny_pyIter_listiter st h
def uK {P:Program}{w:World}{K:WW}{tg:Expr}(a it:fY):zL P w K tg (ZR K a) [it] it (λi h=>h.IsTupleIter it a i) where
 mem:=by simp
 obj:=λi h st b hb=>by have e:b=it:= ⇑hb;subst e;let⟨o,e,c,d⟩:=st;show#[o,e,λv z=>by rw[d] at z;cases z]
 keep:=λi h h' st k=>st.at λo e=>k it (by simp) o e
 item:=by intro X hP hw hK hc i ah s σ H E I hf st hg;subst hP hw hK;let⟨xs,x,hq,hx⟩:=hg;let⟨bN,rv,p,hz⟩:=I.tuple hq;let⟨u,hu,ru⟩:=rv.get hx;let⟨f0,f1,f2,f3,f4,f5⟩:=hf it (by simp);exact wpAny_pyNext_tuple_item st (show s.heap.IsTuple a bN.toArray from p) (x:=u) ⇑hu λh' bM sb=> ?_;have I1:Inv X ah σ H {s with heap:=h'}:=I.turned (t':=s.toks) (λb o hb e=>(sb.2 b hb).trans e) f0 f1 f3 f4 f5;let⟨o,e,c,d⟩:=id bM;show#[u,rfl,xM (s:= {s with heap:=h'}) e c d ⋯ #[x,H,I1,ru,#[rfl,λys hy=>by rw[I.xk hy hq];show hx],bM,λb hb=>(hf b hb).1]]
 done:=by intro X hP hw hK hc i ah s σ H E I hf st hg;subst hP hw hK;let⟨xs,hq,hx⟩:=hg;let⟨bN,rv,p,hz⟩:=I.tuple hq;let⟨f0,f1,f2,f3,f4,f5⟩:=hf it (by simp);have hl:=rv.length;show wpAny_pyNext_tuple_end (I.ok.hd hc) st (show s.heap.IsTuple a bN.toArray from p) (by simp;lia) λh' eb=>#[rfl,I.turned (t':=s.toks) (λb o hb e=>eb b o hb e) f0 f1 f3 f4 f5]
 self:=λ_ _ _ _ _ st h=>wpAny_pyIter_tupleiter st h
def Cp {P:Program}{w:World}{K:WW}{tg:Expr}(it:fY)(lo:Int)(n:Nat):zL P w K tg (ZS lo n) [it] it (λi h=>IsRangeIter h it (lo+(i:Nat)*1) ((n:Int) - (i:Nat)) 1) where
 mem:=by simp
 obj :=λi h st b hb=>by have e:b=it:= ⇑hb;subst e;show#[_,st,λv z=>by have z':Data.fields _=Data.cell v:=z;cases z']
 keep:=λi h h' st k=>k it (by simp) _ st
 item:=by intro X hP hw hK hc i ah s σ H E I hf st hg;subst hP hw hK;let⟨f0,f1,f2,f3,f4,f5⟩:=hf it (by simp);have W:=Walks.range (prog:=X.prog) (w:=X.w) (I.ok.hd hc) it lo 1 n;exact W.item i s _ _ hg st λv h' tk hv bM kk=> ?_;let⟨t,rfl⟩:=hv;have I1:Inv X ah σ H {s with heap:=h',toks:=tk}:=I.turned (λb o hb e=>kk b o ⇑hb e) f0 f1 f3 f4 f5;exact#[_,rfl,xM (s:= {s with heap:=h',toks:=tk}) (n:= "range_iterator") bM rfl rfl ⋯ #[.int (lo+i),H,I1,#[t,?_],#[rfl,rfl],bM,λb hb=>(hf b hb).1]];rw[Int.mul_one]
 done:=by intro X hP hw hK hc i ah s σ H E I hf st hg;subst hP hw hK;let⟨f0,f1,f2,f3,f4,f5⟩:=hf it (by simp);show wpAny_pyNext_range_end (I.ok.hd hc) st (by have:n<=i:=hg;lia) λh' eb=>#[rfl,I.turned (t':=s.toks) (λb o hb e=>eb b o hb e) f0 f1 f3 f4 f5]
 self:=λ_ _ _ _ _ st h=>wpAny_pyIter_rangeiter st h
def Kf (K:WW)(tl:TE):TI:=λσ H R=>tl σ H λx H1=> ∃a,c8 (x= .ref a) (∃xs,ij K H1 a xs) (R (ZT K a) H1)
def SN (K:WW)(tl:TE):TI:=λσ H R=>tl σ H λx H1=> ∃a,c8 (x= .ref a) (∃xs,lm K H1 a xs) (R (ZR K a) H1)
def uo (hl:PE X l tl):PI X tg l (Kf X.K tl):=by intro ah s σ H R I h;exact c7 (hl ah s σ H _ I h) λv s1 ⟨x,H1,I1,r1,q1⟩=> ?_;let⟨a,e,⟨xs,hq⟩,q⟩:=q1;subst e;cases r1;let⟨bN,rv,p,hz⟩:=I1.list hq;exact wpAny_pyIter_list p.isList ?_;exact#[s1.heap.objs.size,[s1.heap.objs.size],_,_,H1,rfl,I1.kept (t':=s1.toks) λb o e=>av _ e,xj a _,#[_,a6 _ rfl,rfl,rfl],λb hb=> ?_,q];have e:b=s1.heap.objs.size:= ⇑hb;subst e;show I1.Dc (aq _) (I1.cU.fresh (aq _))
def qH (hl:PE X l tl):PI X tg l (SN X.K tl):=by intro ah s σ H R I h;exact c7 (hl ah s σ H _ I h) λv s1 ⟨x,H1,I1,r1,q1⟩=> ?_;let⟨a,e,⟨xs,hq⟩,q⟩:=q1;subst e;cases r1;let⟨bN,rv,p,hz⟩:=I1.tuple hq;exact wpAny_pyIter_tuple (show s1.heap.IsTuple a bN.toArray from p) ?_;exact#[s1.heap.objs.size,[s1.heap.objs.size],_,_,H1,rfl,I1.kept (t':=s1.toks) λb o e=>av _ e,uK a _,#[_,a6 _ rfl,rfl,rfl],λb hb=> ?_,q];have e:b=s1.heap.objs.size:= ⇑hb;subst e;show I1.Dc (aq _) (I1.cU.fresh (aq _))
def Jb {σ:St}{lo hi:Int}(I:Inv X ah σ H s)(h1: -(2 ^ 62) <=lo)(h2:lo<2 ^ 62)(h3: -(2 ^ 62) <=hi)(h4:hi<2 ^ 62)(q:R (ZS lo (hi - lo).toNat) H):wpAny (model X.prog X.w) X.A (pyIter (.ref s.heap.objs.size)) (PIE X ah σ tg R) E {s with heap:=s.heap.push {cls:= .type "range",data:= .fields (List.toArray [.int lo t, .int hi u, .int 1 v])},toks:=tk}:=by
 exact wpAny_pyIter_range (IsRange.new ..) (small_one h1 h2 h3 h4) ?_;have I1:Inv X ah σ H {s with heap:=s.heap.push {cls:= .type "range",data:= .fields (List.toArray [.int lo t, .int hi u, .int 1 v])},toks:=tk}:=I.kept λb o e=>av _ e;exact#[(s.heap.push {cls:= .type "range",data:= .fields (List.toArray [.int lo t, .int hi u, .int 1 v])}).objs.size,[(s.heap.push {cls:= .type "range",data:= .fields (List.toArray [.int lo t, .int hi u, .int 1 v])}).objs.size],_,_,H,rfl,I1.kept (t':=tk) λb o e=>av _ e,Cp _ lo (hi - lo).toNat,?_,λb hb=> ?_,q];have e1:lo+((0:Nat):Int)*1=lo:=by simp
 have e2:(((hi - lo).toNat:Nat):Int) - ((0:Nat):Int)=Builtin.Range.rangeSize lo hi 1:=by rw[rangeSize_one];split<;>lia
 change IsRangeIter _ _ (lo+((0:Nat):Int)*1) ((((hi - lo).toNat:Nat):Int) - ((0:Nat):Int)) 1;rw[e1,e2];show a6 _ rfl;have e:b=(s.heap.push {cls:= .type "range",data:= .fields (List.toArray [.int lo t, .int hi u, .int 1 v])}).objs.size:=by simpa using hb
 subst e;show I1.Dc (aq _) (I1.cU.fresh (aq _))
def Qh (ta:TA):TI:=λσ H R=>ta σ H λvs H1=> ∃j:Int,fA (vs= [.int j]) (-(2 ^ 62) <=j) (j<2 ^ 62) (R (ZS 0 j.toNat) H1)
def fX (hg:Gl X "range")(hm:X.mg "range" =none)(ha:PA X [a] ta)(hs:starEach [a] X.env= [(false,eval a X.env)]:=by rfl):PI X tg (.Call (.Name "range" p) [a] [] pos) (Qh ta):=by
 intro ah s σ H R I h;exact Call_ (zk I hg hm boot_range (PyProof.Rows.callWith_type1 (c7 (ha pos ah s σ H _ I h) λus s1 ⟨vs,H1,I1,r1,q1⟩=> ?_) hs rfl));let⟨j,e,q1,q2,q⟩:=q1;subst e;cases r1 with
 | cons r rr=>cases rr;let⟨t,rfl⟩:=r;show call_range_1 (Jb I1 ∅ ∅ q1 q2 ⇑q)
def Vz (wi:TI)(g:TG)(tb:TS):TS:=λD σ H=>wi σ H λJ H1=> ∃W:Nat ->Nat ->St ->Hp ->Prop,(∃m,W 0 m σ H1) /\ ∀i m σ H,W i m σ H ->(J.stop i H /\ D.nx σ H) \/ (J.go i H /\ ∃N:St ->Hp ->Prop,(∀σ' H',N σ' H' -> ∃m',m'<m /\ W (i+1) m' σ' H') /\ ∀x H',J.TY i H x H' ->g x σ H' λσ2 H2=>tb {D with nx:=N,ct:=N,bk:=D.nx} σ2 H2)
def iU (fp:cH fY)(h:Heap):cH (fY×Obj):=fp.filterMap λb=>(h.get? b).map λo=>(b,o)
theorem fD (hb:b∈fp)(e:h.get? b=some o):(b,o)∈iU fp h:=List.mem_filterMap.mpr #[b,hb,by rw[e];rfl]
def Gw (hp:p∈iU fp h):p.1∈fp /\ h.get? p.1=some p.2:=by
 let⟨b,hb,e⟩:=List.mem_filterMap.mp hp;cases q:h.get? b with
 | none=>rw[q] at e;cases e
 | some o=>rw[q] at e;have e':(b,o)=p:=bA e;subst e';show#[hb,q]
theorem Inv.pinned {σ:St}(I:Inv X ah σ H s)(hf: ∀b∈fp,lv X ah H b)(ho: ∀b∈fp, ∃o,s.heap.get? b=some o /\ ∀v,o.data≠ .cell v):Inv X (ah++iU fp s.heap) σ H s:=I.Ew λp hp=>(be.mp hp).elim (λz=>I.pin p (a4 _ z)) λz=>by let⟨hb,e⟩:=Gw z;let⟨f0,f1,f2,_⟩:=hf p.1 hb;let⟨o,e',d⟩:=ho p.1 hb;rw[e] at e';cases e';show#[e,f0,f1,f2,d]
theorem Inv.jE {σ:St}(I:Inv X (ah++pl) σ H s):Inv X ah σ H s:=I.Ew λp hp=>I.pin p (a4 _ (List.mem_append_left _ hp))
def gD (hp:PassesOwn (model X.prog X.w) X.A X.env X.xe)(hc:X.calm=true)(hi:PI X tg iter wi)(hg:PG X tg g)(hb:zY X body tb)(hs: ∀x,foldedSetIterable iter X.env x=pure x:=by intro _;rfl):PS X (.For tg iter body [] pos) (Vz wi g tb):=by
 intro ah s σ H D I h;exact wpAny_For (c7 (hi ah s σ H _ I h) λv s1 h1=>c7 h1 λWV s2 h2=> ?_) hs;let⟨it,fp,tn,J,H2,e,I2,T,oK,f2,W,⟨m0,w0⟩,turn⟩:=h2;subst e;have uP: ∀ {H':Hp},(∀b∈fp,H' b=none) -> ∀b∈fp,lv X ah H' b:=λhn b hb=>#[hn b hb,(f2 b hb).2]
 exact codeAny_forLoop_any (λn s'=>eZ λi σ' H'=>fA (Inv X ah σ' H' s') (tn i s'.heap) (∀b∈fp,H' b=none) (W i n σ' H')) ?_ m0 #[0,σ,H2,I2,oK,λb hb=>(f2 b hb).1,w0];rintro n s3 ⟨i,σ3,H3,I3,wx,fr3,w3⟩;rcases turn i n σ3 H3 w3 with⟨stop,qn⟩ | ⟨go,N,hN,step⟩
 .exact wpAny_passesOwn hp (c7 (T.done X rfl rfl rfl hc i ah s3 σ3 H3 X.xe I3 (uP fr3) wx stop) λr s4 ⟨hr,I4⟩=> ?_);subst hr;show wpAny_execs_nil #[σ3,H3,I4,qn]
 .exact wpAny_passesOwn hp (c7 (T.item X rfl rfl rfl hc i ah s3 σ3 H3 X.xe I3 (uP fr3) wx go) λr s4 ⟨u,hr,h4⟩=> ?_);subst hr;exact wpAny_passesOwn hp (c7 h4 λ_ s5 ⟨x,H5,I5,r5,y5,Ue,fr5⟩=> ?_);have I5':=I5.pinned (uP fr5) (T.obj _ _ Ue);exact wpAny_passesOwn hp (c7 (hg _ s5 σ3 H5 x u _ I5' r5 (step x H5 y5)) λ_ s6 ⟨σ6,H6,I6,q6⟩=> ?_);exact wpAny_passesOwn hp (c7 (hb _ s6 σ6 H6 _ I6 q6) λf s7 q7=> ?_);have again: ∀ {σ7:St} {H7:Hp},Inv X (ah++iU fp s5.heap) σ7 H7 s7 ->N σ7 H7 -> ∃m,m<n /\ eZ λi σ' H'=>fA (Inv X ah σ' H' s7) (tn i s7.heap) (∀b∈fp,H' b=none) (W i m σ' H'):=λ{σ7 H7} I7 n7=>by let⟨m',hm,w7⟩:=hN σ7 H7 n7;exact#[m',hm,i+1,σ7,H7,I7.jE,T.keep _ _ _ Ue λb hb o e=>(I7.pin (b,o) (a4 _ (a4 _ (fD hb e)))).1,λb hb=> ?_,w7];let⟨o,e,d⟩:=T.obj _ _ Ue b hb;show(I7.pin (b,o) (a4 _ (a4 _ (fD hb e)))).2.1
  cases f with
  | next=>let⟨σ7,H7,I7,n7⟩:=q7;show again I7 n7
  | cont=>let⟨σ7,H7,I7,n7⟩:=q7;show again I7 n7
  | brk=>let⟨σ7,H7,I7,q7⟩:=q7;show#[σ7,H7,I7.jE,q7]
  | ret v=>let⟨x7,σ7,H7,I7,r7,q7⟩:=q7;show#[x7,σ7,H7,I7.jE,r7,q7]
abbrev R2:=V ->V ->Hp ->VK ->Prop
def jd (X:Cx)(f:df ->df ->Sem df)(r:R2):Prop:=∀ (ah:cH (fY×Obj)) (s:dG) (σ:St) (H:Hp) (x y:V) (v u:df) (Q:VK),Inv X ah σ H s ->RelV x v ->RelV y u ->r x y H Q ->wpAny (model X.prog X.w) X.A (f v u) (EP X ah σ Q) X.xe s
def UnR (X:Cx)(f:df ->Sem df)(r:V ->Hp ->VK ->Prop):Prop:=∀ (ah:cH (fY×Obj)) (s:dG) (σ:St) (H:Hp) (x:V) (v:df) (Q:VK),Inv X ah σ H s ->RelV x v ->r x H Q ->wpAny (model X.prog X.w) X.A (f v) (EP X ah σ Q) X.xe s
def fJ (X:Cx)(f:df)(r:cH V ->Hp ->VK ->Prop):Prop:=∀ (ah:cH (fY×Obj)) (s:dG) (σ:St) (H:Hp) (xs:cH V) (us:cH df) (Q:VK),Inv X ah σ H s ->cj xs us ->r xs H Q ->wpAny (model X.prog X.w) X.A (call f us) (EP X ah σ Q) X.xe s
def ahJ (X:Cx)(r:V ->Hp ->(Bool ->Hp ->Prop) ->Prop):Prop:=∀ (ah:cH (fY×Obj)) (s:dG) (σ:St) (H:Hp) (x:V) (v:df) (Q:Bool ->Hp ->Prop),Inv X ah σ H s ->RelV x v ->r x H Q ->wpAny (model X.prog X.w) X.A (truthy v) (TP X ah σ Q) X.xe s
def Vt (r:R2)(ta tb:TE):TE:=λσ H Q=>ta σ H λx H1=>tb σ H1 λy H2=>r x y H2 Q
def tUn (r:V ->Hp ->VK ->Prop)(ta:TE):TE:=λσ H Q=>ta σ H λx H1=>r x H1 Q
def rI (C:Int ->Int ->Prop)(g:Int ->Int ->V):R2:=λx y H Q=>cx λi j=>fA (x= .int i) (y= .int j) (C i j) (Q (g i j) H)
def MN (g:Int ->Int ->V):R2:=λx y H Q=>cx λi j=>c8 (x= .int i) (y= .int j) (Q (g i j) H)
def rU (g:Int ->V):V ->Hp ->VK ->Prop:=λx H Q=> ∃i,x= .int i /\ Q (g i) H
def Tz (ha:PE X a ta)(hb:PE X b tb){σ:St}{R:V ->V ->Hp ->Prop}(I:Inv X ah σ H s)(h:ta σ H λx H1=>tb σ H1 λy H2=>R x y H2){f:df ->df ->Sem df}(hf: ∀v u s2 x y H2,Inv X ah σ H2 s2 ->RelV x v ->RelV y u ->R x y H2 ->wpAny (model X.prog X.w) X.A (f v u) Q X.xe s2): wpAny (model X.prog X.w) X.A (eval a X.env) (λv s₁=>wpAny (model X.prog X.w) X.A (eval b X.env) (λu s₂=>wpAny (model X.prog X.w) X.A (f v u) Q X.xe s₂) X.xe s₁) X.xe s:=by exact c7 (ha ah s σ H _ I h) λv s1 ⟨x,H1,I1,r1,q1⟩=> ?_;exact c7 (hb ah s1 σ H1 _ I1 q1) λu s2 ⟨y,H2,I2,r2,q2⟩=> ?_;show hf v u s2 x y H2 I2 r1 r2 q2
def bP (ho:jd X (binaryOp op) r)(ha:PE X a ta)(hb:PE X b tb):PE X (.BinOp a op b pos) (Vt r ta tb):=by intro ah s σ H Q I h;show wpAny_BinOp (Tz ha hb I h λv u s2 x y H2 I2 rx ry q=>ho ah s2 σ H2 x y v u Q I2 rx ry q)
def fN (ho:UnR X (unaryOp op) r)(ha:PE X a ta):PE X (.UnaryOp op a pos) (tUn r ta):=by intro ah s σ H Q I h;show UnaryOp_ (c7 (ha ah s σ H _ I h) λv s1 ⟨x,H1,I1,r1,q1⟩=>ho ah s1 σ H1 x v Q I1 r1 q1)
def Zc {g:Int ->Int ->Int}(rule: ∀ (i j:Int) (t u:Tok) (s:dG) (Q:df ->dG ->Prop) (E:df ->dG ->Prop),C i j ->Q (.int (g i j) s.toks) {s with toks:=s.toks+1} ->wpAny (model X.prog X.w) X.A (f (.int i t) (.int j u)) Q E s): jd X f (rI C λi j=> .int (g i j)):=by intro ah s σ H x y v u Q I rx ry h;let⟨i,j,rfl,rfl,hc,q⟩:=h;let⟨t,rfl⟩:=rx;let⟨t',rfl⟩:=ry;show rule i j t t' s _ _ hc #[.int (g i j),H,I.tok _,#[_,rfl],q]
def Wh {g:Int ->Int ->Int}(rule: ∀ (i j:Int) (t u:Tok) (s:dG) (Q:df ->dG ->Prop) (E:df ->dG ->Prop),Q (.int (g i j) s.toks) {s with toks:=s.toks+1} ->wpAny (model X.prog X.w) X.A (f (.int i t) (.int j u)) Q E s): jd X f (MN λi j=> .int (g i j)):=by intro ah s σ H x y v u Q I rx ry h;let⟨i,j,rfl,rfl,q⟩:=h;let⟨t,rfl⟩:=rx;let⟨t',rfl⟩:=ry;show rule i j t t' s _ _ #[.int (g i j),H,I.tok _,#[_,rfl],q]
def Nj {g:Int ->Int ->Bool}(rule: ∀ (i j:Int) (t u:Tok) (s:dG) (Q:df ->dG ->Prop) (E:df ->dG ->Prop),Q (.bool (g i j)) s ->wpAny (model X.prog X.w) X.A (f (.int i t) (.int j u)) Q E s): jd X f (MN λi j=> .bl (g i j)):=by intro ah s σ H x y v u Q I rx ry h;let⟨i,j,rfl,rfl,q⟩:=h;let⟨t,rfl⟩:=rx;let⟨t',rfl⟩:=ry;show rule i j t t' s _ _ #[.bl (g i j),H,I,rfl,q]
def LL (i j:Int):Prop:=0<j /\ j<1073741824
def TX (i j:Int):Prop:=0<=j /\ j<=1000000 /\ i.natAbs<2 ^ 64
def nv (i j:Int):Prop:=(-(2 ^ 64) <i /\ i<2 ^ 64) \/ (-(2 ^ 64) <j /\ j<2 ^ 64)
def nv.ok (h:nv i j):IntMulOk i j:=by
 rcases h with⟨h1,h2⟩ | ⟨h1,h2⟩
 show .of_left (intBits_le_64 h1 h2);show .of_right (intBits_le_64 h1 h2)
theorem fm:jd X (binaryOp .Add) (MN λi j=> .int (i+j)):=Wh λ_ _ _ _ _ _ _ q=>add_int q
theorem qK:jd X (binaryOp .Sub) (MN λi j=> .int (i - j)):=Wh λ_ _ _ _ _ _ _ q=>sub_int q
theorem hW:jd X (binaryOp .Mult) (rI nv λi j=> .int (i*j)):=Zc λ_ _ _ _ _ _ _ hc q=>mul_int q hc.ok
theorem EG:jd X (binaryOp .FloorDiv) (rI LL λi j=> .int (i / j)):=Zc λi j _ _ _ _ _ hc q=>by have h1:(0:Int) <j:=hc.1;have h2:j<1073741824:=hc.2;show floordiv_int ∅ (by rw[Int.fdiv_eq_ediv_of_nonneg i ∅];show q) (.inl (PyProof.noPylong_small ∅))
theorem lV:jd X (binaryOp .Mod) (rI (λ_ j=>0<j) λi j=> .int (i % j)):=Zc λi j _ _ _ _ _ hc q=>by have h1:(0:Int) <j:=hc;show mod_int' ∅ (by rw[Int.fmod_eq_emod_of_nonneg i ∅];show q)
theorem RZ:jd X (binaryOp .Pow) (rI TX λi j=> .int (i ^ j.toNat)):=Zc λ_ _ _ _ _ _ _ hc q=>pow_int_small hc.1 hc.2.1 hc.2.2 q
def unI {g:Int ->Int}(rule: ∀ (i:Int) (t:Tok) (s:dG) (Q:df ->dG ->Prop) (E:df ->dG ->Prop),Q (.int (g i) s.toks) {s with toks:=s.toks+1} ->wpAny (model X.prog X.w) X.A (f (.int i t)) Q E s): UnR X f (rU λi=> .int (g i)):=by intro ah s σ H x v Q I rx h;let⟨i,rfl,q⟩:=h;let⟨t,rfl⟩:=rx;show rule i t s _ _ #[.int (g i),H,I.tok _,#[_,rfl],q]
theorem eN:UnR X (unaryOp .USub) (rU λi=> .int (-i)):=unI λ_ _ _ _ _ q=>neg_int q
def ME:V ->V ->Bool
 | .ez, .ez=>true | .ez, .int _=>true | .int _, .ez=>true | .ez, .bl _=>true | .bl _, .ez=>true | .ez, .str _=>true | .str _, .ez=>true
 | .int _, .int _=>true | .bl _, .bl _=>true | .str _, .str _=>true | .Dm _, .Dm _=>true
 | .int _, .str _=>true | .str _, .int _=>true | .bl _, .str _=>true | .str _, .bl _=>true
 | _,_=>false
def rEq:R2:=λx y H Q=>ME x y=true /\ Q (.bl (decide (x=y))) H
def rNe:R2:=λx y H Q=>ME x y=true /\ Q (.bl (!decide (x=y))) H
def Ft:decide (V.int i=V.int j)=(i==j):=by rw[Bool.eq_iff_iff];simp
def KS:decide (V.bl i=V.bl j)=(i==j):=by rw[Bool.eq_iff_iff];simp
def Fq:decide (V.str i=V.str j)=(i==j):=by rw[Bool.eq_iff_iff];simp
def Fu:decide (V.Dm i=V.Dm j)=(i.toList==j.toList):=by rw[Bool.eq_iff_iff];cases i;cases j;simp
section
variable {X:Cx}{a b c:Expr}{ta tb tc:TE}{pos:Pos}
def cV {σ:St}(I:Inv X ah σ H s)(q:Q (.bl k) H)(e:k=k'):EP X ah σ Q (.bool k') s:=by subst e;show#[.bl k,H,I,rfl,q]
def c9:jd X (compareOp .Eq) rEq:=by
 intro ah s σ H x y v u Q I rx ry h;let⟨hs,q⟩:=h;cases x with
 | ez=>
  cases rx;cases y with
  | ez=>cases ry;show PySem.EqNone.eq_none_none (cV I q (by simp))
  | bl j=>cases ry;show PySem.EqNone.eq_none_bool (cV I q (by simp))
  | int j=>let⟨t',rfl⟩:=ry;show PySem.EqNone.eq_none_int (cV I q (by simp))
  | str j=>let⟨t',rfl⟩:=ry;show PySem.EqNone.eq_none_str (cV I q (by simp))
  | _=>show absurd (show false=true from hs) br
 | bl i=>
  cases rx;cases y with
  | ez=>cases ry;show PySem.EqNone.eq_bool_none (cV I q (by simp))
  | bl j=>cases ry;show eq_bool (cV I q KS)
  | str j=>let⟨t',rfl⟩:=ry;show PySem.EqMixed.eq_bool_str (cV I q (by simp))
  | _=>show absurd (show false=true from hs) br
 | int i=>
  let⟨t,rfl⟩:=rx;cases y with
  | ez=>cases ry;show PySem.EqNone.eq_int_none (cV I q (by simp))
  | int j=>let⟨t',rfl⟩:=ry;show eq_int (cV I q Ft)
  | str j=>let⟨t',rfl⟩:=ry;show PySem.EqMixed.eq_int_str (cV I q (by simp))
  | _=>show absurd (show false=true from hs) br
 | str i=>
  let⟨t,rfl⟩:=rx;cases y with
  | ez=>cases ry;show PySem.EqNone.eq_str_none (cV I q (by simp))
  | bl j=>cases ry;show PySem.EqMixed.eq_str_bool (cV I q (by simp))
  | int j=>let⟨t',rfl⟩:=ry;show PySem.EqMixed.eq_str_int (cV I q (by simp))
  | str j=>let⟨t',rfl⟩:=ry;show eq_str (cV I q Fq)
  | _=>show absurd (show false=true from hs) br
 | Dm i=>
  let⟨t,rfl⟩:=rx;cases y with
  | Dm j=>let⟨t',rfl⟩:=ry;show W.eq_bytes (cV I q Fu)
  | _=>show absurd (show false=true from hs) br
 | _=>cases y<;>show absurd (show false=true from hs) br
def pf:jd X (compareOp .NotEq) rNe:=by
 intro ah s σ H x y v u Q I rx ry h;let⟨hs,q⟩:=h;cases x with
 | ez=>
  cases rx;cases y with
  | ez=>cases ry;show PySem.EqNone.ne_none_none (cV I q (by simp))
  | bl j=>cases ry;show PySem.EqNone.ne_none_bool (cV I q (by simp))
  | int j=>let⟨t',rfl⟩:=ry;show PySem.EqNone.ne_none_int (cV I q (by simp))
  | str j=>let⟨t',rfl⟩:=ry;show PySem.EqNone.ne_none_str (cV I q (by simp))
  | _=>show absurd (show false=true from hs) br
 | bl i=>
  cases rx;cases y with
  | ez=>cases ry;show PySem.EqNone.ne_bool_none (cV I q (by simp))
  | bl j=>cases ry;show ne_bool (cV I q (congrArg not KS))
  | str j=>let⟨t',rfl⟩:=ry;show PySem.EqMixed.ne_bool_str (cV I q (by simp))
  | _=>show absurd (show false=true from hs) br
 | int i=>
  let⟨t,rfl⟩:=rx;cases y with
  | ez=>cases ry;show PySem.EqNone.ne_int_none (cV I q (by simp))
  | int j=>let⟨t',rfl⟩:=ry;show ne_int (cV I q (congrArg not Ft))
  | str j=>let⟨t',rfl⟩:=ry;show PySem.EqMixed.ne_int_str (cV I q (by simp))
  | _=>show absurd (show false=true from hs) br
 | str i=>
  let⟨t,rfl⟩:=rx;cases y with
  | ez=>cases ry;show PySem.EqNone.ne_str_none (cV I q (by simp))
  | bl j=>cases ry;show PySem.EqMixed.ne_str_bool (cV I q (by simp))
  | int j=>let⟨t',rfl⟩:=ry;show PySem.EqMixed.ne_str_int (cV I q (by simp))
  | str j=>let⟨t',rfl⟩:=ry;show ne_str (cV I q (congrArg not Fq))
  | _=>show absurd (show false=true from hs) br
 | Dm i=>
  let⟨t,rfl⟩:=rx;cases y with
  | Dm j=>let⟨t',rfl⟩:=ry;show W.ne_bytes (cV I q (congrArg not Fu))
  | _=>show absurd (show false=true from hs) br
 | _=>cases y<;>show absurd (show false=true from hs) br
theorem ip:jd X (compareOp .Lt) (MN λi j=> .bl (decide (i<j))):=Nj λ_ _ _ _ _ _ _ q=>lt_int q
theorem pi:jd X (compareOp .LtE) (MN λi j=> .bl (decide (i<=j))):=Nj λ_ _ _ _ _ _ _ q=>le_int q
theorem Jx:jd X (compareOp .Gt) (MN λi j=> .bl (decide (j<i))):=Nj λ_ _ _ _ _ _ _ q=>gt_int q
theorem AH:jd X (compareOp .GtE) (MN λi j=> .bl (decide (j<=i))):=Nj λ_ _ _ _ _ _ _ q=>ge_int q
def Gn:jd X (compareOp .In) (λx y H Q=>cx λi j=>c8 (x= .str i) (y= .str j) (Q (.bl (!(Builtin.Str.occurrences j i 0 j.length 1).isEmpty)) H)):=by intro ah s σ H x y v u Q I rx ry h;let⟨i,j,rfl,rfl,q⟩:=h;let⟨t,rfl⟩:=rx;let⟨t',rfl⟩:=ry;show in_str (cV I q rfl)
def Nh:jd X (compareOp .IsNot) (λx y H Q=>y= .ez /\ Q (.bl (!decide (x= .ez))) H):=by
 intro ah s σ H x y v u Q I rx ry h;let⟨rfl,q⟩:=h;cases ry;exact isnot_none_gen (cV I q ?_);cases x<;>first
 | (cases rx;rfl)
 | (let⟨t,rfl⟩:=rx;rfl)
def a9 (b:Expr)(h:op≠ .In:=by decide)(h2:op≠ .NotIn:=by decide):behindInMarks op b=false:=by
 have e1:(op==CmpOp.In)=false:=by cases op<;>first | rfl | show absurd rfl h
 have e2:(op==CmpOp.NotIn)=false:=by cases op<;>first | rfl | show absurd rfl h2
 cases b<;>simp[behindInMarks,e1,e2]
def iA (ho:jd X (compareOp op) r)(ha:PE X a ta)(hb:PE X b tb)(hm:behindInMarks op b=false):PE X (.Compare a [op] [b] pos) (Vt r ta tb):=by intro ah s σ H Q I h;show wpAny_Compare1 (Tz ha hb I h λv u s2 x y H2 I2 rx ry q=>ho ah s2 σ H2 x y v u Q I2 rx ry q) hm
def Ij (t:TE):TT:=λσ H Q=>t σ H λx H'=> ∃k,x= .bl k /\ Q k H'
def aS (ho:jd X (compareOp op) r)(ha:PE X a ta)(hb:PE X b tb)(hm:behindInMarks op b=false):PT X (.Compare a [op] [b] pos) (Ij (Vt r ta tb)):=by intro ah s σ H Q I h;exact wpAny_isTrue_Compare1 (c7 (ha ah s σ H _ I h) λv s1 ⟨x,H1,I1,r1,q1⟩=>c7 (hb ah s1 σ H1 _ I1 q1) λu s2 ⟨y,H2,I2,r2,q2⟩=>c7 (ho ah s2 σ H2 x y v u _ I2 r1 r2 q2) λc s3 ⟨z,H3,I3,r3,k,e,q3⟩=> ?_) hm;subst e;cases r3;show cA #[H3,I3,q3]
def Ct (r r':R2)(ta tb tc:TE):TE:=λσ H Q=>ta σ H λx H1=>tb σ H1 λy H2=>r x y H2 λz H3=> ∃k,z= .bl k /\(if k=true then tc σ H3 λw' H4=>r' y w' H4 Q else Q (.bl false) H3)
def Jm (ho:jd X (compareOp op) r)(zq:jd X (compareOp R1) r')(ha:PE X a ta)(hb:PE X b tb)(hc:PE X c tc)(hm:lastMarks [op,R1] [b,c]=false:=by with_unfolding_all rfl):PE X (.Compare a [op,R1] [b,c] pos) (Ct r r' ta tb tc):=by
 intro ah s σ H Q I h;exact Compare_chain (c7 (ha ah s σ H _ I h) λv s1 ⟨x,H1,I1,r1,q1⟩=>chain_link (c7 (hb ah s1 σ H1 _ I1 q1) λu s2 ⟨y,H2,I2,r2,q2⟩=>c7 (ho ah s2 σ H2 x y v u _ I2 r1 r2 q2) λd s3 ⟨z,H3,I3,r3,k,e,q3⟩=> ?_)) hm;subst e;cases r3;exact cA ?_;cases k with
 | false=>show ite_ff #[.bl false,H3,I3,rfl,q3]
 | true=>show ite_tt (chain_last (c7 (hc ah s3 σ H3 _ I3 q3) λw' s4 ⟨z',H4,I4,r4,q4⟩=>zq ah s4 σ H4 y z' u w' Q I4 r2 r4 q4))
def pc (ho:jd X (compareOp op) r)(zq:jd X (compareOp R1) r')(ha:PE X a ta)(hb:PE X b tb)(hc:PE X c tc)(hm:lastMarks [op,R1] [b,c]=false:=by with_unfolding_all rfl):PT X (.Compare a [op,R1] [b,c] pos) (Ij (Ct r r' ta tb tc)):=by
 intro ah s σ H Q I h;exact isTrue_chain (c7 (ha ah s σ H _ I h) λv s1 ⟨x,H1,I1,r1,q1⟩=>test_link (c7 (hb ah s1 σ H1 _ I1 q1) λu s2 ⟨y,H2,I2,r2,q2⟩=>c7 (ho ah s2 σ H2 x y v u _ I2 r1 r2 q2) λd s3 ⟨z,H3,I3,r3,k,e,q3⟩=> ?_)) hm;subst e;cases r3;exact cA ?_;cases k with
 | false=>let⟨k',e',q'⟩:=q3;cases e';show ite_ff #[H3,I3,q']
 | true=>exact ite_tt (test_last (c7 (hc ah s3 σ H3 _ I3 q3) λw' s4 ⟨z',H4,I4,r4,q4⟩=>c7 (zq ah s4 σ H4 y z' u w' _ I4 r2 r4 q4) λd' s5 ⟨z2,H5,I5,r5,k2,e2,q5⟩=> ?_));subst e2;cases r5;show cA #[H5,I5,q5]
def OE (K:WW)(x:V)(H:Hp)(k:Bool):Prop:=
 match x with
 | .ez=>k=false
 | .bl b=>k=b
 | .int i=>k=(i !=0)
 | .str y=>y.length<=sizeLine /\ k=((y.length:Int) !=0)
 | .Dm y=>y.size<=sizeLine /\ k=((y.size:Int) !=0)
 | .ref p=>(∃xs,ij K H p xs /\ k= !xs.isEmpty) \/ (∃xs,lm K H p xs /\ k= !xs.isEmpty) \/ ∃kvs,H p=some (.dK kvs) /\ k= !kvs.isEmpty
 | _=>False
def C1 {vs:cH (κ×df)}(r:KV kvs vs):(!vs.isEmpty)= !kvs.isEmpty:=by cases r<;>rfl
def vv (r:cj xs bN):(!bN.toArray.isEmpty)= !xs.isEmpty:=by cases r<;>simp
def oh:(sizeLine:Nat) <2 ^ 63:=by rw[cY];decide
def Rb:ahJ X (λx H Q=> ∃k,OE X.K x H k /\ Q k H):=by
 intro ah s σ H x v Q I rx h;let⟨k,e,q⟩:=h;have hl:=oh;have hs:sizeLine=16777216:=cY;cases x with
 | ez=>cases rx;have e':k=false:=e;subst e';show truthy_none #[H,I,q]
 | bl b=>cases rx;have e':k=b:=e;subst e';show cA #[H,I,q]
 | int i=>let⟨t,rfl⟩:=rx;have e':k=(i !=0):=e;subst e';show PySem.P.truthy_int #[H,I,q]
 | str y=>let⟨t,rfl⟩:=rx;let⟨hy,e'⟩:y.length<=sizeLine /\ k=((y.length:Int) !=0):=e;subst e';show PySem.P.truthy_str ∅ #[H,I.tok _,q]
 | Dm y=>let⟨t,rfl⟩:=rx;let⟨hy,e'⟩:y.size<=sizeLine /\ k=((y.size:Int) !=0):=e;subst e';show W.truthy_bytes ∅ #[H,I.tok _,q]
 | ref p=>
  cases rx;have e':(∃xs,ij X.K H p xs /\ k= !xs.isEmpty) \/ (∃xs,lm X.K H p xs /\ k= !xs.isEmpty) \/ ∃kvs,H p=some (.dK kvs) /\ k= !kvs.isEmpty:=e;rcases e' with⟨xs,hx,e'⟩ | ⟨xs,hx,e'⟩ | ⟨kvs,hx,e'⟩
  subst e';let⟨bN,r,pl,hz⟩:=I.list hx;have dR:=r.length;show wpAny_truthy_list pl.isList (by simp![aO];lia) #[H,I.tok _,by rw[vv r];show q];subst e';let⟨bN,r,pl,hz⟩:=I.tuple hx;have dR:=r.length;show truthy_tuple pl (by simp![aO];lia) #[H,I.tok _,by rw[vv r];show q];subst e';let⟨hz,hS,vs,r,m⟩:kvs.length<=sizeLine /\ (p==sysModules)=false /\ ∃vs,KV kvs vs /\ s.heap.DictOf (cO X.prog X.w) p vs:=I.cU p _ hx;have dR:kvs.length=vs.length:=Paired.length r;show wpAny_truthy_dict hS m ∅ #[H,I.tok _,by rw[C1 r];show q]
 | _=>show(show False from e).elim
def Jh (ha:PE X a ta)(he: ∀nw,isTrue a X.env nw=(do let v <- nw;standAt a.pos;holding [v] (truthy v))): PT X a (λσ H Q=>ta σ H λx H'=> ∃k,OE X.K x H' k /\ Q k H'):=by intro ah s σ H Q I h;show isTrue_plain (c7 (ha ah s σ H _ I h) λv s1 ⟨x,H1,I1,r1,q1⟩=>Rb ah s1 σ H1 x v Q I1 r1 q1) (he _)
def CJ:jd X (binaryOp .Add) (λx y H Q=>cx λi j=>fA (x= .str i) (y= .str j) (i.length+j.length<=sizeLine) (Q (.str (i++j)) H)):=by intro ah s σ H x y v u Q I rx ry h;let⟨i,j,rfl,rfl,hz,q⟩:=h;let⟨t,rfl⟩:=rx;let⟨t',rfl⟩:=ry;show add_str (λt' tk=>#[.str (i++j),H,I.tok _,#[_,rfl],q]) hz
def vals1 (r:cj [x] us): ∃u,us= [u] /\ RelV x u:=by
 cases r with
 | cons r1 r2=>cases r2;show#[_,rfl,r1]
def vals2 (r:cj [x,y] us):cx λu w'=>c8 (us= [u,w']) (RelV x u) (RelV y w'):=by
 cases r with
 | cons r1 r2=>
  cases r2 with
  | cons r3 r4=>cases r4;show#[_,_,rfl,r1,r3]
def K':fJ X (.builtin "abs") (λxs H Q=> ∃i,xs= [.int i] /\ Q (.int (if i<0 then -i else i)) H):=by intro ah s σ H xs us Q I r h;let⟨i,rfl,q⟩:=h;let⟨u,rfl,t,rfl⟩:=vals1 r;show call_abs_int λu tk=>#[.int (if i<0 then -i else i),H,I.tok _,#[_,rfl],q]
def zC:fJ X (.type "str") (λxs H Q=> ∃i,c8 (xs= [.int i]) (i.natAbs.log2<1920) (Q (.str (toString i)) H)):=by intro ah s σ H xs us Q I r h;let⟨i,rfl,hz,q⟩:=h;let⟨u,rfl,t,rfl⟩:=vals1 r;show PySem.P.str_of_int hz #[.str _,H,I.tok _,#[_,rfl],q]
end
structure Dw (h:Heap)(x dx C:Addr)(mA:Str ->Option Value):Prop where
 obj:h.get? x=some (PySem.W.instObj C dx)
 ns:h.Ns1 dx mA
 ne:dx≠x
def GD {h:Heap}(n:h.Ns1 dx mA): ∃od,h.get? dx=some od /\ ∀name,W.lookIn name od=some (mA name):=by
 let⟨o,es,ep,ho,hd,hk,_,hm⟩:=n;exact#[o,ho,λname=> ?_];have e:=hm name;unfold nsFind findBy at e;rw[<- Array.find?_toList] at e;unfold W.lookIn;rw[hd];dsimp only;split;rename_i y q;rw[q] at e;show congrArg some e;rename_i q;rw[q] at e;have a:es.toList.any (·.refKey)=false:=by rw[List.any_eq_false];intro y hy;let⟨z,t,Ta⟩:=hk y (Array.mem_toList_iff.mp hy);simp[DictEntry.refKey,Ta]
 have a':¬es.toList.any (·.refKey)=true:=by rw[a];show br
 rw[ak a'];show congrArg some e
theorem Dw.look (I:Dw h x dx C mA): ∃od,W.InstAt h x (W.instObj C dx) C (some od) /\ ∀name,W.lookIn name od=some (mA name):=
 let ⟨od,ho,hl⟩:=GD I.ns
 #[od,#[I.obj,rfl,rfl,ho],hl]
def N5 {K:WW}(X:K.In s.heap)(I:Dw s.heap x dx C mA)(hg:W.plainGet K C name=true)(hh:W.hasDictIn K C=true)(ha:W.findIn K (.ref C) name=some none)(hv:mA name=some v)(NR:W.handedIn v=true)(h:Q v {s with toks:=s.toks+1}): wpAny (model prog w) A (getAttr (.ref x) name ahz) Q E s:=by let⟨od,J,hl⟩:=I.look;show W.get_value X J (W.plainGet_of hg).1 (W.findObj_own hh ha rfl (by rw[hl,hv])) NR h
def Kt {K:WW}(X:K.In s.heap)(I:Dw s.heap x dx C mA)(hg:W.plainGet K C name=true)(hf:W.findIn K (.ref C) name=some (some (.ref f)))(ht:W.isFn K (.ref f)=true)(hv:mA name=none)(h:Q (.ref f,[.ref x]) s): wpAny (model prog w) A (getMethod (.ref x) name pl) Q E s:=by let⟨od,J,hl⟩:=I.look;show W.method_fn X J (W.plainGet_of hg).1 (W.plainGet_of hg).2 hf (beq_iff_eq.mp ht) (by change(W.lookIn name od).map (·.isSome)=some false;rw[hl,hv];rfl) h
def MC {K:WW}(X:K.In s.heap)(I:Dw s.heap x dx C mA)(hs:W.findIn K (.ref C) "__setattr__" =some (some (.builtin "object.__setattr__")))(hp:W.plainOver K C=true)(ht:W.takerIn K C name=some none)(hh:W.hasDictIn K C=true)(hw:PySem.Within mA ns)(hsz:ns.length<=sizeLine)(h: ∀h',Dw h' x dx C (λy=>if y=name then some v else mA y) ->Heap.SameBut dx s.heap h' ->Q () {s with heap:=h',toks:=s.toks+2}): wpAny (model prog w) A (setAttr (.ref x) name v) Q E s:=by let⟨od,J,hl⟩:=I.look;exact W.set_plain X J hs (W.osa_open (s:= {s with toks:=s.toks+1}) (r:=none) X J hp ht λb=> ?_);let⟨cd,hc,Xq⟩:=W.any_some hh;have hx:s.heap.get? x=some #[.ref C,some dx, .plain, #[]]:=I.obj;exact aA (bf (aA (aA (wpAny_loadPart hx (aA (W.Looks.here (s:= {s with toks:=s.toks+1}) (W.looks_clsIn X hc) ?_))))));rw[Xq];exact bf (a:=some dx) (aA (bf (aA ?_)));exact wpAny_nsSet1 (s:= {s with toks:=s.toks+1}) I.ns λh' wB E8=> ?_;let⟨oD,esD,epD,hoD,hdD,hcD⟩:=wB.count (PySem.Within.cons name v hw);exact aA (wpAny_lookBehind hoD (by rw[hdD];show pastItsLine_dict (ar hcD (by rw[aC];lia))) ?_);show bf (h _ #[(E8.2 _ (dD I.ne)).trans I.obj,wB,I.ne] E8)
def JO {K:WW}(X:K.In s.heap)(hm:W.makesIn K C=true)(hi:W.findIn K (.ref C) "__init__" =some (some (.ref f)))(hf:W.typeIn K (.ref f)=some (.type "function"))(h:codeAny (model prog w) (A.under (.builtin "type.__call__" #[.ref C::vs,kw])) (.call (.ref f) #[.ref (s.heap.objs.size+1)::vs,kw]) (W.InitBack (s.heap.objs.size+1) R) {s with heap:=(s.heap.push W.emptyDict).push (W.instObj C s.heap.objs.size)}): codeAny (model prog w) A (.call (.ref C) #[vs,kw]) R s:=by let⟨hh,g,d,t,os⟩:=s;show W.make_core (W.makes_of X hm) (W.looks_findIn X hi) (λself=>W.bind_fn X self hf) (.inl rfl) h
def jN (f:Str)(v:V):cH (Str×V) ->cH (Str×V)
 | []=> [(f,v)]
 | (g,x)::r=>if g=f then(g,v)::r else(g,x)::jN f v r
theorem rX (f g:Str)(v:V): ∀fs:cH (Str×V),(jN f v fs).lookup g=if g=f then some v else fs.lookup g
 | []=>by change List.lookup g [(f,v)]=_;by_cases h:g=f;have hb:(g==f)=true:=beq_iff_eq.mpr h;simp![List.lookup,hb,ao h];have hb:(g==f)=false:=beq_eq_false_iff_ne.mpr h;simp![List.lookup,hb,ak h]
 | (k, x)::r=>by have ih:=rX f g v r;rw[show jN f v ((k,x)::r)=(if k=f then(k,v)::r else(k,x)::jN f v r) from rfl];by_cases hk:k=f;rw[ao hk];by_cases h:g=k;have hb:(g==k)=true:=beq_iff_eq.mpr h;simp![List.lookup,hb,ao (h.trans hk)];have hb:(g==k)=false:=beq_eq_false_iff_ne.mpr h;simp![List.lookup,hb,ak (λe:g=f=>h (e.trans hk.symm))];rw[ak hk];by_cases h:g=k;have hb:(g==k)=true:=beq_iff_eq.mpr h;simp![List.lookup,hb,ak (λe:g=f=>hk (h.symm.trans e))];have hb:(g==k)=false:=beq_eq_false_iff_ne.mpr h;simp![List.lookup,hb];show ih
theorem qV (f:Str)(v:V): ∀fs:cH (Str×V),f∈(jN f v fs).map (·.1) /\ ∀g,g∈fs.map (·.1) ->g∈(jN f v fs).map (·.1)
 | []=>#[by simp[jN],λg h=>by simp at h]
 | (k, x)::r=>by let⟨i1,i2⟩:=qV f v r;rw[show jN f v ((k,x)::r)=(if k=f then(k,v)::r else(k,x)::jN f v r) from rfl];by_cases hk:k=f;rw[ao hk];subst hk;show#[by simp,λg h=> ⇑h];rw[ak hk];exact#[?_,λg h=> ?_];rw[aP];show dq _ i1;rw[aP] at h ⊢;obtain e | e:=aV.mp h;show aV.mpr (.inl e);show dq _ (i2 g e)
theorem rZ (f:Str)(v:V): ∀fs:cH (Str×V),(jN f v fs).length<=fs.length+1
 | []=>by simp[jN]
 | (k,x)::r=>by have ih:=rZ f v r;rw[show jN f v ((k,x)::r)=(if k=f then(k,v)::r else(k,x)::jN f v r) from rfl];by_cases hk:k=f;rw[ao hk,aC,aC];lia;rw[ak hk,aC,aC];lia
def kz.some_of (r:kz (some v) o): ∃u,o=some u /\ RelV v u:=by
 cases o with
 | none=>show(show False from r).elim
 | some u=>show#[u,rfl,r]
def kz.none_of (r:kz none o):o=none:=by
 cases o with
 | none=>rfl
 | some u=>show(show False from r).elim
def GX (r:RelV v u):W.handedIn u=true:=by
 cases v with
 | ez=>cases (show u=Value.none from r);rfl
 | bl b=>cases (show u=Value.bool b from r);rfl
 | int i=>let⟨t,e⟩:=(show ∃t,u=Value.int i t from r);cases e;rfl
 | str x=>let⟨t,e⟩:=(show ∃t,u=Value.str x t from r);cases e;rfl
 | Dm b=>let⟨t,e⟩:=(show ∃t,u=Value.bytes b t from r);cases e;rfl
 | Oa b=>let⟨t,e⟩:=(show ∃t,u=Value.float b t from r);cases e;rfl
 | ref a=>cases (show u=Value.ref a from r);rfl
 | ty n=>cases (show u=Value.type n from r);rfl
def ut (cU:nj P w H h)(e:H a=some (.ins C dx fs)): ∃mA,gy (Dw h a dx C mA) (∀f,kz (fs.lookup f) (mA f)) (PySem.Within mA (fs.map (·.1))) (fs.length<=1000) (H dx=some (.own a)):=by
 let⟨d,z,ne,ob,mA,n,r,q⟩:=(show eC P w H h a (.ins C dx fs) from cU a _ e)
 show#[mA,#[ob,n,ne],r,q,z,d]
structure xb (K:PySem.W.Frag)(C:Addr):Prop where
 pg:PySem.W.plainGet K C Str.empty=true
 hd:PySem.W.hasDictIn K C=true
 po:PySem.W.plainOver K C=true
 sa:PySem.W.findIn K (.ref C) "__setattr__" =some (some (.builtin "object.__setattr__"))
theorem xb.get {K:WW}{C:fY}(c:xb K C)(f:Str):W.plainGet K C f=true:=c.pg
def eE (K:WW)(C:fY)(f:Str):Prop:=W.findIn K (.ref C) f=some none
def eE.Vn {K:WW}(n:eE K C f):W.takerIn K C f=some none:=by unfold W.takerIn;rw[show W.findIn K (.ref C) f=some none from n];rfl
structure Lr (K:PySem.W.Frag)(C:Addr)(m:Str)(f:Addr):Prop where
 at_:PySem.W.findIn K (.ref C) m=some (some (.ref f))
 fn:PySem.W.isFn K (.ref f)=true
 kp:PySem.W.keepIn K (.ref f)=true
def Db {σ:St}(I:Inv X ah σ H s)(e:H a=some (.ins C dx fs))(c:xb X.K C)(n:eE X.K C f)(l:fs.lookup f=some v)(h: ∀u s',Inv X ah σ H s' ->RelV v u ->Q u s'):wpAny (model X.prog X.w) A (getAttr (.ref a) f b) Q E s:=by let⟨mA,O,r,_,_,_⟩:=ut I.cU e;let⟨u,hu,ru⟩:=kz.some_of (v:=v) (o:=mA f) (by rw[<- l];show r f);show N5 I.nH O (c.get f) c.hd n hu (GX ru) (h u _ (I.tok _) ru)
def kj {σ:St}(I:Inv X ah σ H s)(e:H a=some (.ins C dx fs))(c:xb X.K C)(k:Lr X.K C m g)(l:fs.lookup m=none)(h:Q (.ref g,[.ref a]) s):wpAny (model X.prog X.w) A (getMethod (.ref a) m pl) Q E s:=by let⟨mA,O,r,_,_,_⟩:=ut I.cU e;have hn:mA m=none:=kz.none_of (by rw[<- l];show r m);show Kt I.nH O (c.get m) k.at_ k.fn hn h
def Cv {σ:St}(I:Inv X ah σ H s)(e:H a=some (.ins C dx fs))(c:xb X.K C)(n:eE X.K C f)(hl:fs.length<1000)(ry:RelV y u)(h: ∀s',Inv X ah σ (cR H a (.ins C dx (jN f y fs))) s' ->Q () s'):wpAny (model X.prog X.w) A (setAttr (.ref a) f u) Q E s:=by
 let⟨mA,O,r,wi,_,ho⟩:=ut I.cU e;have hz:(fs.map (·.1)).length<=sizeLine:=by rw[af,cY];lia
 exact MC I.nH O c.sa c.po n.Vn c.hd wi hz λh' O' sb=>h _ ?_;have hd: ∃o,h'.get? dx=some o:=let ⟨o,_,_,e',_⟩:=O'.ns;#[o,e']
 exact I.write (x:=a) (e:=dx) (by rw[e];show True.intro) (.inr ho) (λb q hb z=>(sb.2 b hb).trans z) hd ?_;exact#[by rw[bR O.ne];show ho,?_,O.ne,O'.obj,_,O'.ns,λg=> ?_,λg hg=> ?_];have:=rZ f y fs;lia;change kz ((jN f y fs).lookup g) (if g=f then some u else mA g);rw[rX];by_cases q:g=f;rw[ao q,ao q];show ry;rw[ak q,ak q];show r g;by_cases q:g=f;rw[q];show(qV f y fs).1;exact(qV f y fs).2 g (wi g λz=>hg ?_);change(if g=f then some u else mA g)=none;rw[ak q];show z
def Inv.made {σ:St}(I:Inv X ah σ H s):Inv X ah σ (cR (cR H s.heap.objs.size (.own (s.heap.objs.size+1))) (s.heap.objs.size+1) (.ins C s.heap.objs.size [])) {s with heap:=(s.heap.push W.emptyDict).push (W.instObj C s.heap.objs.size)}:=by
 have e1:(s.heap.push W.emptyDict).get? s.heap.objs.size=some W.emptyDict:=a6 s.heap rfl;have e2:((s.heap.push W.emptyDict).push (W.instObj C s.heap.objs.size)).get? (s.heap.objs.size+1)=some (W.instObj C s.heap.objs.size):=by have:=a6 (s.heap.push W.emptyDict) (o:=W.instObj C s.heap.objs.size) rfl;rwa [Heap.size_push] at this
 have e3:(s.heap.push W.emptyDict).Ns s.heap.objs.size (λ_=>none):=#[W.emptyDict, #[],_,e1,rfl,(λe he=>absurd he (by simp)),λ_=>rfl]
 have I1:=I.laid (a:=s.heap.objs.size) (o:= .own (s.heap.objs.size+1)) (h':=s.heap.push W.emptyDict) (t':=s.toks) (λb u q=>av _ q) (aq _) #[_,e1];exact I1.laid (a:=s.heap.objs.size+1) (o:= .ins C s.heap.objs.size []) (t':=s.toks) (λb u q=>av _ q) (Nat.le_of_eq (Heap.size_push _ _)) ?_;have ne:s.heap.objs.size≠s.heap.objs.size+1:=bF (Nat.lt_succ_self _);exact#[by rw[bR ne,bY],dm _,ne,e2,λ_=>none,(Heap.Ns1.of_empty e3).at λo q=>av _ q,λ_=>True.intro,λy hy=>absurd rfl hy]
theorem OB (hb:attributeBase e f env (eval e env)=eval e env)(h:wpAny (model prog w) A (eval e env) (λo s₁=>wpAny (model prog w) A (getAttr o f true) Q E s₁) E s):wpAny (model prog w) A (eval (.Attribute e f pos) env) Q E s:=Attribute_any_ h (by rw[arm_eval_Attribute,hb])
def Ri (K:WW)(ta:TE)(f:Str):TE:=λσ H Q=>ta σ H λx H1=>sW λa C dx fs v=>lz (x= .ref a) (H1 a=some (.ins C dx fs)) (xb K C) (eE K C f) (fs.lookup f=some v) (Q v H1)
def VM (K:WW)(ta tv:TE)(f:Str):TS:=λD σ H=>tv σ H λy H1=>ta σ H1 λx H2=>gc λa C dx fs=>lz (x= .ref a) (H2 a=some (.ins C dx fs)) (xb K C) (eE K C f) (fs.length<1000) (D.nx σ (cR H2 a (.ins C dx (jN f y fs))))
def RH (he:PE X e ta)(hb:attributeBase e f X.env (eval e X.env)=eval e X.env):PE X (.Attribute e f pos) (Ri X.K ta f):=by intro ah s σ H Q I h;exact OB hb (c7 (he ah s σ H _ I h) λu s1 ⟨x,H1,I1,rx,a,C,dx,fs,v,ex,ea,c,n,l,q⟩=> ?_);subst ex;obtain rfl:u=Value.ref a:=rx;show Db I1 ea c n l λu' s2 I2 ru=>#[v,H1,I2,ru,q]
def iT (ha:PE X o ta)(hv:PE X value tv)(hs:swapsWith value (some (.Attribute o f lR)) pos.line X.env=pure false):PS X (.Assign [.Attribute o f lR] value pos) (VM X.K ta tv f):=by intro ah s σ H D I h;exact plainObj_wpAny_Assign_Attribute (c7 (hv ah s σ H _ I h) λu s1 ⟨y,H1,I1,ry,q⟩=>c7 (ha ah s1 σ H1 _ I1 q) λov s2 ⟨x,H2,I2,rx,a,C,dx,fs,ex,ea,c,n,l,q2⟩=> ?_) hs;subst ex;obtain rfl:ov=Value.ref a:=rx;show Cv I2 ea c n l ry λs3 I3=>#[σ,_,I3,q2]
theorem PQ {σ:St}(he:PE X e te)(I:Inv X ah σ H s)(h:te σ H λx H1=>sW λa C dx fs g=>lz (x= .ref a) (H1 a=some (.ins C dx fs)) (xb X.K C) (Lr X.K C m g) (fs.lookup m=none) (∀s1,Inv X ah σ H1 s1 ->wpAny (model X.prog X.w) X.A (callWith pos (.ref g) [.ref a] (backTo pos (starEach args X.env)) (backToKw pos (keywordEach [] X.env))) Q X.xe s1))(ht:eval (.Call (.Attribute e m dP) args [] pos) X.env=(do
   let ov <- eval e X.env
   standAt dP.atName
   let (f,first) <- holding [ov] (getMethod ov m pl)
   callWith pos f first (backTo pos (starEach args X.env)) (backToKw pos (keywordEach [] X.env)))):
  wpAny (model X.prog X.w) X.A (eval (.Call (.Attribute e m dP) args [] pos) X.env) Q X.xe s:=by
 exact W.methodCall_KW (pl:=pl) (c7 (he ah s σ H _ I h) λu s1 ⟨x,H1,I1,rx,a,C,dx,fs,g,ex,ea,c,k,l,q⟩=> ?_) ht
 subst ex
 obtain rfl:u=Value.ref a:=rx
 show kj I1 ea c k l (q s1 I1)
section
variable {X:Cx}{ah:cH (fY×Obj)}{σ:St}{H:Hp}{s:dG}{A:Around}{E:df ->dG ->Prop}{Q:df ->dG ->Prop}{c:df}{b:Bool}
inductive rL (K:PySem.W.Frag)(H:Hp):V ->Value ->Prop where
 | ez:rL K H .ez (.type "NoneType")
 | bl (x:Bool):rL K H (.bl x) (.type "bool")
 | int (i:Int):rL K H (.int i) (.type "int")
 | str (x:Str):rL K H (.str x) (.type "str")
 | Oa (x:UInt64):rL K H (.Oa x) (.type "float")
 | lst {a:Addr} {xs:List V} (e:H a=some (.lst xs)):rL K H (.ref a) (.type "list")
 | lw {a:Addr} {o:Obj} {xs:List V} (e:H a=some (.lw o (.lst xs))):rL K H (.ref a) (.type "list")
 | tup {a:Addr} {xs:List V} (e:H a=some (.tup xs)):rL K H (.ref a) (.type "tuple")
 | dK {a:Addr} {kvs:List (cf×V)} (e:H a=some (.dK kvs)):rL K H (.ref a) (.type "dict")
 | dT {a:Addr} {kvs:List (List cf×V)} (e:H a=some (.dT kvs)):rL K H (.ref a) (.type "dict")
 | ins {a C dx:Addr} {fs:List (Str×V)} (e:H a=some (.ins C dx fs)) (cl:xb K C) (ha:PySem.W.findIn K (.ref C) "__class__" =some (some (.builtin "object.__class__"))) (hn:PySem.W.specialIn K (.builtin "object.__class__") "__get__" =some (some (.builtin "getset_descriptor.__get__"))) (htk:PySem.W.takesIn K (.builtin "object.__class__")=some true) (hm:PySem.W.mroIn K C (.type "object")=some true):rL K H (.ref a) (.ref C)
def GN (I:Inv X ah σ H s)(rx:RelV x u)(ty:rL X.K H x t)(e:W.kitOne X.K t c=some b)(h: ∀tk,Q (.bool b) {s with toks:=tk}): wpAny (model X.prog X.w) A (call (.builtin "isinstance") [u,c]) Q E s:=by
 cases ty with
 | ez=>cases (show u=Value.none from rx);show cF W.kitx_none I.nH True.intro e (λz=>nomatch z) h
 | bl y=>cases (show u=Value.bool y from rx);show cF W.kitx_bool I.nH True.intro e (λz=>nomatch z) h
 | int i=>let⟨t,q⟩:=(show ∃t,u=Value.int i t from rx);cases q;show cF W.kitx_int I.nH True.intro e (λz=>nomatch z) h
 | str y=>let⟨t,q⟩:=(show ∃t,u=Value.str y t from rx);cases q;show cF W.kitx_str I.nH True.intro e (λz=>nomatch z) h
 | Oa y=>let⟨t,q⟩:=(show ∃t,u=Value.float y t from rx);cases q;show cF W.kitx_float I.nH True.intro e (λz=>nomatch z) h
 | @lst a xs ea=>
  cases (show u=Value.ref a from rx);let⟨_,_,n,_,h1⟩:=(show eC X.prog X.w H s.heap a (.lst xs) from I.cU a _ ea)
  show cF W.kitx_list I.nH #[_,h1,rfl] e (λz=>nomatch z) h
 | @lw a ob xs ea=>
  cases (show u=Value.ref a from rx);let⟨_,_,_,n,_,h1⟩:=(show eC X.prog X.w H s.heap a (.lw ob (.lst xs)) from I.cU a _ ea)
  show cF W.kitx_list I.nH #[_,h1,rfl] e (λz=>nomatch z) h
 | @tup a xs ea=>
  cases (show u=Value.ref a from rx);let⟨_,_,_,p⟩:=(show eC X.prog X.w H s.heap a (.tup xs) from I.cU a _ ea)
  let⟨o,h1,h2,_⟩:=p;show cF W.kitx_tuple I.nH #[o,h1,h2] e (λz=>nomatch z) h
 | @dK a kvs ea=>
  cases (show u=Value.ref a from rx);let⟨_,_,vs,_,p⟩:=(show eC X.prog X.w H s.heap a (.dK kvs) from I.cU a _ ea)
  let⟨o,es,ep,h1,h2,_⟩:=p;show cF W.kitx_dict I.nH #[o,h1,h2.1] e (λz=>nomatch z) h
 | @dT a kvs ea=>
  cases (show u=Value.ref a from rx);let⟨_,_,xs,_,o,es,ep,h1,h2,_⟩:=(show eC X.prog X.w H s.heap a (.dT kvs) from I.cU a _ ea)
  show cF W.kitx_dict I.nH #[o,h1,h2.1] e (λz=>nomatch z) h
 | @ins a C dx fs ea cl ha hn htk hm=>cases (show u=Value.ref a from rx);let⟨mA,O,_⟩:=ut I.cU ea;let⟨od,J,_⟩:=O.look;show cF (W.kitx_own (cl.get _) cl.hd ha hn htk hm) I.nH J e (λz=>nomatch z) h
end
structure e7 (k:Nat)(A:Around):Prop where
 hd:A.handled=none
 dp:A.depth+3*k+5<recursionLimit
 un:A.units+16*k+200<cLine
theorem e7.mono (r:e7 k A)(h:j<=k):e7 j A:=#[r.hd,by have:=r.dp;lia,by have:=r.un;lia]
theorem e7.deeper (r:e7 (k+1) A)(env:Env):e7 k (A.deeper env):=#[r.hd,by have:=r.dp;change A.depth+1+3*k+5<_;lia,by have:=r.un;change A.units+3+16*k+200<_;lia]
def CV {A:Around}:(A.under (.builtin "type.__call__" #[.ref C::us,kw])).depth=A.depth+1:=by first | rfl | simp[Around.under,Code.weight,Code.isCreation,Code.isGuard,Code.isCaller,Code.frames,Code.isFrame,guardIds]
def CU {A:Around}:(A.under (.builtin "type.__call__" #[.ref C::us,kw])).units=A.units+1:=by first | rfl | simp[Around.under,Code.cUnits,Code.frames,Code.isFrame]
theorem e7.make (r:e7 (k+1) A)(C:fY)(us:cH df)(kw:cH (Str×df)):e7 k (A.under (.builtin "type.__call__" #[.ref C::us,kw])):=#[r.hd,by have:=r.dp;rw[CV];lia,by have:=r.un;rw[CU];lia]
def e7.depth (r:e7 k A):A.depth<recursionLimit:=by have:=r.dp;lia
def e7.units (r:e7 k A):A.units+64<cLine:=by have:=r.un;lia
def FX:TA:=λ_ H Q=>Q [] H
def Is (ta:TE)(tr:TA):TA:=λσ H Q=>ta σ H λx H1=>tr σ H1 λxs H2=>Q (x::xs) H2
section
variable {X:Cx}{e:Expr}{es:cH Expr}{te:TE}{t:TA}{pos:Pos}
theorem ae:PA X [] FX:=λ_ _ _ _ H Q I h=>Calls.spliced_nil #[[],H,I, .nil,h]
def aa (ha:PE X e te)(hr:PA X es t)(hs:starEach (e::es) X.env=(false,eval e X.env)::starEach es X.env:=by rfl):PA X (e::es) (Is te t):=by intro pos ah s σ H Q I h;rw[hs];change wpAny _ _ (spliced ((false,eval e X.env)::backTo pos (starEach es X.env))) _ _ s;exact Calls.spliced_cons (c7 (ha ah s σ H _ I h) λu s1 ⟨x,H1,I1,r1,q1⟩=> ?_);show c7 (hr pos ah s1 σ H1 _ I1 q1) λus s2 ⟨xs,H2,I2,r2,q2⟩=>#[x::xs,H2,I2, .cons r1 r2,q2]
def Vp (t:TA):TE:=λσ H Q=>t σ H λxs H1=>xs.length<=sizeLine /\ ∀p,H1 p=none ->Q (.ref p) (cR H1 p (.tup xs))
def Vv (t:TA):TE:=λσ H Q=>t σ H λxs H1=>xs.length<=sizeLine /\ ∀p,H1 p=none ->Q (.ref p) (cR H1 p (.lst xs))
def aL {x1}(h:PA X es t):PE X (.Tuple es x1 pos) (Vp t):=by intro ah s σ H Q I hq;exact wpAny_Tuple_spliced (c7 (h pos ah s σ H _ I hq) λus s1 ⟨xs,H1,I1,r,z,q⟩=>#[by rw[<- r.length];show z,?_]);have hf:H1 s1.heap.objs.size=none:=I1.cU.fresh (aq _);exact#[.ref s1.heap.objs.size,cR H1 s1.heap.objs.size (.tup xs),I1.laid (t':=s1.toks) (λb u e=>av _ e) (aq _) ?_,rfl,q _ hf];show#[z,us,r,#[_,a6 _ rfl,rfl,_,rfl,rfl]]
def dY (h:PA X es t):PE X (.List es pos) (Vv t):=by intro ah s σ H Q I hq;exact wpAny_List_spliced (c7 (h pos ah s σ H _ I hq) λus s1 ⟨xs,H1,I1,r,z,q⟩=>#[by rw[<- r.length];show z,?_]);have hf:H1 s1.heap.objs.size=none:=I1.cU.fresh (aq _);exact#[.ref s1.heap.objs.size,cR H1 s1.heap.objs.size (.lst xs),I1.laid (t':=s1.toks) (λb u e=>av _ e) (aq _) ?_,rfl,q _ hf];show#[z,us,0,r,a6 _ rfl]
end
abbrev Sp:=cH V ->Hp ->VK ->XK ->Prop
abbrev Ce:=cH Env ->Hp ->dG ->XK ->df ->dG ->Prop
structure DG (P:Program)(w:World)(K:PySem.W.Frag)(mg:Str ->Option Value)(base:Heap)(A:Around)(outer:List Env)(s:Shared)(H:Hp):Prop where
 frames:A.frames=some outer
 mod:Mod K mg base
 bs: ∀b o,base.get? b=some o ->s.heap.get? b=some o /\ H b=none
 La:base.objs.size<=s.heap.objs.size
 om:s.heap.FunFrames base outer
 Mb: ∀b∈lx outer,H b=none
 cU:nj P w H s.heap
 bare:AllBare s.gens
def CE (outer:cH Env)(P:Program)(w:World)(H:Hp)(s:dG)(Q:VK)(u:df)(s':dG):Prop:=cx λv H'=>lz (s'.os=s.os) (AllBare s'.gens) (Un (lx outer) [] H H' s.heap s'.heap) (nj P w H' s'.heap) (RelV v u) (Q v H')
def CR (CX:Ce)(outer:cH Env)(P:Program)(w:World)(H:Hp)(s:dG)(Q:VK)(E:XK)(r:Result)(s':dG):Prop:=
 match r with
 | .ok (.ret u)=>CE outer P w H s Q u s'
 | .ok _=>False
 | .error e=>CX outer H s E e s'
structure bI (P:Program)(w:World)(K:PySem.W.Frag)(mg:Str ->Option Value)(base:Heap)(CX:Ce)(k:Nat)(f:Addr)(fd:FuncData)(ps:List Str)(sp:Sp):Prop where
 len: ∀vs H Q E,sp vs H Q E ->vs.length=ps.length
 run: ∀ (A:Around) (outer:List Env) (s:Shared) (H:Hp) (args:Args) (us:List Value) (vs:List V) (Q:VK) (E:XK),e7 k A ->DG P w K mg base A outer s H ->BindsTo s fd args (ps.zip us) ->cj vs us ->sp vs H Q E ->codeAny (model P w) A (.call (.ref f) args) (CR CX outer P w H s Q E) s
theorem bI.mono {K:WW}(F:bI P w K mg base CX j f fd ps sp)(h:j<=k): bI P w K mg base CX k f fd ps sp:=#[F.len,λA outer s H args us vs Q E hr=>F.run A outer s H args us vs Q E (hr.mono h)]
theorem bI.imp {K:WW}(F:bI P w K mg base CX k f fd ps sp)(h: ∀vs H Q E,B8 vs H Q E ->sp vs H Q E):bI P w K mg base CX k f fd ps B8:=#[λvs H Q E q=>F.len vs H Q E (h _ _ _ _ q),λA outer s H args us vs Q E hr he hb hv hs=>F.run A outer s H args us vs Q E hr he hb hv (h _ _ _ _ hs)]
theorem DG.make {K:WW}(e:DG P w K mg base A outer s H)(C:fY)(us:cH df)(kw:cH (Str×df)): DG P w K mg base (A.under (.builtin "type.__call__" #[.ref C::us,kw])) outer s H:=#[by first | show e.frames | (simpa [Around.under,Code.envs,Code.isFrame,pushEnvs] using e.frames),e.mod,e.bs,e.La,e.om,e.Mb,e.cU,e.bare]
theorem Inv.Og {σ:St}(I:Inv X ah σ H s):DG X.prog X.w X.K X.mg X.base X.A X.stack s H:=#[I.ok.frames,I.ok.mod,I.bs,ar I.ok.La I.sz,I.stack,I.ug,I.cU,I.bare]
def Inv.after {σ:St}(I:Inv X ah σ H s)(h:CE X.stack X.prog X.w H s Q u s'):EP X ah σ Q u s':=by let⟨v,H',os,bare,un,cU,r,q⟩:=h;let⟨hh,g,d,t,os'⟩:=s';obtain rfl:os'=s.os:=os;show#[v,H',I.call (h':=hh) (g':=g) (d':=d) (t':=t) (ch:= []) un cU bare (λb z=>absurd z (by simp)),r,q]
def xo (sp:Sp)(wT:cH V)(E:XK)(t:TA):TE:=λσ H Q=>t σ H λvs H1=>sp (vs++wT) H1 Q E
def rO (C:fY)(m:Str)(sp:Sp)(wT:cH V)(E:XK)(ta:TE)(t:TA):TE:=λσ H Q=>ta σ H λx H1=>eZ λa dx fs=>fA (x= .ref a) (H1 a=some (.ins C dx fs)) (fs.lookup m=none) (t σ H1 λvs H2=>sp (x::(vs++wT)) H2 Q E)
def Il (C:fY)(sp:Sp)(wT:cH V)(E:XK)(t:TA):TE:=λσ H Q=>t σ H λvs H1=> ∀x dx,H1 x=none ->H1 dx=none ->dx≠x ->sp (.ref x::(vs++wT)) (cR (cR H1 dx (.own x)) x (.ins C dx [])) (λv H2=>v= .ez /\ Q (.ref x) H2) E
def Binds (K:WW)(fd:FuncData)(ps:cH Str)(ds:cH df):Prop:=∀ (s:dG) (us:cH df),K.In s.heap ->(us++ds).length=ps.length ->BindsTo s fd #[us,[]] (ps.zip (us++ds))
theorem Binds.all {K:WW}(h: ∀us:cH df,us.length=ps.length ->bindArgs fd #[us,[]]=pure (ps.zip us)):Binds K fd ps []:=λs us _ hl=>by rw[dQ] at hl ⊢;show .of_eq (h us hl)
def ik (CX:Ce)(X:Cx)(E:XK):Prop:= ∀ (ah:cH (fY×Obj)) (σ:St) (H:Hp) (s:dG) (e:df) (s':dG),Inv X ah σ H s ->CX X.stack H s E e s' ->X.xe e s'
section
variable {X:Cx}{CX:Ce}{k:Nat}{f C:fY}{fd:FuncData}{ps:cH Str}{sp:Sp}{wT:cH V}{ds:cH df}{E:XK}{x m:Str}{p pos dP:Pos}{e o:Expr}{es:cH Expr}{ta:TE}{t:TA}
def CA {σ:St}(F:bI X.prog X.w X.K X.mg X.base CX k f fd ps sp)(hr:e7 k X.A)(hb:Binds X.K fd ps ds)(hd:cj wT ds)(hx:ik CX X E)(I:Inv X ah σ H s)(r:cj vs us)(h:sp (vs++wT) H Q E):wpAny (model X.prog X.w) X.A (call (.ref f) us) (EP X ah σ Q) X.xe s:=by
 have r2:cj (vs++wT) (us++ds):=r.append hd;have hl:(us++ds).length=ps.length:=by rw[<- r2.length];show F.len _ _ _ _ h
 exact wpAny_call (codeAny_mono (F.run X.A X.stack s H #[us,[]] (us++ds) (vs++wT) Q E hr I.Og (hb s us I.nH hl) r2 h) λr s' hq=> ?_);cases r with
 | error e=>show hx ah σ H s e s' I hq
 | ok fl=>
  cases fl with
  | ret u=>show I.after hq
  | next=>show False.elim hq
  | brk=>show False.elim hq
  | cont=>show False.elim hq
def EC (F:bI X.prog X.w X.K X.mg X.base CX k f fd ps sp)(hr:e7 k X.A)(hg:Gl X x)(hm:X.mg x=some (.ref f))(hk:W.keepIn X.K (.ref f)=true)(hb:Binds X.K fd ps ds)(hd:cj wT ds)(hx:ik CX X E) (ha:PA X (e::es) t) (xL:(x==("__debug__" :Str))=false:=by decide) (he:starEach (e::es) X.env=(false,eval e X.env)::starEach es X.env:=by rfl) (qt:(backTo pos (starEach es X.env)).any (·.1)=false:=by rfl): PE X (.Call (.Name x p) (e::es) [] pos) (xo sp wT E t):=by intro ah s σ H Q I h;exact wpAny_Call_Name_kw (pB I hg hm ?_ xL);exact W.callWith_K (h₀:=X.base) I.ok.mod.Qa hk (c7 (ha pos ah s σ H _ I h) λus s1 ⟨vs,H1,I1,r,q⟩=>#[I1.nH,?_]) he qt;show CA F hr hb hd hx I1 r q
theorem EB {pl:Sem Bool}(he:PE X o ta)(c:xb X.K C)(hm:Lr X.K C m f)(F:bI X.prog X.w X.K X.mg X.base CX k f fd ps sp)(hr:e7 k X.A)(hb:Binds X.K fd ps ds)(hd:cj wT ds)(hx:ik CX X E)(ha:PA X (e::es) t) (uw:starEach (e::es) X.env=(false,eval e X.env)::starEach es X.env:=by rfl) (qt:(backTo pos (starEach es X.env)).any (·.1)=false:=by rfl) (ht:eval (.Call (.Attribute o m dP) (e::es) [] pos) X.env=(do
   let ov <- eval o X.env
   standAt dP.atName
   let (f,first) <- holding [ov] (getMethod ov m pl)
   callWith pos f first (backTo pos (starEach (e::es) X.env)) (backToKw pos (keywordEach [] X.env))):=by rfl):
  PE X (.Call (.Attribute o m dP) (e::es) [] pos) (rO C m sp wT E ta t):=by
 intro ah s σ H Q I h
 exact W.methodCall_KW (pl:=pl) (c7 (he ah s σ H _ I h) λu s1 ⟨x,H1,I1,rx,a,dx,fs,ex,ea,l,q⟩=> ?_) ht
 subst ex
 obtain rfl:u=Value.ref a:=rx
 exact kj I1 ea c hm l ?_
 exact W.callWith_K (first:= [.ref a]) (h₀:=X.base) I.ok.mod.Qa hm.kp (c7 (ha pos ah s1 σ H1 _ I1 q) λus s2 ⟨vs,H2,I2,r,q2⟩=>#[I2.nH,?_]) uw qt
 show CA (us:= .ref a::us) (vs:= .ref a::vs) F hr hb hd hx I2 (.cons rfl r) q2
theorem AD (he:PE X o ta)(c:xb X.K C)(hm:Lr X.K C m f)(F:bI X.prog X.w X.K X.mg X.base CX k f fd ps sp)(hr:e7 k X.A)(hb:Binds X.K fd ps ds)(hd:cj wT ds)(hx:ik CX X E)(ht:eval (.Call (.Attribute o m dP) [] [] pos) X.env=(do
   let ov <- eval o X.env
   standAt dP.atName
   let (f,first) <- holding [ov] (getMethod ov m pl)
   callWith pos f first (backTo pos (starEach [] X.env)) (backToKw pos (keywordEach [] X.env))):=by rfl):
  PE X (.Call (.Attribute o m dP) [] [] pos) (rO C m sp wT E ta FX):=by
 intro ah s σ H Q I h
 exact W.methodCall_KW (pl:=pl) (c7 (he ah s σ H _ I h) λu s1 ⟨x,H1,I1,rx,a,dx,fs,ex,ea,l,q⟩=> ?_) ht
 subst ex
 obtain rfl:u=Value.ref a:=rx
 exact kj I1 ea c hm l ?_
 show W.callWith_K0 (first:= [.ref a]) I1.nH hm.kp (CA (us:= [.ref a]) (vs:= [.ref a]) F hr hb hd hx I1 (.cons rfl .nil) q)
structure Mk (K:PySem.W.Frag)(C f:Addr):Prop where
 makes:PySem.W.makesIn K C=true
 init:PySem.W.findIn K (.ref C) "__init__" =some (some (.ref f))
 fn:PySem.W.isFn K (.ref f)=true
 kp:PySem.W.keepIn K (.ref C)=true
def IQ {σ:St}(M:Mk X.K C f)(F:bI X.prog X.w X.K X.mg X.base CX k f fd ps sp)(hr:e7 (k+1) X.A)(hb:Binds X.K fd ps ds)(hd:cj wT ds)(hx:ik CX X E)(I:Inv X ah σ H s)(r:cj vs us)(h: ∀x dx,H x=none ->H dx=none ->dx≠x ->sp (.ref x::(vs++wT)) (cR (cR H dx (.own x)) x (.ins C dx [])) (λv H2=>v= .ez /\ Q (.ref x) H2) E): wpAny (model X.prog X.w) X.A (call (.ref C) us) (EP X ah σ Q) X.xe s:=by
 have hq:=h (s.heap.objs.size+1) s.heap.objs.size (I.cU.fresh (Nat.le_succ _)) (I.cU.fresh (aq _)) (bF (Nat.lt_succ_self _));have I2:=Inv.made (C:=C) I;have r2:cj (V.ref (s.heap.objs.size+1)::(vs++wT)) (Value.ref (s.heap.objs.size+1)::(us++ds)):= .cons rfl (r.append hd);have hl:(Value.ref (s.heap.objs.size+1)::us++ds).length=ps.length:=by have e:=r2.length;rw[F.len _ _ _ _ hq] at e;show e.symm
 exact wpAny_call (JO (f:=f) I.nH M.makes M.init (beq_iff_eq.mp M.fn) (codeAny_mono (F.run _ X.stack _ _ #[Value.ref (s.heap.objs.size+1)::us,[]] (Value.ref (s.heap.objs.size+1)::(us++ds)) _ _ E (hr.make C us []) (I2.Og.make C us []) (hb _ (Value.ref (s.heap.objs.size+1)::us) I2.nH hl) r2 hq) λr s' Xb=> ?_));cases r with
 | error e=>show hx ah σ _ _ e s' I2 Xb
 | ok fl=>
  cases fl with
  | ret u=>let⟨v,H',I3,rv,ev,q3⟩:=I2.after Xb;subst ev;show#[rv,#[V.ref (s.heap.objs.size+1),H',I3,rfl,q3]]
  | next=>show False.elim Xb
  | brk=>show False.elim Xb
  | cont=>show False.elim Xb
def MU (M:Mk X.K C f)(F:bI X.prog X.w X.K X.mg X.base CX k f fd ps sp)(hr:e7 (k+1) X.A)(hg:Gl X x)(hm:X.mg x=some (.ref C))(hb:Binds X.K fd ps ds)(hd:cj wT ds)(hx:ik CX X E) (ha:PA X (e::es) t) (xL:(x==("__debug__" :Str))=false:=by decide) (he:starEach (e::es) X.env=(false,eval e X.env)::starEach es X.env:=by rfl) (qt:(backTo pos (starEach es X.env)).any (·.1)=false:=by rfl): PE X (.Call (.Name x p) (e::es) [] pos) (Il C sp wT E t):=by intro ah s σ H Q I h;exact wpAny_Call_Name_kw (pB I hg hm ?_ xL);exact W.callWith_K (h₀:=X.base) I.ok.mod.Qa M.kp (c7 (ha pos ah s σ H _ I h) λus s1 ⟨vs,H1,I1,r,q⟩=>#[I1.nH,?_]) he qt;show IQ M F hr hb hd hx I1 r q
end
structure cw (N P:List Str)(sc:Scope):Prop where
 kind:sc.kind= .function
 co:sc.isCoroutine=false
 gen:sc.isGenerator=false
 nd:N.Nodup
 pre:N.take P.length=P
 par: ∀x∈P,sc.names.lookup x=some .local \/ sc.names.lookup x=some .cell
 Sb: ∀y∈sc.names,y.2≠ .free
theorem yj {kindOf:Str ->fj NameKind}{x:Str}: ∀ {binds:cH (Str×df)} {m:Str ->fj df},(∀v,(x,v)∉binds) ->bindL kindOf binds m x=m x
 | [],_,_=>rfl
 | (n,v)::r,m,h=>by
  unfold bindL;rw[yj λw hw=>h w (dq _ hw)];split;have:x≠n:=by rintro rfl;show h v List.mem_cons_self
  simp[this];rfl
theorem yl {kindOf:Str ->fj NameKind}{x:Str}: ∀ {binds:cH (Str×df)} {m:Str ->fj df},(∀v,(x,v)∉binds) ->bindC kindOf binds m x=m x
 | [],_,_=>rfl
 | (n,v)::r,m,h=>by
  unfold bindC;rw[yl λw hw=>h w (dq _ hw)];split;rfl;have:x≠n:=by rintro rfl;show h v List.mem_cons_self
  simp[this]
theorem yk {kindOf:Str ->fj NameKind}{x:Str}{v:df}: ∀ {P:cH Str} {vs:cH df} {i:Nat} {m:Str ->fj df},P.Nodup ->P[i]? =some x ->vs[i]? =some v ->kindOf x=some .local ->bindL kindOf (P.zip vs) m x=some v
 | [],_,_,_,_,h,_,_=>by simp at h
 | _::_,[],_,_,_,_,h,_=>by simp at h
 | p::P,w::vs,0,m,nd,h1,h2,hk=>by simp at h1 h2;subst h1;subst h2;change bindL kindOf ((p,w)::P.zip vs) m p=_;unfold bindL;rw[yj λv hv=>(List.nodup_cons.mp nd).1 (List.of_mem_zip hv).1,ao hk];simp
 | p::P,w::vs,i+1,m,nd,h1,h2,hk=>by change bindL kindOf ((p,w)::P.zip vs) m x=_;unfold bindL;show yk (i:=i) (List.nodup_cons.mp nd).2 ⇑h1 ⇑h2 hk
theorem ym {kindOf:Str ->fj NameKind}{x:Str}{v:df}: ∀ {P:cH Str} {vs:cH df} {i:Nat} {m:Str ->fj df},P.Nodup ->P[i]? =some x ->vs[i]? =some v ->kindOf x≠some .local ->bindC kindOf (P.zip vs) m x=some v
 | [],_,_,_,_,h,_,_=>by simp at h
 | _::_,[],_,_,_,_,h,_=>by simp at h
 | p::P,w::vs,0,m,nd,h1,h2,hk=>by simp at h1 h2;subst h1;subst h2;change bindC kindOf ((p,w)::P.zip vs) m p=_;unfold bindC;rw[yl λv hv=>(List.nodup_cons.mp nd).1 (List.of_mem_zip hv).1,ak hk];simp
 | p::P,w::vs,i+1,m,nd,h1,h2,hk=>by change bindC kindOf ((p,w)::P.zip vs) m x=_;unfold bindC;show ym (i:=i) (List.nodup_cons.mp nd).2 ⇑h1 ⇑h2 hk
def start (N:cH Str)(vs:cH V):St:=vs.map some++List.replicate (N.length - vs.length) none
def eQ (CX:Ce)(P:Program)(w:World)(K:WW)(mg:Str ->fj df)(base:Heap)(N:cH Str)(qual:Str)(scope:Scope)(f:fY)(cd:df)(A:Around)(outer:cH Env)(s:dG)(H:Hp)(E:XK):Cx where
 prog:=P
 w:=w
 K:=K
 mg:=mg
 base:=base
 A:=A.deeper (envOfC qual scope s.heap.objs.size f cd)
 N:=N
 s₀:=s
 H₀:=H
 env:=envOfC qual scope s.heap.objs.size f cd
 outer:=outer
 stack:=envOfC qual scope s.heap.objs.size f cd::outer
 ex:= []
 calm:=true
 fn:=λ_=>true
 pn:= []
 xe:=λe s'=>wpAny (model P w) (A.deeper (envOfC qual scope s.heap.objs.size f cd)) (leaving (envOfC qual scope s.heap.objs.size f cd) e) (λ_ s''=>CX outer H s E e s'') (λe' s''=>CX outer H s E e' s'') s'
def BE {sc:Scope}(h:sc.names.lookup x=some .cell): ∃c,(cellsFrom n sc.names []).lookup x=some c:=by have q:=W.cellsFrom_some sc.names n [] (.inl h);show Option.isSome_iff_exists.mp q
def GO {K:WW}(S:cw N ps scope)(hd:A.handled=none)(e0:DG P w K mg base A outer s H)(hl:vs.length=ps.length)(r:cj vs us)(x:InCallC s s.heap.objs.size (bindL (envOfC qual scope s.heap.objs.size f cd).kindOf (ps.zip us) λ_=>none) (cellsFrom (s.heap.objs.size+1) scope.names []) (bindC (envOfC qual scope s.heap.objs.size f cd).kindOf (ps.zip us) λ_=>none) s1): Inv (eQ CX P w K mg base N qual scope f cd A outer s H E) [] (start N vs) H s1:=by
 have qt:ps.length<=N.length:=by have:=congrArg List.length S.pre;rw[bT] at this;lia
 let⟨h1,tk,rfl,hk⟩:=x.done;have PM: ∀b:fY,b∉(eQ CX P w K mg base N qual scope f cd A outer s H E).ex:=λb z=>absurd (show b∈([]:cH fY) from z) (by simp);exact#[#[e0.mod,S.kind,rfl,rfl,aq _,λy z c h1 h2=> ?_,λy hy=> ?_,λy c _ h=> ?_,λ_=>hd,Around.frames_deeper e0.frames, .inr #[rfl,rfl],λb z=>absurd z (PM b),e0.bs,e0.La,λb _ _=>PM b,λb z=>absurd z (PM b),e0.om,e0.Mb],
  rfl,e0.bare,Un.kept hk,#[_,x.toInCall.ns,λi y v h1 h2 h3=> ?_],λy c h=>#[_,x.cell y c h],e0.cU.fresh (aq _),λy c h=> ?_,λp hp=>absurd (show p∈([]:cH (fY×Obj)) from hp) (by simp),e0.cU.kept hk,?_]
 show name_of_addr x.apart (dH h1) (dH h2);have hy:scope.names.lookup y=some .cell \/ scope.names.lookup y=some .free:=hy;obtain hy | hy:=hy;show BE hy;show absurd rfl (S.Sb _ (dH hy));show Nat.le_of_lt (x.above y c (dH h));have hi:i<vs.length:=by unfold start at h2;by_cases hi:i<vs.length;show hi;rw[bi ⇑hi] at h2;rw[dt] at h2;split at h2<;>cases h2
 have ha:vs[i]? =some v:=by
  unfold start at h2;rw[bu ⇑hi,aK] at h2;cases e:vs[i]? with
  | none=>rw[e] at h2;cases h2
  | some a=>rw[e] at h2;cases h2;rfl
 let⟨u,hu,rv⟩:=r.get ha;have hp:ps[i]? =some y:=by rw[<- S.pre,List.getElem?_take_of_lt ∅];show h1
 have ndP:ps.Nodup:=by rw[<- S.pre];show S.nd.sublist (List.take_sublist _ _)
 exact#[u,rv,?_];obtain k | k:=S.par y (aX hp);show .inl #[k,yk ndP hp hu k];let⟨c,e⟩:=BE (n:=s.heap.objs.size+1) k;exact .inr #[.inl k,c,e,?_];have q:=x.cell y c e;rw[ym ndP hp hu (by change scope.names.lookup y≠_;rw[k];decide)] at q;show q;show e0.cU.fresh (Nat.le_of_lt (x.above y c (dH h)));unfold start;change _=N.length;rw[aE,af,List.length_replicate];lia
def Qt {K:WW}{dV kV jz pm cdv ct oc:df}(lk:K.lookup f=some #[oc,od, .func (W.fnOf name qual params body scope dV kV jz pm an cdv ct),CI])(Fa:W.codeIn K cdv qual=true)(S:cw N ps scope)(len: ∀vs H Q E,sp vs H Q E ->vs.length=ps.length)(jV: ∀ (A:Around) (outer:cH Env) (s:dG) (H:Hp) (vs:cH V) (Q:VK) (E:XK),e7 k (A.deeper (envOfC qual scope s.heap.objs.size f cdv)) ->sp vs H Q E ->∃t,zY (eQ CX P w K mg base N qual scope f cdv A outer s H E) body t /\ t {nx:=λ_ H'=>Q .ez H',rt:=Q} (start N vs) H): bI P w K mg base CX (k+1) f (W.fnOf name qual params body scope dV kV jz pm an cdv ct) ps sp:=by
 exact#[len,λA outer s H args us vs Q E hr e0 hb r wA=> ?_];have hl:=len _ _ _ _ wA;have KX:K.In s.heap:=e0.mod.Qa.keeps λb o e=>(e0.bs b o e).1;have lim:s.heap.NoLimit:=e0.mod.nolimit.keeps λb o e=>(e0.bs b o e).1;have Xj: ∀y∈ps.zip us,scope.names.lookup y.1=some .local \/ (scope.names.lookup y.1=some .cell /\ ((cellsFrom (s.heap.objs.size+1) scope.names []).lookup y.1).isSome=true):=λ⟨n,v⟩ hy=>by obtain q | q:=S.par n (List.of_mem_zip hy).1;show .inl q;show .inr #[q,W.cellsFrom_some _ _ _ (.inl q)]
 exact codeAny_call_function hr.depth (KX _ _ lk) rfl S.co S.gen rfl (W.codeRec_of KX Fa) (hb _ _ _ _ ?_);exact wpAny_newFunctionEnv_cells S.kind Xj λenv he s1 x=> ?_;subst he;exact#[lim.keeps x.toInCall.keep,codeAny_func ?_];let⟨t,ht,hq⟩:=jV A outer s H vs Q E (hr.deeper _) wA;have I:Inv (eQ CX P w K mg base N qual scope f cdv A outer s H E) [] (start N vs) H s1:=GO S hr.hd e0 hl r x;exact bJ (ht [] s1 (start N vs) H _ I hq) (λfl s' hs=> ?_) λe s' hs=>hs;have fin: ∀ {σ':St} {H':Hp} {v:V} {u:df},Inv (eQ CX P w K mg base N qual scope f cdv A outer s H E) [] σ' H' s' ->RelV v u ->Q v H' ->CE outer P w H s Q u s':=λ{σ' H' v u} J rv q=>#[v,H',J.os,J.bare,J.base,J.cU,rv,q]
 cases fl with
 | ret u=>let⟨v,σ',H',J,rv,q⟩:=hs;show fin J rv q
 | next=>let⟨σ',H',J,q⟩:=hs;show fin (v:=V.ez) (u:=Value.none) J rfl q
 | brk=>let⟨_,_,_,q⟩:=hs;show False.elim q
 | cont=>let⟨_,_,_,q⟩:=hs;show False.elim q
section
variable {X:Cx}{x:Str}{p pos:Pos}{e:Expr}{es:cH Expr}{t:TA}{id T:String}{r:cH V ->Hp ->VK ->Prop}
def _Y (r:cH V ->Hp ->VK ->Prop)(t:TA):TE:=λσ H Q=>t σ H λvs H1=>r vs H1 Q
def bn (hc:fJ X (.builtin id) r)(hg:Gl X x)(hm:X.mg x=none)(hv:bootBuiltins x=some (.builtin id))(ha:PA X (e::es) t)(hn:x≠ "__name__" :=by decide)(xL:(x==("__debug__" :Str))=false:=by decide) (he:starEach (e::es) X.env=(false,eval e X.env)::starEach es X.env:=by rfl) (qt:(backTo pos (starEach es X.env)).any (·.1)=false:=by rfl):PE X (.Call (.Name x p) (e::es) [] pos) (_Y r t):=by intro ah s σ H Q I h;exact wpAny_Call_Name_kw (zk I hg hm hv ?_ hn xL);show PyProof.Rows.callWith_builtin1 (c7 (ha pos ah s σ H _ I h) λus s1 ⟨vs,H1,I1,r1,q1⟩=>hc ah s1 σ H1 vs us Q I1 r1 q1) he qt
def ci (hc:fJ X (.type T) r)(hg:Gl X x)(hm:X.mg x=none)(hv:bootBuiltins x=some (.type T))(ha:PA X (e::es) t)(hn:x≠ "__name__" :=by decide)(xL:(x==("__debug__" :Str))=false:=by decide) (he:starEach (e::es) X.env=(false,eval e X.env)::starEach es X.env:=by rfl) (qt:(backTo pos (starEach es X.env)).any (·.1)=false:=by rfl):PE X (.Call (.Name x p) (e::es) [] pos) (_Y r t):=by intro ah s σ H Q I h;exact wpAny_Call_Name_kw (zk I hg hm hv ?_ hn xL);show PyProof.Rows.callWith_type1 (c7 (ha pos ah s σ H _ I h) λus s1 ⟨vs,H1,I1,r1,q1⟩=>hc ah s1 σ H1 vs us Q I1 r1 q1) he qt
end
end L2
namespace HT
open PySem PyProof.Rows
def Oq (ht:IsTup s.heap t vs.toArray)(hb:IsTup s.heap b ws.toArray)(hv:vs≠ [])(h1:ws= [] ->Q (.ref t) s)(h2:ws≠ [] ->Q (.ref s.heap.objs.size) {s with heap:=s.heap.push {cls:= .type "tuple",data:= .seq (vs++ws).toArray}})(hsz:vs.length+ws.length<=sizeLine):wpAny (model prog w) A (binaryOp .Add (.ref t) (.ref b)) Q E s:=by
 let⟨⟨cls,dd,data,sl⟩,ho,hc,n,hd⟩:=id ht;let⟨⟨ahE,ZM,data2,Pj⟩,S1,GW,n2,hd2⟩:=id hb;simp only at hc hd GW hd2;subst hc hd GW hd2;have e:vs.toArray++ws.toArray=(vs++ws).toArray:=by simp
 by_cases hw:ws= []
 show concat_meets #[_,ho,rfl] #[_,S1,rfl] noFill_tuple_add seq_tuple_add PySem.F.slot_tuple_add PySem.F.entry_tuple_add (PySem.F.args_tuple_add_2 _ _) (tuple_addW1 t b vs.toArray ws.toArray n n2 dd ZM sl Pj ⇑hv (by simp[hw])) #[ho,S1,h1 hw];exact concat_meets #[_,ho,rfl] #[_,S1,rfl] noFill_tuple_add seq_tuple_add PySem.F.slot_tuple_add PySem.F.entry_tuple_add (PySem.F.args_tuple_add_2 _ _) (tuple_addW2 t b vs.toArray ws.toArray n n2 dd ZM sl Pj ⇑hv ⇑hw (by rw[aO,aO];show hsz)) #[ho,S1,?_];rw[e];show h2 hw
def uj (n d:Nat):fj Int ->Nat
 | none=>d
 | some v=>if v<0 then(v+(n:Int)).toNat else min v.toNat n
end HT
namespace L2
open PySem PySem.Spec PyProof.Rows
abbrev TO:=St ->Hp ->(fj Int ->Hp ->Prop) ->Prop
def PO (X:Cx)(e:fj Expr)(t:TO):Prop:=∀ (ah:cH (fY×Obj)) (s:dG) (σ:St) (H:Hp) (Q:fj Int ->Hp ->Prop),Inv X ah σ H s ->t σ H Q ->wpAny (model X.prog X.w) X.A (evalPart e X.env) (λu s'=>cx λo H'=>c8 (Inv X ah σ H' s') (IsPart u o) (Q o H')) X.xe s
def DX:TO:=λ_ H Q=>Q none H
def Pa (t:TE):TO:=λσ H Q=>t σ H λx H1=> ∃i,x= .int i /\ Q (some i) H1
section
variable {X:Cx}{e:Expr}{te:TE}{lo hi:fj Expr}{tl th:TO}{pos p2:Pos}
def pe:PO X none DX:=by intro ah s σ H Q I h;rw[evalPart_none];show bf #[none,H,I, .none,h]
def pd (h:PE X e te):PO X (some e) (Pa te):=by intro ah s σ H Q I hw;rw[evalPart_some];exact c7 (h ah s σ H _ I hw) λu s1 ⟨x,H1,I1,r1,q1⟩=> ?_;let⟨i,rfl,q⟩:=q1;let⟨t,rfl⟩:=r1;show#[some i,H1,I1, .int i t,q]
def SlR (X:Cx)(r:V ->fj Int ->fj Int ->Hp ->VK ->Prop):Prop:=∀ (ah:cH (fY×Obj)) (s:dG) (σ:St) (H:Hp) (x:V) (v vl vu:df) (lo hi:fj Int) (sl:fY) (Q:VK),Inv X ah σ H s ->RelV x v ->s.heap.IsSliceOf sl vl vu .none ->IsPart vl lo ->IsPart vu hi ->r x lo hi H Q ->cx λT id=>c8 (typeLookup (.type T) "__getitem__" =pure (some (.builtin id))) (s.TypeIs v T) (wpAny (model X.prog X.w) X.A (getItem v (.ref sl)) (EP X ah σ Q) X.xe s)
def tSl (r:V ->fj Int ->fj Int ->Hp ->VK ->Prop)(te:TE)(tl th:TO):TE:=λσ H Q=>te σ H λx H1=>tl σ H1 λl H2=>th σ H2 λu H3=>r x l u H3 Q
def lT (hr:SlR X r)(he:PE X e te)(hl:PO X lo tl)(hu:PO X hi th):PE X (.Subscript e (.Slice lo hi none p2) pos) (tSl r te tl th):=by intro ah s σ H Q I h;exact Subscript_ (c7 (he ah s σ H _ I h) λv s1 ⟨x,H1,I1,r1,q1⟩=> ?_);exact wpAny_Slice (c7 (hl ah s1 σ H1 _ I1 q1) λvl s2 ⟨l,H2,I2,pl,q2⟩=>c7 (hu ah s2 σ H2 _ I2 q2) λvu s3 ⟨u,H3,I3,pu,q3⟩=> ?_);rw[evalPart_none];exact bf ?_;have I4:Inv X ah σ H3 {s3 with heap:=s3.heap.push {cls:= .type "slice",data:= .fields (List.toArray [vl,vu, .none])}}:=I3.kept (t':=s3.toks) λb ob q=>av _ q;let⟨T,id,hT,ht,hg⟩:=hr ah {s3 with heap:=s3.heap.push {cls:= .type "slice",data:= .fields (List.toArray [vl,vu, .none])}} σ H3 x v vl vu l u s3.heap.objs.size Q I4 r1 (Heap.IsSliceOf.new ..) pl pu q3;change wpAny (model X.prog X.w) X.A (subscriptTail e (.Slice lo hi none p2) v (.ref s3.heap.objs.size)) (EP X ah σ Q) X.xe {s3 with heap:=s3.heap.push {cls:= .type "slice",data:= .fields (List.toArray [vl,vu, .none])}};show tail_any (ops:= [.ref s3.heap.objs.size,v]) ht hT hg (by with_unfolding_all rfl)
def BB (xs:cH V)(lo hi:fj Int):cH V:=(xs.drop (HT.uj xs.length 0 lo)).take (HT.uj xs.length xs.length hi - HT.uj xs.length 0 lo)
def BA (xs:cH V)(lo hi:fj Int):(BB xs lo hi).length<=xs.length:=by unfold BB;rw[bT,List.length_drop];lia
def VX (K:WW):R2:=λx y H Q=>gc λa b xs ys=>BM (x= .ref a) (y= .ref b) (lm K H a xs) (lm K H b ys) (xs≠ []) (xs.length+ys.length<=sizeLine) (ys= [] ->Q (.ref a) H) (ys≠ [] -> ∀p,H p=none ->Q (.ref p) (cR H p (.tup (xs++ys))))
def cj.kg (r:cj xs us):us= []↔xs= []:=by
 cases r with
 | nil=>simp
 | cons _ _=>simp
def Ni:jd X (binaryOp .Add) (VX X.K):=by intro ah s σ H x y v u Q I rx ry h;let⟨a,b,xs,ys,rfl,rfl,ha,hb,hx,hz,q1,q2⟩:=h;cases rx;cases ry;let⟨bN,r1,p1,_⟩:=I.tuple ha;let⟨zo,r2,p2,_⟩:=I.tuple hb;exact HT.Oq p1 p2 (λz=>hx (r1.kg.mp z)) (λz=>#[.ref a,H,I,rfl,q1 (r2.kg.mp z)]) (λz=> ?_) (by rw[<- r1.length, <- r2.length];show hz);exact#[.ref s.heap.objs.size,_,I.laid (t':=s.toks) (o:= .tup (xs++ys)) (λb ob q=>av _ q) (aq _) ?_,rfl,q2 (λw=>z (r2.kg.mpr w)) _ (I.cU.fresh (aq _))];show#[by rw[aE];show hz,_,r1.append r2,zO.new _ _]
end
def A3 (n:Nat)(i:Int):fj Nat:=if 0<=i then(if i<n then some i.toNat else none) else if -(n:Int) <=i then some (i+n).toNat else none
def gY {α:Type}(xs:cH α)(i:Int):fj α:=(A3 xs.length i).bind λj=>xs[j]?
def E4 (h:A3 n i=some j): seqIndex? i n=some j /\ j<n /\ -(n:Int) <=i /\ i<n:=by unfold A3 at h;by_cases h0:0<=i;rw[ao h0] at h;by_cases h1:i<n;rw[ao h1] at h;have e:i.toNat=j:=bA h;show#[by rw[seqIndex_of h0 h1,e], ∅, ∅,h1];rw[ak h1] at h;cases h;rw[ak h0] at h;by_cases h1: -(n:Int) <=i;rw[ao h1] at h;have e:(i+n).toNat=j:=bA h;show#[by rw[seqIndex_neg ∅ h1,e], ∅,h1, ∅];rw[ak h1] at h;cases h
def zJ {v:α}(h:gY xs i=some v): ∃j,gy (seqIndex? i xs.length=some j) (xs[j]? =some v) (j<xs.length) (-(xs.length:Int) <=i) (i<xs.length):=by
 unfold gY at h;cases e:A3 xs.length i with
 | none=>rw[e] at h;cases h
 | some j=>rw[e] at h;let⟨h1,h2,h3,h4⟩:=E4 e;show#[j,h1,h,h2,h3,h4]
def fV {j:Nat}{v:α}(h:xs[j]? =some v):gY xs (j:Int)=some v:=by
 have hj:j<xs.length:=(bB.mp h).1;have e:A3 xs.length (j:Int)=some j:=by unfold A3;rw[ao ∅,ao ∅];simp
 unfold gY;rw[e];show h
def OF (b:Expr):Prop:= ∀o i,subscripted b false o i=operate [o,i] (getItem o i)
def cb (X:Cx)(r:R2):Prop:=∀ (value slice:Expr) (ah:cH (fY×Obj)) (s:dG) (σ:St) (H:Hp) (x y:V) (v u:df) (Q:VK),Inv X ah σ H s ->RelV x v ->RelV y u ->r x y H Q ->subscripted slice false v u=operate [v,u] (getItem v u) ->wpAny (model X.prog X.w) X.A (subscriptTail value slice v u) (EP X ah σ Q) X.xe s
def HA (X:Cx)(id:String)(r:V ->cH V ->Hp ->VK ->Prop):Prop:=∀ (ah:cH (fY×Obj)) (s:dG) (σ:St) (H:Hp) (x:V) (xs:cH V) (v:df) (us:cH df) (Q:VK),Inv X ah σ H s ->RelV x v ->cj xs us ->r x xs H Q ->wpAny (model X.prog X.w) X.A (call (.builtin id) (v::us)) (EP X ah σ Q) X.xe s
section
variable {X:Cx}{a b:Expr}{ta tb:TE}{pos:Pos}
def aH (hr:cb X r)(ha:PE X a ta)(hb:PE X b tb)(hs:OF b):PE X (.Subscript a b pos) (Vt r ta tb):=by intro ah s σ H Q I h;show Subscript_ (Tz ha hb I h λv u s2 x y H2 I2 rx ry q=>hr a b ah s2 σ H2 x y v u Q I2 rx ry q (hs _ _))
def ju (K:WW):R2:=λx y H Q=>gc λp xs i v=>gy (x= .ref p) (y= .int i) (ij K H p xs) (gY xs i=some v) (Q v H)
def bq (K:WW):R2:=λx y H Q=>gc λp xs i v=>gy (x= .ref p) (y= .int i) (lm K H p xs) (gY xs i=some v) (Q v H)
def VU:R2:=λx y H Q=>eZ λz i c=>gy (x= .str z) (y= .int i) (z.length<=sizeLine) (gY z.cps.toList i=some c) (Q (.str ⟨#[c]⟩) H)
def d5:cb X (ju X.K):=by
 intro value slice ah s σ H x y v u Q I rx ry h hs;let⟨p,xs,i,z,rfl,rfl,hq,he,q⟩:=h;cases rx;let⟨t,rfl⟩:=ry;let⟨bN,r,pl,hz⟩:=I.list hq;let⟨j,h1,h2,h3,h4,h5⟩:=zJ he;let⟨w,ew,yN⟩:=r.get h2;have hl:=r.length;have hn:=oh;have fin:EP X ah σ Q w s:=#[z,H,I,yN,q]
 by_cases h0:0<=i;have hj:i.toNat=j:=by rw[seqIndex_of h0 h5] at h1;show bA h1
 show item_listR pl.isList h0 ∅ (by rw[hj];simpa using ew) fin hs;have hj:(i+(bN.toArray.size:Int)).toNat=j:=by rw[seqIndex_neg ∅ h4] at h1;rw[aO, <- hl];show bA h1
 show subscriptTail_builtinR (x:=w) pl.isList.typeIs slot_list_getitem.lookup (wpAny_getItem_list_neg (Q:=λr s'=>r=w /\ EP X ah σ Q r s') pl.isList ∅ (by rw[aO] <;>lia) ∅ (by rw[hj];simpa using ew) #[rfl,fin]) hs
def az:cb X (bq X.K):=by
 intro value slice ah s σ H x y v u Q I rx ry h hs;let⟨p,xs,i,z,rfl,rfl,hq,he,q⟩:=h;cases rx;let⟨t,rfl⟩:=ry;let⟨bN,r,pl,hz⟩:=I.tuple hq;let⟨j,h1,h2,h3,h4,h5⟩:=zJ he;let⟨w,ew,yN⟩:=r.get h2;have hl:=r.length;have hn:=oh;have fin:EP X ah σ Q w s:=#[z,H,I,yN,q]
 show subscriptTail_builtinR (x:=w) pl.typeIs slot_tuple_getitem.lookup (getItem_tuple (j:=j) (Q:=λr s'=>r=w /\ EP X ah σ Q r s') pl ∅ ∅ (by rw[aO, <- hl];show h1) ⇑ew #[rfl,fin]) hs
def J_:cb X VU:=by
 intro value slice ah s σ H x y v u Q I rx ry h hs;let⟨z,i,c,rfl,rfl,hz,he,q⟩:=h;let⟨t,rfl⟩:=rx;let⟨t',rfl⟩:=ry;let⟨j,h1,h2,h3,h4,h5⟩:=zJ he;have hl:z.cps.toList.length=z.length:=by simp[Str.length]
 rw[hl] at h1 h4 h5;have hn:=oh;show tail_any (typeIs_str s z t) slot_str_getitem.lookup (getItem_str (c:=c) (by have e1:decide (i< -(2 ^ 63:Int))=false:=aG ∅;have e2:decide (i≥2 ^ 63)=false:=aG ∅;rw[e1,e2,Bool.or_false]) (by rw[h1];simpa using h2) #[.str ⟨#[c]⟩,H,I.tok _,#[_,rfl],q]) hs
def CT (bN:cH df)(n j:Nat)(u:df):Obj.mapSeq (·.setIfInBounds j u) {cls:= .type "list",data:= .seq bN.toArray n}= {cls:= .type "list",data:= .seq (bN.set j u).toArray n}:=by simp[Obj.mapSeq]
def Inv.lst {ah:cH (fY×Obj)}{σ:St}{H:Hp}{s:dG}{p:fY}{xs:cH V}(I:Inv X ah σ H s)(h:H p=some (.lst xs)): cx λ(bN:cH df) (n:Nat)=>c8 (cj xs bN) (s.heap.get? p=some {cls:= .type "list",data:= .seq bN.toArray n}) (xs.length<=sizeLine):=by let⟨z,bN,n,r,e⟩:=I.cU p _ h;show#[bN,n,r,e,z]
def Inv.Sk {σ:St}{bN its':cH df}(I:Inv X ah σ H s)(h:H p=some (.lst xs))(ho:s.heap.get? p=some {cls:= .type "list",data:= .seq bN.toArray n})(hf:f {cls:= .type "list",data:= .seq bN.toArray n}= {cls:= .type "list",data:= .seq its'.toArray n'})(r:cj ys its')(hz:ys.length<=sizeLine)(t:Nat): Inv X ah σ (cR H p (.lst ys)) {s with heap:=s.heap.update p f,toks:=t}:=by
 have e:(s.heap.update p f).get? p=some {cls:= .type "list",data:= .seq its'.toArray n'}:=by rw[Heap.get?_update_self f ho (by rw[hf] <;>rfl),hf]
 exact I.write (x:=p) (e:=p) (by rw[h];trivial) (.inl rfl) (λb u hb q=>(Heap.get?_update_other _ _ (dD hb)).trans q) #[_,e] ?_;show#[hz,its',n',r,e]
def Pq:V ->V ->V ->Hp ->(Hp ->Prop) ->Prop:=λo i v H Q=>gc λp xs k j=>gy (o= .ref p) (i= .int k) (H p=some (.lst xs)) (A3 xs.length k=some j) (Q (cR H p (.lst (xs.set j v))))
def jI:X8 X Pq:=by
 intro ah s σ H o i v ov iv u Q I ro ri rv h;let⟨p,xs,k,j,rfl,rfl,hp,hj,q⟩:=h;cases ro;let⟨t,rfl⟩:=ri;let⟨bN,n,r,ho,hz⟩:=I.lst hp;let⟨h1,h2,h3,h4⟩:=E4 hj;have hl:=r.length;have hn:=oh;have I':Inv X ah σ (cR H p (.lst (xs.set j v))) {s with heap:=s.heap.update p (Obj.mapSeq (·.setIfInBounds j u))}:=I.Sk hp ho (CT bN n j u) (r.set rv j) (by rw[List.length_set];show hz) s.toks;by_cases h0:0<=k;have hk:k.toNat=j:=by rw[seqIndex_of h0 h4] at h1;show bA h1
 show W.ki_setAt ho h0 ∅ (by rw[aO, <- hl];show h4) (by rw[hk];show#[_,I',q]);have hk:(k+(bN.toArray.size:Int)).toNat=j:=by rw[seqIndex_neg ∅ h3] at h1;rw[aO, <- hl];show bA h1
 show W.ki_setBack ho ∅ (by rw[aO, <- hl];show h3) ∅ (by rw[hk];show#[_,I',q])
def yF (lo hi:fj Int)(n:Nat):(sliceBounds lo hi none n).1=((HT.uj n 0 lo:Nat):Int) /\ (sliceBounds lo hi none n).2.1=((HT.uj n n hi:Nat):Int) /\ (sliceBounds lo hi none n).2.2=1:=by
 exact#[?_,?_,rfl];cases lo with
 | none=>simp[sliceBounds,HT.uj]
 | some i=>simp![sliceBounds,HT.uj,Option.getD_none,show(1:Int) >0 by decide,ce];by_cases h:i<0;simp![h,ce] <;>lia;simp![h,bH] <;>lia
 cases hi with
 | none=>simp[sliceBounds,HT.uj]
 | some i=>simp![sliceBounds,HT.uj,Option.getD_none,show(1:Int) >0 by decide,ce];by_cases h:i<0;simp![h,ce] <;>lia;simp![h,bH] <;>lia
def wF (bN:cH df)(lo hi:fj Int):slicePick bN.toArray lo hi none=((bN.drop (HT.uj bN.length 0 lo)).take (HT.uj bN.length bN.length hi - HT.uj bN.length 0 lo)).toArray:=by let⟨h1,h2,h3⟩:=yF lo hi bN.toArray.size;unfold slicePick;rw[h1,h2,h3];simp![sliceRange_one,pick_run,aO] <;>rfl
def VS (K:WW):V ->fj Int ->fj Int ->Hp ->VK ->Prop:=λx lo hi H Q=>cx λa xs=>c8 (x= .ref a) (ij K H a xs) (∀p,H p=none ->Q (.ref p) (cR H p (.lst (BB xs lo hi))))
def yG:SlR X (VS X.K):=by intro ah s σ H x v vl vu lo hi sl Q I rx hs pl pu h;let⟨a,xs,rfl,hx,q⟩:=h;cases rx;let⟨bN,r,ht,hz⟩:=I.list hx;have dR:=r.length;exact#["list",_,slot_list_getitem.lookup,ht.isList.typeIs,?_];exact wpAny_getItem_list_slice ht.isList hs pl pu .none (by simp) ?_ (by rw[aO] <;>lia);rw[wF, <- dR];exact#[.ref s.heap.objs.size,_,I.laid (t':=s.toks) (o:= .lst (BB xs lo hi)) (λb ob q=>av _ q) (aq _) ?_,rfl,q _ (I.cU.fresh (aq _))];show#[ar (BA xs lo hi) hz,_,0,(r.drop (HT.uj xs.length 0 lo)).take (HT.uj xs.length xs.length hi - HT.uj xs.length 0 lo),a6 _ rfl]
def me:V ->Bool
 | .ez=>true
 | .bl _=>true
 | .int _=>true
 | .str _=>true
 | _=>false
def Hy:V ->V ->Bool
 | .ez, .ez=>true
 | .bl a, .bl b=>a==b
 | .bl a, .int b=>(if a then 1 else 0)==b
 | .int a, .bl b=>a==(if b then 1 else 0)
 | .int a, .int b=>a==b
 | .str a, .str b=>a==b
 | _,_=>false
def KL (ry:RelV y u)(rx:RelV x v)(fy:me y=true)(fx:me x=true):SeqAt.EqAt A s u v (Hy y x):=by
 cases y with
 | ez=>
  cases ry;cases x with
  | ez=>cases rx;show SeqAt.EqAt.same _
  | bl b=>cases rx;show SeqAt.EqAt.none_bool b
  | int b=>let⟨t,rfl⟩:=rx;show SeqAt.EqAt.none_int b t
  | str b=>let⟨t,rfl⟩:=rx;show SeqAt.EqAt.none_str b t
  | _=>show absurd (show false=true from fx) br
 | bl a=>
  cases ry;cases x with
  | ez=>cases rx;show SeqAt.EqAt.bool_none a
  | bl b=>cases rx;show SeqAt.EqAt.bool_bool a b
  | int b=>let⟨t,rfl⟩:=rx;show SeqAt.EqAt.bool_int a b t
  | str b=>let⟨t,rfl⟩:=rx;show SeqAt.EqAt.bool_str a b t
  | _=>show absurd (show false=true from fx) br
 | int a=>
  let⟨t',rfl⟩:=ry;cases x with
  | ez=>cases rx;show SeqAt.EqAt.int_none a t'
  | bl b=>cases rx;show SeqAt.EqAt.int_bool a t' b
  | int b=>let⟨t,rfl⟩:=rx;show SeqAt.EqAt.int_int a t' b t
  | str b=>let⟨t,rfl⟩:=rx;show SeqAt.EqAt.int_str a t' b t
  | _=>show absurd (show false=true from fx) br
 | str a=>
  let⟨t',rfl⟩:=ry;cases x with
  | ez=>cases rx;show SeqAt.EqAt.str_none a t'
  | bl b=>cases rx;show SeqAt.EqAt.str_bool a t' b
  | int b=>let⟨t,rfl⟩:=rx;show SeqAt.EqAt.str_int a t' b t
  | str b=>let⟨t,rfl⟩:=rx;show SeqAt.EqAt.str_str a t' b t
  | _=>show absurd (show false=true from fx) br
 | _=>show absurd (show false=true from fy) br
def Dg (x:V)(u:df):Bool:=match u with
 | .none=>Hy .ez x
 | .bool b=>Hy (.bl b) x
 | .int i _=>Hy (.int i) x
 | .str z _=>Hy (.str z) x
 | _=>false
def KJ (r:RelV y u)(f:me y=true):Dg x u=Hy y x:=by
 cases y with
 | ez=>cases r;rfl
 | bl b=>cases r;rfl
 | int i=>let⟨t,rfl⟩:=r;rfl
 | str z=>let⟨t,rfl⟩:=r;rfl
 | _=>show absurd (show false=true from f) br
theorem qg {x:V}: ∀ {xs:cH V} {us:cH df},cj xs us ->xs.all me=true ->us.any (Dg x)=xs.any λy=>Hy y x
 | _,_, .nil,_=>rfl
 | y::xs,u::us, .cons r t,f=>by rw[List.all_cons,cG] at f;rw[List.any_cons,List.any_cons,KJ r f.1,qg t f.2]
theorem lY {A:Around}{s:dG}{x:V}{v:df}(rx:RelV x v)(fx:me x=true): ∀ {xs:cH V} {us:cH df},cj xs us ->xs.all me=true -> ∀u∈us,SeqAt.EqAt A s u v (Dg x u)
 | _,_, .nil,_=>λu hu=>by cases hu
 | y::xs,u::us, .cons r t,f=>λu' hu=>by rw[List.all_cons,cG] at f;obtain rfl | hu:=aV.mp hu;rw[KJ r f.1];show KL r rx f.1 fx;show lY rx fx t f.2 u' hu
def Qf (x:V)(xs:cH V):Bool:=xs.any λy=>Hy y x
def VW (K:WW)(Uh:Bool):R2:=λx y H Q=>cx λp xs=>gy (y= .ref p) (ij K H p xs \/ lm K H p xs) (me x=true) (xs.all me=true) (Q (.bl (if Uh then !Qf x xs else Qf x xs)) H)
def Go:jd X (compareOp .In) (VW X.K false):=by intro ah s σ H x y v u Q I rx ry h;let⟨p,xs,rfl,hq,fx,fs,q⟩:=h;cases ry;obtain hq | hq:=hq;let⟨bN,r,pl,hz⟩:=I.list hq;exact SeqAt.in_listAt (Dg x) pl.isList (λw hw=>lY rx fx r fs w ⇑hw) #[.bl _,H,I,rfl,?_];rw[show bN.toArray.any (Dg x)=bN.any (Dg x) by simp,qg r fs];show q;let⟨bN,r,pl,hz⟩:=I.tuple hq;exact SeqAt.in_tupleAt (Dg x) pl (λw hw=>lY rx fx r fs w ⇑hw) #[.bl _,H,I,rfl,?_];rw[show bN.toArray.any (Dg x)=bN.any (Dg x) by simp,qg r fs];show q
def y8:jd X (compareOp .NotIn) (VW X.K true):=by intro ah s σ H x y v u Q I rx ry h;let⟨p,xs,rfl,hq,fx,fs,q⟩:=h;cases ry;obtain hq | hq:=hq;let⟨bN,r,pl,hz⟩:=I.list hq;exact SeqAt.notIn_listAt (Dg x) pl.isList (λw hw=>lY rx fx r fs w ⇑hw) #[.bl _,H,I,rfl,?_];rw[show bN.toArray.any (Dg x)=bN.any (Dg x) by simp,qg r fs];show q;let⟨bN,r,pl,hz⟩:=I.tuple hq;exact SeqAt.notIn_tupleAt (Dg x) pl (λw hw=>lY rx fx r fs w ⇑hw) #[.bl _,H,I,rfl,?_];rw[show bN.toArray.any (Dg x)=bN.any (Dg x) by simp,qg r fs];show q
def y3:jd X (compareOp .NotIn) (λx y H Q=>cx λi j=>c8 (x= .str i) (y= .str j) (Q (.bl (!(!(Builtin.Str.occurrences j i 0 j.length 1).isEmpty))) H)):=by intro ah s σ H x y v u Q I rx ry h;let⟨i,j,rfl,rfl,q⟩:=h;let⟨t,rfl⟩:=rx;let⟨t',rfl⟩:=ry;show notIn_str #[.bl _,H,I,rfl,q]
def zF:fJ X (.builtin "len") (λxs H Q=>cx λp ys=>c8 (xs= [.ref p]) (ij X.K H p ys \/ lm X.K H p ys) (Q (.int ys.length) H)):=by intro ah s σ H xs us Q I r h;let⟨p,ys,rfl,hq,q⟩:=h;let⟨u,rfl,rx⟩:=vals1 r;cases rx;have hn:=oh;obtain hq | hq:=hq;let⟨bN,r',pl,hz⟩:=I.list hq;have dR:=r'.length;show Calls.call_len_list pl.isList (by simp![aO] <;>lia) #[.int ys.length,H,I.tok _,#[s.toks+1,by rw[aO,dR]],q];let⟨bN,r',pl,hz⟩:=I.tuple hq;have dR:=r'.length;show len_tuple pl (by simp![aO] <;>lia) #[.int ys.length,H,I.tok _,#[s.toks+1,by rw[aO,dR]],q]
def zE:fJ X (.builtin "len") (λxs H Q=> ∃z,c8 (xs= [.str z]) (z.length<=sizeLine) (Q (.int z.length) H)):=by intro ah s σ H xs us Q I r h;let⟨z,rfl,hz,q⟩:=h;let⟨u,rfl,t,rfl⟩:=vals1 r;have hn:=oh;show len_str ∅ #[.int z.length,H,I.tok _,#[_,rfl],q]
def zD:fJ X (.type "list") (λxs H Q=>cx λp ys=>c8 (xs= [.ref p]) (ij X.K H p ys \/ lm X.K H p ys) (∀l,H l=none ->Q (.ref l) (cR H l (.lst ys)))):=by
 intro ah s σ H xs us Q I r h;let⟨p,ys,rfl,hq,q⟩:=h;let⟨u,rfl,rx⟩:=vals1 r;cases rx;have fin: ∀ (bN:cH df),cj ys bN ->ys.length<=sizeLine -> ∀ (h':Heap) (c':Nat),(∀b o',s.heap.get? b=some o' ->h'.get? b=some o') ->h'.get? s.heap.objs.size=some {cls:= .type "list",dict:=none,data:= .seq bN.toArray c',slots:= #[]} ->EP X ah σ Q (.ref s.heap.objs.size) {s with heap:=h'}:=λbN r' hz h' c' kp e=>#[.ref s.heap.objs.size,_,I.laid (t':=s.toks) kp (aq _) (show eC X.prog X.w _ h' _ (.lst ys) from#[hz,bN,c',r',e]),rfl,q _ (I.cU.fresh (aq _))]
 obtain hq | hq:=hq;let⟨bN,r',pl,hz⟩:=I.list hq;have dR:=r'.length;let⟨o,ho,hc,n,hd⟩:=pl.isList;show call_list_seq p (.inl rfl) ho hc hd (λh' c' kp e=>fin bN r' hz h' c' kp e) (by simp![aO] <;>lia);let⟨bN,r',pl,hz⟩:=I.tuple hq;have dR:=r'.length;let⟨o,ho,hc,n,hd⟩:=pl;show call_list_seq p (.inr rfl) ho hc hd (λh' c' kp e=>fin bN r' hz h' c' kp e) (by simp![aO] <;>lia)
def wV:fJ X (.type "tuple") (λxs H Q=>cx λp ys=>xs= [.ref p] /\ ((ij X.K H p ys /\ ∀l,H l=none ->Q (.ref l) (cR H l (.tup ys))) \/ (lm X.K H p ys /\ Q (.ref p) H))):=by
 intro ah s σ H xs us Q I r h;let⟨p,ys,rfl,h⟩:=h;let⟨u,rfl,rx⟩:=vals1 r;cases rx;rcases h with⟨hq,q⟩ | ⟨hq,q⟩
 let⟨bN,r',pl,hz⟩:=I.list hq;have dR:=r'.length;exact call_tuple_list pl.isList (λh' kp=> ?_) (by simp![aO] <;>lia);have I1:Inv X ah σ H {s with heap:=h'}:=I.kept (t':=s.toks) kp;have I2:Inv X ah σ (cR H h'.objs.size (.tup ys)) {s with heap:=h'.push {cls:= .type "tuple",data:= .seq bN.toArray}}:=I1.laid (t':=s.toks) (λb o e=>av _ e) (aq _) (show eC X.prog X.w _ _ _ (.tup ys) from#[hz,bN,r',zO.new _ _]);show#[.ref h'.objs.size,_,I2,rfl,q _ (I1.cU.fresh (aq _))];let⟨bN,r',pl,hz⟩:=I.tuple hq;show call_tuple_same pl #[.ref p,H,I,rfl,q]
def YW (K:WW)(T:String)(x:V)(H:Hp):Prop:=match x with
 | .str _=>T= "str"
 | .int _=>T= "int"
 | .ref p=>(T= "list" /\ ∃xs,ij K H p xs) \/ (T= "tuple" /\ ∃o,c8 (K.lookup p=some o) (o.cls= .type "tuple") (o.dict=none)) \/(T= "dict" /\ ((∃kvs,H p=some (.dK kvs)) \/ ∃kvs,H p=some (.dT kvs))) \/ (T= "set" /\ ∃S n,H p=some (.set S n))
 | _=>False
def H_ {σ:St}(I:Inv X ah σ H s)(r:RelV x v)(ty:YW X.K T x H): s.TypeIs v T /\ ∀a,v= .ref a -> ∃ob,s.heap.get? a=some ob /\ ob.dict=none:=by
 cases x with
 | str z=>let⟨t,rfl⟩:=r;cases (show T= "str" from ty);show#[typeIs_str s z t,λ_ e=>nomatch e]
 | int i=>let⟨t,rfl⟩:=r;cases (show T= "int" from ty);show#[typeIs_int s i t,λ_ e=>nomatch e]
 | ref p =>
  cases r;rcases ty with⟨rfl,xs,hq⟩ | ⟨rfl,o,hk,hc,hd⟩ | ⟨rfl,hk⟩ | ⟨rfl,S,n,hk⟩
  let⟨bN,_,pl,_⟩:=I.list hq;exact#[pl.isList.typeIs,λa e=> ?_];cases e;let⟨o,n,e,c,hd,_⟩:=pl;show#[o,e,hd];exact#[#[o,I.nH p o hk,hc],λa e=> ?_];cases e;show#[o,I.nH _ o hk,hd];have z: ∃o,s.heap.get? p=some o /\ o.ExactDict:=by
   rcases hk with⟨kvs,hk⟩ | ⟨kvs,hk⟩
   let⟨_,_,_,_,o,_,_,e,ex,_⟩:=I.cU p _ hk;show#[o,e,ex];let⟨_,_,_,_,o,_,_,e,ex,_⟩:=I.cU p _ hk;show#[o,e,ex]
  let⟨o,e,ex⟩:=z;exact#[#[o,e,ex.1],λa e2=> ?_];cases e2;show#[o,e,ex.2.1];let⟨o,_,_,_,e,ex,_⟩:=I.cU p _ hk;exact#[#[o,e,ex.1],λa e2=> ?_];cases e2;show#[o,e,ex.2.1]
 | _=>show False.elim ty
def VB (K:WW)(T:String)(r:V ->cH V ->Hp ->VK ->Prop)(to:TE):TE:=λσ H Q=>to σ H λx H1=>YW K T x H1 /\ r x [] H1 Q
def YZ (K:WW)(T:String)(r:V ->cH V ->Hp ->VK ->Prop)(to:TE)(t:TA):TE:=λσ H Q=>to σ H λx H1=>YW K T x H1 /\ t σ H1 λxs H2=>r x xs H2 Q
variable {o e:Expr}{es:cH Expr}{to:TE}{t:TA}{name:Str}{dP dy:Pos}{T id:String}{r:V ->cH V ->Hp ->VK ->Prop}
def yV (pa:PlainAttrs T)(slot:Slot T name id)(W8:typeOf (.builtin id)=pure (.type "method_descriptor"))(hm:HA X id r)(ho:PE X o to) (vI:attributeBase o name X.env (eval o X.env)=eval o X.env:=by rfl) (vH:(dP.endLine==dy.line)=true:=by rfl):PE X (.Call (.Attribute o name dP) [] [] dy) (VB X.K T r to):=by intro ah s σ H Q I h;exact wpAny_Call_method0_late vI vH (c7 (ho ah s σ H _ I h) λv s1 ⟨x,H1,I1,r1,ty,q1⟩=> ?_);let⟨h1,h2⟩:=H_ I1 r1 ty;show#[T,id,pa,slot,W8,h1,h2,Calls.callWith_builtin rfl (PySem.evalArgs_none (hm ah s1 σ H1 x [] v [] Q I1 r1 .nil q1))]
def eV (pa:PlainAttrs T)(slot:Slot T name id)(W8:typeOf (.builtin id)=pure (.type "method_descriptor"))(hm:HA X id r)(ho:PE X o to)(ha:PA X (e::es) t) (vI:attributeBase o name X.env (eval o X.env)=eval o X.env:=by rfl) (Td:((backTo dy (starEach (e::es) X.env)).all (λx=> !x.1) && (backToKw dy (keywordEach [] X.env)).all (λx=>x.1.isSome) && decide ((e::es).length+([]:cH Keyword).length+(if([]:cH Keyword).isEmpty then 0 else 1) <30))=true:=by rfl) (vH:(dP.endLine==dy.line)=true:=by rfl) (hs:starEach (e::es) X.env=(false,eval e X.env)::starEach es X.env:=by rfl) (C7:(backTo dy (starEach es X.env)).any (·.1)=false:=by rfl): PE X (.Call (.Attribute o name dP) (e::es) [] dy) (YZ X.K T r to t):=by intro ah s σ H Q I h;exact wpAny_Call_method_late vI Td vH rfl (c7 (ho ah s σ H _ I h) λv s1 ⟨x,H1,I1,r1,ty,q1⟩=> ?_);let⟨h1,h2⟩:=H_ I1 r1 ty;exact#[T,id,pa,slot,W8,h1,h2,?_];have hA:=ha dy ah s1 σ H1 _ I1 q1;rw[hs] at hA ⊢;exact Calls.callWith_builtin (by change(false || (backTo dy (starEach es X.env)).any (·.1))=false;rw[C7] <;>rfl) (Calls.evalArgs_plain ?_);show c7 hA λus s2 ⟨vs,H2,I2,r2,q2⟩=>hm ah s2 σ H2 x vs v us Q I2 r1 r2 q2
end
def X' (X:Cx)(id:String)(r:V ->cH V ->Hp ->VK ->Prop):Prop:=∀ (ah:cH (fY×Obj)) (s:dG) (σ:St) (H:Hp) (x:V) (xs:cH V) (v:df) (us:cH df) (Q:VK),Inv X ah σ H s ->RelV x v ->cj xs us ->r x xs H Q ->wpAny (model X.prog X.w) X.A (call (.builtin id) (v::us)) (EP X ah σ Q) X.xe s
def cj.one: ∀ {x:V} {us:cH df},cj [x] us -> ∃u,us= [u] /\ RelV x u :=by intro x us h;cases h with | cons r t=>cases t;show#[_,rfl,r]
def cj.two: ∀ {x y:V} {us:cH df},cj [x,y] us ->cx λu v=>c8 (us= [u,v]) (RelV x u) (RelV y v) :=by intro x y us h;cases h with | cons r t=>cases t with | cons q t=>cases t;show#[_,_,rfl,r,q]
theorem cj.zero: ∀ {us:cH df},cj [] us ->us= []
 | _, .nil=>rfl
def cj.dropLast (h:cj xs us):cj xs.dropLast us.dropLast:=by
 induction h with
 | nil=>show .nil
 | cons r t ih=>
  cases t with
  | nil=>show .nil
  | cons q t'=>show .cons r ih
def Df {α:Type}(l:cH α):l.eraseIdx (l.length - 1)=l.dropLast:=by
 induction l with
 | nil=>rfl
 | cons a r ih=>
  cases r with
  | nil=>rfl
  | cons b r=>
   have e:(a::b::r).length - 1=((b::r).length - 1)+1:=by have h1:(a::b::r).length=r.length+2:=rfl;have h2:(b::r).length=r.length+1:=rfl;lia
   rw[e,List.eraseIdx_cons_succ,ih];all_goals rfl
def Inv.JP {σ:St}{bN its':cH df}(I:Inv X ah σ H s)(hH:H l=some (.lst xs))(e:s.heap.get? l=some {cls:= .type "list",data:= .seq bN.toArray n})(hf:f bN.toArray=its'.toArray)(hv:cj ys its')(hz:ys.length<=sizeLine): Inv X ah σ (cR H l (.lst ys)) {s with heap:=s.heap.update l (Obj.mapSeq f),toks:=t'}:=by have q:=PySem.IsL.update e f;rw[hf] at q;exact I.write (x:=l) (e:=l) (by rw[hH];show trivial) (.inl rfl) (λb' u hb hu=>(Heap.get?_update_other s.heap (Obj.mapSeq f) (dD hb)).trans hu) #[_,q] ?_;show#[hz,its',_,hv,q]
theorem Inv.aaz {σ:St}(I:Inv X ah σ H s)(hv:cj ys bN)(hz:ys.length<=sizeLine): Inv X ah σ (cR H s.heap.objs.size (.lst ys)) {s with heap:=s.heap.push {cls:= .type "list",data:= .seq bN.toArray},toks:=t'}:=I.laid (λ_ _ q=>av _ q) (aq _) #[hz,bN,0,hv,a6 _ rfl]
theorem Inv.fresh {σ:St}(I:Inv X ah σ H s):H s.heap.objs.size=none:=I.cU.fresh (aq _)
def Inv.AU {σ:St}(I:Inv X ah σ H s)(hH:H l=some (.lst xs)):xs.length<=sizeLine /\ cx λ(bN:cH df) (n:Nat)=>c8 (cj xs bN) (xs.length=bN.length) (s.heap.get? l=some {cls:= .type "list",data:= .seq bN.toArray n}):=by let⟨z,bN,n,r,e⟩:=I.cU l _ hH;show#[z,bN,n,r,r.length,e]
def JG (h:n<=sizeLine):Builtin.List.listTooLong n=false:=by unfold Builtin.List.listTooLong;show aG ∅
def Et:V ->cH V ->Hp ->VK ->Prop:=λx vs H Q=>eZ λl xs y=>gy (x= .ref l) (vs= [y]) (H l=some (.lst xs)) (xs.length<sizeLine) (Q .ez (cR H l (.lst (xs++ [y]))))
def dh:X' X "list.append" Et:=by intro ah s σ H x vs v us Q I rx rv h;let⟨l,xs,y,rfl,rfl,hH,hz,q⟩:=h;cases rx;let⟨u,rfl,ru⟩:=rv.one;let⟨z,bN,n,r,hl,e⟩:=I.AU hH;exact call_meets F.slot_list_append #[_,e,rfl] F.entry_list_append (F.args_list_append_2 _ _) (PySem.list_append l bN.toArray n u (by rw[aO];lia)) #[e,?_];exact#[.ez,_,I.JP (its':=bN++ [u]) hH e (by simp) (r.append (.cons ru .nil)) ?_,rfl,q];rw[aE,List.length_singleton];lia
def Es:V ->cH V ->Hp ->VK ->Prop:=λx vs H Q=>gc λl b xs zs=>lz (x= .ref l) (vs= [.ref b]) (H l=some (.lst xs)) (H b=some (.lst zs)) (xs.length+zs.length<=sizeLine) (Q .ez (cR H l (.lst (xs++zs))))
def m8:X' X "list.extend" Es:=by
 intro ah s σ H x vs v us Q I rx rv h;let⟨l,b,xs,zs,rfl,rfl,hH,hB,hz,q⟩:=h;cases rx;let⟨u,rfl,ru⟩:=rv.one;cases ru;let⟨z,bN,n,r,hl,e⟩:=I.AU hH;let⟨z2,zo,n2,r2,Uu,e2⟩:=I.AU hB;have hsz:bN.toArray.size+zo.toArray.size<=sizeLine:=by rw[aO,aO];lia
 have Xh:¬(!bN.toArray.isEmpty && Builtin.List.listTooLong (bN.toArray.size+zo.toArray.size))=true:=by rw[JG hsz,Bool.and_false];show br
 exact call_meets F.slot_list_extend #[_,e,rfl] F.entry_list_extend (F.args_list_extend_2 _ _) (AutoSeq1.list_extend_list_list_0 l bN.toArray n b zo.toArray n2 Xh (by rw[aO];lia) ∅) #[e,e2,?_];exact#[.ez,_,I.JP (its':=bN++zo) hH e (by simp) (r.append r2) ?_,rfl,q];rw[aE];lia
def VT:V ->cH V ->Hp ->VK ->Prop:=λx vs H Q=>eZ λl xs y=>gy (x= .ref l) (vs= []) (H l=some (.lst xs)) (xs[xs.length - 1]? =some y) (Q y (cR H l (.lst xs.dropLast)))
def JM:X' X "list.pop" VT:=by
 intro ah s σ H x vs v us Q I rx rv h;let⟨l,xs,y,rfl,rfl,hH,hy,q⟩:=h;cases rx;have xK:=rv.zero;subst xK;let⟨z,bN,n,r,hl,e⟩:=I.AU hH;let⟨u,hu,ru⟩:=r.get hy;have hy':bN.toArray[bN.toArray.size - 1]? =some u:=by change bN.toArray[bN.length - 1]? =some u;rw[<- Array.getElem?_toList, <- hl];show hu
 exact call_meets F.slot_list_pop #[_,e,rfl] F.entry_list_pop (F.args_list_pop_1 _) (MeetsSeq.list_pop_last l bN.toArray n u hy' (by rw[aO];lia)) #[e,?_];exact#[y,_,I.JP (its':=bN.dropLast) hH e ?_ r.dropLast ?_,ru,q];change bN.toArray.eraseIdxIfInBounds (bN.toArray.size - 1)=bN.dropLast.toArray;rw[aO,List.eraseIdxIfInBounds_toArray,Df];rw[List.length_dropLast];lia
def Jd:V ->cH V ->Hp ->VK ->Prop:=λx vs H Q=>cx λl xs=>fA (x= .ref l) (vs= []) (H l=some (.lst xs)) (Q .ez (cR H l (.lst [])))
def AO:X' X "list.clear" Jd:=by intro ah s σ H x vs v us Q I rx rv h;let⟨l,xs,rfl,rfl,hH,q⟩:=h;cases rx;have xK:=rv.zero;subst xK;let⟨z,bN,n,r,hl,e⟩:=I.AU hH;exact call_meets F.slot_list_clear #[_,e,rfl] F.entry_list_clear (F.args_list_clear_1 _) (AutoSeq1.list_clear_list_0 l bN.toArray n (by rw[aO];lia)) #[e,?_];show#[.ez,_,I.JP (its':= []) (ys:= []) hH e rfl .nil (dm _),rfl,q]
def VY:R2:=λx y H Q=>gc λl b xs zs=>lz (x= .ref l) (y= .ref b) (H l=some (.lst xs)) (H b=some (.lst zs)) (xs.length+zs.length<=sizeLine) (∀p,H p=none ->Q (.ref p) (cR H p (.lst (xs++zs))))
def kf:jd X (binaryOp .Add) VY:=by
 intro ah s σ H x y v u Q I rx ry h;let⟨l,b,xs,zs,rfl,rfl,hH,hB,hz,q⟩:=h;cases rx;cases ry;let⟨z,bN,n,r,hl,e⟩:=I.AU hH;let⟨z2,zo,n2,r2,Uu,e2⟩:=I.AU hB;exact PySem.P.add_list e e2 ?_ (by rw[aO,aO];lia);have ea:bN.toArray++zo.toArray=(bN++zo).toArray:=by simp
 rw[ea];show#[.ref _,_,I.aaz (t':=s.toks) (r.append r2) (by rw[aE];lia),rfl,q _ I.fresh]
section
variable {κ:Type} [DecidableEq κ]
def i8 (kvs:cH (κ×V))(k:κ):fj V:=(kvs.find? λkv=>decide (kv.1=k)).map (·.2)
def nk (kvs:cH (κ×V))(k:κ)(v:V):cH (κ×V):=if(kvs.any λkv=>decide (kv.1=k))=true then kvs.map (λkv=>if kv.1=k then(kv.1,v) else kv) else kvs++ [(k,v)]
def mD (kvs:cH (κ×V))(k:κ):cH (κ×V):=kvs.filter λkv=>decide (kv.1≠k)
def uG {k:κ}(e:p.1=k):i8 (p::r) k=some p.2:=by simp[i8,cQ,e]
def uH {k:κ}(e:¬p.1=k):i8 (p::r) k=i8 r k:=by simp[i8,cQ,e]
theorem z_ (k:κ): ∀kvs:cH (κ×V),(kvs.any λkv=>decide (kv.1=k))=(i8 kvs k).isSome
 | []=>rfl
 | p::r=>by rw[List.any_cons];by_cases e:p.1=k;simp![uG e,a8 e,Bool.true_or,cz];rw[uH e,aG e,Bool.false_or];show z_ k r
def rY (kvs:cH (κ×V))(k:κ)(v:V):(nk kvs k v).length<=kvs.length+1:=by unfold nk;split;rw[af];lia;rw[aE,aC,List.length_nil];lia
def kz.iG (r:kz o u):o.isSome=u.isSome:=by
 cases o with
 | none=>cases u with
  | none=>rfl
  | some _=>show(show False from r).elim
 | some _=>cases u with
  | none=>show(show False from r).elim
  | some _=>rfl
def kz.getD (r:kz o u)(rd:RelV d d'):RelV (o.getD d) (u.getD d'):=by
 cases o with
 | none=>cases u with
  | none=>show rd
  | some _=>show(show False from r).elim
 | some _=>cases u with
  | none=>show(show False from r).elim
  | some _=>show r
def KV.val (r:KV kvs vs)(k:κ):kz (i8 kvs k) (valueAt vs k):=by
 unfold KV at r;induction r with
 | nil=>show True.intro
 | @cons p q ps qs h t ih=>
  let⟨h1,h2⟩:=h;by_cases e:p.1=k;have e':q.1=k:=h1.symm.trans e;have b:valueAt (q::qs) k=some q.2:=by simp[valueAt,cQ,e']
  rw[uG e,b];show h2;have e':¬q.1=k:=λz=>e (h1.trans z);have b:valueAt (q::qs) k=valueAt qs k:=by simp[valueAt,cQ,e']
  rw[uH e,b];show ih
def KV.any (r:KV kvs vs)(k:κ):(kvs.any λkv=>decide (kv.1=k))=vs.any λkv=>decide (kv.1=k):=by
 unfold KV at r;induction r with
 | nil=>rfl
 | cons h t ih=>rw[List.any_cons,List.any_cons,ih,h.1]
def KV.Ry (r:KV kvs vs)(k:κ)(ry:RelV y u): KV (kvs.map λkv=>if kv.1=k then(kv.1,y) else kv) (vs.map λkv=>if kv.1=k then(kv.1,u) else kv):=by
 unfold KV at r ⊢;induction r with
 | nil=>show .nil
 | @cons p q ps qs h t ih=>rw[aP,aP];exact .cons ?_ ih;let⟨h1,h2⟩:=h;by_cases e:p.1=k;rw[ao e,ao (h1.symm.trans e)];show#[h1,ry];rw[ak e,ak (λz=>e (h1.trans z))];show#[h1,h2]
def KV.put (r:KV kvs vs)(k:κ)(ry:RelV y u):KV (nk kvs k y) (stored vs k u):=by unfold nk stored;rw[r.any k];by_cases e:(vs.any λkv=>decide (kv.1=k))=true;rw[ao e,ao e];show r.Ry k ry;rw[ak e,ak e];show Paired.snoc r #[rfl,ry]
def KV.drop (r:KV kvs vs)(k:κ):KV (mD kvs k) (without vs k):=by
 unfold KV at r ⊢;unfold mD without;induction r with
 | nil=>show .nil
 | @cons p q ps qs h t ih=>
  let⟨h1,h2⟩:=h;rw[List.filter_cons,List.filter_cons];by_cases e:p.1=k;have a:¬decide (p.1≠k)=true:=by simp[e]
  have b:¬decide (q.1≠k)=true:=by simp[h1.symm.trans e]
  rw[ak a,ak b];show ih;have e':¬q.1=k:=λz=>e (h1.trans z);have a:decide (p.1≠k)=true:=by simp[e]
  have b:decide (q.1≠k)=true:=by simp[e']
  rw[ao a,ao b];show .cons #[h1,h2] ih
def KV.keys {vs:cH (κ×df)}(r:KV kvs vs):kvs.map (·.1)=vs.map (·.1):=by
 unfold KV at r;induction r with
 | nil=>rfl
 | cons h t ih=>rw[aP,aP,ih,h.1]
theorem KV.length {vs:cH (κ×df)}(r:KV kvs vs):kvs.length=vs.length:=Paired.length r
theorem Bo (kvs:cH (κ×V))(k:κ):(mD kvs k).length<=kvs.length:=List.length_filter_le _ _
end
def si (r:RelV (kV k) u):(cO P w).is k u=true:=by
 cases k with
 | inl i=>let⟨t,e⟩:=(show ∃t,u=Value.int i t from r);subst e;show AS P w i t
 | inr x=>let⟨t,e⟩:=(show ∃t,u=Value.str x t from r);subst e;show AR P w x t
theorem xJ {P:Program}{w:World}: ∀ {ks:cH cf} {us:cH df},cj (ks.map kV) us ->ItemsAre (cO P w) ks us
 | [],_,r=>by rw[List.map_nil] at r;cases r;show .nil
 | k::ks,_,r=>by
  rw[aP] at r;cases r with
  | cons h t=>show .cons (si h) (xJ t)
abbrev KT (H:Hp):cH (cH cf×V) ->cH (cH cf×fY×df) ->Prop:=Paired λp q=>p.1=q.1 /\ H q.2.1=some (.tup (p.1.map kV)) /\ RelV p.2 q.2.2
def KT.val (r:KT H kvs xs)(k:cH cf):kz (i8 kvs k) ((atKey xs k).map (·.2)):=by
 induction r with
 | nil=>show True.intro
 | @cons p q ps qs h t ih=>
  let⟨h1,_,h2⟩:=h;by_cases e:p.1=k;have e':q.1=k:=h1.symm.trans e;have b:atKey (q::qs) k=some q.2:=by simp[atKey,cQ,e']
  rw[uG e,b];show h2;have e':¬q.1=k:=λz=>e (h1.trans z);have b:atKey (q::qs) k=atKey qs k:=by simp[atKey,cQ,e']
  rw[uH e,b];show ih
def KT.Ry (r:KT H kvs xs)(k:cH cf)(ry:RelV y u): KT H (kvs.map λkv=>if kv.1=k then(kv.1,y) else kv) (xs.map (putAt k u)):=by
 induction r with
 | nil=>show .nil
 | @cons p q ps qs h t ih=>rw[aP,aP];exact .cons ?_ ih;let⟨h1,h2,h3⟩:=h;unfold putAt;by_cases e:p.1=k;rw[ao e,ao (h1.symm.trans e)];show#[h1,h2,ry];rw[ak e,ak (λz=>e (h1.trans z))];show#[h1,h2,h3]
def KT.put (r:KT H kvs xs)(k:cH cf)(hb:H b=some (.tup (k.map kV)))(ry:RelV y u): KT H (nk kvs k y) (storedH xs k b u):=by
 have e:(kvs.any λkv=>decide (kv.1=k))=(atKey xs k).isSome:=by rw[z_,(r.val k).iG,b8]
 unfold nk storedH;rw[e];by_cases q:(atKey xs k).isSome=true;rw[ao q,ao q];show r.Ry k ry;rw[ak q,ak q];show Paired.snoc r #[rfl,hb,ry]
theorem KT.keeps (r:KT H kvs xs)(ht: ∀b ys,H b=some (.tup ys) ->H' b=some (.tup ys)):KT H' kvs xs:=Paired.Si r λ_ _ z=>#[z.1,ht _ _ z.2.1,z.2.2]
theorem Po (ok:nj P w H h)(e:Rd H a u):eC P w H h a u:=e.ok ok
theorem pZ (ok:nj P w H h)(e:Rd H a (.dK kvs)):kvs.length<=sizeLine /\ (a==sysModules)=false /\ ∃vs,KV kvs vs /\ h.DictOf (cO P w) a vs:=
 show eC P w H h a (.dK kvs) from Po ok e
theorem xY (ok:nj P w H h)(e:H a=some (.dK kvs)):kvs.length<=sizeLine /\ (a==sysModules)=false /\ ∃vs,KV kvs vs /\ h.DictOf (cO P w) a vs:=pZ ok (.inl e)
def qW (ok:nj P w H h)(e:H a=some (.tup (ks.map kV))):(tupleKind (cO P w)).is h ks a:=by
 let⟨_,bN,r,o,h1,h2,n,h3,_⟩:=(show eC P w H h a (.tup (ks.map kV)) from ok a _ e)
 show#[o,bN.toArray,n,h1,h2,h3, ⇑(xJ r)]
def vP (ok:nj P w H h)(e:Rd H a (.dT kvs)):kvs.length<=sizeLine /\ (a==sysModules)=false /\∃xs,KT H kvs xs /\ h.DictOfH (tupleKind (cO P w)) a xs:=by
 let⟨z,y,xs,r,o,es,ep,h1,h2,h3,h4,h5⟩:=(show eC P w H h a (.dT kvs) from Po ok e)
 exact#[z,y,xs,r,o,es,ep,h1,h2,h3,h4,λx hx=> ?_,h5];have all: ∀ {l:cH (cH cf×V)} {m:cH (cH cf×fY×df)},KT H l m -> ∀x∈m,(tupleKind (cO P w)).is h x.1 x.2.1:=by
  intro l m q;induction q with
  | nil=>intro x hx;show nomatch hx
  | @cons p q ps qs hq t ih=>intro x hx;obtain e | hx:=aV.mp hx;subst e;show qW ok (by rw[<- hq.1];show hq.2.1);show ih x hx
 show all r x hx
theorem XM (ok:nj P w H h)(e:H a=some (.dT kvs)):kvs.length<=sizeLine /\ (a==sysModules)=false /\∃xs,KT H kvs xs /\ h.DictOfH (tupleKind (cO P w)) a xs:=vP ok (.inl e)
def nu (H:Hp)(a:fY)(y:V)(r:fj V):Prop:=(cx λkvs k=>c8 (Rd H a (.dK kvs)) (y=kV k) (r=i8 kvs k)) \/ eZ λkvs k b=>fA (Rd H a (.dT kvs)) (y= .ref b) (H b=some (.tup (k.map kV))) (r=i8 kvs k)
def LK (H:Hp)(a:fY)(y v:V)(H':Hp):Prop:=(cx λkvs k=>fA (H a=some (.dK kvs)) (y=kV k) (kvs.length<sizeLine) (H'=cR H a (.dK (nk kvs k v)))) \/eZ λkvs k b=>gy (H a=some (.dT kvs)) (y= .ref b) (H b=some (.tup (k.map kV))) (kvs.length<sizeLine) (H'=cR H a (.dT (nk kvs k v)))
theorem nu.k {k:cf}(e:H a=some (.dK kvs)):nu H a (kV k) (i8 kvs k):= .inl #[kvs,k, .inl e,rfl,rfl]
theorem LK.k {k:cf}(e:H a=some (.dK kvs))(hl:kvs.length<sizeLine):LK H a (kV k) v (cR H a (.dK (nk kvs k v))):= .inl #[kvs,k,e,rfl,hl,rfl]
def Inv.big {σ:St}(I:Inv X ah σ H s):sysModules<s.heap.objs.size:=by have h:mainGlobals<s.heap.objs.size:=(I.mod.glob.keeps I.bk).lt;show Nat.lt_trans ⋯ h
def G1 {σ:St}(hu:A.units+1<cLine)(I:Inv X ah σ H s)(g:nu H a y (some v))(ry:RelV y u)(h: ∀w' s',Inv X ah σ H s' ->RelV v w' ->Q w' s'): wpAny (model X.prog X.w) A (getItem (.ref a) u) Q E s:=by
 rcases g with⟨kvs,k,e,ey,l⟩ | ⟨kvs,k,b,e,ey,eb,l⟩
 subst ey;let⟨z,hd,vs,gq,dd⟩:=pZ I.cU e;let⟨w',hw,yN⟩:=kz.some_of (v:=v) (o:=valueAt vs k) (by rw[l];show gq.val k);show wpAny_getItem_of (si ry) dd.mapOf hw (h w' _ (I.tok _) yN);subst ey;cases (show u=Value.ref b from ry);let⟨z,hd,xs,gq,dd⟩:=vP I.cU e;let⟨w',hw,yN⟩:=kz.some_of (v:=v) (o:=(atKey xs k).map (·.2)) (by rw[l];show gq.val k);let⟨p,hp,hp2⟩:=Option.map_eq_some_iff.mp hw;exact wpAny_getItem_heap (tupleKind_room_in1 hu) (qW I.cU eb) dd hp ?_;rw[hp2];show h w' _ (I.tok _) yN
def ahC {σ:St}(hu:A.units+1<cLine)(I:Inv X ah σ H s)(g:nu H a y o)(ry:RelV y u)(h: ∀s',Inv X ah σ H s' ->Q (.bool o.isSome) s'): wpAny (model X.prog X.w) A (compareOp .In u (.ref a)) Q E s:=by
 rcases g with⟨kvs,k,e,ey,l⟩ | ⟨kvs,k,b,e,ey,eb,l⟩
 subst ey;let⟨z,hd,vs,gq,dd⟩:=pZ I.cU e;exact wpAny_in_of (si ry) hd dd.mapOf ?_;rw[<- (gq.val k).iG, <- l];show h _ (I.tok _);subst ey;cases (show u=Value.ref b from ry);let⟨z,hd,xs,gq,dd⟩:=vP I.cU e;exact wpAny_in_heap (tupleKind_room_in1 hu) (qW I.cU eb) hd dd ?_;have q:=(gq.val k).iG;rw[b8] at q;rw[<- q, <- l];show h _ (I.tok _)
def Oi {σ:St}(hu:A.units+1<cLine)(I:Inv X ah σ H s)(g:nu H a y o)(ry:RelV y u)(h: ∀s',Inv X ah σ H s' ->Q (.bool (!o.isSome)) s'): wpAny (model X.prog X.w) A (compareOp .NotIn u (.ref a)) Q E s:=by
 rcases g with⟨kvs,k,e,ey,l⟩ | ⟨kvs,k,b,e,ey,eb,l⟩
 subst ey;let⟨z,hd,vs,gq,dd⟩:=pZ I.cU e;exact wpAny_notIn_of (si ry) hd dd.mapOf ?_;rw[<- (gq.val k).iG, <- l];show h _ (I.tok _);subst ey;cases (show u=Value.ref b from ry);let⟨z,hd,xs,gq,dd⟩:=vP I.cU e;exact wpAny_notIn_heap (tupleKind_room_in1 hu) (qW I.cU eb) hd dd ?_;have q:=(gq.val k).iG;rw[b8] at q;rw[<- q, <- l];show h _ (I.tok _)
theorem uA {σ:St}(I:Inv X ah σ H s)(mu:X9 (H a))(hs:Heap.SameBut a s.heap h')(he: ∃q,h'.get? a=some q)(new:eC X.prog X.w (cR H a ob) h' a ob): Inv X ah σ (cR H a ob) {s with heap:=h',toks:=t'}:=I.write (x:=a) (e:=a) mu (.inl rfl) (λb q hb z=>(hs.2 b hb).trans z) he new
theorem Di (z:kvs.length<=sizeLine)(hd:(a==sysModules)=false)(gq:KV kvs vs)(dd:h'.DictOf (cO P w) a vs): eC P w H' h' a (.dK kvs):=#[z,hd,vs,gq,dd]
def G0 {σ:St}(hu:A.units+1<cLine)(I:Inv X ah σ H s)(g:LK H a y v H')(ry:RelV y u)(rv:RelV v r)(h: ∀s',Inv X ah σ H' s' ->Q () s'): wpAny (model X.prog X.w) A (setItem (.ref a) u r) Q E s:=by
 rcases g with⟨kvs,k,e,ey,l,eH⟩ | ⟨kvs,k,b,e,ey,eb,l,eH⟩
 subst ey eH;let⟨z,hd,vs,gq,dd⟩:=xY I.cU e;have hz:vs.length<=sizeLine:=by rw[<- gq.length];show z
 have hl:(nk kvs k v).length<=sizeLine:=by have:=rY kvs k v;lia
 exact wpAny_setItem_pairs (hsz:=hz) (si ry) dd λh' Me hs=>h _ ?_;have he: ∃q,h'.get? a=some q:=let ⟨q,_,_,hq,_⟩:=Me;#[q,hq]
 show uA I (by rw[e];show True.intro) hs he (Di hl hd (gq.put k rv) Me);subst ey eH;cases (show u=Value.ref b from ry);let⟨z,hd,xs,gq,dd⟩:=XM I.cU e;have hz:xs.length<=sizeLine:=by rw[<- Paired.length gq];show z
 have hl:(nk kvs k v).length<=sizeLine:=by have:=rY kvs k v;lia
 exact wpAny_setItem_heap (hsz:=hz) (tupleKind_room_in1 hu) (qW I.cU eb) dd λh' Me hs=>h _ ?_;let⟨q,es,ep,hq,h2,h3,h4,_,h5⟩:=Me;exact uA I (by rw[e];show True.intro) hs #[q,hq] #[hl,hd,_,(gq.put k eb rv).keeps λc ys ec=> ?_,q,es,ep,hq,h2,h3,h4,h5];rw[bR (Wq ec e (λz=>nomatch z))];show ec
def G2 {σ:St}(I:Inv X ah σ H s)(e:H a=some (.dK kvs))(ry:RelV (kV k) u)(l:(i8 kvs k).isSome=true)(h: ∀s',Inv X ah σ (cR H a (.dK (mD kvs k))) s' ->Q () s'): wpAny (model X.prog X.w) A (delItem (.ref a) u) Q E s:=by
 let⟨z,hd,vs,gq,dd⟩:=xY I.cU e;exact wpAny_delItem_slot dd.typeIs ⋯ PySem.F.slot_dict_delitem (call_meetsIn PySem.F.slot_dict_delitem dd.typeIs PySem.F.entry_dict_delitem (PySem.F.args_dict_delitem_2 _ _) (meets_dict_delitem_pairs (cO X.prog X.w) a (si ry)) #[vs,dd,by rw[<- gq.length];show z,by rw[<- (gq.val k).iG];show l,λh' Me hs=>h _ ?_]);have he: ∃q,h'.get? a=some q:=let ⟨q,_,_,hq,_⟩:=Me;#[q,hq]
 show uA I (by rw[e];show True.intro) hs he (Di (ar (Bo kvs k) z) hd (gq.drop k) Me)
def XO {σ:St}(I:Inv X ah σ H s)(e:H a=some (.dK kvs))(ry:RelV (kV k) u)(l:i8 kvs k=some v)(hm:more= [] \/ ∃x,more= [x])(h: ∀w' s',Inv X ah σ (cR H a (.dK (mD kvs k))) s' ->RelV v w' ->Q w' s'):wpAny (model X.prog X.w) A (call (.builtin "dict.pop") (.ref a::u::more)) Q E s:=by
 let⟨z,hd,vs,gq,dd⟩:=xY I.cU e;let⟨w',hw,yN⟩:=kz.some_of (v:=v) (o:=valueAt vs k) (by rw[<- l];show gq.val k);have hp:(keyPart u).isSome=true:=by
  cases k with
  | inl i=>let⟨t,q⟩:=(show ∃t,u=Value.int i t from ry);subst q;rfl
  | inr x=>let⟨t,q⟩:=(show ∃t,u=Value.str x t from ry);subst q;rfl
 have ha:argsOk "dict.pop" #[.ref a::u::more,[]]:=by obtain q | ⟨x,q⟩:=hm;subst q;show PySem.F.args_dict_pop_2 _ _;subst q;show PySem.F.args_dict_pop_3 _ _ _
 exact call_meetsIn PySem.F.slot_dict_pop dd.typeIs PySem.F.entry_dict_pop ha (meets_dict_pop_there (cO X.prog X.w) a (si ry) more hm hp) #[vs,w',dd,by rw[<- gq.length];show z,hw,λh' Me hs=>h w' _ ?_ yN];have he: ∃q,h'.get? a=some q:=let ⟨q,_,_,hq,_⟩:=Me;#[q,hq]
 show uA I (by rw[e];show True.intro) hs he (Di (ar (Bo kvs k) z) hd (gq.drop k) Me)
def TK (i:Expr):Prop:= ∀ov iv,subscripted i false ov iv=operate [ov,iv] (getItem ov iv)
def MB {T id:String}(hl:typeLookup (.type T) "__getitem__" =pure (some (.builtin id)))(hs:TK slice)(h:wpAny (model prog w) A (eval value env) (λo s₁=>wpAny (model prog w) A (eval slice env) (λi s₂=>s₂.TypeIs o T /\ wpAny (model prog w) A (getItem o i) Q E s₂) E s₁) E s): wpAny (model prog w) A (eval (.Subscript value slice pos) env) Q E s:=by
 exact Subscript_ (bJ h (λo s₁ h₁=>bJ h₁ (λi s₂ h₂=> ?_) λ_ _ x=>x) λ_ _ x=>x);let⟨hT,h₂⟩:=h₂;unfold subscriptTail;exact aA ?_;rw[getitemInPython_of_ne hT.not_modules];exact aA (wpAny_specialOf hT hl ?_);have fin:wpAny (model prog w) A (subscripted slice false o i) (λr s₃=>wpAny (model prog w) A (letTemporaryGo value o r >>=λ_=>pure r) Q E s₃) E s₂:=by rw[hs o i];show wpAny_operating (bJ h₂ (λr s₃ h₃=>aA (wpAny_letTemporaryGo (bf h₃))) λ_ _ x=>x)
 first
 | show bf (aA fin)
 | show aA (bf (aA fin))
 | show aA fin
def Bq {σ:St}(I:Inv X ah σ H s)(g:nu H a y o):s.TypeIs (.ref a) "dict" :=by
 rcases g with⟨kvs,k,e,_,_⟩ | ⟨kvs,k,b,e,_,_,_⟩
 let⟨_,_,vs,_,dd⟩:=pZ I.cU e;show dd.typeIs;let⟨_,_,xs,_,dd⟩:=vP I.cU e;show dd.typeIs
def Ir (td ty:TE):TE:=λσ H Q=>td σ H λx H1=>ty σ H1 λy H2=>cx λa v=>c8 (x= .ref a) (nu H2 a y (some v)) (Q v H2)
def VA (ty td:TE):TE:=λσ H Q=>ty σ H λy H1=>td σ H1 λx H2=>cx λa o=>c8 (x= .ref a) (nu H2 a y o) (Q (.bl o.isSome) H2)
def DY (ty td:TE):TE:=λσ H Q=>ty σ H λy H1=>td σ H1 λx H2=>cx λa o=>c8 (x= .ref a) (nu H2 a y o) (Q (.bl (!o.isSome)) H2)
def Pl (td ty tv:TE):TS:=λD σ H=>tv σ H λv H1=>td σ H1 λx H2=>ty σ H2 λy H3=>cx λa H4=>c8 (x= .ref a) (LK H3 a y v H4) (D.nx σ H4)
def Pm (td ty:TE):TS:=λD σ H=>td σ H λx H1=>ty σ H1 λy H2=>eZ λa kvs k=>gy (x= .ref a) (H2 a=some (.dK kvs)) (y=kV k) ((i8 kvs k).isSome=true) (D.nx σ (cR H2 a (.dK (mD kvs k))))
def eT (hu:X.A.units+1<cLine)(ho:PE X o td)(hi:PE X i ty)(hs:TK i):PE X (.Subscript o i pos) (Ir td ty):=by intro ah s σ H Q I h;exact MB PySem.F.slot_dict_getitem.lookup hs (c7 (ho ah s σ H _ I h) λu s1 ⟨x,H1,I1,rx,q1⟩=>c7 (hi ah s1 σ H1 _ I1 q1) λiv s2 ⟨y,H2,I2,ry,a,v,ex,g,q2⟩=> ?_);subst ex;obtain rfl:u=Value.ref a:=rx;show#[Bq I2 g,G1 hu I2 g ry λw' s3 I3 yN=>#[v,H2,I3,yN,q2]]
def CF (hu:X.A.units+1<cLine)(hi:PE X i ty)(ho:PE X o td):PC X .In i o (VA ty td):=by intro ah s σ H Q I h;exact c7 (hi ah s σ H _ I h) λiv s1 ⟨y,H1,I1,ry,q1⟩=>c7 (ho ah s1 σ H1 _ I1 q1) λu s2 ⟨x,H2,I2,rx,a,ov,ex,g,q2⟩=> ?_;subst ex;obtain rfl:u=Value.ref a:=rx;show ahC hu I2 g ry λs3 I3=>#[.bl ov.isSome,H2,I3,rfl,q2]
def jQ (hu:X.A.units+1<cLine)(hi:PE X i ty)(ho:PE X o td):PC X .NotIn i o (DY ty td):=by intro ah s σ H Q I h;exact c7 (hi ah s σ H _ I h) λiv s1 ⟨y,H1,I1,ry,q1⟩=>c7 (ho ah s1 σ H1 _ I1 q1) λu s2 ⟨x,H2,I2,rx,a,ov,ex,g,q2⟩=> ?_;subst ex;obtain rfl:u=Value.ref a:=rx;show Oi hu I2 g ry λs3 I3=>#[.bl (!ov.isSome),H2,I3,rfl,q2]
def mY (hu:X.A.units+1<cLine)(ho:PE X o td)(hi:PE X i ty)(hv:PE X value tv)(hs:swapsWith value (some (.Subscript o i lR)) pos.line X.env=pure false): PS X (.Assign [.Subscript o i lR] value pos) (Pl td ty tv):=by intro ah s σ H D I h;exact wpAny_Assign_Subscript (c7 (hv ah s σ H _ I h) λr s1 ⟨v,H1,I1,rv,q1⟩=>c7 (ho ah s1 σ H1 _ I1 q1) λu s2 ⟨x,H2,I2,rx,q2⟩=>c7 (hi ah s2 σ H2 _ I2 q2) λiv s3 ⟨y,H3,I3,ry,a,H4,ex,g,q3⟩=> ?_) hs;subst ex;obtain rfl:u=Value.ref a:=rx;show G0 hu I3 g ry rv λs4 I4=>#[σ,H4,I4,q3]
def MQ (ho:PE X o td)(hi:PE X i ty):PS X (.Delete [.Subscript o i Vk] pos) (Pm td ty):=by intro ah s σ H D I h;exact wpAny_Delete (wpAny_deleteEach_cons (wpAny_delete_Subscript (c7 (ho ah s σ H _ I h) λu s1 ⟨x,H1,I1,rx,q1⟩=>c7 (hi ah s1 σ H1 _ I1 q1) λiv s2 ⟨y,H2,I2,ry,a,kvs,k,ex,e,ey,l,q2⟩=> ?_)));subst ex ey;obtain rfl:u=Value.ref a:=rx;show G2 I2 e ry l λs3 I3=>wpAny_deleteEach_nil #[σ,_,I3,q2]
theorem KP (h:Heap)(hb:sysModules<h.objs.size):eC P w H (h.push {cls:= .type "dict",data:= .dict #[]}) h.objs.size (.dK []):=#[dm _,beq_eq_false_iff_ne.mpr (dD (bF hb)),[], .nil,Heap.DictOf.new h]
def Io:TE:=λ_ H Q=> ∀p,H p=none ->Q (.ref p) (cR H p (.dK []))
theorem jP:PE X (.Dict [] [] pos) Io:=λah s σ H Q I h=>wpAny_Dict_empty #[.ref s.heap.objs.size,_,I.laid (a:=s.heap.objs.size) (o:= .dK []) (t':=s.toks) (λ_ _ q=>av _ q) (aq _) (KP s.heap I.big),rfl,h _ (I.cU.fresh (aq _))]
structure M1 (X:Cx)(o:Expr)(m:Str)(dP:Pos)(e:Expr)(dy:Pos):Prop where
 base:attributeBase o m X.env (eval o X.env)=eval o X.env
 Dd:((backTo dy (starEach [e] X.env)).all (λx=> !x.1) && (backToKw dy (keywordEach [] X.env)).all (λx=>x.1.isSome) && decide (([e]:List Expr).length+([]:List Keyword).length+(if([]:List Keyword).isEmpty then 0 else 1) <30))=true
 line:(dP.endLine==dy.line)=true
 trees:backTo dy (starEach [e] X.env)= [(false,eval e X.env)]
structure M2 (X:Cx)(o:Expr)(m:Str)(dP:Pos)(e f:Expr)(dy:Pos):Prop where
 base:attributeBase o m X.env (eval o X.env)=eval o X.env
 Dd:((backTo dy (starEach [e,f] X.env)).all (λx=> !x.1) && (backToKw dy (keywordEach [] X.env)).all (λx=>x.1.isSome) && decide (([e,f]:List Expr).length+([]:List Keyword).length+(if([]:List Keyword).isEmpty then 0 else 1) <30))=true
 line:(dP.endLine==dy.line)=true
 trees:backTo dy (starEach [e,f] X.env)= [(false,eval e X.env),(false,eval f X.env)]
def IsD (H:Hp)(a:fY):Prop:=(∃kvs,Rd H a (.dK kvs)) \/ ∃kvs,Rd H a (.dT kvs)
def C2 {σ:St}(I:Inv X ah σ H s)(d:IsD H a): s.TypeIs (.ref a) "dict" /\ (∀b,Value.ref a= .ref b -> ∃ob,s.heap.get? b=some ob /\ ob.dict=none) /\ (a==sysModules)=false:=by
 rcases d with⟨kvs,e⟩ | ⟨kvs,e⟩
 let⟨_,hd,vs,_,dd⟩:=pZ I.cU e;exact#[dd.typeIs,λb q=> ?_,hd];cases q;let⟨ob,_,_,h1,h2,_⟩:=dd;show#[ob,h1,h2.2.1];let⟨_,hd,xs,_,dd⟩:=vP I.cU e;exact#[dd.typeIs,λb q=> ?_,hd];cases q;let⟨ob,_,_,h1,h2,_⟩:=dd;show#[ob,h1,h2.2.1]
def Tu {σ:St}(hu:A.units+1<cLine)(I:Inv X ah σ H s)(g:nu H a y o)(ry:RelV y u)(rd:RelV d r)(h: ∀w' s',Inv X ah σ H s' ->RelV (o.getD d) w' ->Q w' s'): wpAny (model X.prog X.w) A (call (.builtin "dict.get") [.ref a,u,r]) Q E s:=by
 rcases g with⟨kvs,k,e,ey,l⟩ | ⟨kvs,k,b,e,ey,eb,l⟩
 subst ey;let⟨z,hd,vs,gq,dd⟩:=pZ I.cU e;exact call_meetsIn PySem.F.slot_dict_get dd.typeIs PySem.F.entry_dict_get (PySem.F.args_dict_get_3 _ _ _) (meets_dict_get_default (cO X.prog X.w) a (si ry) hd r) #[_,dd.mapOf,h _ _ (I.tok _) ?_];rw[l];show(gq.val k).getD rd;subst ey;cases (show u=Value.ref b from ry);let⟨z,hd,xs,gq,dd⟩:=vP I.cU e;exact call_meetsIn PySem.F.slot_dict_get dd.typeIs PySem.F.entry_dict_get (PySem.F.args_dict_get_3 _ _ _) (meetsH_dict_get_default (tupleKind (cO X.prog X.w)) a b hd r) #[tupleKind_room_in1 hu,k,xs,qW I.cU eb,dd,h _ _ (I.tok _) ?_];rw[l];show(gq.val k).getD rd
def Iq (td ty tx:TE):TE:=λσ H Q=>td σ H λx H1=> ∃a,c8 (x= .ref a) (IsD H1 a) (ty σ H1 λy H2=>tx σ H2 λz H3=> ∃o,nu H3 a y o /\ Q (o.getD z) H3)
def Im (td ty:TE):TE:=λσ H Q=>td σ H λx H1=> ∃a,c8 (x= .ref a) (IsD H1 a) (ty σ H1 λy H2=>eZ λkvs k v=>fA (H2 a=some (.dK kvs)) (y=kV k) (i8 kvs k=some v) (Q v (cR H2 a (.dK (mD kvs k)))))
def AF (hu:X.A.units+1<cLine)(ho:PE X o td)(he:PE X e ty)(hf:PE X f tx)(m:M2 X o "get" dP e f dy):PE X (.Call (.Attribute o "get" dP) [e,f] [] dy) (Iq td ty tx):=by intro ah s σ H Q I h;exact wpAny_Call_method m.base m.Dd m.line PySem.F.plainAttrs_dict PySem.F.slot_dict_get PySem.F.type_dict_get (c7 (ho ah s σ H _ I h) λu s1 ⟨x,H1,I1,rx,a,ex,d,q1⟩=> ?_);subst ex;obtain rfl:u=Value.ref a:=rx;let⟨t1,t2,_⟩:=C2 I1 d;exact#[t1,t2,?_];rw[m.trees];exact Calls.callWith_builtin rfl (Calls.evalArgs_plain (Calls.spliced_cons (c7 (he ah s1 σ H1 _ I1 q1) λiv s2 ⟨y,H2,I2,ry,q2⟩=>Calls.spliced_cons (c7 (hf ah s2 σ H2 _ I2 q2) λfv s3 ⟨z,H3,I3,rz,ov,g,q3⟩=>Calls.spliced_nil ?_))));show Tu hu I3 g ry rz λw' s4 I4 yN=>#[_,H3,I4,yN,q3]
def AE (ho:PE X o td)(he:PE X e ty)(m:M1 X o "pop" dP e dy):PE X (.Call (.Attribute o "pop" dP) [e] [] dy) (Im td ty):=by intro ah s σ H Q I h;exact wpAny_Call_method m.base m.Dd m.line PySem.F.plainAttrs_dict PySem.F.slot_dict_pop PySem.F.type_dict_pop (c7 (ho ah s σ H _ I h) λu s1 ⟨x,H1,I1,rx,a,ex,d,q1⟩=> ?_);subst ex;obtain rfl:u=Value.ref a:=rx;let⟨t1,t2,_⟩:=C2 I1 d;exact#[t1,t2,?_];rw[m.trees];exact Calls.callWith_builtin rfl (Calls.evalArgs_plain (Calls.spliced_cons (c7 (he ah s1 σ H1 _ I1 q1) λiv s2 ⟨y,H2,I2,ry,kvs,k,v,ea,ey,l,q2⟩=>Calls.spliced_nil ?_)));subst ey;show XO I2 ea ry l (.inl rfl) λw' s3 I3 yN=>#[v,_,I3,yN,q2]
end L2
namespace Att
open PySem PySem.W PySem.Calls PyProof.Rows
def tH: ∀ (ns:cH Int) (vs:cH df),WellAll P h vs (ns.map WData.int) ->IntsAre vs ns:=by
 intro ns;induction ns with
 | nil=>intro vs w;rw[List.map_nil] at w;cases w;show .nil
 | cons n ns ih=>
  intro vs w;rw[aP] at w;cases w with
  | cons a b=>cases a;show .cons _ _ (ih _ b)
def Gb {l:OpenLaw}(hn:l.most=some n)(NS:l.row.toRowW.claim.pre args=true)(hwl:WellAll P h vals args): eZ λa vs ns=>gy (vals= [Value.ref a]) (args= [WData.list (ns.map WData.int)]) (h.get? a=some {cls:= .type "list",data:= .seq vs.toArray}) (IntsAre vs ns) (ns.length<=n):=by
 have SV:WShape.hasAll [] args [.list .int]=true:=(pre_splitW NS).1;have hc:l.pre.holds [] {args:=args}=true:=(pre_splitW NS).2;let⟨d,r,rfl,h1,h2⟩:=hasAllW_cons SV;obtain rfl:=hasAllW_nil h2;let⟨xs,rfl,h3⟩:=hasW_list h1;let⟨ns,rfl⟩:=items_int h3;have dR:ns.length<=n:=by
  unfold OpenLaw.pre at hc;have h4:(WTm.not (.lt (.lit (.int (n:Int))) (.len (.arg 0)))).holds [] {args:= [.list (ns.map .int)]}=true:=by have h4:=(holds_andW hc).1;rw[hn] at h4;show h4
  have h5:=condW_of h4 (w_not (w_lt w_lit (w_len_list (w_arg rfl))));rw[af] at h5;exact Nat.le_of_not_lt λq=> ?_;have q':(n:Int) < ((ns.length:Nat):Int):= ∅;first
  | (rw[a8 q'] at h5;show absurd h5 ⋯)
  | (simp at h5;lia)
 cases hwl with
 | cons w1 w2=>
  cases w2;cases w1 with
  | list ho wR=>show#[_,_,ns,rfl,rfl,ho,tH ns _ wR,dR]
theorem Gh (l:OpenLaw)(args:cH WData):l.row.toRowW.claim.post args (.bool true) args=true:=postW_of (r:=l.row.toRowW) (X:=(true==true)) (show WShape.has [] (.bool true) .bool=true by first | rfl | decide | simp[WShape.has,WShape.arms,WShape.armsAll]) (show(WTm.eq .res (.lit (.bool true))).value [] {args:=args,res:=some (.bool true),after:=args}=some (.bool (true==true)) from w_eq_bool (w_res rfl) w_lit) rfl
def BK {l:OpenLaw}(hn:l.most=some n)(Tf:d.params.defaults= [])(call: ∀ (w:World) (s₀ s₁:dG) (mg mb:Str ->fj df) (fa:fY) (o:Obj) (pm cd jz:df) (a:fY) (vs:cH df) (ns:cH Int),Ground q xD [] XP w s₀ mg mb s₁.heap ->YP w s₁.heap ->s₁.heap.get? fa=some o ->o.data= .func (docDef d.name d.params d.body d.scope pm cd jz) ->s₁.heap.CodeRec cd d.name ->mg d.name=some (.ref fa) ->s₁.heap.get? a=some {cls:= .type "list",data:= .seq vs.toArray} ->IntsAre vs ns ->ns.length<=n ->s₁.gens= #[] ->codeAny (model l.prog w) callerA (.call (.ref fa) #[[.ref a],[]]) (λr s'=>r= .ok (.ret (.bool true)) /\ OldK s₁.heap s'.heap /\ s'.os=s₁.os /\ AllBare s'.gens) s₁): WalkO q xD XP YP l.row.toRowW d [] (λf vs=>PySem.call f vs):=by intro w s₀ s₁ mg mb G Y fa o pm cd jz dV kV ho hd Fa hD hmg hg args vals as NS ai5 hrd hwl S9;obtain rfl:dV= .none:=Dflts.none hD Tf;obtain rfl:kV= .none:=Dflts.noKw hD;let⟨a,vs,ns,rfl,rfl,SY,Kp,dR⟩:=Gb hn NS hwl;exact enter_call (codeAny_mono (call w s₀ s₁ mg mb fa o pm cd jz a vs ns G Y ho (fd_plain hd) Fa hmg SY Kp dR hg) λr s' hq=> ?_);let⟨rfl,h2,h3,h4⟩:=hq;show#[.inl #[.bool true, .bool true,[],rfl,λ_=>rfl, .bool true,Gh l _,λ_=>#[List.Pairwise.nil,λ_ hm=>(nomatch hm)]],h2,h3,h4]
end Att
namespace L2
open PySem PySem.Spec PyProof.Rows
theorem qy: ∀ {vs:cH df} {ns:cH Int},IntsAre vs ns ->cj (ns.map V.int) vs
 | _,_, .nil=> .nil
 | _,_, .cons n t h=> .cons #[t,rfl] (qy h)
def TH (H:Hp):Prop:= ∀b,H b=none \/ ∃o xs,H b=some (.lw o (.lst xs))
def JR {K:WW}(KX:K.In s₁.heap)(tX:s₁.heap.Ns mainGlobals mg)(hb:s₁.heap.Ns builtinsNs mb)(hbb: ∀x:Str,x≠ "__name__" ->mb x=bootBuiltins x)(abe:s₁.heap.NoLimit)(hg:s₁.gens= #[])(ha:s₁.heap.get? a=some {cls:= .type "list",data:= .seq vs.toArray})(hi:IntsAre vs ns)(hl:ns.length<=sizeLine)(hr:e7 k callerA)(F: ∀base:Heap,K.In base ->base.Ns mainGlobals mg ->bI P w K mg base CX k fa fd [x] sp)(Xs: ∀ (s:dG) (u:df),BindsTo s fd #[[u],[]] [(x,u)])(wA: ∀H:Hp,TH H ->ij K H a (ns.map V.int) ->sp [.ref a] H (λv _=>v= .bl true) λ_ _ _=>False)(hCX: ∀H e s',CX [] H s₁ (λ_ _ _=>False) e s' ->False): codeAny (model P w) callerA (.call (.ref fa) #[[.ref a],[]]) (λr s'=>r= .ok (.ret (.bool true)) /\ OldK s₁.heap s'.heap /\ s'.os=s₁.os /\ AllBare s'.gens) s₁:=by
 have rv:=qy hi;have aaA:=hi.length;have core : ∀H:Hp,TH H ->ij K H a (ns.map V.int) ->nj P w H s₁.heap ->(∀b,H b≠none ->b=a) ->(H a≠none ->K.lookup a=none) ->codeAny (model P w) callerA (.call (.ref fa) #[[.ref a],[]]) (λr s'=>r= .ok (.ret (.bool true)) /\ OldK s₁.heap s'.heap /\ s'.os=s₁.os /\ AllBare s'.gens) s₁:=by
  intro H hO hS cU hA hK;have FH: ∀ {b:fY} {o:Obj},s₁.heap.get? b=some o ->H b=none ->(zr s₁.heap H).get? b=some o:=λe n=>Kq e n;have PM: ∀ {b:fY} {o:Obj} {es:gP DictEntry} {ep:Nat},s₁.heap.get? b=some o ->o.data= .dict es ep ->H b=none:=λ{b o es ep} e d=>by
   cases q:H b with
   | none=>rfl
   | some u=>have e':b=a:=hA b (by rw[q];simp);subst e';rw[ha] at e;cases e;have d':Data.seq vs.toArray _=Data.dict es ep:=d;cases d'
  have Ze: ∀ {b:fY} {m:Str ->fj df},s₁.heap.Ns b m ->(zr s₁.heap H).Ns b m:=λ{b m} ⟨o,es,ep,e,d,r⟩=>#[o,es,ep,FH e (PM e d),d,r]
  have hKb:K.In (zr s₁.heap H):=λb o e=>FH (KX b o e) (by
   cases q:H b with
   | none=>rfl
   | some u=>have e':b=a:=hA b (by rw[q];simp);subst e';rw[hK (by rw[q];simp)] at e;cases e)
  have hM:Mod K mg (zr s₁.heap H):=#[hKb,Ze tX,#[mb,Ze hb,hbb],let ⟨mc,h1,h2⟩:=abe;#[mc,Ze h1,h2]]
  have e0:DG P w K mg (zr s₁.heap H) callerA [] s₁ H:=#[rfl,hM,λb o e=>No e,Nat.le_of_eq (GS _ _),trivial,λb hb=>absurd (show b∈([]:cH fY) from hb) (by simp),cU, .of_eq hg]
  exact codeAny_mono ((F _ hKb (Ze tX)).run callerA [] s₁ H #[[.ref a],[]] [.ref a] [.ref a] _ _ hr e0 (Xs s₁ (.ref a)) (.cons rfl .nil) (wA H hO hS)) λr s' h=> ?_;cases r with
  | error e=>show(hCX H e s' h).elim
  | ok fl =>
   cases fl with
   | next=>show False.elim h
   | brk=>show False.elim h
   | cont=>show False.elim h
   | ret u=>
    let⟨v,H',os,bare,un,aa',r',q⟩:=h;have q':v= .bl true:=q;subst q';obtain rfl:u=Value.bool true:=r';exact#[rfl,OldK.of_keep λb o e=> ?_,os,bare];cases q:H b with
    | none=>show un.keep b o e q (by intro z;show absurd (show b∈([]:cH fY) from z) (by simp)) (by simp)
    | some u=>obtain z | ⟨ob,xs,z⟩:=hO b;rw[q] at z;cases z;have z2:=un.nq b ob _ z;let⟨e1,_⟩:=cU b _ z;let⟨e2,_⟩:=aa' b _ z2;rw[e] at e1;cases e1;show e2
 cases hk:K.lookup a with
 | some o=>have e:=KX a o hk;rw[ha] at e;cases e;exact core (λ_=>none) (λ_=> .inl rfl) (.inr #[_,vs.toArray,_,hk,rfl,rfl,rfl,by rw[aO,aaA];show hl, ⇑rv]) (λb u z=>by have z':(none:fj HO)=some u:=z;cases z') (λb z=>absurd rfl z) λz=>absurd rfl z
 | none=>exact core (λb=>if b=a then some (.lw {cls:= .type "list",data:= .seq vs.toArray} (.lst (ns.map V.int))) else none) (λb=> ?_) (.inl (.inr #[{cls:= .type "list",data:= .seq vs.toArray},ao rfl])) (λb u z=> ?_) (λb z=> ?_) λ_=>hk;by_cases hb:b=a;show .inr #[_,_,ao hb];show .inl (ak hb);by_cases hb:b=a;have z':=(ao hb).symm.trans z;cases z';subst hb;show#[ha,by rw[af];show hl,vs,_,rv,ha];have z':=(ak hb).symm.trans z;cases z';by_cases hb:b=a;show hb;show absurd (ak hb) z
def Mj {l:W.OpenLaw}{K:Params ->WW}{CX:World ->Ce}{sp:World ->Sp}(hn:l.most=some n)(wB:n<=sizeLine)(Tf:d.params.defaults= [])(hr:e7 k callerA)(hY: ∀ (w:World) (h:Heap),YP w h ->(K w.params).In h)(F : ∀ (w:World) (mg:Str ->fj df) (fa:fY) (h:Heap),(K w.params).In h ->h.Ns mainGlobals mg ->mg d.name=some (.ref fa) ->∃ fd:FuncData,(∀ (s:dG) (u:df),BindsTo s fd #[[u],[]] [(x,u)]) /\∀base:Heap,(K w.params).In base ->base.Ns mainGlobals mg ->bI l.prog w (K w.params) mg base (CX w) k fa fd [x] (sp w))(wA: ∀ (w:World) (H:Hp) (a:fY) (ns:cH Int),ns.length<=n ->TH H ->ij (K w.params) H a (ns.map V.int) ->sp w [.ref a] H (λv _=>v= .bl true) λ_ _ _=>False)(hCX: ∀ (w:World) (H:Hp) (s:dG) (e:df) (s':dG),CX w [] H s (λ_ _ _=>False) e s' ->False): W.WalkO q xD XP YP l.row.toRowW d [] (λf vs=>PySem.call f vs):=by exact Att.BK hn Tf λw s₀ s₁ mg mb fa o pm cd jz a vs ns G Y ho hd Fa hmg SY Kp dR hg=> ?_;have KX:=hY w _ Y;let⟨fd,hb,hF⟩:=F w mg fa _ KX G.T.g hmg;show JR KX G.T.g G.T.b G.T.builtins G.T.nolimit hg SY Kp (ar dR wB) hr hF hb (λH hO hS=>wA w H a ns dR hO hS) λH e s'=>hCX w H s₁ e s'
nonrec def fu (s:Stmt):Arguments:=match s with
 | .FunctionDef _ a _ _ _ _ _ _ _ _=>a
 | _=> {posonlyargs:= [],args:= [],vararg:=none,kwonlyargs:= [],kw_defaults:= [],kwarg:=none,defaults:= []}
nonrec def dS (s:Stmt):cH Stmt:=match s with
 | .FunctionDef _ _ b _ _ _ _ _ _ _=>b
 | _=> []
nonrec def aU (s:Stmt):Scope:=match s with
 | .FunctionDef _ _ _ _ _ _ sc _ _ _=>sc
 | _=> {kind:= .function,names:= [],isGenerator:=false,isCoroutine:=false}
abbrev fw:Ce:=λ_ _ _ _ _ _=>False
abbrev E0:XK:=λ_ _ _=>False
theorem ED:ik fw X E0:=λ_ _ _ _ _ _ _ h=>h.elim
structure BR (K:PySem.W.Frag)(x qual:Str)(st:Stmt)(f:Addr)(fd:FuncData):Prop where
 ex:ZO λ(oc:Value) (od:Option Addr) (kV jz pm:Value) (an:Option Addr) (cdv ct:Value)=> ∃ (CI:Array (Option Value)),c8 (fd=PySem.W.fnOf x qual (fu st) (dS st) (aU st) .none kV jz pm an cdv ct) (K.lookup f=some #[oc,od, .func fd,CI]) (PySem.W.codeIn K cdv qual=true)
 kp:PySem.W.keepIn K (.ref f)=true
def BR.ok {K:WW}{st:Stmt}(F:BR K x qual st f fd)(S:cw N ps (aU st))(len: ∀vs H Q E,sp vs H Q E ->vs.length=ps.length)(jV: ∀ (cdv:df) (A:Around) (outer:cH Env) (s:dG) (H:Hp) (vs:cH V) (Q:VK) (E:XK),e7 k (A.deeper (envOfC qual (aU st) s.heap.objs.size f cdv)) ->sp vs H Q E ->∃t,zY (eQ fw P w K mg base N qual (aU st) f cdv A outer s H E).LR (dS st) t /\ t {nx:=λ_ H'=>Q .ez H',rt:=Q} (start N vs) H):bI P w K mg base fw (k+1) f fd ps sp:=by let⟨oc,od,kV,jz,pm,an,cdv,ct,CI,rfl,lk,Fa⟩:=F.ex;exact Qt lk Fa S len λA outer s H vs Q E hr wA=> ?_;let⟨t,h,q⟩:=jV cdv A outer s H vs Q E hr wA;show#[t,h.LR,q]
def BR.binds {K:WW}{st:Stmt}(F:BR K x qual st f fd)(h: ∀ (kV jz pm:df) (an:fj fY) (cdv ct:df) (us:cH df),us.length=ps.length ->bindArgs (W.fnOf x qual (fu st) (dS st) (aU st) .none kV jz pm an cdv ct) #[us,[]]=pure (ps.zip us)):Binds K fd ps []:=by let⟨oc,od,kV,jz,pm,an,cdv,ct,CI,rfl,lk,Fa⟩:=F.ex;show .all (h kV jz pm an cdv ct)
theorem rE {K:WW}{st:Stmt}{kV jz pm cdv ct:df}(l:K.lookup f=some #[oc,od, .func (W.fnOf x qual (fu st) (dS st) (aU st) .none kV jz pm an cdv ct),CI])(c:W.codeIn K cdv qual=true)(k:W.keepIn K (.ref f)=true):BR K x qual st f (W.fnOf x qual (fu st) (dS st) (aU st) .none kV jz pm an cdv ct):=#[#[oc,od,kV,jz,pm,an,cdv,ct,CI,rfl,l,c],k]
theorem d7 (hr:e7 k A):A.units+1<cLine:=Nat.lt_of_le_of_lt (Nat.add_le_add_left (by decide:1<=64) _) hr.units
theorem pv {X:Cx}(i:Nat){pos:Pos}(hN:X.N[i]? =some x:=by rfl)(hv:X5 X.env.scope x:=by first | show Or.inl rfl | show Or.inr (Or.inl rfl) | show Or.inr (Or.inr rfl))(hd:(x==("__debug__" :Str))=false:=by decide)(Fa:(x==("__classdict__" :Str))=false:=by decide):PE X (.Name x pos) (MA i):=RG hN hv hd Fa
def gm (H H':Hp):Prop:= ∀b o,H b=some o ->H' b=some o
section
variable {κ:Type} [DecidableEq κ]
theorem EJ: ∀ {l:cH κ} {k:κ},l.Nodup ->¬k∈l ->(l++ [k]).Nodup
 | [],k,_,_=>by simp
 | a::r,k,h,hk=>by let⟨h1,h2⟩:=List.nodup_cons.mp h;change(a::(r++ [k])).Nodup;exact List.nodup_cons.mpr #[λm=> ?_,EJ h2 λm=>hk (aV.mpr (Or.inr m))];obtain q | q:=be.mp m;show h1 q;show hk (aV.mpr (Or.inl (bg.mp q).symm))
end
def cS {α:Type}{c:α}{l:cH (Str×α)}:((y,c)::l).lookup x=if x=y then some c else l.lookup x:=by by_cases h:x=y;subst h;simp[List.lookup_cons];rw[ak h,List.lookup_cons];have:(x==y)=false:= ⇑h;rw[this]
theorem ko {env:Env}: ∀ (names:cH (Str×NameKind)) (gb:cH (Str×fY)),(∀y∈names,y.2= .free -> ∃c,env.cells.lookup y.1=some c) ->(∀x c,gb.lookup x=some c ->env.cells.lookup x=some c) ->∃cl,fA ((forIn names gb λx s=>if(x.snd==NameKind.free)=true then(do let c <- cellOf env x.fst;pure (ForInStep.yield ((x.fst,c)::s)):Sem _) else pure (ForInStep.yield s))=(pure cl:Sem (cH (Str×fY)))) (∀x c,cl.lookup x=some c ->env.cells.lookup x=some c) (∀x,(gb.lookup x).isSome=true ->(cl.lookup x).isSome=true) (∀y∈names,y.2= .free ->(cl.lookup y.1).isSome=true)
 | [],gb,_,h2=>#[gb,rfl,h2,λ_ h=>h,λ_ h=>absurd h (by simp)]
 | (n, k)::r,gb,h1,h2=>by
  by_cases hk:k=NameKind.free;subst hk;let⟨c,hc⟩:=h1 (n, .free) List.mem_cons_self rfl;have Qq: ∀x c',((n,c)::gb).lookup x=some c' ->env.cells.lookup x=some c':=λx c' e=>by rw[cS] at e;by_cases hx:x=n;rw[ao hx] at e;cases e;rw[hx];show hc;rw[ak hx] at e;show h2 x c' e
  let⟨cl,e1,e2,e3,e4⟩:=ko r ((n,c)::gb) (λy hy=>h1 y (dq _ hy)) Qq;exact#[cl,?_,e2,λx hx=>e3 x ?_,λy hy hf=> ?_];rw[List.forIn_cons];have:cellOf env n=pure c:=by unfold cellOf;rw[hc]
  simp![beq_self_eq_true,ce,this,pure_bind];show e1;rw[cS];by_cases W5:x=n;rw[ao W5];rfl;rw[ak W5];show hx;obtain rfl | hy:=aV.mp hy;exact e3 n ?_;rw[cS,ao rfl];rfl;show e4 y hy hf;let⟨cl,e1,e2,e3,e4⟩:=ko r gb (λy hy=>h1 y (dq _ hy)) h2;exact#[cl,?_,e2,e3,λy hy hf=> ?_];rw[List.forIn_cons];have:(k==NameKind.free)=false:= ⇑hk;simp![this,aD,bH,pure_bind];show e1;obtain rfl | hy:=aV.mp hy;show absurd hf hk;show e4 y hy hf
def vX (h: ∀y∈scope.names,y.2= .free -> ∃c,env.cells.lookup y.1=some c): ∃cl,c8 (closureFor scope env=pure cl) (∀x c,cl.lookup x=some c ->env.cells.lookup x=some c) (∀y∈scope.names,y.2= .free ->(cl.lookup y.1).isSome=true):=by let⟨cl,e1,e2,_,e4⟩:=ko scope.names [] h (λ_ _ e=>by simp at e);exact#[cl,?_,e2,e4];simp![closureFor];rw[e1,pure_bind]
theorem iR {env:Env}: ∀ {names:cH (Str×NameKind)} {x:Str} {k:NameKind},(names.map λ(n,k)=>if(k==NameKind.free && env.scope.kind== .function && env.kindOf n==some .cell) then(n,NameKind.cell) else(n,k)).lookup x=some k ->names.lookup x=some k \/ (k= .cell /\ names.lookup x=some .free)
 | [],_,_,h=>by simp at h
 | (n, j)::r,x,k,h=>by
  have ih:= @iR env r x k;rw[aP] at h;by_cases hc:(j==NameKind.free && env.scope.kind== .function && env.kindOf n==some .cell)=true;simp![hc,ce] at h;rw[cS] at h;rw[cS];by_cases hx:x=n;rw[ao hx] at h ⊢;cases h;have hj:j=NameKind.free:=by rw[cG,cG] at hc;show eq_of_beq hc.1.1
  show .inr #[rfl,by rw[hj]];rw[ak hx] at h ⊢;show ih h;simp![hc,aD,bH] at h;rw[cS] at h;rw[cS];by_cases hx:x=n;rw[ao hx] at h ⊢;show .inl h;rw[ak hx] at h ⊢;show ih h
theorem iq {env:Env}: ∀ {names:cH (Str×NameKind)} {x:Str},names.lookup x=some .free ->(names.map λ(n,k)=>if(k==NameKind.free && env.scope.kind== .function && env.kindOf n==some .cell) then(n,NameKind.cell) else(n,k)).lookup x=some .cell \/(names.map λ(n,k)=>if(k==NameKind.free && env.scope.kind== .function && env.kindOf n==some .cell) then(n,NameKind.cell) else(n,k)).lookup x=some .free
 | [],_,h=>by simp at h
 | (n,j)::r,x,h=>by have ih:= @iq env r x;rw[aP];rw[cS] at h;by_cases hc:(j==NameKind.free && env.scope.kind== .function && env.kindOf n==some .cell)=true;simp![hc,ce];rw[cS];by_cases hx:x=n;rw[ao hx];show .inl rfl;rw[ak hx] at h ⊢;show ih h;simp![hc,aD,bH];rw[cS];by_cases hx:x=n;rw[ao hx] at h ⊢;cases h;show .inr rfl;rw[ak hx] at h ⊢;show ih h
abbrev bX (X:Cx)(N':cH Str)(scope:Scope)(cl:cH (Str×fY))(fp:cH fY)(s3:dG)(H3:Hp):Cx:={X with N:=N',s₀:=s3,H₀:=H3,env:=compEnvC scope cl s3.heap.objs.size X.env,outer:=X.stack,stack:=X.stack,ex:=fp,fn:=λ_=>false,pn:= [],xe:=λ_ _=>False}
def ls (own:Nat)(fr:cH Nat)(σ:St):St:=List.replicate own none++fr.map λj=>(σ[j]?).join
structure c6 (X:Cx)(own:List Str)(fr:List Nat)(N':List Str)(scope:Scope):Prop where
 kind:scope.kind= .function
 names:N'=own++fr.filterMap (λj=>X.N[j]?)
 len:N'.length=own.length+fr.length
 nd:N'.Nodup
 vf: ∀y∈scope.names,y.2≠ .cell
 loc: ∀y∈scope.names,y.2= .local ->scope.names.lookup y.1=some .local
 UE: ∀x∈fr.filterMap (λj=>X.N[j]?),scope.names.lookup x=some .free
 free: ∀y∈scope.names,y.2= .free ->X.env.kindOf y.1=some .cell \/ X.env.kindOf y.1=some .free
theorem pN {N:cH Str}: ∀ {fr:cH Nat} {k:Nat} {x:Str},(fr.filterMap (λj=>N[j]?)).length=fr.length ->(fr.filterMap (λj=>N[j]?))[k]? =some x -> ∃j,fr[k]? =some j /\ N[j]? =some x
 | [],_,_,_,e=>by simp at e
 | j ::r,k,x,hl,e=>by
  cases hj:N[j]? with
  | none=>rw[List.filterMap_cons,hj] at hl;have:=List.length_filterMap_le (λj=>N[j]?) r;simp![aC] at hl;lia
  | some y=>
   rw[List.filterMap_cons,hj] at hl e;simp![aC,Nat.add_right_cancel_iff] at hl;cases k with
   | zero=>simp at e;show#[j,by simp,by rw[hj,e]]
   | succ k=>show pN (k:=k) hl ⇑e
def A5 {σ:St}{fp:cH fY}(S:c6 X own fr N' scope)(I:Inv X ah σ H s)(lr: ∀x c,cl.lookup x=some c ->X.env.cells.lookup x=some c)(wQ: ∀y∈scope.names,y.2= .free ->(cl.lookup y.1).isSome=true)(Bc: ∀b∈fp,lv X ah H b)(hft: ∀b∈fp,b<s.heap.objs.size)(tX:h'.Ns s.heap.objs.size (λ_=>none))(hk: ∀b o,s.heap.get? b=some o ->h'.get? b=some o): Inv (bX X N' scope cl fp s H) [] (ls own.length fr σ) H {s with heap:=h',toks:=t}:=by
 have look: ∀x,(compEnvC scope cl s.heap.objs.size X.env).kindOf x=(relabel scope X.env).names.lookup x:=λ_=>rfl
 have XA:(fr.filterMap (λj=>X.N[j]?)).length=fr.length:=by have:=S.len;rw[S.names,aE] at this;lia
 exact#[#[I.ok.mod,?_,I.ok.glob,I.ok.blt,aq _,λx y c e1 e2=>I.ok.inj x y c (lr _ _ e1) (lr _ _ e2),λx hx=> ?_,(λx c z _=>nomatch z),I.ok.hd,I.ok.frames, .inl rfl,λb hb=>#[?_,λx c e=>(Bc b hb).2.2.2.2.1 x c (lr x c e)],I.bs,ar I.ok.La I.sz,λb o e hb=> ?_,λb hb hz=> ?_,I.stack,I.ug],
  rfl,I.bare,Un.kept hk,#[_,tX,λi x v e1 e2 e3=> ?_],λx c e=> ?_,I.cU.fresh (aq _),λx c e=>I.gS x c (lr x c e),λp hp=>absurd (show p∈([]:cH (fY×Obj)) from hp) (by simp),I.cU.kept hk,?_]
 change(relabel scope X.env).kind=_
 show S.kind
 have W5:scope.names.lookup x=some .free:=by obtain hx | hx:=hx;obtain q | ⟨_,q⟩:=iR hx;show absurd rfl (S.vf _ (dH q));show q;obtain q | ⟨q,_⟩:=iR hx;show q;cases q
 show Option.isSome_iff_exists.mp (wQ _ (dH W5) rfl)
 show bF (hft b hb)
 obtain z | z:=(Bc b hb).2.2.2.1
 show I.ok.Gz b o e z
 show absurd (bD (aT e) (ar I.ok.La z)) (Nat.lt_irrefl _)
 obtain q | q:=aV.mp (I.yE b hz)
 show(Bc b hb).2.1 q
 show(Bc b hb).2.2.1 q
 -- a aax value
 have e1:(own++fr.filterMap (λj=>X.N[j]?))[i]? =some x:=by rw[<- S.names];show e1
 unfold ls at e2
 by_cases hi:i<own.length
 rw[bu ⇑hi,dt,ao hi] at e2
 cases e2
 rw [bi ⇑hi,List.length_replicate] at e2
 rw[bi ⇑hi] at e1
 let⟨j,ej,ex⟩:=pN XA e1
 rw[aK,ej] at e2
 have e2:(σ[j]?).join=some v:= ⇑e2
 have e2':σ[j]? =some (some v):=by
  cases q:σ[j]? with
  | none=>rw[q] at e2;cases e2
  | some w=>rw[q] at e2;simp at e2;rw[e2]
 have hf:=S.UE x (aX e1)
 have hm:=dH hf
 let⟨m,_,hl⟩:=I.loc
 have _R:X5 X.env.scope x:=by obtain q | q:=S.free _ hm rfl;show .inr (.inl q);show .inr (.inr q)
 let⟨u,r,l⟩:=hl j x v ex e2' _R
 exact#[u,r, .inr #[?_,?_]]
 show iq hf
 rcases l with⟨k,_⟩ | ⟨_,c,ec,z⟩
 obtain q | q:=S.free _ hm rfl
 rw[k] at q;cases q
 rw[k] at q;cases q
 let⟨c',ec'⟩:=Option.isSome_iff_exists.mp (wQ _ hm rfl)
 have:=lr _ _ ec'
 rw[ec] at this
 cases this
 show#[c,ec',z.keeps hk]
 let⟨v,z⟩:=I.cell x c (lr x c e)
 show#[v,z.keeps hk]
 change(ls own.length fr σ).length=N'.length
 unfold ls
 rw[aE,List.length_replicate,af,S.len]
def QC (X:Cx)(cs:cH Expr)(t:TT):Prop:=∀ (ah:cH (fY×Obj)) (s:dG) (σ:St) (H:Hp) (Q:Bool ->Hp ->Prop),Inv X ah σ H s ->t σ H Q ->wpAny (model X.prog X.w) X.A (forIn cs true λc r=>if r=true then do let ok <- isTrue c X.env (eval c X.env);pure (ForInStep.yield ok) else pure (ForInStep.yield r)) (TP X ah σ Q) X.xe s
def Vo:TT:=λ_ H Q=>Q true H
theorem dE:QC X [] Vo:=λah s σ H Q I h=>wpAny_tests_nil #[H,I,h]
theorem ul (h:PT X c t):QC X [c] t:=λah s σ H Q I q=>wpAny_tests_one (h ah s σ H Q I q)
theorem G5 (I:Nat ->dG ->Prop)(turn : ∀n s,I n s ->wpAny (model prog w) A (pyNext it) (λr s₁=>match r with
   | none=>R (.ok .next) s₁
   | some v=>wpAny (model prog w) A (letOwnedTupleGo qC it v) (λ_ s₀=>wpAny (model prog w) A (assign qC env v) (λ_ s₂=>
    wpAny (model prog w) A (forIn ja true λc r=>if r=true then do let ok <- isTrue c env (eval c env);pure (ForInStep.yield ok) else pure (ForInStep.yield r)) (λok s₃=>if ok=true then wpAny (model prog w) A (eval jc env) (λx s₄=>wpAny (model prog w) A (call (.builtin "list.append") [gb,x]) (λ_ s₅=> ∃m,m<n /\ I m s₅) (λ_ _=>False) s₄) (λ_ _=>False) s₃ else ∃m,m<n /\ I m s₃) (λ_ _=>False) s₂)
    (λ_ _=>False) s₀) (λ_ _=>False) s₁) (λ_ _=>False) s)(n:Nat)(h:I n s):codeAny (model prog w) A (.compLoop (.ListComp jc [#[qC,iter,ja,0]] scope pos) 0 it gb env) R s:=by
 exact codeAny_loop rfl I (λn s hI=> ?_) n h
 change wpAny _ A ((compTurn (.ListComp jc [#[qC,iter,ja,0]] scope pos) 0 it gb env).onRaise (λx=>do noteFrame x env;theTreesLotGoes x)) _ _ s
 exact wpAny_noted ?_
 rw[compTurn_list]
 exact aA (wpAny_standAt (aA (bJ (turn n s hI) (λr s₁ h₁=> ?_) λ_ _ h'=>h'.elim)))
 cases r with
 | none=>show bf h₁
 | some v=>
  exact aA (bJ h₁ (λ_ s₀ W3=> ?_) λ_ _ h'=>h'.elim);exact aA (bJ W3 (λ_ s₂ h₂=> ?_) λ_ _ h'=>h'.elim);exact aA (bJ h₂ (λWi s₃ h₃=> ?_) λ_ _ h'=>h'.elim);cases Wi with
  | false=>show bf #[rfl,h₃]
  | true=>show aA (aA (bJ h₃ (λx s₄ h₄=>aA (bJ h₄ (λ_ s₅ h₅=>bf (bf #[rfl,h₅])) λ_ _ h'=>h'.elim)) λ_ _ h'=>h'.elim))
def Wk (σ0 σ2:St):Prop:=σ2.length=σ0.length /\ ∀ (i:Nat) v,σ0[i]? =some (some v) ->σ2[i]? =some (some v)
def OU (own:Nat)(g:TG):Prop:= ∀ (c:St) (v:V) (H:Hp) (Q:St ->Hp ->Prop),g v (List.replicate own none++c) H Q ->g v (List.replicate own none++c) H λσ2 H2=>Wk (List.replicate own none++c) σ2 /\ Q σ2 H2
def eG:OU 1 (md 0):=by
 intro c v H Q h;exact#[#[by simp,λi u e=> ?_],h];cases i with
 | zero=>simp at e
 | succ i=>simpa using e
def gk {K:WW}:OU 2 (N8 K 2 (xO (md 0) (xO (md 1) N9))):=by
 rintro c v H Q ⟨a,xs,e,hs,hl,x,r,rfl,y,r',rfl,rfl,h⟩;exact#[a,_,e,hs,hl,x,_,rfl,y,_,rfl,rfl,#[by simp,λi u e=> ?_],h];match i with
 | 0=>simp at e
 | 1=>simp at e
 | i+2=>simpa using e
def Qz (J:It)(own:Nat)(fr:cH Nat)(g:TG)(tc:TT)(te:TE)(σ:St)(p:fY)(H1:Hp)(Q:VK):Prop:=∃ W :Nat ->Nat ->cH V ->Hp ->Prop,(∃m,W 0 m [] (cR H1 p (.lst []))) /\ ∀i m ys H',W i m ys H' ->H' p=some (.lst ys) /\((J.stop i H' /\ Q (.ref p) H') \/ (J.go i H' /\ ys.length<sizeLine /\ ∀x H2,J.TY i H' x H2 ->g x (ls own fr σ) H2 λσ2 H3=>tc σ2 H3 λb H4=>if b=true then te σ2 H4 λy H5=> ∃zs,H5 p=some (.lst zs) /\ zs.length<sizeLine /\ ∃m',m'<m /\ W (i+1) m' (zs++ [y]) (cR H5 p (.lst (zs++ [y]))) else ∃zs m',m'<m /\ W (i+1) m' zs H4))
def Pe (wi:TI)(own:Nat)(fr:cH Nat)(g:TG)(tc:TT)(te:TE):TE:=λσ H Q=>wi σ H λJ H1=> ∀p,H1 p=none ->Qz J own fr g tc te σ p H1 Q
theorem yf {σ:St}{σ':St}(I3:Inv X ah σ H s3)(Bc: ∀b∈fp,lv X ah H b)(Ic:Inv (bX X N' scope cl fp s3 H) Ey σ' H' s'):Inv X ah σ H' s':=I3.K_ (ch:=fp) Ic.os Ic.base Ic.cU Ic.bare λb hb=>#[(Bc b hb).2.2.2.1,(Bc b hb).2.1,(Bc b hb).2.2.2.2.1,(Bc b hb).2.2.2.2.2]
def ye {σ:St}{C:fY}{σ':St}(I3:Inv X ah σ H s3)(hC:C=s3.heap.objs.size)(J:Inv X ah σ' H' s')(hn:H' C=none)(hs:Heap.SameBut C s'.heap h'):Inv X ah σ' H' {s' with heap:=h'}:=by subst hC;exact J.turned (t':=s'.toks) (it:=s3.heap.objs.size) (λb o hb e=>hs.extBut b o hb e) hn (Nat.ne_of_gt I3.lt) (.inr I3.sz) (λx c e z=> ?_) λp hp z=> ?_;let⟨v,q⟩:=I3.cell x c e;show absurd q.lt (by rw[z];show Nat.lt_irrefl _);show absurd (aT (I3.pin p hp).1) (by rw[z];show Nat.lt_irrefl _)
def Dk {σ:St}{RR:df ->fY ->Result ->dG ->Prop}(l_:X.calm=true)(S:c6 X own fr N' scope)(hg: ∀s3 H3,PG (bX X N' scope cl fp s3 H3) tg g)(hw:OU own.length g)(hc: ∀s3 H3,QC (bX X N' scope cl fp s3 H3) ja tc)(he: ∀s3 H3,PE (bX X N' scope cl fp s3 H3) jc te)(lr: ∀x c,cl.lookup x=some c ->X.env.cells.lookup x=some c)(wQ: ∀y∈scope.names,y.2= .free ->(cl.lookup y.1).isSome=true)(I:Inv X ah σ H s)(T:zL X.prog X.w X.K tg J fp it tn)(st:tn 0 s.heap)(Bc: ∀b∈fp,lv X ah H b)(h: ∀p,H p=none ->Qz J own.length fr g tc te σ p H Q)(fin: ∀ (s3:dG) (H3:Hp),Inv X ah σ H3 s3 ->(∀b∈fp,lv X ah H3 b) -> ∀ (D:fY) (σ':St) (H':Hp) (s':dG) (t:Nat),D<s3.heap.objs.size ->Inv (bX X N' scope cl fp s3 H3) [] σ' H' s' ->Q (.ref D) H' ->RR (.ref D) s3.heap.objs.size (.ok .next) s'): wpAny (model X.prog X.w) X.A (newList []) (λgb s₃=>wpAny (model X.prog X.w) X.A (newFunctionEnv scope X.env.globals cl [] X.env.qual none .none (some X.env)) (λK7 s₄=>codeAny (model X.prog X.w) X.A (.compStart (.ListComp jc [#[tg,iter,ja,0]] scope pos) 0 (.ref it) gb {K7 with scope:=relabel scope X.env}) (RR gb K7.locals) s₄) E s₃) E s:=by
 exact wpAny_newObj_type ?_;have hf:H s.heap.objs.size=none:=I.cU.fresh (aq _);let⟨W,⟨m0,w0⟩,turn⟩:=h _ hf;generalize e3:({s with heap:=s.heap.push {cls:= .type "list",dict:=none,data:= .seq ([]:cH df).toArray}}:dG)=s3;have Rj:s3.heap.objs.size=s.heap.objs.size+1:=by rw[<- e3];show Heap.size_push ..
 have _V: ∀b o,s.heap.get? b=some o ->s3.heap.get? b=some o:=λb o e=>by rw[<- e3];show av _ e
 have I3:Inv X ah σ (cR H s.heap.objs.size (.lst [])) s3:=by rw[<- e3];show I.laid (t':=s.toks) (λb u e=>av _ e) (aq _) #[dm _,[],0, .nil,a6 _ rfl]
 have Tl: ∀b∈fp,b<s.heap.objs.size:=λb hb=>by let⟨o,e,_⟩:=T.obj 0 _ st b hb;show aT e
 have C9: ∀b∈fp,lv X ah (cR H s.heap.objs.size (.lst [])) b:=λb hb=>#[by rw[bR (bF (Tl b hb))];show(Bc b hb).1,(Bc b hb).2]
 exact wpAny_newFunctionEnv S.vf (by intro y hy;simp at hy) (λh₁ S2 SW=> ?_) S.kind;have old: ∀b o,s3.heap.get? b=some o ->h₁.get? b=some o:=λb o e=>SW.extBut b o (bF (aT e)) (av _ e);have Ic:=A5 (t:=s3.toks+([]:cH (Str×df)).length) S I3 lr wQ C9 (λb hb=>by rw[Rj];show Nat.lt_succ_of_lt (Tl b hb)) S2 old;have F':tn 0 h₁:=T.keep 0 _ _ st λb hb o e=>old b o (_V b o e);have uP: ∀ {H':Hp},(∀b∈fp,H' b=none) -> ∀b∈fp,lv (bX X N' scope cl fp s3 (cR H s.heap.objs.size (.lst []))) [] H' b:=λhn b hb=>by exact#[hn b hb,?_,?_, .inl hb,λx c e=>(Bc b hb).2.2.2.2.1 x c (lr x c e),λp hp=>absurd (show p∈([]:cH (fY×Obj)) from hp) (by simp)];change b≠s3.heap.objs.size;rw[Rj];show bF (Nat.lt_succ_of_lt (Tl b hb));show Ic.ok.De b hb
 have loop:codeAny (model X.prog X.w) X.A (.compLoop (.ListComp jc [#[tg,iter,ja,0]] scope pos) 0 (.ref it) (.ref s.heap.objs.size) (compEnvC scope cl s3.heap.objs.size X.env)) (RR (.ref s.heap.objs.size) s3.heap.objs.size) {s3 with heap:=h₁,toks:=s3.toks+([]:cH (Str×df)).length}:=by
  exact G5 (λn s'=>eZ λi ys H'=>fA (Inv (bX X N' scope cl fp s3 (cR H s.heap.objs.size (.lst []))) [] (ls own.length fr σ) H' s') (tn i s'.heap) (∀b∈fp,H' b=none) (W i n ys H')) ?_ m0 #[0,[],_,Ic,F',λb hb=>(C9 b hb).1,w0];rintro n s4 ⟨i,ys,H4,I4,f9,XB,w4⟩;let⟨C_,alt⟩:=turn i n ys H4 w4;rcases alt with⟨stop,q⟩ | ⟨go,hsz,step⟩
  .exact c7 (T.done (bX X N' scope cl fp s3 (cR H s.heap.objs.size (.lst []))) rfl rfl rfl l_ i [] s4 _ H4 (λ_ _=>False) I4 (uP XB) f9 stop) λr s5 ⟨hr,I5⟩=> ?_;subst hr;show fin s3 _ I3 C9 _ _ H4 s5 s5.toks (by rw[Rj];show Nat.lt_succ_self _) I5 q
  exact c7 (T.item (bX X N' scope cl fp s3 (cR H s.heap.objs.size (.lst []))) rfl rfl rfl l_ i [] s4 _ H4 (λ_ _=>False) I4 (uP XB) f9 go) λr s5 ⟨u,hr,h5⟩=> ?_;subst hr;exact c7 h5 λ_ s6 ⟨x,H6,I6,r6,y6,Ro,fr6⟩=> ?_;have I6':=I6.pinned (uP fr6) (T.obj _ _ Ro);have Y1:=hw _ x H6 _ (step x H6 y6);exact c7 (hg s3 _ _ s6 _ H6 x u _ I6' r6 Y1) λ_ s7 ⟨σ7,H7,I7,wk,q7⟩=> ?_;have again: ∀ {H9:Hp} {s9:dG} {QF:cH V},Inv (bX X N' scope cl fp s3 (cR H s.heap.objs.size (.lst []))) ([]++iU fp s6.heap) σ7 H9 s9 ->(∃m',m'<n /\ W (i+1) m' QF H9) ->∃m,m<n /\ eZ λi ys H'=>fA (Inv (bX X N' scope cl fp s3 (cR H s.heap.objs.size (.lst []))) [] (ls own.length fr σ) H' s9) (tn i s9.heap) (∀b∈fp,H' b=none) (W i m ys H'):=λ{H9 s9 QF} I9 ⟨m',hm,w9⟩=>by exact#[m',hm,i+1,QF,H9,(I9.jE).weak ?_ wk.2,T.keep _ _ _ Ro λb hb o e=>(I9.pin (b,o) (a4 _ (a4 _ (fD hb e)))).1,λb hb=> ?_,w9];show wk.1.symm;let⟨o,e,d⟩:=T.obj _ _ Ro b hb;show(I9.pin (b,o) (a4 _ (a4 _ (fD hb e)))).2.1
  exact c7 (hc s3 _ _ s7 σ7 H7 _ I7 q7) λok s8 ⟨H8,I8,q8⟩=> ?_;cases ok with
  | false=>simp![aD,bH] at q8 ⊢;let⟨zs,q8⟩:=q8;show again I8 q8
  | true=>simp![ce] at q8 ⊢;exact c7 (he s3 _ _ s8 σ7 H8 _ I8 q8) λy s9 ⟨yv,H9,I9,ry,zs,hp9,hz9,q9⟩=> ?_;exact c7 (dh _ s9 σ7 H9 (.ref s.heap.objs.size) [yv] (.ref s.heap.objs.size) [y] (λv H'=>H'=cR H9 s.heap.objs.size (.lst (zs++ [yv]))) I9 rfl (.cons ry .nil) #[_,zs,yv,rfl,rfl,hp9,hz9,rfl]) λv Rw ⟨_,UI,I10,_,e10⟩=> ?_;subst e10;show again I10 q9
 show codeAny_compStart_list loop (T.self _ 0 _ _ _ F' loop)
theorem Cx.Ok.cellsOf (ok:X.Ok)(S:c6 X own fr N' scope): ∀y∈scope.names,y.2= .free -> ∃c,X.env.cells.lookup y.1=some c:=λy hy hf=>ok.has y.1 (S.free y hy hf)
def dF (l_:X.calm=true)(S:c6 X own fr N' scope)(hi:PI X tg iter wi)(hg: ∀cl fp s3 H3,PG (bX X N' scope cl fp s3 H3) tg g)(hw:OU own.length g)(hc: ∀cl fp s3 H3,QC (bX X N' scope cl fp s3 H3) ja tc)(he: ∀cl fp s3 H3,PE (bX X N' scope cl fp s3 H3) jc te)(hs: ∀x,foldedSetIterable iter X.env x=pure x:=by intro _;rfl):PE X (.ListComp jc [#[tg,iter,ja,0]] scope pos) (Pe wi own.length fr g tc te):=by intro ah s σ H Q I h;let⟨cl,Ks,lr,wQ⟩:=vX (I.ok.cellsOf S);rw[eval_ListComp];exact wpAny_comprehension_free (use:=none) rfl hs Ks S.kind S.loc (c7 (hi ah s σ H _ I h) λv s1 h1=>c7 h1 λWV s2 h2=> ?_);let⟨it,fp,tn,J,H2,e,I2,T,oK,f2,h2⟩:=h2;subst e;exact Dk (RR:=λgb C=>compPost (model X.prog X.w) X.A X.xe none (EP X ah σ Q) gb C) l_ S (hg cl fp) hw (hc cl fp) (he cl fp) lr wQ I2 T oK f2 h2 ?_;intro s3 H3 I3 f3 D σ' H' s' t hD Ic q;let⟨m,hn,_⟩:=Ic.loc;exact#[m,hn,λh' W_=>#[.ref D,H',?_,rfl,q]];show ye I3 rfl (yf I3 f3 Ic) Ic.free W_
set_option genInjectivity true in
inductive Dt where
 | ez | bl (b:Bool) | int (i:Int) | str (x:Str) | tup (l:List Dt) | lst (l:List Dt)
mutual
def Rep (K:WW)(H:Hp):Dt ->V ->Prop
 | .ez,v=>v= .ez
 | .bl b,v=>v= .bl b
 | .int i,v=>v= .int i
 | .str x,v=>v= .str x
 | .tup l,v=>cx λa vs=>c8 (v= .ref a) (lm K H a vs) (gz K H l vs)
 | .lst l,v=>cx λa vs=>c8 (v= .ref a) (ij K H a vs) (gz K H l vs)
def gz (K:WW)(H:Hp):cH Dt ->cH V ->Prop
 | [],vs=>vs= []
 | d::r,vs=>cx λv t=>c8 (vs=v::t) (Rep K H d v) (gz K H r t)
end
mutual
def wS:Dt ->Dt ->Bool
 | .ez, .ez=>true
 | .bl a, .bl b=>a==b
 | .bl a, .int b=>(if a then 1 else 0)==b
 | .int a, .bl b=>a==(if b then 1 else 0)
 | .int a, .int b=>a==b
 | .str a, .str b=>a==b
 | .tup a, .tup b=>zA a b
 | .lst a, .lst b=>zA a b
 | _,_=>false
def zA:cH Dt ->cH Dt ->Bool
 | [],[]=>true
 | x::xs,y::ys=>wS x y && zA xs ys
 | _,_=>false
end
mutual
def tY:Dt ->Nat
 | .tup l=>km l+1
 | .lst l=>km l+1
 | _=>0
def km:cH Dt ->Nat
 | []=>0
 | d::r=>max (tY d) (km r)
end
theorem gz.length {K:WW}{H:Hp}: ∀ {l:cH Dt} {vs:cH V},gz K H l vs ->l.length=vs.length
 | [],_,h=>by simp![gz] at h;subst h;rfl
 | d::r,vs,h=>by simp![gz] at h;let⟨v,t,rfl,_,h⟩:=h;simp[gz.length h]
theorem gz.at {K:WW}{H:Hp}: ∀ {l:cH Dt} {vs:cH V} {j:Nat} {d:Dt},gz K H l vs ->l[j]? =some d -> ∃v,vs[j]? =some v /\ Rep K H d v
 | [],_,_,_,_,e=>by simp at e
 | d::r,vs,j,d',h,e=>by
  simp![gz] at h;let⟨v,t,rfl,h1,h⟩:=h;cases j with
  | zero=>simp at e;subst e;show#[v,rfl,h1]
  | succ j=>simpa using gz.at (j:=j) h ⇑e
theorem pY: ∀ {l:cH Dt} {d:Dt},d∈l ->tY d<=km l
 | [],_,h=>by simp at h
 | x::r,d,h=>by simp![km];obtain rfl | h:=aV.mp h;show Nat.le_max_left _ _;show ar (pY h) (Nat.le_max_right _ _)
theorem kl: ∀ (a b:cH Dt),zA a b=((List.range (min a.length b.length)).all (λj=>wS (a.getD j .ez) (b.getD j .ez)) && a.length==b.length)
 | [],[]=>rfl
 | [],y::ys=>by simp[zA]
 | x::xs,[]=>by simp[zA]
 | x::xs,y::ys=>by
  have e:min (x::xs).length (y::ys).length=min xs.length ys.length+1:=by simp![aC];lia
  rw[zA,kl xs ys,e,List.range_succ_eq_map,List.all_cons,List.all_map];have e2:((x::xs).length==(y::ys).length)=(xs.length==ys.length):=by simp
  rw[e2,Bool.and_assoc];rfl
mutual
theorem mC: ∀d:Dt,wS d d=true
 | .ez=>rfl
 | .bl b=>by simp[wS]
 | .int i=>by simp[wS]
 | .str x=>by simp[wS]
 | .tup l=>by simp![wS];show rF l
 | .lst l=>by simp![wS];show rF l
theorem rF: ∀l:cH Dt,zA l l=true
 | []=>rfl
 | x::xs=>by simp![zA,mC x,rF xs,Bool.and_self]
end
def Un.sqT {K:WW}(h: ∀b xs,Rd H b (.tup xs) ->Rd H' b (.tup xs))(q:lm K H a xs):lm K H' a xs:=by obtain q | q:=q;show .inl (h _ _ q);show .inr q
section
variable {X:Cx}{ah:cH (fY×Obj)}{σ:St}{H:Hp}{s:dG}
mutual
theorem Rep.inj (I:Inv X ah σ H s): ∀ (d e:Dt) (v:V),Rep X.K H d v ->Rep X.K H e v ->d=e
 | .ez,e,v,h1,h2=>by simp![Rep] at h1;subst h1;cases e<;>simp![Rep] at h2<;>first | rfl | (cases h2;done) | (let⟨_,_,q,_⟩:=h2;cases q)
 | .bl b,e,v,h1,h2=>by simp![Rep] at h1;subst h1;cases e<;>simp![Rep] at h2<;>first | (cases h2;rfl) | (cases h2;done) | (let⟨_,_,q,_⟩:=h2;cases q)
 | .int b,e,v,h1,h2=>by simp![Rep] at h1;subst h1;cases e<;>simp![Rep] at h2<;>first | (cases h2;rfl) | (cases h2;done) | (let⟨_,_,q,_⟩:=h2;cases q)
 | .str b,e,v,h1,h2=>by simp![Rep] at h1;subst h1;cases e<;>simp![Rep] at h2<;>first | (cases h2;rfl) | (cases h2;done) | (let⟨_,_,q,_⟩:=h2;cases q)
 | .tup l,e,v,h1,h2=>by
  simp![Rep] at h1;let⟨a,vs,rfl,hs,hr⟩:=h1;cases e<;>simp![Rep] at h2<;>first | (cases h2;done) | skip
  let⟨a',Q1,q,gR,iW⟩:=h2;cases q;have:=I.xk hs gR;subst this;rw[gz.inj I l _ vs hr iW];let⟨a',Q1,q,gR,iW⟩:=h2;cases q;let⟨bN,_,ht,_⟩:=I.tuple hs;let⟨its',_,hl,_⟩:=I.list gR;show absurd rfl (SeqAt.ne_of_list_tuple (s:=s) hl.isList ht)
 | .lst l,e,v,h1,h2=>by
  simp![Rep] at h1;let⟨a,vs,rfl,hs,hr⟩:=h1;cases e<;>simp![Rep] at h2<;>first | (cases h2;done) | skip
  let⟨a',Q1,q,gR,iW⟩:=h2;cases q;let⟨bN,_,ht,_⟩:=I.tuple gR;let⟨its',_,hl,_⟩:=I.list hs;show absurd rfl (SeqAt.ne_of_list_tuple (s:=s) hl.isList ht);let⟨a',Q1,q,gR,iW⟩:=h2;cases q;have:=I.list_inj hs gR;subst this;rw[gz.inj I l _ vs hr iW]
theorem gz.inj (I:Inv X ah σ H s): ∀ (l m:cH Dt) (vs:cH V),gz X.K H l vs ->gz X.K H m vs ->l=m
 | [],m,vs,h1,h2=>by
  simp![gz] at h1;subst h1;cases m with
  | nil=>rfl
  | cons _ _=>simp![gz] at h2;let⟨_,_,q,_⟩:=h2;cases q
 | d ::r,m,vs,h1,h2=>by
  simp![gz] at h1;let⟨v,t,rfl,h1,h3⟩:=h1;cases m with
  | nil=>simp![gz] at h2;cases h2
  | cons d' r'=>simp![gz] at h2;let⟨v',t',q,h4,h5⟩:=h2;cases q;rw[Rep.inj I d d' v h1 h4,gz.inj I r r' t h3 h5]
end
def gz.items (h:gz X.K H l vs)(r:cj vs bN)(hj:j<bN.length):Rep X.K H (l.getD j .ez) (vs.getD j .ez) /\ RelV (vs.getD j .ez) bN[j] /\ l.getD j .ez∈l:=by
 have e1:=h.length;have e2:=r.length;have hl:j<l.length:= ∅;let⟨v,hv,hr⟩:=h.at (aQ hl);let⟨u,hu,ru⟩:=r.get hv;have e3:l.getD j .ez=l[j]:=by simp[List.getD,hl]
 have e4:vs.getD j .ez=v:=by simp[List.getD,hv]
 rw[aQ hj] at hu;cases hu;rw[e3,e4];show#[hr,ru,List.getElem_mem hl]
def Rep.wE (I:Inv X ah σ H s)(h:Rep X.K H (.tup l) x)(r:RelV x u):cx λa i=>u= .ref a /\ IsTup s.heap a i:=by simp![Rep] at h;let⟨a,vs,rfl,hs,hr⟩:=h;cases r;let⟨bN,_,ht,_⟩:=I.tuple hs;show#[a,_,rfl,ht]
def Rep.wN (I:Inv X ah σ H s)(h:Rep X.K H (.lst l) x)(r:RelV x u):cx λa i=>u= .ref a /\ s.heap.IsList a i:=by simp![Rep] at h;let⟨a,vs,rfl,hs,hr⟩:=h;cases r;let⟨bN,_,ht,_⟩:=I.list hs;show#[a,_,rfl,ht.isList]
def KN (I:Inv X ah σ H s)(n:Nat): ∀ (A:Around) (d e:Dt) (x y:V) (u v:df),tY d<=n ->A.units+n<cLine ->Rep X.K H d x ->Rep X.K H e y ->RelV x u ->RelV y v ->SeqAt.EqAt A s u v (wS d e):=by
 induction n using Nat.strongRecOn with
 | _ n ih=>
 intro A d e x y u v hn hu h1 h2 r1 r2;cases d<;>cases e;case tup.tup l m=>
  have ZH:=h1
  have Qq:=h2
  simp![Rep] at h1 h2
  let⟨a,vs,rfl,hs,hr⟩:=h1
  let⟨b,ws,rfl,gR,iW⟩:=h2
  cases r1;cases r2
  by_cases Fb:a=b
  subst Fb
  rw[Rep.inj I _ _ _ ZH Qq,mC]
  show SeqAt.EqAt.same _
  let⟨bN,rv,ht,_⟩:=I.tuple hs
  let⟨its',Ge,A8,_⟩:=I.tuple gR
  exact SeqAt.EqAt.of_refs Fb ?_
  simp![wS]
  simp![tY] at hn
  match n,hn,hu,ih with
  | n +1,hn,hu,ih=>
   have z:=SeqAt.RcAt.tuples (A:=A) (s:=s) (e:=λj=>wS (l.getD j .ez) (m.getD j .ez)) ht A8 ∅ λj g1 g2=>by let⟨q1,q2,q3⟩:=hr.items rv (j:=j) ⇑g1;let⟨q4,q5,q6⟩:=iW.items Ge (j:=j) ⇑g2;exact ih n (Nat.lt_succ_self n) A.in1 _ _ _ _ _ _ ?_ ?_ q1 q4 ⇑q2 ⇑q5;have:=pY q3;lia;change A.units+1+n<cLine;lia
   rw[kl,hr.length,iW.length,rv.length,Ge.length];simpa using z
 case lst.lst l m=>
  have ZH:=h1
  have Qq:=h2
  simp![Rep] at h1 h2
  let⟨a,vs,rfl,hs,hr⟩:=h1
  let⟨b,ws,rfl,gR,iW⟩:=h2
  cases r1;cases r2
  by_cases Fb:a=b
  subst Fb
  rw[Rep.inj I _ _ _ ZH Qq,mC]
  show SeqAt.EqAt.same _
  let⟨bN,rv,ht,_⟩:=I.list hs
  let⟨its',Ge,A8,_⟩:=I.list gR
  exact SeqAt.EqAt.of_refs Fb ?_
  simp![wS]
  simp![tY] at hn
  by_cases hl:bN.length=its'.length
  match n,hn,hu,ih with
  | n +1,hn,hu,ih=>
   have z:=SeqAt.RcAt.lists (A:=A) (s:=s) (e:=λj=>wS (l.getD j .ez) (m.getD j .ez)) ht.isList A8.isList ⇑hl ∅ λj g1 g2=>by let⟨q1,q2,q3⟩:=hr.items rv (j:=j) ⇑g1;let⟨q4,q5,q6⟩:=iW.items Ge (j:=j) ⇑g2;exact ih n (Nat.lt_succ_self n) A.in1 _ _ _ _ _ _ ?_ ?_ q1 q4 ⇑q2 ⇑q5;have:=pY q3;lia;change A.units+1+n<cLine;lia
   rw[kl,hr.length,iW.length,rv.length,Ge.length,hl];simpa [hl] using z
  have z:=SeqAt.RcAt.lists_lengths (A:=A) (s:=s) ht.isList A8.isList ⇑hl ∅
  have hf:(bN.length==its'.length)=false:= ⇑hl
  rw[kl,hr.length,iW.length,rv.length,Ge.length,hf,Bool.and_false]
  show z
 case tup.lst=>let⟨a,i,rfl,h⟩:=Rep.wE I h1 r1;let⟨b,j,rfl,h'⟩:=Rep.wN I h2 r2;show SeqAt.EqAt.tuple_list h h' ∅
 case lst.tup=>let⟨a,i,rfl,h⟩:=Rep.wN I h1 r1;let⟨b,j,rfl,h'⟩:=Rep.wE I h2 r2;show SeqAt.EqAt.list_tuple h h' ∅
 case tup.ez=>let⟨a,i,rfl,h⟩:=Rep.wE I h1 r1;simp![Rep] at h2;subst h2;cases r2;show SeqAt.EqAt.tuple_none h ∅
 case lst.ez=>let⟨a,i,rfl,h⟩:=Rep.wN I h1 r1;simp![Rep] at h2;subst h2;cases r2;show SeqAt.EqAt.list_none h ∅
 case ez.tup=>let⟨a,i,rfl,h⟩:=Rep.wE I h2 r2;simp![Rep] at h1;subst h1;cases r1;show SeqAt.EqAt.none_tuple h ∅
 case ez.lst=>let⟨a,i,rfl,h⟩:=Rep.wN I h2 r2;simp![Rep] at h1;subst h1;cases r1;show SeqAt.EqAt.none_list h ∅
 case tup.bl=>let⟨a,i,rfl,h⟩:=Rep.wE I h1 r1;simp![Rep] at h2;subst h2;cases r2;show SeqAt.EqAt.tuple_bool _ h ∅
 case lst.bl=>let⟨a,i,rfl,h⟩:=Rep.wN I h1 r1;simp![Rep] at h2;subst h2;cases r2;show SeqAt.EqAt.list_bool _ h ∅
 case bl.tup=>let⟨a,i,rfl,h⟩:=Rep.wE I h2 r2;simp![Rep] at h1;subst h1;cases r1;show SeqAt.EqAt.bool_tuple _ h ∅
 case bl.lst=>let⟨a,i,rfl,h⟩:=Rep.wN I h2 r2;simp![Rep] at h1;subst h1;cases r1;show SeqAt.EqAt.bool_list _ h ∅
 case tup.int=>let⟨a,i,rfl,h⟩:=Rep.wE I h1 r1;simp![Rep] at h2;subst h2;let⟨t,rfl⟩:=r2;show SeqAt.EqAt.tuple_int _ _ h ∅
 case lst.int=>let⟨a,i,rfl,h⟩:=Rep.wN I h1 r1;simp![Rep] at h2;subst h2;let⟨t,rfl⟩:=r2;show SeqAt.EqAt.list_int _ _ h ∅
 case int.tup=>let⟨a,i,rfl,h⟩:=Rep.wE I h2 r2;simp![Rep] at h1;subst h1;let⟨t,rfl⟩:=r1;show SeqAt.EqAt.int_tuple _ _ h ∅
 case int.lst=>let⟨a,i,rfl,h⟩:=Rep.wN I h2 r2;simp![Rep] at h1;subst h1;let⟨t,rfl⟩:=r1;show SeqAt.EqAt.int_list _ _ h ∅
 case tup.str=>let⟨a,i,rfl,h⟩:=Rep.wE I h1 r1;simp![Rep] at h2;subst h2;let⟨t,rfl⟩:=r2;show SeqAt.EqAt.tuple_str _ _ h ∅
 case lst.str=>let⟨a,i,rfl,h⟩:=Rep.wN I h1 r1;simp![Rep] at h2;subst h2;let⟨t,rfl⟩:=r2;show SeqAt.EqAt.list_str _ _ h ∅
 case str.tup=>let⟨a,i,rfl,h⟩:=Rep.wE I h2 r2;simp![Rep] at h1;subst h1;let⟨t,rfl⟩:=r1;show SeqAt.EqAt.str_tuple _ _ h ∅
 case str.lst=>let⟨a,i,rfl,h⟩:=Rep.wN I h2 r2;simp![Rep] at h1;subst h1;let⟨t,rfl⟩:=r1;show SeqAt.EqAt.str_list _ _ h ∅
 all_goals (simp![Rep] at h1 h2;subst h1 h2;show KL r1 r2 rfl rfl)
end
end L2
namespace L2
open PySem PySem.Spec PyProof.Rows
def aiK:Dt ->Bool
 | .tup _=>true
 | .lst _=>true
 | _=>false
def ui:Dt ->Dt ->Bool
 | .tup _, .tup _=>true
 | .lst _, .lst _=>true
 | _,_=>false
def aam {σ:St}(I:Inv X ah σ H s)(hs:ui d e=true)(hn:tY d<=50)(hu:A.units+60<cLine)(h1:Rep X.K H d x)(h2:Rep X.K H e y)(r1:RelV x u)(r2:RelV y v): SeqAt.RcAt A s u v (wS d e) /\ SeqAt.RcNeAt A s u v (!wS d e):=by
 cases d with
 | tup l=>
  cases e with
  | tup m=>
   simp![Rep] at h1 h2;let⟨a,vs,rfl,hs,hr⟩:=h1;let⟨b,ws,rfl,gR,iW⟩:=h2;cases r1;cases r2;let⟨bN,rv,ht,_⟩:=I.tuple hs;let⟨its',Ge,A8,_⟩:=I.tuple gR;simp![wS];simp![tY] at hn;have he: ∀j (g1:j<bN.toArray.size) (g2:j<its'.toArray.size),SeqAt.EqAt A.in1 s bN.toArray[j] its'.toArray[j] ((λj=>wS (l.getD j .ez) (m.getD j .ez)) j):=λj g1 g2=>by let⟨q1,q2,q3⟩:=hr.items rv (j:=j) ⇑g1;let⟨q4,q5,q6⟩:=iW.items Ge (j:=j) ⇑g2;exact KN I 50 A.in1 _ _ _ _ _ _ ?_ ?_ q1 q4 ⇑q2 ⇑q5;have:=pY q3;lia;change A.units+1+50<cLine;lia
   have z:=SeqAt.RcAt.tuples (A:=A) (s:=s) ht A8 ∅ he;have z':=SeqAt.RcNeAt.tuples (A:=A) (s:=s) ht A8 ∅ he;rw[kl,hr.length,iW.length,rv.length,Ge.length];show#[⇑z, ⇑z']
  | _=>cases hs
 | lst l =>
  cases e with
  | lst m=>
   simp![Rep] at h1 h2;let⟨a,vs,rfl,hs,hr⟩:=h1;let⟨b,ws,rfl,gR,iW⟩:=h2;cases r1;cases r2;let⟨bN,rv,ht,_⟩:=I.list hs;let⟨its',Ge,A8,_⟩:=I.list gR;simp![wS];simp![tY] at hn;by_cases hl:bN.length=its'.length;have he: ∀j (g1:j<bN.toArray.size) (g2:j<its'.toArray.size),SeqAt.EqAt A.in1 s bN.toArray[j] its'.toArray[j] ((λj=>wS (l.getD j .ez) (m.getD j .ez)) j):=λj g1 g2=>by let⟨q1,q2,q3⟩:=hr.items rv (j:=j) ⇑g1;let⟨q4,q5,q6⟩:=iW.items Ge (j:=j) ⇑g2;exact KN I 50 A.in1 _ _ _ _ _ _ ?_ ?_ q1 q4 ⇑q2 ⇑q5;have:=pY q3;lia;change A.units+1+50<cLine;lia
   have z:=SeqAt.RcAt.lists (A:=A) (s:=s) ht.isList A8.isList ⇑hl ∅ he;have z':=SeqAt.RcNeAt.lists (A:=A) (s:=s) ht.isList A8.isList ⇑hl ∅ he;rw[kl,hr.length,iW.length,rv.length,Ge.length,hl];show#[by simpa [hl] using z,by simpa [hl] using z'];have z:=SeqAt.RcAt.lists_lengths (A:=A) (s:=s) ht.isList A8.isList ⇑hl ∅;have z':=SeqAt.RcNeAt.lists_lengths (A:=A) (s:=s) ht.isList A8.isList ⇑hl ∅;have hf:(bN.length==its'.length)=false:= ⇑hl;rw[kl,hr.length,iW.length,rv.length,Ge.length,hf,Bool.and_false];show#[z,z']
  | _=>cases hs
 | _=>cases hs
def AC (K:WW):R2:=λx y H Q=>cx λd e=>gy (ui d e=true) (tY d<=50) (Rep K H d x) (Rep K H e y) (Q (.bl (!wS d e)) H)
def qL (hu:X.A.units+60<cLine):jd X (compareOp .NotEq) (AC X.K):=by intro ah s σ H x y v u Q I r1 r2 h;let⟨d,e,h0,hn,h1,h2,q⟩:=h;show(aam I h0 hn hu h1 h2 r1 r2).2 X.prog X.w X.xe _ #[.bl _,H,I,rfl,q]
def e7.Uc (r:e7 k A):A.units+60<cLine:=by have:=r.units;lia
theorem E6: ∀ {ks:cH Int} {vs:cH df},vs.length=ks.length ->(∀ (j:Nat) (v:df),vs[j]? =some v ->cx λ(k:Int) (t:Tok)=>ks[j]? =some k /\ v= .int k t) ->IntsAre vs ks
 | [],[],_,_=> .nil
 | [],_::_,h,_=>by simp at h
 | _::_,[],h,_=>by simp at h
 | k::ks,v::vs,h,hv=>by let⟨k',t,e1,e2⟩:=hv 0 v rfl;simp at e1;subst e1 e2;show .cons k t (E6 ⇑h λj u e=> ⇑(hv (j+1) u ⇑e))
def AB:cH V ->Hp ->VK ->Prop:=λxs H Q=>eZ λ(d:fY) (kvs:cH (cf×V)) (ks:cH Int)=>gy (xs= [.ref d]) (H d=some (.dK kvs)) (kvs.map (·.1)=ks.map Sum.inl) (ks.length<=sizeLine) (∀ (p:fY) (ns:cH Int),H p=none ->ns.Perm ks ->ns.Pairwise (· <= ·) ->Q (.ref p) (cR H p (.lst (ns.map V.int))))
def qf (hc:X.calm=true):fJ X (.builtin "sorted") AB:=by
 intro ah s σ H xs us Q I r h;let⟨d,kvs,ks,rfl,hd,hk,N4,q⟩:=h;let⟨u,rfl,ru⟩:=vals1 r;cases ru;have hh:X.A.in1.handled=none:=I.ok.hd hc;let⟨hz,lo,vs,gq,dd⟩:=xY I.cU hd;let⟨ep,hat⟩:=dd.dictAt;have dR:vs.length=ks.length:=by have e1:=congrArg List.length hk;rw[af,af] at e1;rw[<- gq.length,e1]
 exact Calls.call_function_entry kind_sorted plain_sorted entry_sorted (args_sorted1 _) ?_;unfold Builtin.«sorted»;exact aA (m:=checkCount "sorted" 1 1 _) (bf ?_);exact aA (W.kdu_collect (A:=X.A.in1) (W.kdl_dict (knd:=cO X.prog X.w) (kvs:=vs) (ep:=ep) lo) hh hat (by rw[<- gq.length];show hz) λh' tk gb hkp C_=> ?_);have hl:gb.toList.length=ks.length:=by rw[dL,C_.1,dR]
 have hI:IntsAre gb.toList ks:=E6 hl λj v e=>by
  let⟨k,x,hx,Xk⟩:=C_.2 j v (by rw[<- Array.getElem?_toList];show e);have Km:(kvs.map (·.1))[j]? =some k:=by
   have:(vs.map (·.1))[j]? =some k:=by rw[aK,hx];rfl
   rw[<- gq.keys] at this;show this
  rw[hk,aK] at Km;cases e2:ks[j]? with
  | none=>rw[e2] at Km;cases Km
  | some n=>
   rw[e2] at Km;cases Km;have S_:pF (Sum.inl n) v=true:=Xk;rcases dk S_ with⟨i,t,e3,e4⟩ | ⟨x,t,e3,e4⟩
   cases e3;show#[n,t,rfl,e4];cases e3
 exact aA (wpAny_newList ?_ (by rw[hl];show N4));have ho:(h'.push (seqObj "list" gb.toList.toArray 0)).get? h'.objs.size=some (seqObj "list" gb.toList.toArray 0):=a6 _ rfl;exact aA (wpAny_holding (wpAny_call_entry slot_list_sort #[_,ho,rfl] entry_list_sort (TS.Ga (s:= {s with heap:=h'.push (seqObj "list" gb.toList.toArray 0),toks:=tk}) ho hI (by rw[hl];show N4) λout Ca a1 a2 a3=>#[_,rfl,?_]) (args_list_sort _)));let⟨ee,Th⟩:=sortedHeap_at (out:=out) ho;have I':Inv X ah σ H {s with heap:=h',toks:=tk}:=I.kept (t':=tk) hkp;exact bf #[_,rfl, .ref h'.objs.size,_,I'.laid (t':=tk) (o:= .lst (Ca.map V.int)) (λb o hb=> ?_) (aq _) ?_,rfl,q _ Ca (I'.cU.fresh (aq _)) a2 a3];have no:b<h'.objs.size:=aT hb;rw[sortedHeap_old (bF no) (by rw[Heap.size_push];show Nat.lt_succ_of_lt no)];show av _ hb;exact#[?_,out.toList,ee,qy a1, ⇑Th];rw[af,a2.length_eq];show N4
def c6.of {X:Cx}{sc scope:Scope}{N own N':cH Str}{fr:cH Nat}(hsc:X.env.scope=sc:=by show rfl)(hN:X.N=N:=by show rfl)(kind:scope.kind= .function:=by show rfl)(names:N'=own++fr.filterMap (λj=>N[j]?):=by decide+kernel)(len:N'.length=own.length+fr.length:=by show rfl)(nd:N'.Nodup:=by decide+kernel) (vf: ∀y∈scope.names,y.2≠ .cell:=by decide+kernel) (loc: ∀y∈scope.names,y.2= .local ->scope.names.lookup y.1=some .local:=by decide+kernel) (UE: ∀x∈fr.filterMap (λj=>N[j]?),scope.names.lookup x=some .free:=by decide+kernel) (free: ∀y∈scope.names,y.2= .free ->sc.names.lookup y.1=some .cell \/ sc.names.lookup y.1=some .free:=by decide+kernel):c6 X own fr N' scope:=by subst hN hsc;show#[kind,names,len,nd,vf,loc,UE,free]
structure g0 (K:PySem.W.Frag)(mg:Str ->Option Value)(x:Str)(ps:List Str)(st:Stmt)(f:Addr)(fd:FuncData):Prop where
 at_:mg x=some (.ref f)
 fn:BR K x x st f fd
 bd:Binds K fd ps []
theorem ax {st:Stmt}{p pos:Pos}(C:g0 X.K X.mg x ps st f fd)(F:bI X.prog X.w X.K X.mg X.base fw k f fd ps sp)(hr:e7 j X.A)(ha:PA X (e::es) t)(hk:k<=j:=by decide)(hg:Gl X x:=by rfl)(xL:(x==("__debug__" :Str))=false:=by decide)(he:starEach (e::es) X.env=(false,eval e X.env)::starEach es X.env:=by rfl)(qt:(backTo pos (starEach es X.env)).any (·.1)=false:=by rfl): PE X (.Call (.Name x p) (e::es) [] pos) (xo sp [] E0 t):=EC F (hr.mono hk) hg C.at_ C.fn.kp C.bd .nil ED ha xL he qt
theorem cg (h:H p=none):gm H (cR H p o):=λb u e=>by rw[bR (fC e h)];show e
def a_ (H H':Hp):Prop:= ∀b xs,Rd H b (.tup xs) ->Rd H' b (.tup xs)
theorem a_.refl (H:Hp):a_ H H:=λ_ _ h=>h
theorem a_.trans (a:a_ H H1)(b:a_ H1 H2):a_ H H2:=λc o h=>b c o (a c o h)
theorem gm.ts (a:gm H H'):a_ H H':=λb xs h=>by obtain h | ⟨o,h⟩:=h;show .inl (a _ _ h);show .inr #[o,a _ _ h]
inductive X6 (K:PySem.W.Frag)(H:Hp):V ->Value ->Prop where
 | of {x:V} {t:Value} (h:rL K H x t):X6 K H x t
 | tup {a:Addr} {xs:List V} (h:lm K H a xs):X6 K H (.ref a) (.type "tuple")
 | lst {a:Addr} {xs:List V} (h:ij K H a xs):X6 K H (.ref a) (.type "list")
def RC (K:WW):cH V ->Hp ->VK ->Prop:=λxs H Q=>gc λx T t b=>fA (xs= [x, .ty T]) (X6 K H x t) (W.kitOne K t (.type T)=some b) (Q (.bl b) H)
def K9:fJ X (.builtin "isinstance") (RC X.K):=by
 intro ah s σ H xs us Q I r h;let⟨x,T,t,b,rfl,ty,e,q⟩:=h;let⟨u,w',rfl,ru,yN⟩:=vals2 r;cases yN;cases ty with
 | of ty=>show GN I ru ty e λtk=>#[.bl b,H,I.tok tk,rfl,q]
 | tup hs=>cases ru;let⟨bN,rv,⟨o,h1,h2,_⟩,_⟩:=I.tuple hs;show cF W.kitx_tuple I.nH #[o,h1,h2] e (λz=>nomatch z) λtk=>#[.bl b,H,I.tok tk,rfl,q]
 | lst hs=>cases ru;let⟨bN,rv,ht,_⟩:=I.list hs;let⟨o,h1,h2,_⟩:=ht.isList;show cF W.kitx_list I.nH #[o,h1,h2] e (λz=>nomatch z) λtk=>#[.bl b,H,I.tok tk,rfl,q]
end L2
namespace L2
open PySem PyProof.Rows PyProof.V PySem.Calls PySem.Spec
def i6 (P:Program)(w:World):Ce:=λouter H s E e s'=>sW λ(ea:fY) (cls a0:df) (B:Heap) (H':Hp)=>BM (e= .ref ea) (s'.os=s.os) (AllBare s'.gens) (Heap.FlyingW B outer ea cls a0 s'.heap) (nj P w H' B) (H' ea=none) (Un (lx outer) [] H H' s.heap s'.heap) (c8 (∀b o,s.heap.get? b=some o ->H b=none ->b∉lx outer ->B.get? b=some o) (∀b o,s.heap.get? b=some o ->b∉lx outer -> ∃o',B.get? b=some o') (E cls none H'))
def eC.ex (x:eC P w H h a o): ∃u,h.get? a=some u:=by
 cases o with
 | lst xs=>let⟨_,_,_,_,e⟩:=x;show#[_,e]
 | tup xs=>let⟨_,_,_,p,e,_⟩:=x;show#[_,e]
 | dK kvs=>let⟨_,_,_,_,o,_,_,e,_⟩:=x;show#[_,e]
 | dT kvs=>let⟨_,_,_,_,o,_,_,e,_⟩:=x;show#[_,e]
 | set S n=>let⟨o,_,_,_,e,_⟩:=x;show#[_,e]
 | ins C dx fs=>let⟨_,_,_,e,_⟩:=x;show#[_,e]
 | own y=>show x
 | xd fs=>let⟨_,⟨_,_,_,e,_⟩,_⟩:=x;show#[_,e]
 | Y6 lo hi=>let⟨_,_,_,e⟩:=x;show#[_,e]
 | lw ob u=>let⟨e,_⟩:=x;show#[_,e]
 | Mz ps=>show#[_,(show h.get? a=some _ from x)]
 | met f y=>show#[_,(show h.get? a=some _ from x)]
 | ext φ=>let⟨_,e,_⟩:=x;show e
section
variable {X:Cx}{ah:cH (fY×Obj)}{σ:St}{H H':Hp}{s s':dG}
theorem Inv.Nt (I:Inv X ah σ H s)(e:X.s₀.heap.get? b=some o)(n:b∉X.fs):b∉lx X.stack:=λz=>by obtain q | q:=aV.mp (I.yE b z);have h1:=aT e;have h2:=I.ok.above;rw[q] at h1;show absurd h1 (Nat.not_lt.mpr h2);show n q
theorem uJ {outer:cH Env}{H₀:Hp}{h0 h h' B:Heap}{base:Heap}(ff:h.FunFrames base outer)(hF: ∀b∈lx outer,H₀ b=none)(u:Un (lx outer) [] H₀ H' h0 h)(st:B.StaysIn h')(up:h.UpToSlots h') (kb: ∀b o,h0.get? b=some o ->H₀ b=none ->b∉lx outer ->B.get? b=some o) (kt: ∀b o,h0.get? b=some o ->b∉lx outer -> ∃o',B.get? b=some o'):Un (lx outer) [] H₀ H' h0 h' where
 keep b o e n hb _:=st b o (kb b o e n hb)
 slot b o e n hb hx:=by let⟨sl,e1⟩:=u.slot b o e n hb hx;let⟨_,o2,e2,Xe⟩:=ff.mem hb;rw[e1] at e2;cases e2;let⟨Pj,e3⟩:=up b _ e1 Xe;show#[Pj,e3]
 free:=u.free
 there b o e hx:=by by_cases hb:b∈lx outer;let⟨sl,e1⟩:=u.slot b o e (hF b hb) hb hx;let⟨_,o2,e2,Xe⟩:=ff.mem hb;rw[e1] at e2;cases e2;let⟨Pj,e3⟩:=up b _ e1 Xe;show#[_,e3];let⟨o',e'⟩:=kt b o e hb;show#[o',st _ _ e']
 oG:=u.oG
 nq:=u.nq
 qB:=u.qB
def CH {K:WW}: ik (i6 P w) (eQ (i6 P w) P w K mg base N qual scope f cd A outer s H E) E:=by
 intro ah σ H1 s1 e s' I hf;let⟨ea,cls,a0,B,H',rfl,os,bare,fl,cU,E9,un,kb,kt,hE⟩:=hf;have I':=I.K_ (ch:= []) os un (cU.kept fl.1) bare (λb z=>absurd z (by simp));change wpAny _ _ (leaving _ (.ref ea)) _ _ s';exact wpAny_leaves_onW I.ok.frames rfl fl λh' fl' up=> ?_;have hex:(eQ (i6 P w) P w K mg base N qual scope f cd A outer s H E).ex= []:=rfl;have kb': ∀b o,s.heap.get? b=some o ->H b=none ->b∉lx outer ->B.get? b=some o:=λb o e n hb=>kb b o (I.base.keep b o e n hb (λz=>absurd z (by simp[hex]))) (I.base.free b o e n (λz=>absurd z (by simp[hex]))) (I.Nt e hb);have kt': ∀b o,s.heap.get? b=some o ->b∉lx outer -> ∃o',B.get? b=some o':=λb o e hb=>by let⟨o1,e1⟩:=I.base.there b o e (λz=>absurd z (by simp[hex]));show kt b o1 e1 (I.Nt e hb)
 show#[ea,cls,a0,B,H',rfl,os.trans I.os,bare,fl',cU,E9,uJ I'.om I.ok.Mb I'.base fl'.1 up kb' kt',kb',kt',hE]
def Kv (hP:X.prog=P)(hw:X.w=w)(I:Inv X ah σ H s)(uw:X.stack=X.env::X.outer)(GV:X.env.frame=some X.env.locals)(hex:X.ex= [])(mk:Heap.MadeExcOf s.heap h' e cls vs)(hE:E cls none H): wpAny M X.A (leaving X.env (.ref e)) (λ_ s2=>i6 P w X.outer X.H₀ X.s₀ E (.ref e) s2) E' {s with heap:=h'}:=by
 subst hP hw;have PM: ∀b:fY,b∉X.ex:=λb z=>by rw[hex] at z;show absurd z (by simp)
 have Rl:=I.stack;have Bb: ∀env∈X.stack, ∀b,env.frame=some b ->b∈lx X.stack:=λenv he b hb=>List.mem_filterMap.mpr #[env,he,hb];have hB:nj X.prog X.w H (W.hideAll s.heap (lx X.stack)):=λa o ea=>(I.cU a o ea).uO (λb u hb q=>W.hideAll_get _ q λhm=>by have:=I.ug b hm;obtain rfl | hb:=hb;rw[ea] at this;cases this;rw[hb] at this;cases this) (λ_ q=>q) λ_ _ q=>q;have E9:H e=none:=by
  cases q:H e with
  | none=>rfl
  | some o=>let⟨u,hu⟩:=(I.cU e o q).ex;rw[mk.new] at hu;cases hu
 have kb: ∀b o,X.s₀.heap.get? b=some o ->X.H₀ b=none ->b∉lx X.outer ->(W.hideAll s.heap (lx X.stack)).get? b=some o:=λb o e n hb=>W.hideAll_get _ (I.base.keep b o e n hb (PM b)) (I.Nt e hb);have kt: ∀b o,X.s₀.heap.get? b=some o ->b∉lx X.outer -> ∃o',(W.hideAll s.heap (lx X.stack)).get? b=some o':=λb o e hb=>by let⟨o1,e1⟩:=I.base.there b o e (PM b);show#[o1,W.hideAll_get _ e1 (I.Nt e hb)]
 have L7:s.heap.FunFrames (W.hideAll s.heap (lx X.stack)) (X.env::X.outer):=by have:=W.funFrames_hide Rl Bb;rw[uw] at this ⊢;show this
 exact wpAny_leaves_madeW (by rw[I.ok.frames,uw]) GV (λb o q=>W.of_hideAll _ q) L7 mk λh2 t fl tu _ up=> ?_;have up':s.heap.UpToSlots h2:=(Heap.UpToSlots.of_keeps mk.keeps).trans up;have u0:Un (lx X.outer) [] X.H₀ H X.s₀.heap s.heap:=by have:=I.base;rw[hex] at this;show this
 show#[e,cls, .ref t,_,H,rfl,I.os,I.bare,fl,hB,E9,uJ I.om I.ok.Mb u0 fl.1 up' kb kt,kb,kt,hE]
def FK (X:Cx)(E:XK):Prop:= ∀ (ah:cH (fY×Obj)) (σ:St) (H:Hp) (s:dG) (h':Heap) (e:fY) (cls:df) (vs:cH df),Inv X ah σ H s ->Heap.MadeExcOf s.heap h' e cls vs ->E cls none H ->X.xe (.ref e) {s with heap:=h'}
theorem Kw {K:WW}: FK (eQ (i6 P w) P w K mg base N qual scope f cd A outer s H E) E:=λah σ H1 s1 h' e cls vs I mk hE=>Kv (P:=P) (w:=w) rfl rfl I rfl rfl rfl mk hE
nonrec abbrev XR:cH df:= [.type "ValueError", .type "Exception", .type "BaseException", .type "object"]
def Cs (C:fY)(E:XK)(t:TA):TS:=λ_ σ H=>t σ H λvs H1=>vs.length<=sizeLine /\ E (.ref C) none H1
def Ji {np dy pos:Pos}{cX:cH Expr}(hF:FK X E)(hc:X.calm=true)(hg:Gl X x)(O:PyProof.Rows.OwnCls x C XR "ValueError.__new__" X.mg X.base)(ha:PA X (e₀::cX) t)(xL:(x==("__debug__" :Str))=false:=by decide)(he:starEach (e₀::cX) X.env=(false,eval e₀ X.env)::starEach cX X.env:=by rfl)(qt:(backTo dy (starEach cX X.env)).any (·.1)=false:=by rfl): PS X (.Raise (some (.Call (.Name x np) (e₀::cX) [] dy)) none pos) (Cs C E t):=by intro ah s σ H D I h;let⟨tl,N,nm,q,bs,hdct,sn,sub,ab,col,dd,k0,k1,k2,k3,k5,mN,hC,hN,GR,T⟩:=O.obj;exact wpAny_Raise_call_subU (C:=C) (nm:=nm) (q:=q) (N:=N) (bs:=bs) (bm:=tl) (hdct:=hdct) (sn:=sn) (sub:=sub) (ab:=ab) (col:=col) (dd:=dd) (k0:=k0) (k1:=k1) (k2:=k2) (k3:=k3) (k5:=k5) PySem.F.excBase_ValueError (bmB:=XR) (by decide+kernel) PySem.F.excBase_ValueError (mN:=mN) (T.hasType PySem.F.excBase_ValueError.hasBase) (I.ok.hd hc) (by rw[he];change(false || (backTo dy (starEach cX X.env)).any (·.1))=false;rw[qt];rfl) GR (pB I hg O.bound #[rfl,?_] xL);have h2:=ha dy ah s σ H _ I h;rw[he] at h2 ⊢;show Calls.evalArgs_plain (c7 h2 λus s2 ⟨vs,H1,I1,r,z,hE⟩=>#[rfl,by rw[<- r.length];show z,I1.bk _ _ hC,hN.keeps I1.bk,T.keeps I1.bk,λh' e mk=>hF ah σ H1 s2 h' e (.ref C) us I1 mk hE])
end
def iw (a C:fY)(h:Heap):Prop:= ∃o,h.get? a=some o /\ o.cls= .ref C
abbrev Cx.sq (X:Cx)(e:df):Cx:= {X with A:=X.A.mark (some e),calm:=false,xe:=λ_ _=>False}
theorem Cx.Ok.sq {X:Cx}(ok:X.Ok)(e:df):(X.sq e).Ok:=#[ok.mod,ok.kind,ok.glob,ok.blt,ok.above,ok.inj,ok.has,ok.UF,(λz=>nomatch z),ok.frames,ok.Rl,ok.exf,ok.bs,ok.La,ok.Gz,ok.De,ok.om,ok.Mb]
theorem Inv.sq {σ:St}(I:Inv X ah σ H s)(e:df):Inv (X.sq e) ah σ H s:=#[I.ok.sq e,I.os,I.bare,I.base,I.loc,I.cell,I.free,I.gS,I.pin,I.cU,I.len]
theorem Inv.yY {σ:St}(ok:X.Ok)(I:Inv (X.sq e) ah σ H s):Inv X ah σ H s:=#[ok,I.os,I.bare,I.base,I.loc,I.cell,I.free,I.gS,I.pin,I.cU,I.len]
def vw {σ:St}{s':dG}(I:Inv X ah σ H1 s1)(os:s'.os=s1.os)(bare:AllBare s'.gens)(fl:Heap.FlyingW B X.stack ea (.ref C) a0 s'.heap)(cU:nj X.prog X.w H' B)(E9:H' ea=none)(un:Un (lx X.stack) [] H1 H' s1.heap s'.heap)(kb: ∀b o,s1.heap.get? b=some o ->H1 b=none ->b∉lx X.stack ->B.get? b=some o)(kt: ∀b o,s1.heap.get? b=some o ->b∉lx X.stack -> ∃o',B.get? b=some o')(fl5:Heap.FlyingW B X.stack ea (.ref C) a0 h5)(up:s'.heap.UpToSlots h5):Inv X ah σ (cR H' ea (.ext (iw ea C))) {s' with heap:=h5,toks:=tk} /\ a_ H1 (cR H' ea (.ext (iw ea C))):=by
 have new: ∀b o,s1.heap.get? b=some o ->b≠ea:=λb o e z=>by subst z;by_cases hb:b∈lx X.stack;let⟨_,o2,e2,Xe⟩:=fl.2.2.1.mem hb;let⟨oe,vs,e3,_,hd,_⟩:=fl.first;rw[e2] at e3;cases e3;show Xe vs hd;let⟨o',e'⟩:=kt b o e hb;rw[fl.2.1] at e';cases e'
 have u5:=uJ fl.2.2.1 I.ug un fl5.1 up kb kt;have A2: ∀b o,H' b=some o ->cR H' ea (.ext (iw ea C)) b=some o:=λb o e=>by rw[bR (fC e E9)];show e
 have u6:Un (lx X.stack) [] H1 (cR H' ea (.ext (iw ea C))) s1.heap h5:=#[u5.keep,u5.slot,λb o e n hx=>by rw[bR (new b o e)];show u5.free b o e n hx,u5.there,λb xs e=>A2 _ _ (u5.oG b xs e),λb o u e=>A2 _ _ (u5.nq b o u e),λb ps e=>let ⟨m,z⟩:=u5.qB b ps e;#[m,A2 _ _ z]]
 have aa9:nj X.prog X.w (cR H' ea (.ext (iw ea C))) h5:=λb o e=>by by_cases hb:b=ea;subst hb;rw[bY] at e;cases e;let⟨oe,vs,e3,hc,_⟩:=fl5.first;show#[#[oe,e3,hc],#[oe,e3],λh1 h2 ⟨o,e,c⟩ k=>#[o,k o e,c]];rw[bR hb] at e;show(cU b o e).uO (λc u _ q=>fl5.1 c u q) (λc q=>A2 _ _ q) λc xs q=>A2 _ _ q
 exact#[I.K_ (s':= {s' with heap:=h5,toks:=tk}) (ch:= []) os u6 aa9 bare (λb z=>absurd z (by simp)),λb xs r=> ?_];obtain r | ⟨w,r⟩:=r;show .inl (u6.oG _ _ r);show .inr #[w,u6.nq _ _ _ r]
theorem Ny {σ:St}(I:Inv X ah σ H s)(hg:Gl X x)(hm:X.mg x=some u)(h:Q u s)(hd:(x==("__debug__" :Str))=false:=by decide):wpAny M A (eval (.Name x pos) X.env) Q E s:=Calls.Name_function_global I.ok.kind hg (Calls.loadGlobal_global (by rw[I.ok.glob];show I.mod.glob.keeps I.bk) hm h) hd
end L2
namespace L2
open PySem PyProof.Rows PyProof.V PySem.Calls PySem.Spec PySem.W PySem.Builtin PySem.Builtin.ObjectAttr PySem.Builtin.Getset_descriptor
theorem Tp (hx:hh.get? a=some o)(hc:o.cls= .ref C):Looks M hh (typeOf (.ref a)) (.ref C):=hc▸ (Looks.ld hx).andThen .now
end L2
namespace L2
open PySem PyProof.Rows PyProof.V PySem.Calls PySem.Spec PySem.W
structure Ye (K:PySem.W.Frag)(C:Addr):Prop where
 cls:(clsIn K C).isSome=true
 ga:findIn K (.ref C) "__getattribute__" =some (some (.builtin "BaseException.__getattribute__"))
 gn:findIn K (.ref C) "__getattr__" =some none
 cl:findIn K (.ref C) "__class__" =some (some (.builtin "object.__class__"))
 mo:mroIn K C (.type "object")=some true
 mb:mroIn K C (.type "BaseException")=some true
end L2
namespace WL
open PySem L2
set_option genInjectivity true in
inductive W where
 | v (x:V) | tup (l:List W)
set_option genInjectivity true in
inductive MO where
 | lst (l:List W) | dK (kvs:List (cf×W)) | ins (C dx:Addr) (fs:List (Str×W)) | exc (C:Addr) | fz (o:Obj) (ks:List (cf×V)) (kvs:List (cf×W))
abbrev Mp:=fY ->fj MO
abbrev cq:=cH (fj W)
abbrev WK:=W ->Mp ->Prop
abbrev WE:=cq ->Mp ->WK ->Prop
abbrev WT:=cq ->Mp ->(Bool ->Mp ->Prop) ->Prop
abbrev WA:=cq ->Mp ->(cH W ->Mp ->Prop) ->Prop
abbrev WG:=W ->cq ->Mp ->(cq ->Mp ->Prop) ->Prop
abbrev OD:=cH W ->cq ->Mp ->(cq ->Mp ->Prop) ->Prop
abbrev qu:=W ->W ->Mp ->WK ->Prop
abbrev zK:=cH W ->Mp ->WK ->Prop
abbrev WI:=cq ->Mp ->(cH W ->(Mp ->Prop) ->Mp ->Prop) ->Prop
structure fI where
 nx:cq ->Mp ->Prop
 rt:WK
 bk:cq ->Mp ->Prop:=λ_ _=>False
 ct:cq ->Mp ->Prop:=λ_ _=>False
abbrev WS:=fI ->cq ->Mp ->Prop
@[reducible] def wi (i:Int):W:= .v (.int i)
@[reducible] def wb (b:Bool):W:= .v (.bl b)
@[reducible] def wr (a:fY):W:= .v (.ref a)
@[reducible] def ws (x:Str):W:= .v (.str x)
@[reducible] def wn:W:= .v .ez
def um (M:Mp)(a:fY)(o:MO):Mp:=λb=>if b=a then some o else M b
def am:um M a o a=some o:=by unfold um;rw[ao rfl]
def aR (h:b≠a):um M a o b=M b:=by unfold um;rw[ak h]
def kC:um (um M a o) a u=um M a u:=by funext b;unfold um;split<;>rfl
def ca {M:Mp}(h:M a=some o)(h':M b=none):a≠b:=by intro e;subst e;rw[h] at h';cases h'
def Sm (M M':Mp):Prop:= ∀b o,M b=some o ->M' b=some o
theorem Sm.refl (M:Mp):Sm M M:=λ_ _ h=>h
theorem Sm.trans {M M1 M2:Mp}(a:Sm M M1)(b:Sm M1 M2):Sm M M2:=λc o h=>b c o (a c o h)
def Sm.free (a:Sm M M')(h:M' p=none):M p=none:=by
 cases e:M p with
 | none=>rfl
 | some o=>rw[a p o e] at h;cases h
theorem a7 (h:M p=none):Sm M (um M p o):=λb u e=>by rw[aR (ca e h)];show e
theorem Sm.um (a:Sm M M')(h:M p=none):Sm M (um M' p o):=λb u e=>by rw[aR (ca e h)];show a b u e
mutual
def WR (K:WW)(H:Hp):W ->V ->Prop
 | .v x,v=>v=x
 | .tup l,v=>cx λa vs=>c8 (v= .ref a) (lm K H a vs) (cP K H l vs)
def cP (K:WW)(H:Hp):cH W ->cH V ->Prop
 | [],vs=>vs= []
 | x::r,vs=>cx λv t=>c8 (vs=v::t) (WR K H x v) (cP K H r t)
end
mutual
theorem WR.ts {K:WW}{H H':Hp}(a:a_ H H'): ∀ (x:W) (v:V),WR K H x v ->WR K H' x v
 | .v x,v,h=>by simp![WR] at h ⊢;show h
 | .tup l,v,h=>by simp![WR] at h ⊢;let⟨p,vs,e,hs,hr⟩:=h;show#[p,vs,e,Un.sqT a hs,cP.ts a l vs hr]
theorem cP.ts {K:WW}{H H':Hp}(a:a_ H H'): ∀ (l:cH W) (vs:cH V),cP K H l vs ->cP K H' l vs
 | [],vs,h=>by simp![cP] at h ⊢;show h
 | x::r,vs,h=>by simp![cP] at h ⊢;let⟨v,t,e,h1,h2⟩:=h;show#[v,t,e,WR.ts a x v h1,cP.ts a r t h2]
end
theorem cP.length {K:WW}{H:Hp}: ∀ {l:cH W} {vs:cH V},cP K H l vs ->vs.length=l.length
 | [],_,h=>by simp![cP] at h;subst h;rfl
 | d::r,vs,h=>by simp![cP] at h;let⟨v,t,rfl,_,h⟩:=h;simp[cP.length h]
theorem cP.at {K:WW}{H:Hp}: ∀ {l:cH W} {vs:cH V} {j:Nat} {d:W},cP K H l vs ->l[j]? =some d -> ∃v,vs[j]? =some v /\ WR K H d v
 | [],_,_,_,_,e=>by simp at e
 | d::r,vs,j,d',h,e=>by
  simp![cP] at h;let⟨v,t,rfl,h1,h⟩:=h;cases j with
  | zero=>simp at e;subst e;show#[v,rfl,h1]
  | succ j=>simpa using cP.at (j:=j) h ⇑e
theorem cP.mk {K:WW}{H:Hp}: ∀ {l:cH W} {vs:cH V},vs.length=l.length ->(∀ (j:Nat) d v,l[j]? =some d ->vs[j]? =some v ->WR K H d v) ->cP K H l vs
 | [],vs,h,_=>by simp![cP];show List.length_eq_zero_iff.mp h
 | d::r,[],h,_=>by simp at h
 | d::r,v::vs,h,k=>by simp![cP];show#[v,vs,rfl,k 0 d v rfl rfl,cP.mk ⇑h λj x u e1 e2=>k (j+1) x u ⇑e1 ⇑e2]
def cP.back {j:Nat}(h:cP K H l vs)(e:vs[j]? =some v): ∃d,l[j]? =some d /\ WR K H d v:=by
 have hl:=h.length;have hj:j<l.length:=by have:=(bB.mp e).1;lia
 let⟨u,hu,r⟩:=h.at (j:=j) (d:=l[j]) (aQ hj);rw[e] at hu;cases hu;show#[_,aQ hj,r]
def cP.snoc (h:cP K H l vs)(hr:WR K H d v):cP K H (l++ [d]) (vs++ [v]):=by
 have hl:=h.length;exact cP.mk (by simp[hl]) λj x u e1 e2=> ?_;by_cases hj:j<l.length;rw[bu hj] at e1;rw[bu ∅] at e2;let⟨w,hw,r⟩:=h.at e1;rw[e2] at hw;cases hw;show r;rw[bi ∅] at e1;rw[bi ∅,hl] at e2;cases hk:j - l.length with
 | zero=>rw[hk] at e1 e2;simp at e1 e2;subst e1 e2;show hr
 | succ k=>rw[hk] at e1;simp at e1
def cP.append (h:cP K H l vs)(h':cP K H m us):cP K H (l++m) (vs++us):=by have hl:=h.length;have sr:=h'.length;exact cP.mk (by simp[hl,sr]) λj x u e1 e2=> ?_;by_cases hj:j<l.length;rw[bu hj] at e1;rw[bu ∅] at e2;let⟨w,hw,r⟩:=h.at e1;rw[e2] at hw;cases hw;show r;rw[bi ∅] at e1;rw[bi ∅,hl] at e2;let⟨w,hw,r⟩:=h'.at e1;rw[e2] at hw;cases hw;show r
def cP.drop (n:Nat)(h:cP K H l vs):cP K H (l.drop n) (vs.drop n):=by exact cP.mk (by simp[h.length]) λj x u e1 e2=> ?_;rw[List.getElem?_drop] at e1 e2;let⟨w,hw,r⟩:=h.at e1;rw[e2] at hw;cases hw;show r
def cP.take (n:Nat)(h:cP K H l vs):cP K H (l.take n) (vs.take n):=by exact cP.mk (by simp[h.length]) λj x u e1 e2=> ?_;rw[List.getElem?_take] at e1 e2;split at e1;rename_i hj;rw[ao hj] at e2;let⟨w,hw,r⟩:=h.at e1;rw[e2] at hw;cases hw;show r;cases e1
def cP.set (n:Nat)(h:cP K H l vs)(hr:WR K H d v):cP K H (l.set n d) (vs.set n v):=by have hl:=h.length;exact cP.mk (by simp[h.length]) λj x u e1 e2=> ?_;rw[List.getElem?_set] at e1 e2;split at e1;rename_i hj;rw[ao hj] at e2;split at e1;split at e2;cases e1;cases e2;show hr;cases e2;cases e1;rename_i hj;rw[ak hj] at e2;let⟨w,hw,r⟩:=h.at e1;rw[e2] at hw;cases hw;show r
def cP.nil:cP K H [] []:=by simp![cP]
def cP.cons {K:WW}{H:Hp}{x:W}{v:V}{l:cH W}{vs:cH V}(h:WR K H x v)(r:cP K H l vs):cP K H (x::l) (v::vs):=by simp![cP];show#[v,vs,rfl,h,r]
def WR.v:WR K H (.v x) x:=by simp![WR]
def WR.eq {x v:V}(h:WR K H (.v x) v):v=x:=by simpa only[WR] using h
def WR.tup {K:WW}{H:Hp}{l:cH W}{v:V}(h:WR K H (.tup l) v):cx λa vs=>c8 (v= .ref a) (lm K H a vs) (cP K H l vs):=by simpa only[WR] using h
def WR.Sh (h:lm K H a vs)(r:cP K H l vs):WR K H (.tup l) (.ref a):=by simp![WR];show#[a,vs,rfl,h,r]
def KR (K:WW)(H:Hp){κ:Type}:cH (κ×W) ->cH (κ×V) ->Prop:=Paired λp q=>p.1=q.1 /\ WR K H p.2 q.2
theorem KR.ts {K:WW}{H H':Hp}{κ:Type}(a:a_ H H'): ∀ {l:cH (κ×W)} {vs:cH (κ×V)},KR K H l vs ->KR K H' l vs
 | _,_, .nil=> .nil
 | _,_, .cons ⟨e,r⟩ t=> .cons #[e,r.ts a] (KR.ts a t)
def MR (K:WW)(H:Hp)(a:fY):MO ->Prop
 | .lst l=> ∃vs,H a=some (.lst vs) /\ cP K H l vs
 | .dK kvs=> ∃ks,H a=some (.dK ks) /\ KR K H kvs ks
 | .ins C dx fs=> ∃ks,H a=some (.ins C dx ks) /\ KR K H fs ks
 | .exc C=>H a=some (.ext (iw a C))
 | .fz o ks kvs=>H a=some (.lw o (.dK ks)) /\ KR K H kvs ks
def MR.some (h:MR K H a o): ∃u,H a=some u:=by
 cases o with
 | lst l=>let⟨_,e,_⟩:=h;show#[_,e]
 | dK l=>let⟨_,e,_⟩:=h;show#[_,e]
 | ins C d l=>let⟨_,e,_⟩:=h;show#[_,e]
 | exc C=>show#[_,h]
 | fz o l l2=>show#[_,h.1]
def MR.mv (t:a_ H H')(e:H' a=H a)(h:MR K H a o):MR K H' a o:=by
 cases o with
 | lst l=>let⟨vs,e1,r⟩:=h;show#[vs,e.trans e1,r.ts t]
 | dK l=>let⟨vs,e1,r⟩:=h;show#[vs,e.trans e1,r.ts t]
 | ins C d l=>let⟨vs,e1,r⟩:=h;show#[vs,e.trans e1,r.ts t]
 | exc C=>show e.trans h
 | fz o l l2=>show#[e.trans h.1,h.2.ts t]
def gu (K:WW)(M:Mp)(H:Hp):Prop:= ∀a o,M a=some o ->MR K H a o
def gu.fresh (h:gu K M H)(hp:H p=none):M p=none:=by
 cases e:M p with
 | none=>rfl
 | some o=>let⟨u,hu⟩:=(h p o e).some;rw[hp] at hu;cases hu
theorem gu.new (h:gu K M H)(hp:H p=none):gu K M (cR H p u):=λa o e=>by have:=h a o e;let⟨w,hw⟩:=this.some;show this.mv (L2.gm.ts (cg hp)) (bR (fC hw hp))
theorem DS (h:H a=some o)(hn: ∀xs,o≠ .tup xs)(hf: ∀b xs,o≠ .lw b (.tup xs)):a_ H (cR H a u):=λb xs r=>by
 have nb:b≠a:=λe=>by subst e;obtain r | ⟨w,r⟩:=r;rw[h] at r;cases r;show hn _ rfl;rw[h] at r;cases r;show hf _ _ rfl
 unfold Rd;rw[bR nb];show r
theorem gu.put (h:gu K M H)(t:a_ H (cR H a u))(new:MR K (cR H a u) a o):gu K (um M a o) (cR H a u):=λb x e=>by by_cases hb:b=a;subst hb;rw[am] at e;cases e;show new;rw[aR hb] at e;show(h b x e).mv t (bR hb)
theorem gu.ln (h:gu K M H)(hp:H p=none)(r:cP K H l vs):gu K (um M p (.lst l)) (cR H p (.lst vs)):=h.put (L2.gm.ts (cg hp)) #[vs,bY,r.ts (L2.gm.ts (cg hp))]
theorem iJ (h:H a=some (.lst xs)):a_ H (cR H a u):=DS h (λ_ z=>nomatch z) λ_ _ z=>nomatch z
theorem lC (h:H a=some (.dK xs)):a_ H (cR H a u):=DS h (λ_ z=>nomatch z) λ_ _ z=>nomatch z
theorem Q_ (h:H a=some (.ins C d xs)):a_ H (cR H a u):=DS h (λ_ z=>nomatch z) λ_ _ z=>nomatch z
theorem gu.putL (h:gu K M H)(e:H a=some (.lst xs))(r:cP K H l vs):gu K (um M a (.lst l)) (cR H a (.lst vs)):=h.put (iJ e) #[vs,bY,r.ts (iJ e)]
theorem gu.putD (h:gu K M H)(e:H a=some (.dK xs))(r:KR K H l vs):gu K (um M a (.dK l)) (cR H a (.dK vs)):=h.put (lC e) #[vs,bY,KR.ts (lC e) r]
def Mf (K:WW)(H:Hp)(ρ:cq)(σ:St):Prop:=ρ.length=σ.length /\ ∀ (i:Nat) x,ρ[i]? =some (some x) -> ∃v,σ[i]? =some (some v) /\ WR K H x v
theorem Mf.ts (t:a_ H H')(h:Mf K H ρ σ):Mf K H' ρ σ:=#[h.1,λi x e=>let ⟨v,a,r⟩:=h.2 i x e;#[v,a,r.ts t]]
structure Ok (K:PySem.W.Frag)(ρ:cq)(M:Mp)(σ:St)(H:Hp):Prop where
 env:Mf K H ρ σ
 hp:gu K M H
theorem Ok.mv (o:Ok K ρ M σ H)(t:a_ H H')(m:gu K M' H'):Ok K ρ M' σ H':=#[o.env.ts t,m]
def Mf.set (h:Mf K H ρ σ)(i:Nat)(r:WR K H x v):Mf K H (ρ.set i (some x)) (σ.set i (some v)):=by exact#[by simp[h.1],λj y e=> ?_];rw[List.getElem?_set] at e ⊢;split at e;rename_i hj;rw[ao hj];split at e;rename_i no;rw[ao (by rw[<- h.1];show no)];cases e;show#[v,rfl,r];cases e;rename_i hj;rw[ak hj];show h.2 j y e
section
variable (K:WW)
class IE (t:TE) (w:outParam WE):Prop where
 imp: ∀ (ρ:cq) (M:Mp) (σ:St) (H:Hp) (q:WK) (Q:VK),Ok K ρ M σ H ->w ρ M q ->(∀x M' v H',q x M' ->a_ H H' ->gu K M' H' ->WR K H' x v ->Q v H') ->t σ H Q
class IT (t:TT) (w:outParam WT):Prop where
 imp: ∀ (ρ:cq) (M:Mp) (σ:St) (H:Hp) (q:Bool ->Mp ->Prop) (Q:Bool ->Hp ->Prop),Ok K ρ M σ H ->w ρ M q ->(∀b M' H',q b M' ->a_ H H' ->gu K M' H' ->Q b H') ->t σ H Q
class IA (t:TA) (w:outParam WA):Prop where
 imp: ∀ (ρ:cq) (M:Mp) (σ:St) (H:Hp) (q:List W ->Mp ->Prop) (Q:List V ->Hp ->Prop),Ok K ρ M σ H ->w ρ M q ->(∀x M' v H',q x M' ->a_ H H' ->gu K M' H' ->cP K H' x v ->Q v H') ->t σ H Q
class IG (t:TG) (w:outParam WG):Prop where
 imp: ∀ (x:W) (v:V) (ρ:cq) (M:Mp) (σ:St) (H:Hp) (q:cq ->Mp ->Prop) (Q:St ->Hp ->Prop),Ok K ρ M σ H ->WR K H x v ->w x ρ M q ->(∀ρ' M' σ' H',q ρ' M' ->a_ H H' ->Ok K ρ' M' σ' H' ->Q σ' H') ->t v σ H Q
class ZV (t:Mg) (w:outParam OD):Prop where
 imp: ∀ (x:List W) (v:List V) (ρ:cq) (M:Mp) (σ:St) (H:Hp) (q:cq ->Mp ->Prop) (Q:St ->Hp ->Prop),Ok K ρ M σ H ->cP K H x v ->w x ρ M q ->(∀ρ' M' σ' H',q ρ' M' ->a_ H H' ->Ok K ρ' M' σ' H' ->Q σ' H') ->t v σ H Q
structure mS (H:Hp)(D':fI)(D:wv):Prop where
 nx: ∀ρ' M' σ' H',D'.nx ρ' M' ->a_ H H' ->Ok K ρ' M' σ' H' ->D.nx σ' H'
 rt: ∀x M' v H',D'.rt x M' ->a_ H H' ->gu K M' H' ->WR K H' x v ->D.rt v H'
 bk: ∀ρ' M' σ' H',D'.bk ρ' M' ->a_ H H' ->Ok K ρ' M' σ' H' ->D.bk σ' H'
 ct: ∀ρ' M' σ' H',D'.ct ρ' M' ->a_ H H' ->Ok K ρ' M' σ' H' ->D.ct σ' H'
class IS (t:TS) (w:outParam WS):Prop where
 imp: ∀ (ρ:cq) (M:Mp) (σ:St) (H:Hp) (D':fI) (D:wv),Ok K ρ M σ H ->w D' ρ M ->mS K H D' D ->t D σ H
class IR (r:R2) (w:outParam qu):Prop where
 imp: ∀ (x y:W) (v u:V) (M:Mp) (H:Hp) (q:WK) (Q:VK),gu K M H ->WR K H x v ->WR K H y u ->w x y M q ->(∀x M' v H',q x M' ->a_ H H' ->gu K M' H' ->WR K H' x v ->Q v H') ->r v u H Q
class IU (r:V ->Hp ->VK ->Prop) (w:outParam (W ->Mp ->WK ->Prop)):Prop where
 imp: ∀ (x:W) (v:V) (M:Mp) (H:Hp) (q:WK) (Q:VK),gu K M H ->WR K H x v ->w x M q ->(∀x M' v H',q x M' ->a_ H H' ->gu K M' H' ->WR K H' x v ->Q v H') ->r v H Q
class IC (r:List V ->Hp ->VK ->Prop) (w:outParam zK):Prop where
 imp: ∀ (x:List W) (v:List V) (M:Mp) (H:Hp) (q:WK) (Q:VK),gu K M H ->cP K H x v ->w x M q ->(∀x M' v H',q x M' ->a_ H H' ->gu K M' H' ->WR K H' x v ->Q v H') ->r v H Q
end
theorem mS.mv (e:mS K H D' D)(t:a_ H H'):mS K H' D' D:=#[λa b c d h s=>e.nx a b c d h (t.trans s),λa b c d h s=>e.rt a b c d h (t.trans s),λa b c d h s=>e.bk a b c d h (t.trans s),λa b c d h s=>e.ct a b c d h (t.trans s)]
end WL
namespace WL
open PySem L2
section
variable {K:WW}
def fK (i:Nat):WE:=λρ M q=>match ρ[i]? with
 | some (some x)=>q x M
 | _=>False
def HH (h:fK i ρ M q): ∃x,ρ[i]? =some (some x) /\ q x M:=by unfold fK at h;split at h;rename_i x e;show#[x,e,h];show h.elim
instance {i:Nat}:IE K (MA i) (fK i) where
 imp:=λρ M σ H q Q o h k=>let ⟨x,e,h⟩:=HH h;let ⟨v,e',r⟩:=o.env.2 i x e;#[v,e',k x M v H h (a_.refl H) o.hp r]
def wC (x:W):WE:=λ_ M q=>q x M
instance {v:V}:IE K (tC v) (wC (.v v)) where
 imp:=λρ M σ H q Q o h k=>k (.v v) M v H h (a_.refl H) o.hp WR.v
def LM (r:qu)(a b:WE):WE:=λρ M q=>a ρ M λx M1=>b ρ M1 λy M2=>r x y M2 q
instance {r:R2}{w:qu}{ta tb:TE}{a b:WE} [ir:IR K r w] [ia:IE K ta a] [ib:IE K tb b]:IE K (Vt r ta tb) (LM w a b) where
 imp:=λρ M σ H q Q o h k=>ia.imp ρ M σ H _ _ o h λx M1 v H1 h1 t1 m1 r1=>ib.imp ρ M1 σ H1 _ _ (o.mv t1 m1) h1 λy M2 u H2 h2 t2 m2 r2=>ir.imp x y v u M2 H2 _ _ m2 (r1.ts t2) r2 h2 λz M3 v3 H3 h3 t3 m3 r3=>k z M3 v3 H3 h3 ((t1.trans t2).trans t3) m3 r3
def _c (r:W ->Mp ->WK ->Prop)(a:WE):WE:=λρ M q=>a ρ M λx M1=>r x M1 q
instance {r:V ->Hp ->VK ->Prop}{w:W ->Mp ->WK ->Prop}{ta:TE}{a:WE} [ir:IU K r w] [ia:IE K ta a]:IE K (tUn r ta) (_c w a) where
 imp:=λρ M σ H q Q o h k=>ia.imp ρ M σ H _ _ o h λx M1 v H1 h1 t1 m1 r1=>ir.imp x v M1 H1 _ _ m1 r1 h1 λz M3 v3 H3 h3 t3 m3 r3=>k z M3 v3 H3 h3 (t1.trans t3) m3 r3
def wI (C:Int ->Int ->Prop)(g:Int ->Int ->V):qu:=λx y M q=> ∃i j,x=wi i /\ y=wi j /\ C i j /\ q (.v (g i j)) M
def _D (g:Int ->Int ->V):qu:=λx y M q=>cx λi j=>c8 (x=wi i) (y=wi j) (q (.v (g i j)) M)
def wU (g:Int ->V):W ->Mp ->WK ->Prop:=λx M q=> ∃i,x=wi i /\ q (.v (g i)) M
instance {C:Int ->Int ->Prop}{g:Int ->Int ->V}:IR K (rI C g) (wI C g) where
 imp:=by rintro x y v u M H q Q m r1 r2 ⟨i,j,rfl,rfl,c,h⟩ k;show#[i,j,r1.eq,r2.eq,c,k _ M _ H h (a_.refl H) m WR.v]
instance {g:Int ->Int ->V}:IR K (MN g) (_D g) where
 imp:=by rintro x y v u M H q Q m r1 r2 ⟨i,j,rfl,rfl,h⟩ k;show#[i,j,r1.eq,r2.eq,k _ M _ H h (a_.refl H) m WR.v]
instance {g:Int ->V}:IU K (rU g) (wU g) where
 imp:=by rintro x v M H q Q m r1 ⟨i,rfl,h⟩ k;show#[i,r1.eq,k _ M _ H h (a_.refl H) m WR.v]
def T_:qu:=λx y M q=>cx λa b=>fA (x= .v a) (y= .v b) (ME a b=true) (q (wb (decide (a=b))) M)
def _p:qu:=λx y M q=>cx λa b=>fA (x= .v a) (y= .v b) (ME a b=true) (q (wb (!decide (a=b))) M)
instance:IR K rEq T_ where
 imp:=by rintro x y v u M H q Q m r1 r2 ⟨i,j,rfl,rfl,c,h⟩ k;cases r1.eq;cases r2.eq;show#[c,k _ M _ H h (a_.refl H) m WR.v]
instance:IR K rNe _p where
 imp:=by rintro x y v u M H q Q m r1 r2 ⟨i,j,rfl,rfl,c,h⟩ k;cases r1.eq;cases r2.eq;show#[c,k _ M _ H h (a_.refl H) m WR.v]
def xh (a:WE):WT:=λρ M q=>a ρ M λx M1=> ∃k,x=wb k /\ q k M1
instance {t:TE}{a:WE} [ia:IE K t a]:IT K (Ij t) (xh a) where
 imp:=λρ M σ H q Q o h k=>ia.imp ρ M σ H _ _ o h λx M1 v H1 ⟨b,e,h1⟩ t1 m1 r1=>by subst e;show#[b,r1.eq,k b M1 H1 h1 t1 m1]
instance {t:TE}{a:WE} [ia:IE K t a]:IT K (tB t) (xh a) where
 imp:=λρ M σ H q Q o h k=>ia.imp ρ M σ H _ _ o h λx M1 v H1 ⟨b,e,h1⟩ t1 m1 r1=>by subst e;show#[b,r1.eq,k b M1 H1 h1 t1 m1]
def Q0 (a b:WT):WT:=λρ M q=>a ρ M λc M1=>if c=true then b ρ M1 q else q false M1
def _l (a b:WT):WT:=λρ M q=>a ρ M λc M1=>if c=true then q true M1 else b ρ M1 q
def QJ (a:WT):WT:=λρ M q=>a ρ M λc M1=>q (!c) M1
instance {t u:TT}{a b:WT} [ia:IT K t a] [ib:IT K u b]:IT K (VD t u) (Q0 a b) where
 imp:=λρ M σ H q Q o h k=>ia.imp ρ M σ H _ _ o h λc M1 H1 h1 t1 m1=>by
  cases c with
  | true=>simp![ce] at h1 ⊢;show ib.imp ρ M1 σ H1 _ _ (o.mv t1 m1) h1 λb M2 H2 h2 t2 m2=>k b M2 H2 h2 (t1.trans t2) m2
  | false=>simp![aD,bH] at h1 ⊢;show k _ M1 H1 h1 t1 m1
instance {t u:TT}{a b:WT} [ia:IT K t a] [ib:IT K u b]:IT K (tOr t u) (_l a b) where
 imp:=λρ M σ H q Q o h k=>ia.imp ρ M σ H _ _ o h λc M1 H1 h1 t1 m1=>by
  cases c with
  | false=>simp![aD,bH] at h1 ⊢;show ib.imp ρ M1 σ H1 _ _ (o.mv t1 m1) h1 λb M2 H2 h2 t2 m2=>k b M2 H2 h2 (t1.trans t2) m2
  | true=>simp![ce] at h1 ⊢;show k _ M1 H1 h1 t1 m1
instance {t:TT}{a:WT} [ia:IT K t a]:IT K (Vu t) (QJ a) where
 imp:=λρ M σ H q Q o h k=>ia.imp ρ M σ H _ _ o h λc M1 H1 h1 t1 m1=>k _ M1 H1 h1 t1 m1
def O4 (a b:WE):WE:=λρ M q=>a ρ M λx M1=> ∃c,x=wb c /\ if c=true then b ρ M1 q else q (wb false) M1
def UY (a b:WE):WE:=λρ M q=>a ρ M λx M1=> ∃c,x=wb c /\ if c=true then q (wb true) M1 else b ρ M1 q
def O0 (a:WE):WE:=λρ M q=>a ρ M λx M1=> ∃c,x=wb c /\ q (wb (!c)) M1
instance {t u:TE}{a b:WE} [ia:IE K t a] [ib:IE K u b]:IE K (Pf t u) (O4 a b) where
 imp:=λρ M σ H q Q o h k=>ia.imp ρ M σ H _ _ o h λx M1 v H1 ⟨c,e,h1⟩ t1 m1 r1=>by
  subst e;exact#[c,r1.eq,?_];cases c with
  | true=>simp![ce] at h1 ⊢;show ib.imp ρ M1 σ H1 _ _ (o.mv t1 m1) h1 λb M2 v H2 h2 t2 m2 r2=>k b M2 v H2 h2 (t1.trans t2) m2 r2
  | false=>simp![aD,bH] at h1 ⊢;show k _ M1 _ H1 h1 t1 m1 WR.v
instance {t u:TE}{a b:WE} [ia:IE K t a] [ib:IE K u b]:IE K (Vs t u) (UY a b) where
 imp:=λρ M σ H q Q o h k=>ia.imp ρ M σ H _ _ o h λx M1 v H1 ⟨c,e,h1⟩ t1 m1 r1=>by
  subst e;exact#[c,r1.eq,?_];cases c with
  | false=>simp![aD,bH] at h1 ⊢;show ib.imp ρ M1 σ H1 _ _ (o.mv t1 m1) h1 λb M2 v H2 h2 t2 m2 r2=>k b M2 v H2 h2 (t1.trans t2) m2 r2
  | true=>simp![ce] at h1 ⊢;show k _ M1 _ H1 h1 t1 m1 WR.v
instance {t:TE}{a:WE} [ia:IE K t a]:IE K (Pb t) (O0 a) where
 imp:=λρ M σ H q Q o h k=>ia.imp ρ M σ H _ _ o h λx M1 v H1 ⟨c,e,h1⟩ t1 m1 r1=>by subst e;show#[c,r1.eq,k _ M1 _ H1 h1 t1 m1 WR.v]
def HX (r r':qu)(a b c:WE):WE:=λρ M q=>a ρ M λx M1=>b ρ M1 λy M2=>r x y M2 λz M3=> ∃k,z=wb k /\ if k=true then c ρ M3 λy' M4=>r' y y' M4 λz' M5=>q z' M5 else q (wb false) M3
def U0:WA:=λ_ M q=>q [] M
def HS (a:WE)(r:WA):WA:=λρ M q=>a ρ M λx M1=>r ρ M1 λxs M2=>q (x::xs) M2
instance:IA K FX U0 where
 imp:=λρ M σ H q Q o h k=>k [] M [] H h (a_.refl H) o.hp cP.nil
instance {t:TE}{u:TA}{a:WE}{b:WA} [ia:IE K t a] [ib:IA K u b]:IA K (Is t u) (HS a b) where
 imp:=λρ M σ H q Q o h k=>ia.imp ρ M σ H _ _ o h λx M1 v H1 h1 t1 m1 r1=>ib.imp ρ M1 σ H1 _ _ (o.mv t1 m1) h1 λy M2 u H2 h2 t2 m2 r2=>k _ M2 _ H2 h2 (t1.trans t2) m2 (cP.cons (r1.ts t2) r2)
def QI (a:WA):WE:=λρ M q=>a ρ M λxs M1=>xs.length<=sizeLine /\ q (.tup xs) M1
def QL (a:WA):WE:=λρ M q=>a ρ M λxs M1=>xs.length<=sizeLine /\ ∀p,M1 p=none ->q (wr p) (um M1 p (.lst xs))
instance {t:TA}{a:WA} [ia:IA K t a]:IE K (Vp t) (QI a) where
 imp:=λρ M σ H q Q o h k=>ia.imp ρ M σ H _ _ o h λx M1 v H1 ⟨hl,h1⟩ t1 m1 r1=>#[by rw[r1.length];show hl,λp hp=>k _ M1 _ _ h1 (t1.trans (L2.gm.ts (cg hp))) (m1.new hp) (WR.Sh (lm.of bY) (r1.ts (L2.gm.ts (cg hp))))]
instance {t:TA}{a:WA} [ia:IA K t a]:IE K (Vv t) (QL a) where
 imp:=λρ M σ H q Q o h k=>ia.imp ρ M σ H _ _ o h λx M1 v H1 ⟨hl,h1⟩ t1 m1 r1=>#[by rw[r1.length];show hl,λp hp=>k _ _ _ _ (h1 p (m1.fresh hp)) (t1.trans (L2.gm.ts (cg hp))) (m1.ln hp r1) WR.v]
def QR:qu:=λx y M q=>gc λa l i u=>gy (x=wr a) (y=wi i) (M a=some (.lst l)) (gY l i=some u) (q u M)
def FO:qu:=λx y M q=>eZ λl i u=>fA (x= .tup l) (y=wi i) (gY l i=some u) (q u M)
def cP.gY (r:cP K H l vs)(e:gY l i=some u): ∃v,L2.gY vs i=some v /\ WR K H u v:=by
 unfold L2.gY at e ⊢;rw[r.length];cases h:A3 l.length i with
 | none=>rw[h] at e;cases e
 | some j=>rw[h] at e;show r.at e
instance:IR K (ju K) QR where
 imp:=by rintro x y v u M H q Q m r1 r2 ⟨a,l,i,z,rfl,rfl,hl,e,h⟩ k;let⟨vs,hv,r⟩:=m a _ hl;let⟨v',e',r'⟩:=r.gY e;show#[a,vs,i,v',r1.eq,r2.eq,ij.of hv,e',k _ M _ H h (a_.refl H) m r']
instance:IR K (bq K) FO where
 imp:=by rintro x y v u M H q Q m r1 r2 ⟨l,i,z,rfl,rfl,e,h⟩ k;let⟨a,vs,rfl,hv,r⟩:=r1.tup;let⟨v',e',r'⟩:=r.gY e;show#[a,vs,i,v',rfl,r2.eq,hv,e',k _ M _ H h (a_.refl H) m r']
def Dj (xs:cH W)(lo hi:fj Int):cH W:=(xs.drop (HT.uj xs.length 0 lo)).take (HT.uj xs.length xs.length hi - HT.uj xs.length 0 lo)
def cP.cut (lo hi:fj Int)(r:cP K H l vs):cP K H (Dj l lo hi) (BB vs lo hi):=by unfold Dj BB;rw[r.length];show(r.drop _).take _
end
abbrev WO:=cq ->Mp ->(fj Int ->Mp ->Prop) ->Prop
class IO (K:PySem.W.Frag) (t:TO) (w:outParam WO):Prop where
 imp: ∀ (ρ:cq) (M:Mp) (σ:St) (H:Hp) (q:Option Int ->Mp ->Prop) (Q:Option Int ->Hp ->Prop),Ok K ρ M σ H ->w ρ M q ->(∀b M' H',q b M' ->a_ H H' ->gu K M' H' ->Q b H') ->t σ H Q
abbrev Hd:=W ->fj Int ->fj Int ->Mp ->WK ->Prop
class ISl (K:PySem.W.Frag) (r:V ->Option Int ->Option Int ->Hp ->VK ->Prop) (w:outParam Hd):Prop where
 imp: ∀ (x:W) (v:V) (lo hi:Option Int) (M:Mp) (H:Hp) (q:WK) (Q:VK),gu K M H ->WR K H x v ->w x lo hi M q ->(∀x M' v H',q x M' ->a_ H H' ->gu K M' H' ->WR K H' x v ->Q v H') ->r v lo hi H Q
section
variable {K:WW}
def DN:WO:=λ_ M q=>q none M
def HL (a:WE):WO:=λρ M q=>a ρ M λx M1=> ∃i,x=wi i /\ q (some i) M1
instance:IO K DX DN where
 imp:=λρ M σ H q Q o h k=>k _ M H h (a_.refl H) o.hp
instance {t:TE}{a:WE} [ia:IE K t a]:IO K (Pa t) (HL a) where
 imp:=λρ M σ H q Q o h k=>ia.imp ρ M σ H _ _ o h λx M1 v H1 ⟨i,e,h1⟩ t1 m1 r1=>by subst e;show#[i,r1.eq,k _ M1 H1 h1 t1 m1]
def _i (r:Hd)(a:WE)(lo hi:WO):WE:=λρ M q=>a ρ M λx M1=>lo ρ M1 λl M2=>hi ρ M2 λu M3=>r x l u M3 q
instance {r:V ->fj Int ->fj Int ->Hp ->VK ->Prop}{w:Hd}{t:TE}{tl th:TO}{a:WE}{lo hi:WO} [ir:ISl K r w] [ia:IE K t a] [il:IO K tl lo] [ih:IO K th hi]:IE K (tSl r t tl th) (_i w a lo hi) where
 imp:=λρ M σ H q Q o h k=>ia.imp ρ M σ H _ _ o h λx M1 v H1 h1 t1 m1 r1=>il.imp ρ M1 σ H1 _ _ (o.mv t1 m1) h1 λl M2 H2 h2 t2 m2=>ih.imp ρ M2 σ H2 _ _ (o.mv (t1.trans t2) m2) h2 λu M3 H3 h3 t3 m3=>ir.imp x v l u M3 H3 _ _ m3 (r1.ts (t2.trans t3)) h3 λy M4 v4 H4 h4 t4 m4 r4=>k y M4 v4 H4 h4 (((t1.trans t2).trans t3).trans t4) m4 r4
def UU:Hd:=λx lo hi M q=>cx λa l=>c8 (x=wr a) (M a=some (.lst l)) (∀p,M p=none ->q (wr p) (um M p (.lst (Dj l lo hi))))
instance:ISl K (VS K) UU where
 imp:=by rintro x v lo hi M H q Q m r1 ⟨a,l,rfl,hl,h⟩ k;let⟨vs,hv,r⟩:=m a _ hl;show#[a,vs,r1.eq,ij.of hv,λp hp=>k _ _ _ _ (h p (m.fresh hp)) (L2.gm.ts (cg hp)) (m.ln hp (r.cut lo hi)) WR.v]
def _J (r:zK)(a:WA):WE:=λρ M q=>a ρ M λxs M1=>r xs M1 q
instance {r:cH V ->Hp ->VK ->Prop}{w:zK}{t:TA}{a:WA} [ir:IC K r w] [ia:IA K t a]:IE K (_Y r t) (_J w a) where
 imp:=λρ M σ H q Q o h k=>ia.imp ρ M σ H _ _ o h λx M1 v H1 h1 t1 m1 r1=>ir.imp x v M1 H1 _ _ m1 r1 h1 λy M4 v4 H4 h4 t4 m4 r4=>k y M4 v4 H4 h4 (t1.trans t4) m4 r4
abbrev fq:=cH W ->Mp ->WK ->Prop
def fS (K:WW)(p:fq):Sp:=λvs H Q _=>eZ λ(xs:cH W) (M:Mp) (q:WK)=>fA (cP K H xs vs) (gu K M H) (p xs M q) (∀x M' v H',q x M' ->a_ H H' ->gu K M' H' ->WR K H' x v ->Q v H')
def HY (p:fq)(a:WA):WE:=λρ M q=>a ρ M λxs M1=>p xs M1 q
instance {p:fq}{E:XK}{t:TA}{a:WA} [ia:IA K t a]:IE K (xo (fS K p) [] E t) (HY p a) where
 imp:=λρ M σ H q Q o h k=>ia.imp ρ M σ H _ _ o h λx M1 v H1 h1 t1 m1 r1=>#[x,M1,q,by rw[dQ];show r1,m1,h1,λy M4 v4 H4 h4 t4 m4 r4=>k y M4 v4 H4 h4 (t1.trans t4) m4 r4]
def okW (F:BR K x qual st f fd)(S:cw N ps (aU st))(len: ∀vs M q,p vs M q ->vs.length=ps.length)(jV: ∀ (cdv:df) (A:Around) (outer:cH Env) (s:dG) (H:Hp) (E:XK),e7 k (A.deeper (PyProof.Rows.envOfC qual (aU st) s.heap.objs.size f cdv)) ->cx λt w'=>c8 (zY (eQ fw P w K mg base N qual (aU st) f cdv A outer s H E).LR (dS st) t) (IS K t w') (∀vs M q,p vs M q ->w' {nx:=λ_ M'=>q wn M',rt:=q} (vs.map some++List.replicate (N.length - vs.length) none) M)): bI P w K mg base fw (k+1) f fd ps (fS K p):=by
 exact BR.ok F S (λvs H Q E ⟨xs,M,q,r,m,h,_⟩=>by rw[r.length];show len xs M q h) λcdv A outer s H vs Q E hr h=> ?_;let⟨t,w',h1,h2,h3⟩:=jV cdv A outer s H E hr;let⟨xs,M,q,r,m,h,k'⟩:=h;exact#[t,h1,h2.imp _ M _ H _ _ #[#[?_,λi x e=> ?_],m] (h3 xs M q h) #[λρ' M' σ' H' h ts o=>k' _ M' _ H' h ts o.hp WR.v,λx M' v H' h ts m' r'=>k' x M' v H' h ts m' r',λ_ _ _ _ h=>h.elim,λ_ _ _ _ h=>h.elim]];have:=r.length;simp[L2.start,this];have hl:=r.length;unfold L2.start;by_cases hi:i<xs.length;rw[bu ⇑hi,aK] at e;cases ex:xs[i]? with
 | none=>rw[ex] at e;cases e
 | some y=>rw[ex] at e;cases e;let⟨v,hv,rv⟩:=r.at ex;exact#[v,?_,rv];rw[bu (by simp;lia),aK,hv];rfl
 rw[bi ⇑hi,dt] at e;split at e<;>cases e
def RB (K:WW):cH V ->Hp ->VK ->Prop:=λxs H Q=>cx λp ys=>c8 (xs= [.ref p]) (ij K H p ys \/ lm K H p ys) (Q (.int ys.length) H)
theorem G7:fJ X (.builtin "len") (RB X.K):=zF
def Mn:zK:=λxs M q=>(cx λa l=>c8 (xs= [wr a]) (M a=some (.lst l)) (q (wi l.length) M)) \/ ∃l,xs= [.tup l] /\ q (wi l.length) M
def cP.one (h:cP K H [x] vs): ∃v,vs= [v] /\ WR K H x v:=by simp![cP] at h;let⟨v,t,rfl,h1,rfl⟩:=h;show#[v,rfl,h1]
def cP.two (h:cP K H [x,y] vs):cx λv u=>c8 (vs= [v,u]) (WR K H x v) (WR K H y u):=by simp![cP] at h;let⟨v,t,rfl,h1,u,t',rfl,h2,rfl⟩:=h;show#[v,u,rfl,h1,h2]
instance:IC K (RB K) Mn where
 imp :=by
  rintro xs v M H q Q m r1 h k;rcases h with⟨a,l,rfl,hl,h⟩ | ⟨l,rfl,h⟩
  let⟨v,rfl,r⟩:=r1.one;cases r.eq;let⟨vs,hv,rr⟩:=m a _ hl;exact#[a,vs,rfl, .inl (ij.of hv),k _ M _ H h (a_.refl H) m ?_];rw[rr.length];show WR.v;let⟨v,rfl,r⟩:=r1.one;let⟨a,vs,rfl,hv,rr⟩:=r.tup;exact#[a,vs,rfl, .inr hv,k _ M _ H h (a_.refl H) m ?_];rw[rr.length];show WR.v
def V1:cH V ->Hp ->VK ->Prop:=λxs H Q=> ∃i,xs= [.int i] /\ Q (.int (if i<0 then -i else i)) H
theorem f7:fJ X (.builtin "abs") V1:=K'
def Vd:zK:=λxs M q=> ∃i,xs= [wi i] /\ q (wi (if i<0 then -i else i)) M
instance:IC K V1 Vd where
 imp:=by rintro xs v M H q Q m r1 ⟨i,rfl,h⟩ k;let⟨v,rfl,r⟩:=r1.one;cases r.eq;show#[i,rfl,k _ M _ H h (a_.refl H) m WR.v]
def Ep (K:WW):cH V ->Hp ->VK ->Prop:=λxs H Q=>cx λp ys=>c8 (xs= [.ref p]) (ij K H p ys \/ lm K H p ys) (∀l,H l=none ->Q (.ref l) (cR H l (.lst ys)))
theorem fb:fJ X (.type "list") (Ep X.K):=zD
def oE:zK:=λxs M q=> ∃l,((∃a,xs= [wr a] /\ M a=some (.lst l)) \/ xs= [.tup l]) /\ ∀p,M p=none ->q (wr p) (um M p (.lst l))
instance:IC K (Ep K) oE where
 imp :=by
  rintro xs v M H q Q m r1 ⟨l,hx,h⟩ k;rcases hx with⟨a,rfl,hl⟩ | rfl
  let⟨v,rfl,r⟩:=r1.one;cases r.eq;let⟨vs,hv,rr⟩:=m a _ hl;show#[a,vs,rfl, .inl (ij.of hv),λp hp=>k _ _ _ _ (h p (m.fresh hp)) (L2.gm.ts (cg hp)) (m.ln hp rr) WR.v];let⟨v,rfl,r⟩:=r1.one;let⟨a,vs,rfl,hv,rr⟩:=r.tup;show#[a,vs,rfl, .inr hv,λp hp=>k _ _ _ _ (h p (m.fresh hp)) (L2.gm.ts (cg hp)) (m.ln hp rr) WR.v]
def Az (K:WW):cH V ->Hp ->VK ->Prop:=λxs H Q=>cx λp ys=>xs= [.ref p] /\ ((ij K H p ys /\ ∀l,H l=none ->Q (.ref l) (cR H l (.tup ys))) \/ (lm K H p ys /\ Q (.ref p) H))
theorem gT:fJ X (.type "tuple") (Az X.K):=wV
def uF:zK:=λxs M q=> ∃l,((∃a,xs= [wr a] /\ M a=some (.lst l)) \/ xs= [.tup l]) /\ q (.tup l) M
instance:IC K (Az K) uF where
 imp :=by
  rintro xs v M H q Q m r1 ⟨l,hx,h⟩ k;rcases hx with⟨a,rfl,hl⟩ | rfl
  let⟨v,rfl,r⟩:=r1.one;cases r.eq;let⟨vs,hv,rr⟩:=m a _ hl;show#[a,vs,rfl, .inl #[ij.of hv,λp hp=>k _ M _ _ h (L2.gm.ts (cg hp)) (m.new hp) (WR.Sh (lm.of bY) (rr.ts (L2.gm.ts (cg hp))))]];let⟨v,rfl,r⟩:=r1.one;let⟨a,vs,rfl,hv,rr⟩:=r.tup;show#[a,vs,rfl, .inr #[hv,k _ M _ H h (a_.refl H) m (WR.Sh hv rr)]]
theorem cP.ofInts {H:Hp}: ∀ (ns:cH Int),cP K H (ns.map wi) (ns.map V.int)
 | []=>cP.nil
 | n::r=>cP.cons WR.v (cP.ofInts r)
def YV (M:Mp):W ->fj df
 | .v (.int _)=>some (.type "int")
 | .v (.bl _)=>some (.type "bool")
 | .v (.str _)=>some (.type "str")
 | .v .ez=>some (.type "NoneType")
 | .tup _=>some (.type "tuple")
 | .v (.ref a)=>match M a with
  | some (.lst _)=>some (.type "list")
  | _=>none
 | _=>none
def U3 (K:WW):zK:=λxs M q=>gc λx T t b=>fA (xs= [x, .v (.ty T)]) (YV M x=some t) (W.kitOne K t (.type T)=some b) (q (wb b) M)
def Q4 (m:gu K M H)(r:WR K H x v)(e:YV M x=some t):X6 K H v t:=by
 cases x with
 | tup l=>let⟨a,vs,rfl,hv,rr⟩:=r.tup;cases e;show .tup hv
 | v y =>
  cases r.eq;cases v with
  | int i=>cases e;show .of (.int i)
  | bl i=>cases e;show .of (.bl i)
  | str i=>cases e;show .of (.str i)
  | ez=>cases e;show .of .ez
  | ref a=>
   simp![YV] at e;cases ha:M a with
   | none=>rw[ha] at e;cases e
   | some o=>
    rw[ha] at e;cases o with
    | lst l=>cases e;let⟨vs,hv,_⟩:=m a _ ha;show .lst (ij.of hv)
    | dK l=>cases e
    | ins C d l=>cases e
    | exc C=>cases e
    | fz o l l2=>cases e
  | Dm _=>cases e
  | Oa _=>cases e
  | ty _=>cases e
instance:IC K (RC K) (U3 K) where
 imp:=by rintro xs v M H q Q m r1 ⟨x,T,t,b,rfl,ht,e,h⟩ k;let⟨v,u,rfl,r,r'⟩:=r1.two;cases r'.eq;show#[v,T,t,b,rfl,Q4 m r ht,e,k _ M _ H h (a_.refl H) m WR.v]
end
section
variable {K:WW}
abbrev WM:=W ->cH W ->Mp ->WK ->Prop
class IM (K:PySem.W.Frag) (r:V ->List V ->Hp ->VK ->Prop) (w:outParam WM):Prop where
 imp: ∀ (x:W) (v:V) (ys:List W) (us:List V) (M:Mp) (H:Hp) (q:WK) (Q:VK),gu K M H ->WR K H x v ->cP K H ys us ->w x ys M q ->(∀x M' v H',q x M' ->a_ H H' ->gu K M' H' ->WR K H' x v ->Q v H') ->r v us H Q
def IsL (M:Mp)(x:W):Prop:=cx λa l=>x=wr a /\ M a=some (.lst l)
def IsL.ty (m:gu K M H)(r:WR K H x v)(h:IsL M x):YW K "list" v H:=by let⟨a,l,rfl,hl⟩:=h;cases r.eq;let⟨vs,hv,_⟩:=m a _ hl;show .inl #[rfl,vs,ij.of hv]
def YQ (r:WM)(a:WE)(b:WA):WE:=λρ M q=>a ρ M λx M1=>IsL M1 x /\ b ρ M1 λxs M2=>r x xs M2 q
def Mt (r:WM)(a:WE):WE:=λρ M q=>a ρ M λx M1=>IsL M1 x /\ r x [] M1 q
instance {r:V ->cH V ->Hp ->VK ->Prop}{w:WM}{t:TE}{u:TA}{a:WE}{b:WA} [ir:IM K r w] [ia:IE K t a] [ib:IA K u b]:IE K (YZ K "list" r t u) (YQ w a b) where
 imp:=λρ M σ H q Q o h k=>ia.imp ρ M σ H _ _ o h λx M1 v H1 ⟨hl,h1⟩ t1 m1 r1=>#[hl.ty m1 r1,ib.imp ρ M1 σ H1 _ _ (o.mv t1 m1) h1 λy M2 u H2 h2 t2 m2 r2=>ir.imp x v y u M2 H2 _ _ m2 (r1.ts t2) r2 h2 λz M3 v3 H3 h3 t3 m3 r3=>k z M3 v3 H3 h3 ((t1.trans t2).trans t3) m3 r3]
instance {r:V ->cH V ->Hp ->VK ->Prop}{w:WM}{t:TE}{a:WE} [ir:IM K r w] [ia:IE K t a]:IE K (VB K "list" r t) (Mt w a) where
 imp:=λρ M σ H q Q o h k=>ia.imp ρ M σ H _ _ o h λx M1 v H1 ⟨hl,h1⟩ t1 m1 r1=>#[hl.ty m1 r1,ir.imp x v [] [] M1 H1 _ _ m1 r1 cP.nil h1 λz M3 v3 H3 h3 t3 m3 r3=>k z M3 v3 H3 h3 (t1.trans t3) m3 r3]
def yB:WM:=λx ys M q=>eZ λa l y=>gy (x=wr a) (ys= [y]) (M a=some (.lst l)) (l.length<sizeLine) (q wn (um M a (.lst (l++ [y]))))
instance:IM K Et yB where
 imp:=by rintro x v ys us M H q Q m r1 r2 ⟨a,l,y,rfl,rfl,hl,hn,h⟩ k;cases r1.eq;let⟨u,rfl,r⟩:=r2.one;let⟨vs,hv,rr⟩:=m a _ hl;show#[a,vs,u,rfl,rfl,hv,by rw[rr.length];show hn,k _ _ _ _ h (iJ hv) (m.putL hv (rr.snoc r)) WR.v]
def yA:WM:=λx ys M q=>gc λa b l l'=>lz (x=wr a) (ys= [wr b]) (M a=some (.lst l)) (M b=some (.lst l')) (l.length+l'.length<=sizeLine) (q wn (um M a (.lst (l++l'))))
instance:IM K Es yA where
 imp:=by rintro x v ys us M H q Q m r1 r2 ⟨a,b,l,l',rfl,rfl,hl,sr,hn,h⟩ k;cases r1.eq;let⟨u,rfl,r⟩:=r2.one;cases r.eq;let⟨vs,hv,rr⟩:=m a _ hl;let⟨Q1,NR,Pn⟩:=m b _ sr;show#[a,b,vs,Q1,rfl,rfl,hv,NR,by rw[rr.length,Pn.length];show hn,k _ _ _ _ h (iJ hv) (m.putL hv (rr.append Pn)) WR.v]
def _j:WM:=λx ys M q=>eZ λa l y=>fA (x=wr a) (ys= []) (M a=some (.lst (l++ [y]))) (q y (um M a (.lst l)))
instance:IM K VT _j where
 imp:=by rintro x v ys us M H q Q m r1 r2 ⟨a,l,y,rfl,rfl,hl,h⟩ k;cases r1.eq;simp![cP] at r2;let⟨vs,hv,rr⟩:=m a _ hl;have dR:=rr.length;rw[aE,List.length_singleton] at dR;let⟨u,hu,r⟩:=rr.at (j:=l.length) (d:=y) (by simp);exact#[a,vs,u,rfl,r2,hv,by rw[dR];simpa using hu,k _ _ _ _ h (iJ hv) (m.putL hv (l:=l) ?_) (r.ts (iJ hv))];have:=rr.take l.length;rw[List.take_left' rfl] at this;rw[List.dropLast_eq_take,dR];show this
def QX:qu:=λx y M q=>gc λa b l l'=>lz (x=wr a) (y=wr b) (M a=some (.lst l)) (M b=some (.lst l')) (l.length+l'.length<=sizeLine) (∀p,M p=none ->q (wr p) (um M p (.lst (l++l'))))
instance:IR K VY QX where
 imp:=by rintro x y v u M H q Q m r1 r2 ⟨a,b,l,l',rfl,rfl,hl,sr,hn,h⟩ k;cases r1.eq;cases r2.eq;let⟨vs,hv,rr⟩:=m a _ hl;let⟨Q1,NR,Pn⟩:=m b _ sr;show#[a,b,vs,Q1,rfl,rfl,hv,NR,by rw[rr.length,Pn.length];show hn,λp hp=>k _ _ _ _ (h p (m.fresh hp)) (L2.gm.ts (cg hp)) (m.ln hp (rr.append Pn)) WR.v]
def Ml (M:Mp):W ->Bool ->Prop
 | .v .ez,k=>k=false
 | .v (.bl b),k=>k=b
 | .v (.int i),k=>k=(i !=0)
 | .v (.str y),k=>y.length<=sizeLine /\ k=((y.length:Int) !=0)
 | .v (.ref a),k=>(∃l,M a=some (.lst l) /\ k= !l.isEmpty) \/ (∃l,M a=some (.dK l) /\ k= !l.isEmpty)
 | .tup l,k=>k= !l.isEmpty
 | _,_=>False
def Ii (K:WW)(ta:TE):TT:=λσ H Q=>ta σ H λx H'=> ∃k,OE K x H' k /\ Q k H'
theorem xy (ha:PE X a ta)(he: ∀nw,isTrue a X.env nw=(do let v <- nw;standAt a.pos;holding [v] (truthy v)):=by intro _;rfl):PT X a (Ii X.K ta):=Jh ha he
def HI (a:WE):WT:=λρ M q=>a ρ M λx M1=> ∃k,Ml M1 x k /\ q k M1
def cP.isEmpty (r:cP K H l vs):vs.isEmpty=l.isEmpty:=by have:=r.length;cases l<;>cases vs<;>simp_all
def KR.isEmpty {vs:cH (cf×V)}(r:KR K H l vs):vs.isEmpty=l.isEmpty:=by cases r<;>rfl
def Ml.ok (m:gu K M H)(r:WR K H x v)(h:Ml M x k):OE K v H k:=by
 cases x with
 | tup l=>let⟨a,vs,rfl,hv,rr⟩:=r.tup;show .inr (.inl #[vs,hv,by rw[rr.isEmpty];show h])
 | v y =>
  cases r.eq;cases v with
  | ref a=>
   rcases h with⟨l,hl,e⟩ | ⟨l,hl,e⟩
   let⟨vs,hv,rr⟩:=m a _ hl;show .inl #[vs,ij.of hv,by rw[rr.isEmpty];show e];let⟨vs,hv,rr⟩:=m a _ hl;show .inr (.inr #[vs,hv,by rw[rr.isEmpty];show e])
  | _=>first | show h | show(show False from h).elim
instance {t:TE}{a:WE} [ia:IE K t a]:IT K (Ii K t) (HI a) where
 imp:=λρ M σ H q Q o h k=>ia.imp ρ M σ H _ _ o h λx M1 v H1 ⟨b,hb,h1⟩ t1 m1 r1=>#[b,hb.ok m1 r1,k b M1 H1 h1 t1 m1]
def i9:cf ->W
 | .inl k=>wi k
 | .inr x=>ws x
def e9 (kvs:cH (cf×W))(k:cf):fj W:=(kvs.find? λkv=>decide (kv.1=k)).map (·.2)
def uV (kvs:cH (cf×W))(k:cf)(v:W):cH (cf×W):=if(kvs.any λkv=>decide (kv.1=k))=true then kvs.map (λkv=>if kv.1=k then(kv.1,v) else kv) else kvs++ [(k,v)]
def jY (kvs:cH (cf×W))(k:cf):cH (cf×W):=kvs.filter λkv=>decide (kv.1≠k)
theorem KR.keys {H:Hp}: ∀ {l:cH (cf×W)} {vs:cH (cf×V)},KR K H l vs ->vs.map (·.1)=l.map (·.1)
 | _,_, .nil=>rfl
 | _,_, .cons ⟨e,r⟩ t=>by rw[aP,aP,KR.keys t,e]
theorem KR.length {H:Hp}{κ:Type}: ∀ {l:cH (κ×W)} {vs:cH (κ×V)},KR K H l vs ->vs.length=l.length
 | _,_, .nil=>rfl
 | _,_, .cons _ t=>by rw[aC,aC,KR.length t]
theorem KR.val {H:Hp}(k:cf): ∀ {l:cH (cf×W)} {vs:cH (cf×V)},KR K H l vs ->(e9 l k=none /\ i8 vs k=none) \/ cx λx v=>c8 (e9 l k=some x) (i8 vs k=some v) (WR K H x v)
 | _,_, .nil=> .inl #[rfl,rfl]
 | (k1,x)::l,(k2,v)::vs, .cons ⟨e,r⟩ t=>by have e:k1=k2:=e;subst e;unfold e9 i8;rw[cQ,cQ];by_cases hk:k1=k;simp![hk,b0];show .inr #[x,v,rfl,rfl,r];simp![hk,decide_false];show KR.val k t
theorem KR.map {H:Hp}{k:cf}{x:W}{v:V}(rx:WR K H x v): ∀ {l:cH (cf×W)} {vs:cH (cf×V)},KR K H l vs ->KR K H (l.map (λkv=>if kv.1=k then(kv.1,x) else kv)) (vs.map (λkv=>if kv.1=k then(kv.1,v) else kv))
 | _,_, .nil=> .nil
 | (k1,y)::l,(k2,u)::vs, .cons ⟨e,r⟩ t=>by have e:k1=k2:=e;subst e;rw[aP,aP];exact .cons ?_ (KR.map rx t);by_cases hk:k1=k;rw[ao hk,ao hk];show#[rfl,rx];rw[ak hk,ak hk];show#[rfl,r]
theorem KR.append {H:Hp}{k:cf}{x:W}{v:V}(rx:WR K H x v): ∀ {l:cH (cf×W)} {vs:cH (cf×V)},KR K H l vs ->KR K H (l++ [(k,x)]) (vs++ [(k,v)])
 | _,_, .nil=> .cons #[rfl,rx] .nil
 | _,_, .cons r t=> .cons r (KR.append rx t)
def KR.put (rx:WR K H x v)(r:KR K H l vs):KR K H (uV l k x) (nk vs k v):=by
 have ek:(l.any λkv=>decide (kv.1=k))=vs.any λkv=>decide (kv.1=k):=by
  have:=r.keys;have e1:(l.any λkv=>decide (kv.1=k))=(l.map (·.1)).any λy=>decide (y=k):=by rw[List.any_map];rfl
  have e2:(vs.any λkv=>decide (kv.1=k))=(vs.map (·.1)).any λy=>decide (y=k):=by rw[List.any_map];rfl
  rw[e1,e2,this]
 unfold uV nk;rw[ek];split;show KR.map rx r;show KR.append rx r
theorem KR.drop {H:Hp}{k:cf}: ∀ {l:cH (cf×W)} {vs:cH (cf×V)},KR K H l vs ->KR K H (jY l k) (mD vs k)
 | _,_, .nil=> .nil
 | (k1,y)::l,(k2,u)::vs, .cons ⟨e,r⟩ t=>by have e:k1=k2:=e;subst e;unfold jY mD;rw[List.filter_cons,List.filter_cons];by_cases hk:k1=k;simp![hk,ne_eq,not_true,decide_false,aD,bH];show KR.drop t;simp![ne_eq,hk,not_false_eq_true,b0,ce];show .cons #[rfl,r] (KR.drop t)
def jl (r:WR K H (i9 k) v):v=kV k:=by cases k<;>show r.eq
def HQ:WE:=λ_ M q=> ∀p,M p=none ->q (wr p) (um M p (.dK []))
instance:IE K Io HQ where
 imp:=λρ M σ H q Q o h k=>λp hp=>k _ _ _ _ (h p (o.hp.fresh hp)) (L2.gm.ts (cg hp)) (o.hp.put (L2.gm.ts (cg hp)) #[[],bY, .nil]) WR.v
def DP (a b:WE):WE:=λρ M q=>a ρ M λx M1=>b ρ M1 λy M2=>gc λp kvs k z=>gy (x=wr p) (M2 p=some (.dK kvs)) (y=i9 k) (e9 kvs k=some z) (q z M2)
instance {t u:TE}{a b:WE} [ia:IE K t a] [ib:IE K u b]:IE K (Ir t u) (DP a b) where
 imp :=λρ M σ H q Q o h k=>ia.imp ρ M σ H _ _ o h λx M1 v H1 h1 t1 m1 r1=>ib.imp ρ M1 σ H1 _ _ (o.mv t1 m1) h1 λy M2 u H2 ⟨p,kvs,ky,z,e1,e2,e3,e4,h2⟩ t2 m2 r2=>by
  subst e1 e3;let⟨ks,hk,rr⟩:=m2 p _ e2;rcases rr.val ky with⟨n1,_⟩ | ⟨x',v',n1,n2,rx⟩
  rw[n1] at e4;cases e4;rw[n1] at e4;cases e4;exact#[p,v',r1.eq,?_,k _ M2 _ H2 h2 (t1.trans t2) m2 rx];rw[jl r2, <- n2];show nu.k hk
def Mr (a b:WE):WE:=λρ M q=>a ρ M λy M1=>b ρ M1 λx M2=>eZ λp kvs k=>fA (x=wr p) (M2 p=some (.dK kvs)) (y=i9 k) (q (wb (e9 kvs k).isSome) M2)
def ue (a b:WE):WE:=λρ M q=>a ρ M λy M1=>b ρ M1 λx M2=>eZ λp kvs k=>fA (x=wr p) (M2 p=some (.dK kvs)) (y=i9 k) (q (wb (!(e9 kvs k).isSome)) M2)
def KR.some (k:cf)(r:KR K H l vs):(i8 vs k).isSome=(e9 l k).isSome:=by rcases r.val k with⟨a,b⟩ | ⟨x,v,a,b,_⟩ <;>rw[a,b] <;>rfl
instance {t u:TE}{a b:WE} [ia:IE K t a] [ib:IE K u b]:IE K (VA t u) (Mr a b) where
 imp:=λρ M σ H q Q o h k=>ia.imp ρ M σ H _ _ o h λy M1 v H1 h1 t1 m1 r1=>ib.imp ρ M1 σ H1 _ _ (o.mv t1 m1) h1 λx M2 u H2 ⟨p,kvs,ky,e1,e2,e3,h2⟩ t2 m2 r2=>by subst e1 e3;let⟨ks,hk,rr⟩:=m2 p _ e2;exact#[p,i8 ks ky,r2.eq,by rw[jl r1];show nu.k hk,k _ M2 _ H2 h2 (t1.trans t2) m2 ?_];rw[rr.some];show WR.v
instance {t u:TE}{a b:WE} [ia:IE K t a] [ib:IE K u b]:IE K (DY t u) (ue a b) where
 imp:=λρ M σ H q Q o h k=>ia.imp ρ M σ H _ _ o h λy M1 v H1 h1 t1 m1 r1=>ib.imp ρ M1 σ H1 _ _ (o.mv t1 m1) h1 λx M2 u H2 ⟨p,kvs,ky,e1,e2,e3,h2⟩ t2 m2 r2=>by subst e1 e3;let⟨ks,hk,rr⟩:=m2 p _ e2;exact#[p,i8 ks ky,r2.eq,by rw[jl r1];show nu.k hk,k _ M2 _ H2 h2 (t1.trans t2) m2 ?_];rw[rr.some];show WR.v
def Cn (a b c:WE):WE:=λρ M q=>a ρ M λx M1=> ∃p,c8 (x=wr p) (∃kvs,M1 p=some (.dK kvs)) (b ρ M1 λy M2=>c ρ M2 λz M3=>cx λkvs k=>c8 (M3 p=some (.dK kvs)) (y=i9 k) (q ((e9 kvs k).getD z) M3))
instance {t u s:TE}{a b c:WE} [ia:IE K t a] [ib:IE K u b] [ic:IE K s c]:IE K (Iq t u s) (Cn a b c) where
 imp:=λρ M σ H q Q o h k=>ia.imp ρ M σ H _ _ o h λx M1 v H1 ⟨p,e,⟨kvs,hp⟩,h1⟩ t1 m1 r1=>by
  subst e;let⟨ks,hk,rr⟩:=m1 p _ hp;exact#[p,r1.eq, .inl #[ks, .inl hk],ib.imp ρ M1 σ H1 _ _ (o.mv t1 m1) h1 λy M2 u H2 h2 t2 m2 r2=>ic.imp ρ M2 σ H2 _ _ (o.mv (t1.trans t2) m2) h2 λz M3 u3 H3 ⟨kvs,ky,e2,e3,h3⟩ t3 m3 r3=> ?_];subst e3;let⟨ks,hk,rr⟩:=m3 p _ e2;exact#[i8 ks ky,by rw[jl (r2.ts t3)];show nu.k hk,k _ M3 _ H3 h3 ((t1.trans t2).trans t3) m3 ?_];rcases rr.val ky with⟨n1,n2⟩ | ⟨x',v',n1,n2,rx⟩
  rw[n1,n2];show r3;rw[n1,n2];show rx
end
section
variable {K:WW}
def O7 (i:Nat):WG:=λx ρ M q=>q (ρ.set i (some x)) M
instance {i:Nat}:IG K (md i) (O7 i) where
 imp:=λx v ρ M σ H q Q o r h k=>k _ M _ H h (a_.refl H) #[o.env.set i r,o.hp]
def Q2:OD:=λxs ρ M q=>xs= [] /\ q ρ M
def O8 (a:WG)(b:OD):OD:=λxs ρ M q=>cx λx r=>xs=x::r /\ a x ρ M λρ' M'=>b r ρ' M' q
instance:ZV K N9 Q2 where
 imp:=λx v ρ M σ H q Q o r h k=>by let⟨rfl,h⟩:=h;show#[by simpa only[cP] using r,k _ M _ H h (a_.refl H) o]
instance {t:TG}{u:Mg}{a:WG}{b:OD} [ia:IG K t a] [ib:ZV K u b]:ZV K (xO t u) (O8 a b) where
 imp:=λx v ρ M σ H q Q o r h k=>by let⟨y,cX,rfl,h⟩:=h;simp![cP] at r;let⟨v1,t1,rfl,r1,r2⟩:=r;show#[v1,t1,rfl,ia.imp y v1 ρ M σ H _ _ o r1 h λρ' M' σ' H' h' ts o'=>ib.imp cX t1 ρ' M' σ' H' _ _ o' (r2.ts ts) h' λρ2 M2 σ2 H2 h2 Vi o2=>k ρ2 M2 σ2 H2 h2 (ts.trans Vi) o2]
def Ve (n:Nat)(a:OD):WG:=λx ρ M q=> ∃l,c8 (x= .tup l) (l.length=n) (a l ρ M q)
instance {n:Nat}{t:Mg}{a:OD} [ia:ZV K t a]:IG K (N8 K n t) (Ve n a) where
 imp:=λx v ρ M σ H q Q o r h k=>by let⟨l,rfl,hl,h⟩:=h;let⟨a',vs,rfl,hv,rr⟩:=r.tup;show#[a',vs,rfl,hv,by rw[rr.length];show hl,ia.imp l vs ρ M σ H _ _ o rr h k]
abbrev Ll:=W ->W ->W ->Mp ->(Mp ->Prop) ->Prop
class Yb (K:PySem.W.Frag) (t:Lm) (w:outParam Ll):Prop where
 imp: ∀ (x y z:W) (v u r:V) (M:Mp) (H:Hp) (q:Mp ->Prop) (Q:Hp ->Prop),gu K M H ->WR K H x v ->WR K H y u ->WR K H z r ->w x y z M q ->(∀M' H',q M' ->a_ H H' ->gu K M' H' ->Q H') ->t v u r H Q
def OZ:Ll:=λx y z M q=>gc λa l k j=>gy (x=wr a) (y=wi k) (M a=some (.lst l)) (A3 l.length k=some j) (q (um M a (.lst (l.set j z))))
instance:Yb K Pq OZ where
 imp:=by rintro x y z v u r M H q Q m r1 r2 r3 ⟨a,l,i,j,rfl,rfl,hl,e,h⟩ k;let⟨vs,hv,rr⟩:=m a _ hl;show#[a,vs,i,j,r1.eq,r2.eq,hv,by rw[rr.length];show e,k _ _ h (iJ hv) (m.putL hv (rr.set j r3))]
def Vf (a b:WE)(s:Ll):WG:=λx ρ M q=>a ρ M λo M1=>b ρ M1 λi M2=>s o i x M2 λM3=>q ρ M3
instance {t u:TE}{s:Lm}{a b:WE}{w:Ll} [ia:IE K t a] [ib:IE K u b] [is:Yb K s w]:IG K (Xz t u s) (Vf a b w) where
 imp:=λx v ρ M σ H q Q o r h k=>ia.imp ρ M σ H _ _ o h λy M1 v1 H1 h1 t1 m1 r1=>ib.imp ρ M1 σ H1 _ _ (o.mv t1 m1) h1 λz M2 v2 H2 h2 t2 m2 r2=>is.imp y z x v1 v2 v M2 H2 _ _ m2 (r1.ts t2) r2 (r.ts (t1.trans t2)) h2 λM3 H3 h3 t3 m3=>k ρ M3 σ H3 h3 ((t1.trans t2).trans t3) (o.mv ((t1.trans t2).trans t3) m3)
def Ej:WS:=λD ρ M=>D.nx ρ M
instance:IS K Pc Ej where
 imp:=λρ M σ H D' D o h e=>e.nx ρ M σ H h (a_.refl H) o
def Gc (a b:WS):WS:=λD ρ M=>a {D with nx:=b D} ρ M
instance {t u:TS}{a b:WS} [ia:IS K t a] [ib:IS K u b]:IS K (Rh t u) (Gc a b) where
 imp:=λρ M σ H D' D o h e=>ia.imp ρ M σ H _ _ o h #[λρ' M' σ' H' h' ts o'=>ib.imp ρ' M' σ' H' D' D o' h' (e.mv ts),e.rt,e.bk,e.ct]
def IN (a:WE):WS:=λD ρ M=>a ρ M λ_ M1=>D.nx ρ M1
instance {t:TE}{a:WE} [ia:IE K t a]:IS K (Pd t) (IN a) where
 imp:=λρ M σ H D' D o h e=>ia.imp ρ M σ H _ _ o h λx M1 v H1 h1 t1 m1 r1=>e.nx ρ M1 σ H1 h1 t1 (o.mv t1 m1)
def VL (a:WE):WS:=λD ρ M=>a ρ M D.rt
instance {t:TE}{a:WE} [ia:IE K t a]:IS K (Vr t) (VL a) where
 imp:=λρ M σ H D' D o h e=>ia.imp ρ M σ H _ _ o h λx M1 v H1 h1 t1 m1 r1=>e.rt x M1 v H1 h1 t1 m1 r1
def Rt (c:WT)(a b:WS):WS:=λD ρ M=>c ρ M λk M1=>if k=true then a D ρ M1 else b D ρ M1
instance {tc:TT}{t u:TS}{c:WT}{a b:WS} [ic:IT K tc c] [ia:IS K t a] [ib:IS K u b]:IS K (Vw tc t u) (Rt c a b) where
 imp:=λρ M σ H D' D o h e=>ic.imp ρ M σ H _ _ o h λk M1 H1 h1 t1 m1=>by
  cases k with
  | true=>simp![ce] at h1 ⊢;show ia.imp ρ M1 σ H1 D' D (o.mv t1 m1) h1 (e.mv t1)
  | false=>simp![aD,bH] at h1 ⊢;show ib.imp ρ M1 σ H1 D' D (o.mv t1 m1) h1 (e.mv t1)
def Rv (a:WE)(g:WG):WS:=λD ρ M=>a ρ M λx M1=>g x ρ M1 D.nx
instance {t:TE}{g:TG}{a:WE}{w:WG} [ia:IE K t a] [ig:IG K g w]:IS K (Iv t g) (Rv a w) where
 imp:=λρ M σ H D' D o h e=>ia.imp ρ M σ H _ _ o h λx M1 v H1 h1 t1 m1 r1=>ig.imp x v ρ M1 σ H1 _ _ (o.mv t1 m1) r1 h1 λρ2 M2 σ2 H2 h2 t2 o2=>e.nx ρ2 M2 σ2 H2 h2 (t1.trans t2) o2
class IIp (K:PySem.W.Frag) (t:UH) (w:outParam qu):Prop where
 imp: ∀ (x y:W) (v u:V) (M:Mp) (H:Hp) (q:WK) (Q:VK),gu K M H ->WR K H x v ->WR K H y u ->w x y M q ->(∀x M' v H',q x M' ->a_ H H' ->gu K M' H' ->WR K H' x v ->Q v H') ->t v u H Q
instance {f:Int ->Int ->Int}:IIp K (ipI f) (_D λi j=> .int (f i j)) where
 imp:=by rintro x y v u M H q Q m r1 r2 ⟨i,j,rfl,rfl,h⟩ k;show#[i,j,r1.eq,r2.eq,k _ M _ H h (a_.refl H) m WR.v]
def VP (i:Nat)(a:WE)(r:qu):WS:=λD ρ M=>fK i ρ M λx M=>a ρ M λy M1=>r x y M1 λz M2=>D.nx (ρ.set i (some z)) M2
instance {i:Nat}{t:TE}{ti:UH}{a:WE}{w:qu} [ia:IE K t a] [ir:IIp K ti w]:IS K (VC i t ti) (VP i a w) where
 imp:=λρ M σ H D' D o h e=>by let⟨x,ex,h⟩:=HH h;let⟨v,ev,rv⟩:=o.env.2 i x ex;show#[v,ev,ia.imp ρ M σ H _ _ o h λy M1 u H1 h1 t1 m1 r1=>ir.imp x y v u M1 H1 _ _ m1 (rv.ts t1) r1 h1 λz M2 w2 H2 h2 t2 m2 r2=>e.nx _ M2 _ H2 h2 (t1.trans t2) #[(o.env.ts (t1.trans t2)).set i r2,m2]]
def yM (a b c:WE):WS:=λD ρ M=>c ρ M λz M1=>a ρ M1 λx M2=>b ρ M2 λy M3=>eZ λp kvs k=>gy (x=wr p) (M3 p=some (.dK kvs)) (y=i9 k) (kvs.length<sizeLine) (D.nx ρ (um M3 p (.dK (uV kvs k z))))
instance {t u s:TE}{a b c:WE} [ia:IE K t a] [ib:IE K u b] [ic:IE K s c]:IS K (Pl t u s) (yM a b c) where
 imp :=λρ M σ H D' D o h e=>ic.imp ρ M σ H _ _ o h λz M1 v1 H1 h1 t1 m1 r1=>ia.imp ρ M1 σ H1 _ _ (o.mv t1 m1) h1 λx M2 v2 H2 h2 t2 m2 r2=>ib.imp ρ M2 σ H2 _ _ (o.mv (t1.trans t2) m2) h2 λy M3 v3 H3 ⟨p,kvs,k,e1,e2,e3,hl,h3⟩ t3 m3 r3=>by subst e1 e3;let⟨ks,hk,rr⟩:=m3 p _ e2;have ts:=lC (u:= .dK (nk ks k v1)) hk;exact#[p,_,r2.eq,?_,e.nx ρ _ σ (cR H3 p (.dK (nk ks k v1))) h3 (((t1.trans t2).trans t3).trans ts) (o.mv (((t1.trans t2).trans t3).trans ts) (m3.putD hk (KR.put (r1.ts (t2.trans t3)) rr)))];rw[jl r3];show LK.k hk (by rw[rr.length];show hl)
def Cz (a b:WE):WS:=λD ρ M=>a ρ M λx M1=>b ρ M1 λy M2=>eZ λp kvs k=>gy (x=wr p) (M2 p=some (.dK kvs)) (y=i9 k) ((e9 kvs k).isSome=true) (D.nx ρ (um M2 p (.dK (jY kvs k))))
instance {t u:TE}{a b:WE} [ia:IE K t a] [ib:IE K u b]:IS K (Pm t u) (Cz a b) where
 imp :=λρ M σ H D' D o h e=>ia.imp ρ M σ H _ _ o h λx M2 v2 H2 h2 t2 m2 r2=>ib.imp ρ M2 σ H2 _ _ (o.mv t2 m2) h2 λy M3 v3 H3 ⟨p,kvs,k,e1,e2,e3,hl,h3⟩ t3 m3 r3=>by subst e1 e3;let⟨ks,hk,rr⟩:=m3 p _ e2;have ts:=lC (u:= .dK (mD ks k)) hk;show#[p,ks,k,r2.eq,hk,jl r3,by rw[rr.some];show hl,e.nx ρ _ σ _ h3 ((t2.trans t3).trans ts) (o.mv ((t2.trans t3).trans ts) (m3.putD hk rr.drop))]
def Dy (K:WW)(H1:Hp)(J:It)(xs:cH W)(keep:Mp ->Prop):Prop:=∀i M H,a_ H1 H ->gu K M H ->keep M ->(xs.length=i ->J.stop i H) /\ (i<xs.length ->J.go i H) /\ ∀v H',i<xs.length ->J.TY i H v H' ->a_ H H' /\ gu K M H' /\ ∃x,xs[i]? =some x /\ WR K H' x v
class II (K:PySem.W.Frag) (t:TI) (w:outParam WI):Prop where
 imp: ∀ (ρ:cq) (M:Mp) (σ:St) (H:Hp) (q:List W ->(Mp ->Prop) ->Mp ->Prop) (R:It ->Hp ->Prop),Ok K ρ M σ H ->w ρ M q ->(∀xs keep J M' H',q xs keep M' ->a_ H H' ->gu K M' H' ->Dy K H' J xs keep ->R J H') ->t σ H R
def E3 (a:WE):WI:=λρ M q=>a ρ M λx M1=>cx λp l=>c8 (x=wr p) (M1 p=some (.lst l)) (q l (λM'=>M' p=some (.lst l)) M1)
def SI (a:WE):WI:=λρ M q=>a ρ M λx M1=> ∃l,x= .tup l /\ q l (λ_=>True) M1
def hJ (lo:Int)(n:Nat):cH W:=(List.range n).map λ(k:Nat)=>wi (lo+(k:Int))
def E2 (a:WA):WI:=λρ M q=>a ρ M λxs M1=> ∃j:Int,fA (xs= [wi j]) (-(2 ^ 62) <=j) (j<2 ^ 62) (q (hJ 0 j.toNat) (λ_=>True) M1)
def xI:Dy K H1 (ZT K p) l (λM'=>M' p=some (.lst l)):=by intro i M H ts m hk;let⟨vs,hv,rr⟩:=m p _ hk;have hl:=rr.length;exact#[λh=>#[vs,ij.of hv, ∅],λh=>#[vs,vs[i]'∅,ij.of hv,by simp],λv H' hi y=> ?_];let⟨rfl,y⟩:=y;have:=y vs (ij.of hv);let⟨d,hd,r⟩:=rr.back this;show#[a_.refl _,m,d,hd,r]
def A4 (hv:lm K H1 p vs)(rr:cP K H1 l vs):Dy K H1 (ZR K p) l (λ_=>True):=by intro i M H ts m _;have NR:=Un.sqT ts hv;have Pn:=rr.ts ts;have hl:=Pn.length;exact#[λh=>#[vs,NR, ∅],λh=>#[vs,vs[i]'∅,NR,by simp],λv H' hi y=> ?_];let⟨rfl,y⟩:=y;have:=y vs NR;let⟨d,hd,r⟩:=Pn.back this;show#[a_.refl _,m,d,hd,r]
def Kc:Dy K H1 (ZS lo n) (hJ lo n) (λ_=>True):=by
 intro i M H ts m _;have hl:(hJ lo n).length=n:=by simp[hJ]
 rw[hl];exact#[λh=>Nat.le_of_eq h,λh=>h,λv H' hi y=> ?_];let⟨rfl,y⟩:=y;exact#[a_.refl _,m,wi (lo+i),?_,by rw[y];show WR.v];simp[hJ,hi]
instance {t:TE}{a:WE} [ia:IE K t a]:II K (Kf K t) (E3 a) where
 imp:=λρ M σ H q R o h k=>ia.imp ρ M σ H _ _ o h λx M1 v H1 ⟨p,l,e,hp,h1⟩ t1 m1 r1=>by subst e;let⟨vs,hv,rr⟩:=m1 p _ hp;show#[p,r1.eq,#[vs,ij.of hv],k l _ _ M1 H1 h1 t1 m1 xI]
instance {t:TE}{a:WE} [ia:IE K t a]:II K (SN K t) (SI a) where
 imp:=λρ M σ H q R o h k=>ia.imp ρ M σ H _ _ o h λx M1 v H1 ⟨l,e,h1⟩ t1 m1 r1=>by subst e;let⟨p,vs,rfl,hv,rr⟩:=r1.tup;show#[p,rfl,#[vs,hv],k l _ _ M1 H1 h1 t1 m1 (A4 hv rr)]
instance {t:TA}{a:WA} [ia:IA K t a]:II K (Qh t) (E2 a) where
 imp:=λρ M σ H q R o h k=>ia.imp ρ M σ H _ _ o h λxs M1 v H1 ⟨j,e,h0,h1,h2⟩ t1 m1 r1=>by subst e;let⟨v,rfl,r⟩:=r1.one;cases r.eq;show#[j,rfl,h0,h1,k _ _ _ M1 H1 h2 t1 m1 Kc]
def Ru (it:WI)(g:WG)(b:WS):WS:=λD ρ M=>it ρ M λxs keep M1=> ∃I:Nat ->cq ->Mp ->Prop,fA (I 0 ρ M1) (∀i ρ M,i<=xs.length ->I i ρ M ->keep M) (∀i x ρ M,xs[i]? =some x ->I i ρ M ->g x ρ M λρ2 M2=>b {D with nx:=I (i+1),ct:=I (i+1),bk:=D.nx} ρ2 M2) (∀ρ M,I xs.length ρ M ->D.nx ρ M)
instance {ti:TI}{g:TG}{t:TS}{it:WI}{w:WG}{b:WS} [ii:II K ti it] [ig:IG K g w] [ib:IS K t b]:IS K (Vz ti g t) (Ru it w b) where
 imp :=λρ M σ H D' D o h e=>ii.imp ρ M σ H _ _ o h λxs keep J M1 H1 h1 t1 m1 ok=>by let⟨I,h0,hk,hs,hd⟩:=h1;exact#[λi m σ' H'=>m=xs.length - i /\ i<=xs.length /\ cx λρ' M'=>c8 (I i ρ' M') (a_ H1 H') (Ok K ρ' M' σ' H'),#[_,rfl,dm _,ρ,M1,h0,a_.refl _,o.mv t1 m1],?_];rintro i m σ' H' ⟨rfl,hi,ρ',M',hI,ts,o'⟩;let⟨k1,k2,k3⟩:=ok i M' H' ts o'.hp (hk i ρ' M' hi hI);by_cases no:i<xs.length;exact .inr #[k2 no,λσ2 H2=>cx λρ2 M2=>c8 (I (i+1) ρ2 M2) (a_ H1 H2) (Ok K ρ2 M2 σ2 H2),λσ2 H2 ⟨ρ2,M2,a,b,c⟩=>#[xs.length - (i+1), ∅,rfl,no,ρ2,M2,a,b,c],λv H2 y=> ?_];let⟨ty,my,x,hx,r⟩:=k3 v H2 no y;replace ts:=ts.trans ty;exact ig.imp x v ρ' M' σ' H2 _ _ (o'.mv ty my) r (hs i x ρ' M' hx hI) λρ3 M3 σ3 H3 h3 t3 o3=>ib.imp ρ3 M3 σ3 H3 _ _ o3 h3 #[λa b c d h t o=>#[a,b,h,(ts.trans t3).trans t,o],λa b c d h t=>e.rt a b c d h (t1.trans ((ts.trans t3).trans t)),λa b c d h t=>e.nx a b c d h (t1.trans ((ts.trans t3).trans t)),λa b c d h t o=>#[a,b,h,(ts.trans t3).trans t,o]];have e':i=xs.length:= ∅;subst e';show .inl #[k1 rfl,e.nx ρ' M' σ' H' (hd ρ' M' hI) (t1.trans ts) o']
def ou (own:Nat)(fr:cH Nat)(ρ:cq):cq:=List.replicate own none++fr.map λj=>(ρ[j]?).join
def Mf.UE (own:Nat)(fr:cH Nat)(h:Mf K H ρ σ):Mf K H (ou own fr ρ) (ls own fr σ):=by
 unfold ou ls;exact#[by simp,λi x e=> ?_];by_cases hi:i<own;rw[bu ⇑hi,dt,ao hi] at e;cases e;rw [bi ⇑hi,List.length_replicate,aK] at e;rw[bi ⇑hi,List.length_replicate,aK];cases ej:fr[i - own]? with
 | none=>rw[ej] at e;cases e
 | some j=>
  rw[ej] at e;simp![bG,Option.some.injEq] at e ⊢;cases er:ρ[j]? with
  | none=>rw[er] at e;cases e
  | some z=>rw[er] at e;simp![Option.join_some] at e;subst e;let⟨v,ev,r⟩:=h.2 j x er;show#[v,by rw[ev];rfl,r]
def HV (it:WI)(own:Nat)(fr:cH Nat)(g:WG)(c:WT)(el:WE):WE:=λρ M q=>it ρ M λxs keep M1=>xs.length<=sizeLine /\ ∀p,M1 p=none -> ∃I:Nat ->cH W ->Mp ->Prop,fA (I 0 [] (um M1 p (.lst []))) (∀i ys M,i<=xs.length ->I i ys M ->keep M /\ M p=some (.lst ys) /\ ys.length<=i) (∀i x ys M,xs[i]? =some x ->I i ys M ->g x (ou own fr ρ) M λρ2 M2=>c ρ2 M2 λb M3=>if b=true then el ρ2 M3 λy M4=>M4 p=some (.lst ys) /\ I (i+1) (ys++ [y]) (um M4 p (.lst (ys++ [y]))) else I (i+1) ys M3) (∀ys M,I xs.length ys M ->q (wr p) M)
instance {ti:TI}{own:Nat}{fr:cH Nat}{g:TG}{tc:TT}{te:TE}{it:WI}{w:WG}{c:WT}{el:WE} [ii:II K ti it] [ig:IG K g w] [ic:IT K tc c] [ie:IE K te el]:IE K (Pe ti own fr g tc te) (HV it own fr w c el) where
 imp :=λρ M σ H q Q o h k=>ii.imp ρ M σ H _ _ o h λxs keep J M1 H1 h1 t1 m1 ok=>by
  intro p hp;let⟨hz,h1⟩:=h1;let⟨I,h0,hk,hs,hd⟩:=h1 p (m1.fresh hp);have tp:=L2.gm.ts (cg (o:= .lst []) hp);exact#[λi m vs H'=>m=xs.length - i /\ i<=xs.length /\ cx λys M'=>gy (I i ys M') (a_ H1 H') (gu K M' H') (cP K H' ys vs) (H' p=some (.lst vs)),#[_,rfl,dm _,[],_,h0,tp,m1.ln hp cP.nil,cP.nil,bY],?_];rintro i m vs H' ⟨rfl,hi,ys,M',hI,ts,m',rv,hv⟩;exact#[hv,?_];let⟨kp,hMp,hyl⟩:=hk i ys M' hi hI;let⟨k1,k2,k3⟩:=ok i M' H' ts m' kp;by_cases no:i<xs.length;exact .inr #[k2 no,by rw[rv.length];lia,λv H2 y=> ?_];let⟨ty,my,x,hx,r⟩:=k3 v H2 no y;replace ts:=ts.trans ty;have oc:Ok K (ou own fr ρ) M' (ls own fr σ) H2:=#[(o.env.ts (t1.trans ts)).UE own fr,my]
  exact ig.imp x v _ M' _ H2 _ _ oc r (hs i x ys M' hx hI) λρ3 M3 σ3 H3 h3 t3 o3=>ic.imp ρ3 M3 σ3 H3 _ _ o3 h3 λb M4 H4 h4 t4 m4=> ?_;cases b with
  | true=>simp![ce] at h4 ⊢;exact ie.imp ρ3 M4 σ3 H4 _ _ (o3.mv t4 m4) h4 λz M5 u H5 ⟨h5,h6⟩ t5 m5 r5=> ?_;let⟨O6,NQ,MJ⟩:=m5 p _ h5;have _Z:=(t3.trans t4).trans t5;have t6:=iJ (u:= .lst (O6++ [u])) NQ;show#[O6,NQ,by rw[MJ.length];lia,_, ∅,rfl,no,_,_,h6,(ts.trans _Z).trans t6,m5.putL NQ (MJ.snoc r5),(MJ.snoc r5).ts t6,bY]
  | false=>simp![aD,bH] at h4 ⊢;let⟨O6,NQ,MJ⟩:=m4 p _ (hk (i+1) ys M4 no h4).2.1;show#[O6,_, ∅,rfl,no,_,_,h4,ts.trans (t3.trans t4),m4,MJ,NQ]
  have e':i=xs.length:= ∅;subst e';show .inl #[k1 rfl,k _ M' _ H' (hd ys M' hI) (t1.trans ts) m' WR.v]
def UQ:WT:=λ_ M q=>q true M
instance:IT K Vo UQ where
 imp:=λρ M σ H q Q o h k=>k _ M H h (a_.refl H) o.hp
end
section
variable {K:WW}
theorem gu.sub (s:Sm M M')(m:gu K M' H):gu K M H:=λa o e=>m a o (s a o e)
def okS (F:BR K x qual st f fd)(S:cw N ps (aU st))(len: ∀vs M q,p vs M q ->vs.length=ps.length)(jV: ∀ (cdv:df) (A:Around) (outer:cH Env) (s:dG) (H:Hp) (E:XK),e7 k (A.deeper (PyProof.Rows.envOfC qual (aU st) s.heap.objs.size f cdv)) ->∃t,zY (eQ fw P w K mg base N qual (aU st) f cdv A outer s H E).LR (dS st) t /\ ∃w',IS K t w' /\ ∀vs M q,p vs M q ->w' {nx:=λ_ M'=> ∃M0,Sm M0 M' /\ q wn M0,rt:=λx M'=> ∃M0,Sm M0 M' /\ q x M0} (vs.map some++List.replicate (N.length - vs.length) none) M): bI P w K mg base fw (k+1) f fd ps (fS K p):=by
 have h:=okW (K:=K) (P:=P) (w:=w) (mg:=mg) (base:=base) (k:=k) (p:=λvs M q=> ∃q',p vs M q' /\ q=λx M'=> ∃M0,Sm M0 M' /\ q' x M0) F S (λvs M q ⟨q',h,_⟩=>len vs M q' h) λcdv A outer s H E hr=>by let⟨t,h1,w',h2,h3⟩:=jV cdv A outer s H E hr;exact#[t,w',h1,h2,?_];rintro vs M q ⟨q',h,rfl⟩;show h3 vs M q' h
 exact h.imp λvs H Q E ⟨xs,M,q,r,m,hp,hk⟩=>#[xs,M,_,r,m,#[q,hp,rfl],?_]
 rintro x M' v H' ⟨M0,s,hq⟩ ts m' r';show hk x M0 v H' hq ts (m'.sub s) r'
def G4 {xs:cH W}{keep:Mp ->Prop}{M1:Mp}{g:WG}{c:WT}{el:WE}{q:WK}(f:W ->fj W)(hz:xs.length<=sizeLine)(l7: ∀M,Sm M1 M ->keep M)(hs: ∀ (i:Nat) x,xs[i]? =some x -> ∀ (M:Mp) (N:fj W ->Mp ->Prop),Sm M1 M ->N (f x) M ->g x (ou own fr ρ) M λρ2 M2=>c ρ2 M2 λb M3=>if b=true then el ρ2 M3 λy M4=>N (some y) M4 else N none M3)(hq: ∀p,M1 p=none ->q (wr p) (um M1 p (.lst (xs.filterMap f)))): xs.length<=sizeLine /\ ∀p,M1 p=none -> ∃I:Nat ->cH W ->Mp ->Prop,fA (I 0 [] (um M1 p (.lst []))) (∀i ys M,i<=xs.length ->I i ys M ->keep M /\ M p=some (.lst ys) /\ ys.length<=i) (∀i x ys M,xs[i]? =some x ->I i ys M ->g x (ou own fr ρ) M λρ2 M2=>c ρ2 M2 λb M3=>if b=true then el ρ2 M3 λy M4=>M4 p=some (.lst ys) /\ I (i+1) (ys++ [y]) (um M4 p (.lst (ys++ [y]))) else I (i+1) ys M3) (∀ys M,I xs.length ys M ->q (wr p) M):=by
 exact#[hz,λp hp=>#[λi ys M=>M=um M1 p (.lst ys) /\ ys=(xs.take i).filterMap f,#[rfl,by simp],?_,?_,?_]];rintro i ys M hi ⟨rfl,rfl⟩;exact#[l7 _ (a7 hp),am,ar (List.length_filterMap_le _ _) ?_];rw[bT];lia;rintro i x ys M hx ⟨rfl,rfl⟩;exact hs i x hx _ (λo M4=>match o with
 | some y=>M4 p=some (.lst ((xs.take i).filterMap f)) /\ (um M4 p (.lst ((xs.take i).filterMap f++ [y]))=um M1 p (.lst ((xs.take i).filterMap f++ [y])) /\ (xs.take i).filterMap f++ [y]=(xs.take (i+1)).filterMap f)
 | none=>M4=um M1 p (.lst ((xs.take i).filterMap f)) /\ (xs.take i).filterMap f=(xs.take (i+1)).filterMap f) (a7 hp) ?_
 have e:xs.take (i+1)=xs.take i++ [x]:=by rw[cK,hx];rfl
 cases hf:f x with
 | none=>show#[rfl,by rw[e,List.filterMap_append];simp[hf]]
 | some y=>show#[am,kC,by rw[e,List.filterMap_append];simp[hf]]
 rintro ys M ⟨rfl,rfl⟩;rw[cW];show hq p hp
mutual
def G3:W ->fj Dt
 | .v .ez=>some .ez
 | .v (.bl b)=>some (.bl b)
 | .v (.int i)=>some (.int i)
 | .v (.str x)=>some (.str x)
 | .v _=>none
 | .tup l=>(nr l).map .tup
def nr:cH W ->fj (cH Dt)
 | []=>some []
 | x::r=>match G3 x,nr r with
  | some d,some l=>some (d::l)
  | _,_=>none
end
mutual
theorem I_ {H:Hp}: ∀ (x:W) (d:Dt) (v:V),G3 x=some d ->WR K H x v ->Rep K H d v
 | .v y,d,v,e,r=>by cases r.eq;cases y<;>simp![G3,Option.some.injEq,reduceCtorEq] at e<;>subst e<;>simp![Rep]
 | .tup l,d,v,e,r=>by
  let⟨a,vs,rfl,hv,rr⟩:=r.tup;simp![G3] at e;cases hd:nr l with
  | none=>rw[hd] at e;cases e
  | some ds=>rw[hd] at e;cases e;simp![Rep];show#[a,vs,rfl,hv,yR l ds vs hd rr]
theorem yR {H:Hp}: ∀ (l:cH W) (ds:cH Dt) (vs:cH V),nr l=some ds ->cP K H l vs ->gz K H ds vs
 | [],ds,vs,e,r=>by simp![nr] at e;cases e;simp![cP] at r;simp![gz];show r
 | x ::l,ds,vs,e,r=>by
  simp![nr] at e;cases hx:G3 x with
  | none=>rw[hx] at e;cases e
  | some d=>
   cases hl:nr l with
   | none=>rw[hx,hl] at e;cases e
   | some Tr=>rw[hx,hl] at e;cases e;simp![cP] at r;let⟨v,t,rfl,r1,r2⟩:=r;simp![gz];show#[v,t,rfl,I_ x d v hx r1,yR l Tr t hl r2]
end
def DR (M:Mp)(x:W)(d:Dt):Prop:=G3 x=some d \/ eZ λa l ds=>fA (x=wr a) (M a=some (.lst l)) (nr l=some ds) (d= .lst ds)
def DR.rep (m:gu K M H)(r:WR K H x v)(h:DR M x d):Rep K H d v:=by obtain h | ⟨a,l,ds,rfl,hl,e,rfl⟩:=h;show I_ x d v h r;cases r.eq;let⟨vs,hv,rr⟩:=m a _ hl;simp![Rep];show#[a,vs,rfl,ij.of hv,yR l ds vs e rr]
def QK:qu:=λx y M q=>cx λd e=>gy (DR M x d) (DR M y e) (ui d e=true) (tY d<=50) (q (wb (!wS d e)) M)
instance:IR K (AC K) QK where
 imp:=by rintro x y v u M H q Q m r1 r2 ⟨d,e,h1,h2,h3,h4,h⟩ k;show#[d,e,h3,h4,h1.rep m r1,h2.rep m r2,k _ M _ H h (a_.refl H) m WR.v]
instance {r r':R2}{t u s:TE}{a b c:WE}{w w':qu} [ir:IR K r w] [ir':IR K r' w'] [ia:IE K t a] [ib:IE K u b] [ic:IE K s c]:IE K (Ct r r' t u s) (HX w w' a b c) where
 imp :=λρ M σ H q Q o h k=>ia.imp ρ M σ H _ _ o h λx M1 v H1 h1 t1 m1 r1=>ib.imp ρ M1 σ H1 _ _ (o.mv t1 m1) h1 λy M2 u H2 h2 t2 m2 r2=>ir.imp x y v u M2 H2 _ _ m2 (r1.ts t2) r2 h2 λz M3 v3 H3 ⟨kk,e,h3⟩ t3 m3 r3=>by
  subst e;exact#[kk,r3.eq,?_];cases kk with
  | true=>simp![ce] at h3 ⊢;show ic.imp ρ M3 σ H3 _ _ (o.mv ((t1.trans t2).trans t3) m3) h3 λy4 M4 v4 H4 h4 t4 m4 r4=>ir'.imp y y4 u v4 M4 H4 _ _ m4 (r2.ts (t3.trans t4)) r4 h4 λz5 M5 v5 H5 h5 t5 m5 r5=>k z5 M5 v5 H5 h5 ((((t1.trans t2).trans t3).trans t4).trans t5) m5 r5
  | false=>simp![aD,bH] at h3 ⊢;show k _ M3 _ H3 h3 ((t1.trans t2).trans t3) m3 WR.v
def YE (Uh:Bool):qu:=λx y M q=>cx λ(z:V) (l:cH V)=>gy (x= .v z) (y= .tup (l.map .v) \/ ∃a,y=wr a /\ M a=some (.lst (l.map .v))) (me z=true) (l.all me=true) (q (wb (if Uh then !Qf z l else Qf z l)) M)
theorem cP.vals {H:Hp}: ∀ {l us:cH V},cP K H (l.map .v) us ->us=l
 | [],us,h=>by simpa only[List.map_nil,cP] using h
 | n::r,vs,h=>by simp![aP,cP] at h;let⟨v,t,rfl,h1,h2⟩:=h;rw[cP.vals h2,h1.eq]
instance {Uh:Bool}:IR K (VW K Uh) (YE Uh) where
 imp :=by rintro x y v u M H q Q m r1 r2 ⟨z,l,rfl,hy,h1,h2,h⟩ k;cases r1.eq;obtain rfl | ⟨a,rfl,ha⟩:=hy;let⟨a,vs,rfl,hv,rr⟩:=r2.tup;cases rr.vals;show#[a,l,rfl, .inr hv,h1,h2,k _ M _ H h (a_.refl H) m WR.v];cases r2.eq;let⟨vs,hv,rr⟩:=m a _ ha;cases rr.vals;show#[a,l,rfl, .inl (ij.of hv),h1,h2,k _ M _ H h (a_.refl H) m WR.v]
def HK:zK:=λxs M q=>eZ λ(d:fY) (kvs:cH (cf×W)) (ks:cH Int)=>gy (xs= [wr d]) (M d=some (.dK kvs)) (kvs.map (·.1)=ks.map Sum.inl) (ks.length<=sizeLine) (∀ (p:fY) (ns:cH Int),M p=none ->ns.Perm ks ->ns.Pairwise (· <= ·) ->q (wr p) (um M p (.lst (ns.map wi))))
instance:IC K AB HK where
 imp:=by rintro xs v M H q Q m r1 ⟨d,kvs,ks,rfl,hd,hk,hl,h⟩ k;let⟨v,rfl,r⟩:=r1.one;cases r.eq;let⟨vs,hv,rr⟩:=m d _ hd;show#[d,vs,ks,rfl,hv,by rw[rr.keys];show hk,hl,λp ns hp h1 h2=>k _ _ _ _ (h p ns (m.fresh hp) h1 h2) (L2.gm.ts (cg hp)) (m.ln hp (cP.ofInts ns)) WR.v]
end
end WL
namespace WL
open PySem L2
theorem X0 {l:cH α}:gY (a::l) 0=some a:=fV (j:=0) (by rfl)
theorem aiQ {l:cH α}:gY (a::b::l) 1=some b:=fV (j:=1) (by rfl)
theorem aiP {l:cH α}:gY (a::b::c::l) 2=some c:=fV (j:=2) (by rfl)
theorem aiO {l:cH α}:gY (a::b::c::d::l) 3=some d:=fV (j:=3) (by rfl)
def aiJ:A3 (n+1+1) 1=some 1:=by unfold A3;rw[ao ∅,ao ∅];rfl
def aiI:A3 (n+1+1+1) 2=some 2:=by unfold A3;rw[ao ∅,ao ∅];rfl
def aiH:A3 (n+1+1+1+1) 3=some 3:=by unfold A3;rw[ao ∅,ao ∅];rfl
def gl {a:α}(h0:0<=i)(h:l[i.toNat]? =some a):gY l i=some a:=by have e:((i.toNat:Nat):Int)=i:= ∅;rw[<- e];show fV h
theorem ed {P:Mp ->Prop}(h:P M): ∃M0,Sm M0 M /\ P M0:=#[M,Sm.refl M,h]
def NB (d:fY)(M M':Mp):Prop:= ∀b,b≠d ->M' b=M b
theorem NB.refl (d:fY)(M:Mp):NB d M M:=λ_ _=>rfl
theorem NB.trans {M M1 M2:Mp}(a:NB d M M1)(b:NB d M1 M2):NB d M M2:=λc n=>(b c n).trans (a c n)
theorem NB.put:NB d M (um M d o):=λb n=>aR n
def Dr (M:Mp)(d l:fY):Prop:=gc λ(ns:cH Int) (i c s:Int)=>fA (M d=some (.lst [wr l,wi i,wi c,wi s])) (M l=some (.lst (ns.map wi))) (0<=i) (d≠l)
def Dr.put (h:Dr M d l)(hp:M p=none):Dr (um M p o) d l:=by let⟨ns,i,c,s,h1,h2,h3,h4⟩:=h;show#[ns,i,c,s,by rw[aR (ca h1 hp)];show h1,by rw[aR (ca h2 hp)];show h2,h3,h4]
def Dr.RD (h:Dr M d l)(hd:p≠d)(hl:p≠l):Dr (um M p o) d l:=by let⟨ns,i,c,s,h1,h2,h3,h4⟩:=h;show#[ns,i,c,s,by rw[aR hd.symm];show h1,by rw[aR hl.symm];show h2,h3,h4]
def Dr.ne (h:Dr M d l)(hp:M p=none):p≠d /\ p≠l:=by let⟨ns,i,c,s,h1,h2,h3,h4⟩:=h;show#[(ca h1 hp).symm,(ca h2 hp).symm]
def bZ (q:Int×Int):W:= .tup [wi q.1,wi q.2]
def gv (l:cH (Int×Int)):W:= .tup (l.map bZ)
def pairs_at {l:cH (Int×Int)}{i:Nat}(h:(l.map bZ)[i]? =some x): ∃q,l[i]? =some q /\ x=bZ q:=by
 rw[aK] at h;cases e:l[i]? with
 | none=>rw[e] at h;cases h
 | some q=>rw[e] at h;cases h;show#[q,rfl,rfl]
def A6 {l:cH Int}{i:Nat}(h:(l.map wi)[i]? =some x): ∃n,l[i]? =some n /\ x=wi n:=by
 rw[aK] at h;cases e:l[i]? with
 | none=>rw[e] at h;cases h
 | some q=>rw[e] at h;cases h;show#[q,rfl,rfl]
def jM (h:(hJ lo n)[i]? =some x):i<n /\ x=wi (lo+i):=by unfold hJ at h;rw[aK] at h;by_cases hi:i<n;rw[List.getElem?_range hi] at h;cases h;show#[hi,rfl];rw[List.getElem?_eq_none ⇑hi] at h;cases h
def jL:(hJ lo n).length=n:=by simp[hJ]
def lstK (o:fj MO)(k:cH W ->Prop):Prop:= ∃l,o=some (.lst l) /\ k l
def fQ (o:fj MO)(k:cH (cf×W) ->Prop):Prop:= ∃l,o=some (.dK l) /\ k l
def iV {α:Type}(o:fj α)(k:α ->Prop):Prop:= ∃a,o=some a /\ k a
def cr (C Q:Prop):Prop:=C /\ Q
def gF (b:Bool)(A B:Prop):Prop:=if b=true then A else B
def CP (M:Mp)(k:fY ->Prop):Prop:= ∀p,M p=none ->k p
def mP (p:fq)(xs:cH W)(M:Mp)(q:WK):Prop:=p xs M q
def Qe (x:W)(M:Mp)(q:Bool ->Mp ->Prop):Prop:= ∃k,x=wb k /\ q k M
def eB (x:W)(k:fY ->Prop):Prop:= ∃a,x=wr a /\ k a
def tupK (x:W)(k:cH W ->Prop):Prop:= ∃l,x= .tup l /\ k l
def Vj (M:Mp)(x:W)(k:Bool ->Prop):Prop:= ∃b,Ml M x b /\ k b
def i_ (x:W)(k:cf ->Prop):Prop:= ∃y,x=i9 y /\ k y
def N_ (xs:cH W)(keep:Mp ->Prop)(g:WG)(b:WS)(D:fI)(ρ:cq)(M1:Mp):Prop:= ∃I:Nat ->cq ->Mp ->Prop,fA (I 0 ρ M1) (∀i ρ M,i<=xs.length ->I i ρ M ->keep M) (∀i x ρ M,xs[i]? =some x ->I i ρ M ->g x ρ M λρ2 M2=>b {D with nx:=I (i+1),ct:=I (i+1),bk:=D.nx} ρ2 M2) (∀ρ M,I xs.length ρ M ->D.nx ρ M)
def sR (xs:cH W)(keep:Mp ->Prop)(own:Nat)(fr:cH Nat)(g:WG)(c:WT)(el:WE)(ρ:cq)(M1:Mp)(q:WK):Prop:=xs.length<=sizeLine /\ ∀p,M1 p=none -> ∃I:Nat ->cH W ->Mp ->Prop,fA (I 0 [] (um M1 p (.lst []))) (∀i ys M,i<=xs.length ->I i ys M ->keep M /\ M p=some (.lst ys) /\ ys.length<=i) (∀i x ys M,xs[i]? =some x ->I i ys M ->g x (ou own fr ρ) M λρ2 M2=>c ρ2 M2 λb M3=>if b=true then el ρ2 M3 λy M4=>M4 p=some (.lst ys) /\ I (i+1) (ys++ [y]) (um M4 p (.lst (ys++ [y]))) else I (i+1) ys M3) (∀ys M,I xs.length ys M ->q (wr p) M)
def aay:lstK (some (.lst l)) k=k l:=by apply propext;symm;(· rintro⟨_,h,k⟩;cases h;show k);(· intro h;show#[_,rfl,h])
def ahA:fQ (some (.dK l)) k=k l:=by apply propext;symm;(· rintro⟨_,h,k⟩;cases h;show k);(· intro h;show#[_,rfl,h])
def aas {k:α ->Prop}:iV (some x) k=k x:=by apply propext;symm;(· rintro⟨_,h,k⟩;cases h;show k);(· intro h;show#[_,rfl,h])
def ahG:cr True Q=Q:=by simp[cr]
def aa1:gF true A B=A:=by simp[gF]
def aa2:gF false A B=B:=by simp[gF]
def aiL:Qe (.v (.bl k)) M q=q k M:=by apply propext;symm;(· rintro⟨_,h,k⟩;cases h;show k);(· intro h;show#[_,rfl,h])
def gC:eB (.v (.ref x)) k=k x:=by apply propext;symm;(· rintro⟨_,h,k⟩;cases h;show k);(· intro h;show#[_,rfl,h])
def Q9:tupK (.tup x) k=k x:=by apply propext;symm;(· rintro⟨_,h,k⟩;cases h;show k);(· intro h;show#[_,rfl,h])
def J6:i_ (.v (.int i)) k=k (.inl i):=by apply propext;symm;(· rintro⟨y,h,z⟩;cases y<;>cases h;show z);(· intro h;show#[.inl i,rfl,h])
def zn:i_ (.v (.str i)) k=k (.inr i):=by apply propext;symm;(· rintro⟨y,h,z⟩;cases y<;>cases h;show z);(· intro h;show#[.inr i,rfl,h])
theorem _b {r:cq}:fK 0 (some x::r) M q=q x M:=rfl
theorem _a {r:cq}:fK 1 (x0::some x::r) M q=q x M:=rfl
theorem Z_ {r:cq}:fK 2 (x0::x1::some x::r) M q=q x M:=rfl
theorem Z9 {r:cq}:fK 3 (x0::x1::x2::some x::r) M q=q x M:=rfl
theorem Z8 {r:cq}:fK 4 (x0::x1::x2::x3::some x::r) M q=q x M:=rfl
theorem Z7 {r:cq}:fK 5 (x0::x1::x2::x3::x4::some x::r) M q=q x M:=rfl
theorem Z6 {r:cq}:fK 6 (x0::x1::x2::x3::x4::x5::some x::r) M q=q x M:=rfl
theorem Z5 {r:cq}:fK 7 (x0::x1::x2::x3::x4::x5::x6::some x::r) M q=q x M:=rfl
theorem Z4 {r:cq}:fK 8 (x0::x1::x2::x3::x4::x5::x6::x7::some x::r) M q=q x M:=rfl
theorem Z3 {r:cq}:fK 9 (x0::x1::x2::x3::x4::x5::x6::x7::x8::some x::r) M q=q x M:=rfl
theorem Ys {r:cq}:fK 10 (x0::x1::x2::x3::x4::x5::x6::x7::x8::x9::some x::r) M q=q x M:=rfl
theorem Yr {r:cq}:fK 11 (x0::x1::x2::x3::x4::x5::x6::x7::x8::x9::sZ::some x::r) M q=q x M:=rfl
theorem Yq {r:cq}:fK 12 (x0::x1::x2::x3::x4::x5::x6::x7::x8::x9::sZ::uE::some x::r) M q=q x M:=rfl
theorem Yp {r:cq}:fK 13 (x0::x1::x2::x3::x4::x5::x6::x7::x8::x9::sZ::uE::wD::some x::r) M q=q x M:=rfl
theorem Yo {r:cq}:fK 14 (x0::x1::x2::x3::x4::x5::x6::x7::x8::x9::sZ::uE::wD::yy::some x::r) M q=q x M:=rfl
theorem Yn {r:cq}:fK 15 (x0::x1::x2::x3::x4::x5::x6::x7::x8::x9::sZ::uE::wD::yy::z7::some x::r) M q=q x M:=rfl
theorem Ym {r:cq}:fK 16 (x0::x1::x2::x3::x4::x5::x6::x7::x8::x9::sZ::uE::wD::yy::z7::Cg::some x::r) M q=q x M:=rfl
theorem Yl {r:cq}:fK 17 (x0::x1::x2::x3::x4::x5::x6::x7::x8::x9::sZ::uE::wD::yy::z7::Cg::FL::some x::r) M q=q x M:=rfl
theorem Yk {r:cq}:fK 18 (x0::x1::x2::x3::x4::x5::x6::x7::x8::x9::sZ::uE::wD::yy::z7::Cg::FL::HE::some x::r) M q=q x M:=rfl
theorem Yj {r:cq}:fK 19 (x0::x1::x2::x3::x4::x5::x6::x7::x8::x9::sZ::uE::wD::yy::z7::Cg::FL::HE::Mh::some x::r) M q=q x M:=rfl
theorem Yi {r:cq}:fK 20 (x0::x1::x2::x3::x4::x5::x6::x7::x8::x9::sZ::uE::wD::yy::z7::Cg::FL::HE::Mh::QH::some x::r) M q=q x M:=rfl
theorem Yh {r:cq}:fK 21 (x0::x1::x2::x3::x4::x5::x6::x7::x8::x9::sZ::uE::wD::yy::z7::Cg::FL::HE::Mh::QH::UN::some x::r) M q=q x M:=rfl
theorem Yg {r:cq}:fK 22 (x0::x1::x2::x3::x4::x5::x6::x7::x8::x9::sZ::uE::wD::yy::z7::Cg::FL::HE::Mh::QH::UN::Z0::some x::r) M q=q x M:=rfl
theorem Yf {r:cq}:fK 23 (x0::x1::x2::x3::x4::x5::x6::x7::x8::x9::sZ::uE::wD::yy::z7::Cg::FL::HE::Mh::QH::UN::Z0::x22::some x::r) M q=q x M:=rfl
theorem aiU:wC x ρ M q=q x M:=rfl
theorem ahT:LM r a b ρ M q=a ρ M λx M1=>b ρ M1 λy M2=>r x y M2 q:=rfl
theorem ahN:_c r a ρ M q=a ρ M λx M1=>r x M1 q:=rfl
def aiT:wI C g (.v (.int i)) (.v (.int j)) M q=cr (C i j) (q (.v (g i j)) M):=by apply propext;symm;(· rintro⟨_,_,h1,h2,k⟩;cases h1;cases h2;show k);(· intro h;show#[_,_,rfl,rfl,h])
def ahY:_D g (.v (.int i)) (.v (.int j)) M q=q (.v (g i j)) M:=by apply propext;symm;(· rintro⟨_,_,h1,h2,k⟩;cases h1;cases h2;show k);(· intro h;show#[_,_,rfl,rfl,h])
def aiS:wU g (.v (.int i)) M q=q (.v (g i)) M:=by apply propext;symm;(· rintro⟨_,h,k⟩;cases h;show k);(· intro h;show#[_,rfl,h])
def ah1:T_ (.v (.int i)) (.v (.int j)) M q=q (wb (decide (i=j))) M:=by apply propext;symm;(· rintro⟨_,_,h1,h2,_,k⟩;cases h1;cases h2;simpa using k);(· intro h;show#[_,_,rfl,rfl,rfl, ⇑h])
def ahV:_p (.v (.int i)) (.v (.int j)) M q=q (wb (!decide (i=j))) M:=by apply propext;symm;(· rintro⟨_,_,h1,h2,_,k⟩;cases h1;cases h2;simpa using k);(· intro h;show#[_,_,rfl,rfl,rfl, ⇑h])
def ah0:T_ (.v (.str i)) (.v (.str j)) M q=q (wb (decide (i=j))) M:=by apply propext;symm;(· rintro⟨_,_,h1,h2,_,k⟩;cases h1;cases h2;simpa using k);(· intro h;show#[_,_,rfl,rfl,rfl, ⇑h])
def ahU:_p (.v (.str i)) (.v (.str j)) M q=q (wb (!decide (i=j))) M:=by apply propext;symm;(· rintro⟨_,_,h1,h2,_,k⟩;cases h1;cases h2;simpa using k);(· intro h;show#[_,_,rfl,rfl,rfl, ⇑h])
theorem Yv:xh a ρ M q=a ρ M λx M1=>Qe x M1 q:=rfl
theorem _O:Q0 a b ρ M q=a ρ M λc M1=>gF c (b ρ M1 q) (q false M1):=rfl
theorem ahR:_l a b ρ M q=a ρ M λc M1=>gF c (q true M1) (b ρ M1 q):=rfl
theorem _n:QJ a ρ M q=a ρ M λc M1=>q (!c) M1:=rfl
theorem YR:O4 a b ρ M q=a ρ M λx M1=>Qe x M1 λc M1=>gF c (b ρ M1 q) (q (wb false) M1):=rfl
theorem _k:UY a b ρ M q=a ρ M λx M1=>Qe x M1 λc M1=>gF c (q (wb true) M1) (b ρ M1 q):=rfl
theorem YA:O0 a ρ M q=a ρ M λx M1=>Qe x M1 λc M1=>q (wb (!c)) M1:=rfl
theorem U_:HX r r' a b c ρ M q=a ρ M λx M1=>b ρ M1 λy M2=>r x y M2 λz M3=>Qe z M3 λk M3=>gF k (c ρ M3 λy' M4=>r' y y' M4 q) (q (wb false) M3):=rfl
theorem _o:U0 ρ M q=q [] M:=rfl
theorem YJ:HS a r ρ M q=a ρ M λx M1=>r ρ M1 λxs M2=>q (x::xs) M2:=rfl
theorem _e:QI a ρ M q=a ρ M λxs M1=>cr (xs.length<=sizeLine) (q (.tup xs) M1):=rfl
theorem _s:QL a ρ M q=a ρ M λxs M1=>cr (xs.length<=sizeLine) (CP M1 λp=>q (wr p) (um M1 p (.lst xs))):=rfl
def QQ:QR (.v (.ref x)) (.v (.int i)) M q=lstK (M x) λl=>iV (gY l i) λu=>q u M:=by apply propext;symm;(· rintro⟨_,l,_,u,h1,h2,h3,h4,k⟩;cases h1;cases h2;show#[l,h3,u,h4,k]);(· rintro⟨l,h3,u,h4,k⟩;show#[_,l,_,u,rfl,rfl,h3,h4,k])
def QP:FO (.tup l) (.v (.int i)) M q=iV (gY l i) λu=>q u M:=by apply propext;symm;(· rintro⟨_,_,u,h1,h2,h4,k⟩;cases h1;cases h2;show#[u,h4,k]);(· rintro⟨u,h4,k⟩;show#[_,_,u,rfl,rfl,h4,k])
theorem T8:DN ρ M q=q none M:=rfl
def A7 (x:W)(k:Int ->Prop):Prop:= ∃i,x=wi i /\ k i
def Ke:A7 (.v (.int i)) k=k i:=by apply propext;symm;(· rintro⟨_,h,k⟩;cases h;show k);(· intro h;show#[_,rfl,h])
theorem Yz:HL a ρ M q=a ρ M λx M1=>A7 x λi=>q (some i) M1:=rfl
theorem ahP:_i r a lo hi ρ M q=a ρ M λx M1=>lo ρ M1 λl M2=>hi ρ M2 λu M3=>r x l u M3 q:=rfl
def _h:UU (.v (.ref x)) lo hi M q=lstK (M x) λl=>CP M λp=>q (wr p) (um M p (.lst (Dj l lo hi))):=by apply propext;symm;(· rintro⟨_,l,h1,h3,k⟩;cases h1;show#[l,h3,k]);(· rintro⟨l,h3,k⟩;show#[_,l,rfl,h3,k])
theorem ah3:_J r a ρ M q=a ρ M λxs M1=>r xs M1 q:=rfl
theorem YO:HY p a ρ M q=a ρ M λxs M1=>mP p xs M1 q:=rfl
def QO:Mn [.v (.ref x)] M q=lstK (M x) λl=>q (wi l.length) M:=by apply propext;symm;(· rintro(⟨_,l,h1,h2,k⟩ | ⟨_,h1,_⟩);(· cases h1;show#[l,h2,k]);cases h1);(· rintro⟨l,h3,k⟩;show .inl #[_,l,rfl,h3,k])
def _t:Mn [.tup l] M q=q (wi l.length) M:=by apply propext;symm;(· rintro(⟨_,l,h1,h2,k⟩ | ⟨_,h1,k⟩);(· cases h1);cases h1;show k);(· intro k;show .inr #[l,rfl,k])
def _Q:Vd [.v (.int i)] M q=q (wi (if i<0 then -i else i)) M:=by apply propext;symm;(· rintro⟨_,h,k⟩;cases h;show k);(· intro h;show#[_,rfl,h])
def FN:oE [.v (.ref x)] M q=lstK (M x) λl=>CP M λp=>q (wr p) (um M p (.lst l)):=by apply propext;symm;(· rintro⟨l,⟨_,h1,h2⟩ | h1,k⟩;(· cases h1;show#[l,h2,k]);cases h1);(· rintro⟨l,h3,k⟩;show#[l, .inl #[_,rfl,h3],k])
def FM:oE [.tup l] M q=CP M λp=>q (wr p) (um M p (.lst l)):=by apply propext;symm;(· rintro⟨l,⟨_,h1,h2⟩ | h1,k⟩;(· cases h1);cases h1;show k);(· intro k;show#[l, .inr rfl,k])
def Cj:uF [.v (.ref x)] M q=lstK (M x) λl=>q (.tup l) M:=by apply propext;symm;(· rintro⟨l,⟨_,h1,h2⟩ | h1,k⟩;(· cases h1;show#[l,h2,k]);cases h1);(· rintro⟨l,h3,k⟩;show#[l, .inl #[_,rfl,h3],k])
def _B:U3 K [x, .v (.ty T)] M q=iV (YV M x) λt=>iV (W.kitOne K t (.type T)) λb=>q (wb b) M:=by apply propext;symm;(· rintro⟨_,_,t,b,h1,h2,h3,k⟩;cases h1;show#[t,h2,b,h3,k]);(· rintro⟨t,h2,b,h3,k⟩;show#[_,_,t,b,rfl,h2,h3,k])
theorem P_:W.kitOne K (.type "int") (.type "int")=some true:=rfl
theorem NJ:W.kitOne K (.type "int") (.type "bool")=some false:=rfl
theorem P':W.kitOne K (.type "int") (.type "str")=some false:=rfl
theorem LZ:W.kitOne K (.type "int") (.type "tuple")=some false:=rfl
theorem NI:W.kitOne K (.type "int") (.type "list")=some false:=rfl
theorem NL:W.kitOne K (.type "bool") (.type "int")=some true:=rfl
theorem L1:W.kitOne K (.type "bool") (.type "bool")=some true:=rfl
theorem NK:W.kitOne K (.type "bool") (.type "str")=some false:=rfl
theorem J5:W.kitOne K (.type "bool") (.type "tuple")=some false:=rfl
theorem L0:W.kitOne K (.type "bool") (.type "list")=some false:=rfl
theorem P9:W.kitOne K (.type "str") (.type "int")=some false:=rfl
theorem NF:W.kitOne K (.type "str") (.type "bool")=some false:=rfl
theorem PZ:W.kitOne K (.type "str") (.type "str")=some true:=rfl
theorem LW:W.kitOne K (.type "str") (.type "tuple")=some false:=rfl
theorem NE:W.kitOne K (.type "str") (.type "list")=some false:=rfl
theorem GG:W.kitOne K (.type "NoneType") (.type "int")=some false:=rfl
theorem E1:W.kitOne K (.type "NoneType") (.type "bool")=some false:=rfl
theorem GF:W.kitOne K (.type "NoneType") (.type "str")=some false:=rfl
theorem C0:W.kitOne K (.type "NoneType") (.type "tuple")=some false:=rfl
theorem EZ:W.kitOne K (.type "NoneType") (.type "list")=some false:=rfl
theorem LV:W.kitOne K (.type "tuple") (.type "int")=some false:=rfl
theorem J0:W.kitOne K (.type "tuple") (.type "bool")=some false:=rfl
theorem LU:W.kitOne K (.type "tuple") (.type "str")=some false:=rfl
theorem Hw:W.kitOne K (.type "tuple") (.type "tuple")=some true:=rfl
theorem JZ:W.kitOne K (.type "tuple") (.type "list")=some false:=rfl
theorem NH:W.kitOne K (.type "list") (.type "int")=some false:=rfl
theorem LY:W.kitOne K (.type "list") (.type "bool")=some false:=rfl
theorem NG:W.kitOne K (.type "list") (.type "str")=some false:=rfl
theorem J1:W.kitOne K (.type "list") (.type "tuple")=some false:=rfl
theorem LX:W.kitOne K (.type "list") (.type "list")=some true:=rfl
def Vc:YQ r a b ρ M q=a ρ M λx M1=>eB x λp=>lstK (M1 p) λ_=>b ρ M1 λxs M2=>r x xs M2 q:=by unfold YQ IsL eB lstK;congr 1;funext x M1;apply propext;symm;(· rintro⟨⟨p,l,h1,h2⟩,k⟩;show#[p,h1,l,h2,k]);(· rintro⟨p,h1,l,h2,k⟩;show#[#[p,l,h1,h2],k])
def QZ:Mt r a ρ M q=a ρ M λx M1=>eB x λp=>lstK (M1 p) λ_=>r x [] M1 q:=by unfold Mt IsL eB lstK;congr 1;funext x M1;apply propext;symm;(· rintro⟨⟨p,l,h1,h2⟩,k⟩;show#[p,h1,l,h2,k]);(· rintro⟨p,h1,l,h2,k⟩;show#[#[p,l,h1,h2],k])
def FR:yB (.v (.ref x)) [y] M q=lstK (M x) λl=>cr (l.length<sizeLine) (q wn (um M x (.lst (l++ [y])))):=by apply propext;symm;(· rintro⟨_,l,_,h1,h2,h3,h4,k⟩;cases h1;cases h2;show#[l,h3,h4,k]);(· rintro⟨l,h3,h4,k⟩;show#[_,l,_,rfl,rfl,h3,h4,k])
def FP:yA (.v (.ref x)) [.v (.ref y)] M q=lstK (M x) λl=>lstK (M y) λl'=>cr (l.length+l'.length<=sizeLine) (q wn (um M x (.lst (l++l')))):=by apply propext;symm;(· rintro⟨_,_,l,l',h1,h2,h3,h4,h5,k⟩;cases h1;cases h2;show#[l,h3,l',h4,h5,k]);(· rintro⟨l,h3,l',h4,h5,k⟩;show#[_,_,l,l',rfl,rfl,h3,h4,h5,k])
def QW:QX (.v (.ref x)) (.v (.ref y)) M q=lstK (M x) λl=>lstK (M y) λl'=>cr (l.length+l'.length<=sizeLine) (CP M λp=>q (wr p) (um M p (.lst (l++l')))):=by apply propext;symm;(· rintro⟨_,_,l,l',h1,h2,h3,h4,h5,k⟩;cases h1;cases h2;show#[l,h3,l',h4,h5,k]);(· rintro⟨l,h3,l',h4,h5,k⟩;show#[_,_,l,l',rfl,rfl,h3,h4,h5,k])
theorem UR:HI a ρ M q=a ρ M λx M1=>Vj M1 x λk=>q k M1:=rfl
theorem YG:HQ ρ M q=CP M λp=>q (wr p) (um M p (.dK [])):=rfl
def Ms:DP a b ρ M q=a ρ M λx M1=>b ρ M1 λy M2=>eB x λp=>i_ y λk=>fQ (M2 p) λkvs=>iV (e9 kvs k) λz=>q z M2:=by unfold DP eB i_ fQ iV;congr 1;funext x M1;congr 1;funext y M2;apply propext;symm;(· rintro⟨p,kvs,k,z,h1,h2,h3,h4,h⟩;show#[p,h1,k,h3,kvs,h2,z,h4,h]);(· rintro⟨p,h1,k,h3,kvs,h2,z,h4,h⟩;show#[p,kvs,k,z,h1,h2,h3,h4,h])
def QV:Mr a b ρ M q=a ρ M λy M1=>b ρ M1 λx M2=>eB x λp=>i_ y λk=>fQ (M2 p) λkvs=>q (wb (e9 kvs k).isSome) M2:=by unfold Mr eB i_ fQ;congr 1;funext x M1;congr 1;funext y M2;apply propext;symm;(· rintro⟨p,kvs,k,h1,h2,h3,h⟩;show#[p,h1,k,h3,kvs,h2,h]);(· rintro⟨p,h1,k,h3,kvs,h2,h⟩;show#[p,kvs,k,h1,h2,h3,h])
def FQ:ue a b ρ M q=a ρ M λy M1=>b ρ M1 λx M2=>eB x λp=>i_ y λk=>fQ (M2 p) λkvs=>q (wb (!(e9 kvs k).isSome)) M2:=by unfold ue eB i_ fQ;congr 1;funext x M1;congr 1;funext y M2;apply propext;symm;(· rintro⟨p,kvs,k,h1,h2,h3,h⟩;show#[p,h1,k,h3,kvs,h2,h]);(· rintro⟨p,h1,k,h3,kvs,h2,h⟩;show#[p,kvs,k,h1,h2,h3,h])
def U8:Cn a b c ρ M q=a ρ M λx M1=>eB x λp=>fQ (M1 p) λ_=>b ρ M1 λy M2=>c ρ M2 λz M3=>i_ y λk=>fQ (M3 p) λkvs=>q ((e9 kvs k).getD z) M3:=by
 unfold Cn eB i_ fQ;congr 1;funext x M1;apply propext;symm;rintro⟨p,h1,⟨kvs,h2⟩,h⟩;exact#[p,h1,kvs,h2,?_];have e:(λy M2=>c ρ M2 λz M3=>cx λkvs k=>c8 (M3 p=some (.dK kvs)) (y=i9 k) (q ((e9 kvs k).getD z) M3))=(λy M2=>c ρ M2 λz M3=> ∃k,y=i9 k /\ ∃kvs,M3 p=some (.dK kvs) /\ q ((e9 kvs k).getD z) M3):=by funext y M2;congr 1;funext z M3;apply propext;symm;rintro⟨a,b,c,d,e⟩;show#[b,d,a,c,e];rintro⟨b,d,a,c,e⟩;show#[a,b,c,d,e]
 rw[<- e];show h;rintro⟨p,h1,kvs,h2,h⟩;exact#[p,h1,#[kvs,h2],?_];have e:(λy M2=>c ρ M2 λz M3=>cx λkvs k=>c8 (M3 p=some (.dK kvs)) (y=i9 k) (q ((e9 kvs k).getD z) M3))=(λy M2=>c ρ M2 λz M3=> ∃k,y=i9 k /\ ∃kvs,M3 p=some (.dK kvs) /\ q ((e9 kvs k).getD z) M3):=by funext y M2;congr 1;funext z M3;apply propext;symm;rintro⟨a,b,c,d,e⟩;show#[b,d,a,c,e];rintro⟨b,d,a,c,e⟩;show#[a,b,c,d,e]
 rw[e];show h
theorem IL:Gc a b D ρ M=a {nx:=b D,rt:=D.rt,bk:=D.bk,ct:=D.ct} ρ M:=rfl
theorem Y2:Ej D ρ M=D.nx ρ M:=rfl
theorem Y5:IN a D ρ M=a ρ M λ_ M1=>D.nx ρ M1:=rfl
theorem aaf:VL a D ρ M=a ρ M D.rt:=rfl
theorem ah6:Rt c a b D ρ M=c ρ M λk M1=>gF k (a D ρ M1) (b D ρ M1):=rfl
theorem aak:Rv a g D ρ M=a ρ M λx M1=>g x ρ M1 D.nx:=rfl
theorem aai:VP i a r D ρ M=fK i ρ M λx M=>a ρ M λy M1=>r x y M1 λz M2=>D.nx (ρ.set i (some z)) M2:=rfl
def IP:yM a b c D ρ M=c ρ M λz M1=>a ρ M1 λx M2=>b ρ M2 λy M3=>eB x λp=>i_ y λk=>fQ (M3 p) λkvs=>cr (kvs.length<sizeLine) (D.nx ρ (um M3 p (.dK (uV kvs k z)))):=by unfold yM eB i_ fQ cr;congr 1;funext z M1;congr 1;funext x M2;congr 1;funext y M3;apply propext;symm;(· rintro⟨p,kvs,k,h1,h2,h3,h4,h⟩;show#[p,h1,k,h3,kvs,h2,h4,h]);(· rintro⟨p,h1,k,h3,kvs,h2,h4,h⟩;show#[p,kvs,k,h1,h2,h3,h4,h])
theorem aah:Ru it g b D ρ M=it ρ M λxs keep M1=>N_ xs keep g b D ρ M1:=rfl
theorem YT:O7 i x ρ M q=q (ρ.set i (some x)) M:=rfl
def _U:Q2 [] ρ M q=q ρ M:=by simp[Q2]
def YU:O8 a b (x::r) ρ M q=a x ρ M λρ' M'=>b r ρ' M' q:=by apply propext;symm;(· rintro⟨_,_,h,k⟩;cases h;show k);(· intro h;show#[_,_,rfl,h])
def _S:Ve n a (.tup l) ρ M q=cr (l.length=n) (a l ρ M q):=by apply propext;symm;(· rintro⟨_,h,k,l⟩;cases h;show#[k,l]);(· rintro⟨h,l⟩;show#[_,rfl,h,l])
theorem _T:Vf a b s x ρ M q=a ρ M λo M1=>b ρ M1 λi M2=>s o i x M2 λM3=>q ρ M3:=rfl
def Yx:OZ (.v (.ref x)) (.v (.int i)) z M q=lstK (M x) λl=>iV (A3 l.length i) λj=>q (um M x (.lst (l.set j z))):=by apply propext;symm;(· rintro⟨_,l,_,j,h1,h2,h3,h4,k⟩;cases h1;cases h2;show#[l,h3,j,h4,k]);(· rintro⟨l,h3,j,h4,k⟩;show#[_,l,_,j,rfl,rfl,h3,h4,k])
def NN:E3 a ρ M q=a ρ M λx M1=>eB x λp=>lstK (M1 p) λl=>q l (λM'=>M' p=some (.lst l)) M1:=by unfold E3 eB lstK;congr 1;funext x M1;apply propext;symm;(· rintro⟨p,l,h1,h2,h⟩;show#[p,h1,l,h2,h]);(· rintro⟨p,h1,l,h2,h⟩;show#[p,l,h1,h2,h])
theorem aaY:SI a ρ M q=a ρ M λx M1=>tupK x λl=>q l (λ_=>True) M1:=rfl
def Nk (xs:cH W)(k:W ->Prop):Prop:= ∃x,xs= [x] /\ k x
def R8:Nk [x] k=k x:=by apply propext;symm;(· rintro⟨_,h,k⟩;cases h;show k);(· intro h;show#[_,rfl,h])
def NM:E2 a ρ M q=a ρ M λxs M1=>Nk xs λx=>A7 x λj=>cr (-(2 ^ 62) <=j /\ j<2 ^ 62) (q (hJ 0 j.toNat) (λ_=>True) M1):=by unfold E2 Nk A7 cr;congr 1;funext x M1;apply propext;symm;(· rintro⟨j,h1,h2,h3,h⟩;show#[_,h1,j,rfl,#[h2,h3],h]);(· rintro⟨_,h1,j,rfl,⟨h2,h3⟩,h⟩;show#[j,h1,h2,h3,h])
theorem YL:HV it own fr g c el ρ M q=it ρ M λxs keep M1=>sR xs keep own fr g c el ρ M1 q:=rfl
theorem Z2:UQ ρ M q=q true M:=rfl
def sl1:(1<=sizeLine)=True:=by rw[cY];decide
def Pj:(2<=sizeLine)=True:=by rw[cY];decide
def sl3:(3<=sizeLine)=True:=by rw[cY];decide
def sl4:(4<=sizeLine)=True:=by rw[cY];decide
def sl5:(5<=sizeLine)=True:=by rw[cY];decide
def sl0:(0<=sizeLine)=True:=by simp
def du [Decidable c](h1:c ->A)(h2:¬c ->B):gF (decide c) A B:=by unfold gF;by_cases h:c;rw[ao (a8 h)];show h1 h;rw[ak ⇑h];show h2 h
def SK [Decidable c](h1:¬c ->A)(h2:c ->B):gF (!decide c) A B:=by unfold gF;by_cases h:c;rw[ak ⇑h];show h2 h;rw[ao ⇑h];show h1 h
theorem iZ {M1:Mp}(f:W ->fj W)(hz:xs.length<=sizeLine)(l7: ∀M,Sm M1 M ->keep M)(hs: ∀ (i:Nat) x,xs[i]? =some x -> ∀ (M:Mp) (N:fj W ->Mp ->Prop),Sm M1 M ->N (f x) M ->g x (ou own fr ρ) M λρ2 M2=>c ρ2 M2 λb M3=>gF b (el ρ2 M3 λy M4=>N (some y) M4) (N none M3))(hq: ∀p,M1 p=none ->q (wr p) (um M1 p (.lst (xs.filterMap f)))):sR xs keep own fr g c el ρ M1 q:=G4 f hz l7 hs hq
end WL
namespace WL
def hold (f:cq ->Mp ->Prop)(ρ:cq)(M:Mp):Prop:=f ρ M
theorem e_ (h:f ρ M):hold f ρ M:=h
theorem cE:Gc a b D ρ M=a {nx:=hold (b D),rt:=D.rt,bk:=D.bk,ct:=D.ct} ρ M:=rfl
theorem qY (Mid:cq ->Mp ->Prop)(cX: ∀ρ M,Mid ρ M ->R D ρ M)(h: ∀N:cq ->Mp ->Prop,(∀ρ M,Mid ρ M ->N ρ M) ->Rt c a b {nx:=N,rt:=D.rt,bk:=D.bk,ct:=D.ct} ρ M):Gc (Rt c a b) R D ρ M:=h _ cX
theorem jW (I:Nat ->cq ->Mp ->Prop)(h0:I 0 ρ M1)(hk: ∀i ρ M,i<=xs.length ->I i ρ M ->keep M)(hs: ∀i x ρ M,xs[i]? =some x ->I i ρ M -> ∀N:cq ->Mp ->Prop,(∀ρ' M',I (i+1) ρ' M' ->N ρ' M') ->g x ρ M λρ2 M2=>b {nx:=N,rt:=D.rt,bk:=D.nx,ct:=N} ρ2 M2)(hd: ∀ρ M,I xs.length ρ M ->D.nx ρ M):N_ xs keep g b D ρ M1:=#[I,h0,hk,λi x ρ M hx hI=>hs i x ρ M hx hI _ λ_ _ h=>h,hd]
end WL
namespace WL
open L2
def Rs:WS:=λ_ _ _=>False
instance {K:WW}:IS K Ik Rs where
 imp:=λ_ _ _ _ _ _ _ h _=>h.elim
end WL
namespace WP
open PySem L2 WL
abbrev Pt:=cH (Int×Int)
def look:Pt ->Int ->Int
 | [],_=>0
 | q::r,x=>if q.1=x then q.2 else look r x
def dZ (p:Int)(l:Pt):Prop:=(∀q∈l,0<q.2 /\ q.2<p) /\ l.Pairwise (λa b=>a.1<b.1)
def fM:Pt ->Int ->Int
 | [],_=>0
 | q::r,x=>(if q.1=x then q.2 else 0)+fM r x
def gA (a b:Pt)(x:Int):fM (a++b) x=fM a x+fM b x:=by
 induction a with
 | nil=>simp[fM]
 | cons q r ih=>rw[List.cons_append,fM,fM,ih];lia
def uL (a:Pt)(q:Int×Int)(x:Int):fM (a++ [q]) x=fM a x+if q.1=x then q.2 else 0:=by rw[gA];simp[fM]
def gQ (h: ∀q∈l,q.1≠x):look l x=0:=by
 induction l with
 | nil=>rfl
 | cons q r ih=>rw[look,ak (h q (by simp)),ih λz hz=>h z (by simp[hz])]
def oH (h:l.Pairwise (λa b=>a.1<b.1))(x:Int):fM l x=look l x:=by
 induction l with
 | nil=>rfl
 | cons q r ih=>rw[cc] at h;rw[fM,look,ih h.2];by_cases e:q.1=x;rw[ao e,ao e,gQ];lia;intro z hz;have:=h.1 z hz;lia;rw[ak e,ak e];lia
def CW (hp:0<p)(h:dZ p l)(x:Int):0<=look l x /\ look l x<p:=by
 induction l with
 | nil=>rw[look];lia
 | cons q r ih=>rw[look];split;have:=h.1 q (by simp);lia;show ih #[λz hz=>h.1 z (by simp[hz]),(cc.mp h.2).2]
theorem dZ.tail {r:Pt}(h:dZ p (q::r)):dZ p r:=#[λz hz=>h.1 z (by simp[hz]),(cc.mp h.2).2]
theorem dZ.nil:dZ p []:=#[λ_ h=>absurd h (by simp),List.Pairwise.nil]
theorem uq {p p':Int}: ∀ {a b:Pt},dZ p a ->dZ p' b ->(∀x,look a x=look b x) ->a=b
 | [],[],_,_,_=>rfl
 | [],q::r,_,hb,h=>by have:=h q.1;rw[look,look,ao rfl] at this;have:=hb.1 q (by simp);lia
 | q::r,[],ha,_,h=>by have:=h q.1;rw[look,look,ao rfl] at this;have:=ha.1 q (by simp);lia
 | q ::r,q'::r',ha,hb,h=>by
  have pa:=ha.1 q (by simp);have pb:=hb.1 q' (by simp);have sa:=(cc.mp ha.2).1;have sb:=(cc.mp hb.2).1;have e1:q.1=q'.1:=by obtain l | l | l:=Int.lt_trichotomy q.1 q'.1;have e:=h q.1;rw[look,ao rfl,look,ak ∅,gQ (λz hz=>by have:=sb z hz;lia)] at e;lia;show l;have e:=h q'.1;rw[look,ak ∅,gQ (λz hz=>by have:=sa z hz;lia),look,ao rfl] at e;lia
  have e2:q.2=q'.2:=by have e:=h q.1;rw[look,ao rfl,look,ao e1.symm] at e;show e
  have e:r=r':=uq ha.tail hb.tail λx=>by by_cases hx:q.1=x;rw[gQ (λz hz=>by have:=sa z hz;lia),gQ (λz hz=>by have:=sb z hz;lia)];have e:=h x;rwa [look,ak hx,look,ak ∅] at e
  rw[e,Prod.ext e1 e2]
def i0 (p:Int):Pt ->Int ->Int ->Pt
 | [],x,s=>if s % p=0 then [] else [(x,s % p)]
 | q::r,x,s=>if x<q.1 then(if s % p=0 then q::r else(x,s % p)::q::r) else if x=q.1 then(if(q.2+s) % p=0 then r else(x,(q.2+s) % p)::r) else q::i0 p r x s
def qQ (p:Int)(ps:Pt):Pt:=ps.foldl (λa q=>i0 p a q.1 q.2) []
def Hb (h:z∈i0 p l x s):z.1=x \/ z∈l:=by
 induction l with
 | nil=>rw[i0] at h;split at h;cases h;left;rw[bg.mp h]
 | cons q r ih=>rw[i0] at h;split at h;split at h;show .inr h;obtain h | h:=aV.mp h;left;rw[h];show .inr h;split at h;split at h;show .inr (by simp[h]);obtain h | h:=aV.mp h;left;rw[h];show .inr (by simp[h]);obtain h | h:=aV.mp h;show .inr (by simp[h]);obtain h | h:=ih h;show .inl h;show .inr (by simp[h])
def CS {p s:Int}(hp:0<p)(h:¬s % p=0):0<s % p /\ s % p<p:=by have:=Int.emod_nonneg s (show p≠0 by lia);have:=Int.emod_lt_of_pos s hp;lia
def Ha (hp:0<p)(h:dZ p l):dZ p (i0 p l x s):=by
 induction l with
 | nil=>rw[i0];split;show dZ.nil;rename_i hs;show#[λq hq=>by rw[bg.mp hq];show CS hp hs,by simp]
 | cons q r ih=>have sa:=(cc.mp h.2).1;rw[i0];split;rename_i hx;split;show h;rename_i hs;exact#[λz hz=> ?_,cc.mpr #[λz hz=> ?_,h.2]];obtain rfl | hz:=aV.mp hz;show CS hp hs;show h.1 z hz;obtain rfl | hz:=aV.mp hz;show hx;have:=sa z hz;change x<z.1;lia;split;rename_i hx;split;show h.tail;rename_i hs;exact#[λz hz=> ?_,cc.mpr #[λz hz=> ?_,h.tail.2]];obtain rfl | hz:=aV.mp hz;show CS hp hs;show h.1 z (by simp[hz]);have:=sa z hz;change x<z.1;lia;rename_i h1 h2;have ih':=ih h.tail;exact#[λz hz=> ?_,cc.mpr #[λz hz=> ?_,ih'.2]];obtain rfl | hz:=aV.mp hz;show h.1 z (by simp);show ih'.1 z hz;obtain e | hz:=Hb hz;lia;show sa z hz
def CY (hp:0<p)(h:dZ p l)(y:Int):look (i0 p l x s) y=if y=x then(look l x+s) % p else look l y:=by
 induction l with
 | nil=>rw[i0];by_cases hs:s % p=0;rw[ao hs];simp[look,hs];rw[ak hs];by_cases e:y=x;subst e;simp[look];rw[ak e];simp[look,dD e]
 | cons q r ih=>
  have sa:=(cc.mp h.2).1;have qr:=h.1 q (by simp);rw[i0];split;rename_i hx;have hn:look (q::r) x=0:=gQ (λz hz=>by obtain rfl | hz:=aV.mp hz;lia;have:=sa z hz;lia);rw[hn,Int.zero_add];split;rename_i hs;by_cases e:y=x;rw[ao e,e,hn,hs];rw[ak e];by_cases e:y=x;rw[ao e,look,ao e.symm];rw[ak e,look,ak (dD e)];split;rename_i hx;have hq:look (q::r) x=q.2:=by rw[look,ao hx.symm]
  rw[hq];split;rename_i hs;by_cases e:y=x;rw[ao e,hs,gQ (λz hz=>by have:=sa z hz;lia)];rw[ak e,look,ak ∅];by_cases e:y=x;rw[ao e,look,ao e.symm];rw[ak e,look,ak (dD e),look,ak ∅];rename_i h1 h2;rw[look,ih h.tail];by_cases e:y=x;rw[ao e,ao e,ak ∅];conv=>rhs;rw[look,ak ∅]
  rw[ak e,ak e,look]
def ve (p:Int)(ps:Pt)(q:Int×Int):qQ p (ps++ [q])=i0 p (qQ p ps) q.1 q.2:=by unfold qQ;rw[List.foldl_append];rfl
def iF {α:Type}{P:cH α ->Prop}(h0:P [])(h1: ∀l a,P l ->P (l++ [a]))(l:cH α):P l:=by
 have key: ∀n:Nat, ∀l:cH α,l.length=n ->P l:=by
  intro n;induction n with
  | zero=>intro l hl;rw[List.length_eq_zero_iff.mp hl];show h0
  | succ n ih=>
   intro l hl;have l5:l≠ []:=by intro e;rw[e] at hl;cases hl
   rw[<- List.dropLast_concat_getLast l5];show h1 _ _ (ih _ (by rw[List.length_dropLast];lia))
 show key _ l rfl
def gi (hp:0<p)(ps:Pt):dZ p (qQ p ps):=by
 induction ps using iF with
 | h0=>show dZ.nil
 | h1 l a ih=>rw[ve];show Ha hp ih
def vi (hp:0<p)(ps:Pt)(x:Int):look (qQ p ps) x=fM ps x % p:=by
 induction ps using iF with
 | h0=>simp[qQ,look,fM]
 | h1 l a ih=>rw[ve,CY hp (gi hp l),uL];by_cases e:x=a.1;subst e;rw[ao rfl,ao rfl,ih,Int.emod_add_emod];rw[ak e,ak (dD e),ih,Int.add_zero]
def Hc:(i0 p l x s).length<=l.length+1:=by
 induction l with
 | nil=>rw[i0];split<;>simp
 | cons q r ih=>rw[i0];split;split<;>simp;split;split<;>simp<;>lia;simp;show ih
def jk (p:Int)(ps:Pt):(qQ p ps).length<=ps.length:=by
 induction ps using iF with
 | h0=>simp[qQ]
 | h1 l a ih=>rw[ve,aE];show ar Hc (by simp;show ih)
def wz (m:Pt):cH (cf×W):=m.map λq=>((Sum.inl q.1:cf),wi q.2)
def wG (m:Pt)(x v:Int):Pt:=if(m.any λq=>decide (q.1=x))=true then m.map (λq=>if q.1=x then(q.1,v) else q) else m++ [(x,v)]
def uC {m:Pt}:(m.any λq=>decide (q.1=x))=true↔x∈m.map (·.1):=by rw[List.any_eq_true,b_];symm;rintro⟨q,hq,e⟩;show#[q,hq, ⇑e];rintro⟨q,hq,e⟩;show#[q,hq, ⇑e]
def E7 (a b:Int):decide ((Sum.inl a:cf)=Sum.inl b)=decide (a=b):=by simp
def Eu (m:Pt)(x v:Int):uV (wz m) (.inl x) (wi v)=wz (wG m x v):=by
 unfold uV wG;have e:((wz m).any λkv=>decide (kv.1=(Sum.inl x:cf)))=m.any λq=>decide (q.1=x):=by unfold wz;rw[List.any_map];congr 1;funext q;show E7 _ _
 rw[e];split;unfold wz;rw[a5,a5];apply dI;intro q _;change(if(Sum.inl q.1:cf)=Sum.inl x then((Sum.inl q.1:cf),wi v) else(Sum.inl q.1,wi q.2))=((Sum.inl (if q.1=x then(q.1,v) else q).1:cf),wi (if q.1=x then(q.1,v) else q).2)
 by_cases hq:q.1=x;rw[ao (by rw[hq]),ao hq];rw[ak (λz=>hq (Sum.inl.inj z)),ak hq];unfold wz;rw[aB];rfl
def DQ (m:Pt)(x:Int):e9 (wz m) (.inl x)=(m.find? λq=>decide (q.1=x)).map λq=>wi q.2:=by
 unfold e9 wz;rw[List.find?_map,Option.map_map];have e:((λkv:cf×W=>decide (kv.1=(Sum.inl x:cf))) ∘ λq:Int×Int=>((Sum.inl q.1:cf),wi q.2))=λq=>decide (q.1=x):=by funext q;show E7 _ _
 rw[e];rfl
def xQ:(m.find? λq=>decide (q.1=x))=none /\ look m x=0 /\ x∉m.map (·.1) \/ ∃q,(m.find? λq=>decide (q.1=x))=some q /\ look m x=q.2:=by
 induction m with
 | nil=>show .inl #[rfl,rfl,by simp]
 | cons q r ih=>
  rw[cQ,look];by_cases e:q.1=x;simp![e,b0];show .inr #[q,rfl,by simp];simp![e,decide_false,bH];rcases ih with⟨h1,h2,h3⟩ | h
  show .inl #[h1,h2,by rw[aP,aV,not_or];show#[dD e,h3]];show .inr h
def Fc (m:Pt)(x:Int):(e9 (wz m) (.inl x)).getD (wi 0)=wi (look m x):=by rw[DQ];rcases xQ (m:=m) (x:=x) with⟨h1,h2,_⟩ | ⟨q,h1,h2⟩ <;>rw[h1,h2] <;>rfl
def HZ (h:x∈m.map (·.1)):e9 (wz m) (.inl x)=some (wi (look m x)):=by
 rw[DQ];rcases xQ (m:=m) (x:=x) with⟨_,_,h3⟩ | ⟨q,h1,h2⟩
 show absurd h h3;rw[h1,h2];rfl
def AZ (m:Pt):(wz m).map (·.1)=(m.map (·.1)).map Sum.inl:=by unfold wz;rw[a5,a5];rfl
def xG:(wG m x v).map (·.1)=if x∈m.map (·.1) then m.map (·.1) else m.map (·.1)++ [x]:=by unfold wG;by_cases h:x∈m.map (·.1);rw[ao (uC.mpr h),ao h,a5];apply dI;intro q _;change(if q.1=x then(q.1,v) else q).1=q.1;split<;>rfl;rw[ak (λe=>h (uC.mp e)),ak h,aB];rfl
def EK (h:(m.map (·.1)).Nodup):((wG m x v).map (·.1)).Nodup:=by rw[xG];by_cases e:x∈m.map (·.1);rw[ao e];show h;rw[ak e];show EJ h e
def AW:(wG m x v).length<=m.length+1:=by unfold wG;split;rw[af];lia;simp
def xE:look (wG m x v) y=if y=x then v else look m y:=by
 unfold wG;by_cases h:x∈m.map (·.1);rw [ao (uC.mpr h)];have key: ∀m:Pt,look (m.map (λq=>if q.1=x then(q.1,v) else q)) y=if y=x /\ x∈m.map (·.1) then v else look m y:=by
  intro m;induction m with
  | nil=>simp[look]
  | cons q r ih=>
   rw[aP,look,look,ih];by_cases hq:q.1=x;by_cases hy:y=x;subst hy;simp[hq];simp[hq,hy,dD hy];by_cases hy:y=x;subst hy;have:(y∈(q::r).map (·.1))=(y∈r.map (·.1)):=by rw[aP,aV];simp[dD hq]
   simp![this,hq,bH];simp[hq,hy]
 rw[key];simp[h];rw [ak (λe=>h (uC.mp e))];have key: ∀m:Pt,x∉m.map (·.1) ->look (m++ [(x,v)]) y=if y=x then v else look m y:=by
  intro m;induction m with
  | nil=>intro _;by_cases e:y=x;simp[look,e];simp[look,e,dD e]
  | cons q r ih=>intro hn;rw[aP,aV,not_or] at hn;rw[List.cons_append,look,look,ih hn.2];by_cases e:y=x;subst e;simp[dD hn.1];simp[e]
 show key m h
def Uf (m:Pt)(ns:cH Int):Pt:=ns.filterMap λx=>if look m x=0 then none else some (x,look m x)
theorem AV {m:Pt}{x:Int}: ∀ {ns:cH Int},ns.Nodup ->look (Uf m ns) x=if x∈ns then look m x else 0
 | [],_=>rfl
 | n ::r,h=>by rw[List.nodup_cons] at h;have ih:=AV (m:=m) (x:=x) h.2;unfold Uf at ih ⊢;rw[List.filterMap_cons];by_cases e:look m n=0;rw[ao e];change look (r.filterMap _) x=_;rw[ih];by_cases hx:x=n;subst hx;rw[ak h.1,ao (by simp),e];simp[hx];rw[ak e];change look ((n,look m n)::r.filterMap _) x=_;rw[look,ih];by_cases hx:x=n;subst hx;rw[ao rfl,ao (by simp)];rw[ak (dD hx)];simp[hx]
def FZ {ns:cH Int}(h1:ns.Pairwise (· <= ·))(h2:ns.Nodup):ns.Pairwise (· < ·):=by exact(List.Pairwise.and h1 h2).imp ?_;rintro a b ⟨h,n⟩;lia
def Eb (hp:0<p)(hn:(m.map (·.1)).Nodup)(ht: ∀x,look m x=fM ps x % p)(jU:ns.Perm (m.map (·.1)))(hs:ns.Pairwise (· <= ·)):Uf m ns=qQ p ps:=by have nd:=jU.nodup_iff.mpr hn;have st:=FZ hs nd;exact uq (p:=p) #[?_,?_] (gi hp ps) λx=> ?_;intro q hq;let⟨x,hx,e⟩:=List.mem_filterMap.mp hq;split at e;cases e;rename_i h0;cases e;have:=ht x;have:=Int.emod_nonneg (fM ps x) (show p≠0 by lia);have:=Int.emod_lt_of_pos (fM ps x) hp;change 0<look m x /\ look m x<p;lia;unfold Uf;exact List.Pairwise.filterMap _ ?_ st;intro a b Fb c hc d hd;split at hc<;>cases hc;split at hd<;>cases hd;show Fb;rw[AV nd,vi hp];split;show ht x;rename_i hx;rw[<- ht x,gQ];intro q hq e;show hx (jU.mem_iff.mpr (by rw[<- e];show List.mem_map_of_mem hq))
def HD (_:Pt):Prop:=True
theorem Dd:HD ps:=trivial
def AT (h:k∈(wG m x v).map (·.1)):k=x \/ k∈m.map (·.1):=by rw[xG] at h;split at h;show .inr h;obtain h | h:=be.mp h;show .inr h;show .inl (bg.mp h)
end WP
namespace WQ
open PySem L2 WL WP
def V5:fq:=λxs M q=>eZ λ(d l:fY) (n:Int)=>gy (xs= [wr d,wi n]) (Dr M d l) (0<n) (n<1073741824) (∀ (r:Int) (M':Mp),0<=r ->r<n ->Dr M' d l ->NB d M M' ->q (wi r) M')
def pP:fq:=λxs M q=>cx λ(d l:fY)=>c8 (xs= [wr d]) (Dr M d l) (∀ (p:Int) (M':Mp),(p=2 \/ p=3 \/ p=5 \/ p=7) ->Dr M' d l ->NB d M M' ->q (wi p) M')
def Pz:fq:=λxs M q=>eZ λ(a:fY) (p:Int) (ps:Pt)=>lz (xs= [wi p,wr a]) (M a=some (.lst (ps.map bZ))) (0<p) (HD ps) (ps.length<=16000000) (q (gv (qQ p ps)) M)
def mv (by_:Int)(l:Pt):Pt:=l.map λz=>(z.1+by_,z.2)
def RQ:fq:=λxs M q=>cx λ(uX:Pt) (b:Int)=>c8 (xs= [gv uX,wi b]) (uX.length<=16000000) (q (gv (mv b uX)) M)
def aao:fq:=λxs M q=> ∃i:Int,xs= [wi i] /\ q (wb true) M
def RS:fq:=λxs M q=>cx λ(p:Int) (uX:Pt)=>fA (xs= [wi p,gv uX]) (dZ p uX) (uX.length<=16000000) (q (wb true) M)
def RY:fq:=λxs M q=>eZ λ(p:Int) (a b:Pt)=>lz (xs= [wi p,gv a,gv b]) (0<p) (HD (a++b)) (a.length<=8000000) (b.length<=8000000) (q (gv (qQ p (a++b))) M)
def tm (n:Int)(l:Pt):Pt:=l.map λz=>(z.1,z.2*n)
def RN:fq:=λxs M q=>eZ λ(p:Int) (a:Pt) (n:Int)=>lz (xs= [wi p,gv a,wi n]) (0<p) (HD (tm n a)) (a.length<=40000) (∀z∈a,0<=z.2 /\ z.2<1000) (q (gv (qQ p (tm n a))) M)
def EL (b n:Int)(l:Pt):Pt:=l.map λz=>(z.1+b,z.2*n)
def aan:fq:=λxs M q=>sW λ(p:Int) (a b:Pt) (y n:Int)=>Lj (xs= [wi p,gv a,gv b,wi y,wi n]) (0<p) (HD (a++EL y n b)) (a.length<=8000000) (b.length<=8000000) (∀z∈b,0<=z.2 /\ z.2<1000) (q (gv (qQ p (a++EL y n b))) M)
theorem big (h:n<=16000000):n<=sizeLine:=ar h (by rw[cY];decide)
theorem kx (h:n<=16000000):n<sizeLine:=Nat.lt_of_le_of_lt h (by rw[cY];decide)
theorem qS:(mv b l).length=l.length:=af _
def Nz:mv 0 l=l:=by
 unfold mv;have:(λz:Int×Int=>(z.1+0,z.2))=id:=by funext z;rw[Int.add_zero];rfl
 rw[this,List.map_id]
def Zk:look (mv b l) x=look l (x - b):=by
 induction l with
 | nil=>rfl
 | cons q r ih=>change look ((q.1+b,q.2)::mv b r) x=_;rw[look,look,ih];by_cases e:q.1+b=x;rw[ao e,ao ∅];rw[ak e,ak ∅]
def Cq:fM (tm n l) x=fM l x*n:=by
 induction l with
 | nil=>simp[tm,fM]
 | cons q r ih=>change fM ((q.1,q.2*n)::tm n r) x=_;rw[fM,fM,ih,Int.add_mul];split<;>simp
def CQ:EL b n l=tm n (mv b l):=by unfold EL tm mv;rw[a5];rfl
def Rg:tm 1 l=l:=by
 unfold tm;have:(λz:Int×Int=>(z.1,z.2*1))=id:=by funext z;rw[Int.mul_one];rfl
 rw[this,List.map_id]
theorem JF (hp:0<p)(h:dZ p a):qQ p a=a:=uq (gi hp a) h λx=>by rw[vi hp,oH h.2];have:=CW hp h x;show Int.emod_eq_of_lt this.1 this.2
def mW (hp:0<p)(a:Pt)(x:Int):fM (qQ p a) x=fM a x % p:=by rw[oH (gi hp a).2,vi hp]
def Cr:fM (mv b l) x=fM l (x - b):=by
 induction l with
 | nil=>rfl
 | cons q r ih=>change fM ((q.1+b,q.2)::mv b r) x=_;rw[fM,fM,ih];by_cases e:q.1+b=x;rw[ao e,ao ∅];rw[ak e,ak ∅]
theorem Kx (h:HD a):HD (tm n a):=trivial
def K1 (q:Int×Int):G3 (bZ q)=some (.tup [.int q.1, .int q.2]):=by simp[bZ,G3,nr]
theorem vV: ∀l:Pt,nr (l.map bZ)=some (l.map λq=> .tup [.int q.1, .int q.2])
 | []=>rfl
 | q::r=>by rw[aP,nr,K1,vV r];rfl
def Jn (l:Pt):Dt:= .tup (l.map λq=> .tup [.int q.1, .int q.2])
def Oj (l:Pt):G3 (gv l)=some (Jn l):=by rw[gv,G3,vV];rfl
theorem vQ: ∀l:Pt,km (l.map λq=> .tup [.int q.1, .int q.2]) <=1
 | []=>by simp[km]
 | q::r=>by rw[aP,km];have:=vQ r;simp![tY,km];lia
def Ea (K:WW):Sp:=λvs H Q _=>cx λ(a:fY) (ns:cH Int)=>c8 (vs= [.ref a]) (ij K H a (ns.map V.int)) (∀ (d l:fY) (ms:cH Int) (H':Hp),d≠l ->H' d=some (.lst [.ref l, .int 0, .int 0, .int 11]) ->H' l=some (.lst (ms.map V.int)) ->Q (.ref d) H')
def Ak (K:WW):Sp:=λvs H Q _=>cx λ(a:fY) (ns:cH Int)=>c8 (vs= [.ref a]) (ij K H a (ns.map V.int)) (∀H',Q (.bl true) H')
def Wj (F:BR K x qual st f fd)(S:cw N [z] (aU st))(hN:2<=N.length)(jV: ∀ (cdv:df) (A:Around) (outer:cH Env) (s:dG) (H:Hp) (E:XK),e7 k (A.deeper (PyProof.Rows.envOfC qual (aU st) s.heap.objs.size f cdv)) ->∃ R,zY (eQ fw P w K mg base N qual (aU st) f cdv A outer s H E).LR (dS st) (Rh (Iv (xo (Ea K) [] E0 (Is (MA 0) FX)) (md 1)) R) /\∃w',IS K R w' /\ ∀d l M,Dr M d l ->w' {nx:=λ_ _=>False,rt:=λx _=>x=wb true} (none::some (wr d)::List.replicate (N.length - 2) none) M): bI P w K mg base fw (k+1) f fd [z] (Ak K):=by
 exact BR.ok F S (λvs H Q E ⟨a,ns,h,_,_⟩=>by rw[h];rfl) λcdv A outer s H vs Q E hr h=> ?_;let⟨R,h1,w',h2,h3⟩:=jV cdv A outer s H E hr;let⟨a,ns,rfl,hs,hq⟩:=h;exact#[_,h1,?_];let⟨n,hn⟩: ∃n,N.length=n+2:=#[N.length - 2, ∅]
 have e0:L2.start N [V.ref a]=some (V.ref a)::none::List.replicate n none:=by unfold L2.start;rw[hn];rfl
 rw[e0];exact#[_,rfl,a,ns,rfl,hs,λd l ms H' l5 hd hl=> ?_];change R _ _ H';exact h2.imp (none::some (wr d)::List.replicate (N.length - 2) none) (um (um (λ_=>none) l (.lst (ms.map wi))) d (.lst [wr l,wi 0,wi 0,wi 11])) _ H' _ _ #[#[?_,λi y e=> ?_],λb o e=> ?_] (h3 d l _ #[ms,0,0,11,am,by rw[aR (dD l5),am],⋯,l5]) #[λ_ _ _ _ h=>h.elim,λy M' v H2 e _ _ r=> ?_,λ_ _ _ _ h=>h.elim,λ_ _ _ _ h=>h.elim];simp[hn];match i with
 | 0=>simp at e
 | 1=>simp at e;subst e;show#[.ref d,rfl,WR.v]
 | i+2=>simp[dt] at e
 by_cases hb:b=d;subst hb;rw[am] at e;cases e;show#[_,hd,cP.cons WR.v (cP.cons WR.v (cP.cons WR.v (cP.cons WR.v cP.nil)))];rw[aR hb] at e;by_cases hb':b=l;subst hb';rw[am] at e;cases e;show#[_,hl,cP.ofInts ms];rw[aR hb'] at e;cases e;subst e;rw[r.eq];show hq H2
abbrev Rd:=Int×Pt
def gI (r:Rd):W:= .tup [wi r.1,gv r.2]
def jn (p:Int)(a b:Rd):Rd:=(a.1+b.1,qQ p (a.2++mv a.1 b.2))
def bk (p:Int)(a:Rd):Rd:=(-a.1,qQ p (tm (-1) (mv (-a.1) a.2)))
def M_:fq:=λxs M q=>eZ λ(p:Int) (a b:Rd)=>lz (xs= [wi p,gI a,gI b]) (0<p) (HD (a.2++mv a.1 b.2)) (a.2.length<=40000) (b.2.length<=40000) (q (gI (jn p a b)) M)
def V':fq:=λxs M q=>eZ λ(p:Int) (a b:Rd)=>Lj (xs= [wi p,gI a,gI b]) (0<p) (HD (a.2++mv a.1 b.2)) (a.2.length<=40000) (b.2.length<=40000) (∀z∈b.2,0<=z.2 /\ z.2<1000) (q (gI (jn p a b)) M)
def PL:fq:=λxs M q=>cx λ(p:Int) (a:Rd)=>lz (xs= [wi p,gI a]) (0<p) (HD (mv (-a.1) a.2)) (a.2.length<=40000) (∀z∈a.2,0<=z.2 /\ z.2<1000) (q (gI (bk p a)) M)
def Jv:fq:=λxs M q=>cx λ(p:Int) (a:Rd)=>fA (xs= [wi p,gI a]) (dZ p a.2) (a.2.length<=100000) (q (wb true) M)
def K0 (r:Rd):G3 (gI r)=some (.tup [.int r.1,Jn r.2]):=by rw[gI,G3,nr,nr,Oj,nr];rfl
def Ts (r:Rd):tY (.tup [.int r.1,Jn r.2]) <=50:=by
 simp![tY,km];have:tY (Jn r.2) <=2:=by unfold Jn;rw[tY];have:=vQ r.2;lia
 lia
def Wp (e:a=b)(h:q (wb false) M):QK (gI a) (gI b) M q:=by subst e;show#[_,_, .inl (K0 a), .inl (K0 a),rfl,Ts a,by rw[mC];show h]
theorem SH (hp:0<p)(a b:Rd):dZ p (jn p a b).2:=gi hp _
theorem Du (hp:0<p)(a:Rd):dZ p (bk p a).2:=gi hp _
def J7 (p:Int)(a b:Rd):(jn p a b).2.length<=a.2.length+b.2.length:=by exact ar (jk _ _) ?_;rw[aE,qS];lia
def Dv (p:Int)(a:Rd):(bk p a).2.length<=a.2.length:=by exact ar (jk _ _) ?_;rw[tm,af,qS];lia
theorem RA {a b:Rd}(h1:a.1=b.1)(h2:a.2=b.2):a=b:=Prod.ext h1 h2
def Rc (hp:0<p)(a:Rd)(x:Int):fM (bk p a).2 x=(-fM a.2 (x+a.1)) % p:=by rw[bk,mW hp,Cq,Cr];congr 1;rw[Int.mul_neg_one,Int.sub_neg]
theorem CG (hp:0<p)(ha:dZ p a)(hb:dZ p b)(h: ∀x,fM a x=fM b x):a=b:=uq ha hb λx=>by rw[<- oH ha.2, <- oH hb.2];show h x
theorem lF (h:dZ p a)(hp:p<1000): ∀z∈a,0<=z.2 /\ z.2<1000:=λz hz=>by have:=h.1 z hz;lia
inductive ahL where
 | go (k:Int) | turn (k:Int)
def aiN (s:Int×Pt):ahL ->Int×Pt
 | .go k=>(s.1+k,s.2)
 | .turn k=>(s.1,s.2++ [(s.1,k)])
end WQ
namespace WL
open PySem PySem.Spec PyProof.Rows L2
def Ya (ns:cH Int)(m:Int):Prop:=m∈ns /\ ∀x∈ns,x<=m
def X_ (ns:cH Int)(m:Int):Prop:=m∈ns /\ ∀x∈ns,m<=x
end WL
namespace WQ
open PySem L2 WL WP
def prc (p s:Int):Int:=if p - s<s then p - s else s
def Ph (a:Rd):cH Int:=0::a.1::a.2.map (·.1)
def X3 (i:Int):Int:=if i<0 then -i else i
def fwv (p:Int)(a:Rd)(lo hi:Int):Int:=2*(hi - lo) - X3 a.1+(a.2.map λz=>prc p z.2).sum
def Ko (e n x:Int):Bool:=decide (x.fmod e=0) && (decide (0<=x.fdiv e) && decide (x.fdiv e<n))
def lE (e n x:Int):Pt ->Int
 | []=>0
 | z::r=>(if Ko e n (x - z.1) then z.2 else 0)+lE e n x r
def ux (he:e≠0):Ko e n x=true↔ ∃k,0<=k /\ k<n /\ x=k*e:=by have hd:=Int.mul_fdiv_add_fmod x e;unfold Ko;simp![cG,dB];symm;rintro⟨h1,h2,h3⟩;show#[x.fdiv e,h2,h3,by rw[Int.mul_comm, <- hd,h1];simp[Int.mul_fdiv_cancel_left _ he]];rintro⟨k,h1,h2,rfl⟩;have:(k*e).fdiv e=k:=Int.mul_fdiv_cancel _ he;rw[this];show#[Int.mul_fmod_left _ _,h1,h2]
def Kn (he:e≠0):Ko e 0 x=false:=by
 cases h:Ko e 0 x with
 | false=>rfl
 | true=>let⟨k,h1,h2,_⟩:=(ux he).mp h;lia
def Ba (he:e≠0)(hn:0<=n):(Ko e (n+1) x=true)↔(Ko e n x=true \/ x=n*e):=by rw[ux he,ux he];symm;rintro⟨k,h1,h2,h3⟩;obtain h | h:=Int.lt_or_le k n;show .inl #[k,h1,h,h3];have:k=n:= ∅;subst this;show .inr h3;rintro(⟨k,h1,h2,h3⟩ | h);show#[k,h1, ∅,h3];show#[n,hn, ∅,h]
def NX (he:e≠0):Ko e n (n*e)=false:=by
 cases h:Ko e n (n*e) with
 | false=>rfl
 | true=>let⟨k,h1,h2,h3⟩:=(ux he).mp h;have:k=n:=Int.eq_of_mul_eq_mul_right he h3.symm;lia
def Aj (he:e≠0)(hn:0<=n)(l:Pt):lE e (n+1) x l=lE e n x l+fM l (x - n*e):=by
 induction l with
 | nil=>rfl
 | cons z r ih=>
  rw[lE,lE,fM,ih];by_cases h:z.1=x - n*e;have e1:x - z.1=n*e:= ∅;rw[ao h,e1,ao ((Ba he hn).mpr (.inr rfl)),NX he];simp;lia;rw [ak h];have:Ko e (n+1) (x - z.1)=Ko e n (x - z.1):=by apply Bool.eq_iff_iff.mpr;rw[Ba he hn];symm;rintro(h' | h');show h';show absurd h' ∅;show .inl
  rw[this];lia
def Ai (he:e≠0)(l:Pt):lE e 0 x l=0:=by
 induction l with
 | nil=>rfl
 | cons z r ih=>rw[lE,ih,Kn he];simp
def o6 (b:Rd):Nat ->Pt
 | 0=> []
 | n+1=>o6 b n++mv ((n:Int)*b.1) b.2
theorem Ie {b:Rd}(he:b.1≠0)(x:Int): ∀n:Nat,fM (o6 b n) x=lE b.1 n x b.2
 | 0=>by rw[o6,Int.ofNat_zero,Ai he];rfl
 | n+1=>by rw[o6,gA,Ie he x n,Cr];have:=Aj (n:=(n:Int)) (x:=x) he ∅ b.2;rw[Int.natCast_add,Int.ofNat_one,this]
theorem o0 (b:Rd): ∀n:Nat,(o6 b n).length=n*b.2.length
 | 0=>by simp[o6]
 | n+1=>by rw[o6,aE,o0 b n,qS,Nat.succ_mul]
end WQ
namespace WL
open PySem PySem.Spec PyProof.Rows L2
section
variable {X:Cx}
def V0 (K:WW):cH V ->Hp ->VK ->Prop:=λxs H Q=>cx λ(l:fY) (bs:cH Bool)=>c8 (xs= [.ref l]) (ij K H l (bs.map V.bl)) (Q (.bl (bs.all id)) H)
def VZ (K:WW):cH V ->Hp ->VK ->Prop:=λxs H Q=>cx λ(l:fY) (bs:cH Bool)=>c8 (xs= [.ref l]) (ij K H l (bs.map V.bl)) (Q (.bl (bs.any id)) H)
def Ka {bs:cH Bool}(rv:cj (bs.map V.bl) bN)(e:bN.toArray[i]? =some v):v= .bool (bs.getD i false) /\ i<bs.length:=by
 have e':bN[i]? =some v:= ⇑e;have dR:=rv.length;have hi:i<bs.length:=by have:=(bB.mp e').1;rw[af] at dR;lia
 let⟨w',hw,yN⟩:=rv.get (i:=i) (x:= .bl bs[i]) (by rw[aK,aQ hi];rfl);rw[e'] at hw;cases hw;cases yN;show#[by simp[List.getD,hi],hi]
def Gg (bs:cH Bool):(List.range bs.length).all (λi=>bs.getD i false)=bs.all id:=by apply Bool.eq_iff_iff.mpr;rw[List.all_eq_true,List.all_eq_true];symm;intro h x hx;let⟨i,hi,rfl⟩:=List.mem_iff_getElem.mp hx;have:=h i (List.mem_range.mpr hi);simpa [List.getD,hi] using this;intro h i hi;rw[List.mem_range] at hi;have:=h bs[i] (List.getElem_mem hi);simpa [List.getD,hi] using this
def Gf (bs:cH Bool):(List.range bs.length).any (λi=>bs.getD i false)=bs.any id:=by apply Bool.eq_iff_iff.mpr;rw[List.any_eq_true,List.any_eq_true];symm;rintro⟨i,hi,h⟩;rw[List.mem_range] at hi;show#[bs[i],List.getElem_mem hi,by simpa [List.getD,hi] using h];rintro⟨x,hx,h⟩;let⟨i,hi,rfl⟩:=List.mem_iff_getElem.mp hx;show#[i,List.mem_range.mpr hi,by simpa [List.getD,hi] using h]
def iH (hc:X.calm=true):fJ X (.builtin "all") (V0 X.K):=by
 intro ah s σ H xs us Q I r h;let⟨l,bs,rfl,hs,q⟩:=h;let⟨u,rfl,ru⟩:=vals1 r;cases ru;let⟨bN,rv,ht,hz⟩:=I.list hs;have hh:X.A.in1.handled=none:=I.ok.hd hc;have dR:bN.toArray.size=bs.length:=by have:=rv.length;rw[af] at this;simpa using this.symm
 have no:l<s.heap.objs.size:=by let⟨_,e,_⟩:=ht.isList;show aT e
 exact PySem.call_all_walkS (wpAny_pyIter_list ht.isList ?_);exact#[s.heap.objs.size,_,_,_,bN.toArray.size,_,_,λi=>bs.getD i false,rfl,(Walks.list hh s.heap.objs.size l (bF no) bN.toArray).toS,#[#[_,a6 _ rfl,rfl,rfl],ht.isList.push _],λi v s' Q' E' e hq=> ?_,λs' hm=> ?_];let⟨rfl,_⟩:=Ka rv e;show cA hq;have hk: ∀b o,s.heap.get? b=some o ->s'.heap.get? b=some o:=λb o e=>hm.heap b o (λhI=>absurd (aT e) (by rw[bg.mp hI];show Nat.lt_irrefl _)) (av _ e);rw[Moved.eq_with hm,dR,Gg];show#[.bl _,H,I.kept (t':=s'.toks) hk,rfl,q]
def yg (hc:X.calm=true):fJ X (.builtin "any") (VZ X.K):=by
 intro ah s σ H xs us Q I r h;let⟨l,bs,rfl,hs,q⟩:=h;let⟨u,rfl,ru⟩:=vals1 r;cases ru;let⟨bN,rv,ht,hz⟩:=I.list hs;have hh:X.A.in1.handled=none:=I.ok.hd hc;have dR:bN.toArray.size=bs.length:=by have:=rv.length;rw[af] at this;simpa using this.symm
 have no:l<s.heap.objs.size:=by let⟨_,e,_⟩:=ht.isList;show aT e
 exact PySem.call_any_walkS (wpAny_pyIter_list ht.isList ?_);exact#[s.heap.objs.size,_,_,_,bN.toArray.size,_,_,λi=>bs.getD i false,rfl,(Walks.list hh s.heap.objs.size l (bF no) bN.toArray).toS,#[#[_,a6 _ rfl,rfl,rfl],ht.isList.push _],λi v s' Q' E' e hq=> ?_,λs' hm=> ?_];let⟨rfl,_⟩:=Ka rv e;show cA hq;have hk: ∀b o,s.heap.get? b=some o ->s'.heap.get? b=some o:=λb o e=>hm.heap b o (λhI=>absurd (aT e) (by rw[bg.mp hI];show Nat.lt_irrefl _)) (av _ e);rw[Moved.eq_with hm,dR,Gf];show#[.bl _,H,I.kept (t':=s'.toks) hk,rfl,q]
variable {K:WW}
theorem cP.bools {H:Hp}: ∀ {bs:cH Bool} {vs:cH V},cP K H (bs.map wb) vs ->vs=bs.map V.bl
 | [],vs,h=>by simpa only[List.map_nil,cP] using h
 | n::r,vs,h=>by simp![aP,cP] at h;let⟨v,t,rfl,h1,h2⟩:=h;rw[cP.bools h2,h1.eq];rfl
def _P:zK:=λxs M q=>cx λ(a:fY) (bs:cH Bool)=>c8 (xs= [wr a]) (M a=some (.lst (bs.map wb))) (q (wb (bs.all id)) M)
def _M:zK:=λxs M q=>cx λ(a:fY) (bs:cH Bool)=>c8 (xs= [wr a]) (M a=some (.lst (bs.map wb))) (q (wb (bs.any id)) M)
instance:IC K (V0 K) _P where
 imp:=by rintro xs v M H q Q m r1 ⟨a,ns,rfl,hl,h⟩ k;let⟨v,rfl,r⟩:=r1.one;cases r.eq;let⟨vs,hv,rr⟩:=m a _ hl;cases rr.bools;show#[a,ns,rfl,ij.of hv,k _ M _ H h (a_.refl H) m WR.v]
instance:IC K (VZ K) _M where
 imp:=by rintro xs v M H q Q m r1 ⟨a,ns,rfl,hl,h⟩ k;let⟨v,rfl,r⟩:=r1.one;cases r.eq;let⟨vs,hv,rr⟩:=m a _ hl;cases rr.bools;show#[a,ns,rfl,ij.of hv,k _ M _ H h (a_.refl H) m WR.v]
end
end WL
namespace WL
open PySem L2
def Tv {M1:Mp}(hz:xs.length<=sizeLine)(h: ∀p,M1 p=none -> ∃I:Nat ->cH W ->Mp ->Prop,fA (I 0 [] (um M1 p (.lst []))) (∀i ys M,i<=xs.length ->I i ys M ->keep M /\ M p=some (.lst ys) /\ ys.length<=i) (∀i x ys M,xs[i]? =some x ->I i ys M -> ∀N:cH W ->Mp ->Prop,(∀ys M,I (i+1) ys M ->N ys M) ->g x (ou own fr ρ) M λρ2 M2=>c ρ2 M2 λb M3=>gF b (el ρ2 M3 λy M4=>M4 p=some (.lst ys) /\ N (ys++ [y]) (um M4 p (.lst (ys++ [y])))) (N ys M3)) (∀ys M,I xs.length ys M ->q (wr p) M)):sR xs keep own fr g c el ρ M1 q:=by exact#[hz,λp hp=> ?_];let⟨I,h0,h1,h2,h3⟩:=h p hp;show#[I,h0,h1,λi x ys M hx hI=>h2 i x ys M hx hI _ λ_ _ z=>z,h3]
end WL
namespace WQ
open PySem L2 WL WP
def QE (p:Int)(l:cH Int):Prop:=(∀x∈l,0<=x /\ x<p) /\ ∀x,l.getLast? =some x ->x≠0
def TD (row:cH Int)(k:Nat)(x:Int):cH Int:=row.set k (row.getD k 0+x)
def nk (row:cH Int)(o:Nat)(l:cH Int)(n:Nat):cH Int:=(List.range n).foldl (λr i=>TD r (o+i) (l.getD i 0)) row
def pw (p s:Int):Nat ->Int
 | 0=>1
 | n+1=>pw p s n*s % p
end WQ
namespace L2
open PySem PySem.Spec PyProof.Rows
def BR.okE {K:WW}{st:Stmt}(F:BR K x qual st f fd)(S:cw N ps (aU st))(len: ∀vs H Q E,sp vs H Q E ->vs.length=ps.length)(jV: ∀ (cdv:df) (A:Around) (outer:cH Env) (s:dG) (H:Hp) (vs:cH V) (Q:VK) (E:XK),e7 k (A.deeper (envOfC qual (aU st) s.heap.objs.size f cdv)) ->sp vs H Q E ->∃t,zY (eQ CX P w K mg base N qual (aU st) f cdv A outer s H E) (dS st) t /\ t {nx:=λ_ H'=>Q .ez H',rt:=Q} (start N vs) H):bI P w K mg base CX (k+1) f fd ps sp:=by let⟨oc,od,kV,jz,pm,an,cdv,ct,CI,rfl,lk,Fa⟩:=F.ex;show Qt lk Fa S len λA outer s H vs Q E hr wA=>jV cdv A outer s H vs Q E hr wA
end L2
namespace WL
open PySem L2 PySem.Spec PyProof.Rows
abbrev WX:=fY ->Mp ->Prop
abbrev fo:=cH W ->Mp ->WK ->WX ->Prop
section
variable {K:WW}
def up (e:WX):WX:=λC M'=> ∃M0,Sm M0 M' /\ e C M0
def Ex (K:WW)(e:WX):XK:=λcls _ H'=> ∃C M',cls= .ref C /\ e C M' /\ gu K M' H'
def uh (K:WW)(p:fo):Sp:=λvs H Q E=> ∃ (xs:cH W) (M:Mp) (q:WK) (e:WX),cP K H xs vs /\ gu K M H /\ p xs M q e /\ (∀x M' v H',q x M' ->a_ H H' ->gu K M' H' ->WR K H' x v ->Q v H') /\ ∀C M' H',e C M' ->gu K M' H' ->E (.ref C) none H'
def Co (p:fo)(e:WX)(a:WA):WE:=λρ M q=>a ρ M λxs M1=>p xs M1 q (up e)
instance {p:fo}{e:WX}{t:TA}{a:WA} [ia:IA K t a]:IE K (xo (uh K p) [] (Ex K e) t) (Co p e a) where
 imp:=λρ M σ H q Q o h k=>ia.imp ρ M σ H _ _ o h λx M1 v H1 h1 t1 m1 r1=>#[x,M1,q,_,by rw[dQ];show r1,m1,h1,λy M4 v4 H4 h4 t4 m4 r4=>k y M4 v4 H4 h4 (t1.trans t4) m4 r4,λC M' H' ⟨M0,s,h⟩ m=>#[C,M0,rfl,h,m.sub s]]
def Ck (C:fY)(e:WX)(a:WA):WS:=λ_ ρ M=>a ρ M λxs M'=>xs.length<=sizeLine /\ up e C M'
instance {C:fY}{e:WX}{t:TA}{a:WA} [ia:IA K t a]:IS K (Cs C (Ex K e) t) (Ck C e a) where
 imp:=λρ M σ H D' D o h Tq=>ia.imp ρ M σ H _ _ o h λx M1 v H1 ⟨hl,M0,s,h1⟩ t1 m1 r1=>#[by rw[r1.length];show hl,C,M0,rfl,h1,m1.sub s]
def zf {st:Stmt}(F:BR K x qual st f fd)(S:cw N ps (aU st))(len: ∀vs M q e,p vs M q e ->vs.length=ps.length)(jV: ∀ (cdv:df) (A:Around) (outer:cH Env) (s:dG) (H:Hp) (E:XK) (e:WX),e7 k (A.deeper (envOfC qual (aU st) s.heap.objs.size f cdv)) ->FK (eQ (i6 P w) P w K mg base N qual (aU st) f cdv A outer s H E) (Ex K e) ->ik (i6 P w) (eQ (i6 P w) P w K mg base N qual (aU st) f cdv A outer s H E) (Ex K e) ->∃ t,zY (eQ (i6 P w) P w K mg base N qual (aU st) f cdv A outer s H E) (dS st) t /\ ∃w',IS K t w' /\∀vs M q,p vs M q e ->w' {nx:=λ_ M'=> ∃M0,Sm M0 M' /\ q wn M0,rt:=λx M'=> ∃M0,Sm M0 M' /\ q x M0} (vs.map some++List.replicate (N.length - vs.length) none) M): bI P w K mg base (i6 P w) (k+1) f fd ps (uh K p):=by
 exact BR.okE F S (λvs H Q E ⟨xs,M,q,e,r,m,h,_⟩=>by rw[r.length];show len xs M q e h) λcdv A outer s H vs Q E hr h=> ?_;let⟨xs,M,q,e,r,m,h,k',kE⟩:=h;have hE: ∀c d H',Ex K e c d H' ->E c none H':=λc d H' ⟨C,M',ec,he,m'⟩=>by rw[ec];show kE C M' H' he m'
 let⟨t,h1,w',h2,h3⟩:=jV cdv A outer s H E e hr (λah σ H1 s1 h' ea cls us I mk z=>Kw ah σ H1 s1 h' ea cls us I mk (hE _ _ _ z)) (λah σ H1 s1 ev s2 I z=>CH ah σ H1 s1 ev s2 I (by let⟨ea,cls,a0,B,H',r1,r2,r3,r4,r5,r6,r7,r8,r9,r⟩:=z;show#[ea,cls,a0,B,H',r1,r2,r3,r4,r5,r6,r7,r8,r9,hE _ _ _ r]));exact#[t,h1,h2.imp _ M _ H _ _ #[#[?_,λi x e=> ?_],m] (h3 xs M q h) #[?_,?_,λ_ _ _ _ h=>h.elim,λ_ _ _ _ h=>h.elim]];have:=r.length;simp[L2.start,this];have hl:=r.length;unfold L2.start;by_cases hi:i<xs.length;rw[bu ⇑hi,aK] at e;cases ex:xs[i]? with
 | none=>rw[ex] at e;cases e
 | some y=>rw[ex] at e;cases e;let⟨v,hv,rv⟩:=r.at ex;exact#[v,?_,rv];rw[bu (by simp;lia),aK,hv];rfl
 rw[bi ⇑hi,dt] at e;split at e<;>cases e;rintro ρ' M' σ' H' ⟨M0,s,hq⟩ ts o;show k' _ M0 _ H' hq ts (o.hp.sub s) WR.v;rintro x M' v H' ⟨M0,s,hq⟩ ts m' r';show k' x M0 v H' hq ts (m'.sub s) r'
end
end WL
namespace L2
open PySem PySem.Spec PyProof.Rows PySem.Calls
section
variable {X:Cx}
theorem Nd {K:WW}: PassesOwn (model P w) (eQ (i6 P w) P w K mg base N qual scope f cd A outer s H E).A (eQ (i6 P w) P w K mg base N qual scope f cd A outer s H E).env (eQ (i6 P w) P w K mg base N qual scope f cd A outer s H E).xe:=PassesOwn.leaving (Q₁:=λe s2=>i6 P w outer H s E e s2)
def Vx (te:TE):TE:=λσ H Q=>te σ H λv H1=> ∃y,c8 (v= .str y) (y.length<=sizeLine) (Q (.str y) H1)
def hV (he:PE X e te):PE X (.FormattedValue e (-1) none pos) (Vx te):=by
 intro ah s σ H Q I h;exact FormattedValue_plain (c7 (he ah s σ H _ I h) ?_);rintro v s1 ⟨x,H1,I1,r,y,rfl,hy,q⟩;let⟨t,rfl⟩:=(show ∃t,v=Value.str y t from r)
 show formatField_str (λt' tk=>#[.str y,H1,I1.tok tk,#[t',rfl],q]) hy
def Vy (te:TE):TE:=λσ H Q=>te σ H λv H1=> ∃i:Int,c8 (v= .int i) (i.natAbs.log2<1920) (Q (.str (toString i)) H1)
def lU (he:PE X e te):PE X (.FormattedValue e (-1) none pos) (Vy te):=by
 intro ah s σ H Q I h;exact FormattedValue_plain (c7 (he ah s σ H _ I h) ?_);rintro v s1 ⟨x,H1,I1,r,i,rfl,hi,q⟩;let⟨t,rfl⟩:=(show ∃t,v=Value.int i t from r)
 show formatField_int_small hi #[.str _,H1,I1.tok _,#[_,rfl],q]
def tJ0 (out:Str):TE:=λ_ H Q=>out.length<=sizeLine /\ Q (.str out) H
def tJ1 (te:TE)(k:Str ->TE)(out:Str):TE:=λσ H Q=>te σ H λv H1=> ∃y,c8 (v= .str y) ((out++y).length<=sizeLine) (k (out++y) σ H1 Q)
def PJ (X:Cx)(es:cH Expr)(k:Str ->TE):Prop:= ∀ (out:Str) (ah:cH (fY×Obj)) (s:dG) (σ:St) (H:Hp) (Q:VK),Inv X ah σ H s ->k out σ H Q ->wpAny (model X.prog X.w) X.A (joinParts out (evalEach es X.env)) (EP X ah σ Q) X.xe s
theorem fL:PJ X [] tJ0:=λout ah s σ H Q I ⟨hz,q⟩=>joinParts_nil #[.str out,H,I.tok _,#[_,rfl],q] hz
def bO (he:PE X e te)(hk:PJ X es k)(hs:evalEach (e::es) X.env=eval e X.env::evalEach es X.env:=by rfl):PJ X (e::es) (tJ1 te k):=by
 intro out ah s σ H Q I h;rw[hs];exact joinParts_cons (c7 (he ah s σ H _ I h) ?_);rintro v s1 ⟨x,H1,I1,r,y,rfl,hz,q⟩;let⟨t,rfl⟩:=(show ∃t,v=Value.str y t from r)
 show#[hz,hk _ ah s1 σ H1 Q I1 q]
theorem eR (h:PJ X (e::e'::es) k):PE X (.JoinedStr (e::e'::es) pos) (k Str.empty):=λah s σ H Q I hq=>JoinedStr_many (h Str.empty ah s σ H Q I hq)
end
end L2
namespace WL
open PySem L2 PySem.Spec PyProof.Rows
section
variable {K:WW}
def QS (a:WE):WE:=λρ M q=>a ρ M λx M1=> ∃y,c8 (x=ws y) (y.length<=sizeLine) (q (ws y) M1)
instance {t:TE}{a:WE} [ia:IE K t a]:IE K (Vx t) (QS a) where
 imp:=λρ M σ H q Q o h k=>ia.imp ρ M σ H _ _ o h λx M1 v H1 ⟨y,e,hz,h1⟩ t1 m1 r1=>by subst e;show#[y,r1.eq,hz,k _ M1 _ H1 h1 t1 m1 WR.v]
def QT (a:WE):WE:=λρ M q=>a ρ M λx M1=> ∃i:Int,c8 (x=wi i) (i.natAbs.log2<1920) (q (ws (toString i)) M1)
instance {t:TE}{a:WE} [ia:IE K t a]:IE K (Vy t) (QT a) where
 imp:=λρ M σ H q Q o h k=>ia.imp ρ M σ H _ _ o h λx M1 v H1 ⟨y,e,hz,h1⟩ t1 m1 r1=>by subst e;show#[y,r1.eq,hz,k _ M1 _ H1 h1 t1 m1 WR.v]
def wJ0 (out:Str):WE:=λ_ M q=>out.length<=sizeLine /\ q (ws out) M
instance {out:Str}:IE K (tJ0 out) (wJ0 out) where
 imp:=λρ M σ H q Q o ⟨hz,h⟩ k=>#[hz,k _ M _ H h (a_.refl H) o.hp WR.v]
def _x (a:WE)(f:Str ->WE)(out:Str):WE:=λρ M q=>a ρ M λx M1=> ∃y,c8 (x=ws y) ((out++y).length<=sizeLine) (f (out++y) ρ M1 q)
instance {t:TE}{a:WE}{f:Str ->TE}{g:Str ->WE}{out:Str} [ia:IE K t a] [ig: ∀o,IE K (f o) (g o)]:IE K (tJ1 t f out) (_x a g out) where
 imp:=λρ M σ H q Q o h k=>ia.imp ρ M σ H _ _ o h λx M1 v H1 ⟨y,e,hz,h1⟩ t1 m1 r1=>by subst e;show#[y,r1.eq,hz,(ig _).imp ρ M1 σ H1 q Q (o.mv t1 m1) h1 λx2 M2 v2 H2 q2 t2 m2 r2=>k x2 M2 v2 H2 q2 (t1.trans t2) m2 r2]
end
end WL
namespace L2
open PySem PySem.Spec PyProof.Rows PySem.Calls PySem.W
def EF {K:WW}(m:Mod K mg h₀)(e:nsIn K mainGlobals x=some (some (.ref C)))(q:excIn K C bmB PP=true):OwnCls x C bmB PP mg h₀:=by
 have X:=m.Qa;exact#[mg_of X m.glob e,?_];unfold excIn at q;split at q;rename_i dd cd sl ho;split at q;rename_i C' bm k0 k1 k2 k3 n k5 hm hs;simp![cG,beq_iff_eq,Bool.not_eq_true'] at q;let⟨⟨⟨⟨⟨rfl,rfl⟩,Xp⟩,ht⟩,cU⟩,GR⟩:=q;let⟨nm,bs,mro,ns,qn,hd,sn,sub,ab,col,del⟩:=cd;dsimp only at hm Xp cU GR;subst hm Xp;have hsl:sl= (List.toArray [k0,k1,k2,k3,some (.builtin n),k5]):=by let⟨l⟩:=sl;simp only at hs;rw[hs]
 subst hsl;show#[bm,ns,nm,qn,bs,hd,sn,sub,ab,col,dd,k0,k1,k2,k3,k5,_,X _ _ ho, .of_isNs (isNs_of_in X cU),nsMap_none_of_in X cU GR,tail_of_in X ht];cases q;cases q
structure qj (K:PySem.W.Frag)(x:Str)(C:Addr):Prop where
 ns:nsIn K mainGlobals x=some (some (.ref C))
 exc:excIn K C XR "ValueError.__new__" =true
 k:Ye K C
theorem dA {np dy pos:Pos}{cX:cH Expr}(hF:FK X E)(hc:X.calm=true)(hg:Gl X x)(O:qj X.K x C)(ha:PA X (e₀::cX) t)(xL:(x==("__debug__" :Str))=false:=by decide)(he:starEach (e₀::cX) X.env=(false,eval e₀ X.env)::starEach cX X.env:=by rfl)(qt:(backTo dy (starEach cX X.env)).any (·.1)=false:=by rfl): PS X (.Raise (some (.Call (.Name x np) (e₀::cX) [] dy)) none pos) (Cs C E t):=λah s σ H D I h=>Ji hF hc hg (EF I.ok.mod O.ns O.exc) ha xL he qt ah s σ H D I h
end L2
namespace WQ
open PySem L2 WL WP
def f_ (d:Str×Int):W:= .tup [ws d.1,wi d.2]
def sstep (s:Int×Pt)(d:Str×Int):Int×Pt:=if d.1= "go" then(s.1+d.2,s.2) else(s.1,s.2++ [(s.1,d.2)])
def fk (ds:cH (Str×Int)):Int×Pt:=ds.foldl sstep (0,[])
def jG (ds:cH (Str×Int))(d:Str×Int):fk (ds++ [d])=sstep (fk ds) d:=by unfold fk;rw[List.foldl_append];rfl
def jH (ds:cH (Str×Int)):(fk ds).2.length<=ds.length:=by
 induction ds using iF with
 | h0=>simp[fk]
 | h1 l a ih=>rw[jG,aE];unfold sstep;split<;>simp<;>lia
def Qw {l:cH (Str×Int)}{i:Nat}(h:(l.map f_)[i]? =some x): ∃q,l[i]? =some q /\ x=f_ q:=by
 rw[aK] at h;cases e:l[i]? with
 | none=>rw[e] at h;cases h
 | some q=>rw[e] at h;cases h;show#[q,rfl,rfl]
def Good (d:Str×Int):Prop:=d.1= "go" \/ d.1= "turn"
def RT (C:fY):fo:=λxs M q e=>eZ λ(a:fY) (p:Int) (ds:cH (Str×Int))=>BM (xs= [wi p,wr a]) (M a=some (.lst (ds.map f_))) (0<p) (HD (fk ds).2) (ds.length<=50000) (∀d∈ds,d.1.length<=100) ((∀d∈ds,Good d) ->q (gI ((fk ds).1,qQ p (fk ds).2)) M) ((∃d∈ds,¬Good d) ->e C M)
def RL:fq:=λxs M q=>eZ λ(a:fY) (p:Int) (ds:cH (Str×Int))=>lz (xs= [wi p,wr a]) (M a=some (.lst (ds.map f_))) (0<p) (HD (fk ds).2) (ds.length<=50000) (q (gI ((fk ds).1,qQ p (fk ds).2)) M)
end WQ
namespace WL
open PySem L2
def JI:W ->Bool
 | .v x=>decide (x=V.ez)
 | .tup _=>false
def Ps:R2:=λx y H Q=>y= .ez /\ Q (.bl (!decide (x=V.ez))) H
def UZ:qu:=λx y M q=>y=wn /\ q (wb (!JI x)) M
instance {K:WW}:IR K Ps UZ where
 imp:=by
  rintro x y v u M H q Q m r1 r2 ⟨rfl,h⟩ k;exact#[r2.eq,k _ M _ H h (a_.refl H) m ?_];cases x with
  | v x=>rw[r1.eq];show WR.v
  | tup l=>let⟨a,vs,rfl,_⟩:=r1.tup;show WR.v
theorem Jw:jd X (compareOp .IsNot) Ps:=Nh
theorem og (hx:DR M x d)(hy:DR M y d)(hd:tY d<=50)(hs:ui d d=true)(h:q (wb false) M):QK x y M q:=#[d,d,hx,hy,hs,hd,by rw[mC];show h]
def Ol {α:Type}(f:α ->W)(g:α ->Dt):Prop:= ∀a,G3 (f a)=some (g a)
theorem Bz {α:Type}{f:α ->W}{g:α ->Dt}(h:Ol f g): ∀l:cH α,nr (l.map f)=some (l.map g)
 | []=>rfl
 | a::l=>by rw[aP,nr,h a,Bz h l];rfl
theorem Bp {α:Type}{g:α ->Dt}{n:Nat}(h: ∀a,tY (g a) <=n): ∀l:cH α,km (l.map g) <=n
 | []=>by simp[km]
 | a::l=>by rw[aP,km];have:=h a;have:=Bp h l;lia
theorem DR.list {l:cH α}(h:Ol f g)(ha:M a=some (.lst (l.map f))):DR M (wr a) (.lst (l.map g)):= .inr #[a,_,_,rfl,ha,Bz h l,rfl]
end WL
namespace WQ
open PySem L2 WL WP
theorem K2:Ol f_ (λd=> .tup [.str d.1, .int d.2]):=λd=>rfl
def Tt (l:cH (Str×Int)):tY (.lst (l.map λd=> .tup [.str d.1, .int d.2])) <=50:=by rw[tY];have:=Bp (n:=1) (g:=λd:Str×Int=>Dt.tup [.str d.1, .int d.2]) (λa=>by simp[tY,km]) l;lia
end WQ
namespace WL
open PySem L2
theorem XZ {l:cH α}:gY (a::b::c::d::e::l) 4=some e:=fV (j:=4) (by rfl)
theorem XY {l:cH α}:gY (a::b::c::d::e::f::l) 5=some f:=fV (j:=5) (by rfl)
theorem XX {l:cH α}:gY (a::b::c::d::e::f::g::l) 6=some g:=fV (j:=6) (by rfl)
theorem XW {l:cH α}:gY (a::b::c::d::e::f::g::h::l) 7=some h:=fV (j:=7) (by rfl)
theorem XU {l:cH α}:gY (a::b::c::d::e::f::g::h::i::l) 8=some i:=fV (j:=8) (by rfl)
theorem XT:(∀ (a b c d e:α) (l:cH α),gY (a::b::c::d::e::l) 4=some e) /\ (∀ (a b c d e f:α) (l:cH α),gY (a::b::c::d::e::f::l) 5=some f) /\ (∀ (a b c d e f g:α) (l:cH α),gY (a::b::c::d::e::f::g::l) 6=some g) /\ (∀ (a b c d e f g h:α) (l:cH α),gY (a::b::c::d::e::f::g::h::l) 7=some h) /\ (∀ (a b c d e f g h i:α) (l:cH α),gY (a::b::c::d::e::f::g::h::i::l) 8=some i):=#[λ_ _ _ _ _ _=>XZ,λ_ _ _ _ _ _ _=>XY,λ_ _ _ _ _ _ _ _=>XX,λ_ _ _ _ _ _ _ _ _=>XW,λ_ _ _ _ _ _ _ _ _ _=>XU]
end WL
namespace L2
open PySem PySem.Spec PyProof.Rows
def Keeps (S:Nat ->Prop)(g:TG):Prop:= ∀ (σ:St) (v:V) (H:Hp) (Q:St ->Hp ->Prop),g v σ H Q ->g v σ H λσ2 H2=>(σ2.length=σ.length /\ ∀i,¬S i ->σ2[i]? =σ[i]?) /\ Q σ2 H2
def A1 (h:S n):Keeps S (md n):=by intro σ v H Q q;exact#[#[by simp,λi hi=> ?_],q];rw[List.getElem?_set_ne];intro e;subst e;show hi h
def EY {K:WW}(h:S n)(h':S m):Keeps S (N8 K 2 (xO (md n) (xO (md m) N9))):=by rintro σ v H Q ⟨a,xs,e,hs,hl,x,r,rfl,y,r',rfl,rfl,q⟩;exact#[a,_,e,hs,hl,x,_,rfl,y,_,rfl,rfl,#[by simp,λi hi=> ?_],q];rw[List.getElem?_set_ne,List.getElem?_set_ne];intro e;subst e;show hi h;intro e;subst e;show hi h'
def FF (h:(ls own fr σ)[i]? =some (some v)):own<=i:=by unfold ls at h;obtain c | c:=Nat.lt_or_ge i own;rw[bu ⇑c,dt,ao c] at h;cases h;show c
def inW (HG:TI)(g2:TG)(DW:TT)(te:TE)(σ2:St)(p:fY)(H4:Hp)(N:cH V ->Hp ->Prop):Prop:=HG σ2 H4 λJ2 H5=> ∃Z:Nat ->Nat ->cH V ->Hp ->Prop,(∃m zs,Z 0 m zs H5) /\ ∀j k zs H6,Z j k zs H6 ->H6 p=some (.lst zs) /\((J2.stop j H6 /\ N zs H6) \/ (J2.go j H6 /\ zs.length<sizeLine /\ ∀y H7,J2.TY j H6 y H7 ->g2 y σ2 H7 λσ3 H8=>DW σ3 H8 λc H9=>if c=true then te σ3 H9 λz UI=> ∃ws,UI p=some (.lst ws) /\ ws.length<sizeLine /\ ∃k',k'<k /\ Z (j+1) k' (ws++ [z]) (cR UI p (.lst (ws++ [z]))) else ∃ws k',k'<k /\ Z (j+1) k' ws H9))
def K5 (J:It)(own:Nat)(fr:cH Nat)(g:TG)(tc:TT)(HG:TI)(g2:TG)(DW:TT)(te:TE)(σ:St)(p:fY)(H1:Hp)(Q:VK):Prop:=∃ W :Nat ->Nat ->cH V ->Hp ->Prop,(∃m,W 0 m [] (cR H1 p (.lst []))) /\ ∀i m ys H',W i m ys H' ->H' p=some (.lst ys) /\((J.stop i H' /\ Q (.ref p) H') \/ (J.go i H' /\ ∀x H2,J.TY i H' x H2 ->g x (ls own fr σ) H2 λσ2 H3=>tc σ2 H3 λb H4=>if b=true then inW HG g2 DW te σ2 p H4 λzs H5=> ∃m',m'<m /\ W (i+1) m' zs H5 else ∃zs m',m'<m /\ W (i+1) m' zs H4))
def Iu (wi:TI)(own:Nat)(fr:cH Nat)(g:TG)(tc:TT)(HG:TI)(g2:TG)(DW:TT)(te:TE):TE:=λσ H Q=>wi σ H λJ H1=> ∀p,H1 p=none ->K5 J own fr g tc HG g2 DW te σ p H1 Q
abbrev xF (jc tg iter:Expr)(ja:cH Expr)(kF db:Expr)(fF:cH Expr)(scope:Scope)(pos:Pos):Expr:= .ListComp jc [#[tg,iter,ja,0],#[kF,db,fF,0]] scope pos
def My (jc tg iter:Expr)(ja:cH Expr)(kF db:Expr)(fF:cH Expr)(scope:Scope)(pos:Pos)(it gb:df)(env:Env): compTurn (xF jc tg iter ja kF db fF scope pos) 0 it gb env=(do
 standAt iter.pos
 let r <- pyNext it
 match r with
 | none=>pure (.done .next)
 | some v=>do
  letOwnedTupleGo tg it v
  assign tg env v
  let ok <- forIn ja true λc r=>if r=true then do let ok <- isTrue c env (eval c env);pure (ForInStep.yield ok) else pure (ForInStep.yield r)
  if ok=true then do
   let x <- eval db env
   standAt db.pos
   let x <- foldedSetIterable db env x
   let i2 <- holding [x] (pyIter x)
   let _ <- runOwn (.compStart (xF jc tg iter ja kF db fF scope pos) 1 i2 gb env) env
   again (.compLoop (xF jc tg iter ja kF db fF scope pos) 0 it gb env)
  else again (.compLoop (xF jc tg iter ja kF db fF scope pos) 0 it gb env)):=by rfl
def Mx (jc tg iter:Expr)(ja:cH Expr)(kF db:Expr)(fF:cH Expr)(scope:Scope)(pos:Pos)(it gb:df)(env:Env): compTurn (xF jc tg iter ja kF db fF scope pos) 1 it gb env=(do
 standAt db.pos
 let r <- pyNext it
 match r with
 | none=>pure (.done .next)
 | some v=>do
  letOwnedTupleGo kF it v
  assign kF env v
  let ok <- forIn fF true λc r=>if r=true then do let ok <- isTrue c env (eval c env);pure (ForInStep.yield ok) else pure (ForInStep.yield r)
  if ok=true then do
   ((do let _ <- call (.builtin "list.append") [gb, <- eval jc env]):Sem Unit)
   again (.compLoop (xF jc tg iter ja kF db fF scope pos) 1 it gb env)
  else again (.compLoop (xF jc tg iter ja kF db fF scope pos) 1 it gb env)):=by rfl
def Iy (h0:codeAny (model prog w) A (.compLoop (xF jc tg iter ja kF db fF scope pos) 1 it gb env) R s)(h:wpAny (model prog w) A (pyIter it) (λit' s'=>codeAny (model prog w) A (.compLoop (xF jc tg iter ja kF db fF scope pos) 1 it' gb env) R s') (notedBy (model prog w) A env λx s'=>R (.error x) s') s): codeAny (model prog w) A (.compStart (xF jc tg iter ja kF db fF scope pos) 1 it gb env) R s:=by
 exact codeAny_of_tree ?_;change wpAny _ _ ((compStart (xF jc tg iter ja kF db fF scope pos) 1 it gb env).onRaise (λx=>do noteFrame x env;standAt theWindowsPlace)) _ _ s;exact wpAny_notedAt ?_;unfold compStart;change wpAny _ _ (ask >>=_) _ _ s;exact aA (wpAny_askSetting (wpAny_ite ?_));split;first
 | show aA (bf (bf (And.intro rfl h0)))
 | show bf (And.intro rfl h0)
 first
 | show aA (wpAny_rule (aA (wpAny_standAt (aA (bJ h (λit' s' h'=>bf (And.intro rfl h')) λ_ _ x=>x)))))
 | (exact aA (wpAny_rule ?_);change wpAny _ _ (standAt db.pos >>=_) _ _ s;show aA (wpAny_standAt (aA (bJ h (λit' s' h'=>bf (And.intro rfl h')) λ_ _ x=>x))))
theorem NC (I:Nat ->dG ->Prop)(turn : ∀n s,I n s ->wpAny (model prog w) A (pyNext it) (λr s₁=>match r with
   | none=>R (.ok .next) s₁
   | some v=>wpAny (model prog w) A (letOwnedTupleGo kF it v) (λ_ s₀=>wpAny (model prog w) A (assign kF env v) (λ_ s₂=>
    wpAny (model prog w) A (forIn fF true λc r=>if r=true then do let ok <- isTrue c env (eval c env);pure (ForInStep.yield ok) else pure (ForInStep.yield r)) (λok s₃=>if ok=true then wpAny (model prog w) A (eval jc env) (λx s₄=>wpAny (model prog w) A (call (.builtin "list.append") [gb,x]) (λ_ s₅=> ∃m,m<n /\ I m s₅) (λ_ _=>False) s₄) (λ_ _=>False) s₃ else ∃m,m<n /\ I m s₃) (λ_ _=>False) s₂)
    (λ_ _=>False) s₀) (λ_ _=>False) s₁) (λ_ _=>False) s)(n:Nat)(h:I n s):codeAny (model prog w) A (.compLoop (xF jc tg iter ja kF db fF scope pos) 1 it gb env) R s:=by
 exact codeAny_loop rfl I (λn s hI=> ?_) n h
 change wpAny _ A ((compTurn (xF jc tg iter ja kF db fF scope pos) 1 it gb env).onRaise (λx=>do noteFrame x env;theTreesLotGoes x)) _ _ s
 exact wpAny_noted ?_
 rw[Mx]
 exact aA (wpAny_standAt (aA (bJ (turn n s hI) (λr s₁ h₁=> ?_) λ_ _ h'=>h'.elim)))
 cases r with
 | none=>show bf h₁
 | some v=>
  exact aA (bJ h₁ (λ_ s₀ W3=> ?_) λ_ _ h'=>h'.elim);exact aA (bJ W3 (λ_ s₂ h₂=> ?_) λ_ _ h'=>h'.elim);exact aA (bJ h₂ (λWi s₃ h₃=> ?_) λ_ _ h'=>h'.elim);cases Wi with
  | false=>show bf #[rfl,h₃]
  | true=>show aA (aA (bJ h₃ (λx s₄ h₄=>aA (bJ h₄ (λ_ s₅ h₅=>bf (bf #[rfl,h₅])) λ_ _ h'=>h'.elim)) λ_ _ h'=>h'.elim))
theorem ND (I:Nat ->dG ->Prop)(hs: ∀x,foldedSetIterable db env x=pure x)(turn : ∀n s,I n s ->wpAny (model prog w) A (pyNext it) (λr s₁=>match r with
   | none=>R (.ok .next) s₁
   | some v=>wpAny (model prog w) A (letOwnedTupleGo tg it v) (λ_ s₀=>wpAny (model prog w) A (assign tg env v) (λ_ s₂=>
    wpAny (model prog w) A (forIn ja true λc r=>if r=true then do let ok <- isTrue c env (eval c env);pure (ForInStep.yield ok) else pure (ForInStep.yield r)) (λok s₃=>if ok=true then wpAny (model prog w) A (eval db env) (λx s₄=>wpAny (model prog w) A (pyIter x) (λi2 s₅=>codeAny (model prog w) (A.mark none) (.compStart (xF jc tg iter ja kF db fF scope pos) 1 i2 gb env) (λr s₆=>match r with | .ok _=> ∃m,m<n /\ I m s₆ | .error _=>False) s₅) (λ_ _=>False) s₄) (λ_ _=>False) s₃ else ∃m,m<n /\ I m s₃) (λ_ _=>False) s₂)
    (λ_ _=>False) s₀) (λ_ _=>False) s₁) (λ_ _=>False) s)(n:Nat)(h:I n s):codeAny (model prog w) A (.compLoop (xF jc tg iter ja kF db fF scope pos) 0 it gb env) R s:=by
 exact codeAny_loop rfl I (λn s hI=> ?_) n h
 change wpAny _ A ((compTurn (xF jc tg iter ja kF db fF scope pos) 0 it gb env).onRaise (λx=>do noteFrame x env;theTreesLotGoes x)) _ _ s
 exact wpAny_noted ?_
 rw[My]
 exact aA (wpAny_standAt (aA (bJ (turn n s hI) (λr s₁ h₁=> ?_) λ_ _ h'=>h'.elim)))
 cases r with
 | none=>show bf h₁
 | some v=>
  exact aA (bJ h₁ (λ_ s₀ W3=> ?_) λ_ _ h'=>h'.elim);exact aA (bJ W3 (λ_ s₂ h₂=> ?_) λ_ _ h'=>h'.elim);exact aA (bJ h₂ (λWi s₃ h₃=> ?_) λ_ _ h'=>h'.elim);cases Wi with
  | false=>show bf #[rfl,h₃]
  | true=>
   exact aA (bJ h₃ (λx s₄ h₄=> ?_) λ_ _ h'=>h'.elim);exact aA (wpAny_standAt ?_);rw[hs];exact aA (bf (aA (wpAny_holding (bJ h₄ (λi2 s₅ h₅=> ?_) λ_ _ h'=>h'.elim))));exact aA (wpAny_runOwn ?_);exact codeAny_mono h₅ λr s' z=> ?_;cases r with
   | ok f=>show bf #[rfl,z]
   | error e=>show z.elim
def BD {σ:St}{RR:df ->fY ->Result ->dG ->Prop}(l_:X.calm=true)(S:c6 X own fr N' scope)(hg: ∀s3 H3,PG (bX X N' scope cl fp s3 H3) tg g)(Ql:n1<=own.length)(hw:Keeps (λi=>i<n1) g)(hc: ∀s3 H3,QC (bX X N' scope cl fp s3 H3) ja tc)(hi2: ∀s3 H3,PI (bX X N' scope cl fp s3 H3) kF db HG)(Cc: ∀s3 H3,PG (bX X N' scope cl fp s3 H3) kF g2)(SS:Keeps (λi=>n1<=i /\ i<own.length) g2)(GW: ∀s3 H3,QC (bX X N' scope cl fp s3 H3) fF DW)(he: ∀s3 H3,PE (bX X N' scope cl fp s3 H3) jc te)(E8: ∀s3 H3 x,foldedSetIterable db (bX X N' scope cl fp s3 H3).env x=pure x)(lr: ∀x c,cl.lookup x=some c ->X.env.cells.lookup x=some c)(wQ: ∀y∈scope.names,y.2= .free ->(cl.lookup y.1).isSome=true)(I:Inv X ah σ H s)(T:zL X.prog X.w X.K tg J fp it tn)(st:tn 0 s.heap)(Bc: ∀b∈fp,lv X ah H b)(h: ∀p,H p=none ->K5 J own.length fr g tc HG g2 DW te σ p H Q)(fin: ∀ (s3:dG) (H3:Hp),Inv X ah σ H3 s3 ->(∀b∈fp,lv X ah H3 b) -> ∀ (D:fY) (σ':St) (H':Hp) (s':dG) (t:Nat),D<s3.heap.objs.size ->Inv (bX X N' scope cl fp s3 H3) [] σ' H' s' ->Q (.ref D) H' ->RR (.ref D) s3.heap.objs.size (.ok .next) s'): wpAny (model X.prog X.w) X.A (newList []) (λgb s₃=>wpAny (model X.prog X.w) X.A (newFunctionEnv scope X.env.globals cl [] X.env.qual none .none (some X.env)) (λK7 s₄=>codeAny (model X.prog X.w) X.A (.compStart (xF jc tg iter ja kF db fF scope pos) 0 (.ref it) gb {K7 with scope:=relabel scope X.env}) (RR gb K7.locals) s₄) E s₃) E s:=by
 exact wpAny_newObj_type ?_;have hf:H s.heap.objs.size=none:=I.cU.fresh (aq _);let⟨W,⟨m0,w0⟩,turn⟩:=h _ hf;generalize e3:({s with heap:=s.heap.push {cls:= .type "list",dict:=none,data:= .seq ([]:cH df).toArray}}:dG)=s3;have Rj:s3.heap.objs.size=s.heap.objs.size+1:=by rw[<- e3];show Heap.size_push ..
 have _V: ∀b o,s.heap.get? b=some o ->s3.heap.get? b=some o:=λb o e=>by rw[<- e3];show av _ e
 have I3:Inv X ah σ (cR H s.heap.objs.size (.lst [])) s3:=by rw[<- e3];show I.laid (t':=s.toks) (λb u e=>av _ e) (aq _) #[dm _,[],0, .nil,a6 _ rfl]
 have Tl: ∀b∈fp,b<s.heap.objs.size:=λb hb=>by let⟨o,e,_⟩:=T.obj 0 _ st b hb;show aT e
 have C9: ∀b∈fp,lv X ah (cR H s.heap.objs.size (.lst [])) b:=λb hb=>#[by rw[bR (bF (Tl b hb))];show(Bc b hb).1,(Bc b hb).2]
 exact wpAny_newFunctionEnv S.vf (by intro y hy;simp at hy) (λh₁ S2 SW=> ?_) S.kind;have old: ∀b o,s3.heap.get? b=some o ->h₁.get? b=some o:=λb o e=>SW.extBut b o (bF (aT e)) (av _ e);have Ic:=A5 (t:=s3.toks+([]:cH (Str×df)).length) S I3 lr wQ C9 (λb hb=>by rw[Rj];show Nat.lt_succ_of_lt (Tl b hb)) S2 old;have F':tn 0 h₁:=T.keep 0 _ _ st λb hb o e=>old b o (_V b o e);have uP: ∀ {H':Hp},(∀b∈fp,H' b=none) -> ∀b∈fp,lv (bX X N' scope cl fp s3 (cR H s.heap.objs.size (.lst []))) [] H' b:=λhn b hb=>by exact#[hn b hb,?_,?_, .inl hb,λx c e=>(Bc b hb).2.2.2.2.1 x c (lr x c e),λp hp=>absurd (show p∈([]:cH (fY×Obj)) from hp) (by simp)];change b≠s3.heap.objs.size;rw[Rj];show bF (Nat.lt_succ_of_lt (Tl b hb));show Ic.ok.De b hb
 have loop : codeAny (model X.prog X.w) X.A (.compLoop (xF jc tg iter ja kF db fF scope pos) 0 (.ref it) (.ref s.heap.objs.size) (compEnvC scope cl s3.heap.objs.size X.env)) (RR (.ref s.heap.objs.size) s3.heap.objs.size) {s3 with heap:=h₁,toks:=s3.toks+([]:cH (Str×df)).length}:=by
  exact ND (λn s'=>eZ λi ys H'=>fA (Inv (bX X N' scope cl fp s3 (cR H s.heap.objs.size (.lst []))) [] (ls own.length fr σ) H' s') (tn i s'.heap) (∀b∈fp,H' b=none) (W i n ys H')) (E8 s3 H) ?_ m0 #[0,[],_,Ic,F',λb hb=>(C9 b hb).1,w0];rintro n s4 ⟨i,ys,H4,I4,f9,XB,w4⟩;let⟨C_,alt⟩:=turn i n ys H4 w4;rcases alt with⟨stop,q⟩ | ⟨go,step⟩
  .exact c7 (T.done (bX X N' scope cl fp s3 (cR H s.heap.objs.size (.lst []))) rfl rfl rfl l_ i [] s4 _ H4 (λ_ _=>False) I4 (uP XB) f9 stop) λr s5 ⟨hr,I5⟩=> ?_;subst hr;show fin s3 _ I3 C9 _ _ H4 s5 s5.toks (by rw[Rj];show Nat.lt_succ_self _) I5 q
  exact c7 (T.item (bX X N' scope cl fp s3 (cR H s.heap.objs.size (.lst []))) rfl rfl rfl l_ i [] s4 _ H4 (λ_ _=>False) I4 (uP XB) f9 go) λr s5 ⟨u,hr,h5⟩=> ?_;subst hr;exact c7 h5 λ_ s6 ⟨x,H6,I6,r6,y6,Ro,fr6⟩=> ?_;have I6':=I6.pinned (uP fr6) (T.obj _ _ Ro);have Y1:=hw _ x H6 _ (step x H6 y6);exact c7 (hg s3 _ _ s6 _ H6 x u _ I6' r6 Y1) λ_ s7 ⟨σ7,H7,I7,wk,q7⟩=> ?_;have wk1: ∀ (j:Nat) v,(ls own.length fr σ)[j]? =some (some v) ->σ7[j]? =some (some v):=λj v e=>by rw[wk.2 j (by have:=FF e;lia)];show e
  have wk2: ∀j,n1<=j ->j<own.length -> ∀v,σ7[j]? ≠some (some v):=λj h1 h2 v e=>by rw[wk.2 j ∅] at e;have:=FF e;lia
  have again: ∀ {σ9:St} {H9:Hp} {s9:dG} {QF:cH V},σ9.length=σ7.length ->(∀ (j:Nat) v,σ7[j]? =some (some v) ->σ9[j]? =some (some v)) ->Inv (bX X N' scope cl fp s3 (cR H s.heap.objs.size (.lst []))) ([]++iU fp s6.heap) σ9 H9 s9 ->(∃m',m'<n /\ W (i+1) m' QF H9) ->∃m,m<n /\ eZ λi ys H'=>fA (Inv (bX X N' scope cl fp s3 (cR H s.heap.objs.size (.lst []))) [] (ls own.length fr σ) H' s9) (tn i s9.heap) (∀b∈fp,H' b=none) (W i m ys H'):=λ{σ9 H9 s9 QF} hl9 hv9 I9 ⟨m',hm,w9⟩=>by exact#[m',hm,i+1,QF,H9,(I9.jE).weak ?_ λj v e=>hv9 j v (wk1 j v e),T.keep _ _ _ Ro λb hb o e=>(I9.pin (b,o) (a4 _ (a4 _ (fD hb e)))).1,λb hb=> ?_,w9];rw[hl9,wk.1];let⟨o,e,d⟩:=T.obj _ _ Ro b hb;show(I9.pin (b,o) (a4 _ (a4 _ (fD hb e)))).2.1
  exact c7 (hc s3 _ _ s7 σ7 H7 _ I7 q7) λok s8 ⟨H8,I8,q8⟩=> ?_;cases ok with
  | false=>simp![aD,bH] at q8 ⊢;let⟨zs,q8⟩:=q8;show again rfl (λ_ _ e=>e) I8 q8
  | true =>
   simp![ce] at q8 ⊢;exact c7 (hi2 s3 _ _ s8 σ7 H8 _ I8 q8) λv2 s9 h9=>c7 h9 λWV Rw h10=> ?_;let⟨E5,XD,tn2,J2,UI,e10,I10,T2,VH,f10,Z,⟨mz,z0,SQ⟩,Vg⟩:=h10;subst e10;have Ix: ∀ {H':Hp},(∀b∈XD,H' b=none) -> ∀b∈XD,lv (bX X N' scope cl fp s3 (cR H s.heap.objs.size (.lst []))) ([]++iU fp s6.heap) H' b:=λhn b hb=>#[hn b hb,(f10 b hb).2]
   have PR:codeAny (model X.prog X.w) X.A (.compLoop (xF jc tg iter ja kF db fF scope pos) 1 (.ref E5) (.ref s.heap.objs.size) (compEnvC scope cl s3.heap.objs.size X.env)) (λr s₆=>match r with
   | .ok _=> ∃m,m<n /\ eZ λi ys H'=>fA (Inv (bX X N' scope cl fp s3 (cR H s.heap.objs.size (.lst []))) [] (ls own.length fr σ) H' s₆) (tn i s₆.heap) (∀b∈fp,H' b=none) (W i m ys H')
   | .error _=>False) Rw:=by
    exact NC (λk s'=>eZ λj zs H'=>fA (Inv (bX X N' scope cl fp s3 (cR H s.heap.objs.size (.lst []))) ([]++iU fp s6.heap) σ7 H' s') (tn2 j s'.heap) (∀b∈XD,H' b=none) (Z j k zs H')) ?_ mz #[0,z0,UI,I10,VH,λb hb=>(f10 b hb).1,SQ]
    rintro k s11 ⟨j,zs,H11,I11,VG,XC,z11⟩
    let⟨ai4,ahH⟩:=Vg j k zs H11 z11
    rcases ahH with⟨VE,qN⟩ | ⟨go2,hsz2,VF⟩
    exact c7 (T2.done (bX X N' scope cl fp s3 (cR H s.heap.objs.size (.lst []))) rfl rfl rfl l_ j _ s11 _ H11 (λ_ _=>False) I11 (Ix XC) VG VE) λr LQ ⟨hr,I12⟩=> ?_
    subst hr
    show again rfl (λ_ _ e=>e) I12 qN
    exact c7 (T2.item (bX X N' scope cl fp s3 (cR H s.heap.objs.size (.lst []))) rfl rfl rfl l_ j _ s11 _ H11 (λ_ _=>False) I11 (Ix XC) VG go2) λr LQ ⟨u2,hr,h12⟩=> ?_
    subst hr
    exact c7 h12 λ_ s13 ⟨x2,H13,I13,r13,y13,Rp,ahy⟩=> ?_
    have ahK:=I13.pinned (Ix ahy) (T2.obj _ _ Rp)
    have aab:=SS _ x2 H13 _ (VF x2 H13 y13)
    exact c7 (Cc s3 _ _ s13 _ H13 x2 u2 _ ahK r13 aab) λ_ s14 ⟨σ14,H14,I14,UO,q14⟩=> ?_
    have QA: ∀ {H9:Hp} {s9:dG} {ws:cH V},Inv (bX X N' scope cl fp s3 (cR H s.heap.objs.size (.lst []))) (([]++iU fp s6.heap)++iU XD s13.heap) σ14 H9 s9 ->(∃k',k'<k /\ Z (j+1) k' ws H9) ->∃m,m<k /\ eZ λj zs H'=>fA (Inv (bX X N' scope cl fp s3 (cR H s.heap.objs.size (.lst []))) ([]++iU fp s6.heap) σ7 H' s9) (tn2 j s9.heap) (∀b∈XD,H' b=none) (Z j m zs H'):=λ{H9 s9 ws} I9 ⟨k',Cb,z9⟩=>by exact#[k',Cb,j+1,ws,H9,(I9.jE).weak UO.1.symm λa v e=> ?_,T2.keep _ _ _ Rp λb hb o e=>(I9.pin (b,o) (a4 _ (a4 _ (fD hb e)))).1,λb hb=> ?_,z9];rw[UO.2 a λhS=>wk2 a hS.1 hS.2 v e];show e;let⟨o,e,d⟩:=T2.obj _ _ Rp b hb;show(I9.pin (b,o) (a4 _ (a4 _ (fD hb e)))).2.1
    exact c7 (GW s3 _ _ s14 σ14 H14 _ I14 q14) λok2 s15 ⟨H15,I15,Ug⟩=> ?_
    cases ok2 with
    | false=>simp![aD,bH] at Ug ⊢;let⟨ws,Ug⟩:=Ug;show QA I15 Ug
    | true=>simp![ce] at Ug ⊢;exact c7 (he s3 _ _ s15 σ14 H15 _ I15 Ug) λy s16 ⟨yv,H16,I16,ry,ws,aa8,aa5,q16⟩=> ?_;exact c7 (dh _ s16 σ14 H16 (.ref s.heap.objs.size) [yv] (.ref s.heap.objs.size) [y] (λv H'=>H'=cR H16 s.heap.objs.size (.lst (ws++ [yv]))) I16 rfl (.cons ry .nil) #[_,ws,yv,rfl,rfl,aa8,aa5,rfl]) λv s17 ⟨_,H17,I17,_,e17⟩=> ?_;subst e17;show QA I17 q16
   change codeAny _ X.A _ _ Rw;show Iy PR (T2.self _ 0 _ _ _ VH PR)
 show codeAny_compStart_list loop (T.self _ 0 _ _ _ F' loop)
def rW {pos VI lR:Pos}(l_:X.calm=true)(hN:X.N.Nodup)(hx:X.N[i]? =some x)(hl:Loc X.env.scope x)(S:c6 X own fr N' scope)(hi:PI X tg iter wi)(hg: ∀cl fp s3 H3,PG (bX X N' scope cl fp s3 H3) tg g)(Ql:n1<=own.length)(hw:Keeps (λi=>i<n1) g)(hc: ∀cl fp s3 H3,QC (bX X N' scope cl fp s3 H3) ja tc)(hi2: ∀cl fp s3 H3,PI (bX X N' scope cl fp s3 H3) kF db HG)(Cc: ∀cl fp s3 H3,PG (bX X N' scope cl fp s3 H3) kF g2)(SS:Keeps (λi=>n1<=i /\ i<own.length) g2)(GW: ∀cl fp s3 H3,QC (bX X N' scope cl fp s3 H3) fF DW)(he: ∀cl fp s3 H3,PE (bX X N' scope cl fp s3 H3) jc te)(hsw:swapsWith (.ListComp jc [#[tg,iter,ja,0],#[kF,db,fF,0]] scope pos) (some (.Name x lR)) VI.line X.env=pure true)(hs: ∀x,foldedSetIterable iter X.env x=pure x:=by intro _;rfl)(E8: ∀cl fp s3 H3 x,foldedSetIterable db (bX X N' scope cl fp s3 H3).env x=pure x:=by intro _ _ _ _ _;rfl)(hf:X.fn x=true \/ X.env.scope.names.lookup x=some .local:=by first | show .inl rfl | show .inr rfl | assumption): PS X (.Assign [.Name x lR] (.ListComp jc [#[tg,iter,ja,0],#[kF,db,fF,0]] scope pos) VI) (Iv (Iu wi own.length fr g tc HG g2 DW te) (md i)):=by
 intro ah s σ H D I h;let⟨cl,Ks,lr,wQ⟩:=vX (I.ok.cellsOf S);rw[exec_Assign_Name_used _ _ _ _ hsw];exact aA (wpAny_standAt (aA ?_));change wpAny _ X.A (do let _ <- comprehension (xF jc tg iter ja kF db fF scope pos) scope X.env _ (newList []) false (eval iter X.env) (some (assign (.Name x lR) X.env))) _ _ s;exact aA (c7 (wpAny_comprehension_free (use:=some (assign (.Name x lR) X.env)) (Q:=λ_ s'=>SP X ah D .next s') rfl hs Ks S.kind S.loc (c7 (hi ah s σ H _ I h) λv s1 h1=>c7 h1 λWV s2 h2=> ?_)) λ_ s' hq=>bf (bf hq));let⟨it,fp,tn,J,H2,e,I2,T,oK,f2,h2⟩:=h2;subst e;exact BD (RR:=λgb C=>compPost (model X.prog X.w) X.A X.xe (some (assign (.Name x lR) X.env)) (λ_ s'=>SP X ah D .next s') gb C) l_ S (hg cl fp) Ql hw (hc cl fp) (hi2 cl fp) (Cc cl fp) SS (GW cl fp) (he cl fp) (E8 cl fp) lr wQ I2 T oK f2 h2 ?_;intro s3 H3 I3 f3 Da σ' H' s' t hD Ic q;let⟨m,hn,_⟩:=Ic.loc;have I5:=yf I3 f3 Ic;change wpAny _ X.A (assign (.Name x lR) X.env (.ref Da)) _ _ s';exact wpAny_assign_Name (xq I5 hN hx hl (show RelV (.ref Da) (.ref Da) from rfl) (λs6 I6 W_=> ?_) hf);let⟨a,sb,ha⟩:=W_;have l5:s3.heap.objs.size≠a:=by obtain rfl | ha:=ha;show Nat.ne_of_gt I3.lt;let⟨v,z⟩:=I3.cell x a ha;show Nat.ne_of_gt z.lt
 exact#[m,hn.sameBut sb l5,λh' aa6=>#[_,H',ye I3 rfl I6 Ic.free aa6,q]]
end L2
namespace WL
open PySem L2
section
variable {K:WW}
def W0 (DJ:cH W)(kT:Mp ->Prop)(g2:WG)(c2:WT)(el:WE)(ρ2:cq)(p:fY)(ys:cH W)(M4:Mp)(N:cH W ->Mp ->Prop):Prop:=∃I2:Nat ->cH W ->Mp ->Prop,fA (I2 0 ys M4) (∀j zs M,j<=DJ.length ->I2 j zs M ->kT M /\ M p=some (.lst zs) /\ zs.length<sizeLine) (∀j y zs M,DJ[j]? =some y ->I2 j zs M ->g2 y ρ2 M λρ3 M5=>c2 ρ3 M5 λb M6=>if b=true then el ρ3 M6 λz M7=>M7 p=some (.lst zs) /\ I2 (j+1) (zs++ [z]) (um M7 p (.lst (zs++ [z]))) else I2 (j+1) zs M6) (∀zs M,I2 DJ.length zs M ->N zs M)
def Dl (xs:cH W)(keep:Mp ->Prop)(own:Nat)(fr:cH Nat)(g:WG)(c:WT)(E5:WI)(g2:WG)(c2:WT)(el:WE)(ρ:cq)(M1:Mp)(q:WK):Prop:= ∀p,M1 p=none -> ∃I:Nat ->cH W ->Mp ->Prop,fA (I 0 [] (um M1 p (.lst []))) (∀i ys M,i<=xs.length ->I i ys M ->keep M /\ M p=some (.lst ys)) (∀i x ys M,xs[i]? =some x ->I i ys M ->g x (ou own fr ρ) M λρ2 M2=>c ρ2 M2 λb M3=>if b=true then E5 ρ2 M3 λDJ kT M4=>W0 DJ kT g2 c2 el ρ2 p ys M4 (I (i+1)) else I (i+1) ys M3) (∀ys M,I xs.length ys M ->q (wr p) M)
def HU (it:WI)(own:Nat)(fr:cH Nat)(g:WG)(c:WT)(E5:WI)(g2:WG)(c2:WT)(el:WE):WE:=λρ M q=>it ρ M λxs keep M1=>Dl xs keep own fr g c E5 g2 c2 el ρ M1 q
theorem U9:HU it own fr g c E5 g2 c2 el ρ M q=it ρ M λxs keep M1=>Dl xs keep own fr g c E5 g2 c2 el ρ M1 q:=rfl
instance {ti:TI}{own:Nat}{fr:cH Nat}{g:TG}{tc:TT}{ti2:TI}{g2:TG}{DW:TT}{te:TE}{it:WI}{w:WG}{c:WT}{E5:WI}{w2:WG}{c2:WT}{el:WE} [ii:II K ti it] [ig:IG K g w] [ic:IT K tc c] [ii2:II K ti2 E5] [ig2:IG K g2 w2] [ic2:IT K DW c2] [ie:IE K te el]: IE K (Iu ti own fr g tc ti2 g2 DW te) (HU it own fr w c E5 w2 c2 el) where
 imp := λρ M σ H q Q o h k=>ii.imp ρ M σ H _ _ o h λxs keep J M1 H1 h1 t1 m1 ok=>by
  intro p hp;let⟨I,h0,hk,hs,hd⟩:=h1 p (m1.fresh hp);have tp:=L2.gm.ts (cg (o:= .lst []) hp);exact#[λi m vs H'=>m=xs.length - i /\ i<=xs.length /\ cx λys M'=>gy (I i ys M') (a_ H1 H') (gu K M' H') (cP K H' ys vs) (H' p=some (.lst vs)),#[_,rfl,dm _,[],_,h0,tp,m1.ln hp cP.nil,cP.nil,bY],?_];rintro i m vs H' ⟨rfl,hi,ys,M',hI,ts,m',rv,hv⟩;exact#[hv,?_];let⟨kp,hMp⟩:=hk i ys M' hi hI;let⟨k1,k2,k3⟩:=ok i M' H' ts m' kp;by_cases no:i<xs.length;exact .inr #[k2 no,λv H2 y=> ?_];let⟨ty,my,x,hx,r⟩:=k3 v H2 no y;replace ts:=ts.trans ty;have oc:Ok K (ou own fr ρ) M' (ls own fr σ) H2:=#[(o.env.ts (t1.trans ts)).UE own fr,my]
  exact ig.imp x v _ M' _ H2 _ _ oc r (hs i x ys M' hx hI) λρ3 M3 σ3 H3 h3 t3 o3=>ic.imp ρ3 M3 σ3 H3 _ _ o3 h3 λb M4 H4 h4 t4 m4=> ?_;cases b with
  | true=>
   simp![ce] at h4 ⊢;exact ii2.imp ρ3 M4 σ3 H4 _ _ (o3.mv t4 m4) h4 λDJ kT J2 M5 H5 h5 t5 m5 ok2=> ?_;let⟨I2,h20,Xl,E8,hd2⟩:=h5;have tt5:=ts.trans ((t3.trans t4).trans t5);have at5: ∀ {M6:Mp} {H6:Hp} {zs:cH W},M6 p=some (.lst zs) ->gu K M6 H6 -> ∃vs,H6 p=some (.lst vs) /\ cP K H6 zs vs:=λh m=>by let⟨vs,hv,rr⟩:=m p _ h;show#[vs,hv,rr]
   let⟨O6,NQ,MJ⟩:=at5 (Xl 0 ys M5 (dm _) h20).2.1 m5;exact#[λj m vs H'=>m=DJ.length - j /\ j<=DJ.length /\ cx λzs M'=>gy (I2 j zs M') (a_ H5 H') (gu K M' H') (cP K H' zs vs) (H' p=some (.lst vs)),#[_,O6,rfl,dm _,ys,M5,h20,a_.refl _,m5,MJ,NQ],?_];rintro j m2 vs6 H6 ⟨rfl,hj,zs,M6,hI2,Vh,m6,rv6,hv6⟩;exact#[hv6,?_];let⟨kp2,ai6,Zv⟩:=Xl j zs M6 hj hI2;let⟨a1,a2,a3⟩:=ok2 j M6 H6 Vh m6 kp2;by_cases Kl:j<DJ.length;exact .inr #[a2 Kl,by rw[rv6.length];show Zv,λu7 H7 y7=> ?_];let⟨_W,my7,x7,hx7,r7⟩:=a3 u7 H7 Kl y7;have o7:Ok K ρ3 M6 σ3 H7:=#[o3.env.ts ((t4.trans t5).trans (Vh.trans _W)),my7]
   exact ig2.imp x7 u7 ρ3 M6 σ3 H7 _ _ o7 r7 (E8 j x7 zs M6 hx7 hI2) λρ8 M8 σ8 H8 h8 t8 o8=>ic2.imp ρ8 M8 σ8 H8 _ _ o8 h8 λb9 M9 H9 h9 t9 m9=> ?_;cases b9 with
   | true=>simp![ce] at h9 ⊢;exact ie.imp ρ8 M9 σ8 H9 _ _ (o8.mv t9 m9) h9 λz M10 u UI ⟨h10,h11⟩ t10 m10 r10=> ?_;let⟨Mu,Kh,IV⟩:=m10 p _ h10;have t11:=iJ (u:= .lst (Mu++ [u])) Kh;exact#[Mu,Kh,by rw[IV.length];show Zv,_,?_,rfl,Kl,_,_,h11,((((Vh.trans _W).trans t8).trans t9).trans t10).trans t11,m10.putL Kh (IV.snoc r10),(IV.snoc r10).ts t11,bY];lia
   | false=>simp![aD,bH] at h9 ⊢;let⟨Mu,Kh,IV⟩:=at5 (Xl (j+1) zs M9 Kl h9).2.1 m9;exact#[Mu,_,?_,rfl,Kl,_,_,h9,((Vh.trans _W).trans t8).trans t9,m9,IV,Kh];lia
   have e':j=DJ.length:= ∅;subst e';exact .inl #[a1 rfl,_,?_,rfl,no,zs,M6,hd2 zs M6 hI2,tt5.trans Vh,m6,rv6,hv6];lia
  | false=>simp![aD,bH] at h4 ⊢;let⟨O6,NQ,MJ⟩:=m4 p _ (hk (i+1) ys M4 no h4).2;exact#[O6,_,?_,rfl,no,_,_,h4,ts.trans (t3.trans t4),m4,MJ,NQ];lia
  have e':i=xs.length:= ∅;subst e';show .inl #[k1 rfl,k _ M' _ H' (hd ys M' hI) (t1.trans ts) m' WR.v]
def qT {α:Type}{f:α ->W}{l:cH α}{i:Nat}(h:(l.map f)[i]? =some x): ∃a,l[i]? =some a /\ x=f a:=by
 rw[aK] at h;cases e:l[i]? with
 | none=>rw[e] at h;cases h
 | some a=>rw[e] at h;cases h;show#[a,rfl,rfl]
def G6 {α β:Type}{l:cH α}{fW:α ->W}(cT:α ->cH β)(gW:β ->W)(eW:α ->β ->W){M1:Mp}(hz:(l.map λa=>(cT a).length).sum<sizeLine)(l7: ∀M,Sm M1 M ->keep M)(hs: ∀a∈l, ∀M,Sm M1 M -> ∀ (B:cq ->cH W ->(Mp ->Prop) ->Mp ->Prop) (N0:Mp ->Prop),(∀ρ2 kT,(∀M',Sm M1 M' ->kT M') ->(∀b∈cT a, ∀M',Sm M1 M' -> ∀N:fj W ->Mp ->Prop,N (some (eW a b)) M' ->g2 (gW b) ρ2 M' λρ3 M5=>c2 ρ3 M5 λb M6=>gF b (el ρ3 M6 λz M7=>N (some z) M7) (N none M6)) ->B ρ2 ((cT a).map gW) kT M) ->g (fW a) (ou own fr ρ) M λρ2 M2=>c ρ2 M2 λb M3=>gF b (E5 ρ2 M3 λDJ kT M4=>B ρ2 DJ kT M4) (N0 M3))(hq: ∀p,M1 p=none ->q (wr p) (um M1 p (.lst (l.map λa=>(cT a).map (eW a)).flatten))): Dl (l.map fW) keep own fr g c E5 g2 c2 el ρ M1 q:=by
 intro p hp;have dR: ∀k:cH α,(k.map λa=>(cT a).map (eW a)).flatten.length=(k.map λa=>(cT a).length).sum:=λk=>by rw[List.length_flatten,a5];congr 1;apply dI;intro a _;simp
 have W9: ∀i:Nat,((l.take i).map λa=>(cT a).length).sum<=(l.map λa=>(cT a).length).sum:=λi=>by
  have e:(l.map λa=>(cT a).length)=((l.take i).map λa=>(cT a).length)++((l.drop i).map λa=>(cT a).length):=by rw[<- aB,bL]
  rw[e,List.sum_append];lia
 exact#[λi ys M=>M=um M1 p (.lst ys) /\ ys=((l.take i).map λa=>(cT a).map (eW a)).flatten,#[rfl,by simp],?_,?_,?_];rintro i ys M hi ⟨rfl,rfl⟩;show#[l7 _ (a7 hp),am];rintro i x ys M hx ⟨rfl,rfl⟩;let⟨a,ha,rfl⟩:=qT hx;have e:l.take (i+1)=l.take i++ [a]:=by rw[cK,ha];rfl
 have eF:((l.take (i+1)).map λa=>(cT a).map (eW a)).flatten=((l.take i).map λa=>(cT a).map (eW a)).flatten++(cT a).map (eW a):=by rw[e,aB,List.flatten_append];simp
 have eS:((l.take (i+1)).map λa=>(cT a).length).sum=((l.take i).map λa=>(cT a).length).sum+(cT a).length:=by rw[e,aB,List.sum_append];simp
 exact hs a (aX ha) _ (a7 hp) (λρ2 DJ kT M4=>W0 DJ kT g2 c2 el ρ2 p ((l.take i).map λa=>(cT a).map (eW a)).flatten M4 λys M=>M=um M1 p (.lst ys) /\ ys=((l.take (i+1)).map λa=>(cT a).map (eW a)).flatten) (λM=>M=um M1 p (.lst ((l.take i).map λa=>(cT a).map (eW a)).flatten) /\ ((l.take i).map λa=>(cT a).map (eW a)).flatten=((l.take (i+1)).map λa=>(cT a).map (eW a)).flatten) ?_;intro ρ2 kT Xl E8;exact#[λj zs M=>M=um M1 p (.lst zs) /\ zs=((l.take i).map λa=>(cT a).map (eW a)).flatten++((cT a).take j).map (eW a),#[rfl,by simp],?_,?_,?_];rintro j zs M hj ⟨rfl,rfl⟩;exact#[Xl _ (a7 hp),am,?_];rw[aE,dR,af,bT];have b3:=W9 (i+1);rw[eS] at b3;lia;rintro j y zs M hy ⟨rfl,rfl⟩;let⟨b,hb,rfl⟩:=qT hy;have e2:(cT a).take (j+1)=(cT a).take j++ [b]:=by rw[cK,hb];rfl
 exact E8 b (aX hb) _ (a7 hp) (λo M4=>match o with
 | some z=>M4 p=some (.lst (((l.take i).map λa=>(cT a).map (eW a)).flatten++((cT a).take j).map (eW a))) /\ (um M4 p (.lst (((l.take i).map λa=>(cT a).map (eW a)).flatten++((cT a).take j).map (eW a)++ [z]))=um M1 p (.lst (((l.take i).map λa=>(cT a).map (eW a)).flatten++((cT a).take j).map (eW a)++ [z])) /\ ((l.take i).map λa=>(cT a).map (eW a)).flatten++((cT a).take j).map (eW a)++ [z]=((l.take i).map λa=>(cT a).map (eW a)).flatten++((cT a).take (j+1)).map (eW a))
 | none=>M4=um M1 p (.lst (((l.take i).map λa=>(cT a).map (eW a)).flatten++((cT a).take j).map (eW a))) /\ ((l.take i).map λa=>(cT a).map (eW a)).flatten++((cT a).take j).map (eW a)=((l.take i).map λa=>(cT a).map (eW a)).flatten++((cT a).take (j+1)).map (eW a)) ?_
 show#[am,kC,by rw[e2,aB];simp];rintro zs M ⟨rfl,rfl⟩;show#[rfl,by rw[eF,af,cW]];rintro ys M ⟨rfl,rfl⟩;rw[af,cW];show hq p hp
def vW {α:Type}{l:cH α}{fW:α ->W}(pr:α ->Bool)(eW:α ->W){M1:Mp}(hz:l.length<=sizeLine)(l7: ∀M,Sm M1 M ->keep M)(hs: ∀a∈l, ∀ (M:Mp) (N:fj W ->Mp ->Prop),Sm M1 M ->N (if pr a=true then some (eW a) else none) M ->g (fW a) (ou own fr ρ) M λρ2 M2=>c ρ2 M2 λb M3=>gF b (el ρ2 M3 λy M4=>N (some y) M4) (N none M3))(hq: ∀p,M1 p=none ->q (wr p) (um M1 p (.lst ((l.filter pr).map eW)))):sR (l.map fW) keep own fr g c el ρ M1 q:=by
 exact#[by rw[af];show hz,λp hp=>#[λi ys M=>M=um M1 p (.lst ys) /\ ys=((l.take i).filter pr).map eW,#[rfl,by simp],?_,?_,?_]];rintro i ys M hi ⟨rfl,rfl⟩;exact#[l7 _ (a7 hp),am,?_];rw[af];exact ar (List.length_filter_le _ _) ?_;rw[bT];lia;rintro i x ys M hx ⟨rfl,rfl⟩;let⟨a,ha,rfl⟩:=qT hx;have e:l.take (i+1)=l.take i++ [a]:=by rw[cK,ha];rfl
 exact hs a (aX ha) _ (λo M4=>match o with
 | some y=>M4 p=some (.lst (((l.take i).filter pr).map eW)) /\ (um M4 p (.lst (((l.take i).filter pr).map eW++ [y]))=um M1 p (.lst (((l.take i).filter pr).map eW++ [y])) /\ ((l.take i).filter pr).map eW++ [y]=((l.take (i+1)).filter pr).map eW)
 | none=>M4=um M1 p (.lst (((l.take i).filter pr).map eW)) /\ ((l.take i).filter pr).map eW=((l.take (i+1)).filter pr).map eW) (a7 hp) ?_
 cases hf:pr a with
 | false=>rw[ak (by simp)];show#[rfl,by rw[e,List.filter_append];simp[hf]]
 | true=>rw[ao rfl];show#[am,kC,by rw[e,List.filter_append];simp[hf]]
 rintro ys M ⟨rfl,rfl⟩;rw[af,cW];show hq p hp
def fi {α:Type}{l:cH α}{fW:α ->W}(eW:α ->W){M1:Mp}(hz:l.length<=sizeLine)(l7: ∀M,Sm M1 M ->keep M)(hs: ∀a∈l, ∀ (M:Mp) (N:fj W ->Mp ->Prop),Sm M1 M ->N (some (eW a)) M ->g (fW a) (ou own fr ρ) M λρ2 M2=>c ρ2 M2 λb M3=>gF b (el ρ2 M3 λy M4=>N (some y) M4) (N none M3))(hq: ∀p,M1 p=none ->q (wr p) (um M1 p (.lst (l.map eW)))):sR (l.map fW) keep own fr g c el ρ M1 q:=by exact vW (λ_=>true) eW hz l7 (λa ha M N s h=>hs a ha M N s ⇑h) λp hp=> ?_;have e:l.filter (λ_=>true)=l:=List.filter_eq_self.mpr λ_ _=>rfl;rw[e];show hq p hp
end
def Jt:fq:=λ_ _ _=>False
theorem Ku:bI P w K mg base CX k f fd ps (fS K Jt):=#[λvs H Q E ⟨_,_,_,_,_,h,_⟩=>h.elim,λA outer s H args us vs Q E hr=>by
 intros;rename_i h;first
 | (let⟨_,_,_,_,_,h,_⟩:=h;show h.elim)]
end WL
namespace WQ
open PySem L2 WL WP
def gd (f:Int ->Int)(e:Int):Nat ->Int ->Int
 | 0,_=>0
 | n+1,x=>gd f e n x+f (x - e*n)
def nX (f:Int ->Int)(e:Int):Nat ->Int ->Int
 | 0,_=>0
 | n+1,x=>nX f e n x - f (x+e*(n+1:Nat))
def lD (f:Int ->Int)(e n x:Int):Int:=if n<0 then nX f e (-n).toNat x else gd f e n.toNat x
def xp (f:Int ->Int)(e n x:Int):lD f e (n+1) x=lD f e n x+f (x - e*n):=by
 unfold lD;by_cases h:n<0;rw[ao h];let⟨m,hm⟩: ∃m:Nat,(-n).toNat=m+1:=#[(-n).toNat - 1, ∅]
 have en:n= -((m:Int)+1):= ∅;have ex:x - e*n=x+e*((m+1:Nat):Int):=by rw[en,Int.mul_neg];push_cast;lia
 rw[hm,nX,ex];by_cases h1:n+1<0;rw[ao h1,show(-(n+1)).toNat=m by lia];lia;rw[ak h1,show(n+1).toNat=0 by lia];have:m=0:= ∅;subst this;simp![gd,nX];lia;rw[ak h,ak ∅,show(n+1).toNat=n.toNat+1 by lia,gd];have:((n.toNat:Nat):Int)=n:= ∅;rw[this]
theorem FY (f:Int ->Int)(e:Int): ∀ (n:Nat) (x:Int),lD f e n x+lD f e (-n) (x - e*n)=0
 | 0,x=>rfl
 | n + 1,x=>by
  have ih:=FY f e n x;have h1:=xp f e n x;have h2:=xp f e (-(n+1:Nat)) (x - e*(n+1:Nat));have e1:(-((n+1:Nat):Int))+1= -(n:Int):= ∅;rw[e1] at h2;have e2:(((n+1:Nat)):Int)=(n:Int)+1:= ∅;rw[e2] at h2 ⊢;have e3:x - e*((n:Int)+1) - e* -((n:Int)+1)=x:=by rw[Int.mul_neg];lia
  rw[e3] at h2;have sh: ∀ (m:Nat) (z:Int),nX f e m (z - e)=nX f e m z - f z+f (z+e*m):=by
   intro m;induction m with
   | zero=>intro z;simp![nX];rw[Int.ofNat_zero,Int.mul_zero,Int.add_zero];lia
   | succ m ihm=>
    intro z;have a1:z - e+e*((m+1:Nat):Int)=z+e*m:=by
     push_cast;rw[Int.mul_add,Int.mul_one];lia
    rw[nX,ihm,nX,a1];lia
  have hs:=sh (n+1) (x - e*n);have E8:lD f e (-((n:Int)+1)) (x - e*((n:Int)+1))=nX f e (n+1) (x - e*n - e):=by unfold lD;rw[ao ∅,show(- -((n:Int)+1)).toNat=n+1 by lia];congr 1;rw[Int.mul_add,Int.mul_one];lia
  have hs3:lD f e (-(n:Int)) (x - e*n)=nX f e n (x - e*n):=by unfold lD;by_cases h0:n=0;subst h0;rfl;rw[ao ∅,show(- -(n:Int)).toNat=n by lia]
  have hs4:nX f e (n+1) (x - e*n)=nX f e n (x - e*n) - f (x - e*n+e*((n+1:Nat):Int)):=rfl;have e5:x - e*n+e*((n+1:Nat):Int)=x+e:=by push_cast;rw[Int.mul_add,Int.mul_one];lia
  rw[E8,hs,hs4,e5,h1];rw[hs3] at ih;lia
theorem uN {f g:Int ->Int}{e:Int}(h: ∀x,g x= -f (x+e)): ∀ (n:Nat) (x:Int),gd g (-e) n x=nX f e n x
 | 0,_=>rfl
 | n +1,x=>by
  rw[gd,nX,uN h n x,h];have:x - -e*n+e=x+e*((n+1:Nat):Int):=by rw[Int.neg_mul];push_cast;rw[Int.mul_add,Int.mul_one];lia
  rw[this];lia
theorem Ag {p:Int}{f g:Int ->Int}{e:Int}(h: ∀x,f x % p=g x % p): ∀ (n:Nat) (x:Int),gd f e n x % p=gd g e n x % p
 | 0,_=>rfl
 | n+1,x=>by rw[gd,gd,Int.add_emod,Ag h n x,h, <- Int.add_emod]
theorem j7 (f:Int ->Int)(x:Int): ∀n:Nat,gd f 0 n x=f x*n
 | 0=>by simp[gd]
 | n+1=>by rw[gd,j7 f x n,Int.zero_mul,Int.sub_zero];push_cast;rw[Int.mul_add,Int.mul_one]
structure iu (p:Int)(a:Rd)(n:Int)(r:Rd):Prop where
 en:r.1=a.1*n
 pt:dZ p r.2
 at_: ∀x,fM r.2 x=lD (fM a.2) a.1 n x % p
theorem iu.eq (hp:0<p)(h:iu p a n r)(h':iu p a n r'):r=r':=RA (h.en.trans h'.en.symm) (CG hp h.pt h'.pt λx=>(h.at_ x).trans (h'.at_ x).symm)
def iu.zg (hp:0<p)(hn:n<0)(h:iu p (bk p a) (-n) r):iu p a n r:=by exact#[?_,h.pt,λx=> ?_];rw[h.en];change -a.1* -n=a.1*n;rw[Int.neg_mul_neg];rw[h.at_];unfold lD;rw[ak ∅,ao hn];change gd (fM (bk p a).2) (-a.1) (-n).toNat x % p=_;rw[<- uN (f:=fM a.2) (g:=λx=> -fM a.2 (x+a.1)) (λ_=>rfl)];show Ag (λy=>by rw[Rc hp,Int.emod_emod_of_dvd _ (Int.dvd_refl p)]) _ _
def oY (e:Int)(n:Nat)(q:Int×Int):Pt:=(List.range n).map λ(k:Nat)=>(q.1+e*k,q.2)
def lZ (e:Int)(n:Nat)(l:Pt):Pt:=(l.map (oY e n)).flatten
theorem Ab (e x:Int)(q:Int×Int): ∀n:Nat,fM (oY e n q) x=gd (fM [q]) e n x
 | 0=>rfl
 | n +1=>by
  have:oY e (n+1) q=oY e n q++ [(q.1+e*n,q.2)]:=by unfold oY;rw[List.range_succ,aB];rfl
  rw[this,gA,Ab e x q n,gd];congr 1;simp![fM];by_cases c:q.1+e*n=x;rw[ao c,ao ∅];rw[ak c,ak ∅]
theorem Ah (f g:Int ->Int)(e x:Int): ∀n:Nat,gd (λy=>f y+g y) e n x=gd f e n x+gd g e n x
 | 0=>rfl
 | n+1=>by rw[gd,gd,gd,Ah f g e x n];lia
theorem Af (e x:Int): ∀n:Nat,gd (λ_=>0) e n x=0
 | 0=>rfl
 | n+1=>by rw[gd,Af e x n];rfl
theorem Ac (e:Int)(n:Nat)(x:Int): ∀l:Pt,fM (lZ e n l) x=gd (fM l) e n x
 | []=>by have:fM ([]:Pt)=λ_=>0:=rfl;rw[this,Af];rfl
 | q ::l=>by
  have e1:lZ e n (q::l)=oY e n q++lZ e n l:=rfl;have e2:fM (q::l)=λy=>fM [q] y+fM l y:=by funext y;have:=gA [q] l y;show this
  rw[e1,gA,Ab,Ac e n x l,e2,Ah]
theorem vh (e:Int)(n:Nat): ∀l:Pt,(lZ e n l).length=l.length*n
 | []=>by simp[lZ]
 | q::l=>by have e1:lZ e n (q::l)=oY e n q++lZ e n l:=rfl;rw[e1,aE,vh e n l,oY,af,List.length_range,aC,Nat.succ_mul];lia
theorem xm (b:Rd)(x:Int): ∀n:Nat,fM (o6 b n) x=gd (fM b.2) b.1 n x
 | 0=>rfl
 | n+1=>by
  rw[o6,gA,xm b x n,Cr,gd];have:x - (n:Int)*b.1=x - b.1*n:=by rw[Int.mul_comm]
  rw[this]
def PD:fq:=λxs M q=>eZ λ(p:Int) (a:Rd) (n:Int)=>BM (xs= [wi p,gI a,wi n]) (0<p) (p<1000) (dZ p a.2) (a.2.length<=40000) (0<=n) (a.1≠0 ->n<100000 /\ a.2.length*n.toNat<=100000) (∀r:Rd,iu p a n r ->(a.1=0 ->r.2.length<=a.2.length) ->(a.1≠0 ->r.2.length<=a.2.length*n.natAbs) ->q (gI r) M)
def RO:fq:=λxs M q=>eZ λ(p:Int) (a:Rd) (n:Int)=>Lj (xs= [wi p,gI a,wi n]) (0<p) (p<1000) (dZ p a.2) (a.2.length<=40000) (a.1≠0 -> -100000<n /\ n<100000 /\ a.2.length*n.natAbs<=100000) (∀r:Rd,iu p a n r ->(a.1=0 ->r.2.length<=a.2.length) ->(a.1≠0 ->r.2.length<=a.2.length*n.natAbs) ->q (gI r) M)
end WQ
namespace HT
open PySem PySem.Spec PyProof.Rows
def K8 {ws:cH df}(ht:IsTup s.heap t ([]:cH df).toArray)(hb:IsTup s.heap b ws.toArray)(h1:Q (.ref b) s):wpAny (model prog w) A (binaryOp .Add (.ref t) (.ref b)) Q E s:=by let⟨⟨cls,dd,data,sl⟩,ho,hc,n,hd⟩:=id ht;let⟨⟨ahE,ZM,data2,Pj⟩,S1,GW,n2,hd2⟩:=id hb;simp only at hc hd GW hd2;subst hc hd GW hd2;show concat_meets #[_,ho,rfl] #[_,S1,rfl] noFill_tuple_add seq_tuple_add PySem.F.slot_tuple_add PySem.F.entry_tuple_add (PySem.F.args_tuple_add_2 _ _) (tuple_addW0 t b _ ws.toArray n n2 dd ZM sl Pj (by rfl)) #[ho,S1,h1]
end HT
namespace L2
open PySem PySem.Spec PyProof.Rows
def Pw (K:WW):R2:=λx y H Q=>gc λa b xs ys=>BM (x= .ref a) (y= .ref b) (lm K H a xs) (lm K H b ys) (xs.length+ys.length<=sizeLine) (xs= [] ->Q (.ref b) H) (xs≠ [] ->ys= [] ->Q (.ref a) H) (xs≠ [] ->ys≠ [] -> ∀p,H p=none ->Q (.ref p) (cR H p (.tup (xs++ys))))
def EH:jd X (binaryOp .Add) (Pw X.K):=by
 intro ah s σ H x y v u Q I rx ry h;let⟨a,b,xs,ys,rfl,rfl,ha,hb,hz,q0,q1,q2⟩:=h;by_cases hx:xs= []
 subst hx;cases rx;cases ry;let⟨bN,r1,p1,_⟩:=I.tuple ha;let⟨zo,r2,p2,_⟩:=I.tuple hb;have e:bN= []:=r1.kg.mpr rfl;subst e;show HT.K8 p1 p2 #[.ref b,H,I,rfl,q0 rfl];show Ni ah s σ H _ _ v u Q I rx ry #[a,b,xs,ys,rfl,rfl,ha,hb,hx,hz,q1 hx,q2 hx]
end L2
namespace WL
open PySem L2
section
variable {K:WW}
def O3:qu:=λx y M q=>cx λl l'=>fA (x= .tup l) (y= .tup l') (l.length+l'.length<=sizeLine) (q (.tup (l++l')) M)
def cP.kg (r:cP K H l vs):vs= []↔l= []:=by have:=r.length;cases l<;>cases vs<;>simp_all
instance:IR K (Pw K) O3 where
 imp :=by rintro x y v u M H q Q m r1 r2 ⟨l,l',rfl,rfl,hz,h⟩ k;let⟨a,vs,rfl,hv,r⟩:=r1.tup;let⟨b,us,rfl,hu,r'⟩:=r2.tup;exact#[a,b,vs,us,rfl,rfl,hv,hu,by rw[r.length,r'.length];show hz,λe=> ?_,λ_ e=> ?_,λ_ _ p hp=> ?_];rw[r.kg.mp e,List.nil_append] at h;show k _ M _ H h (a_.refl H) m (WR.Sh hu r');rw[r'.kg.mp e,dQ] at h;show k _ M _ H h (a_.refl H) m (WR.Sh hv r);show k _ M _ _ h (L2.gm.ts (cg hp)) (m.new hp) (WR.Sh (lm.of bY) ((r.append r').ts (L2.gm.ts (cg hp))))
def YM:O3 (.tup l) (.tup l') M q=cr (l.length+l'.length<=sizeLine) (q (.tup (l++l')) M):=by apply propext;symm;rintro⟨_,_,h1,h2,h3,k⟩;cases h1;cases h2;show#[h3,k];rintro⟨h3,k⟩;show#[_,_,rfl,rfl,h3,k]
end
end WL
namespace L2
open PySem PySem.Spec PyProof.Rows
def SO (K:WW)(tl:TE):TI:=λσ H R=>tl σ H λx H1=> ∃a,x= .ref a /\ (((∃xs,ij K H1 a xs) /\ R (ZT K a) H1) \/ ((∃xs,lm K H1 a xs) /\ R (ZR K a) H1))
def RF (hl:PE X l tl):PI X tg l (SO X.K tl):=by
 intro ah s σ H R I h;exact c7 (hl ah s σ H _ I h) λv s1 ⟨x,H1,I1,r1,q1⟩=> ?_;let⟨a,e,q1⟩:=q1;subst e;cases r1;have fin: ∀b∈ [s1.heap.objs.size],lv X ah H1 b:=λb hb=>by have e:b=s1.heap.objs.size:= ⇑hb;subst e;show I1.Dc (aq _) (I1.cU.fresh (aq _))
 rcases q1 with⟨⟨xs,hq⟩,q⟩ | ⟨⟨xs,hq⟩,q⟩
 let⟨bN,rv,p,hz⟩:=I1.list hq;exact wpAny_pyIter_list p.isList ?_;show#[s1.heap.objs.size,[s1.heap.objs.size],_,_,H1,rfl,I1.kept (t':=s1.toks) λb o e=>av _ e,xj a _,#[_,a6 _ rfl,rfl,rfl],fin,q];let⟨bN,rv,p,hz⟩:=I1.tuple hq;exact wpAny_pyIter_tuple (show s1.heap.IsTuple a bN.toArray from p) ?_;show#[s1.heap.objs.size,[s1.heap.objs.size],_,_,H1,rfl,I1.kept (t':=s1.toks) λb o e=>av _ e,uK a _,#[_,a6 _ rfl,rfl,rfl],fin,q]
end L2
namespace WL
open PySem L2
section
variable {K:WW}
def MD (x:W)(M:Mp)(q:cH W ->(Mp ->Prop) ->Mp ->Prop):Prop:=(cx λp l=>c8 (x=wr p) (M p=some (.lst l)) (q l (λM'=>M' p=some (.lst l)) M)) \/ ∃l,x= .tup l /\ q l (λ_=>True) M
def WU (a:WE):WI:=λρ M q=>a ρ M λx M1=>MD x M1 q
instance {t:TE}{a:WE} [ia:IE K t a]:II K (SO K t) (WU a) where
 imp :=λρ M σ H q R o h k=>ia.imp ρ M σ H _ _ o h λx M1 v H1 h1 t1 m1 r1=>by
  rcases h1 with⟨p,l,e,hp,h1⟩ | ⟨l,e,h1⟩
  subst e;let⟨vs,hv,rr⟩:=m1 p _ hp;show#[p,r1.eq, .inl #[#[vs,ij.of hv],k l _ _ M1 H1 h1 t1 m1 xI]];subst e;let⟨p,vs,rfl,hv,rr⟩:=r1.tup;show#[p,rfl, .inr #[#[vs,hv],k l _ _ M1 H1 h1 t1 m1 (A4 hv rr)]]
theorem aa0:WU a ρ M q=a ρ M λx M1=>MD x M1 q:=rfl
def aad:MD (.v (.ref p)) M q=lstK (M p) λl=>q l (λM'=>M' p=some (.lst l)) M:=by apply propext;symm;rintro(⟨_,l,h1,h2,k⟩ | ⟨_,h1,_⟩);cases h1;show#[l,h2,k];cases h1;rintro⟨l,h2,k⟩;show .inl #[_,l,rfl,h2,k]
def aac:MD (.tup l) M q=q l (λ_=>True) M:=by apply propext;symm;rintro(⟨_,_,h1,_⟩ | ⟨_,h1,k⟩);cases h1;cases h1;show k;intro k;show .inr #[l,rfl,k]
end
end WL
namespace WQ
open PySem L2 WL WP
def cv (a b:cH Int):Nat ->Nat ->Int
 | 0,_=>0
 | k+1,n=>cv a b k n+if k<=n then a.getD k 0*b.getD (n - k) 0 else 0
structure IsPart (p:Int)(one other q r:List Int):Prop where
 qs:QE p q
 rs:QE p r
 len:r.length<other.length
 ql:q.length<=one.length
 eq: ∀n,one.getD n 0 % p=(cv q other q.length n+r.getD n 0) % p
def Le {x:α}(h:l.getLast? =some x):gY l (-1)=some x:=by
 have hl:0<l.length:=by
  cases l with
  | nil=>simp at h
  | cons a r=>simp
 unfold gY A3;rw[ak ∅,ao ∅,Option.bind_some];rw[List.getLast?_eq_getElem?] at h;rw[show(-1+(l.length:Int)).toNat=l.length - 1 by lia];show h
end WQ
namespace L2
open PySem PySem.Spec PyProof.Rows
theorem xi: ∀ {ss:cH Str} {us:cH df},cj (ss.map V.str) us -> ∃l:cH (Str×Tok),us=strValues l /\ l.map (·.1)=ss
 | [],_,h=>by cases h;show#[[],rfl,rfl]
 | x ::r,_,h=>by
  cases h with
  | cons h1 h2=>let⟨t,rfl⟩:=h1;let⟨l,rfl,e⟩:=xi h2;show#[(x,t)::l,rfl,by rw[aP,e]]
def o9 (K:WW):V ->cH V ->Hp ->VK ->Prop:=λx vs H Q=>eZ λ(jC:Str) (b:fY) (ss:cH Str)=>lz (x= .str jC) (vs= [.ref b]) (ij K H b (ss.map V.str)) (Builtin.Str.tooLong (ss.toArray.foldl (· + ·.length+jC.length) 0)=false) ((Builtin.Str.glued jC ss).length<=sizeLine) (Q (.str (Builtin.Str.glued jC ss)) H)
def kh:HA X "str.join" (o9 X.K):=by
 intro ah s σ H x xs v us Q I rx rv h;let⟨jC,b,ss,rfl,rfl,hb,hl,hg,q⟩:=h;let⟨t,rfl⟩:=rx;let⟨u,rfl,ru⟩:=vals1 rv;cases ru;let⟨bN,r,p,hz⟩:=I.list hb;let⟨l,rfl,e⟩:=xi r;exact call_meets de (typeIs_str _ _ _) PySem.F.entry_str_join (PySem.F.args_str_join_2 _ _) (meets_str_join_list jC t b l (by rw[e];show hl)) #[p.isList,?_];match l,e with
 | [],e=>have e:ss= []:=e.symm;subst e;show#[hg, .str _,H,I.tok _,#[_,rfl],q]
 | [y],e=>have e:ss= [y.1]:=e.symm;subst e;show#[.str y.1,H,I,#[y.2,rfl],q]
 | y::z::l',e=>subst e;show#[hg, .str _,H,I.tok _,#[_,rfl],q]
def Px:R2:=λx y H Q=>cx λi j=>fA (x= .str i) (y= .str j) (i.length+j.length<=sizeLine) (Q (.str (i++j)) H)
theorem gK:jd X (binaryOp .Add) Px:=CJ
def Pp:cH V ->Hp ->VK ->Prop:=λxs H Q=> ∃i:Int,c8 (xs= [.int i]) (i.natAbs.log2<1920) (Q (.str (toString i)) H)
theorem ng:fJ X (.type "str") Pp:=zC
end L2
namespace WL
open PySem L2
section
variable {K:WW}
def QY (r:WM)(a:WE)(b:WA):WE:=λρ M q=>a ρ M λx M1=> ∃y,x=ws y /\ b ρ M1 λxs M2=>r x xs M2 q
instance {r:V ->cH V ->Hp ->VK ->Prop}{w:WM}{t:TE}{u:TA}{a:WE}{b:WA} [ir:IM K r w] [ia:IE K t a] [ib:IA K u b]:IE K (YZ K "str" r t u) (QY w a b) where
 imp :=λρ M σ H q Q o h k=>ia.imp ρ M σ H _ _ o h λx M1 v H1 ⟨y,e,h1⟩ t1 m1 r1=>by subst e;cases r1.eq;show#[rfl,ib.imp ρ M1 σ H1 _ _ (o.mv t1 m1) h1 λz M2 u H2 h2 t2 m2 r2=>ir.imp (ws y) (.str y) z u M2 H2 _ _ m2 WR.v r2 h2 λz M3 v3 H3 h3 t3 m3 r3=>k z M3 v3 H3 h3 ((t1.trans t2).trans t3) m3 r3]
theorem cP.strs {H:Hp}: ∀ {ss:cH Str} {vs:cH V},cP K H (ss.map ws) vs ->vs=ss.map V.str
 | [],vs,h=>by simpa only[List.map_nil,cP] using h
 | n::r,vs,h=>by simp![aP,cP] at h;let⟨v,t,rfl,h1,h2⟩:=h;rw[cP.strs h2,h1.eq];rfl
def HN:WM:=λx ys M q=>eZ λ(jC:Str) (b:fY) (ss:cH Str)=>lz (x=ws jC) (ys= [wr b]) (M b=some (.lst (ss.map ws))) (Builtin.Str.tooLong (ss.toArray.foldl (· + ·.length+jC.length) 0)=false) ((Builtin.Str.glued jC ss).length<=sizeLine) (q (ws (Builtin.Str.glued jC ss)) M)
instance:IM K (o9 K) HN where
 imp:=by rintro x v ys us M H q Q m r1 r2 ⟨jC,b,ss,rfl,rfl,hb,hl,hg,h⟩ k;cases r1.eq;let⟨u,rfl,r⟩:=r2.one;cases r.eq;let⟨vs,hv,rr⟩:=m b _ hb;cases rr.strs;show#[jC,b,ss,rfl,rfl,ij.of hv,hl,hg,k _ M _ H h (a_.refl H) m WR.v]
def O5:qu:=λx y M q=>cx λi j=>fA (x=ws i) (y=ws j) (i.length+j.length<=sizeLine) (q (ws (i++j)) M)
instance:IR K Px O5 where
 imp:=by rintro x y v u M H q Q m r1 r2 ⟨i,j,rfl,rfl,hz,h⟩ k;cases r1.eq;cases r2.eq;show#[i,j,rfl,rfl,hz,k _ M _ H h (a_.refl H) m WR.v]
def YS:O5 (.v (.str i)) (.v (.str j)) M q=cr (i.length+j.length<=sizeLine) (q (ws (i++j)) M):=by apply propext;symm;rintro⟨_,_,h1,h2,h3,k⟩;cases h1;cases h2;show#[h3,k];rintro⟨h3,k⟩;show#[_,_,rfl,rfl,h3,k]
def OY:zK:=λxs M q=> ∃i:Int,c8 (xs= [wi i]) (i.natAbs.log2<1920) (q (ws (toString i)) M)
instance:IC K Pp OY where
 imp:=by rintro xs v M H q Q m r1 ⟨i,rfl,hz,h⟩ k;let⟨v,rfl,r⟩:=r1.one;cases r.eq;show#[i,rfl,hz,k _ M _ H h (a_.refl H) m WR.v]
def Yw:OY [.v (.int i)] M q=cr (i.natAbs.log2<1920) (q (ws (toString i)) M):=by apply propext;symm;rintro⟨_,h1,h3,k⟩;cases h1;show#[h3,k];rintro⟨h3,k⟩;show#[_,rfl,h3,k]
def yD (x:W)(k:Str ->Prop):Prop:= ∃y,x=ws y /\ k y
def aaa:yD (.v (.str y)) k=k y:=by apply propext;symm;rintro⟨_,h,k⟩;cases h;show k;intro h;show#[_,rfl,h]
def _K:QY r a b ρ M q=a ρ M λx M1=>yD x λy=>b ρ M1 λxs M2=>r (ws y) xs M2 q:=by unfold QY yD;congr 1;funext x M1;apply propext;symm;rintro⟨y,rfl,h⟩;show#[y,rfl,h];rintro⟨y,rfl,h⟩;show#[y,rfl,h]
def _F:QT a ρ M q=a ρ M λx M1=>A7 x λi=>cr (i.natAbs.log2<1920) (q (ws (toString i)) M1):=by unfold QT A7 cr;congr 1;funext x M1;show propext #[λ⟨i,a,b,c⟩=>#[i,a,b,c],λ⟨i,a,b,c⟩=>#[i,a,b,c]]
def _E:QS a ρ M q=a ρ M λx M1=>yD x λy=>cr (y.length<=sizeLine) (q (ws y) M1):=by unfold QS yD cr;congr 1;funext x M1;show propext #[λ⟨i,a,b,c⟩=>#[i,a,b,c],λ⟨i,a,b,c⟩=>#[i,a,b,c]]
theorem ahX:wJ0 out ρ M q=cr (out.length<=sizeLine) (q (ws out) M):=rfl
def ahW:_x a f out ρ M q=a ρ M λx M1=>yD x λy=>cr ((out++y).length<=sizeLine) (f (out++y) ρ M1 q):=by unfold _x yD cr;congr 1;funext x M1;show propext #[λ⟨i,a,b,c⟩=>#[i,a,b,c],λ⟨i,a,b,c⟩=>#[i,a,b,c]]
end
end WL
namespace WQ
open PySem L2 WL WP
def uf {a b:Str}(h:a.cps.toList=b.cps.toList):a=b:=by cases a;cases b;congr 1;show Array.toList_inj.mp h
def gL (a b:Str):(a++b).cps.toList=a.cps.toList++b.cps.toList:=by change(a.cps++b.cps).toList=_;simp
def str_len (a:Str):a.length=a.cps.toList.length:=by change a.cps.size=_;simp
def bE (a b:Str):(a++b).length=a.length+b.length:=by rw[str_len,gL,aE, <- str_len, <- str_len]
def nc (jC:Str): ∀ (x:Str) (ss:cH Str),(Builtin.Str.glued jC (x::ss)).cps.toList=x.cps.toList++(ss.map λy=>jC.cps.toList++y.cps.toList).flatten:=by
 intro x ss;unfold Builtin.Str.glued;change(ss.foldl (λgb p=>gb++jC.cps++p.cps) x.cps).toList=_;generalize x.cps=a;induction ss generalizing a with
 | nil=>simp
 | cons y ss ih=>rw[List.foldl_cons,ih,aP,List.flatten_cons];simp
theorem xN (jC:Str):Builtin.Str.glued jC []=Str.empty:=rfl
theorem gj (jC:Str): ∀ (ss:cH Str),(∀x∈ss,x.length<=c) ->(Builtin.Str.glued jC ss).length<=ss.length*(c+jC.length)
 | [],_=>by rw[xN];show dm _
 | x :: ss,h=>by
  rw[str_len,nc,aE, <- str_len];have h1:=h x (by simp);have h2:((ss.map λy=>jC.cps.toList++y.cps.toList).flatten).length<=ss.length*(c+jC.length):=by
   have: ∀l:cH Str,(∀y∈l,y.length<=c) ->((l.map λy=>jC.cps.toList++y.cps.toList).flatten).length<=l.length*(c+jC.length):=by
    intro l hl;induction l with
    | nil=>simp
    | cons y l ih=>rw[aP,List.flatten_cons,aE,aE, <- str_len, <- str_len,aC,Nat.succ_mul];have:=hl y (by simp);have:=ih λz hz=>hl z (by simp[hz]);lia
   show this ss λy hy=>h y (by simp[hy])
  rw[aC,Nat.succ_mul];lia
def Vl (jC:Str)(ss:cH Str)(h: ∀x∈ss,x.length<=c)(hz:ss.length*(c+jC.length) <=sizeLine):Builtin.Str.tooLong (ss.toArray.foldl (· + ·.length+jC.length) 0)=false:=by
 have: ∀ (l:cH Str) (n:Nat),(∀y∈l,y.length<=c) ->l.foldl (λ(a:Nat) (y:Str)=>a+y.length+jC.length) n<=n+l.length*(c+jC.length):=by
  intro l;induction l with
  | nil=>intro n _;simp
  | cons y l ih=>intro n hl;rw[List.foldl_cons,aC,Nat.succ_mul];have h1:=hl y (by simp);have h2:=ih (n+y.length+jC.length) λz hz=>hl z (by simp[hz]);lia
 have h1:=this ss 0 h;unfold Builtin.Str.tooLong;rw[decide_eq_false_iff_not,List.foldl_toArray];lia
theorem qX (hb:M b=some (.lst (ss.map ws)))(h: ∀x∈ss,x.length<=c)(hz:ss.length*(c+jC.length) <=sizeLine)(k:q (ws (Builtin.Str.glued jC ss)) M):HN (ws jC) [wr b] M q:=#[jC,b,ss,rfl,rfl,hb,Vl jC ss h hz,ar (gj jC ss h) hz,k]
def Iw (s:String):(Str.ofString s).length=s.toList.length:=by rw[Str.ofString_eq_toList];change((s.toList.map Char.toNat).toArray).size=_;simp
def fE {i:Int}(h:i.natAbs<10 ^ 60):(Str.ofString (toString i)).length<=61:=by
 rw[Iw];have hd: ∀n:Nat,n<10 ^ 60 ->(Nat.repr n).toList.length<=60:=λn hn=>by rw[Nat.repr_eq_ofList_toDigits,String.toList_ofList];show(Nat.length_toDigits_le_iff ⋯ ⋯).mpr hn
 cases i with
 | ofNat n=>change(Nat.repr n).toList.length<=61;have:=hd n h;lia
 | negSucc n=>
  change("-" ++Nat.repr (n+1)).toList.length<=61;rw[String.toList_append,aE];have:=hd (n+1) h;have e:("-" :String).toList.length=1:=⋯
  lia
def gh {i:Int}(h:i.natAbs<10 ^ 60):i.natAbs.log2<1920:=by by_cases h0:i.natAbs=0;rw[h0];decide;rw[Nat.log2_lt h0];show bD h (by decide+kernel)
def fZ (z:Int×Int):Str:=(toString z.1:Str)++ "=" ++toString z.2
def j8 (a:Rd):Str:=(toString a.1:Str)++ ":" ++Builtin.Str.glued (Str.ofString "") (a.2.map λz=> " " ++fZ z)
def Am (a:Rd):j8 a=Builtin.Str.glued " " (((toString a.1:Str)++ ":")::a.2.map fZ):=by
 exact uf ?_;rw[nc,j8,gL];congr 1;cases a.2 with
 | nil=>rfl
 | cons z l=>
  rw[aP,nc,aP,aP,List.flatten_cons,gL,a5,a5];congr 2;apply dI;intro y _;change(Str.ofString "").cps.toList++(Str.ofString " " ++fZ y).cps.toList=(Str.ofString " ").cps.toList++(fZ y).cps.toList;rw[gL];have:(Str.ofString "").cps.toList= []:=by decide+kernel
  rw[this];rfl
def TJ (a:Rd):Prop:=a.1.natAbs<10 ^ 60 /\ ∀z∈a.2,z.1.natAbs<10 ^ 60 /\ z.2.natAbs<10 ^ 60
def vm (h:z.1.natAbs<10 ^ 60 /\ z.2.natAbs<10 ^ 60):(fZ z).length<=123:=by
 unfold fZ;rw[bE,bE];have h1:=fE h.1;have h2:=fE h.2;have e:(Str.ofString "=").length=1:=by decide+kernel
 lia
def Jq:fq:=λxs M q=> ∃ (a:Rd),fA (xs= [gI a]) (a.2.length<=1000) (TJ a) (q (ws (j8 a)) M)
theorem xX (x:Str):Str.empty++x=x:=uf (by rw[gL];rfl)
theorem bj (h:n<=5000):n<=sizeLine:=ar h (by rw[cY];decide)
theorem rK (a b c:Str):a++b++c=a++(b++c):=uf (by rw[gL,gL,gL,gL,bU])
end WQ
namespace WL
open PySem L2
def K4 {α:Type}{l:cH α}{fW:α ->W}(eW:α ->W){M1:Mp}(hz:l.length<=sizeLine)(l7: ∀M,Sm M1 M ->keep M)(hs: ∀a∈l, ∀ (M:Mp) (N:fj W ->Mp ->Prop),Sm M1 M ->(∀M',Sm M M' ->N (some (eW a)) M') ->g (fW a) (ou own fr ρ) M λρ2 M2=>c ρ2 M2 λb M3=>gF b (el ρ2 M3 λy M4=>N (some y) M4) (N none M3))(hq: ∀p M',M1 p=none ->Sm M1 M' ->M' p=some (.lst (l.map eW)) ->q (wr p) M'):sR (l.map fW) keep own fr g c el ρ M1 q:=by
 exact#[by rw[af];show hz,λp hp=>#[λi ys M=>M p=some (.lst ys) /\ Sm M1 M /\ ys=(l.take i).map eW,#[am,a7 hp,by simp],?_,?_,?_]];rintro i ys M hi ⟨h1,h2,rfl⟩;exact#[l7 _ h2,h1,?_];rw[af,bT];lia;rintro i x ys M hx ⟨h1,h2,rfl⟩;let⟨a,ha,rfl⟩:=qT hx;have e:l.take (i+1)=l.take i++ [a]:=by rw[cK,ha];rfl
 exact hs a (aX ha) _ (λo M4=>match o with
 | some y=>M4 p=some (.lst ((l.take i).map eW)) /\ um M4 p (.lst ((l.take i).map eW++ [y])) p=some (.lst ((l.take i).map eW++ [y])) /\ Sm M1 (um M4 p (.lst ((l.take i).map eW++ [y]))) /\ (l.take i).map eW++ [y]=(l.take (i+1)).map eW
 | none=>M4 p=some (.lst ((l.take i).map eW)) /\ Sm M1 M4 /\ (l.take i).map eW=(l.take (i+1)).map eW) h2 λM' s'=>#[s' _ _ h1,am,λc o ec=>by rw[aR (ca ec hp)];show s' _ _ (h2 _ _ ec),by rw[e,aB];rfl]
 rintro ys M ⟨h1,h2,rfl⟩;rw[af,cW] at h1;show hq p M hp h2 h1
end WL
namespace WQ
open PySem L2 WL WP
def cs (n r:Int)(l:Pt):Int:=((l.filter λz=>decide (z.1 % n=r)).map (·.2)).sum
end WQ
namespace L2
open PySem PySem.Spec PyProof.Rows
def gf {K:WW}(hK:X.K=K)(hl:PE X l tl):PI X tg l (Kf K tl):=by subst hK;show uo hl
def kc {K:WW}(hK:X.K=K)(hl:PE X l tl):PI X tg l (SN K tl):=by subst hK;show qH hl
def Ez {K:WW}(hK:X.K=K)(hl:PE X l tl):PI X tg l (SO K tl):=by subst hK;show RF hl
end L2
namespace WL
open PySem L2
def dU (hK:X.K=K):fJ X (.builtin "len") (RB K):=by subst hK;show G7
end WL
namespace WQ
open PySem L2 WL WP
abbrev Cf:=Nat ->Int
def ZN:Nat ->Cf ->Cf ->Int
 | 0,f,g=>f 0*g 0
 | n+1,f,g=>f 0*g (n+1)+ZN n (λi=>f (i+1)) g
def co (l:cH Int):Cf:=λi=>l.getD i 0
def Mult (p:Int)(a g:Cf):Prop:=cx λ(E:Cf) (N:Nat)=>(∀i,N<=i ->E i % p=0) /\ ∀n,a n % p=ZN n E g % p
def yo (p:Int)(a g h:Cf):Prop:=eZ λ(A B:Cf) (N:Nat)=>(∀i,N<=i ->A i % p=0 /\ B i % p=0) /\ ∀n,a n % p=(ZN n A g+ZN n B h) % p
def FV (p:Int)(a:Rd)(v:Int):Prop:=cx λlo hi=>c8 (X_ (Ph a) lo) (Ya (Ph a) hi) (v=fwv p a lo hi)
open Classical in
noncomputable def fv (p:Int) (a:Rd):Int:=if h: ∃v,FV p a v then h.choose else 0
def names:cH Str:= ["on","back","up","down"]
def Y1 (p:Int)(s:Str):Rd:=if s= "on" then(1,[]) else if s= "back" then(-1,[]) else if s= "up" then(0,[(0,1)]) else(0,[(0,p - 1)])
end WQ
namespace L2
open PySem
def uZ (hK:X.K=K):jd X (compareOp .In) (VW K false):=by subst hK;show Go
def f6 (hK:X.K=K):fJ X (.builtin "isinstance") (RC K):=by subst hK;show K9
end L2
namespace WQ
open PySem L2 WL WP
def pairsOf (p:Int)(z:Int×Int):Pt:=if z.2<=p - z.2 then List.replicate z.2.toNat (z.1,1) else List.replicate (p - z.2).toNat (z.1, -1)
def Z1:Int ->Pt ->Int
 | _,[]=>0
 | here,z::r=>X3 (here - z.1)+Z1 z.1 r
end WQ
namespace L2
open PySem PySem.Spec PyProof.Rows
def Inv.freeze {σ:St}(I:Inv X ah σ H s)(e:H d=some v)(ho:s.heap.get? d=some o)(n1: ∀xs,HO.tup xs≠v:=by intro _ q;cases q)(n2: ∀a b,HO.lw a b≠v:=by intro _ _ q;cases q)(n3: ∀a,HO.own a≠v:=by intro _ q;cases q)(n4: ∀a,HO.Mz a≠v:=by intro _ q;cases q): Inv X ah σ (cR H d (.lw o v)) s:=by
 have ne: ∀ {b u},H b=some u ->u≠v ->b≠d:=λ{b u} h n z=>by subst z;rw[e] at h;show n (bA h).symm
 have Nv: ∀ {b},H b=none ->b≠d:=λ{b} h z=>by subst z;rw[e] at h;cases h
 exact#[I.ok,I.os,I.bare,#[I.base.keep,I.base.slot,λb u h1 h2 h3=> ?_,I.base.there,λb xs h=> ?_,λb o' u h=> ?_,λb ps h=> ?_],I.loc,I.cell,?_,λx c h=> ?_,λp hp=> ?_,λb u h=> ?_,I.len];have z:=I.base.free b u h1 h2 h3;rw[bR (Nv z)];show z;have z:=I.base.oG b xs h;rw[bR (ne z (n1 _))];show z;have z:=I.base.nq b o' u h;rw[bR (ne z (n2 _ _))];show z;let⟨more,z⟩:=I.base.qB b ps h;show#[more,by rw[bR (ne z (n4 _))];show z];rw[bR (Nv I.free)];show I.free;rw[bR (Nv (I.gS x c h))];show I.gS x c h;let⟨a1,a2,a3⟩:=I.pin p hp;show#[a1,by rw[bR (Nv a2)];show a2,a3];have ow: ∀c,H c=some (.own b) ->cR H d (.lw o v) c=some (.own b):=λc r=>by rw[bR (ne r (n3 _))];show r
 have tu: ∀c xs,H c=some (.tup xs) ->cR H d (.lw o v) c=some (.tup xs):=λc xs r=>by rw[bR (ne r (n1 _))];show r
 by_cases hb:b=d;subst hb;rw[bY] at h;cases h;show#[ho,(I.cU b _ e).uO (λ_ _ _ h=>h) ow tu];rw[bR hb] at h;show(I.cU b u h).uO (λ_ _ _ h=>h) ow tu
def ZU (d:fY)(o:Obj)(kvs:cH (cf×V)):It:=#[λi H=>i<kvs.length /\ H d=some (.lw o (.dK kvs)),λi H x H'=>H'=H /\ ∃kv,kvs[i]? =some kv /\ x=kv.2,λi H=>kvs.length<=i /\ H d=some (.lw o (.dK kvs))]
theorem PX: ∀ {kvs:cH (cf×V)} {vs:cH (cf×df)} {i:Nat} {q:cf×df},KV kvs vs ->vs[i]? =some q -> ∃p,kvs[i]? =some p /\ RelV p.2 q.2
 | _,_,0,_, .cons ⟨_,r⟩ _,e=>by cases e;show#[_,rfl,r]
 | _,_,i+1,q, .cons _ t,e=>by have e':_=some q:=e;rw[List.getElem?_cons_succ] at e' ⊢;show PX t e'
def zy {σ:St}(I:Inv X ah σ H s)(ho:o.data= .dict es ep)(e:H d=some (.lw o (.dK kvs))): ∃vs,KV kvs vs /\ s.heap.DictAt (cO X.prog X.w) d vs ep:=by
 let⟨h0,_,_,vs,gq,o',ZK,ZL,h1,h2,h3,h4⟩:=(show eC X.prog X.w H s.heap d (.lw o (.dK kvs)) from I.cU d _ e)
 rw[h0] at h1;cases h1;rw[ho] at h3;cases h3;show#[vs,gq,o,es,h0,h2,ho,h4]
def FT {P:Program}{w:World}{K:WW}{tg:Expr}{d it:fY}{o:Obj}{kvs:cH (cf×V)}{es:gP DictEntry}{ep:Nat}(ho:o.data= .dict es ep): zL P w K tg (ZU d o kvs) [it] it (λi h=>h.IsValIter it d i kvs.length ep) where
 mem:=by simp
 obj:=λi h st b hb=>by have e:b=it:= ⇑hb;subst e;let⟨o,e,c,d⟩:=st;show#[o,e,λv z=>by rw[d] at z;cases z]
 keep:=λi h h' st k=>st.at λo e=>k it (by simp) o e
 item:=by
  intro X hP hw hK hc i ah s σ H E I hf st hg;subst hP hw hK;let⟨hi,hH⟩:=hg;let⟨vs,gq,hd⟩:=zy I ho hH;have hl:=gq.length;rw[hl] at st hi;let⟨f0,f1,f2,f3,f4,f5⟩:=hf it (by simp);let⟨⟨k,x⟩,hx⟩: ∃q,vs[i]? =some q:=#[vs[i],by simp[hi]]
  let⟨p,hp,rp⟩:=PX gq hx;exact wpAny_pyNext_values_item st hd hx λh' C8 gR=> ?_;have I1:Inv X ah σ H {s with heap:=h'}:=I.turned (t':=s.toks) (λb o hb e=>(gR.2 b hb).trans e) f0 f1 f3 f4 f5;let⟨oo,e,c,dd⟩:=id C8;rw[<- hl] at C8;show#[x,rfl,xM (s:= {s with heap:=h'}) e c dd ⋯ #[p.2,H,I1,rp,#[rfl,p,hp,rfl],C8,λb hb=>(hf b hb).1]]
 done:=by intro X hP hw hK hc i ah s σ H E I hf st hg;subst hP hw hK;let⟨hi,hH⟩:=hg;let⟨vs,gq,hd⟩:=zy I ho hH;have hl:=gq.length;rw[hl] at st hi;let⟨f0,f1,f2,f3,f4,f5⟩:=hf it (by simp);show wpAny_pyNext_values_end (I.ok.hd hc) st hd (by simp;omega) λh' eb=>#[rfl,I.turned (t':=s.toks) (λb o hb e=>eb b o hb e) f0 f1 f3 f4 f5]
 self:=λ_ _ _ _ _ st h=>wpAny_pyIter_valiter st h
section
variable {X:Cx}{tg o:Expr}{td:TE}{dP dy:Pos}
def Qg (td:TE):TI:=λσ H R=>td σ H λx H1=>cx λd kvs=>c8 (x= .ref d) (H1 d=some (.dK kvs)) (∀o,R (ZU d o kvs) (cR H1 d (.lw o (.dK kvs))))
def MS (ho:PE X o td)(vI:attributeBase o "values" X.env (eval o X.env)=eval o X.env:=by rfl)(vH:(dP.endLine==dy.line)=true:=by rfl):PI X tg (.Call (.Attribute o "values" dP) [] [] dy) (Qg td):=by
 intro ah s σ H R I h;exact wpAny_Call_method0_late vI vH (c7 (ho ah s σ H _ I h) λv s1 ⟨x,H1,I1,r1,d,kvs,ex,hd,q1⟩=> ?_);subst ex;obtain rfl:v=Value.ref d:=r1;let⟨t1,t2,sys⟩:=C2 I1 (.inl #[kvs, .inl hd]);exact#["dict","dict.values",PySem.F.plainAttrs_dict,PySem.F.slot_dict_values,PySem.F.type_dict_values,t1,t2,Calls.callWith_builtin rfl (PySem.evalArgs_none ?_)];let⟨z,SU,vs,gq,dd⟩:=pZ I1.cU (.inl hd);exact call_meetsIn PySem.F.slot_dict_values dd.typeIs PySem.F.entry_dict_values (PySem.F.args_dict_values_1 _) (meets_dict_values (cO X.prog X.w) d SU) #[#[vs,dd],?_];let⟨ob,es,ep,g1,g2,g3,g4⟩:=dd;have da:s1.heap.DictAt (cO X.prog X.w) d vs ep:=#[ob,es,g1,g2,g3,g4]
 exact wpAny_pyIter_values (d:=d) (kvs:=vs) (ep:=ep) (knd:=cO X.prog X.w) #[_,a6 _ rfl,rfl,rfl] (da.push _) ?_;have I2:=I1.freeze hd g1;exact#[_,[_],_,ZU d ob kvs,_,rfl,I2.kept (t':=s1.toks) λb o e=>av _ (av _ e),FT g3,?_,λb hb=> ?_,q1 ob];rw[gq.length];show#[_,a6 _ rfl,rfl,rfl];have I3:Inv X ah σ (cR H1 d (.lw ob (.dK kvs))) {s1 with heap:=s1.heap.push {cls:= .type "dict_values",data:= .fields #[.ref d]}}:=I2.kept (t':=s1.toks) λb o e=>av _ e;have e:=bg.mp hb;subst e;show I3.Dc (aq _) (I3.cU.fresh (aq _))
end
end L2
namespace WL
open PySem L2
variable {K:WW}
def J8 (a:WE):WI:=λρ M q=>a ρ M λx M1=>cx λd kvs=>c8 (x=wr d) (M1 d=some (.dK kvs)) (∀o ks,q (kvs.map (·.2)) (λM'=>M' d=some (.fz o ks kvs)) (um M1 d (.fz o ks kvs)))
theorem PY: ∀ {H:Hp} {kvs:cH (cf×W)} {vs:cH (cf×V)} {i:Nat} {q:cf×V},KR K H kvs vs ->vs[i]? =some q -> ∃p,kvs[i]? =some p /\ WR K H p.2 q.2
 | _,_,_,0,_, .cons ⟨_,r⟩ _,e=>by cases e;show#[_,rfl,r]
 | _,_,_,i+1,q, .cons _ t,e=>by have e':_=some q:=e;rw[List.getElem?_cons_succ] at e' ⊢;show PY t e'
theorem CZ {H:Hp}: ∀ {kvs:cH (cf×W)} {vs:cH (cf×V)},KR K H kvs vs ->kvs.length=vs.length
 | _,_, .nil=>rfl
 | _,_, .cons _ t=>by rw[aC,aC,CZ t]
def GK:Dy K H1 (ZU d o ks) (kvs.map (·.2)) (λM'=>M' d=some (.fz o ks kvs)):=by intro i M H t m hM;let⟨e1,r1⟩:=m d _ hM;have hl:=CZ r1;rw[af];exact#[λh=>#[by omega,e1],λh=>#[by omega,e1],λv H' hi ⟨e2,kv,hk,e3⟩=> ?_];subst e2 e3;let⟨p,hp,rp⟩:=PY r1 hk;show#[a_.refl _,m,p.2,by rw[aK,hp];rfl,rp]
instance {t:TE}{a:WE} [ia:IE K t a]:II K (Qg t) (J8 a) where
 imp:=λρ M σ H q R o h k=>ia.imp ρ M σ H _ _ o h λx M1 v H1 ⟨d,kvs,ex,hd,h1⟩ t1 m1 r1=>by subst ex;let⟨ks,e,r⟩:=m1 d _ hd;exact#[d,ks,r1.eq,e,λob=>k _ _ _ _ _ (h1 ob ks) (t1.trans (lC e)) (m1.put (lC e) #[bY,KR.ts (lC e) r]) GK]
def Zr:J8 a ρ M q=a ρ M λx M1=>eB x λd=>fQ (M1 d) λkvs=> ∀o ks,q (kvs.map (·.2)) (λM'=>M' d=some (.fz o ks kvs)) (um M1 d (.fz o ks kvs)):=by unfold J8 eB fQ;congr 1;funext x M1;apply propext;symm;(· rintro⟨p,l,h1,h2,h⟩;show#[p,h1,l,h2,h]);(· rintro⟨p,h1,l,h2,h⟩;show#[p,l,h1,h2,h])
end WL
namespace WQ
open PySem L2 WL WP
def XQ (n:Int):Pt ->Int ->Int
 | [],_=>0
 | z::r,k=>(if z.1 % n=k then z.2 else 0)+XQ n r k
def XE (F1:bI P w K mg base CX k f fd ps (fS K p1))(F2:bI P w K mg base CX k f fd ps (fS K p2))(h: ∀xs M q,p3 xs M q ->p1 xs M q \/ p2 xs M q):bI P w K mg base CX k f fd ps (fS K p3):=by exact#[λvs H Q E ⟨xs,M,q,r,m,h3,k⟩=> ?_,λA outer s H args us vs Q E hr e b v ⟨xs,M,q,r,m,h3,k⟩=> ?_];obtain h4 | h4:=h xs M q h3;show F1.len vs H Q E #[xs,M,q,r,m,h4,k];show F2.len vs H Q E #[xs,M,q,r,m,h4,k];obtain h4 | h4:=h xs M q h3;show F1.run A outer s H args us vs Q E hr e b v #[xs,M,q,r,m,h4,k];show F2.run A outer s H args us vs Q E hr e b v #[xs,M,q,r,m,h4,k]
def fl (p:Int)(m:Nat)(f:Pt):cH Int:=(List.range m).map λ(k:Nat)=>XQ m f k % p
end WQ
namespace L2
open PySem PySem.Spec PyProof.Rows
theorem iE {p pos:Pos}{st:Stmt}(hP:ik (i6 X.prog X.w) X E)(C:g0 X.K X.mg x ps st f fd)(F:bI X.prog X.w X.K X.mg X.base (i6 X.prog X.w) k f fd ps sp)(hr:e7 k X.A)(hg:Gl X x)(ha:PA X (e::es) t)(xL:(x==("__debug__" :Str))=false:=by decide)(he:starEach (e::es) X.env=(false,eval e X.env)::starEach es X.env:=by rfl)(qt:(backTo pos (starEach es X.env)).any (·.1)=false:=by rfl): PE X (.Call (.Name x p) (e::es) [] pos) (xo sp [] E t):=EC F hr hg C.at_ C.fn.kp C.bd .nil hP ha xL he qt
end L2
namespace WQ
open PySem L2 WL WP
def ahD (s x:Int):Int:=if s=0 then x else x % s
def hI (s x:Int):Int:=if s=0 then 0 else x / s
def Sl:cH Int ->Int
 | []=>0
 | a::r=>r.foldl (λm x=>if x<m then x else m) a
def plc (l:Pt):cH Int:=l.map (·.1)
end WQ
namespace L2
open PySem
structure UK (K:PySem.W.Frag)(mg:Str ->Option Value)(x qual:Str)(ps:List Str)(st:Stmt)(C f:Addr)(fd:FuncData):Prop where
 at_:mg x=some (.ref C)
 mkr:Mk K C f
 cl:xb K C
 fn:BR K "__init__" qual st f fd
 bd:Binds K fd ps []
theorem jO {p pos:Pos}(M:UK X.K X.mg x qual ps st C f fd)(F:bI X.prog X.w X.K X.mg X.base fw k f fd ps sp)(hr:e7 (k+1) X.A)(hg:Gl X x)(ha:PA X (e::es) t)(xL:(x==("__debug__" :Str))=false:=by decide)(he:starEach (e::es) X.env=(false,eval e X.env)::starEach es X.env:=by rfl)(qt:(backTo pos (starEach es X.env)).any (·.1)=false:=by rfl): PE X (.Call (.Name x p) (e::es) [] pos) (Il C sp [] E0 t):=MU M.mkr F hr hg M.at_ M.bd .nil ED ha xL he qt
end L2
namespace WL
open PySem L2
section
variable {K:WW}
theorem A0 {H:Hp}{f:Str}{x:W}: ∀ {fs:cH (Str×W)} {ks:cH (Str×V)},KR K H fs ks ->fs.lookup f=Option.some x -> ∃v,ks.lookup f=Option.some v /\ WR K H x v
 | _,_, .nil,h=>by cases h
 | (g,y)::fs,(g',v)::ks, .cons ⟨e,r⟩ t,h=>by
  cases (show g=g' from e);rw[List.lookup_cons] at h ⊢;cases hb:f==g with
  | true=>rw[hb] at h;cases h;show#[v,rfl,r]
  | false=>rw[hb] at h;show A0 t h
def io (f:Str)(v:W):cH (Str×W) ->cH (Str×W)
 | []=> [(f,v)]
 | (g,x)::r=>if g=f then(g,v)::r else(g,x)::io f v r
theorem EV {H:Hp}{f:Str}{x:W}{v:V}(rx:WR K H x v): ∀ {fs:cH (Str×W)} {ks:cH (Str×V)},KR K H fs ks ->KR K H (io f x fs) (L2.jN f v ks)
 | _,_, .nil=> .cons #[rfl,rx] .nil
 | (g,y)::fs,(g',u)::ks, .cons ⟨e,r⟩ t=>by cases (show g=g' from e);unfold io L2.jN;split;show .cons #[rfl,rx] t;show .cons #[rfl,r] (EV rx t)
theorem EW {H:Hp}: ∀ {kvs:cH (Str×W)} {vs:cH (Str×V)},KR K H kvs vs ->kvs.length=vs.length
 | _,_, .nil=>rfl
 | _,_, .cons _ t=>by rw[aC,aC,EW t]
def Mq (K:WW)(a:WE)(f:Str):WE:=λρ M q=>a ρ M λx M1=>sW λp C dx fs v=>lz (x=wr p) (M1 p=some (.ins C dx fs)) (xb K C) (eE K C f) (fs.lookup f=some v) (q v M1)
instance {t:TE}{a:WE}{f:Str} [ia:IE K t a]:IE K (Ri K t f) (Mq K a f) where
 imp:=λρ M σ H q Q o h k=>ia.imp ρ M σ H _ _ o h λx M1 v H1 ⟨p,C,dx,fs,y,ex,hp,hc,hn,hl,h1⟩ t1 m1 r1=>by subst ex;let⟨ks,e,r⟩:=m1 p _ hp;let⟨u,hu,ru⟩:=A0 r hl;show#[p,C,dx,ks,u,r1.eq,e,hc,hn,hu,k _ _ _ _ h1 t1 m1 ru]
def Ek (K:WW)(a b:WE)(f:Str):WS:=λD ρ M=>b ρ M λy M1=>a ρ M1 λx M2=>gc λp C dx fs=>lz (x=wr p) (M2 p=some (.ins C dx fs)) (xb K C) (eE K C f) (fs.length<1000) (D.nx ρ (um M2 p (.ins C dx (io f y fs))))
instance {t u:TE}{a b:WE}{f:Str} [ia:IE K t a] [ib:IE K u b]:IS K (VM K t u f) (Ek K a b f) where
 imp:=λρ M σ H D' D o h e=>ib.imp ρ M σ H _ _ o h λy M1 v1 H1 h1 t1 m1 r1=>ia.imp ρ M1 σ H1 _ _ (o.mv t1 m1) h1 λx M2 v2 H2 ⟨p,C,dx,fs,ex,hp,hc,hn,hl,h2⟩ t2 m2 r2=>by subst ex;let⟨ks,ek,r⟩:=m2 p _ hp;have ts:=Q_ (u:= .ins C dx (jN f v1 ks)) ek;exact#[p,C,dx,ks,r2.eq,ek,hc,hn,by rw[<- EW r];show hl,e.nx ρ _ σ _ h2 ((t1.trans t2).trans ts) (o.mv ((t1.trans t2).trans ts) (m2.put ts #[_,bY,KR.ts ts (EV (r1.ts t2) r)]))]
def O1 (C:fY)(p:fq)(a:WA):WE:=λρ M q=>a ρ M λxs M1=> ∀x dx,M1 x=none ->M1 dx=none ->dx≠x ->p (wr x::xs) (um M1 x (.ins C dx [])) λv M2=>v=wn /\ q (wr x) M2
instance {C:fY}{p:fq}{E:XK}{t:TA}{a:WA} [ia:IA K t a]:IE K (Il C (fS K p) [] E t) (O1 C p a) where
 imp:=λρ M σ H q Q o h k=>ia.imp ρ M σ H _ _ o h λxs M1 vs H1 h1 t1 m1 r1=>λx dx hx L' l5=>by
  have SR:cR H1 dx (.own x) x=none:=by rw[bR (dD l5)];show hx
  have ts1:a_ H1 (cR H1 dx (.own x)):=L2.gm.ts (cg L');have Vi:a_ (cR H1 dx (.own x)) (cR (cR H1 dx (.own x)) x (.ins C dx [])):=L2.gm.ts (cg SR);exact#[wr x::xs,um M1 x (.ins C dx []),λv M2=>v=wn /\ q (wr x) M2,cP.cons WR.v (by rw[dQ];show r1.ts (ts1.trans Vi)),(m1.new L').put Vi #[[],bY, .nil],h1 x dx (m1.fresh hx) (m1.fresh L') l5,?_];rintro y M' u H' ⟨rfl,hq⟩ ts m' r';show#[r'.eq,k _ _ _ _ hq (t1.trans ((ts1.trans Vi).trans ts)) m' WR.v]
def l4 (o:fj MO)(k:fY ->fY ->cH (Str×W) ->Prop):Prop:=eZ λC dx fs=>o=some (.ins C dx fs) /\ k C dx fs
def aa3:l4 (some (.ins C dx fs)) k=k C dx fs:=by apply propext;symm;rintro⟨_,_,_,e,h⟩;cases e;show h;intro h;show#[_,_,_,rfl,h]
def QU:Mq K a f ρ M q=a ρ M λx M1=>eB x λp=>l4 (M1 p) λC dx fs=>cr (xb K C) (cr (eE K C f) (iV (fs.lookup f) λv=>q v M1)):=by unfold Mq eB l4 cr iV;congr 1;funext x M1;apply propext;symm;rintro⟨p,C,dx,fs,v,e1,e2,e3,e4,e5,h⟩;show#[p,e1,C,dx,fs,e2,e3,e4,v,e5,h];rintro⟨p,e1,C,dx,fs,e2,e3,e4,v,e5,h⟩;show#[p,C,dx,fs,v,e1,e2,e3,e4,e5,h]
def MF:Ek K a b f D ρ M=b ρ M λy M1=>a ρ M1 λx M2=>eB x λp=>l4 (M2 p) λC dx fs=>cr (xb K C) (cr (eE K C f) (cr (fs.length<1000) (D.nx ρ (um M2 p (.ins C dx (io f y fs)))))):=by unfold Ek eB l4 cr;congr 1;funext y M1;congr 1;funext x M2;apply propext;symm;rintro⟨p,C,dx,fs,e1,e2,e3,e4,e5,h⟩;show#[p,e1,C,dx,fs,e2,e3,e4,e5,h];rintro⟨p,e1,C,dx,fs,e2,e3,e4,e5,h⟩;show#[p,C,dx,fs,e1,e2,e3,e4,e5,h]
theorem mV:O1 C p a ρ M q=a ρ M λxs M1=> ∀x dx,M1 x=none ->M1 dx=none ->dx≠x ->mP p (wr x::xs) (um M1 x (.ins C dx [])) λv M2=>v=wn /\ q (wr x) M2:=rfl
end
end WL
namespace L2
open PySem
nonrec def fh (s:Stmt)(j:Nat):Stmt:=match s with
 | .ClassDef _ _ _ b _ _ _ _ _ _ _=>b.getD j (.Pass #[0,0,0,0])
 | _=> .Pass #[0,0,0,0]
end L2
namespace L2
open PySem PySem.Spec PyProof.Rows
def Inv._X {σ:St}(I:Inv X ah σ H s)(e:H d=some (.lw o (.dK kvs)))(h0: ∀o u,X.H₀ d≠some (.lw o u)): Inv X ah σ (cR H d (.dK kvs)) s:=by
 have ne: ∀ {b u},H b=some u ->u≠ .lw o (.dK kvs) ->b≠d:=λ{b u} h n z=>by subst z;rw[e] at h;show n (bA h).symm
 have Nv: ∀ {b},H b=none ->b≠d:=λ{b} h z=>by subst z;rw[e] at h;cases h
 exact#[I.ok,I.os,I.bare,#[I.base.keep,I.base.slot,λb u h1 h2 h3=> ?_,I.base.there,λb xs h=> ?_,λb o' u h=> ?_,λb ps h=> ?_],I.loc,I.cell,?_,λx c h=> ?_,λp hp=> ?_,λb u h=> ?_,I.len];have z:=I.base.free b u h1 h2 h3;rw[bR (Nv z)];show z;have z:=I.base.oG b xs h;rw[bR (ne z (λq=>nomatch q))];show z;have z:=I.base.nq b o' u h;have nb:b≠d:=λz=>h0 o' u (z▸h);rw[bR nb];show z;let⟨more,z⟩:=I.base.qB b ps h;show#[more,by rw[bR (ne z (λq=>nomatch q))];show z];rw[bR (Nv I.free)];show I.free;rw[bR (Nv (I.gS x c h))];show I.gS x c h;let⟨a1,a2,a3⟩:=I.pin p hp;show#[a1,by rw[bR (Nv a2)];show a2,a3];have ow: ∀c,H c=some (.own b) ->cR H d (.dK kvs) c=some (.own b):=λc r=>by rw[bR (ne r (λq=>nomatch q))];show r
 have tu: ∀c xs,H c=some (.tup xs) ->cR H d (.dK kvs) c=some (.tup xs):=λc xs r=>by rw[bR (ne r (λq=>nomatch q))];show r
 by_cases hb:b=d;subst hb;rw[bY] at h;cases h;have z:=(I.cU b _ e).uO (H':=cR H b (.dK kvs)) (h':=s.heap) (λ_ _ _ h=>h) ow tu;show z.2;rw[bR hb] at h;show(I.cU b u h).uO (λ_ _ _ h=>h) ow tu
end L2
namespace WL
open PySem L2
variable {K:WW}
theorem JY: ∀ {H:Hp} {kvs:cH (cf×W)} {vs:cH (cf×V)} {i:Nat} {q:cf×V},KR K H kvs vs ->vs[i]? =some q -> ∃p,c8 (kvs[i]? =some p) (p.1=q.1) (WR K H p.2 q.2)
 | _,_,_,0,_, .cons ⟨e0,r⟩ _,e=>by cases e;show#[_,rfl,e0,r]
 | _,_,_,i+1,q, .cons _ t,e=>by have e':_=some q:=e;rw[List.getElem?_cons_succ] at e' ⊢;show JY t e'
theorem Ra (h:H a=some (.lw o (.dK xs))):a_ H (cR H a u):=DS h (λ_ z=>nomatch z) λ_ _ z=>nomatch z
end WL
set_option maxHeartbeats 4000000
namespace WL
open PySem L2
def VO:Cz a b D ρ M=a ρ M λx M1=>b ρ M1 λy M2=>eB x λp=>i_ y λk=>fQ (M2 p) λkvs=>cr ((e9 kvs k).isSome=true) (D.nx ρ (um M2 p (.dK (jY kvs k)))):=by unfold Cz eB i_ fQ cr;congr 1;funext x M1;congr 1;funext y M2;apply propext;symm;rintro⟨p,kvs,k,e1,e2,e3,e4,h⟩;show#[p,e1,k,e3,kvs,e2,e4,h];rintro⟨p,e1,k,e3,kvs,e2,e4,h⟩;show#[p,kvs,k,e1,e2,e3,e4,h]
def Aa (h:M x=some (.lst l)):Vj M (.v (.ref x)) k=k (!l.isEmpty):=by apply propext;symm;rintro⟨b,⟨l',h1,h2⟩ | ⟨l',h1,_⟩,z⟩;rw[h] at h1;cases h1;rw[h2] at z;show z;rw[h] at h1;cases h1;intro z;show#[_, .inl #[l,h,rfl],z]
end WL
namespace WQ
open PySem L2 WL WP
abbrev X7:=Int×Int×Int
def putL (s:Int)(sts:cH Pt)(tl:cH X7):Pt:=tl.flatMap λt=>(sts.getD t.1.toNat []).map λz=>(z.1+t.2.1*s,z.2*t.2.2)
def jN (s x:Int)(sts:cH Pt)(t:X7):Int:=fM (sts.getD t.1.toNat []) (x - t.2.1*s)*t.2.2
end WQ
namespace L2
open PySem
def DH:Nat ->(cH df ->Prop) ->Prop
 | 0,p=>p []
 | n+1,p=> ∀v,DH n λus=>p (v::us)
theorem DH.to: ∀ {n:Nat} {p:cH df ->Prop},DH n p -> ∀us,us.length=n ->p us
 | 0,_,h,[],_=>h
 | _+1,_,h,v::us,e=>DH.to (h v) us (Nat.succ.inj e)
theorem bS {kV jz pm cdv ct:df}(X:K.In h)(G:h.Ns mainGlobals mg)(a:W.nsIn K mainGlobals x=some (some (.ref f)))(l:K.lookup f=some #[oc,od, .func (W.fnOf x x (fu st) (dS st) (aU st) .none kV jz pm an cdv ct),CI])(c:W.codeIn K cdv x=true)(k:W.keepIn K (.ref f)=true)(b: ∀ (kV jz pm:df) (an:fj fY) (cdv ct:df),DH ps.length λus=>bindArgs (W.fnOf x x (fu st) (dS st) (aU st) .none kV jz pm an cdv ct) #[us,[]]=pure (ps.zip us):=by(repeat intro _);rfl): g0 K mg x ps st f (W.fnOf x x (fu st) (dS st) (aU st) .none kV jz pm an cdv ct):=#[W.mg_of X G a,rE l c k,(rE (st:=st) l c k).binds λkV jz pm an cdv ct us e=>(b kV jz pm an cdv ct).to us e]
theorem K6 {kV jz pm cdv ct:df}(X:K.In h)(G:h.Ns mainGlobals mg)(a:W.nsIn K mainGlobals x=some (some (.ref C)))(g:W.findIn K (.ref C) "__init__" =some (some (.ref f)))(l:K.lookup f=some #[oc,od, .func (W.fnOf "__init__" q (fu st) (dS st) (aU st) .none kV jz pm an cdv ct),CI])(c:W.codeIn K cdv q=true)(k:W.keepIn K (.ref f)=true)(h1:W.makesIn K C=true)(h2:W.isFn K (.ref f)=true)(h3:W.keepIn K (.ref C)=true)(h4:W.plainGet K C Str.empty=true)(h5:W.hasDictIn K C=true)(h6:W.plainOver K C=true)(h7:W.findIn K (.ref C) "__setattr__" =some (some (.builtin "object.__setattr__")))(b: ∀ (kV jz pm:df) (an:fj fY) (cdv ct:df),DH ps.length λus=>bindArgs (W.fnOf "__init__" q (fu st) (dS st) (aU st) .none kV jz pm an cdv ct) #[us,[]]=pure (ps.zip us):=by(repeat intro _);rfl): UK K mg x q ps st C f (W.fnOf "__init__" q (fu st) (dS st) (aU st) .none kV jz pm an cdv ct):=#[W.mg_of X G a,#[h1,g,h2,h3],#[h4,h5,h6,h7],rE l c k,(rE (st:=st) l c k).binds λkV jz pm an cdv ct us e=>(b kV jz pm an cdv ct).to us e]
theorem vg (_:UK K mg x q ps st C f fd)(a:Str)(e:W.findIn K (.ref C) a=some none):eE K C a:=e
theorem UM (a:W.nsIn K mainGlobals x=some (some (.ref C)))(e:W.excIn K C XR "ValueError.__new__" =true)(k1:W.clsIn K C=some cd)(k2:W.findIn K (.ref C) "__getattribute__" =some (some (.builtin "BaseException.__getattribute__")))(k3:W.findIn K (.ref C) "__getattr__" =some none)(k4:W.findIn K (.ref C) "__class__" =some (some (.builtin "object.__class__")))(k5:W.mroIn K C (.type "object")=some true)(k6:W.mroIn K C (.type "BaseException")=some true):qj K x C:=#[a,e,(by rw[k1];rfl),k2,k3,k4,k5,k6]
def Sn {l:W.OpenLaw}(T:g0 K mg "law" [p] st f fd)(hfa:mg "law" =some (.ref fa))(hb: ∀ (kV jz pm:df) (an:fj fY) (cdv ct v:df),bindArgs (W.fnOf "law" "law" (fu st) (dS st) (aU st) .none kV jz pm an cdv ct) #[[v],[]]=pure [(p,v)])(ok: ∀base,bI l.prog w K mg base fw kd f fd [p] (WQ.Ak K)): ∃fd:FuncData,(∀ (s:dG) (v:df),BindsTo s fd #[[v],[]] [(p,v)]) /\ ∀base:Heap,K.In base ->base.Ns mainGlobals mg ->bI l.prog w K mg base fw kd fa fd [p] (WQ.Ak K):=by have e:=hfa.symm.trans T.at_;cases e;let⟨oc,od,kV,jz,pm,an,cdv,ct,CI,rfl,lk,Fa⟩:=T.fn.ex;show#[_,λs v=> .of_eq (hb kV jz pm an cdv ct v),λbase _ _=>ok base]
end L2
namespace WQ
open PySem L2 WL WP
def lc:cH Int ->cH (Int ->Int) ->Int ->Int
 | v::vs,g::gs,x=>v*g x+lc vs gs x
 | _,_,_=>0
def fam (s:Int)(b:Pt):Int ->Nat ->cH (Int ->Int)
 | _,0=> []
 | lo,n+1=>(λx=>look b (x - s*lo))::fam s b (lo+1) n
def cps (s:Int)(G:cH (Pt×Int×Nat)):cH (Int ->Int):=G.flatMap λg=>fam s g.1 g.2.1 g.2.2
def Oa (q js:Pt):Pt:=js.flatMap λj=>tm j.2 (mv j.1 q)
def aal (s Z c:Int):Nat:=if s=0 then(Z - c+1).toNat else(s - c).toNat
def fW (s:Int)(a:Pt):W:=if plc a= [] then wn else wi (Sl ((plc a).map (ahD s)))
def mz (s Z K c:Int)(q:Nat):Nat:=aal s Z c*(K.toNat+2)+q
end WQ
namespace L2
open PySem
def bC (hK:X.K=K)(he:PE X e ta)(hb:attributeBase e f X.env (eval e X.env)=eval e X.env):PE X (.Attribute e f pos) (Ri K ta f):=by subst hK;show RH he hb
end L2
namespace L2
open PySem PySem.Spec PyProof.Rows
def Er:V ->cH V ->Hp ->VK ->Prop:=λx vs H Q=>eZ λl xs y=> ∃i:Nat,lz (x= .ref l) (vs= [.int i,y]) (H l=some (.lst xs)) (xs.length<sizeLine) (i<=xs.length) (Q .ez (cR H l (.lst (xs.take i++y::xs.drop i))))
def xC:X' X "list.insert" Er:=by
 intro ah s σ H x vs v us Q I rx rv h;let⟨l,xs,y,i,rfl,rfl,hH,hz,hi,q⟩:=h;cases rx;let⟨u0,u,rfl,⟨tk,rfl⟩,ru⟩:=rv.two;let⟨z,bN,n,r,hl,e⟩:=I.AU hH;have hf:Builtin.List.listFitsIndex (i:Int)=true:=by have hs:=cY;unfold Builtin.List.listFitsIndex;rw[cG,dB,dB];lia
 let⟨x,hx⟩: ∃x:Int,x=(i:Int):=#[_,rfl]
 rw[<- hx] at hf ⊢;exact call_meets F.slot_list_insert #[_,e,rfl] F.entry_list_insert (F.args_list_insert_3 _ _ _) (PySem.AutoSeq1.list_insert_list_int_val_1 l bN.toArray n x tk u (by simp[hf]) (by rw[aO];lia)) #[e,?_];exact#[.ez,_,I.JP (its':=bN.take i++u::bN.drop i) hH e ?_ ((r.take i).append (.cons ru (r.drop i))) ?_,rfl,q];have hk:(if x<0 then(x+(bN.toArray.size:Int)).toNat else min x.toNat bN.toArray.size)=i:=by rw[ak ∅,aO];lia
 change(bN.toArray.extract 0 (if x<0 then(x+(bN.toArray.size:Int)).toNat else min x.toNat bN.toArray.size)).push u++bN.toArray.extract (if x<0 then(x+(bN.toArray.size:Int)).toNat else min x.toNat bN.toArray.size)=_;rw[hk];apply Array.toList_inj.mp;simp;show List.take_of_length_le (by simp);rw[aE,aC,bT,List.length_drop];lia
end L2
namespace WL
open PySem L2
section
variable {K:WW}{M:Mp}{q:WK}
def Mo:WM:=λx ys M q=>eZ λa l y=> ∃i:Nat,lz (x=wr a) (ys= [wi i,y]) (M a=some (.lst l)) (l.length<sizeLine) (i<=l.length) (q wn (um M a (.lst (l.take i++y::l.drop i))))
instance:IM K Er Mo where
 imp:=by rintro x v ys us M H q Q m r1 r2 ⟨a,l,y,i,rfl,rfl,hl,hn,hi,h⟩ k;cases r1.eq;let⟨u0,u,rfl,r0,r⟩:=r2.two;cases r0.eq;let⟨vs,hv,rr⟩:=m a _ hl;show#[a,vs,u,i,rfl,rfl,hv,by rw[rr.length];show hn,by rw[rr.length];show hi,k _ _ _ _ h (iJ hv) (m.putL hv ((rr.take i).append (.cons r (rr.drop i)))) WR.v]
end
end WL
namespace WQ
open PySem L2 WL WP
def lpk (k:Int):cH Int ->Pt
 | []=> []
 | v::r=>(k,v)::lpk (k+1) r
def lp (l:cH Int):Pt:=lpk 0 l
end WQ
namespace L2
open PySem
structure qi (K:PySem.W.Frag)(m qual:Str)(ps:List Str)(st:Stmt)(C f:Addr)(fd:FuncData):Prop where
 Ui:Lr K C m f
 cl:xb K C
 fn:BR K m qual st f fd
 bd:Binds K fd ps []
theorem eJ {pos dP:Pos}{pl:Sem Bool}(M:qi X.K m qual ps st C f fd)(F:bI X.prog X.w X.K X.mg X.base fw k f fd ps sp)(hr:e7 k X.A)(he:PE X o ta)(ha:PA X (e::es) t)(uw:starEach (e::es) X.env=(false,eval e X.env)::starEach es X.env:=by rfl)(qt:(backTo pos (starEach es X.env)).any (·.1)=false:=by rfl)(ht:eval (.Call (.Attribute o m dP) (e::es) [] pos) X.env=(do
  let ov <- eval o X.env
  standAt dP.atName
  let (f,first) <- holding [ov] (getMethod ov m pl)
  callWith pos f first (backTo pos (starEach (e::es) X.env)) (backToKw pos (keywordEach [] X.env))):=by rfl):
 PE X (.Call (.Attribute o m dP) (e::es) [] pos) (rO C m sp [] E0 ta t):=EB he M.cl M.Ui F hr M.bd .nil ED ha uw qt ht
theorem iD (M:qi X.K m qual ps st C f fd)(F:bI X.prog X.w X.K X.mg X.base fw k f fd ps sp)(hr:e7 k X.A)(he:PE X o ta)(ht:eval (.Call (.Attribute o m dP) [] [] pos) X.env=(do
  let ov <- eval o X.env
  standAt dP.atName
  let (f,first) <- holding [ov] (getMethod ov m pl)
  callWith pos f first (backTo pos (starEach [] X.env)) (backToKw pos (keywordEach [] X.env))):=by rfl):
 PE X (.Call (.Attribute o m dP) [] [] pos) (rO C m sp [] E0 ta FX):=AD he M.cl M.Ui F hr M.bd .nil ED ht
theorem vx (X:K.In h)(G:h.Ns mainGlobals mg)(a:W.nsIn K mainGlobals x=some (some (.int n t))): ∃t,mg x=some (.int n t):=#[t,W.mg_of X G a]
theorem eo {kV jz pm cdv ct:df}(c0:UK K mg x q' ps' bM C g fd')(a:W.findIn K (.ref C) m=some (some (.ref f)))(l:K.lookup f=some #[oc,od, .func (W.fnOf m q (fu st) (dS st) (aU st) .none kV jz pm an cdv ct),CI])(c:W.codeIn K cdv q=true)(k:W.keepIn K (.ref f)=true)(h2:W.isFn K (.ref f)=true)(b: ∀ (kV jz pm:df) (an:fj fY) (cdv ct:df),DH ps.length λus=>bindArgs (W.fnOf m q (fu st) (dS st) (aU st) .none kV jz pm an cdv ct) #[us,[]]=pure (ps.zip us):=by(repeat intro _);rfl): qi K m q ps st C f (W.fnOf m q (fu st) (dS st) (aU st) .none kV jz pm an cdv ct):=#[#[a,h2,k],c0.cl,rE l c k,(rE (st:=st) l c k).binds λkV jz pm an cdv ct us e=>(b kV jz pm an cdv ct).to us e]
end L2
namespace WL
open PySem L2
section
variable {K:WW}
theorem vq {H:Hp}{f:Str}: ∀ {fs:cH (Str×W)} {ks:cH (Str×V)},KR K H fs ks ->fs.lookup f=Option.none ->ks.lookup f=Option.none
 | _,_, .nil,_=>rfl
 | (g,y)::fs,(g',v)::ks, .cons ⟨e,r⟩ t,h=>by
  cases (show g=g' from e);rw[List.lookup_cons] at h ⊢;cases hb:f==g with
  | true=>rw[hb] at h;cases h
  | false=>rw[hb] at h;show vq t h
def DO (C:fY)(m:Str)(p:fq)(a:WE)(b:WA):WE:=λρ M q=>a ρ M λx M1=>eZ λ(o dx:fY) (fs:cH (Str×W))=>fA (x=wr o) (M1 o=some (.ins C dx fs)) (fs.lookup m=none) (b ρ M1 λxs M2=>p (x::xs) M2 q)
instance {C:fY}{m:Str}{p:fq}{E:XK}{t:TE}{u:TA}{a:WE}{b:WA} [ia:IE K t a] [ib:IA K u b]:IE K (rO C m (fS K p) [] E t u) (DO C m p a b) where
 imp:=λρ M σ H q Q o h k=>ia.imp ρ M σ H _ _ o h λx M1 v H1 ⟨ad,dx,fs,ex,hp,hl,h1⟩ t1 m1 r1=>by subst ex;let⟨ks,e,r⟩:=m1 ad _ hp;exact#[ad,dx,ks,r1.eq,e,vq r hl,ib.imp ρ M1 σ H1 _ _ (o.mv t1 m1) h1 λxs M2 vs H2 h2 t2 m2 r2=> ?_];exact#[wr ad::xs,M2,q,cP.cons (r1.ts t2) (by rw[dQ];show r2),m2,h2,?_];intro y M' u H' hq ts m' r';show k _ _ _ _ hq ((t1.trans t2).trans ts) m' r'
def Mm:DO C m p a b ρ M q=a ρ M λx M1=>eB x λo=>l4 (M1 o) λC' _ fs=>cr (C'=C /\ fs.lookup m=none) (b ρ M1 λxs M2=>mP p (x::xs) M2 q):=by unfold DO eB l4 cr mP;congr 1;funext x M1;apply propext;symm;rintro⟨o,dx,fs,e1,e2,e3,h⟩;show#[o,e1,C,dx,fs,e2,#[rfl,e3],h];rintro⟨o,e1,C',dx,fs,e2,⟨rfl,e3⟩,h⟩;show#[o,dx,fs,e1,e2,e3,h]
end
end WL
namespace WQ
open PySem L2 WL WP
def PB:fq:=λxs M q=>eZ λ(p:Int) (a:Rd) (n:Int)=>BM (xs= [wi p,gI a,wi n]) (0<p) (p<1000) (dZ p a.2) (a.2.length<=40000) (n<0) (a.1≠0 -> -100000<n /\ n<100000 /\ a.2.length*n.natAbs<=100000) (∀r:Rd,iu p a n r ->(a.1=0 ->r.2.length<=a.2.length) ->(a.1≠0 ->r.2.length<=a.2.length*n.natAbs) ->q (gI r) M)
def MX:RO xs M q ->PD xs M q \/ PB xs M q:=by rintro⟨p,a,n,rfl,p0,p1,hP,hl,hb,k⟩;by_cases hn:n<0;show .inr #[p,a,n,rfl,p0,p1,hP,hl,hn,hb,k];exact .inl #[p,a,n,rfl,p0,p1,hP,hl, ∅,λh=> ?_,k];let⟨_,h2,h3⟩:=hb h;have e:n.toNat=n.natAbs:= ∅;rw[e];show#[h2,h3]
end WQ
namespace L2
open PySem PyProof.Rows PyProof.V PySem.Calls PySem.Spec
inductive BN (X:Cx):List ExceptHandler ->List (Addr×TS) ->Prop
 | nil:BN X [] []
 | cons {x:Str} {np SX:Pos} {b₀:Stmt} {DZ:List Stmt} {C:Addr} {ts:TS} {cX:List ExceptHandler} {al:List (Addr×TS)} (hg:Gl X x) (O:qj X.K x C) (hsu: ∀ea,zY (X.sq (.ref ea)) (b₀::DZ) ts) (r:BN X cX al) (xL:(x==("__debug__" :Str))=false:=by decide): BN X (.ExceptHandler (some (.Name x np)) none (b₀::DZ) SX::cX) ((C,ts)::al)
def uM (K:WW):cH (fY×TS) ->fY ->TS
 | [],_=>λ_ _ _=>False
 | (D,ts)::r,C=>λE σ H=> ∃b,c8 (W.kitOne K (.ref C) (.ref D)=some b) (b=true ->ts E σ H) (b=false ->uM K r C E σ H)
def Of {K:WW}(X:K.In h)(kD:Ye K D)(l5:C≠D)(he:h.get? e=some oe)(hc:oe.cls= .ref C)(hk:W.kitOne K (.ref C) (.ref D)=some b): W.Looks M h (excMatches (.ref e) (.ref D)) b:=by
 exact W.exm_one (cls:= .ref C) X (Tp he hc) ?_;have e1:(W.subIn K (.ref D) (.type "BaseException")==some true)=true:=by change(W.mroIn K D (.type "BaseException")==some true)=true;rw[kD.mb];rfl
 unfold W.exmOne;rw[ao e1];unfold W.kitOne at hk;rwa [ak (λz=>l5 (Value.ref.inj (beq_iff_eq.mp z)))] at hk
def sS {σ:St}{E0:XK}(uw:X.stack=X.env::X.outer)(GV:X.env.frame=some X.env.locals)(I:Inv X ah σ H1 s1)(fl:i6 X.prog X.w X.stack H1 s1 E0 ev s')(ph:BN X hs al)(k: ∀cls d H',E0 cls d H' -> ∃C,cls= .ref C /\ ∀ea,H' ea=none ->a_ H1 (cR H' ea (.ext (iw ea C))) ->uM X.K al C D σ (cR H' ea (.ext (iw ea C)))): wpAny (model X.prog X.w) X.A (noteFrame ev X.env) (λ_ s₂=>wpAny (model X.prog X.w) X.A (setFlight ev none) (λ_ s₃=>wpAny (model X.prog X.w) X.A (handleBy ev X.env hs) (SP X ah D) X.xe s₃) X.xe s₂) X.xe s':=by
 let⟨ea,cls,a0,B,H2,rfl,os,bare,fl,cU,E9,un,kb,kt,hE⟩:=fl;let⟨C,rfl,kk⟩:=k _ _ _ hE;exact wpAny_looks_onW (by rw[I.ok.frames,uw]) GV (uw▸fl) λh₄ Xo up₄=> ?_;exact wpAny_landsW Xo λh₅ ZJ up₅=> ?_;rw[<- uw] at ZJ;let⟨I5,ts5⟩:=vw I os bare fl cU E9 un kb kt ZJ (up₄.trans up₅) (tk:=s'.toks);let⟨ob,hob,Xc⟩:=ZJ.there;have key:=kk ea E9 ts5;clear kk k;induction ph with
 | nil=>show key.elim
 | @cons x np SX b₀ DZ D' ts cX al' hg O hsu r xL ih=>
  let⟨b,hk,ht,hf⟩:=key;have O':=EF I.ok.mod O.ns O.exc;exact wpAny_handleBy_cons (codeAny_handlers_test (Ny I5 hg O'.bound ?_ xL)) (by intro q;cases q);have good:b=true ->codeAny (model X.prog X.w) (X.A.mark (some (.ref ea))) (.handlers (.ref ea) [.ExceptHandler none none (b₀::DZ) SX] X.env) (λr s₂=>match r with
  | .ok f=>SP X ah D f s₂
  | .error x=>cameBackBy (model X.prog X.w) X.A X.env X.xe x s₂) {s' with heap:=h₅}:=λhb=>by
   exact codeAny_handlers_suite ?_
   exact PyProof.Rows.lands_againW ZJ λh₆ fl₆ up₆=> ?_
   let⟨I6,ts⟩:=vw I os bare fl cU E9 un kb kt fl₆ ((up₄.trans up₅).trans up₆) (tk:=s'.toks)
   exact bJ (hsu ea ah _ σ _ D (I6.sq (.ref ea)) (ht hb)) (λf s8 h8=> ?_) λ_ _ z=>z.elim
   cases f with
   | next=>let⟨σ',H3,I8,q⟩:=h8;show#[_,_,I8.yY I.ok,q]
   | brk=>let⟨σ',H3,I8,q⟩:=h8;show#[_,_,I8.yY I.ok,q]
   | cont=>let⟨σ',H3,I8,q⟩:=h8;show#[_,_,I8.yY I.ok,q]
   | ret u=>let⟨v,σ',H3,I8,r,q⟩:=h8;show#[v,_,_,I8.yY I.ok,r,q]
  by_cases hCD:C=D';subst hCD;have hb:b=true:=by unfold W.kitOne at hk;rw[ao (beq_self_eq_true _)] at hk;show(bA hk).symm
  let⟨bm,N,nm,qn,bs,hdct,sn,sub,ab,col,dd,k0,k1,k2,k3,k5,mN,hC,Qo,GR,TL⟩:=(O'.keeps I5.bk).obj;exact wpAny_excMatches_sub_self hC hob Xc (TL.hasType (by decide+kernel)) ?_;show good hb;exact(Of (M:=model X.prog X.w) I5.nH O.k hCD hob Xc hk).here ?_;cases b with
  | true=>show good rfl
  | false=>show ih (hf rfl)
def O9 (K:WW)(sp:Sp)(iy:Nat)(ta:TA)(al:cH (fY×TS)):TS:=λD σ H=>ta σ H λvs H1=>sp (vs++ []) H1 (λv H2=>D.nx (σ.set iy (some v)) H2) λcls _ H'=> ∃C,cls= .ref C /\ ∀ea,H' ea=none ->a_ H1 (cR H' ea (.ext (iw ea C))) ->uM K al C D σ (cR H' ea (.ext (iw ea C)))
def MP {p yp dy dP pos:Pos}{st:Stmt}(uw:X.stack=X.env::X.outer)(GV:X.env.frame=some X.env.locals)(C:g0 X.K X.mg fx ps st f fd)(F:bI X.prog X.w X.K X.mg X.base (i6 X.prog X.w) k f fd ps sp)(hr:e7 k X.A)(hgf:Gl X fx)(ha:PA X.LR (e₀::es) ta)(hN:X.N.Nodup)(hiy:X.N[iy]? =some y)(hy:X.env.kindOf y=some .local)(ph:BN X (h₀::hs) al)(gR:swapsWith (.Call (.Name fx p) (e₀::es) [] dy) (some (.Name y yp)) dP.line X.env=pure false:=by rfl)(Tf:(fx==("__debug__" :Str))=false:=by decide)(he:starEach (e₀::es) X.env=(false,eval e₀ X.env)::starEach es X.env:=by rfl)(qt:(backTo dy (starEach es X.env)).any (·.1)=false:=by rfl): PS X (.Try [.Assign [.Name y yp] (.Call (.Name fx p) (e₀::es) [] dy) dP] (h₀::hs) [] [] pos) (O9 X.K sp iy ta al):=by
 intro ah s σ H D I h;exact wpAny_Try_except (wpAny_execs_cons (wpAny_Assign_Name (wpAny_Call_Name_kw (pB I hgf C.at_ ?_ Tf)) gR));exact W.callWith_K (h₀:=X.base) I.ok.mod.Qa C.fn.kp (bJ (ha dy ah s σ H _ (I.qw _) h) (λus s1 ⟨vs,H1,I1,r,q⟩=>#[I1.nH,?_]) λ_ _ z=>z.elim) he qt;have I1:=I1.iI;have r2:cj (vs++ []) (us++ []):=r.append .nil;have hl:(us++ []).length=ps.length:=by rw[<- r2.length];show F.len _ _ _ _ q
 exact wpAny_call (codeAny_mono (F.run X.A X.stack s1 H1 #[us,[]] (us++ []) (vs++ []) _ _ hr I1.Og (C.bd s1 us I1.nH hl) r2 q) λr s2 hq=> ?_);cases r with
 | error ev=>have hq2:i6 X.prog X.w X.stack H1 s1 (λcls _ H'=> ∃C,cls= .ref C /\ ∀ea,H' ea=none ->a_ H1 (cR H' ea (.ext (iw ea C))) ->uM X.K al C D σ (cR H' ea (.ext (iw ea C)))) ev s2:=hq;show sS uw GV I1 hq2 ph λcls d H' z=>z
 | ok fl=>
  cases fl with
  | ret u=>let⟨v,H2,I2,r,q2⟩:=I1.after hq;show oJ I2 hN hiy (.inl hy) r (λs3 I3=>wpAny_execs_nil (wpAny_execs_nil #[_,_,I3,q2])) (.inr hy)
  | next=>show False.elim hq
  | brk=>show False.elim hq
  | cont=>show False.elim hq
def Vq (K:WW)(C:fY)(m:Str)(sp:Sp)(te:TE)(ta:TA)(al:cH (fY×TS)):TS:=λD σ H=>te σ H λx H0=>eZ λ(a dx:fY) (fs:cH (Str×V))=>fA (x= .ref a) (H0 a=some (.ins C dx fs)) (fs.lookup m=none) (ta σ H0 λvs H1=>sp (.ref a::(vs++ [])) H1 (λv H2=>D.nx σ H2) λcls _ H'=> ∃C,cls= .ref C /\ ∀ea,H' ea=none ->a_ H1 (cR H' ea (.ext (iw ea C))) ->uM K al C D σ (cR H' ea (.ext (iw ea C))))
theorem Y7 {dy dP XJ pos:Pos}{st:Stmt}{pl:Sem Bool}(uw:X.stack=X.env::X.outer)(GV:X.env.frame=some X.env.locals)(M:qi X.K m qual ps st C f fd)(F:bI X.prog X.w X.K X.mg X.base (i6 X.prog X.w) k f fd ps sp)(hr:e7 k X.A)(ho:PE X.LR o te)(ha:PA X.LR (e₀::es) ta)(ph:BN X (h₀::hs) al)(he:starEach (e₀::es) X.env=(false,eval e₀ X.env)::starEach es X.env:=by rfl)(qt:(backTo dy (starEach es X.env)).any (·.1)=false:=by rfl)(ht:eval (.Call (.Attribute o m dP) (e₀::es) [] dy) X.env=(do
   let ov <- eval o X.env
   standAt dP.atName
   let (f,first) <- holding [ov] (getMethod ov m pl)
   callWith dy f first (backTo dy (starEach (e₀::es) X.env)) (backToKw dy (keywordEach [] X.env))):=by rfl)(hsw:swapsWith (.Call (.Attribute o m dP) (e₀::es) [] dy) none XJ.line X.env=pure false:=by rfl):
  PS X (.Try [.Expr (.Call (.Attribute o m dP) (e₀::es) [] dy) XJ] (h₀::hs) [] [] pos) (Vq X.K C m sp te ta al):=by
 intro ah s σ H D I h
 exact wpAny_Try_except (wpAny_execs_cons (wpAny_Expr_any ?_ I.quiet hsw))
 exact W.methodCall_KW (pl:=pl) (bJ (ho ah s σ H _ (I.qw _) h) (λu s1 ⟨x,H0,I0,rx,a,dx,fs,ex,ea,l,q⟩=> ?_) λ_ _ z=>z.elim) ht
 subst ex
 obtain rfl:u=Value.ref a:=rx
 have I0:=I0.iI
 exact kj I0 ea M.cl M.Ui l ?_
 exact W.callWith_K (first:= [.ref a]) (h₀:=X.base) I.ok.mod.Qa M.Ui.kp (bJ (ha dy ah s1 σ H0 _ (I0.qw _) q) (λus s2 ⟨vs,H1,I1,r,q⟩=>#[I1.nH,?_]) λ_ _ z=>z.elim) he qt
 have I1:=I1.iI
 have r2:cj (.ref a::(vs++ [])) (.ref a::us++ []):= .cons rfl (r.append .nil)
 have hl:(Value.ref a::us++ []).length=ps.length:=by rw[<- r2.length];show F.len _ _ _ _ q
 exact wpAny_call (codeAny_mono (F.run X.A X.stack s2 H1 #[.ref a::us,[]] (.ref a::us++ []) (.ref a::(vs++ [])) _ _ hr I1.Og (M.bd s2 (.ref a::us) I1.nH hl) r2 q) λr s3 hq=> ?_)
 cases r with
 | error ev=>have hq2:i6 X.prog X.w X.stack H1 s2 (λcls _ H'=> ∃C,cls= .ref C /\ ∀ea,H' ea=none ->a_ H1 (cR H' ea (.ext (iw ea C))) ->uM X.K al C D σ (cR H' ea (.ext (iw ea C)))) ev s3:=hq;show sS uw GV I1 hq2 ph λcls d H' z=>z
 | ok fl=>
  cases fl with
  | ret u=>let⟨v,H2,I2,r,q2⟩:=I1.after hq;show wpAny_execs_nil (wpAny_execs_nil #[_,_,I2,q2])
  | next=>show False.elim hq
  | brk=>show False.elim hq
  | cont=>show False.elim hq
theorem cB {st:Stmt}{pos dP:Pos}{pl:Sem Bool}(hP:ik (i6 X.prog X.w) X E)(M:qi X.K m qual ps st C f fd)(F:bI X.prog X.w X.K X.mg X.base (i6 X.prog X.w) k f fd ps sp)(hr:e7 k X.A)(he:PE X o ta)(ha:PA X (e::es) t)(uw:starEach (e::es) X.env=(false,eval e X.env)::starEach es X.env:=by rfl)(qt:(backTo pos (starEach es X.env)).any (·.1)=false:=by rfl)(ht:eval (.Call (.Attribute o m dP) (e::es) [] pos) X.env=(do
  let ov <- eval o X.env
  standAt dP.atName
  let (f,first) <- holding [ov] (getMethod ov m pl)
  callWith pos f first (backTo pos (starEach (e::es) X.env)) (backToKw pos (keywordEach [] X.env))):=by rfl):
 PE X (.Call (.Attribute o m dP) (e::es) [] pos) (rO C m sp [] E ta t):=EB he M.cl M.Ui F hr M.bd .nil hP ha uw qt ht
theorem xz {st:Stmt}(hP:ik (i6 X.prog X.w) X E)(M:qi X.K m qual ps st C f fd)(F:bI X.prog X.w X.K X.mg X.base (i6 X.prog X.w) k f fd ps sp)(hr:e7 k X.A)(he:PE X o ta)(ht:eval (.Call (.Attribute o m dP) [] [] pos) X.env=(do
  let ov <- eval o X.env
  standAt dP.atName
  let (f,first) <- holding [ov] (getMethod ov m pl)
  callWith pos f first (backTo pos (starEach [] X.env)) (backToKw pos (keywordEach [] X.env))):=by rfl):
 PE X (.Call (.Attribute o m dP) [] [] pos) (rO C m sp [] E ta FX):=AD he M.cl M.Ui F hr M.bd .nil hP ht
theorem bI.calm {K:WW}(F:bI P w K mg base (i6 P w) k f fd ps sp)(h: ∀vs H Q E,B8 vs H Q E ->sp vs H Q E0):bI P w K mg base fw k f fd ps B8:=#[λvs H Q E z=>F.len vs H Q _ (h vs H Q E z),λA outer s H args us vs Q E hr e0 hb hv z=>codeAny_mono (F.run A outer s H args us vs Q E0 hr e0 hb hv (h vs H Q E z)) λr s' hq=>by
 cases r with
 | error ev=>let⟨_,_,_,_,_,_,_,_,_,_,_,_,_,_,q⟩:=(show i6 P w outer H s E0 ev s' from hq);show q.elim
 | ok fl=>cases fl<;>show hq]
end L2
namespace WL
open PySem L2
section
variable {K:WW}
def VJ (p:fo):fq:=λxs M q=>p xs M q λ_ _=>False
theorem FG (F:bI P w K mg base (i6 P w) k f fd ps (uh K p)):bI P w K mg base fw k f fd ps (fS K (VJ p)):=F.calm λvs H Q E ⟨xs,M,q,r,m,h,k⟩=>#[xs,M,q,_,r,m,h,k,λ_ _ _ z=>z.elim]
def yz (C:fY)(m:Str)(p:fo)(e:WX)(a:WE)(b:WA):WE:=λρ M q=>a ρ M λx M1=>eZ λ(o dx:fY) (fs:cH (Str×W))=>fA (x=wr o) (M1 o=some (.ins C dx fs)) (fs.lookup m=none) (b ρ M1 λxs M2=>p (x::xs) M2 q (up e))
instance {C:fY}{m:Str}{p:fo}{e:WX}{t:TE}{u:TA}{a:WE}{b:WA} [ia:IE K t a] [ib:IA K u b]:IE K (rO C m (uh K p) [] (Ex K e) t u) (yz C m p e a b) where
 imp :=λρ M σ H q Q o h k=>ia.imp ρ M σ H _ _ o h λx M1 v H1 ⟨ad,dx,fs,ex,hp,hl,h1⟩ t1 m1 r1=>by subst ex;let⟨ks,e,r⟩:=m1 ad _ hp;exact#[ad,dx,ks,r1.eq,e,vq r hl,ib.imp ρ M1 σ H1 _ _ (o.mv t1 m1) h1 λxs M2 vs H2 h2 t2 m2 r2=> ?_];exact#[wr ad::xs,M2,q,_,cP.cons (r1.ts t2) (by rw[dQ];show r2),m2,h2,?_,?_];intro y M' u H' hq ts m' r';show k _ _ _ _ hq ((t1.trans t2).trans ts) m' r';rintro C M' H' ⟨M0,s,h⟩ m;show#[C,M0,rfl,h,m.sub s]
def sT (p:fo)(xs:cH W)(M:Mp)(q:WK)(e:WX):Prop:=p xs M q e
def HM:yz C m p e a b ρ M q=a ρ M λx M1=>eB x λo=>l4 (M1 o) λC' _ fs=>cr (C'=C /\ fs.lookup m=none) (b ρ M1 λxs M2=>sT p (x::xs) M2 q (up e)):=by unfold yz eB l4 cr sT;congr 1;funext x M1;apply propext;symm;rintro⟨o,dx,fs,e1,e2,e3,h⟩;show#[o,e1,C,dx,fs,e2,#[rfl,e3],h];rintro⟨o,e1,C',dx,fs,e2,⟨rfl,e3⟩,h⟩;show#[o,dx,fs,e1,e2,e3,h]
theorem Vb:Co p e a ρ M q=a ρ M λxs M1=>sT p xs M1 q (up e):=rfl
theorem UX:Ck C e a D ρ M=a ρ M λxs M'=>cr (xs.length<=sizeLine) (up e C M'):=rfl
def rN (K:WW):cH (fY×WS) ->fY ->WS
 | [],_=>λ_ _ _=>False
 | (D,s)::r,C=>λE ρ M=> ∃b,c8 (W.kitOne K (.ref C) (.ref D)=some b) (b=true ->s E ρ M) (b=false ->rN K r C E ρ M)
class ZW (K:PySem.W.Frag) (t:List (Addr×TS)) (w:outParam (List (Addr×WS))):Prop where
 imp: ∀ (C:Addr) (ρ:cq) (M:Mp) (σ:L2.St) (H:Hp) (D':fI) (D:wv),Ok K ρ M σ H ->rN K w C D' ρ M ->mS K H D' D ->uM K t C D σ H
instance:ZW K [] [] where
 imp:=λ_ _ _ _ _ _ _ _ h _=>h.elim
instance {D:fY}{t:TS}{s:WS}{r:cH (fY×TS)}{r':cH (fY×WS)} [is:IS K t s] [ir:ZW K r r']:ZW K ((D,t)::r) ((D,s)::r') where
 imp:=λC ρ M σ H D' D o ⟨b,hk,h1,h2⟩ e=>#[b,hk,λhb=>is.imp ρ M σ H D' D o (h1 hb) e,λhb=>ir.imp C ρ M σ H D' D o (h2 hb) e]
theorem X2 (hk:W.kitOne K (.ref C) (.ref D)=some true)(h:s E ρ M):rN K ((D,s)::r) C E ρ M:=#[true, .mk hk (λ_=>h) λz=>nomatch z]
theorem cL (hk:W.kitOne K (.ref C) (.ref D)=some false)(h:rN K r C E ρ M):rN K ((D,s)::r) C E ρ M:=#[false, .mk hk (λz=>nomatch z) λ_=>h]
theorem nS (h:s E ρ M):rN K ((C,s)::r) C E ρ M:=X2 (by unfold W.kitOne;rw[ao (beq_self_eq_true _)]) h
theorem mS.of (e:mS K H D' D)(t1:a_ H H1)(t2:a_ H1 H2):mS K H2 D' D:=(e.mv t1).mv t2
def OX (K:WW)(p:fo)(iy:Nat)(a:WA)(al:cH (fY×WS)):WS:=λD ρ M=>a ρ M λxs M1=>p xs M1 (λx M2=>D.nx (ρ.set iy (some x)) M2) λC M'=> ∀ea,M' ea=none ->rN K al C D ρ (um M' ea (.exc C))
instance {p:fo}{iy:Nat}{t:TA}{a:WA}{al:cH (fY×TS)}{wl:cH (fY×WS)} [ia:IA K t a] [il:ZW K al wl]:IS K (O9 K (uh K p) iy t al) (OX K p iy a wl) where
 imp:=λρ M σ H D' D o h Tq=>ia.imp ρ M σ H _ _ o h λx M1 v H1 h1 t1 m1 r1=>#[x,M1,_,_,by rw[dQ];show r1,m1,h1,λy M4 v4 H4 h4 t4 m4 r4=>Tq.nx _ _ _ _ h4 (t1.trans t4) #[(o.env.ts (t1.trans t4)).set iy r4,m4],λC M' H' h2 m=>#[C,rfl,λea E9 tsm=>il.imp C _ (um M' ea (.exc C)) _ _ D' D #[o.env.ts (t1.trans tsm),m.put (L2.gm.ts (cg E9)) bY] (h2 ea (m.fresh E9)) (Tq.of t1 tsm)]]
theorem Yt:OX K p iy a al D ρ M=a ρ M λxs M1=>sT p xs M1 (λx M2=>D.nx (ρ.set iy (some x)) M2) λC M'=> ∀ea,M' ea=none ->rN K al C D ρ (um M' ea (.exc C)):=rfl
end
end WL
namespace L2
open PySem PySem.Spec PyProof.Rows
section
variable {X:Cx}{tg:Expr}
def VR:V ->fj Int ->fj Int ->Hp ->VK ->Prop:=λx lo hi H Q=> ∃z:Str,c8 (x= .str z) (z.length<=sizeLine) (Q (.str (Txt.slice z lo hi)) H)
def IB:SlR X VR:=by
 intro ah s σ H x v vl vu lo hi sl Q I rx hs pl pu h;let⟨z,rfl,hz,q⟩:=h;let⟨t,rfl⟩:=rx;exact#["str",_,F.slot_str_getitem.lookup,typeIs_str _ _ _,?_];have fin: ∀t' k,EP X ah σ Q (.str (Txt.slice z lo hi) t') {s with toks:=k}:=λt' k=>#[.str (Txt.slice z lo hi),H,I.tok _,#[_,rfl],q]
 cases pl with
 | none=>
  cases pu with
  | none=>show wpAny_getItem_str_slice (l:=none) (u:=none) (st:=none) hs rfl (post_val_or_str #[ar (Txt.slice_le z _ _) hz,fin])
  | int j tj=>show wpAny_getItem_str_slice (l:=none) (u:=some (j,tj)) (st:=none) hs rfl (post_val_or_str #[ar (Txt.slice_le z _ _) hz,fin])
 | int i ti=>
  cases pu with
  | none=>show wpAny_getItem_str_slice (l:=some (i,ti)) (u:=none) (st:=none) hs rfl (post_val_or_str #[ar (Txt.slice_le z _ _) hz,fin])
  | int j tj=>show wpAny_getItem_str_slice (l:=some (i,ti)) (u:=some (j,tj)) (st:=none) hs rfl (post_val_or_str #[ar (Txt.slice_le z _ _) hz,fin])
def iK (z:Str)(n:Nat):Str:=if n=0 then Str.empty else if n=1 \/ z.length=0 then z else⟨(List.replicate n z.cps).foldl (· ++ ·) #[]⟩
def Em (z:Str)(n:Nat):(⟨(List.replicate n z.cps).foldl (· ++ ·) #[]⟩:Str).length=n*z.length:=by
 have: ∀ (n:Nat) (a:gP Nat),((List.replicate n z.cps).foldl (· ++ ·) a).size=a.size+n*z.cps.size:=by
  intro n;induction n with
  | zero=>intro a;simp
  | succ n ih=>intro a;rw[List.replicate_succ,List.foldl_cons,ih,Array.size_append,Nat.succ_mul];omega
 change((List.replicate n z.cps).foldl (· ++ ·) #[]).size=n*z.cps.size;rw[this];simp
def Pr:R2:=λx y H Q=>cx λ(z:Str) (n:Nat)=>gy (x= .str z) (y= .int n) (n<=1000) (z.length<=1000) (Q (.str (iK z n)) H)
def Nf:jd X (binaryOp .Mult) Pr:=by
 intro ah s σ H x y v u Q I rx ry h;let⟨z,n,rfl,rfl,hn,hz,q⟩:=h;let⟨t,rfl⟩:=rx;let⟨t',rfl⟩:=ry;have hs:z.length*n<=sizeLine:=ar (Nat.mul_le_mul hz hn) (by rw[cY];decide);exact PySem.P.mul_str ?_ (λ_ _=> ?_) (λ_ _=> ?_) ?_;have e1:decide ((n:Int) < -(2 ^ 63:Int))=false:=aG (by omega);have e2:decide ((n:Int)≥2 ^ 63)=false:=aG (by omega);rw[e1,e2];rfl;intro h;have h1:(2 ^ 63 - 1:Int) / 1000<=(2 ^ 63 - 1) / n:=by rw[Int.le_ediv_iff_mul_le (by omega)];have:((2 ^ 63 - 1:Int) / 1000)*n<=((2 ^ 63 - 1:Int) / 1000)*1000:=Int.mul_le_mul_of_nonneg_left (by omega) ⋯;omega
 omega;unfold Builtin.Str.tooLong;rw[decide_eq_false_iff_not];have:(n:Int).toNat=n:=rfl;rw[this];omega;unfold iK at q;by_cases h0:n=0;subst h0;rw[ao rfl] at q;rw[ao ⋯];show#[⋯,#[.str _,H,I.tok _,#[_,rfl],q]];rw [ak h0] at q;rw[ak (by omega)];by_cases h1:n=1 \/ z.length=0;rw[ao h1] at q;rw[ao (by obtain h | h:=h1 <;>simp[h])];show#[.str z,H,I,#[t,rfl],q];rw[ak h1] at q;rw[ak (by intro c;rw[Bool.or_eq_true,beq_iff_eq,beq_iff_eq] at c;show h1 (c.imp (by omega) id))];have e:(n:Int).toNat=n:=rfl;rw[e];exact#[?_,#[.str _,H,I.tok _,#[_,rfl],q]];rw[Em];rw[Nat.mul_comm];show hs
def ItS (z:Str):It:=#[λi _=>i<z.cps.size,λi H x H'=>H'=H /\ ∃c,z.cps[i]? =some c /\ x= .str ⟨#[c]⟩,λi _=>z.cps.size<=i]
def Ib {P:Program}{w:World}{K:WW}{tg:Expr}(z:Str)(t:Tok)(it:fY):zL P w K tg (ItS z) [it] it (λi h=>h.IsStrIter it "str_ascii_iterator" z t i) where
 mem:=by simp
 obj:=λi h st b hb=>by have e:b=it:= ⇑hb;subst e;let⟨o,e,c,d⟩:=st;show#[o,e,λv z=>by rw[d] at z;cases z]
 keep:=λi h h' ⟨o,ho,r⟩ k=>#[o,k it (by simp) o ho,r]
 item:=by intro X hP hw hK hc i ah s σ H E I hf st hg;subst hP hw hK;let⟨f0,f1,f2,f3,f4,f5⟩:=hf it (by simp);have hg:i<z.cps.size:=hg;exact wpAny_pyNext_ascii_item st (c:=z.cps[i]) (by simp[hg]) λh' bM sb=> ?_;have I1:Inv X ah σ H {s with heap:=h',toks:=s.toks+1}:=I.turned (t':=s.toks+1) (λb o hb e=>(sb.2 b hb).trans e) f0 f1 f3 f4 f5;let⟨o,e,c,d⟩:=id bM;show#[_,rfl,xM (s:= {s with heap:=h',toks:=s.toks+1}) e c d ⋯ #[.str ⟨#[z.cps[i]]⟩,H,I1,#[_,rfl],#[rfl,_,by simp[hg],rfl],bM,λb hb=>(hf b hb).1]]
 done:=by intro X hP hw hK hc i ah s σ H E I hf st hg;subst hP hw hK;let⟨f0,f1,f2,f3,f4,f5⟩:=hf it (by simp);have hg:z.cps.size<=i:=hg;show wpAny_pyNext_ascii_end (I.ok.hd hc) st (by simp[hg]) λh' eb=>#[rfl,I.turned (t':=s.toks) (λb o hb e=>eb b o hb e) f0 f1 f3 f4 f5]
 self:=λ_ _ _ _ _ st h=>wpAny_pyIter_striter_ascii st h
def W2 (tl:TE):TI:=λσ H R=>tl σ H λx H1=> ∃z:Str,c8 (x= .str z) (z.cps.all (· <128)=true) (R (ItS z) H1)
def Jk (hl:PE X l tl):PI X tg l (W2 tl):=by intro ah s σ H R I h;exact c7 (hl ah s σ H _ I h) λv s1 ⟨x,H1,I1,r1,q1⟩=> ?_;let⟨z,e,ha,q⟩:=q1;subst e;let⟨t,rfl⟩:=r1;exact wpAny_pyIter_ascii ha ?_;exact#[s1.heap.objs.size,[s1.heap.objs.size],_,_,H1,rfl,I1.kept (t':=s1.toks) λb o e=>av _ e,Ib z t _,#[_,a6 _ rfl,rfl,rfl],λb hb=> ?_,q];have e:b=s1.heap.objs.size:= ⇑hb;subst e;show I1.Dc (aq _) (I1.cU.fresh (aq _))
def Pu:cH V ->Hp ->VK ->Prop:=λxs H Q=> ∃z,c8 (xs= [.str z]) (z.length<=sizeLine) (Q (.int z.length) H)
theorem rJ:fJ X (.builtin "len") Pu:=zE
def B_ (i j:Str):Bool:= !(Builtin.Str.occurrences j i 0 j.length 1).isEmpty
def VV:R2:=λx y H Q=>cx λi j=>c8 (x= .str i) (y= .str j) (Q (.bl (B_ i j)) H)
def Eo:R2:=λx y H Q=>cx λi j=>c8 (x= .str i) (y= .str j) (Q (.bl (!B_ i j)) H)
theorem R0:jd X (compareOp .In) VV:=Gn
theorem Gm:jd X (compareOp .NotIn) Eo:=y3
end
end L2
namespace WL
open PySem L2
section
variable {K:WW}
def U2:qu:=λx y M q=>eZ λz i c=>gy (x=ws z) (y=wi i) (z.length<=sizeLine) (gY z.cps.toList i=some c) (q (ws ⟨#[c]⟩) M)
instance:IR K VU U2 where
 imp:=by rintro x y v u M H q Q m r1 r2 ⟨z,i,c,rfl,rfl,hz,e,h⟩ k;cases r1.eq;cases r2.eq;show#[z,i,c,rfl,rfl,hz,e,k _ M _ H h (a_.refl H) m WR.v]
def _z:U2 (.v (.str z)) (.v (.int i)) M q=cr (z.length<=sizeLine) (iV (gY z.cps.toList i) λc=>q (ws ⟨#[c]⟩) M):=by apply propext;symm;rintro⟨_,_,c,h1,h2,h3,h4,k⟩;cases h1;cases h2;show#[h3,c,h4,k];rintro⟨h3,c,h4,k⟩;show#[_,_,c,rfl,rfl,h3,h4,k]
def UT:Hd:=λx lo hi M q=> ∃z:Str,c8 (x=ws z) (z.length<=sizeLine) (q (ws (Txt.slice z lo hi)) M)
instance:ISl K VR UT where
 imp:=by rintro x v lo hi M H q Q m r1 ⟨z,rfl,hz,h⟩ k;cases r1.eq;show#[z,rfl,hz,k _ M _ H h (a_.refl H) m WR.v]
def _g:UT (.v (.str z)) lo hi M q=cr (z.length<=sizeLine) (q (ws (Txt.slice z lo hi)) M):=by apply propext;symm;rintro⟨_,h1,h3,k⟩;cases h1;show#[h3,k];rintro⟨h3,k⟩;show#[_,rfl,h3,k]
def UV:qu:=λx y M q=>cx λ(z:Str) (n:Nat)=>gy (x=ws z) (y=wi n) (n<=1000) (z.length<=1000) (q (ws (iK z n)) M)
instance:IR K Pr UV where
 imp:=by rintro x y v u M H q Q m r1 r2 ⟨z,n,rfl,rfl,hn,hz,h⟩ k;cases r1.eq;cases r2.eq;show#[z,n,rfl,rfl,hn,hz,k _ M _ H h (a_.refl H) m WR.v]
def U4:qu:=λx y M q=>cx λi j=>c8 (x=ws i) (y=ws j) (q (wb (B_ i j)) M)
def DM:qu:=λx y M q=>cx λi j=>c8 (x=ws i) (y=ws j) (q (wb (!B_ i j)) M)
instance:IR K VV U4 where
 imp:=by rintro x y v u M H q Q m r1 r2 ⟨i,j,rfl,rfl,h⟩ k;cases r1.eq;cases r2.eq;show#[i,j,rfl,rfl,k _ M _ H h (a_.refl H) m WR.v]
instance:IR K Eo DM where
 imp:=by rintro x y v u M H q Q m r1 r2 ⟨i,j,rfl,rfl,h⟩ k;cases r1.eq;cases r2.eq;show#[i,j,rfl,rfl,k _ M _ H h (a_.refl H) m WR.v]
def _C:U4 (.v (.str i)) (.v (.str j)) M q=q (wb (B_ i j)) M:=by apply propext;symm;rintro⟨_,_,h1,h2,k⟩;cases h1;cases h2;show k;intro k;show#[_,_,rfl,rfl,k]
def TZ:DM (.v (.str i)) (.v (.str j)) M q=q (wb (!B_ i j)) M:=by apply propext;symm;rintro⟨_,_,h1,h2,k⟩;cases h1;cases h2;show k;intro k;show#[_,_,rfl,rfl,k]
def O2:zK:=λxs M q=> ∃z,c8 (xs= [ws z]) (z.length<=sizeLine) (q (wi z.length) M)
instance:IC K Pu O2 where
 imp:=by rintro xs v M H q Q m r1 ⟨z,rfl,hz,h⟩ k;let⟨v,rfl,r⟩:=r1.one;cases r.eq;show#[z,rfl,hz,k _ M _ H h (a_.refl H) m WR.v]
def YD:O2 [.v (.str z)] M q=cr (z.length<=sizeLine) (q (wi z.length) M):=by apply propext;symm;rintro⟨_,h1,h3,k⟩;cases h1;show#[h3,k];rintro⟨h3,k⟩;show#[_,rfl,h3,k]
def B9 (z:Str):cH Str:=z.cps.toList.map λc=>⟨#[c]⟩
def SJ (a:WE):WI:=λρ M q=>a ρ M λx M1=> ∃z:Str,c8 (x=ws z) (z.cps.all (· <128)=true) (q ((B9 z).map ws) (λ_=>True) M1)
def Kb:Dy K H1 (ItS z) ((B9 z).map ws) (λ_=>True):=by
 intro i M H ts m _;have hl:((B9 z).map ws).length=z.cps.size:=by unfold B9;simp
 exact#[λh=>by change z.cps.size<=i;omega,λh=>by change i<z.cps.size;omega,λv H' hi y=> ?_];let⟨rfl,c,hc,rfl⟩:=y;exact#[a_.refl _,m,ws ⟨#[c]⟩,?_,WR.v];unfold B9;rw[a5,aK,Array.getElem?_toList,hc];rfl
instance {t:TE}{a:WE} [ia:IE K t a]:II K (W2 t) (SJ a) where
 imp:=λρ M σ H q R o h k=>ia.imp ρ M σ H _ _ o h λx M1 v H1 ⟨z,e,ha,h1⟩ t1 m1 r1=>by subst e;show#[z,r1.eq,ha,k _ _ _ M1 H1 h1 t1 m1 Kb]
def aaZ:SJ a ρ M q=a ρ M λx M1=>yD x λz=>cr (z.cps.all (· <128)=true) (q ((B9 z).map ws) (λ_=>True) M1):=by unfold SJ yD cr;congr 1;funext x M1;show propext #[λ⟨i,a,b,c⟩=>#[i,a,b,c],λ⟨i,a,b,c⟩=>#[i,a,b,c]]
end
end WL
namespace TS
open PySem PyProof.Rows
def vj (x y:gO):Bool:=decide ((strOf x.1).cps.toList< (strOf y.1).cps.toList)
def aaq:Ord vj:=by exact#[λx y h=> ?_,λx y z h1 h2=> ?_];unfold vj at*;rw[dB] at h;show aG λh'=>List.lt_irrefl _ (List.lt_trans h h');unfold LE vj at*;rw[decide_eq_false_iff_not] at*;show λh=>(List.le_trans (List.not_lt.mp h1) (List.not_lt.mp h2)) h
def ltS (h0: ∀v,v∈vs -> ∃x t,v= .str x t):i5 prog w A E s oneType' (pairsOf vs) vj:=by
 intro x y st Q hx hy hk hq;have hm: ∀p:gO,p∈(pairsOf vs).toList -> ∃a t,p.1= .str a t:=λp hp=>by rw[pairsOf_toList] at hp;show h0 _ (mem_zip_self hp).2
 let⟨n,t,e1⟩:=hm x hx;let⟨m,u,e2⟩:=hm y hy;rw[lt'_eq];exact aw (wpS_get ?_);rw[hk,keyLt'_oneType,e1,e2];exact aw (wpS_lift (wpAny_attempt (oneLt_str #[rfl,?_])));have e:vj x y=decide (n.cps.toList<m.cps.toList):=by unfold vj;rw[e1,e2];rfl
 rw[e] at hq;show aJ hq
def F_ (ho:s.heap.get? a=some (seqObj "list" vs.toArray n))(hI:StrsAre vs ss)(hsz:vs.length<=sizeLine)(h: ∀ (out:gP df) (ss':cH Str),StrsAre out.toList ss' ->ss'.Perm ss ->ss'.Pairwise (λx y=>¬y.cps.toList<x.cps.toList) ->P (.done (.ret .none)) {s with heap:=sortedHeap s.heap a vs out}): wpAny (model prog w) A (Builtin.«list.sort» #[[.ref a],[]]) P E s:=by
 exact Al aaq ho hsz (kd:=oneType') (λh2 Q hq=> ?_) (ltS hI.all) λus hp hs=> ?_;let⟨v₁,v₂,cX,rfl⟩:eZ λv₁ v₂ cX=>vs=v₁::v₂::cX:=by
  match vs,h2 with
  | [],h2=>simp at h2
  | [_],h2=>simp at h2
  | v₁::v₂::cX,_=>show#[v₁,v₂,cX,rfl]
 rw[keyKind_strs hI];show bf hq;have wR: ∀v,v∈us -> ∃x t,v= .str x t:=λv hv=>hI.all v (hp.mem_iff.mp hv);exact h us.toArray (us.map strOf) ⇑(strsAre_map us wR) ?_ ?_;have:=hp.map strOf;rwa [hI.strs] at this;rw[List.pairwise_map];exact hs.imp λ{x y} e=> ?_;unfold vj at e;rw[decide_eq_false_iff_not] at e;show e
end TS
namespace L2
open PySem PySem.Spec PyProof.Rows
theorem D_: ∀ {ks:cH Str} {vs:cH df},vs.length=ks.length ->(∀ (j:Nat) (v:df),vs[j]? =some v ->cx λ(k:Str) (t:Tok)=>ks[j]? =some k /\ v= .str k t) ->StrsAre vs ks
 | [],[],_,_=> .nil
 | [],_::_,h,_=>by simp at h
 | _::_,[],h,_=>by simp at h
 | k::ks,v::vs,h,hv=>by let⟨k',t,e1,e2⟩:=hv 0 v rfl;simp at e1;subst e1 e2;show .cons k t (D_ ⇑h λj u e=> ⇑(hv (j+1) u ⇑e))
theorem oF: ∀ {ks:cH Str} {vs:cH df},StrsAre vs ks ->cj (ks.map V.str) vs
 | _,_, .nil=> .nil
 | _,_, .cons x t r=> .cons #[t,rfl] (oF r)
section
variable {X:Cx}{tg o e:Expr}{td ty:TE}{dP dy:Pos}
def AA:cH V ->Hp ->VK ->Prop:=λxs H Q=>eZ λ(d:fY) (kvs:cH (cf×V)) (ks:cH Str)=>gy (xs= [.ref d]) (H d=some (.dK kvs)) (kvs.map (·.1)=ks.map Sum.inr) (ks.length<=sizeLine) (∀ (p:fY) (ns:cH Str),H p=none ->ns.Perm ks ->ns.Pairwise (λx y=>¬y.cps.toList<x.cps.toList) ->Q (.ref p) (cR H p (.lst (ns.map V.str))))
def fG (hc:X.calm=true):fJ X (.builtin "sorted") AA:=by
 intro ah s σ H xs us Q I r h;let⟨d,kvs,ks,rfl,hd,hk,N4,q⟩:=h;let⟨u,rfl,ru⟩:=vals1 r;cases ru;have hh:X.A.in1.handled=none:=I.ok.hd hc;let⟨hz,lo,vs,gq,dd⟩:=xY I.cU hd;let⟨ep,hat⟩:=dd.dictAt;have dR:vs.length=ks.length:=by have e1:=congrArg List.length hk;rw[af,af] at e1;rw[<- gq.length,e1]
 exact Calls.call_function_entry kind_sorted plain_sorted entry_sorted (args_sorted1 _) ?_;unfold Builtin.«sorted»;exact aA (m:=checkCount "sorted" 1 1 _) (bf ?_);exact aA (W.kdu_collect (A:=X.A.in1) (W.kdl_dict (knd:=cO X.prog X.w) (kvs:=vs) (ep:=ep) lo) hh hat (by rw[<- gq.length];show hz) λh' tk gb hkp C_=> ?_);have hl:gb.toList.length=ks.length:=by rw[dL,C_.1,dR]
 have hI:StrsAre gb.toList ks:=D_ hl λj v e=>by
  let⟨k,x,hx,Xk⟩:=C_.2 j v (by rw[<- Array.getElem?_toList];show e);have Km:(kvs.map (·.1))[j]? =some k:=by
   have:(vs.map (·.1))[j]? =some k:=by rw[aK,hx];rfl
   rw[<- gq.keys] at this;show this
  rw[hk,aK] at Km;cases e2:ks[j]? with
  | none=>rw[e2] at Km;cases Km
  | some n=>
   rw[e2] at Km;cases Km;have S_:pF (Sum.inr n) v=true:=Xk;rcases dk S_ with⟨i,t,e3,e4⟩ | ⟨x,t,e3,e4⟩
   cases e3;cases e3;show#[n,t,rfl,e4]
 exact aA (wpAny_newList ?_ (by rw[hl];show N4));have ho:(h'.push (seqObj "list" gb.toList.toArray 0)).get? h'.objs.size=some (seqObj "list" gb.toList.toArray 0):=a6 _ rfl;exact aA (wpAny_holding (wpAny_call_entry slot_list_sort #[_,ho,rfl] entry_list_sort (TS.F_ (s:= {s with heap:=h'.push (seqObj "list" gb.toList.toArray 0),toks:=tk}) ho hI (by rw[hl];show N4) λout Ca a1 a2 a3=>#[_,rfl,?_]) (args_list_sort _)));let⟨ee,Th⟩:=sortedHeap_at (out:=out) ho;have I':Inv X ah σ H {s with heap:=h',toks:=tk}:=I.kept (t':=tk) hkp;exact bf #[_,rfl, .ref h'.objs.size,_,I'.laid (t':=tk) (o:= .lst (Ca.map V.str)) (λb o hb=> ?_) (aq _) ?_,rfl,q _ Ca (I'.cU.fresh (aq _)) a2 a3];have no:b<h'.objs.size:=aT hb;rw[sortedHeap_old (bF no) (by rw[Heap.size_push];show Nat.lt_succ_of_lt no)];show av _ hb;exact#[?_,out.toList,ee,oF a1, ⇑Th];rw[af,a2.length_eq];show N4
def Jc:cH V ->Hp ->VK ->Prop:=λxs H Q=>cx λ(d:fY) (kvs:cH (cf×V))=>c8 (xs= [.ref d]) (H d=some (.dK kvs)) (∀p,H p=none ->Q (.ref p) (cR H p (.dK kvs)))
def kr:fJ X (.type "dict") Jc:=by intro ah s σ H xs us Q I r h;let⟨d,kvs,rfl,hd,q⟩:=h;let⟨u,rfl,ru⟩:=vals1 r;cases ru;let⟨hz,lo,vs,gq,dd⟩:=xY I.cU hd;exact kt_call_dict lo dd (by rw[<- gq.length];show hz) λh' Xq sb=> ?_;have big:=I.big;exact#[.ref s.heap.objs.size,_,I.laid (a:=s.heap.objs.size) (o:= .dK kvs) (t':=s.toks) (λb u e=> ?_) (aq _) #[hz,?_,vs,gq,Xq],rfl,q _ (I.cU.fresh (aq _))];rw[sb.2 b (bF (aT e))];show av _ e;show beq_eq_false_iff_ne.mpr (λz=>by rw[z] at big;show Nat.lt_irrefl _ big)
def OI (d:fY)(o:Obj)(kvs:cH (cf×V)):It:=#[λi H=>i<kvs.length /\ H d=some (.lw o (.dK kvs)),λi H x H'=>H'=H /\ ∃kv,kvs[i]? =some kv /\ x=kV kv.1,λi H=>kvs.length<=i /\ H d=some (.lw o (.dK kvs))]
theorem JX: ∀ {kvs:cH (cf×V)} {vs:cH (cf×df)} {i:Nat} {q:cf×df},KV kvs vs ->vs[i]? =some q -> ∃p,kvs[i]? =some p /\ p.1=q.1
 | _,_,0,_, .cons ⟨e0,r⟩ _,e=>by cases e;show#[_,rfl,e0]
 | _,_,i+1,q, .cons _ t,e=>by have e':_=some q:=e;rw[List.getElem?_cons_succ] at e' ⊢;show JX t e'
def FU {P:Program}{w:World}{K:WW}{tg:Expr}{d it:fY}{o:Obj}{kvs:cH (cf×V)}{es:gP DictEntry}{ep:Nat}(ho:o.data= .dict es ep): zL P w K tg (OI d o kvs) [it] it (λi h=>h.IsKeyIter it d i kvs.length ep) where
 mem:=by simp
 obj:=λi h st b hb=>by have e:b=it:= ⇑hb;subst e;let⟨o,e,c,d⟩:=st;show#[o,e,λv z=>by rw[d] at z;cases z]
 keep:=λi h h' st k=>st.at λo e=>k it (by simp) o e
 item:=by
  intro X hP hw hK hc i ah s σ H E I hf st hg;subst hP hw hK;let⟨hi,hH⟩:=hg;let⟨vs,gq,hd⟩:=zy I ho hH;have hl:=gq.length;rw[hl] at st hi;let⟨f0,f1,f2,f3,f4,f5⟩:=hf it (by simp);let⟨⟨k,x⟩,hx⟩: ∃q,vs[i]? =some q:=#[vs[i],by simp[hi]]
  let⟨p,hp,rp⟩:=JX gq hx;exact wpAny_pyNext_dict_item st hd hx λkey h' Ta C8 gR=> ?_;have I1:Inv X ah σ H {s with heap:=h'}:=I.turned (t':=s.toks) (λb o hb e=>(gR.2 b hb).trans e) f0 f1 f3 f4 f5;let⟨oo,e,c,dd⟩:=id C8;rw[<- hl] at C8;have rk:RelV (kV p.1) key:=by
   rw[show p.1=k from rp];rcases dk (show pF k key=true from Ta) with⟨i,t,e,e2⟩ | ⟨x,t,e,e2⟩
   subst e;show#[t,e2];subst e;show#[t,e2]
  show#[key,rfl,xM (s:= {s with heap:=h'}) e c dd ⋯ #[kV p.1,H,I1,rk,#[rfl,p,hp,rfl],C8,λb hb=>(hf b hb).1]]
 done:=by intro X hP hw hK hc i ah s σ H E I hf st hg;subst hP hw hK;let⟨hi,hH⟩:=hg;let⟨vs,gq,hd⟩:=zy I ho hH;have hl:=gq.length;rw[hl] at st hi;let⟨f0,f1,f2,f3,f4,f5⟩:=hf it (by simp);show wpAny_pyNext_dict_end (I.ok.hd hc) st hd (by simp;omega) λh' eb=>#[rfl,I.turned (t':=s.toks) (λb o hb e=>eb b o hb e) f0 f1 f3 f4 f5]
 self:=λ_ _ _ _ _ st h=>wpAny_pyIter_keyiter st h
def Qi (td:TE):TI:=λσ H R=>td σ H λx H1=>cx λd kvs=>c8 (x= .ref d) (H1 d=some (.dK kvs)) (∀o,R (OI d o kvs) (cR H1 d (.lw o (.dK kvs))))
def MT (ho:PE X o td):PI X tg o (Qi td):=by
 intro ah s σ H R I h;exact c7 (ho ah s σ H _ I h) λv s1 ⟨x,H1,I1,r1,d,kvs,ex,hd,q1⟩=> ?_;subst ex;obtain rfl:v=Value.ref d:=r1;let⟨z,SU,vs,gq,dd⟩:=pZ I1.cU (.inl hd);let⟨ob,es,ep,g1,g2,g3,g4⟩:=dd;have da:s1.heap.DictAt (cO X.prog X.w) d vs ep:=#[ob,es,g1,g2,g3,g4]
 exact wpAny_pyIter_dict (knd:=cO X.prog X.w) SU da ?_;have I2:=I1.freeze hd g1;exact#[_,[_],_,OI d ob kvs,_,rfl,I2.kept (t':=s1.toks) λb o e=>av _ e,FU g3,?_,λb hb=> ?_,q1 ob];rw[gq.length];show#[_,a6 _ rfl,rfl,rfl];have e:=bg.mp hb;subst e;show I2.Dc (aq _) (I2.cU.fresh (aq _))
def O_ (t:TE):TE:=λσ H Q=>cx λd kvs=>H d=some (.dK kvs) /\ t σ H λv H'=>cx λo us=>H' d=some (.lw o (.dK us)) /\ Q v (cR H' d (.dK us))
def EA (h:PE X e t):PE X e (O_ t):=by
 rintro ah s σ H Q I ⟨d,kvs,hd,ht⟩;have h0: ∀o u,X.H₀ d≠some (.lw o u):=λo u e=>by have:=I.base.nq d o u e;rw[hd] at this;cases this
 exact c7 (h ah s σ H _ I ht) λv s' ⟨x,H',I',r,o,us,e,q⟩=>#[x,_,I'._X e h0,?_,q]
 show r
structure TF (K:PySem.W.Frag)(mg:Str ->Option Value)(x:Str)(ns:List Int):Prop where
 ex: ∃a,mg x=some (.ref a) /\ ∀H,lm K H a (ns.map V.int)
def tGT (K:WW)(ns:cH Int):TE:=λ_ H Q=> ∀a,lm K H a (ns.map V.int) ->Q (.ref a) H
def MV (hg:Gl X x)(T:TF X.K X.mg x ns)(hd:(x==("__debug__" :Str))=false:=by decide):PE X (.Name x pos) (tGT X.K ns):=by let⟨a,hm,hs⟩:=T.ex;intro ah s σ H Q I h;show gg (v:= .ref a) hg hm rfl hd ah s σ H Q I (h a (hs H))
end
end L2
namespace WL
open PySem L2
section
variable {K:WW}
def wGT (ns:cH Int):WE:=λ_ M q=>q (.tup (ns.map wi)) M
instance {ns:cH Int}:IE K (tGT K ns) (wGT ns) where
 imp:=λρ M σ H q Q o h k=>λa hs=>k _ M _ H h (a_.refl H) o.hp (WR.Sh hs (by
  exact cP.mk (by simp) λj d v e1 e2=> ?_;rw[aK] at e1 e2;cases hj:ns[j]? with
  | none=>rw[hj] at e1;cases e1
  | some n=>rw[hj] at e1 e2;cases e1;cases e2;show WR.v))
theorem ahZ:wGT ns ρ M q=q (.tup (ns.map wi)) M:=rfl
def HJ:zK:=λxs M q=>eZ λ(d:fY) (kvs:cH (cf×W)) (ks:cH Str)=>gy (xs= [wr d]) (M d=some (.dK kvs)) (kvs.map (·.1)=ks.map Sum.inr) (ks.length<=sizeLine) (∀ (p:fY) (ns:cH Str),M p=none ->ns.Perm ks ->ns.Pairwise (λx y=>¬y.cps.toList<x.cps.toList) ->q (wr p) (um M p (.lst (ns.map ws))))
theorem EX {H:Hp}: ∀ {kvs:cH (cf×W)} {vs:cH (cf×V)},KR K H kvs vs ->kvs.map (·.1)=vs.map (·.1)
 | _,_, .nil=>rfl
 | _,_, .cons ⟨e,_⟩ t=>by rw[aP,aP,EX t,e]
theorem z8 {H:Hp}: ∀ (ns:cH Str),cP K H (ns.map ws) (ns.map V.str)
 | []=>cP.nil
 | _::r=>cP.cons WR.v (z8 r)
instance:IC K AA HJ where
 imp:=by rintro xs v M H q Q m r1 ⟨d,kvs,ks,rfl,hd,hk,hl,h⟩ k;let⟨v,rfl,r⟩:=r1.one;cases r.eq;let⟨us,e,rr⟩:=m d _ hd;show#[d,us,ks,rfl,e,by rw[<- EX rr];show hk,hl,λp ns hp h1 h2=>k _ _ _ _ (h p ns (m.fresh hp) h1 h2) (L2.gm.ts (cg hp)) (m.ln hp (z8 ns)) WR.v]
def HP:zK:=λxs M q=>cx λ(d:fY) (kvs:cH (cf×W))=>c8 (xs= [wr d]) (M d=some (.dK kvs)) (∀p,M p=none ->q (wr p) (um M p (.dK kvs)))
instance:IC K Jc HP where
 imp:=by rintro xs v M H q Q m r1 ⟨d,kvs,rfl,hd,h⟩ k;let⟨v,rfl,r⟩:=r1.one;cases r.eq;let⟨us,e,rr⟩:=m d _ hd;show#[d,us,rfl,e,λp hp=>k _ _ _ _ (h p (m.fresh hp)) (L2.gm.ts (cg hp)) (m.put (L2.gm.ts (cg hp)) #[us,bY,KR.ts (L2.gm.ts (cg hp)) rr]) WR.v]
def U5:HP [.v (.ref d)] M q=fQ (M d) λkvs=> ∀p,M p=none ->q (wr p) (um M p (.dK kvs)):=by apply propext;symm;rintro⟨_,kvs,h1,h2,k⟩;cases h1;show#[kvs,h2,k];rintro⟨kvs,h2,k⟩;show#[_,kvs,rfl,h2,k]
def J9 (a:WE):WI:=λρ M q=>a ρ M λx M1=>cx λd kvs=>c8 (x=wr d) (M1 d=some (.dK kvs)) (∀o ks,q (kvs.map λkv=>i9 kv.1) (λM'=>M' d=some (.fz o ks kvs)) (um M1 d (.fz o ks kvs)))
def GL:Dy K H1 (OI d o ks) (kvs.map λkv=>i9 kv.1) (λM'=>M' d=some (.fz o ks kvs)):=by intro i M H t m hM;let⟨e1,r1⟩:=m d _ hM;have hl:=CZ r1;rw[af];exact#[λh=>#[by omega,e1],λh=>#[by omega,e1],λv H' hi ⟨e2,kv,hk,e3⟩=> ?_];subst e2 e3;let⟨p,hp,e4,rp⟩:=JY r1 hk;exact#[a_.refl _,m,i9 p.1,by rw[aK,hp];rfl,?_];rw[e4];cases kv.1<;>show WR.v
instance {t:TE}{a:WE} [ia:IE K t a]:II K (Qi t) (J9 a) where
 imp:=λρ M σ H q R o h k=>ia.imp ρ M σ H _ _ o h λx M1 v H1 ⟨d,kvs,ex,hd,h1⟩ t1 m1 r1=>by subst ex;let⟨ks,e,r⟩:=m1 d _ hd;exact#[d,ks,r1.eq,e,λob=>k _ _ _ _ _ (h1 ob ks) (t1.trans (lC e)) (m1.put (lC e) #[bY,KR.ts (lC e) r]) GL]
def Zu:J9 a ρ M q=a ρ M λx M1=>eB x λd=>fQ (M1 d) λkvs=> ∀o ks,q (kvs.map λkv=>i9 kv.1) (λM'=>M' d=some (.fz o ks kvs)) (um M1 d (.fz o ks kvs)):=by unfold J9 eB fQ;congr 1;funext x M1;apply propext;symm;rintro⟨d,kvs,e1,e2,h⟩;show#[d,e1,kvs,e2,h];rintro⟨d,e1,kvs,e2,h⟩;show#[d,kvs,e1,e2,h]
def US (t:WE):WE:=λρ M q=>cx λd kvs=>M d=some (.dK kvs) /\ t ρ M λv M'=>eZ λo ks us=>M' d=some (.fz o ks us) /\ q v (um M' d (.dK us))
instance {t:TE}{a:WE} [ia:IE K t a]:IE K (O_ t) (US a) where
 imp:=λρ M σ H q Q o ⟨d,kvs,hd,h⟩ k=>by let⟨ks,ek,r⟩:=o.hp d _ hd;exact#[d,ks,ek,ia.imp ρ M σ H _ _ o h ?_];rintro x M' v H' ⟨ob,us,ws,hM,hq⟩ ts m' r';let⟨e1,r1⟩:=m' d _ hM;have t2:=Ra (u:= .dK us) e1;show#[ob,us,e1,k _ _ _ _ hq (ts.trans t2) (m'.put t2 #[us,bY,KR.ts t2 r1]) (r'.ts t2)]
end
end WL
namespace L2
open PySem
def m7 (hK:X.K=K):jd X (compareOp .NotIn) (VW K true):=by subst hK;show y8
theorem jA (X:K.In h)(G:h.Ns mainGlobals mg)(a:W.nsIn K mainGlobals x=some (some (.ref C))):mg x=some (.ref C):=W.mg_of X G a
theorem jq (_:K.In h)(a:W.nsIn K mainGlobals x=some (some (.ref C)))(e:W.excIn K C XR "ValueError.__new__" =true)(k1:W.clsIn K C=some cd)(k2:W.findIn K (.ref C) "__getattribute__" =some (some (.builtin "BaseException.__getattribute__")))(k3:W.findIn K (.ref C) "__getattr__" =some none)(k4:W.findIn K (.ref C) "__class__" =some (some (.builtin "object.__class__")))(k5:W.mroIn K C (.type "object")=some true)(k6:W.mroIn K C (.type "BaseException")=some true):qj K x C:=UM a e k1 k2 k3 k4 k5 k6
theorem Rk (X:K.In h)(G:h.Ns mainGlobals mg)(a:W.nsIn K mainGlobals x=some (some (.str z t))): ∃t,mg x=some (.str z t):=#[t,W.mg_of X G a]
theorem Q7 (X:K.In h)(G:h.Ns mainGlobals mg)(a:W.nsIn K mainGlobals x=some (some (.ref ad)))(l:K.lookup ad=some #[.type "tuple",none, .seq (List.toArray [.int n1 t1, .int n2 t2, .int n3 t3, .int n4 t4]) n,sl]):TF K mg x [n1,n2,n3,n4]:=#[ad,W.mg_of X G a,λH=> .inr #[_,_,_,l,rfl,rfl,rfl,by change 4<=sizeLine;decide, .cons #[_,rfl] (.cons #[_,rfl] (.cons #[_,rfl] (.cons #[_,rfl] .nil)))]]
end L2
namespace WL
open PySem L2
section
variable {K:WW}
def Cm (a b:WE):WE:=λρ M q=>a ρ M λx M1=> ∃p,c8 (x=wr p) (∃kvs,M1 p=some (.dK kvs)) (b ρ M1 λy M2=>eZ λkvs k z=>fA (M2 p=some (.dK kvs)) (y=i9 k) (e9 kvs k=some z) (q z (um M2 p (.dK (jY kvs k)))))
instance {t u:TE}{a b:WE} [ia:IE K t a] [ib:IE K u b]:IE K (Im t u) (Cm a b) where
 imp :=λρ M σ H q Q o h k=>ia.imp ρ M σ H _ _ o h λx M1 v H1 ⟨p,e,⟨kvs,hp⟩,h1⟩ t1 m1 r1=>by
  subst e;let⟨ks,hk,rr⟩:=m1 p _ hp;exact#[p,r1.eq, .inl #[ks, .inl hk],ib.imp ρ M1 σ H1 _ _ (o.mv t1 m1) h1 λy M2 u H2 ⟨kvs,ky,z,e2,e3,e4,h2⟩ t2 m2 r2=> ?_];subst e3;let⟨ks,hk,rr⟩:=m2 p _ e2;have ts:=lC (u:= .dK (mD ks ky)) hk;rcases rr.val ky with⟨n1,_⟩ | ⟨x',v',n1,n2,rx⟩
  rw[n1] at e4;cases e4;rw[n1] at e4;cases e4;show#[ks,ky,v',hk,jl r2,n2,k _ _ _ _ h2 ((t1.trans t2).trans ts) (m2.putD hk rr.drop) (rx.ts ts)]
def U6:Cm a b ρ M q=a ρ M λx M1=>eB x λp=>fQ (M1 p) λ_=>b ρ M1 λy M2=>i_ y λk=>fQ (M2 p) λkvs=>iV (e9 kvs k) λz=>q z (um M2 p (.dK (jY kvs k))):=by
 unfold Cm eB fQ i_ iV;congr 1;funext x M1;apply propext;symm;rintro⟨p,e1,⟨kvs,e2⟩,h⟩;exact#[p,e1,kvs,e2,?_];have:(λy M2=>eZ λkvs k z=>fA (M2 p=some (.dK kvs)) (y=i9 k) (e9 kvs k=some z) (q z (um M2 p (.dK (jY kvs k)))))=(λy M2=> ∃k,y=i9 k /\ ∃l,M2 p=some (.dK l) /\ ∃z,e9 l k=some z /\ q z (um M2 p (.dK (jY l k)))):=by funext y M2;apply propext;symm;rintro⟨kvs,k,z,h1,h2,h3,h4⟩;show#[k,h2,kvs,h1,z,h3,h4];rintro⟨k,h2,kvs,h1,z,h3,h4⟩;show#[kvs,k,z,h1,h2,h3,h4]
 rw[this] at h;show h;rintro⟨p,e1,kvs,e2,h⟩;exact#[p,e1,#[kvs,e2],?_];have:(λy M2=>eZ λkvs k z=>fA (M2 p=some (.dK kvs)) (y=i9 k) (e9 kvs k=some z) (q z (um M2 p (.dK (jY kvs k)))))=(λy M2=> ∃k,y=i9 k /\ ∃l,M2 p=some (.dK l) /\ ∃z,e9 l k=some z /\ q z (um M2 p (.dK (jY l k)))):=by funext y M2;apply propext;symm;rintro⟨kvs,k,z,h1,h2,h3,h4⟩;show#[k,h2,kvs,h1,z,h3,h4];rintro⟨k,h2,kvs,h1,z,h3,h4⟩;show#[kvs,k,z,h1,h2,h3,h4]
 rw[this];show h
end
end WL
namespace WQ
open PySem L2 WL WP
section
variable {α:Type}
def tf (f:α ->W)(l:cH (Str×α)):cH (cf×W):=l.map λz=>(.inr z.1,f z.2)
def cC (l:cH (Str×α))(n:Str):fj α:=(l.find? λz=>decide (z.1=n)).map (·.2)
def hU (l:cH (Str×α))(n:Str)(a:α):cH (Str×α):=if(l.any λz=>decide (z.1=n))=true then l.map (λz=>if z.1=n then(z.1,a) else z) else l++ [(n,a)]
def ot (l:cH (Str×α))(n:Str):cH (Str×α):=l.filter λz=>decide (z.1≠n)
theorem uu:((Sum.inr a:cf)= .inr b)↔a=b:=#[Sum.inr.inj,λh=>by rw[h]]
def cM (f:α ->W)(l:cH (Str×α))(n:Str):e9 (tf f l) (.inr n)=(cC l n).map f:=by
 unfold e9 tf cC;induction l with
 | nil=>rfl
 | cons z l ih=>rw[aP,cQ,cQ];simp![uu];by_cases h:z.1=n;simp[h];simpa [h] using ih
def gJ (f:α ->W)(l:cH (Str×α))(n:Str)(a:α):uV (tf f l) (.inr n) (f a)=tf f (hU l n a):=by
 have e:((tf f l).any λkv=>decide (kv.1= .inr n))=(l.any λz=>decide (z.1=n)):=by unfold tf;rw[List.any_map];congr 1;funext z;simp![Function.comp,uu]
 unfold uV hU;rw[e];split;unfold tf;rw[a5,a5];apply dI;intro z _;simp![Function.comp,uu];split<;>rfl;unfold tf;rw[aB];rfl
def pX (f:α ->W)(l:cH (Str×α))(n:Str):jY (tf f l) (.inr n)=tf f (ot l n):=by unfold jY tf ot;rw[List.filter_map];congr 2;funext z;simp![Function.comp,ne_eq,uu]
def jF (f:α ->W)(l:cH (Str×α)):(tf f l).map (·.1)=(l.map (·.1)).map Sum.inr:=by unfold tf;rw[a5,a5];rfl
def oI (f:α ->W)(l:cH (Str×α)):(tf f l).length=l.length:=by unfold tf;rw[af]
def mX (l:cH (Str×α))(n:Str)(a:α):(hU l n a).length<=l.length+1:=by unfold hU;split<;>simp
theorem uz (l:cH (Str×α))(n:Str):(ot l n).length<=l.length:=List.length_filter_le _ _
def eA {a:α}(h:cC l n=some a): ∃z∈l,z.1=n /\ z.2=a:=by
 unfold cC at h;cases e:l.find? λz=>decide (z.1=n) with
 | none=>rw[e] at h;cases h
 | some z=>rw[e] at h;cases h;show#[z,List.mem_of_find?_eq_some e, ⇑(List.find?_some e),rfl]
def zx {z:Str×α}(h:z∈l): ∃a,cC l z.1=some a:=by
 unfold cC;cases e:l.find? λy=>decide (y.1=z.1) with
 | none=>simpa using List.find?_eq_none.mp e z h
 | some y=>show#[_,rfl]
def o_ {z:Str×α}(h:z∈hU l n a):z∈l \/ z=(n,a):=by unfold hU at h;split at h;let⟨y,hy,rfl⟩:=b_.mp h;split;rename_i e;rw[e];show .inr rfl;show .inl hy;obtain h | h:=be.mp h;show .inl h;show .inr (bg.mp h)
theorem p6 {z:Str×α}(h:z∈ot l n):z∈l:=(List.mem_filter.mp h).1
def Jf (l:cH (Str×α))(n:Str)(a:α):(hU l n a).map (·.1)=if(l.any λz=>decide (z.1=n))=true then l.map (·.1) else l.map (·.1)++ [n]:=by unfold hU;split;rw[a5];apply dI;intro z _;simp![Function.comp];split<;>rfl;rw[aB];rfl
def Je {a:α}(h:(l.map (·.1)).Nodup):((hU l n a).map (·.1)).Nodup:=by rw[Jf];split;show h;rename_i hn;rw[List.nodup_append];exact#[h,by simp,λx hx y hy=> ?_];rw[bg.mp hy];rintro rfl;apply hn;let⟨z,hz,e⟩:=b_.mp hx;show List.any_eq_true.mpr #[z,hz, ⇑e]
theorem KQ {l:cH (Str×α)}(h:(l.map (·.1)).Nodup):((ot l n).map (·.1)).Nodup:=h.sublist (List.Sublist.map _ List.filter_sublist)
def uQ {a b c:cH Str}(h1:a.Perm c)(h2:b.Perm c)(s1:a.Pairwise λx y=>¬y.cps.toList<x.cps.toList)(s2:b.Pairwise λx y=>¬y.cps.toList<x.cps.toList):a=b:=by exact List.Perm.eq_of_pairwise (le:=λx y=>¬y.cps.toList<x.cps.toList) (λx y _ _ Zw hyx=> ?_) s1 s2 (h1.trans h2.symm);show uf (List.le_antisymm Zw hyx)
end
inductive Rf where
 | BadName | NoDeed | NoRound | NoCrew | Taken | InUse | TooMany | TooFar | NoMore | NoState
def CB:Rf ->Str
 | .BadName=> "BadName" | .NoDeed=> "NoDeed" | .NoRound=> "NoRound" | .NoCrew=> "NoCrew" | .Taken=> "Taken" | .InUse=> "InUse" | .TooMany=> "TooMany" | .TooFar=> "TooFar" | .NoMore=> "NoMore" | .NoState=> "NoState"
abbrev zZ:Str:= "abcdefghijklmnopqrstuvwxyz"
abbrev Rm:=cH (Str×Rd)
abbrev Tm:=cH (Str×cH Str)
def fB (l:cH Str):W:= .tup (l.map ws)
abbrev xx (R:Rm):cH (cf×W):=tf gI R
abbrev qq (T:Tm):cH (cf×W):=tf fB T
def sj (n:Str)(l:cH Str):Bool:=Qf (.str n) (l.map V.str)
def s_ (T:Tm)(n:Str):Bool:=T.any λz=>sj n z.2
def cy (n:Str):Bool:=decide (1<=n.length) && decide (n.length<=12) && (B9 n).all λc=>B_ c zZ
def gx (a:Rd)(m r:Int):Bool:= !(decide ((if a.1<0 then -a.1 else a.1) <=m) && a.2.all λz=>decide ((if z.1<0 then -z.1 else z.1) <=r))
abbrev gZ (n:Str):Prop:=n.cps.all (· <128)=true
def lS (r t:fY):cH (Str×W):= [("rounds",wr r),("teams",wr t)]
def eY (p:Int)(now la lu lh:fY):cH (Str×W):= [("p",wi p),("now",wr now),("past",wr la),("undone",wr lu),("held",wr lh)]
theorem qJ:(lS r t).lookup ("rounds" :Str)=some (wr r):=rfl
theorem n8:(lS r t).lookup ("teams" :Str)=some (wr t):=rfl
theorem G':(eY p now la lu lh).lookup ("p" :Str)=some (wi p):=rfl
theorem iC:(eY p now la lu lh).lookup ("now" :Str)=some (wr now):=rfl
theorem Lc:(eY p now la lu lh).lookup ("past" :Str)=some (wr la):=rfl
theorem Oz:(eY p now la lu lh).lookup ("undone" :Str)=some (wr lu):=rfl
theorem OA:(eY p now la lu lh).lookup ("held" :Str)=some (wr lh):=rfl
theorem Tx:io "now" (wr x) (eY p now la lu lh)=eY p x la lu lh:=rfl
theorem ahF:io "undone" (wr x) (eY p now la lu lh)=eY p now la x lh:=rfl
theorem TB:((eY p now la lu lh).length<1000)=True:=au (by change 5<1000;decide)
theorem BH:(eY p now la lu lh).lookup ("settings" :Str)=none:=rfl
theorem gG:(eY p now la lu lh).lookup ("turn_to" :Str)=none:=rfl
theorem vZ:(eY p now la lu lh).lookup ("put" :Str)=none:=rfl
theorem mQ:(eY p now la lu lh).lookup ("put_team" :Str)=none:=rfl
theorem sU:(eY p now la lu lh).lookup ("enlisted" :Str)=none:=rfl
theorem uB:(eY p now la lu lh).lookup ("team" :Str)=none:=rfl
theorem Ou:(eY p now la lu lh).lookup ("tell" :Str)=none:=rfl
theorem Dn:(eY p now la lu lh).lookup ("join_as" :Str)=none:=rfl
theorem Ds:(eY p now la lu lh).lookup ("back_as" :Str)=none:=rfl
theorem BG:(eY p now la lu lh).lookup ("times_as" :Str)=none:=rfl
theorem Ox:(eY p now la lu lh).lookup ("drop" :Str)=none:=rfl
theorem Lb:(eY p now la lu lh).lookup ("found" :Str)=none:=rfl
theorem Dq:(eY p now la lu lh).lookup ("disband" :Str)=none:=rfl
theorem G9:(eY p now la lu lh).lookup ("enlist" :Str)=none:=rfl
theorem Dp:(eY p now la lu lh).lookup ("dismiss" :Str)=none:=rfl
theorem Ot:(eY p now la lu lh).lookup ("undo" :Str)=none:=rfl
theorem Ov:(eY p now la lu lh).lookup ("redo" :Str)=none:=rfl
theorem Ow:(eY p now la lu lh).lookup ("hold" :Str)=none:=rfl
theorem zG:(eY p now la lu lh).lookup ("return_to" :Str)=none:=rfl
theorem BI:(eY p now la lu lh).lookup ("names" :Str)=none:=rfl
theorem BJ:(eY p now la lu lh).lookup ("crews" :Str)=none:=rfl
theorem e8:(eY p now la lu lh).lookup ("round_of" :Str)=none:=rfl
theorem v6:(eY p now la lu lh).lookup ("members" :Str)=none:=rfl
def Ig (f:α ->W)(l:cH (Str×α)):(tf f l).map (λx=>x.2)=l.map λz=>f z.2:=by unfold tf;rw[a5];rfl
def xP (l:cH Str):(l.map V.str).all me=true:=by rw[List.all_map];show List.all_eq_true.mpr λ_ _=>rfl
theorem uv (h:q (wb (sj n l)) M):YE false (ws n) (fB l) M q:=#[.str n,l.map V.str,rfl, .inl (by unfold fB;rw[a5];rfl),rfl,xP l,h]
theorem oa (h:q (wb (!sj n l)) M):YE true (ws n) (fB l) M q:=#[.str n,l.map V.str,rfl, .inl (by unfold fB;rw[a5];rfl),rfl,xP l,h]
theorem DT (h:M t=some o)(hu:um M t f u=none):Sm M (um (um (um M t f) u l) t o):=λa x e=>by by_cases ht:a=t;subst ht;rw[am];rw[h] at e;show e;rw[aR ht,aR (ca (M:=um M t f) (by rw[aR ht];show e) hu),aR ht];show e
def Pg (C:fY)(M:Mp)(a:fY)(R:Rm)(T:Tm):Prop:=eZ λ(dx r t:fY)=>c8 (M a=some (.ins C dx (lS r t))) (M r=some (.dK (xx R))) (M t=some (.dK (qq T)))
structure Bk (B C:Addr)(M:Mp)(b la lu lh:Addr)(p:Int)(now:Addr)(pa un he:List Addr)(R:Rm)(T:Tm):Prop where
 ob: ∃dx,M b=some (.ins B dx (eY p now la lu lh))
 pa:M la=some (.lst (pa.map wr))
 un:M lu=some (.lst (un.map wr))
 he:M lh=some (.lst (he.map wr))
 ne:la≠lu /\ la≠lh /\ lu≠lh
 pg:Pg C M now R T
def z3 (b la:fY)(M M':Mp):Prop:= ∀a o,M a=some o ->a≠b ->a≠la ->M' a=some o
def Pg.sm (h:Pg C M a R T)(s:Sm M M'):Pg C M' a R T:=by let⟨dx,r,t,h1,h2,h3⟩:=h;show#[dx,r,t,s _ _ h1,s _ _ h2,s _ _ h3]
def Bk.sm {pa un he:cH fY}(h:Bk B C M b la lu lh p now pa un he R T)(s:Sm M M'):Bk B C M' b la lu lh p now pa un he R T:=by let⟨⟨dx,h1⟩,h2,h3,h4,h5,h6⟩:=h;show#[#[dx,s _ _ h1],s _ _ h2,s _ _ h3,s _ _ h4,h5,h6.sm s]
theorem z3.sm {M M1 M':Mp}(F:z3 b la M1 M')(s:Sm M M1):z3 b la M M':=λa o h n1 n2=>F a o (s a o h) n1 n2
theorem z3.Hz (F:z3 b la M M')(hb:M b=some (.ins B dx fs))(ha:M la=some (.lst l))(h:M r=some (.dK kvs)):M' r=some (.dK kvs):=F _ _ h (λz=>by subst z;rw[hb] at h;cases h) λz=>by subst z;rw[ha] at h;cases h
def z3.pg (F:z3 b la M M')(hb:M b=some (.ins B dx (eY p now la' lu lh)))(ha:M la=some (.lst l))(h:Pg C M a R T):Pg C M' a R T:=by let⟨ly,r,t,h1,h2,h3⟩:=h;exact#[ly,r,t,F _ _ h1 (λz=> ?_) (λz=> ?_),F.Hz hb ha h2,F.Hz hb ha h3];subst z;rw[hb] at h1;injection h1 with h1;injection h1 with _ _ h1;have:=congrArg List.length h1;revert this;change 5=2 ->False;decide;subst z;rw[ha] at h1;cases h1
def Fs (s:fY)(M M':Mp):Prop:= ∀a o,M a=some o ->a≠s ->M' a=some o
theorem Fs.trans {M M1 M2:Mp}(f:Fs s M M1)(g:Fs s M1 M2):Fs s M M2:=λa o h n=>g a o (f a o h n) n
theorem Fs.self:Fs s M (um M s o):=λa u h n=>by rw[aR n];show h
theorem Fs.new (f:Fs s M M')(hp:M' p=none):Fs s M (um M' p o):=λa u h n=>by rw[aR (ca (f a u h n) hp)];show f a u h n
theorem Fs.put (f:Fs s M M'):Fs s M (um M' s o):=λa u h n=>by rw[aR n];show f a u h n
def Fs.free (f:Fs s M M')(hp:M' p=none)(n:p≠s):M p=none:=by
 cases e:M p with
 | none=>rfl
 | some o=>rw[f p o e n] at hp;cases hp
structure qh (p:Int)(R:Rm):Prop where
 nd:(R.map (·.1)).Nodup
 len:R.length<=1000
 ok: ∀z∈R,dZ p z.2.2 /\ z.2.2.length<=401 /\ gx z.2 200 200=false
def RV (C:fY):fo:=λxs M q e=> ∃n:Str,gy (xs= [ws n]) (gZ n) (n.length<=100) (cy n=true ->q wn M) (cy n=false ->e C M)
def RK:fq:=λxs M q=>gc λ(d:fY) (kvs:cH (cf×W)) (n:Str) (x:W)=>fA (xs= [wr d,ws n,x]) (M d=some (.dK kvs)) (kvs.length<=2000) (∀r,M r=none ->q (wr r) (um M r (.dK (uV kvs (.inr n) x))))
def Jo:fq:=λxs M q=>eZ λ(d:fY) (kvs:cH (cf×W)) (n:Str)=>fA (xs= [wr d,ws n]) (M d=some (.dK kvs)) ((e9 kvs (.inr n)).isSome=true) (∀r,M r=none ->q (wr r) (um M r (.dK (jY kvs (.inr n)))))
def V9 (C:fY):fq:=λxs M q=>gc λ(s dx r t:fY)=>c8 (xs= [wr s,wr r,wr t]) (M s=some (.ins C dx [])) (q wn (um M s (.ins C dx (lS r t))))
def We (B C:fY):fq:=λxs M q=>eZ λ(s dx:fY) (p:Int)=>fA (xs= [wr s,wi p]) (p=2 \/ p=3 \/ p=5 \/ p=7) (M s=some (.ins B dx [])) (∀M' la lu lh now,Bk B C M' s la lu lh p now [] [] [] [] [] ->Fs s M M' ->M la=none ->M lu=none ->M lh=none ->la≠s ->q wn M')
def Gi (B C:fY):fq:=λxs M q=>sW λ(b la lu lh now:fY)=>gc λ(p:Int) (pa un he:cH fY)=>cx λ(R:Rm) (T:Tm)=>c8 (xs= [wr b]) (Bk B C M b la lu lh p now pa un he R T) (q (wi p) M)
def V3 (B C:fY):fq:=λxs M q=>UG λ(b la lu lh now pg:fY)=>gc λ(p:Int) (pa un he:cH fY)=>gc λ(R:Rm) (T:Tm) (R':Rm) (T':Tm)=>gy (xs= [wr b,wr pg]) (Bk B C M b la lu lh p now pa un he R T) (Pg C M pg R' T') (pa.length<=1000) (∀M' eU,Bk B C M' b la eU lh p pg (pa++ [now]) [] he R' T' ->z3 b la M M' ->M eU=none ->q wn M')
def Gk (B C:fY):fq:=λxs M q=>sW λ(b la lu lh now:fY)=>gc λ(p:Int) (pa un he:cH fY)=>eZ λ(R:Rm) (T:Tm) (n:Str)=>fA (xs= [wr b,ws n]) (Bk B C M b la lu lh p now pa un he R T) (T.length<=1000) (q (wb (s_ T n)) M)
def dz (T:Tm)(n:Str)(a:Rd):Bool:=gx a 200 200 || (s_ T n && gx a 8 24)
def Gj (B C X:fY):fo:=λxs M q e=>sW λ(b la lu lh now:fY)=>gc λ(p:Int) (pa un he:cH fY)=>gc λ(R:Rm) (T:Tm) (n:Str) (a:Rd)=>BM (xs= [wr b,ws n,gI a]) (Bk B C M b la lu lh p now pa un he R T) (pa.length<=1000) (R.length<=1000) (T.length<=1000) (a.2.length<=1000000) (dz T n a=false -> ∀M' eU pg,Bk B C M' b la eU lh p pg (pa++ [now]) [] he (hU R n a) T ->z3 b la M M' ->M eU=none ->M pg=none ->q wn M') (dz T n a=true ->e X M)
def Jp:fq:=λxs M q=>eZ λ(a:Rd) (e r:Int)=>c8 (xs= [gI a,wi e,wi r]) (a.2.length<=1000000) (q (wb (!gx a e r)) M)
def RU:fq:=λxs M q=> ∃a:Rd,c8 (xs= [gI a]) (a.2.length<=1000000) (q (wb (!gx a 8 24)) M)
inductive d3 where
 | tell (n:Str) (ds:List (Str×Int)) | join (n x y:Str) | back (n x:Str) | times (n x:Str) (k:Int) | drop (n:Str)
inductive Oc (α:Type) where
 | ok (R:α) | bad (r:Rf)
noncomputable def Ja (p:Int) (a:Rd) (n:Int):Rd:=Classical.epsilon λr=>iu p a n r
theorem En (hp:0<p)(h:iu p a n r):Ja p a n=r:=(Classical.epsilon_spec (p:=λr=>iu p a n r) #[r,h]).eq hp h
def VQ (hp:0<p)(h:dZ p a.2):iu p a 1 a:=by
 exact#[by rw[Int.mul_one],h,λx=> ?_];have e:lD (fM a.2) a.1 1 x=fM a.2 x:=by simp[lD,gd]
 rw[e, <- mW hp,JF hp h]
theorem Rz (hp:0<p):iu p a (-1) (bk p a):=(VQ hp (Du hp a)).zg hp ⋯
def jy (ds:cH (Str×Int)):Bool:=ds.all λd=>decide (d.1= "go") || decide (d.1= "turn")
def vJ:jy ds=true↔ ∀d∈ds,Good d:=by unfold jy Good;rw[List.all_eq_true];simp![Bool.or_eq_true,dB]
def jS (R:Rm)(T:Tm)(n:Str)(a:Rd):Oc Rm:=if dz T n a=true then .bad .TooFar else .ok (hU R n a)
noncomputable def cJ (p:Int) (R:Rm) (T:Tm):d3 ->Oc Rm
 | .tell n ds=>if cy n=false then .bad .BadName else if jy ds=false then .bad .NoDeed else jS R T n ((fk ds).1,qQ p (fk ds).2)
 | .join n x y=>if cy n=false then .bad .BadName else match cC R x,cC R y with
  | some a,some b=>jS R T n (jn p a b)
  | _,_=> .bad .NoRound
 | .back n x=>if cy n=false then .bad .BadName else match cC R x with
  | some a=>jS R T n (bk p a)
  | none=> .bad .NoRound
 | .times n x k=>if cy n=false then .bad .BadName else match cC R x with
  | some a=>jS R T n (Ja p a k)
  | none=> .bad .NoRound
 | .drop n=>match cC R n with
  | none=> .bad .NoRound
  | some _=>if s_ T n=true then .bad .InUse else .ok (ot R n)
structure Nm (n:Str):Prop where
 as:gZ n
 len:n.length<=100
def Hu:d3 ->Prop
 | .tell n ds=>c8 (Nm n) (ds.length<=50) (∀d∈ds,d.1.length<=100)
 | .join n x y=>c8 (Nm n) (Nm x) (Nm y)
 | .back n x=>Nm n /\ Nm x
 | .times n x k=>fA (Nm n) (Nm x) (-100<=k) (k<=100)
 | .drop n=>Nm n
structure OV (p:Int)(R:Rm)(T:Tm)(pa:List Addr):Prop where
 p4:p=2 \/ p=3 \/ p=5 \/ p=7
 pa:pa.length<=900
 r:qh p R
 t:T.length<=900
def sY (B C:fY)(M:Mp)(b la lh:fY)(p:Int)(now:fY)(pa he:cH fY)(R:Rm)(T:Tm)(q:WK):Prop:=∀M' eU pg,Bk B C M' b la eU lh p pg (pa++ [now]) [] he R T ->z3 b la M M' ->M eU=none ->M pg=none ->q wn M'
def Wd (B C:fY)(vY:Rf ->fY)(f:cH W ->Mp ->d3 ->Prop):fo:=λxs M q e=>sW λ(b la lu lh now:fY)=>gc λ(p:Int) (pa un he:cH fY)=>gc λ(R:Rm) (T:Tm) (dd:d3) (ys:cH W)=>Lj (xs=wr b::ys) (f ys M dd) (Hu dd) (Bk B C M b la lu lh p now pa un he R T) (OV p R T pa) (∀R',cJ p R T dd= .ok R' ->sY B C M b la lh p now pa he R' T q) (∀r,cJ p R T dd= .bad r ->e (vY r) M)
def yS {vY:Rf ->fY}(hB:Bk B C M b la lu lh p now pa un he R T)(hS:OV p R T pa)(hl:a.2.length<=1000000)(ho:O=jS R T n a)(kq: ∀R',O= .ok R' ->sY B C M b la lh p now pa he R' T q)(ke: ∀r,O= .bad r ->up e (vY r) M)(hX:X=vY .TooFar:=by rfl):Gj B C X [wr b,ws n,gI a] M (λ_ M1=> ∃M0,Sm M0 M1 /\ q wn M0) (up e):=by have h1:=hS.pa;have h2:=hS.r.len;have h3:=hS.t;exact#[b,la,lu,lh,now,p,pa,un,he,R,T,n,a,rfl,hB,by omega,h2,by omega,hl,λhb M' eU pg B' F hu hp=>ed (kq _ (by rw[ho,jS,ak (by rw[hb];decide)]) M' eU pg B' F hu hp),λhb=> ?_];rw[hX];show ke .TooFar (by rw[ho,jS,ao hb])
def XF (ys:cH W)(M:Mp)(dd:d3):Prop:=eZ λ(n:Str) (a:fY) (ds:cH (Str×Int))=>c8 (ys= [ws n,wr a]) (dd= .tell n ds) (M a=some (.lst (ds.map f_)))
def XG (ys:cH W)(_:Mp)(dd:d3):Prop:=eZ λ(n x y:Str)=>ys= [ws n,ws x,ws y] /\ dd= .join n x y
def XI (ys:cH W)(_:Mp)(dd:d3):Prop:=cx λ(n x:Str)=>ys= [ws n,ws x] /\ dd= .back n x
def Tn (ys:cH W)(_:Mp)(dd:d3):Prop:=eZ λ(n x:Str) (k:Int)=>ys= [ws n,ws x,wi k] /\ dd= .times n x k
def XH (ys:cH W)(_:Mp)(dd:d3):Prop:= ∃n:Str,ys= [ws n] /\ dd= .drop n
def Jr (B C X:fY):fo:=λxs M q e=>sW λ(b la lu lh now:fY)=>gc λ(p:Int) (pa un he:cH fY)=>eZ λ(R:Rm) (T:Tm) (n:Str)=>gy (xs= [wr b,ws n]) (Bk B C M b la lu lh p now pa un he R T) (n.length<=100) (∀a,cC R n=some a ->q (gI a) M) (cC R n=none ->e X M)
def MZ (B C:fY):fq:=λxs M q=>sW λ(b la lu lh now:fY)=>gc λ(p:Int) (pa un he:cH fY)=>cx λ(R:Rm) (T:Tm)=>fA (xs= [wr b]) (Bk B C M b la lu lh p now pa un he R T) (R.length<=1000) (∀ (u:fY) (ns:cH Str),M u=none ->ns.Perm (R.map (·.1)) ->ns.Pairwise (λx y=>¬y.cps.toList<x.cps.toList) ->q (wr u) (um M u (.lst (ns.map ws))))
def Nc (B C:fY):fq:=λxs M q=>sW λ(b la lu lh now:fY)=>gc λ(p:Int) (pa un he:cH fY)=>cx λ(R:Rm) (T:Tm)=>fA (xs= [wr b]) (Bk B C M b la lu lh p now pa un he R T) (T.length<=1000) (∀ (u:fY) (ns:cH Str),M u=none ->ns.Perm (T.map (·.1)) ->ns.Pairwise (λx y=>¬y.cps.toList<x.cps.toList) ->q (wr u) (um M u (.lst (ns.map ws))))
theorem Qs {a n:Str}(h:a.length<=100)(hn:n.length<=100):(a++n).length<=sizeLine:=bj (by rw[bE];omega)
theorem Qr {a n c:Str}(h:a.length<=100)(hn:n.length<=100)(hc:c.length<=100):(a++n++c).length<=sizeLine:=bj (by rw[bE,bE];omega)
theorem ZI {a n c d:Str}(h:a.length<=100)(hn:n.length<=100)(hc:c.length<=100)(hd:d.length<=100):(a++n++c++d).length<=sizeLine:=bj (by rw[bE,bE,bE];omega)
theorem Ay {lo hi:Int}: ∀ {l:Pt} {a:Int},l.Pairwise (λx y=>x.1<y.1) ->(∀z∈l,a<=z.1 /\ z.1<=hi) ->a<=hi+1 ->(l.length:Int) <=hi+1 - a
 | [],a,_,_,h=>by simp;omega
 | z::l,a,hp,hb,h=>by have h0:=hb z (by simp);have:=Ay (lo:=lo) (hi:=hi) (l:=l) (a:=z.1+1) (cc.mp hp).2 (λy hy=>#[by have:=(cc.mp hp).1 y hy;omega,(hb y (by simp[hy])).2]) (by omega);rw[aC];push_cast;omega
def Ob (h:gx a 200 200=false)(hp:dZ p a.2):a.2.length<=401:=by unfold gx at h;rw[Bool.not_eq_false',cG,List.all_eq_true] at h;have:=Ay (lo:=0) (hi:=200) (a:= -200) hp.2 (λz hz=>by have:=bt (h.2 z hz);split at this<;>omega) ⋯;omega
def qh.put (h:qh p R)(hl:R.length<1000)(ha:dZ p a.2)(hb:dz T n a=false):qh p (hU R n a):=by
 have hf:gx a 200 200=false:=by unfold dz at hb;rw[Bool.or_eq_false_iff] at hb;show hb.1
 show#[Je h.nd,ar (mX _ _ _) hl,λz hz=>(o_ hz).elim (h.ok z) λe=>by rw[e];show#[ha,Ob hf ha,hf]]
theorem qh.del (h:qh p R):qh p (ot R n):=#[KQ h.nd,ar (uz _ _) h.len,λz hz=>h.ok z (p6 hz)]
def mR:gZ x↔ ∀c∈x.cps.toList,c<128:=by unfold gZ;rw[<- Array.all_toList,List.all_eq_true];simp![dB]
def Nm.app (hx:gZ x)(hy:gZ y):gZ (x++y):=by rw[mR] at*;intro c hc;rw[gL] at hc;show(be.mp hc).elim (hx c) (hy c)
def BL (hx:gZ x):gZ (Txt.slice x lo hi):=by unfold Txt.slice;split;show hx;rw[mR] at*;intro c hc;rw[List.mem_filterMap] at hc;let⟨i,_,hi⟩:=hc;show hx c (Array.mem_toList_iff.mpr (Array.mem_of_getElem? hi))
def Lg (hx:gZ x):gZ (iK x n):=by
 unfold iK;split;decide+kernel;split;show hx;rw [mR] at*;have: ∀ (n:Nat) (a:gP Nat),(∀c∈a.toList,c<128) -> ∀c∈((List.replicate n x.cps).foldl (· ++ ·) a).toList,c<128:=by
  intro n;induction n with
  | zero=>intro a ha c hc;show ha c hc
  | succ n ih=>intro a ha c hc;rw[List.replicate_succ,List.foldl_cons] at hc;exact ih (a++x.cps) (λc hc=> ?_) c hc;rw[bW] at hc;show(be.mp hc).elim (ha c) (hx c)
 show this n #[] (by simp)
def FW:(iK x n).length<=n*x.length:=by unfold iK;split;change 0<=_;omega;split;rename_i h0 h;obtain h | h:=h;subst h;omega;rw[h];omega;rw[Em];show aq _
def Lh (h0:gZ jC)(h: ∀x∈ss,gZ x):gZ (Builtin.Str.glued jC ss):=by
 cases ss with
 | nil=>rw[xN];decide+kernel
 | cons x ss=>rw[mR];intro c hc;rw[nc,be] at hc;obtain hc | hc:=hc;show mR.mp (h x (by simp)) c hc;let⟨l,hl,hc⟩:=List.mem_flatten.mp hc;let⟨y,hy,rfl⟩:=b_.mp hl;obtain hc | hc:=be.mp hc;show mR.mp h0 c hc;show mR.mp (h y (by simp[hy])) c hc
def JQ (h0:0<=i)(h1:i<26): ∃c,gY zZ.cps.toList i=some c /\ gZ ⟨#[c]⟩:=by
 have hl:zZ.cps.toList.length=26:=by decide+kernel
 have hj:i.toNat<zZ.cps.toList.length:=by omega
 have ha: ∀c∈zZ.cps.toList,c<128:=by decide+kernel
 exact#[zZ.cps.toList[i.toNat],gl h0 (aQ hj),mR.mpr λc hc=> ?_];have e:c=zZ.cps.toList[i.toNat]:= ⇑hc;rw[e];show ha _ (List.getElem_mem _)
def MY:fq:=λxs M q=>eZ λ(d l:fY) (m:Int)=>gy (xs= [wr d,wi m]) (Dr M d l) (0<=m) (m<=20) (∀ (u:fY) (ns:cH Str) (M':Mp),M' u=some (.lst (ns.map ws)) ->(ns.length:Int)=m ->(∀n∈ns,Nm n) ->u≠d ->u≠l ->Dr M' d l ->q (wr u) M')
end WQ
namespace WL
open PySem L2
section
variable {K:WW}
def HW:WM:=λx ys M q=>cx λa l=>fA (x=wr a) (ys= []) (M a=some (.lst l)) (q wn (um M a (.lst [])))
instance:IM K Jd HW where
 imp:=by
  rintro x v ys us M H q Q m r1 r2 ⟨a,l,rfl,rfl,ha,h⟩ k;cases r1.eq;let⟨vs,hv,rr⟩:=m a _ ha;have e:us= []:=by simpa only[cP] using r2
  subst e;show#[a,vs,rfl,rfl,hv,k _ _ _ _ h (iJ hv) (m.putL hv cP.nil) WR.v]
def U':HW (.v (.ref a)) [] M q=lstK (M a) λ_=>q wn (um M a (.lst [])):=by apply propext;symm;rintro⟨_,l,h1,_,h2,k⟩;cases h1;show#[l,h2,k];rintro⟨l,h2,k⟩;show#[_,l,rfl,rfl,h2,k]
end
end WL
namespace WQ
open PySem L2 WL WP
def WZ (x:Str):Qf (.str x) [.str "go", .str "turn"]=(decide (x= "go") || decide (x= "turn")):=by
 change(Hy (.str "go") (.str x) || (Hy (.str "turn") (.str x) || false))=_;rw[Bool.or_false,Bool.eq_iff_iff,Bool.or_eq_true,Bool.or_eq_true,dB,dB];have e: ∀y:Str,Hy (.str y) (.str x)=true↔x=y:=λy=>by simp[Hy];show eq_comm
 rw[e,e]
theorem rG:Ol ws Dt.str:=λ_=>rfl
def Dh (l:cH Str):tY (.lst (l.map Dt.str)) <=50:=by
 have: ∀l:cH Str,km (l.map Dt.str) <=1:=λl=>by
  induction l with
  | nil=>simp[km]
  | cons x l ih=>simp[km,tY];omega
 have:=this l;simp![tY];omega
theorem yH (h:p xs M q λ_ _=>False):mP (VJ p) xs M q:=h
def mZ (P:W ->Prop)(h0:0<=y)(h1:y<xs.length)(hP: ∀x∈xs,P x)(hk: ∀x,P x ->k x):iV (gY xs y) k:=by
 have hj:y.toNat<xs.length:=by omega
 show#[xs[y.toNat],gl h0 (aQ hj),hk _ (hP _ (List.getElem_mem _))]
structure tZ (T:Tm):Prop where
 nd:(T.map (·.1)).Nodup
 len:T.length<=900
 key: ∀z∈T,z.1.length<=100
 mem: ∀z∈T,z.2.length<=100
def zt (h:(l.map (·.1)).Nodup){z:Str×α}(hz:z∈l):cC l z.1=some z.2:=by
 induction l with
 | nil=>cases hz
 | cons y l ih=>rw[aP,List.nodup_cons] at h;unfold cC;rw[cQ];obtain e | e:=aV.mp hz;subst e;simp;have l5:y.1≠z.1:=λe2=>h.1 (b_.mpr #[z,e,e2.symm]);rw[aG l5];show ih h.2 e
def IY (M:Mp)(h:fY):Mp:=λa=>if a=h then none else M a
theorem qG (n:a≠h):IY M h a=M a:=ak n
theorem MK {M M2:Mp}(s:Sm M M2):Sm (IY M h) (um M2 h o):=λa u e=>by by_cases n:a=h;subst n;unfold IY at e;rw[ao rfl] at e;cases e;rw[qG n] at e;rw[aR n];show s _ _ e
def Bk.IY {pa un he:cH fY}(hB:Bk B C M b la lu lh p now pa un he R T)(hh:M h=some (.lst l))(n1:la≠h)(n2:lu≠h)(n3:lh≠h):Bk B C (IY M h) b la lu lh p now pa un he R T:=by
 let⟨⟨dx,h1⟩,h2,h3,h4,h5,ly,r,t,h6,h7,h8⟩:=hB;have ni: ∀ {a:fY} {o:MO},M a=some o ->(∀l,o≠ .lst l) ->WQ.IY M h a=some o:=λ{a o} e n=>by rw[qG (λz=>by subst z;rw[e] at hh;cases hh;show n _ rfl)];show e
 show#[#[dx,ni h1 (λ_ z=>nomatch z)],by rw[qG n1];show h2,by rw[qG n2];show h3,by rw[qG n3];show h4,h5,ly,r,t,ni h6 (λ_ z=>nomatch z),ni h7 (λ_ z=>nomatch z),ni h8 (λ_ z=>nomatch z)]
theorem z3.IY {M M1 M':Mp}(F:z3 b la M1 M')(s:Sm M M1)(hh:M h=none):z3 b la M (IY M' h):=λa o e n1 n2=>by rw[qG (ca e hh)];show F a o (s a o e) n1 n2
def DV (M:Mp):d3 ->W ->Prop
 | .tell n ds,w=> ∃a:fY,w= .tup [ws "tell",ws n,wr a] /\ M a=some (.lst (ds.map f_))
 | .join n x y,w=>w= .tup [ws "join",ws n, .tup [ws x,ws y]]
 | .back n x,w=>w= .tup [ws "back",ws n, .tup [ws x],wi (-1)]
 | .times n x k,w=>w= .tup [ws "times",ws n, .tup [ws x],wi k]
 | .drop n,w=>w= .tup [ws "drop",ws n]
def DV.mv (h:DV M dd w)(f: ∀a l,M a=some (.lst l) ->(∃n,w= .tup [ws "tell",n,wr a]) ->M' a=some (.lst l)):DV M' dd w:=by
 cases dd with
 | tell n ds=>let⟨a,rfl,ha⟩:=h;show#[a,rfl,f a _ ha #[_,rfl]]
 | _=>show h
theorem DV.sm (h:DV M dd w)(s:Sm M M'):DV M' dd w:=h.mv λa l e _=>s a _ e
noncomputable def je (p:Int) (R:Rm):d3 ->fj Rd
 | .tell _ ds=>some ((fk ds).1,qQ p (fk ds).2)
 | .join _ x y=>match cC R x,cC R y with
  | some a,some b=>some (jn p a b)
  | _,_=>none
 | .back _ x=>(cC R x).map λa=>Ja p a (-1)
 | .times _ x k=>(cC R x).map λa=>Ja p a k
 | .drop _=>none
def gw:d3 ->Str
 | .tell n _=>n | .join n _ _=>n | .back n _=>n | .times n _ _=>n | .drop n=>n
def kdOf:d3 ->Str
 | .tell _ _=> "tell" | .join _ _ _=> "join" | .back _ _=> "back" | .times _ _ _=> "times" | .drop _=> "drop"
def Na:fq:=λxs M q=> ∃n:Str,c8 (xs= [ws n]) (Nm n) (q (wb (cy n)) M)
def V_:fq:=λxs M q=>eZ λ(a:Rd) (m r:Int)=>c8 (xs= [gI a,wi m,wi r]) (a.2.length<=1000000) (q (wb (gx a m r)) M)
def RM:fq:=λxs M q=>sW λ(p:Int) (r:fY) (R:Rm) (dd:d3) (w:W)=>BM (xs= [wi p,wr r,w]) (p=2 \/ p=3 \/ p=5 \/ p=7) (M r=some (.dK (xx R))) (qh p R) (DV M dd w) (Hu dd) ((je p R dd).isSome=true) (∀a,je p R dd=some a ->dZ p a.2 ->a.2.length<=1000000 ->q (gI a) M)
def Wa:fq:=λxs M q=>ZP λ(p:Int) (r t:fY) (R:Rm) (T:Tm) (dd:d3) (w:W)=>BM (xs= [wi p, .tup [wr r,wr t],w]) (p=2 \/ p=3 \/ p=5 \/ p=7) (M r=some (.dK (xx R)) /\ M t=some (.dK (qq T))) (qh p R /\ tZ T) (DV M dd w) (Hu dd) (∀R',cJ p R T dd= .ok R' ->qh p R /\ (R.length<1000 ->qh p R') -> ∀r' M',Sm M M' ->M r'=none ->M' r'=some (.dK (xx R')) ->q (.tup [ws "", .tup [wr r',wr t]]) M') (∀f,cJ p R T dd= .bad f ->q (.tup [ws (CB f), .tup [wr r,wr t]]) M)
def EI (h:cy (gw dd)=false)(hd: ∀n,dd≠ .drop n):cJ p R T dd= .bad .BadName:=by
 cases dd with
 | drop n=>show absurd rfl (hd n)
 | _=>rw[cJ];show ao h
def JC (p0:0<p)(h:cy (gw dd)=true)(hg: ∀n ds,dd= .tell n ds ->jy ds=true)(hv:je p R dd=some a):cJ p R T dd=jS R T (gw dd) a:=by
 have hn:¬cy (gw dd)=false:=by rw[h];decide
 cases dd with
 | tell n ds=>replace hn:¬cy n=false:=hn;rw[cJ,ak hn,ak (by rw[hg n ds rfl];decide)];cases hv;rfl
 | join n x y=>
  replace hn:¬cy n=false:=hn;rw[cJ,ak hn];rw[je] at hv;cases hx:cC R x with
  | none=>rw[hx] at hv;cases hv
  | some a1=>
   cases hy:cC R y with
   | none=>rw[hx,hy] at hv;cases hv
   | some a2=>rw[hx,hy] at hv;cases hv;rfl
 | back n x=>
  replace hn:¬cy n=false:=hn;rw[cJ,ak hn];rw[je] at hv;cases hx:cC R x with
  | none=>rw[hx] at hv;cases hv
  | some a1=>rw[hx] at hv;cases hv;change jS R T n (bk p a1)=jS R T n (Ja p a1 (-1));rw[En p0 (Rz p0)]
 | times n x k=>
  replace hn:¬cy n=false:=hn;rw[cJ,ak hn];rw[je] at hv;cases hx:cC R x with
  | none=>rw[hx] at hv;cases hv
  | some a1=>rw[hx] at hv;cases hv;rfl
 | drop n=>cases hv
def Od (la:fY)(w:W):Prop:= ∀n,w≠ .tup [ws "tell",n,wr la]
def EE (B C:fY):fq:=λxs M q=>ZP λ(b la lu lh now r t:fY)=>gc λ(p:Int) (pa un he:cH fY)=>cx λ(R:Rm) (T:Tm)=>lz (xs= [wi p,wr b, .tup [wr r,wr t]]) (Bk B C M b la lu lh p now pa un he R T) (M r=some (.dK (xx R)) /\ M t=some (.dK (qq T))) (qh p R) (tZ T /\ ∀z∈R,z.1.length<=100) (q (wb true) M)
def Nb:fq:=λxs M q=>cx λ(d l:fY)=>c8 (xs= [wr d]) (Dr M d l) (∀ (u:fY) (ds:cH (Str×Int)) (M':Mp),M u=none ->M' u=some (.lst (ds.map f_)) ->ds.length<=50 ->(∀z∈ds,z.1.length<=100) ->Dr M' d l ->Fs d M M' ->q (wr u) M')
def yX:fq:=λxs M q=>gc λ(d l nl:fY) (ns:cH Str)=>Lj (xs= [wr d,wr nl]) (Dr M d l) (M nl=some (.lst (ns.map ws))) (nl≠d) (0<ns.length /\ ns.length<=100) (∀n∈ns,Nm n) (∀ (n:Str) (M':Mp),Nm n ->Dr M' d l ->NB d M M' ->q (ws n) M')
def RP:fq:=λxs M q=>gc λ(d l nl:fY) (ns:cH Str)=>Lj (xs= [wr d,wr nl]) (Dr M d l) (M nl=some (.lst (ns.map ws))) (nl≠d) (0<ns.length /\ ns.length<=100) (∀n∈ns,Nm n) (∀ (dd:d3) (w:W) (M':Mp),DV M' dd w ->Hu dd ->(∀a n,w= .tup [ws "tell",n,wr a] ->M a=none) ->Dr M' d l ->Fs d M M' ->q w M')
def V4 (B C X:fY):fo:=λxs M q e=>sW λ(b la lu lh now:fY)=>gc λ(p:Int) (pa un he:cH fY)=>eZ λ(R:Rm) (T:Tm) (n:Str)=>gy (xs= [wr b,ws n]) (Bk B C M b la lu lh p now pa un he R T) (n.length<=100) (∀a,cC T n=some a ->q (fB a) M) (cC T n=none ->e X M)
def Ju (B C X:fY):fo:=λxs M q e=>sW λ(b la lu lh now:fY)=>gc λ(p:Int) (pa un he:cH fY)=>eZ λ(R:Rm) (T:Tm) (n:Str)=>gy (xs= [wr b,ws n]) (Bk B C M b la lu lh p now pa un he R T) (n.length<=100) (∀a,cC T n=some a -> ∀u,M u=none ->q (wr u) (um M u (.lst (a.map ws)))) (cC T n=none ->e X M)
def yZ (h:jS R T n a= .ok R'):R'=hU R n a:=by unfold jS at h;split at h;cases h;cases h;rfl
def Wl (h:cJ p R T dd= .ok R'):(∃a,R'=hU R (gw dd) a /\ cy (gw dd)=true) \/ R'=ot R (gw dd):=by
 cases dd<;>rw[cJ] at h;case drop n=>
  repeat' split at h
  all_goals first
  | (cases h;done)
  | (cases h;show .inr rfl)
 all_goals
  repeat' split at h
  all_goals first
  | (cases h;done)
  | (rename_i h1 _;exact .inl #[_,yZ h,?_];show(Bool.not_eq_false _).mp h1)
  | (rename_i h1 _ _ _;exact .inl #[_,yZ h,?_];show(Bool.not_eq_false _).mp h1)
  | (rename_i h1 _ _ _ _ _ _;exact .inl #[_,yZ h,?_];show(Bool.not_eq_false _).mp h1)
def JK (h:cy n=true):n.length<=100:=by unfold cy at h;rw[cG,cG] at h;have:=bt h.1.2;omega
def Np (h:cJ p R T dd= .ok R')(hk: ∀z∈R,z.1.length<=100):(∀z∈R',z.1.length<=100) /\ R'.length<=R.length+1:=by
 rcases Wl h with⟨a,rfl,hn⟩ | rfl
 show#[λz hz=>(o_ hz).elim (hk z) λe=>by rw[e];show JK hn,mX _ _ _];show#[λz hz=>hk z (p6 hz),ar (uz _ _) (by omega)]
def DV.head (h:DV M dd w): ∃cX,w= .tup (ws (kdOf dd)::cX):=by
 cases dd with
 | tell n ds=>let⟨a,rfl,_⟩:=h;show#[_,rfl]
 | _=>cases h;show#[_,rfl]
def Bk.fs {pa un he:cH fY}(hB:Bk B C M b la lu lh p now pa un he R T)(F:Fs d M M')(hd:M d=some (.lst x))(n1:la≠d)(n2:lu≠d)(n3:lh≠d):Bk B C M' b la lu lh p now pa un he R T:=by let⟨⟨dx,h1⟩,h2,h3,h4,h5,ly,r,t,h6,h7,h8⟩:=hB;have ni: ∀ {a:fY} {o:MO},M a=some o ->(∀l,o≠ .lst l) ->M' a=some o:=λ{a o} e n=>F a o e (λz=>by subst z;rw[e] at hd;cases hd;show n _ rfl);show#[#[dx,ni h1 (λ_ z=>nomatch z)],F _ _ h2 n1,F _ _ h3 n2,F _ _ h4 n3,h5,ly,r,t,ni h6 (λ_ z=>nomatch z),ni h7 (λ_ z=>nomatch z),ni h8 (λ_ z=>nomatch z)]
theorem Fs.Hz (F:Fs d M M')(hd:M d=some (.lst x))(h:M r=some (.dK kvs)):M' r=some (.dK kvs):=F _ _ h λz=>by subst z;rw[hd] at h;cases h
def KO (h:Dr M d l)(s:Sm M M'):Dr M' d l:=by let⟨ns,i,c,sd,h1,h2,h3,h4⟩:=h;show#[ns,i,c,sd,s _ _ h1,s _ _ h2,h3,h4]
def Fo (h:Dr M d l): ∃x,M d=some (.lst x):=by let⟨ns,i,c,sd,h1,h2,h3,h4⟩:=h;show#[_,h1]
def IZ (f:Rf):CB f≠ "" :=by cases f<;>decide+kernel
end WQ
namespace L2
open PySem
def Ip (td ty:TE):TE:=Ir td ty
theorem Jl (hu:X.A.units+1<cLine)(ho:PE X o td)(hi:PE X i ty)(hs:TK i):PE X (.Subscript o i pos) (Ip td ty):=eT hu ho hi hs
end L2
namespace WL
open PySem L2
section
variable {K:WW}
def Oh (o:fj MO)(k:cH (cf×W) ->Prop):Prop:= ∃l,(o=some (.dK l) \/ cx λb ks=>o=some (.fz b ks l)) /\ k l
def HR (a b:WE):WE:=λρ M q=>a ρ M λx M1=>b ρ M1 λy M2=>eB x λp=>i_ y λk=>Oh (M2 p) λkvs=>iV (e9 kvs k) λz=>q z M2
instance {t u:TE}{a b:WE} [ia:IE K t a] [ib:IE K u b]:IE K (Ip t u) (HR a b) where
 imp :=λρ M σ H q Q o h k=>ia.imp ρ M σ H _ _ o h λx M1 v H1 h1 t1 m1 r1=>ib.imp ρ M1 σ H1 _ _ (o.mv t1 m1) h1 λy M2 u H2 h2 t2 m2 r2=>by
  let⟨p,e1,ky,e3,kvs,e2,z,e4,h2⟩:=h2;subst e1 e3;have fin: ∀ks,KR K H2 kvs ks ->Rd H2 p (.dK ks) ->cx λa v=>c8 (V.ref p= .ref a) (nu H2 a (kV ky) (some v)) (Q v H2):=λks rr hk=>by
   rcases rr.val ky with⟨n1,_⟩ | ⟨x',v',n1,n2,rx⟩
   rw[n1] at e4;cases e4;rw[n1] at e4;cases e4;show#[p,v',rfl, .inl #[ks,ky,hk,rfl,n2.symm],k _ M2 _ H2 h2 (t1.trans t2) m2 rx]
  rw[jl r2,r1.eq];obtain e2 | ⟨ob,ks,e2⟩:=e2;let⟨ks,hk,rr⟩:=m2 p _ e2;show fin ks rr (.inl hk);let⟨hk,rr⟩:=m2 p _ e2;show fin ks rr (.inr #[ob,hk])
def ahB:Oh (some (.fz b ks l)) k=k l:=by unfold Oh;apply propext;symm;rintro⟨_,h | ⟨_,_,h⟩,k⟩;cases h;cases h;show k;intro h;show#[l, .inr #[b,ks,rfl],h]
theorem U7:HR a b ρ M q=a ρ M λx M1=>b ρ M1 λy M2=>eB x λp=>i_ y λk=>Oh (M2 p) λkvs=>iV (e9 kvs k) λz=>q z M2:=rfl
end
end WL
namespace WQ
open PySem L2 WL WP
inductive gp where
 | found (c:Str) | disband (c:Str) | enlist (c n:Str) | dismiss (c n:Str)
def cN (R:Rm)(T:Tm):gp ->Oc Tm
 | .found c=>if cy c=false then .bad .BadName else match cC T c with
  | some _=> .bad .Taken
  | none=> .ok (hU T c [])
 | .disband c=>match cC T c with
  | none=> .bad .NoCrew
  | some _=> .ok (ot T c)
 | .enlist c n=>match cC T c with
  | none=> .bad .NoCrew
  | some l=>match cC R n with
   | none=> .bad .NoRound
   | some a=>if sj n l=true then .bad .Taken else if 6<=l.length then .bad .TooMany else if gx a 8 24=true then .bad .TooFar else .ok (hU T c (l++ [n]))
 | .dismiss c n=>match cC T c with
  | none=> .bad .NoCrew
  | some l=>if sj n l=false then .bad .NoRound else .ok (hU T c (l.filter λm=>decide (m≠n)))
def B7:gp ->Prop
 | .found c=>Nm c
 | .disband c=>Nm c
 | .enlist c n=>Nm c /\ Nm n
 | .dismiss c n=>Nm c /\ Nm n
def Js (B C:fY):fq:=λxs M q=>sW λ(b la lu lh now:fY)=>gc λ(p:Int) (pa un he:cH fY)=>gc λ(R:Rm) (T:Tm) (c:Str) (l:cH Str)=>gy (xs= [wr b,ws c,fB l]) (Bk B C M b la lu lh p now pa un he R T) (pa.length<=900) (T.length<=900) (sY B C M b la lh p now pa he R (hU T c l) q)
def ur (B C:fY)(vY:Rf ->fY)(f:cH W ->gp ->Prop):fo:=λxs M q e=>sW λ(b la lu lh now:fY)=>gc λ(p:Int) (pa un he:cH fY)=>gc λ(R:Rm) (T:Tm) (dd:gp) (ys:cH W)=>BM (xs=wr b::ys) (f ys dd) (B7 dd) (Bk B C M b la lu lh p now pa un he R T) (OV p R T pa) (tZ T) (∀T',cN R T dd= .ok T' ->sY B C M b la lh p now pa he R T' q) (∀r,cN R T dd= .bad r ->e (vY r) M)
def To (ys:cH W)(dd:gp):Prop:= ∃c:Str,ys= [ws c] /\ dd= .found c
def KG (ys:cH W)(dd:gp):Prop:= ∃c:Str,ys= [ws c] /\ dd= .disband c
def Oe (ys:cH W)(dd:gp):Prop:=cx λ(c n:Str)=>ys= [ws c,ws n] /\ dd= .enlist c n
def KD (ys:cH W)(dd:gp):Prop:=cx λ(c n:Str)=>ys= [ws c,ws n] /\ dd= .dismiss c n
def UJ (b la lu:fY)(M M':Mp):Prop:= ∀a o,M a=some o ->a≠b ->a≠la ->a≠lu ->M' a=some o
def UJ.pg (F:UJ b la lu M M')(hb:M b=some (.ins B dx (eY p now la' eU lh)))(ha:M la=some (.lst l))(hu:M lu=some (.lst l2))(h:Pg C M a R T):Pg C M' a R T:=by
 have F2:z3 b la M (λx=>if x=lu then M x else M' x):=λx o e n1 n2=>by change(if x=lu then M x else M' x)=some o;split;show e;rename_i n3;show F x o e n1 n2 n3
 let⟨ly,r,t,h1,h2,h3⟩:=F2.pg hb ha h;have nl: ∀ {x:fY} {o:MO},(if x=lu then M x else M' x)=some o ->(∀l,o≠ .lst l) ->M' x=some o:=λ{x o} e n=>by split at e;rename_i z;rw[z,hu] at e;cases e;show absurd rfl (n _);show e
 show#[ly,r,t,nl h1 (λ_ z=>nomatch z),nl h2 (λ_ z=>nomatch z),nl h3 (λ_ z=>nomatch z)]
def Py (B C X:fY):fo:=λxs M q e=>sW λ(b la lu lh now:fY)=>gc λ(p:Int) (pa un he:cH fY)=>cx λ(R:Rm) (T:Tm)=>gy (xs= [wr b]) (Bk B C M b la lu lh p now pa un he R T) (un.length<=1000) (pa= [] ->e X M) (∀MW pg,pa=MW++ [pg] ->cx λR' T'=>Pg C M pg R' T' /\ ∀M',Bk B C M' b la lu lh p pg MW (un++ [now]) he R' T' ->UJ b la lu M M' ->q wn M')
def PF (B C X:fY):fo:=λxs M q e=>sW λ(b la lu lh now:fY)=>gc λ(p:Int) (pa un he:cH fY)=>cx λ(R:Rm) (T:Tm)=>gy (xs= [wr b]) (Bk B C M b la lu lh p now pa un he R T) (pa.length<=1000) (un= [] ->e X M) (∀Q3 pg,un=Q3++ [pg] ->cx λR' T'=>Pg C M pg R' T' /\ ∀M',Bk B C M' b la lu lh p pg (pa++ [now]) Q3 he R' T' ->UJ b la lu M M' ->q wn M')
def PH (B C:fY):fq:=λxs M q=>sW λ(b la lu lh now:fY)=>gc λ(p:Int) (pa un he:cH fY)=>cx λ(R:Rm) (T:Tm)=>fA (xs= [wr b]) (Bk B C M b la lu lh p now pa un he R T) (he.length<=1000) (∀M',Bk B C M' b la lu lh p now pa un (he++ [now]) R T ->z3 b lh M M' ->q (wi he.length) M')
inductive fR where
 | r (d:d3) | c (d:gp) | undo | redo | hold | ret (k:Int)
def vt:fR ->Prop
 | .r _=>True | .c _=>True | _=>False
structure gr where
 R:Rm
 T:Tm
 past:List (Addr×Rm×Tm)
 qA:List (Addr×Rm×Tm)
 held:List (Addr×Rm×Tm)
def zM (C:fY)(M:Mp)(l:cH (fY×Rm×Tm)):Prop:= ∀z∈l,Pg C M z.1 z.2.1 z.2.2
structure ud (B C:Addr)(M:Mp)(b la lu lh:Addr)(p:Int)(now:Addr)(S:gr):Prop where
 bk:Bk B C M b la lu lh p now (S.past.map (·.1)) (S.qA.map (·.1)) (S.held.map (·.1)) S.R S.T
 pp:zM C M S.past
 pu:zM C M S.qA
 ph:zM C M S.held
theorem zM.sm (h:zM C M l)(s:Sm M M'):zM C M' l:=λz hz=>(h z hz).sm s
theorem zM.snoc (h:zM C M l)(hz:Pg C M z.1 z.2.1 z.2.2):zM C M (l++ [z]):=λy hy=>(be.mp hy).elim (h y) λe=>by rw[bg.mp e];show hz
theorem ud.sm (h:ud B C M b la lu lh p now S)(s:Sm M M'):ud B C M' b la lu lh p now S:=#[h.bk.sm s,h.pp.sm s,h.pu.sm s,h.ph.sm s]
def HC (b la lu lh:fY)(M M':Mp):Prop:= ∀a o,M a=some o ->a≠b ->a≠la ->a≠lu ->a≠lh ->M' a=some o
def keep (s:gr)(now:fY):gr:= {s with past:=s.past++ [(now,s.R,s.T)],qA:= []}
noncomputable def zi (p:Int) (R:Rm) (T:Tm):fR ->Oc (Rm×Tm)
 | .r d=>match cJ p R T d with
  | .ok R'=> .ok (R',T)
  | .bad f=> .bad f
 | .c d=>match cN R T d with
  | .ok T'=> .ok (R,T')
  | .bad f=> .bad f
 | _=> .bad .NoMore
noncomputable def oA (p:Int) (now:fY) (S:gr):fR ->Oc (gr×W)
 | .undo=>match S.past.getLast? with
  | none=> .bad .NoMore
  | some z=> .ok (#[z.2.1,z.2.2,S.past.dropLast,S.qA++ [(now,S.R,S.T)],S.held],wn)
 | .redo=>match S.qA.getLast? with
  | none=> .bad .NoMore
  | some z=> .ok (#[z.2.1,z.2.2,S.past++ [(now,S.R,S.T)],S.qA.dropLast,S.held],wn)
 | .hold=> .ok ({S with held:=S.held++ [(now,S.R,S.T)]},wi S.held.length)
 | .ret k=>if 0<=k then match S.held[k.toNat]? with
   | none=> .bad .NoState
   | some z=> .ok (#[z.2.1,z.2.2,S.past++ [(now,S.R,S.T)],[],S.held],wn)
  else .bad .NoState
 | dd=>match zi p S.R S.T dd with
  | .ok z=> .ok (#[z.1,z.2,S.past++ [(now,S.R,S.T)],[],S.held],wn)
  | .bad f=> .bad f
theorem JE (h:vt dd):oA p now S dd=match zi p S.R S.T dd with
  | .ok z=> .ok (#[z.1,z.2,S.past++ [(now,S.R,S.T)],[],S.held],wn)
  | .bad f=> .bad f:=by
 cases dd with
 | r d=>rfl
 | c d=>rfl
 | _=>cases h
def DI (B C:fY)(M:Mp)(b la lu lh:fY)(p:Int)(S:gr)(q:WK)(v:W):Prop:= ∀M' eU Gy,ud B C M' b la eU lh p Gy S ->HC b la lu lh M M' ->(eU=lu \/ M eU=none) ->q v M'
theorem Li (hS:ud B C M b la lu lh p now S)(k:DI B C M b la lu lh p #[R',T',S.past++ [(now,S.R,S.T)],[],S.held] q wn):sY B C M b la lh p now (S.past.map (·.1)) (S.held.map (·.1)) R' T' q:=λM' eU pg B' F hu _=>by let⟨dx,hb⟩:=hS.bk.ob;have pm: ∀ {l},zM C M l ->zM C M' l:=λh z hz=>F.pg hb hS.bk.pa (h z hz);exact k M' eU pg #[?_,(pm hS.pp).snoc (F.pg hb hS.bk.pa hS.bk.pg),λz hz=>(by cases hz),pm hS.ph] (λa o h n1 n2 _ _=>F a o h n1 n2) (.inr hu);change Bk B C M' b la eU lh p pg ((S.past++ [(now,S.R,S.T)]).map (·.1)) [] (S.held.map (·.1)) R' T';rw[aB];show B'
def DA (M:Mp):fR ->W ->Prop
 | .r d,w=>DV M d w
 | .c (.found c),w=>w= .tup [ws "found",ws c]
 | .c (.disband c),w=>w= .tup [ws "disband",ws c]
 | .c (.enlist c n),w=>w= .tup [ws "enlist",ws c,ws n]
 | .c (.dismiss c n),w=>w= .tup [ws "dismiss",ws c,ws n]
 | .undo,w=>w= .tup [ws "undo"]
 | .redo,w=>w= .tup [ws "redo"]
 | .hold,w=>w= .tup [ws "hold"]
 | .ret k,w=>w= .tup [ws "return",wi k]
def DA.sm (h:DA M dd w)(s:Sm M M'):DA M' dd w:=by
 cases dd with
 | r d=>show DV.sm h s
 | c d=>cases d<;>show h
 | _=>show h
def UL:fR ->Prop
 | .r d=>Hu d
 | .c d=>B7 d
 | _=>True
structure nT (p:Int)(R:Rm)(T:Tm):Prop where
 r:qh p R
 t:tZ T
 k: ∀z∈R,z.1.length<=100
 m: ∀z∈T, ∀n∈z.2,n.length<=100
structure Ln (p:Int)(S:gr):Prop where
 p4:p=2 \/ p=3 \/ p=5 \/ p=7
 s:nT p S.R S.T
 pa:S.past.length<=900
 un:S.qA.length<=900
 he:S.held.length<=900
theorem Ln.bk (h:Ln p S):OV p S.R S.T (S.past.map (·.1)):=#[h.p4,by rw[af];show h.pa,h.s.r,h.s.t.len]
def V7 (ok:fR ->Prop)(B C:fY)(vY:Rf ->fY):fo:=λxs M q e=>UG λ(b la lu lh now:fY) (p:Int)=>eZ λ(S:gr) (dd:fR) (w:W)=>BM (xs= [wr b,w]) (DA M dd w /\ ok dd) (Od la w) (UL dd) (ud B C M b la lu lh p now S) (Ln p S) (∀S' v,oA p now S dd= .ok (S',v) ->DI B C M b la lu lh p S' q v) (∀r,oA p now S dd= .bad r ->e (vY r) M)
def RW (ok:fR ->Prop)(B C:fY):fq:=λxs M q=>UG λ(b la lu lh now:fY) (p:Int)=>eZ λ(S:gr) (dd:fR) (w:W)=>BM (xs= [wr b,w]) (DA M dd w /\ ok dd) (Od la w) (UL dd) (ud B C M b la lu lh p now S) (Ln p S) (∀S' v,oA p now S dd= .ok (S',v) ->DI B C M b la lu lh p S' (λv M'=>q (.tup [ws "",v]) M') v) (∀r,oA p now S dd= .bad r ->q (.tup [ws (CB r),wn]) M)
def n_ (R:Rm)(l:cH Str):gp ->Oc (cH Str)
 | .dismiss _ n=>if sj n l=false then .bad .NoRound else .ok (l.filter λm=>decide (m≠n))
 | .enlist _ n=>match cC R n with
  | none=> .bad .NoRound
  | some a=>if sj n l=true then .bad .Taken else if 6<=l.length then .bad .TooMany else if gx a 8 24=true then .bad .TooFar else .ok (l++ [n])
 | _=> .bad .NoMore
def Op:gp ->Str
 | .found c=>c | .disband c=>c | .enlist c _=>c | .dismiss c _=>c
def Kd:gp ->Prop
 | .enlist _ _=>True | .dismiss _ _=>True | _=>False
theorem BC {T:Tm}(h:Kd d)(hg:cC T (Op d)=some l):cN R T d=match n_ R l d with
  | .ok l'=> .ok (hU T (Op d) l')
  | .bad f=> .bad f:=by
 cases d with
 | found c=>cases h
 | disband c=>cases h
 | enlist c n=>
  rw[cN,n_];replace hg:cC T c=some l:=hg;rw[hg];dsimp only;cases cC R n with
  | none=>rfl
  | some a=>dsimp only;by_cases h1:sj n l=true;rw[ao h1,ao h1];rw[ak h1,ak h1];by_cases h2:6<=l.length;rw[ao h2,ao h2];rw[ak h2,ak h2];by_cases h3:gx a 8 24=true;rw[ao h3,ao h3];rw[ak h3,ak h3];rfl
 | dismiss c n=>rw[cN,n_];replace hg:cC T c=some l:=hg;rw[hg];dsimp only;by_cases h1:sj n l=false;rw[ao h1,ao h1];rw[ak h1,ak h1];rfl
def PK:fq:=λxs M q=>sW λ(r t:fY) (R:Rm) (T:Tm) (d:gp)=>cx λ(w:W) (l:cH Str)=>BM (xs= [.tup [wr r,wr t],w]) (M r=some (.dK (xx R)) /\ M t=some (.dK (qq T))) (Kd d /\ B7 d) (DA M (.c d) w) (cC T (Op d)=some l) (l.length<=100 /\ ∀z∈R,z.2.2.length<=1000) (∀l',n_ R l d= .ok l' ->q (.tup [ws "",fB l']) M) (∀f,n_ R l d= .bad f ->q (.tup [ws (CB f), .tup []]) M)
def Wb:fq:=λxs M q=>UG λ(r t:fY) (R:Rm) (T:Tm) (d:gp) (w:W)=>BM (xs= [.tup [wr r,wr t],w]) (M r=some (.dK (xx R)) /\ M t=some (.dK (qq T))) (B7 d) (DA M (.c d) w) (tZ T) (∀z∈R,z.2.2.length<=1000) (∀T',cN R T d= .ok T' -> ∀t' M',Sm M M' ->M' t'=some (.dK (qq T')) ->q (.tup [ws "", .tup [wr r,wr t']]) M') (∀f,cN R T d= .bad f ->q (.tup [ws (CB f), .tup [wr r,wr t]]) M)
def Wc:fq:=λxs M q=>ZP λ(p:Int) (r t:fY) (R:Rm) (T:Tm) (dd:fR) (w:W)=>BM (xs= [wi p, .tup [wr r,wr t],w]) (p=2 \/ p=3 \/ p=5 \/ p=7) (M r=some (.dK (xx R)) /\ M t=some (.dK (qq T))) (nT p R T) (DA M dd w /\ vt dd) (UL dd) (∀R' T',zi p R T dd= .ok (R',T') ->(R.length<1000 ->T.length<900 ->nT p R' T') ->(R'.length<=R.length+1 /\ T'.length<=T.length+1) -> ∀r' t' M',Sm M M' ->M' r'=some (.dK (xx R')) ->M' t'=some (.dK (qq T')) ->q (.tup [ws "", .tup [wr r',wr t']]) M') (∀f,zi p R T dd= .bad f ->q (.tup [ws (CB f), .tup [wr r,wr t]]) M)
def zw (h:tZ T)(hg:cC T c=some l):l.length<=100:=by let⟨z,hz,_,rfl⟩:=eA hg;show h.mem z hz
theorem tZ.put (h:tZ T)(hl:T.length<900)(hc:c.length<=100)(hm:l.length<=100):tZ (hU T c l):=#[Je h.nd,ar (mX _ _ _) hl,λz hz=>(o_ hz).elim (h.key z) λe=>by rw[e];show hc,λz hz=>(o_ hz).elim (h.mem z) λe=>by rw[e];show hm]
def Om (hd:B7 d)(h:tZ T)(ho:cN R T d= .ok T'):(T.length<900 ->tZ T') /\ T'.length<=T.length+1:=by
 cases d with
 | found c=>
  rw[cN] at ho;repeat' split at ho
  all_goals first
  | (cases ho;done)
  | (cases ho;show#[λhl=>h.put hl hd.len (by simp),mX _ _ _])
 | disband c=>rw[cN] at ho;split at ho;cases ho;cases ho;show#[λhl=>#[KQ h.nd,ar (uz _ _) h.len,λz hz=>h.key z (p6 hz),λz hz=>h.mem z (p6 hz)],ar (uz _ _) (by omega)]
 | enlist c n=>
  rw[cN] at ho;split at ho;cases ho;split at ho;cases ho;repeat' split at ho
  all_goals first
  | (cases ho;done)
  | (cases ho;show#[λhl=>h.put hl hd.1.len (by rw[aE];simp;omega),mX _ _ _])
 | dismiss c n=>rw[cN] at ho;split at ho;cases ho;rename_i l hg;split at ho;cases ho;cases ho;show#[λhl=>h.put hl hd.1.len (ar (List.length_filter_le _ _) (zw h hg)),mX _ _ _]
def Oo (hd:B7 d)(h: ∀z∈T, ∀n∈z.2,n.length<=100)(ho:cN R T d= .ok T'): ∀z∈T', ∀n∈z.2,n.length<=100:=by
 have pt: ∀ {c:Str} {l:cH Str},(∀n∈l,n.length<=100) -> ∀z∈hU T c l, ∀n∈z.2,n.length<=100:=λhl z hz=>(o_ hz).elim (h z) λe=>by rw[e];show hl
 have gt: ∀ {c:Str} {l:cH Str},cC T c=some l -> ∀n∈l,n.length<=100:=λhg=>by let⟨z,hz,_,rfl⟩:=eA hg;show h z hz
 cases d with
 | found c=>
  rw[cN] at ho;repeat' split at ho
  all_goals first
  | (cases ho;done)
  | (cases ho;show pt (by simp))
 | disband c=>rw[cN] at ho;split at ho;cases ho;cases ho;show λz hz=>h z (p6 hz)
 | enlist c n=>
  rw[cN] at ho;split at ho;cases ho;rename_i l hg;split at ho;cases ho;repeat' split at ho
  all_goals first
  | (cases ho;done)
  | (cases ho;show pt λy hy=>(be.mp hy).elim (gt hg y) λe=>by rw[bg.mp e];show hd.2.len)
 | dismiss c n=>rw[cN] at ho;split at ho;cases ho;rename_i l hg;split at ho;cases ho;cases ho;show pt λy hy=>gt hg y (List.mem_filter.mp hy).1
def RX:fq:=λxs M q=>gc λ(d l nl:fY) (ns:cH Str)=>Lj (xs= [wr d,wr nl]) (Dr M d l) (M nl=some (.lst (ns.map ws))) (nl≠d) (2<=ns.length /\ ns.length<=100) (∀n∈ns,Nm n) (∀ (dd:gp) (w:W) (M':Mp),DA M' (.c dd) w ->B7 dd ->Dr M' d l ->NB d M M' ->q w M')
def Pg.fs (h:Pg C M a R T)(F:Fs d M M')(hd:M d=some (.lst x)):Pg C M' a R T:=by let⟨ly,r,t,h6,h7,h8⟩:=h;have ni: ∀ {a:fY} {o:MO},M a=some o ->(∀l,o≠ .lst l) ->M' a=some o:=λ{a o} e n=>F a o e (λz=>by subst z;rw[e] at hd;cases hd;show n _ rfl);show#[ly,r,t,ni h6 (λ_ z=>nomatch z),ni h7 (λ_ z=>nomatch z),ni h8 (λ_ z=>nomatch z)]
structure Ap (x la lu lh:Addr):Prop where
 a:la≠x
 u:lu≠x
 h:lh≠x
theorem Ap.step {M:Mp}(h:Ap x la lu lh)(hx:M x=some o)(hu:eU=lu \/ M eU=none):Ap x la eU lh:=#[h.a,(by obtain rfl | hu:=hu;show h.u;show(ca hx hu).symm),h.h]
theorem Ap.new (h:ud B C M b la lu lh p now S)(hx:M x=none):Ap x la lu lh:=#[ca h.bk.pa hx,ca h.bk.un hx,ca h.bk.he hx]
theorem ud.fs (h:ud B C M b la lu lh p now S)(F:Fs d M M')(hd:M d=some (.lst x))(n:Ap d la lu lh):ud B C M' b la lu lh p now S:=#[h.bk.fs F hd n.a n.u n.h,λz hz=>(h.pp z hz).fs F hd,λz hz=>(h.pu z hz).fs F hd,λz hz=>(h.ph z hz).fs F hd]
def HC.lst {B C b la lu lh now x:fY}{M M':Mp}{p:Int}{S:gr}{l:cH W}(F:HC b la lu lh M M')(hB:ud B C M b la lu lh p now S)(h:M x=some (.lst l))(n:Ap x la lu lh):M' x=some (.lst l):=by let⟨dx,hb⟩:=hB.bk.ob;show F _ _ h (λz=>by subst z;rw[hb] at h;cases h) n.a.symm n.u.symm n.h.symm
def HC.Hz (F:HC b la lu lh M M')(hB:ud B C M b la lu lh p now S)(h:M x=some (.dK l)):M' x=some (.dK l):=by let⟨dx,hb⟩:=hB.bk.ob;show F _ _ h (λz=>by subst z;rw[hb] at h;cases h) (λz=>by subst z;rw[hB.bk.pa] at h;cases h) (λz=>by subst z;rw[hB.bk.un] at h;cases h) λz=>by subst z;rw[hB.bk.he] at h;cases h
def HC.dr (F:HC b la lu lh M M')(hB:ud B C M b la lu lh p now S)(h:Dr M d l)(n1:Ap d la lu lh)(n2:Ap l la lu lh):Dr M' d l:=by let⟨ns,i,c,sd,h1,h2,h3,h4⟩:=h;show#[ns,i,c,sd,F.lst hB h1 n1,F.lst hB h2 n2,h3,h4]
def XN (h:Dr M d l): ∃x,M l=some (.lst x):=by let⟨ns,i,c,sd,h1,h2,h3,h4⟩:=h;show#[_,h2]
def k_join_tell:decide (("join" :Str)= "tell")=false:=by decide+kernel
def k_back_tell:decide (("back" :Str)= "tell")=false:=by decide+kernel
def k_back_join:decide (("back" :Str)= "join")=false:=by decide+kernel
def k_times_tell:decide (("times" :Str)= "tell")=false:=by decide+kernel
def k_times_join:decide (("times" :Str)= "join")=false:=by decide+kernel
def k_times_back:decide (("times" :Str)= "back")=false:=by decide+kernel
def k_drop_tell:decide (("drop" :Str)= "tell")=false:=by decide+kernel
def k_drop_join:decide (("drop" :Str)= "join")=false:=by decide+kernel
def k_drop_back:decide (("drop" :Str)= "back")=false:=by decide+kernel
def k_drop_times:decide (("drop" :Str)= "times")=false:=by decide+kernel
def k_found_tell:decide (("found" :Str)= "tell")=false:=by decide+kernel
def k_found_join:decide (("found" :Str)= "join")=false:=by decide+kernel
def k_found_back:decide (("found" :Str)= "back")=false:=by decide+kernel
def k_found_times:decide (("found" :Str)= "times")=false:=by decide+kernel
def k_found_drop:decide (("found" :Str)= "drop")=false:=by decide+kernel
def k_disband_tell:decide (("disband" :Str)= "tell")=false:=by decide+kernel
def k_disband_join:decide (("disband" :Str)= "join")=false:=by decide+kernel
def k_disband_back:decide (("disband" :Str)= "back")=false:=by decide+kernel
def k_disband_times:decide (("disband" :Str)= "times")=false:=by decide+kernel
def k_disband_drop:decide (("disband" :Str)= "drop")=false:=by decide+kernel
def k_disband_found:decide (("disband" :Str)= "found")=false:=by decide+kernel
def k_enlist_tell:decide (("enlist" :Str)= "tell")=false:=by decide+kernel
def k_enlist_join:decide (("enlist" :Str)= "join")=false:=by decide+kernel
def k_enlist_back:decide (("enlist" :Str)= "back")=false:=by decide+kernel
def k_enlist_times:decide (("enlist" :Str)= "times")=false:=by decide+kernel
def k_enlist_drop:decide (("enlist" :Str)= "drop")=false:=by decide+kernel
def k_enlist_found:decide (("enlist" :Str)= "found")=false:=by decide+kernel
def k_enlist_disband:decide (("enlist" :Str)= "disband")=false:=by decide+kernel
def k_dismiss_tell:decide (("dismiss" :Str)= "tell")=false:=by decide+kernel
def k_dismiss_join:decide (("dismiss" :Str)= "join")=false:=by decide+kernel
def k_dismiss_back:decide (("dismiss" :Str)= "back")=false:=by decide+kernel
def k_dismiss_times:decide (("dismiss" :Str)= "times")=false:=by decide+kernel
def k_dismiss_drop:decide (("dismiss" :Str)= "drop")=false:=by decide+kernel
def k_dismiss_found:decide (("dismiss" :Str)= "found")=false:=by decide+kernel
def k_dismiss_disband:decide (("dismiss" :Str)= "disband")=false:=by decide+kernel
def k_dismiss_enlist:decide (("dismiss" :Str)= "enlist")=false:=by decide+kernel
def k_undo_tell:decide (("undo" :Str)= "tell")=false:=by decide+kernel
def k_undo_join:decide (("undo" :Str)= "join")=false:=by decide+kernel
def k_undo_back:decide (("undo" :Str)= "back")=false:=by decide+kernel
def k_undo_times:decide (("undo" :Str)= "times")=false:=by decide+kernel
def k_undo_drop:decide (("undo" :Str)= "drop")=false:=by decide+kernel
def k_undo_found:decide (("undo" :Str)= "found")=false:=by decide+kernel
def k_undo_disband:decide (("undo" :Str)= "disband")=false:=by decide+kernel
def k_undo_enlist:decide (("undo" :Str)= "enlist")=false:=by decide+kernel
def k_undo_dismiss:decide (("undo" :Str)= "dismiss")=false:=by decide+kernel
def k_redo_tell:decide (("redo" :Str)= "tell")=false:=by decide+kernel
def k_redo_join:decide (("redo" :Str)= "join")=false:=by decide+kernel
def k_redo_back:decide (("redo" :Str)= "back")=false:=by decide+kernel
def k_redo_times:decide (("redo" :Str)= "times")=false:=by decide+kernel
def k_redo_drop:decide (("redo" :Str)= "drop")=false:=by decide+kernel
def k_redo_found:decide (("redo" :Str)= "found")=false:=by decide+kernel
def k_redo_disband:decide (("redo" :Str)= "disband")=false:=by decide+kernel
def k_redo_enlist:decide (("redo" :Str)= "enlist")=false:=by decide+kernel
def k_redo_dismiss:decide (("redo" :Str)= "dismiss")=false:=by decide+kernel
def k_redo_undo:decide (("redo" :Str)= "undo")=false:=by decide+kernel
def k_hold_tell:decide (("hold" :Str)= "tell")=false:=by decide+kernel
def k_hold_join:decide (("hold" :Str)= "join")=false:=by decide+kernel
def k_hold_back:decide (("hold" :Str)= "back")=false:=by decide+kernel
def k_hold_times:decide (("hold" :Str)= "times")=false:=by decide+kernel
def k_hold_drop:decide (("hold" :Str)= "drop")=false:=by decide+kernel
def k_hold_found:decide (("hold" :Str)= "found")=false:=by decide+kernel
def k_hold_disband:decide (("hold" :Str)= "disband")=false:=by decide+kernel
def k_hold_enlist:decide (("hold" :Str)= "enlist")=false:=by decide+kernel
def k_hold_dismiss:decide (("hold" :Str)= "dismiss")=false:=by decide+kernel
def k_hold_undo:decide (("hold" :Str)= "undo")=false:=by decide+kernel
def k_hold_redo:decide (("hold" :Str)= "redo")=false:=by decide+kernel
def k_return_tell:decide (("return" :Str)= "tell")=false:=by decide+kernel
def k_return_join:decide (("return" :Str)= "join")=false:=by decide+kernel
def k_return_back:decide (("return" :Str)= "back")=false:=by decide+kernel
def k_return_times:decide (("return" :Str)= "times")=false:=by decide+kernel
def k_return_drop:decide (("return" :Str)= "drop")=false:=by decide+kernel
def k_return_found:decide (("return" :Str)= "found")=false:=by decide+kernel
def k_return_disband:decide (("return" :Str)= "disband")=false:=by decide+kernel
def k_return_enlist:decide (("return" :Str)= "enlist")=false:=by decide+kernel
def k_return_dismiss:decide (("return" :Str)= "dismiss")=false:=by decide+kernel
def k_return_undo:decide (("return" :Str)= "undo")=false:=by decide+kernel
def k_return_redo:decide (("return" :Str)= "redo")=false:=by decide+kernel
def k_return_hold:decide (("return" :Str)= "hold")=false:=by decide+kernel
def k_enlist_dismiss:decide (("enlist" :Str)= "dismiss")=false:=by decide+kernel
def at0 (hρ:ρ[i]? =some (some (.tup (ws k::l))))(h:q (wb (decide (k=s))) M):LM T_ (LM FO (fK i) (wC (W.v (V.int 0)))) (wC (W.v (V.str s))) ρ M q:=by
 unfold LM fK wC;rw[hρ];exact#[_,0,_,rfl,rfl,X0,_,_,rfl,rfl,rfl,?_];have e:decide (V.str k=V.str s)=decide (k=s):=by simp
 rw[e];show h
theorem fc {a cX:WS}(hρ:ρ[i]? =some (some (.tup (ws k::l))))(l5:decide (k=s)=false)(h:cX D ρ M):Gc (Rt (xh (LM T_ (LM FO (fK i) (wC (W.v (V.int 0)))) (wC (W.v (V.str s))))) a Ej) cX D ρ M:=at0 hρ #[false,by rw[l5],h]
theorem Hv {a cX:WS}(hρ:ρ[i]? =some (some (.tup (ws s::l))))(h:a {nx:=hold (cX D),rt:=D.rt,bk:=D.bk,ct:=D.ct} ρ M):Gc (Rt (xh (LM T_ (LM FO (fK i) (wC (W.v (V.int 0)))) (wC (W.v (V.str s))))) a Ej) cX D ρ M:=at0 hρ #[true,by rw[a8 rfl],h]
def jD:d3 ->cH Str
 | .join _ x y=> [x,y] | .back _ x=> [x] | .times _ x _=> [x] | _=> []
def Up:d3 ->Prop
 | .join _ _ _=>True | .back _ _=>True | .times _ _ _=>True | _=>False
def dvn (h:DV M dd w)(hn:Up dd): ∃tail,w= .tup (ws (kdOf dd)::ws (gw dd):: .tup ((jD dd).map ws)::tail):=by cases dd<;>first | cases hn;done | (cases h;show#[_,rfl])
def kdn (hn:Up dd):c8 (decide (kdOf dd= "drop")=false) (decide (kdOf dd= "tell")=false) (decide (kdOf dd≠ "tell")=true):=by
 have h: ∀k:Str,k= "join" \/ k= "back" \/ k= "times" ->c8 (decide (k= "drop")=false) (decide (k= "tell")=false) (decide (k≠ "tell")=true):=by rintro k (rfl | rfl | rfl) <;>show#[by decide+kernel,by decide+kernel,by decide+kernel]
 cases dd<;>first | cases hn;done | show h _ (.inl rfl) | show h _ (.inr (.inl rfl)) | show h _ (.inr (.inr rfl))
def nmn (hn:Up dd)(h:Hu dd):Nm (gw dd):=by cases dd<;>first | cases hn;done | show h.1
def Wm {R:Rm}(hn:Up dd)(jw:cy (gw dd)=true)(h:((jD dd).all λx=>(cC R x).isSome)=false):cJ p R T dd= .bad .NoRound:=by
 have A_:¬cy (gw dd)=false:=by rw[jw];decide
 cases dd with
 | join n x y=>
  replace A_:¬cy n=false:=A_;rw[cJ,ak A_];simp![jD,List.all_cons,List.all_nil,Bool.and_true] at h;cases hx:cC R x with
  | none=>rfl
  | some a=>
   cases hy:cC R y with
   | none=>rfl
   | some b=>rw[hx,hy] at h;cases h
 | back n x=>
  replace A_:¬cy n=false:=A_;rw[cJ,ak A_];simp![jD,List.all_cons,List.all_nil,Bool.and_true] at h;cases hx:cC R x with
  | none=>rfl
  | some a=>rw[hx] at h;cases h
 | times n x k=>
  replace A_:¬cy n=false:=A_;rw[cJ,ak A_];simp![jD,List.all_cons,List.all_nil,Bool.and_true] at h;cases hx:cC R x with
  | none=>rfl
  | some a=>rw[hx] at h;cases h
 | _=>cases hn
def Mv {R:Rm}(hn:Up dd)(h:((jD dd).all λx=>(cC R x).isSome)=true):(je p R dd).isSome=true:=by
 cases dd with
 | join n x y=>simp![jD,List.all_cons,List.all_nil,Bool.and_true,cG] at h;let⟨a,ha⟩:=Option.isSome_iff_exists.mp h.1;let⟨b,hb⟩:=Option.isSome_iff_exists.mp h.2;rw[je,ha,hb];rfl
 | back n x=>simp![jD,List.all_cons,List.all_nil,Bool.and_true] at h;rw[je,b8];show h
 | times n x k=>simp![jD,List.all_cons,List.all_nil,Bool.and_true] at h;rw[je,b8];show h
 | _=>cases hn
def QG (dd:d3):(jD dd).length<=2:=by cases dd<;>simp[jD]
end WQ
namespace L2
open PySem
theorem JN (h:X.K=K):HA X "str.join" (o9 K):=h▸kh
theorem RJ {T id:String}{dP dy:Pos}(hK:X.K=K)(pa:PlainAttrs T)(slot:Slot T name id)(W8:typeOf (.builtin id)=pure (.type "method_descriptor"))(hm:HA X id r)(ho:PE X o to)(ha:PA X (e::es) t)(vI:attributeBase o name X.env (eval o X.env)=eval o X.env:=by rfl)(Td:((backTo dy (starEach (e::es) X.env)).all (λx=> !x.1) && (backToKw dy (keywordEach [] X.env)).all (λx=>x.1.isSome) && decide ((e::es).length+([]:cH Keyword).length+(if([]:cH Keyword).isEmpty then 0 else 1) <30))=true:=by rfl)(vH:(dP.endLine==dy.line)=true:=by rfl)(hs:starEach (e::es) X.env=(false,eval e X.env)::starEach es X.env:=by rfl)(C7:(backTo dy (starEach es X.env)).any (·.1)=false:=by rfl): PE X (.Call (.Attribute o name dP) (e::es) [] dy) (YZ K T r to t):=hK▸eV pa slot W8 hm ho ha vI Td vH hs C7
end L2
namespace WQ
open PySem L2 WL WP
noncomputable def Rq (l:cH Str):cH Str:=Classical.epsilon λns:cH Str=>ns.Perm l /\ ns.Pairwise λx y=>¬y.cps.toList<x.cps.toList
def Iz (h1:ns.Perm l)(h2:ns.Pairwise λx y=>¬y.cps.toList<x.cps.toList):ns=Rq l:=by have:=Classical.epsilon_spec (p:=λns:cH Str=>ns.Perm l /\ ns.Pairwise λx y=>¬y.cps.toList<x.cps.toList) #[ns,h1,h2];show uQ h1 this.1 h2 this.2
def iz (R:Rm)(n:Str):Str:=match cC R n with
 | some a=> "round " ++n++ " " ++j8 a
 | none=> ""
def qF (T:Tm)(c:Str):Str:=match cC T c with
 | some l=>Builtin.Str.glued " " ("crew" ::c::l)
 | none=> ""
noncomputable def BF (p:Int) (R:Rm) (T:Tm):Str:=Builtin.Str.glued "\n" (("settings " ++Str.ofString (toString p))::((Rq (R.map (·.1))).map (iz R)++(Rq (T.map (·.1))).map (qF T)))
def xA (B C:fY):fq:=λxs M q=>sW λ(b la lu lh now:fY)=>gc λ(p:Int) (pa un he:cH fY)=>cx λ(R:Rm) (T:Tm)=>lz (xs= [wr b]) (Bk B C M b la lu lh p now pa un he R T) (p=2 \/ p=3 \/ p=5 \/ p=7) (nT p R T) (R.length<=100 /\ T.length<=100) (q (ws (BF p R T)) M)
def uY:fq:=λxs M q=>sW λ(p:Int) (r t:fY) (R:Rm) (T:Tm)=>lz (xs= [wi p, .tup [wr r,wr t]]) (M r=some (.dK (xx R)) /\ M t=some (.dK (qq T))) (p=2 \/ p=3 \/ p=5 \/ p=7) (nT p R T) (R.length<=100 /\ T.length<=100) (q (ws (BF p R T)) M)
def zj (hp:p<1000)(h:dZ p a.2)(hf:gx a 200 200=false):TJ a:=by
 unfold gx at hf;rw[Bool.not_eq_false',cG,List.all_eq_true] at hf;have h1:=bt hf.1;exact#[?_,λz hz=> ?_];split at h1<;>(have:a.1.natAbs<=200:=by omega) <;>omega;have h2:=bt (hf.2 z hz);have h3:=h.1 z hz;have:z.1.natAbs<=200:=by split at h2<;>omega
 have:z.2.natAbs<=1000:=by omega
 omega
def qD (h:TJ a)(hl:a.2.length<=401):(j8 a).length<=50000:=by
 unfold j8;rw[bE,bE];have l1:=fE h.1;have lc:(Str.ofString ":").length=1:=by decide+kernel
 have l0:(Str.ofString "").length=0:=by decide+kernel
 have lb:(Str.ofString " ").length=1:=by decide+kernel
 have dR: ∀x∈a.2.map (λz=>Str.ofString " " ++fZ z),x.length<=124:=λx hx=>by let⟨z,C3,rfl⟩:=b_.mp hx;have:=vm (h.2 z C3);rw[bE];omega
 have:=gj (Str.ofString "") _ dR;rw[af,l0] at this;omega
def IW (hp:p<1000)(h:qh p R)(hn:n.length<=100):(iz R n).length<=51000:=by
 unfold iz;split;rename_i a hg;let⟨z,hz,_,rfl⟩:=eA hg;have:=qD (zj hp (h.ok z hz).1 (h.ok z hz).2.2) (h.ok z hz).2.1;have l1:(Str.ofString "round ").length=6:=by decide+kernel
 have l2:(Str.ofString " ").length=1:=by decide+kernel
 rw[bE,bE,bE];omega;have:(Str.ofString "").length=0:=by decide+kernel
 omega
theorem yO {T:Tm}(hm: ∀z∈T, ∀n∈z.2,n.length<=100)(hc:c.length<=100)(hg:cC T c=some l): ∀x∈(Str.ofString "crew" ::c::l),x.length<=100:=λx hx=>by let⟨z,hz,_,rfl⟩:=eA hg;obtain rfl | hx:=aV.mp hx;decide+kernel;obtain rfl | hx:=aV.mp hx;show hc;show hm z hz x hx
def IX (h:tZ T)(hm: ∀z∈T, ∀n∈z.2,n.length<=100)(hc:c.length<=100):(qF T c).length<=51000:=by
 unfold qF;split;rename_i l hg;have h1:=gj (Str.ofString " ") _ (yO hm hc hg);have l2:(Str.ofString " ").length=1:=by decide+kernel
 have:=zw h hg;rw[aC,aC,l2] at h1;omega;have:(Str.ofString "").length=0:=by decide+kernel
 omega
theorem ku (h:n<=16000000):n<=sizeLine:=ar h (by rw[cY];decide)
def yh {ns cs:cH Str}(hp:p=2 \/ p=3 \/ p=5 \/ p=7)(hS:nT p R T)(hl:R.length<=100 /\ T.length<=100)(n1:ns.Perm (R.map (·.1)))(n2:ns.Pairwise λx y=>¬y.cps.toList<x.cps.toList)(c1:cs.Perm (T.map (·.1)))(c2:cs.Pairwise λx y=>¬y.cps.toList<x.cps.toList)(hb:M b=some (.lst ((ws ("settings " ++Str.ofString (toString p)))::(ns.map (λn=>ws (iz R n))++cs.map λc=>ws (qF T c)))))(k:q (ws (BF p R T)) M):HN (ws "\n") [wr b] M q:=by
 have l1:(Str.ofString "\n").length=1:=by decide+kernel
 have en:=n1.length_eq;have ec:=c1.length_eq;rw[af] at en ec;exact qX (ss:=("settings " ++Str.ofString (toString p))::(ns.map (iz R)++cs.map (qF T))) (c:=51000) (by rw[hb,aP,aB,a5,a5];rfl) (λx hx=> ?_) ?_ ?_;obtain rfl | hx:=aV.mp hx;have:=fE (i:=p) (by omega);have l2:(Str.ofString "settings ").length=9:=by decide+kernel
 rw[bE];omega;obtain hx | hx:=be.mp hx;let⟨n,hn,rfl⟩:=b_.mp hx;let⟨z,hz,rfl⟩:=b_.mp (n1.mem_iff.mp hn);show IW (by omega) hS.r (hS.k z hz);let⟨n,hn,rfl⟩:=b_.mp hx;let⟨z,hz,rfl⟩:=b_.mp (c1.mem_iff.mp hn);show IX hS.t hS.m (hS.t.key z hz);exact ku ?_;rw[aC,aE,af,af,l1];omega;rw[Iz n1 n2,Iz c1 c2];show k
def ix {α:Type}(l:cH α):l= [] \/ ∃l' z,l=l'++ [z]:=by obtain h | ⟨l',z,h⟩:=List.eq_nil_or_concat l;show .inl h;show .inr #[l',z,by rw[h,List.concat_eq_append]]
section
variable {B C X b la lu lh now:fY}{M:Mp}{p:Int}{S:gr}{q:WK}{e:WX}
def Mw (hS:ud B C M b la lu lh p now S)(hl:S.qA.length<=900)(ke:S.past= [] ->e X M)(kq: ∀z l,S.past=l++ [z] -> ∀M',ud B C M' b la lu lh p z.1 #[z.2.1,z.2.2,l,S.qA++ [(now,S.R,S.T)],S.held] ->HC b la lu lh M M' ->q wn M'):Py B C X [wr b] M q e:=by let⟨dx,hb⟩:=hS.bk.ob;exact#[b,la,lu,lh,now,p,_,_,_,_,_,rfl,hS.bk,by rw[af];omega,λh=>ke (List.map_eq_nil_iff.mp h),λMW pg h=> ?_];obtain h0 | ⟨l,z,h0⟩:=ix S.past;rw[h0] at h;simp at h;rw[h0,aB] at h;let⟨h1,h2⟩:=List.append_inj' h rfl;cases h2;exact#[z.2.1,z.2.2,hS.pp z (by rw[h0];simp),λM' B' F=> ?_];have pm: ∀ {l},zM C M l ->zM C M' l:=λh z hz=>F.pg hb hS.bk.pa hS.bk.un (h z hz);exact kq z l h0 M' #[?_,λy hy=>pm hS.pp y (by rw[h0];show List.mem_append_left _ hy),(pm hS.pu).snoc (F.pg hb hS.bk.pa hS.bk.un hS.bk.pg),pm hS.ph] λa o h n1 n2 n3 _=>F a o h n1 n2 n3;change Bk B C M' b la lu lh p z.1 (l.map (·.1)) ((S.qA++ [(now,S.R,S.T)]).map (·.1)) (S.held.map (·.1)) z.2.1 z.2.2;rw[aB,h1];show B'
def ML (hS:ud B C M b la lu lh p now S)(hl:S.past.length<=900)(ke:S.qA= [] ->e X M)(kq: ∀z l,S.qA=l++ [z] -> ∀M',ud B C M' b la lu lh p z.1 #[z.2.1,z.2.2,S.past++ [(now,S.R,S.T)],l,S.held] ->HC b la lu lh M M' ->q wn M'):PF B C X [wr b] M q e:=by let⟨dx,hb⟩:=hS.bk.ob;exact#[b,la,lu,lh,now,p,_,_,_,_,_,rfl,hS.bk,by rw[af];omega,λh=>ke (List.map_eq_nil_iff.mp h),λMW pg h=> ?_];obtain h0 | ⟨l,z,h0⟩:=ix S.qA;rw[h0] at h;simp at h;rw[h0,aB] at h;let⟨h1,h2⟩:=List.append_inj' h rfl;cases h2;exact#[z.2.1,z.2.2,hS.pu z (by rw[h0];simp),λM' B' F=> ?_];have pm: ∀ {l},zM C M l ->zM C M' l:=λh z hz=>F.pg hb hS.bk.pa hS.bk.un (h z hz);exact kq z l h0 M' #[?_,(pm hS.pp).snoc (F.pg hb hS.bk.pa hS.bk.un hS.bk.pg),λy hy=>pm hS.pu y (by rw[h0];show List.mem_append_left _ hy),pm hS.ph] λa o h n1 n2 n3 _=>F a o h n1 n2 n3;change Bk B C M' b la lu lh p z.1 ((S.past++ [(now,S.R,S.T)]).map (·.1)) (l.map (·.1)) (S.held.map (·.1)) z.2.1 z.2.2;rw[aB,h1];show B'
def NT (hS:ud B C M b la lu lh p now S)(hl:S.held.length<=900)(kq: ∀M',ud B C M' b la lu lh p now {S with held:=S.held++ [(now,S.R,S.T)]} ->HC b la lu lh M M' ->q (wi S.held.length) M'):PH B C [wr b] M q:=by let⟨dx,hb⟩:=hS.bk.ob;exact#[b,la,lu,lh,now,p,_,_,_,_,_,rfl,hS.bk,by rw[af];omega,λM' B' F=> ?_];rw[af];have pm: ∀ {l},zM C M l ->zM C M' l:=λh z hz=>F.pg hb hS.bk.he (h z hz);exact kq M' #[?_,pm hS.pp,pm hS.pu,(pm hS.ph).snoc (F.pg hb hS.bk.he hS.bk.pg)] λa o h n1 _ _ n2=>F a o h n1 n2;change Bk B C M' b la lu lh p now (S.past.map (·.1)) (S.qA.map (·.1)) ((S.held++ [(now,S.R,S.T)]).map (·.1)) S.R S.T;rw[aB];show B'
def V8 (B C X:fY):fo:=λxs M q e=>UG λ(b la lu lh now:fY) (k:Int)=>gc λ(p:Int) (pa un he:cH fY)=>cx λ(R:Rm) (T:Tm)=>Lj (xs= [wr b,wi k]) (Bk B C M b la lu lh p now pa un he R T) (pa.length<=1000) (he.length<=1000) (k.natAbs<10 ^ 60) (¬(0<=k /\ k<he.length) ->e X M) (∀pg,0<=k ->he[k.toNat]? =some pg ->cx λR' T'=>Pg C M pg R' T' /\ ∀M' eU,Bk B C M' b la eU lh p pg (pa++ [now]) [] he R' T' ->z3 b la M M' ->M eU=none ->q wn M')
def Rx {k:Int}(hS:ud B C M b la lu lh p now S)(hl:S.past.length<=900)(hh:S.held.length<=900)(hk:k.natAbs<10 ^ 60)(ke:¬(0<=k /\ k<S.held.length) ->e X M)(kq: ∀z,0<=k ->S.held[k.toNat]? =some z -> ∀M' eU,ud B C M' b la eU lh p z.1 #[z.2.1,z.2.2,S.past++ [(now,S.R,S.T)],[],S.held] ->HC b la lu lh M M' ->M eU=none ->q wn M'):V8 B C X [wr b,wi k] M q e:=by
 let⟨dx,hb⟩:=hS.bk.ob;exact#[b,la,lu,lh,now,k,p,_,_,_,_,_,rfl,hS.bk,by rw[af];omega,by rw[af];omega,hk,λh=>ke (by rw[af] at h;show h),λpg k0 h=> ?_];rw[aK] at h;cases hz:S.held[k.toNat]? with
 | none=>rw[hz] at h;cases h
 | some z=>rw[hz] at h;cases h;exact#[z.2.1,z.2.2,hS.ph z (aX hz),λM' eU B' F hu=> ?_];have pm: ∀ {l},zM C M l ->zM C M' l:=λh z hz=>F.pg hb hS.bk.pa (h z hz);exact kq z k0 hz M' eU #[?_,(pm hS.pp).snoc (F.pg hb hS.bk.pa hS.bk.pg),λz hz=>(by cases hz),pm hS.ph] (λa o h n1 n2 _ _=>F a o h n1 n2) hu;change Bk B C M' b la eU lh p z.1 ((S.past++ [(now,S.R,S.T)]).map (·.1)) [] (S.held.map (·.1)) z.2.1 z.2.2;rw[aB];show B'
end
structure He where
 R:Rm
 T:Tm
 past:List (Rm×Tm)
 qA:List (Rm×Tm)
 held:List (Rm×Tm)
def gr.pure (S:gr):He:=#[S.R,S.T,S.past.map (·.2),S.qA.map (·.2),S.held.map (·.2)]
noncomputable def oS (p:Int) (Z:He):fR ->Oc (He×W)
 | .undo=>match Z.past.getLast? with
  | none=> .bad .NoMore
  | some z=> .ok (#[z.1,z.2,Z.past.dropLast,Z.qA++ [(Z.R,Z.T)],Z.held],wn)
 | .redo=>match Z.qA.getLast? with
  | none=> .bad .NoMore
  | some z=> .ok (#[z.1,z.2,Z.past++ [(Z.R,Z.T)],Z.qA.dropLast,Z.held],wn)
 | .hold=> .ok ({Z with held:=Z.held++ [(Z.R,Z.T)]},wi Z.held.length)
 | .ret k=>if 0<=k then match Z.held[k.toNat]? with
   | none=> .bad .NoState
   | some z=> .ok (#[z.1,z.2,Z.past++ [(Z.R,Z.T)],[],Z.held],wn)
  else .bad .NoState
 | dd=>match zi p Z.R Z.T dd with
  | .ok z=> .ok (#[z.1,z.2,Z.past++ [(Z.R,Z.T)],[],Z.held],wn)
  | .bad f=> .bad f
def Oc.pu:Oc (gr×W) ->Oc (He×W)
 | .ok z=> .ok (z.1.pure,z.2)
 | .bad f=> .bad f
def Nq:oS p S.pure dd=(oA p now S dd).pu:=by
 have rc:vt dd ->oS p S.pure dd=(oA p now S dd).pu:=λh=>by
  rw[JE h];have e:oS p S.pure dd=match zi p S.R S.T dd with
  | .ok z=> .ok (#[z.1,z.2,S.pure.past++ [(S.R,S.T)],[],S.pure.held],wn)
  | .bad f=> .bad f:=by cases dd<;>first | rfl | cases h
  rw[e];cases zi p S.R S.T dd with
  | ok z=>simp[Oc.pu,gr.pure]
  | bad f=>rfl
 cases dd with
 | r d=>show rc trivial
 | c d=>show rc trivial
 | undo=>rw[oS,oA];obtain h | ⟨l,z,h⟩:=ix S.past;simp[gr.pure,h,Oc.pu];simp[gr.pure,h,Oc.pu]
 | redo=>rw[oS,oA];obtain h | ⟨l,z,h⟩:=ix S.qA;simp[gr.pure,h,Oc.pu];simp[gr.pure,h,Oc.pu]
 | hold=>rw[oS,oA];simp[gr.pure,Oc.pu]
 | ret k=>
  rw[oS,oA];split;cases h:S.held[k.toNat]? with
  | none=>simp[gr.pure,h,Oc.pu]
  | some z=>simp[gr.pure,h,Oc.pu]
  rfl
def AL:fR ->Prop
 | .ret k=>k.natAbs<1000
 | _=>True
def K3 (l:cH W)(x:W):Dj (l++ [x]) none (some (-1))=l:=by
 unfold Dj;have h1:HT.uj (l++ [x]).length 0 none=0:=rfl;have h2:HT.uj (l++ [x]).length (l++ [x]).length (some (-1))=l.length:=by unfold HT.uj;rw[aE,List.length_singleton];simp;try omega
 rw[h1,h2];simp
abbrev Lp:=cH ((fY×fY)×Rm×Tm)
def tq (z:(fY×fY)×Rm×Tm):W:= .tup [wr z.1.1,wr z.1.2]
def FJ (M:Mp)(a:fY)(l:cH (Rm×Tm)):Prop:= ∃lp:Lp,c8 (M a=some (.lst (lp.map tq))) (lp.map (·.2)=l) (∀z∈lp,M z.1.1=some (.dK (xx z.2.1)) /\ M z.1.2=some (.dK (qq z.2.2)))
structure TM (M:Mp)(r t sp sa sh:Addr)(Z:He):Prop where
 r:M r=some (.dK (xx Z.R))
 t:M t=some (.dK (qq Z.T))
 p:FJ M sp Z.past
 u:FJ M sa Z.qA
 h:FJ M sh Z.held
def FJ.sm (h:FJ M a l)(s:Sm M M'):FJ M' a l:=by let⟨lp,h1,h2,h3⟩:=h;show#[lp,s _ _ h1,h2,λz hz=>#[s _ _ (h3 z hz).1,s _ _ (h3 z hz).2]]
theorem TM.sm {r t sp sa sh:fY}(h:TM M r t sp sa sh Z)(s:Sm M M'):TM M' r t sp sa sh Z:=#[s _ _ h.r,s _ _ h.t,h.p.sm s,h.u.sm s,h.h.sm s]
def FJ.at (h:FJ M a l): ∃x,M a=some (.lst x):=by let⟨lp,h1,h2,h3⟩:=h;show#[_,h1]
def FJ.fs (h:FJ M a l)(F:Fs d M M')(hd:M d=some (.lst x))(n:a≠d):FJ M' a l:=by let⟨lp,h1,h2,h3⟩:=h;show#[lp,F _ _ h1 n,h2,λz hz=>#[F.Hz hd (h3 z hz).1,F.Hz hd (h3 z hz).2]]
def FJ.fr (h:FJ M a l)(F:HC b la lu lh M M')(hB:ud B C M b la lu lh p now S)(n:Ap a la lu lh):FJ M' a l:=by let⟨lp,h1,h2,h3⟩:=h;show#[lp,F.lst hB h1 n,h2,λz hz=>#[F.Hz hB (h3 z hz).1,F.Hz hB (h3 z hz).2]]
def eO (r t sp sa sh:fY):W:= .tup [.tup [wr r,wr t],wr sp,wr sa,wr sh]
structure X4 (p:Int)(Z:He):Prop where
 p4:p=2 \/ p=3 \/ p=5 \/ p=7
 s:nT p Z.R Z.T
 sz:Z.R.length<900 /\ Z.T.length<900
 pa:Z.past.length<=900
 un:Z.qA.length<=900
 he:Z.held.length<=900
def V6:fq:=λxs M q=>ZO λ(p:Int) (r t sp sa sh:fY) (Z:He) (dd:fR)=> ∃w:W,BM (xs= [wi p,eO r t sp sa sh,w]) (TM M r t sp sa sh Z) (X4 p Z) (DA M dd w) (AL dd) (UL dd) (∀Z' v,oS p Z dd= .ok (Z',v) ->(vt dd ->nT p Z'.R Z'.T /\ Z'.R.length<=Z.R.length+1 /\ Z'.T.length<=Z.T.length+1) -> ∀r' t' B8 LP LO M',Sm M M' ->TM M' r' t' B8 LP LO Z' ->(∀x,x=B8 \/ x=LP \/ x=LO ->x=sp \/ x=sa \/ x=sh \/ M x=none) ->q (.tup [.tup [ws "",v],eO r' t' B8 LP LO]) M') (∀f,oS p Z dd= .bad f ->q (.tup [.tup [ws (CB f),wn],eO r t sp sa sh]) M)
def aap:fq:=λxs M q=>gc λ(d l nl:fY) (ns:cH Str)=>Lj (xs= [wr d,wr nl]) (Dr M d l) (M nl=some (.lst (ns.map ws))) (nl≠d) (2<=ns.length /\ ns.length<=100) (∀n∈ns,Nm n) (∀ (dd:fR) (w:W) (M':Mp),DA M' dd w ->AL dd ->UL dd ->(∀a n,w= .tup [ws "tell",n,wr a] ->M a=none) ->Dr M' d l ->Fs d M M' ->q w M')
def MM (h:DA M dd w)(C4:vt dd):cx λ(k:Str) (cX:cH W)=>gy (w= .tup (ws k::cX)) (decide (k= "undo")=false) (decide (k= "redo")=false) (decide (k= "hold")=false) (decide (k= "return")=false):=by
 cases dd with
 | r d=>cases d with
  | tell n ds=>let⟨a,rfl,_⟩:=h;show#[_,_,rfl,by decide+kernel,by decide+kernel,by decide+kernel,by decide+kernel]
  | _=>cases h;show#[_,_,rfl,by decide+kernel,by decide+kernel,by decide+kernel,by decide+kernel]
 | c d=>cases d<;>cases h<;>show#[_,_,rfl,by decide+kernel,by decide+kernel,by decide+kernel,by decide+kernel]
 | _=>cases C4
theorem JD (h:vt dd):oS p Z dd=match zi p Z.R Z.T dd with
 | .ok z=> .ok (#[z.1,z.2,Z.past++ [(Z.R,Z.T)],[],Z.held],wn)
 | .bad f=> .bad f:=by cases dd<;>first | rfl | cases h
structure Gd (p:Int)(i:Nat)(z:Rm×Tm):Prop where
 s:nT p z.1 z.2
 r:z.1.length<=i
 t:z.2.length<=i
structure Cd (p:Int)(i:Nat)(Z:He):Prop where
 now:Gd p i (Z.R,Z.T)
 pa:Z.past.length<=i /\ ∀z∈Z.past,Gd p i z
 un:Z.qA.length<=i /\ ∀z∈Z.qA,Gd p i z
 he:Z.held.length<=i /\ ∀z∈Z.held,Gd p i z
theorem Gd.up (h:Gd p i z):Gd p (i+1) z:=#[h.s,Nat.le_succ_of_le h.r,Nat.le_succ_of_le h.t]
theorem pM {l:cH (Rm×Tm)}(h:l.length<=i /\ ∀z∈l,Gd p i z):l.length<=i+1 /\ ∀z∈l,Gd p (i+1) z:=#[Nat.le_succ_of_le h.1,λz hz=>(h.2 z hz).up]
theorem vK (h:l.length<=i /\ ∀z∈l,Gd p i z)(hy:Gd p i y):(l++ [y]).length<=i+1 /\ ∀z∈l++ [y],Gd p (i+1) z:=#[by rw[aE];simp;omega,λz hz=>(be.mp hz).elim (λe=>(h.2 z e).up) λe=>by rw[bg.mp e];show hy.up]
theorem Fd {l:cH (Rm×Tm)}(h:l.length<=i /\ ∀z∈l,Gd p i z):l.dropLast.length<=i+1 /\ ∀z∈l.dropLast,Gd p (i+1) z:=#[by rw[List.length_dropLast];omega,λz hz=>(h.2 z (List.dropLast_subset _ hz)).up]
theorem Cd.up (h:Cd p i Z):Cd p (i+1) Z:=#[h.now.up,pM h.pa,pM h.un,pM h.he]
def Cd.step (h:Cd p i Z)(ho:oS p Z dd= .ok (Z',v))(hr:vt dd ->nT p Z'.R Z'.T /\ Z'.R.length<=Z.R.length+1 /\ Z'.T.length<=Z.T.length+1):Cd p (i+1) Z' /\ (v=wn \/ ∃n:Nat,v=wi n):=by
 have rc:vt dd ->Cd p (i+1) Z' /\ (v=wn \/ ∃n:Nat,v=wi n):=λC4=>by
  have h1:=hr C4;rw[JD C4] at ho;cases hz:zi p Z.R Z.T dd with
  | bad f=>rw[hz] at ho;cases ho
  | ok z=>rw[hz] at ho;cases ho;have a1:=h.now.r;have a2:=h.now.t;show#[#[#[h1.1,ar h1.2.1 (Nat.succ_le_succ a1),ar h1.2.2 (Nat.succ_le_succ a2)],vK h.pa h.now,#[by simp,by simp],pM h.he], .inl rfl]
 cases dd with
 | r d=>show rc trivial
 | c d=>show rc trivial
 | undo=>
  rw[oS] at ho;cases hz:Z.past.getLast? with
  | none=>rw[hz] at ho;cases ho
  | some z=>rw[hz] at ho;cases ho;show#[#[(h.pa.2 z (List.mem_of_getLast? hz)).up,Fd h.pa,vK h.un h.now,pM h.he], .inl rfl]
 | redo=>
  rw[oS] at ho;cases hz:Z.qA.getLast? with
  | none=>rw[hz] at ho;cases ho
  | some z=>rw[hz] at ho;cases ho;show#[#[(h.un.2 z (List.mem_of_getLast? hz)).up,vK h.pa h.now,Fd h.un,pM h.he], .inl rfl]
 | hold=>cases ho;show#[#[h.now.up,pM h.pa,pM h.un,vK h.he h.now], .inr #[_,rfl]]
 | ret k=>
  rw[oS] at ho;split at ho;cases hz:Z.held[k.toNat]? with
  | none=>rw[hz] at ho;cases ho
  | some z=>rw[hz] at ho;cases ho;show#[#[(h.he.2 z (aX hz)).up,vK h.pa h.now,#[by simp,by simp],pM h.he], .inl rfl]
  cases ho
theorem Cd.ok (h:Cd p i Z)(hp:p=2 \/ p=3 \/ p=5 \/ p=7)(hi:i<=800):X4 p Z:=#[hp,h.now.s,#[by have:=h.now.r;dsimp only at this;omega,by have:=h.now.t;dsimp only at this;omega],by have:=h.pa.1;omega,by have:=h.un.1;omega,by have:=h.he.1;omega]
def Cd.sk (h:Cd p i S.pure)(hp:p=2 \/ p=3 \/ p=5 \/ p=7)(hi:i<=800):Ln p S:=by have h1:=h.pa.1;have h2:=h.un.1;have h3:=h.he.1;simp![gr.pure,af] at h1 h2 h3;show#[hp,h.now.s,by omega,by omega,by omega]
structure Lk (B C:Addr)(p:Int)(d l nl b r t sp sa sh la lu lh now:Addr)(ns:List Str)(S:gr)(M:Mp):Prop where
 bk:ud B C M b la lu lh p now S
 dr:Dr M d l
 nl:M nl=some (.lst (ns.map ws))
 ll:TM M r t sp sa sh S.pure
structure Lq (d l nl sp sa sh la lu lh:Addr):Prop where
 qd:Ap d la lu lh
 ql:Ap l la lu lh
 qn:Ap nl la lu lh
 qx: ∀x,x=sp \/ x=sa \/ x=sh ->Ap x la lu lh /\ x≠d
theorem Lk.sm {B C d l nl b r t sp sa sh la lu lh now:fY}(h:Lk B C p d l nl b r t sp sa sh la lu lh now ns S M)(s:Sm M M'):Lk B C p d l nl b r t sp sa sh la lu lh now ns S M':=#[h.bk.sm s,KO h.dr s,s _ _ h.nl,h.ll.sm s]
def Lk.fs {B C d l nl b r t sp sa sh la lu lh now:fY}(h:Lk B C p d l nl b r t sp sa sh la lu lh now ns S M)(q:Lq d l nl sp sa sh la lu lh)(wM:nl≠d)(D:Dr M' d l)(F:Fs d M M'):Lk B C p d l nl b r t sp sa sh la lu lh now ns S M':=by let⟨x,hx⟩:=Fo h.dr;show#[h.bk.fs F hx q.qd,D,F _ _ h.nl wM,F.Hz hx h.ll.r,F.Hz hx h.ll.t,h.ll.p.fs F hx (q.qx _ (.inl rfl)).2,h.ll.u.fs F hx (q.qx _ (.inr (.inl rfl))).2,h.ll.h.fs F hx (q.qx _ (.inr (.inr rfl))).2]
theorem ZZ:Cd p 0 (gr.pure #[[],[],[],[],[]]):=#[#[#[#[List.nodup_nil,by simp[gr.pure],by simp[gr.pure]],#[List.nodup_nil,by simp[gr.pure],by simp[gr.pure],by simp[gr.pure]],by simp[gr.pure],by simp[gr.pure]],by simp[gr.pure],by simp[gr.pure]],by simp[gr.pure],by simp[gr.pure],by simp[gr.pure]]
def aaw (hr:M r=none)(ht:um M r (.dK []) t=none)(wA:um (um M r (.dK [])) t (.dK []) sp=none)(Xa:um (um (um M r (.dK [])) t (.dK [])) sp (.lst []) sa=none)(SV:um (um (um (um M r (.dK [])) t (.dK [])) sp (.lst [])) sa (.lst []) sh=none): gy (Sm M (um (um (um (um (um M r (.dK [])) t (.dK [])) sp (.lst [])) sa (.lst [])) sh (.lst []))) (TM (um (um (um (um (um M r (.dK [])) t (.dK [])) sp (.lst [])) sa (.lst [])) sh (.lst [])) r t sp sa sh (gr.pure #[[],[],[],[],[]])) (M sp=none) (M sa=none) (M sh=none):=by have s1:=a7 hr (o:= .dK []);have s2:=a7 ht (o:= .dK []);have s3:=a7 wA (o:= .lst []);have s4:=a7 Xa (o:= .lst []);have s5:=a7 SV (o:= .lst []);show#[s1.trans (s2.trans (s3.trans (s4.trans s5))),#[(s2.trans (s3.trans (s4.trans s5))) _ _ am,(s3.trans (s4.trans s5)) _ _ am,#[[],(s4.trans s5) _ _ am,rfl,nofun],#[[],s5 _ _ am,rfl,nofun],#[[],am,rfl,nofun]],s1.free (s2.free wA),s1.free (s2.free (s3.free Xa)),s1.free (s2.free (s3.free (s4.free SV)))]
end WQ
namespace WL
open PySem L2
section
variable {M:Mp}{ρ:cq}{q:WK}{a b c:WE}{D:fI}{x y z:W}
def xH (b:WE)(ρ:cq)(k:W ->WK):WK:=λx M=>b ρ M (k x)
theorem Zl:xH b ρ k x M=b ρ M (k x):=rfl
def kR (f:W ->Mp ->WK ->Prop)(q:WK):WK:=λy M=>f y M q
theorem ai0:kR f q y M=f y M q:=rfl
theorem ahS:LM r a b ρ M q=a ρ M (xH b ρ λx=>kR (r x) q):=rfl
theorem ahM:_c r a ρ M q=a ρ M (kR r q):=rfl
def kB (q:Bool ->Mp ->Prop):WK:=λx M=>Qe x M q
theorem ai2 {q:Bool ->Mp ->Prop}:kB q x M=Qe x M q:=rfl
theorem Yu {q:Bool ->Mp ->Prop}:xh a ρ M q=a ρ M (kB q):=rfl
def WN (b:WT)(ρ:cq)(q:Bool ->Mp ->Prop):Bool ->Mp ->Prop:=λc M=>gF c (b ρ M q) (q false M)
def kb (b:WT)(q:Bool ->Mp ->Prop):cq ->Mp ->Prop:=λρ M=>b ρ M q
theorem aiX {b:WT}{q:Bool ->Mp ->Prop}:kb b q ρ M=b ρ M q:=rfl
def kq (q:Bool ->Mp ->Prop)(c:Bool):cq ->Mp ->Prop:=λ_ M=>q c M
theorem aiW {q:Bool ->Mp ->Prop}{c:Bool}:kq q c ρ M=q c M:=rfl
theorem aaW {b:WT}{q:Bool ->Mp ->Prop}{c:Bool}:WN b ρ q c M=gF c (hold (kb b q) ρ M) (hold (kq q false) ρ M):=rfl
theorem _N {a b:WT}{q:Bool ->Mp ->Prop}:Q0 a b ρ M q=a ρ M (WN b ρ q):=rfl
def kOr (b:WT)(ρ:cq)(q:Bool ->Mp ->Prop):Bool ->Mp ->Prop:=λc M=>gF c (q true M) (b ρ M q)
theorem aih {b:WT}{q:Bool ->Mp ->Prop}{c:Bool}:kOr b ρ q c M=gF c (hold (kq q true) ρ M) (hold (kb b q) ρ M):=rfl
theorem ahQ {a b:WT}{q:Bool ->Mp ->Prop}:_l a b ρ M q=a ρ M (kOr b ρ q):=rfl
def WD (q:Bool ->Mp ->Prop):Bool ->Mp ->Prop:=λc M=>q (!c) M
theorem aaI {c:Bool}{q:Bool ->Mp ->Prop}:WD q c M=q (!c) M:=rfl
theorem _m {a:WT}{q:Bool ->Mp ->Prop}:QJ a ρ M q=a ρ M (WD q):=rfl
def kIf (a b:WS)(D:fI)(ρ:cq):Bool ->Mp ->Prop:=λk M=>gF k (a D ρ M) (b D ρ M)
theorem air {a b:WS}:kIf a b D ρ k M=gF k (hold (a D) ρ M) (hold (b D) ρ M):=rfl
theorem ah5 {c:WT}{a b:WS}:Rt c a b D ρ M=c ρ M (kIf a b D ρ):=rfl
def kC2 (q:cH W ->Mp ->Prop)(x:W):cH W ->Mp ->Prop:=λxs M=>q (x::xs) M
theorem aiD {q:cH W ->Mp ->Prop}:kC2 q x xs M=q (x::xs) M:=rfl
def Qc (r:WA)(ρ:cq)(q:cH W ->Mp ->Prop):WK:=λx M=>r ρ M (kC2 q x)
theorem Zp {q:cH W ->Mp ->Prop}:Qc r ρ q x M=r ρ M (kC2 q x):=rfl
theorem YI {q:cH W ->Mp ->Prop}:HS a r ρ M q=a ρ M (Qc r ρ q):=rfl
def WB (q:WK):cH W ->Mp ->Prop:=λxs M=>cr (xs.length<=sizeLine) (q (.tup xs) M)
theorem aaD:WB q xs M=cr (xs.length<=sizeLine) (q (.tup xs) M):=rfl
theorem _d {a:WA}:QI a ρ M q=a ρ M (WB q):=rfl
def ln (q:WK)(M:Mp)(o:MO):Prop:= ∀p,M p=none ->q (wr p) (um M p o)
def kLs (q:WK):cH W ->Mp ->Prop:=λxs M=>cr (xs.length<=sizeLine) (ln q M (.lst xs))
theorem aik:kLs q xs M=cr (xs.length<=sizeLine) (ln q M (.lst xs)):=rfl
theorem _q {a:WA}:QL a ρ M q=a ρ M (kLs q):=rfl
def kU (q:WK)(M:Mp):W ->Prop:=λu=>q u M
theorem aiZ:kU q M x=q x M:=rfl
def kIx (i:Int)(q:WK)(M:Mp):cH W ->Prop:=λl=>iV (gY l i) (kU q M)
theorem aiq:kIx i q M l=iV (gY l i) (kU q M):=rfl
theorem _A {x:fY}:QR (.v (.ref x)) (.v (.int i)) M q=lstK (M x) (kIx i q M):=QQ
theorem _y:FO (.tup l) (.v (.int i)) M q=iV (gY l i) (kU q M):=QP
def Qd (p:fq)(q:WK):cH W ->Mp ->Prop:=λxs M=>mP p xs M q
theorem Zq:Qd p q xs M=mP p xs M q:=rfl
theorem YN {a:WA}:HY p a ρ M q=a ρ M (Qd p q):=rfl
def kCl (r:zK)(q:WK):cH W ->Mp ->Prop:=λxs M=>r xs M q
theorem aiC:kCl r q xs M=r xs M q:=rfl
theorem ah2 {a:WA}:_J r a ρ M q=a ρ M (kCl r q):=rfl
def WJ (g:WG)(ρ:cq)(n:cq ->Mp ->Prop):WK:=λx M=>g x ρ M n
theorem aaV:WJ g ρ n x M=g x ρ M n:=rfl
theorem aaj:Rv a g D ρ M=a ρ M (WJ g ρ D.nx):=rfl
def Qb (n:cq ->Mp ->Prop)(ρ:cq):WK:=λ_ M=>n ρ M
theorem Zo:Qb n ρ x M=n ρ M:=rfl
theorem Y4:IN a D ρ M=a ρ M (Qb D.nx ρ):=rfl
def kFor (g:WG)(b:WS)(D:fI)(ρ:cq):cH W ->(Mp ->Prop) ->Mp ->Prop:=λxs keep M=>N_ xs keep g b D ρ M
theorem aaM {b:WS}:kFor g b D ρ xs keep M=N_ xs keep g b D ρ M:=rfl
theorem aag {b:WS}:Ru it g b D ρ M=it ρ M (kFor g b D ρ):=rfl
def SE (r:WM)(x:W)(q:WK):cH W ->Mp ->Prop:=λxs M=>r x xs M q
theorem aaS:SE r x q xs M=r x xs M q:=rfl
def SF (r:WM)(b:WA)(ρ:cq)(x:W)(q:WK)(M:Mp):cH W ->Prop:=λ_=>b ρ M (SE r x q)
theorem aaT {b:WA}:SF r b ρ x q M l=b ρ M (SE r x q):=rfl
def kBm (r:WM)(b:WA)(ρ:cq)(q:WK):WK:=λx M=>eB x λp=>lstK (M p) (SF r b ρ x q M)
theorem aiF {b:WA}:kBm r b ρ q (.v (.ref p)) M=lstK (M p) (SF r b ρ (.v (.ref p)) q M):=gC
theorem ah4 {b:WA}:YQ r a b ρ M q=a ρ M (kBm r b ρ q):=Vc
def SG (r:WM)(x:W)(q:WK)(M:Mp):cH W ->Prop:=λ_=>r x [] M q
theorem aaU:SG r x q M l=r x [] M q:=rfl
def kBz (r:WM)(q:WK):WK:=λx M=>eB x λp=>lstK (M p) (SG r x q M)
theorem aiE:kBz r q (.v (.ref p)) M=lstK (M p) (SG r (.v (.ref p)) q M):=gC
theorem _L:Mt r a ρ M q=a ρ M (kBz r q):=QZ
def kM2 (p:fq)(x:W)(q:WK):cH W ->Mp ->Prop:=λxs M=>mP p (x::xs) M q
theorem aii:kM2 p x q xs M=mP p (x::xs) M q:=rfl
def kM1 (C:fY)(m:Str)(p:fq)(b:WA)(ρ:cq)(x:W)(q:WK)(M:Mp):fY ->fY ->cH (Str×W) ->Prop:=λC' _ fs=>cr (C'=C /\ fs.lookup m=none) (b ρ M (kM2 p x q))
theorem aij {b:WA}:kM1 C m p b ρ x q M C' dx fs=cr (C'=C /\ fs.lookup m=none) (b ρ M (kM2 p x q)):=rfl
def kM (C:fY)(m:Str)(p:fq)(b:WA)(ρ:cq)(q:WK):WK:=λx M=>eB x λo=>l4 (M o) (kM1 C m p b ρ x q M)
theorem ai1 {b:WA}:kM C m p b ρ q (.v (.ref o)) M=l4 (M o) (kM1 C m p b ρ (.v (.ref o)) q M):=gC
theorem YB {b:WA}:DO C m p a b ρ M q=a ρ M (kM C m p b ρ q):=Mm
def Zn (k:cf)(q:WK)(M:Mp):cH (cf×W) ->Prop:=λkvs=>iV (e9 kvs k) (kU q M)
theorem ais:Zn k q M kvs=iV (e9 kvs k) (kU q M):=rfl
def WF (x:W)(q:WK):WK:=λy M=>eB x λp=>i_ y λk=>fQ (M p) (Zn k q M)
def aiu:WF (.v (.ref p)) q (.v (.int i)) M=fQ (M p) (Zn (.inl i) q M):=by unfold WF;rw[gC,J6]
def ait:WF (.v (.ref p)) q (.v (.str i)) M=fQ (M p) (Zn (.inr i) q M):=by unfold WF;rw[gC,zn]
theorem YH:DP a b ρ M q=a ρ M (xH b ρ λx=>WF x q):=Ms
def Sv (q:cH W ->(Mp ->Prop) ->Mp ->Prop)(M:Mp)(p:fY):cH W ->Prop:=λl=>q l (λM'=>M' p=some (.lst l)) M
theorem aaJ {q:cH W ->(Mp ->Prop) ->Mp ->Prop}:Sv q M p l=q l (λM'=>M' p=some (.lst l)) M:=rfl
def kJl (q:cH W ->(Mp ->Prop) ->Mp ->Prop):WK:=λx M=>eB x λp=>lstK (M p) (Sv q M p)
theorem aip {q:cH W ->(Mp ->Prop) ->Mp ->Prop}:kJl q (.v (.ref p)) M=lstK (M p) (Sv q M p):=gC
theorem Zt {q:cH W ->(Mp ->Prop) ->Mp ->Prop}:E3 a ρ M q=a ρ M (kJl q):=NN
theorem YF:HQ ρ M q=ln q M (.dK []):=rfl
def kLo (q:WK)(M:Mp):cH W ->Prop:=λl=>ln q M (.lst l)
theorem ail:kLo q M l=ln q M (.lst l):=rfl
theorem QN {x:fY}:oE [.v (.ref x)] M q=lstK (M x) (kLo q M):=FN
theorem QM:oE [.tup l] M q=ln q M (.lst l):=FM
def kTo (q:WK)(M:Mp):cH W ->Prop:=λl=>q (.tup l) M
theorem ah':kTo q M l=q (.tup l) M:=rfl
theorem OW {x:fY}:uF [.v (.ref x)] M q=lstK (M x) (kTo q M):=Cj
def kPt (q:fj Int ->Mp ->Prop):WK:=λx M=>A7 x λi=>q (some i) M
theorem aif {q:fj Int ->Mp ->Prop}:kPt q (.v (.int i)) M=q (some i) M:=Ke
theorem Yy {q:fj Int ->Mp ->Prop}:HL a ρ M q=a ρ M (kPt q):=rfl
def kS3 (r:Hd)(x:W)(l:fj Int)(q:WK):fj Int ->Mp ->Prop:=λu M=>r x l u M q
theorem aia:kS3 r x l q u M=r x l u M q:=rfl
def kS2 (r:Hd)(hi:WO)(ρ:cq)(x:W)(q:WK):fj Int ->Mp ->Prop:=λl M=>hi ρ M (kS3 r x l q)
theorem aib:kS2 r hi ρ x q l M=hi ρ M (kS3 r x l q):=rfl
def kS1 (r:Hd)(lo hi:WO)(ρ:cq)(q:WK):WK:=λx M=>lo ρ M (kS2 r hi ρ x q)
theorem aic:kS1 r lo hi ρ q x M=lo ρ M (kS2 r hi ρ x q):=rfl
theorem ahO:_i r a lo hi ρ M q=a ρ M (kS1 r lo hi ρ q):=rfl
def kLn (q:WK)(M:Mp):cH W ->Prop:=λl=>q (wi l.length) M
theorem aim:kLn q M l=q (wi l.length) M:=rfl
theorem YC {x:fY}:Mn [.v (.ref x)] M q=lstK (M x) (kLn q M):=QO
def kAp (x:fY)(y:W)(q:WK)(M:Mp):cH W ->Prop:=λl=>cr (l.length<sizeLine) (q wn (um M x (.lst (l++ [y]))))
theorem aiG {x:fY}:kAp x y q M l=cr (l.length<sizeLine) (q wn (um M x (.lst (l++ [y])))):=rfl
theorem Ub {x:fY}:yB (.v (.ref x)) [y] M q=lstK (M x) (kAp x y q M):=FR
def Sy (x:fY)(l:cH W)(q:WK)(M:Mp):cH W ->Prop:=λl'=>cr (l.length+l'.length<=sizeLine) (q wn (um M x (.lst (l++l'))))
theorem aaO {x:fY}:Sy x l q M l'=cr (l.length+l'.length<=sizeLine) (q wn (um M x (.lst (l++l')))):=rfl
def kEx (x y:fY)(q:WK)(M:Mp):cH W ->Prop:=λl=>lstK (M y) (Sy x l q M)
theorem aiw {x y:fY}:kEx x y q M l=lstK (M y) (Sy x l q M):=rfl
theorem T9 {x y:fY}:yA (.v (.ref x)) [.v (.ref y)] M q=lstK (M x) (kEx x y q M):=FP
def SD (l:cH W)(q:WK)(M:Mp):cH W ->Prop:=λl'=>cr (l.length+l'.length<=sizeLine) (ln q M (.lst (l++l')))
theorem aaR:SD l q M l'=cr (l.length+l'.length<=sizeLine) (ln q M (.lst (l++l'))):=rfl
def kCt (y:fY)(q:WK)(M:Mp):cH W ->Prop:=λl=>lstK (M y) (SD l q M)
theorem aiA {y:fY}:kCt y q M l=lstK (M y) (SD l q M):=rfl
theorem _I {x y:fY}:QX (.v (.ref x)) (.v (.ref y)) M q=lstK (M x) (kCt y q M):=QW
def kD1 (k:cf)(q:WK)(M:Mp):cH (cf×W) ->Prop:=λkvs=>q (wb (e9 kvs k).isSome) M
theorem aix:kD1 k q M kvs=q (wb (e9 kvs k).isSome) M:=rfl
def kD0 (k:cf)(q:WK)(M:Mp):cH (cf×W) ->Prop:=λkvs=>q (wb (!(e9 kvs k).isSome)) M
theorem aiy:kD0 k q M kvs=q (wb (!(e9 kvs k).isSome)) M:=rfl
def Sz (y:W)(q:WK):WK:=λx M=>eB x λp=>i_ y λk=>fQ (M p) (kD1 k q M)
def aaP:Sz (.v (.str i)) q (.v (.ref p)) M=fQ (M p) (kD1 (.inr i) q M):=by unfold Sz;rw[gC,zn]
theorem _H:Mr a b ρ M q=a ρ M (xH b ρ λy=>Sz y q):=QV
def SA (y:W)(q:WK):WK:=λx M=>eB x λp=>i_ y λk=>fQ (M p) (kD0 k q M)
def aaQ:SA (.v (.str i)) q (.v (.ref p)) M=fQ (M p) (kD0 (.inr i) q M):=by unfold SA;rw[gC,zn]
theorem Ua:ue a b ρ M q=a ρ M (xH b ρ λy=>SA y q):=FQ
def Zm (p:fY)(k:cf)(z:W)(n:cq ->Mp ->Prop)(ρ:cq)(M:Mp):cH (cf×W) ->Prop:=λkvs=>cr (kvs.length<sizeLine) (n ρ (um M p (.dK (uV kvs k z))))
theorem aie:Zm p k z n ρ M kvs=cr (kvs.length<sizeLine) (n ρ (um M p (.dK (uV kvs k z)))):=rfl
def GJ (z x:W)(n:cq ->Mp ->Prop)(ρ:cq):WK:=λy M=>eB x λp=>i_ y λk=>fQ (M p) (Zm p k z n ρ M)
def aaF:GJ z (.v (.ref p)) n ρ (.v (.int i)) M=fQ (M p) (Zm p (.inl i) z n ρ M):=by unfold GJ;rw[gC,J6]
def aaE:GJ z (.v (.ref p)) n ρ (.v (.str i)) M=fQ (M p) (Zm p (.inr i) z n ρ M):=by unfold GJ;rw[gC,zn]
def Su (b:WE)(z:W)(n:cq ->Mp ->Prop)(ρ:cq):WK:=λx M=>b ρ M (GJ z x n ρ)
theorem aaG:Su b z n ρ x M=b ρ M (GJ z x n ρ):=rfl
def WC (a b:WE)(n:cq ->Mp ->Prop)(ρ:cq):WK:=λz M=>a ρ M (Su b z n ρ)
theorem aaH:WC a b n ρ z M=a ρ M (Su b z n ρ):=rfl
theorem VN:yM a b c D ρ M=c ρ M (WC a b D.nx ρ):=IP
def Sx (K:WW)(f:Str)(q:WK)(M:Mp):fY ->fY ->cH (Str×W) ->Prop:=λC _ fs=>cr (xb K C) (cr (eE K C f) (iV (fs.lookup f) (kU q M)))
theorem aaN:Sx K f q M C dx fs=cr (xb K C) (cr (eE K C f) (iV (fs.lookup f) (kU q M))):=rfl
def kFl (K:WW)(f:Str)(q:WK):WK:=λx M=>eB x λp=>l4 (M p) (Sx K f q M)
theorem aiv:kFl K f q (.v (.ref p)) M=l4 (M p) (Sx K f q M):=gC
theorem _G:Mq K a f ρ M q=a ρ M (kFl K f q):=QU
def Sw (K:WW)(f:Str)(p:fY)(y:W)(n:cq ->Mp ->Prop)(ρ:cq)(M:Mp):fY ->fY ->cH (Str×W) ->Prop:=λC dx fs=>cr (xb K C) (cr (eE K C f) (cr (fs.length<1000) (n ρ (um M p (.ins C dx (io f y fs))))))
theorem aaL:Sw K f p y n ρ M C dx fs=cr (xb K C) (cr (eE K C f) (cr (fs.length<1000) (n ρ (um M p (.ins C dx (io f y fs)))))):=rfl
def WH (K:WW)(f:Str)(y:W)(n:cq ->Mp ->Prop)(ρ:cq):WK:=λx M=>eB x λp=>l4 (M p) (Sw K f p y n ρ M)
theorem aaK:WH K f y n ρ (.v (.ref p)) M=l4 (M p) (Sw K f p y n ρ M):=gC
theorem Y3:Ek K a b f D ρ M=b ρ M (xH a ρ λy=>WH K f y D.nx ρ):=MF
def kX2 (p:fo)(x:W)(e:WX)(q:WK):cH W ->Mp ->Prop:=λxs M=>sT p (x::xs) M q (up e)
theorem ah8:kX2 p x e q xs M=sT p (x::xs) M q (up e):=rfl
def kX1 (C:fY)(m:Str)(p:fo)(e:WX)(b:WA)(ρ:cq)(x:W)(q:WK)(M:Mp):fY ->fY ->cH (Str×W) ->Prop:=λC' _ fs=>cr (C'=C /\ fs.lookup m=none) (b ρ M (kX2 p x e q))
theorem ah9 {b:WA}:kX1 C m p e b ρ x q M C' dx fs=cr (C'=C /\ fs.lookup m=none) (b ρ M (kX2 p x e q)):=rfl
def kX (C:fY)(m:Str)(p:fo)(e:WX)(b:WA)(ρ:cq)(q:WK):WK:=λx M=>eB x λo=>l4 (M o) (kX1 C m p e b ρ x q M)
theorem aiY {b:WA}:kX C m p e b ρ q (.v (.ref o)) M=l4 (M o) (kX1 C m p e b ρ (.v (.ref o)) q M):=gC
theorem U1 {b:WA}:yz C m p e a b ρ M q=a ρ M (kX C m p e b ρ q):=HM
def kCx (p:fo)(e:WX)(q:WK):cH W ->Mp ->Prop:=λxs M=>sT p xs M q (up e)
theorem aiz:kCx p e q xs M=sT p xs M q (up e):=rfl
theorem Va {a:WA}:Co p e a ρ M q=a ρ M (kCx p e q):=rfl
def kRs (C:fY)(e:WX):cH W ->Mp ->Prop:=λxs M=>cr (xs.length<=sizeLine) (up e C M)
theorem aid:kRs C e xs M=cr (xs.length<=sizeLine) (up e C M):=rfl
theorem UW {a:WA}:Ck C e a D ρ M=a ρ M (kRs C e):=rfl
def kJr (q:cH W ->(Mp ->Prop) ->Mp ->Prop):cH W ->Mp ->Prop:=λxs M=>Nk xs λx=>A7 x λj=>cr (-(2 ^ 62) <=j /\ j<2 ^ 62) (q (hJ 0 j.toNat) (λ_=>True) M)
def aio {q:cH W ->(Mp ->Prop) ->Mp ->Prop}:kJr q [.v (.int j)] M=cr (-(2 ^ 62) <=j /\ j<2 ^ 62) (q (hJ 0 j.toNat) (λ_=>True) M):=by unfold kJr;rw[R8,Ke]
theorem Zs {a:WA}{q:cH W ->(Mp ->Prop) ->Mp ->Prop}:E2 a ρ M q=a ρ M (kJr q):=NM
def kJt (q:cH W ->(Mp ->Prop) ->Mp ->Prop):WK:=λx M=>tupK x λl=>q l (λ_=>True) M
theorem ain {q:cH W ->(Mp ->Prop) ->Mp ->Prop}:kJt q (.tup l) M=q l (λ_=>True) M:=Q9
theorem aaX {q:cH W ->(Mp ->Prop) ->Mp ->Prop}:SI a ρ M q=a ρ M (kJt q):=rfl
def kCo (own:Nat)(fr:cH Nat)(g:WG)(c:WT)(el:WE)(ρ:cq)(q:WK):cH W ->(Mp ->Prop) ->Mp ->Prop:=λxs keep M=>sR xs keep own fr g c el ρ M q
theorem aiB {c:WT}:kCo own fr g c el ρ q xs keep M=sR xs keep own fr g c el ρ M q:=rfl
theorem YK {c:WT}:HV it own fr g c el ρ M q=it ρ M (kCo own fr g c el ρ q):=rfl
end
end WL
set_option synthInstance.maxSize 100000
set_option synthInstance.maxHeartbeats 0
open PySem L2 WL WP WQ PyProof.Rows
local macro_rules | `(tactic| simp? [$xs,*]) => do let a <- ("aay ahA aas ahG aa1 aa2 aiL gC Q9 J6 zn _b _a Z_ Z9 Z8 Z7 Z6 Z5 Z4 Z3 Ys Yr Yq Yp Yo Yn Ym Yl Yk Yj Yi Yh Yg Yf aiU ahT ahN aiT ahY aiS ah1 ahV ah0 ahU Yv _O ahR _n YR _k YA U_ _o YJ _e _s QQ QP T8 Ke Yz ahP _h ah3 YO QO _t _Q FN FM Cj _B Vc QZ FR FP QW UR YG Ms QV FQ U8 Y2 Y5 aaf ah6 aak aai IP aah YT _U YU _S _T Yx NN aaY R8 NM YL Z2 U9 YS Yw aaa _K _F _E ahX ahW aa0 aad aac YM QU MF aa3 VO aaZ _z _g _C TZ YD U5 Zu Zr ahZ HM Mm Vb UX Yt U6 U' U7 ahB".splitOn " ").toArray.mapM λs => `(Lean.Parser.Tactic.simpLemma| ↓ $(Lean.mkIdent s.toName):term); let b <- ("P_ NJ P' LZ NI NL L1 NK J5 L0 P9 NF PZ LW NE GG E1 GF C0 EZ LV J0 LU Hw JZ NH LY NG J1 LX sl1 Pj sl3 sl4 sl5 sl0 List.map_cons List.map_nil List.length_cons List.length_nil Nat.zero_add List.cons_append List.nil_append List.set_cons_zero List.set_cons_succ am kC X0 aiQ aiP aiO aiJ aiI aiH Bool.not_true Bool.not_false List.getElem?_cons_zero List.getElem?_cons_succ Option.join_some and_self and_true true_and Option.getD_some Option.getD_none YV ou".splitOn " ").toArray.mapM λs => `(Lean.Parser.Tactic.simpLemma| $(Lean.mkIdent s.toName):term); `(tactic| try simp only [$a,*, $b,*, Nat.reduceAdd, Nat.reduceSub, List.reduceReplicate, $xs,*])
local macro_rules | `(tactic| dsimp? [$xs,*]) => `(tactic| (simp? [↓cE, $xs,*]; repeat (with_reducible refine e_ ?_; simp? [↓cE, $xs,*])))
local macro_rules | `(tactic| simp?! [$xs,*]) => do let a <- ("aay ahA aas ahG aa1 aa2 aiL gC Q9 J6 zn _b _a Z_ Z9 Z8 Z7 Z6 Z5 Z4 Z3 Ys Yr Yq Yp Yo Yn Ym Yl Yk Yj Yi Yh Yg Yf aiU aiT ahY aiS ah1 ahV ah0 ahU YR _k YA U_ _o T8 Ke _t _Q _B UR U8 Y2 aaf aai YT _U YU _S _T Yx R8 Z2 U9 YS Yw aaa _K _F _E ahX ahW aa0 aad aac YM aa3 VO aaZ _z _g _C TZ YD U5 Zu Zr ahZ Yt U6 U' U7 ahB Zl ai0 ahS ahM ai2 Yu aiX aiW aaW _N aih ahQ aaI _m air ah5 aiD Zp YI aaD _d aik _q aiZ aiq _A _y Zq YN aiC ah2 aaV aaj Zo Y4 aaM aag aaS aaT aiF ah4 aaU aiE _L aii aij ai1 YB ais aiu ait YH aaJ aip Zt YF ail QN QM ah' OW aif Yy aia aib aic ahO aim YC aiG Ub aaO aiw T9 aaR aiA _I aix aiy aaP _H aaQ Ua aie aaF aaE aaG aaH VN aaN aiv _G aaL aaK Y3 ah8 ah9 aiY U1 aiz Va aid UW aio Zs ain aaX aiB YK".splitOn " ").toArray.mapM λs => `(Lean.Parser.Tactic.simpLemma| ↓ $(Lean.mkIdent s.toName):term); let b <- ("P_ NJ P' LZ NI NL L1 NK J5 L0 P9 NF PZ LW NE GG E1 GF C0 EZ LV J0 LU Hw JZ NH LY NG J1 LX sl1 Pj sl3 sl4 sl5 sl0 List.map_cons List.map_nil List.length_cons List.length_nil Nat.zero_add List.cons_append List.nil_append List.set_cons_zero List.set_cons_succ am kC X0 aiQ aiP aiO aiJ aiI aiH Bool.not_true Bool.not_false List.getElem?_cons_zero List.getElem?_cons_succ Option.join_some and_self and_true true_and Option.getD_some Option.getD_none YV ou".splitOn " ").toArray.mapM λs => `(Lean.Parser.Tactic.simpLemma| $(Lean.mkIdent s.toName):term); `(tactic| try simp only [$a,*, $b,*, Nat.reduceAdd, Nat.reduceSub, List.reduceReplicate, $xs,*])
local macro_rules | `(tactic| dsimp?! [$xs,*]) => `(tactic| (simp?! [↓cE, $xs,*]; repeat (with_reducible refine e_ ?_; simp?! [↓cE, $xs,*])))
local macro_rules | `(tactic| trivial) => `(tactic| first | exact Or.inl rfl | exact Or.inr rfl)
local macro_rules | `(tactic| right) => `(tactic| decide +kernel)
local macro_rules | `(tactic| left) => `(tactic| (intro _ _ _ h; (repeat (cases h; rename_i h)); subst_vars; rfl))
set_option hygiene false
local macro_rules | `(tactic| exists $a, $n, $c) => `(tactic| (have nd : List.Nodup ($n : List Str) := (by decide +kernel); refine okS (N := $n) $a ⟨rfl, rfl, rfl, nd, rfl, by decide +kernel, by decide +kernel⟩ (by left) λcdv A' outer s H E hr => ?_; refine ⟨_, $c, ?_⟩; (try dsimp only [eQ]); refine ⟨_, inferInstance, ?_⟩))
set_option hygiene true
namespace fe
open PySem L2 WL WP WQ PyProof.Rows
nonrec def top (i:Nat):Stmt:=PySem.Challenge.pw_duskround_k46_whole_book_forth_and_back.main.body.getD i (.Pass #[0,0,0,0])
nonrec abbrev Cw:Stmt:=top 15
nonrec abbrev Ei:Stmt:=top 16
nonrec abbrev yK:Stmt:=top 17
nonrec abbrev yJ:Stmt:=top 18
nonrec abbrev Cy:Stmt:=top 21
nonrec abbrev Aw:Stmt:=top 22
nonrec abbrev uU:Stmt:=top 23
nonrec abbrev iL:Stmt:=top 24
nonrec abbrev jr:Stmt:=top 25
nonrec abbrev rS:Stmt:=top 53
nonrec abbrev j9:Stmt:=top 64
nonrec abbrev oR:Stmt:=top 65
nonrec abbrev xr:Stmt:=top 66
nonrec abbrev IJ:Stmt:=fh (top 67) 0
nonrec abbrev IK:Stmt:=fh (top 68) 0
nonrec abbrev kL:Stmt:=fh (top 68) 1
nonrec abbrev lM:Stmt:=fh (top 68) 2
nonrec abbrev nY:Stmt:=fh (top 68) 3
nonrec abbrev kN:Stmt:=fh (top 68) 4
nonrec abbrev kO:Stmt:=fh (top 68) 5
nonrec abbrev lO:Stmt:=fh (top 68) 6
nonrec abbrev lN:Stmt:=fh (top 68) 7
nonrec abbrev iN:Stmt:=fh (top 68) 8
nonrec abbrev iQ:Stmt:=fh (top 68) 9
nonrec abbrev g_:Stmt:=fh (top 68) 10
nonrec abbrev lQ:Stmt:=fh (top 68) 11
nonrec abbrev j_:Stmt:=fh (top 68) 12
nonrec abbrev iP:Stmt:=fh (top 68) 13
nonrec abbrev jt:Stmt:=fh (top 68) 14
nonrec abbrev iO:Stmt:=fh (top 68) 15
nonrec abbrev lL:Stmt:=fh (top 68) 16
nonrec abbrev lP:Stmt:=fh (top 68) 17
nonrec abbrev rV:Stmt:=fh (top 68) 18
nonrec abbrev gB:Stmt:=fh (top 68) 19
nonrec abbrev oW:Stmt:=fh (top 68) 21
nonrec abbrev oX:Stmt:=fh (top 68) 22
nonrec abbrev hG:Stmt:=fh (top 68) 23
nonrec abbrev iM:Stmt:=fh (top 68) 24
nonrec abbrev Ed:Stmt:=top 70
nonrec abbrev rT:Stmt:=top 71
nonrec abbrev qE:Stmt:=top 73
nonrec abbrev Ar:Stmt:=top 74
nonrec abbrev Pk:Stmt:=top 75
nonrec abbrev xw:Stmt:=top 76
nonrec abbrev Aq:Stmt:=top 77
nonrec abbrev Ee:Stmt:=top 78
nonrec abbrev At:Stmt:=top 79
nonrec abbrev Av:Stmt:=top 80
nonrec abbrev xu:Stmt:=top 81
nonrec abbrev rR:Stmt:=top 82
nonrec abbrev Eg:Stmt:=top 83
nonrec abbrev Ao:Stmt:=top 84
nonrec abbrev xt:Stmt:=top 85
nonrec abbrev nA:Stmt:=top 86
nonrec abbrev lJ:Stmt:=top 87
nonrec abbrev oU:Stmt:=top 88
nonrec abbrev Eh:Stmt:=top 89
nonrec abbrev As:Stmt:=top 90
nonrec abbrev yL:Stmt:=top 91
nonrec abbrev Au:Stmt:=top 92
nonrec abbrev Ef:Stmt:=top 93
nonrec abbrev lI:Stmt:=top 94
nonrec abbrev oT:Stmt:=top 95
nonrec abbrev uT:Stmt:=top 96
nonrec abbrev lK:Stmt:=top 97
nonrec abbrev uS:Stmt:=top 98
nonrec abbrev lH:Stmt:=top 99
nonrec abbrev nB:Stmt:=top 100
nonrec abbrev oV:Stmt:=top 101
nonrec abbrev xv:Stmt:=top 102
nonrec abbrev nC:Stmt:=top 103
nonrec abbrev IH:Stmt:=top 104
set_option genInjectivity false in
set_option genSizeOf false in
structure ZY where
 Ky:Addr
 KU:FuncData
 Fm:Addr
 FE:FuncData
 Fg:Addr
 Fx:FuncData
 Fe:Addr
 Fv:FuncData
 Kz:Addr
 KW:FuncData
 Bm:Addr
 By:FuncData
 vN:Addr
 vT:FuncData
 iX:Addr
 iY:FuncData
 nI:Addr
 nN:FuncData
 sw:Addr
 sI:FuncData
 pT:Addr
 qa:FuncData
 pO:Addr
 p7:FuncData
 xR:Addr
 xZ:FuncData
 KA:Addr
 KY:FuncData
 KC:Addr
 KZ:FuncData
 kZ:Addr
 lf:FuncData
 mm:Addr
 mI:FuncData
 vO:Addr
 vU:FuncData
 k8:Addr
 li:FuncData
 k9:Addr
 lj:FuncData
 sD:Addr
 sN:FuncData
 sC:Addr
 sL:FuncData
 mq:Addr
 mK:FuncData
 mB:Addr
 mO:FuncData
 kY:Addr
 k_:FuncData
 sG:Addr
 sQ:FuncData
 pV:Addr
 qc:FuncData
 mx:Addr
 mM:FuncData
 nM:Addr
 nR:FuncData
 mw:Addr
 mL:FuncData
 sB:Addr
 sK:FuncData
 sE:Addr
 sO:FuncData
 sF:Addr
 sP:FuncData
 jX:Addr
 jZ:FuncData
 pU:Addr
 qb:FuncData
 pW:Addr
 qe:FuncData
 k7:Addr
 lg:FuncData
 mn:Addr
 mJ:FuncData
 Ff:Addr
 Fw:FuncData
 sy:Addr
 sJ:FuncData
 xW:Addr
 yd:FuncData
 Bg:Addr
 Bt:FuncData
 Qv:Addr
 Qy:FuncData
 xV:Addr
 yc:FuncData
 Be:Addr
 Bs:FuncData
 Fh:Addr
 Fy:FuncData
 Bi:Addr
 Bv:FuncData
 Bl:Addr
 Bx:FuncData
 xT:Addr
 ya:FuncData
 sv:Addr
 sH:FuncData
 Fk:Addr
 FC:FuncData
 Bd:Addr
 Br:FuncData
 xS:Addr
 x_:FuncData
 nJ:Addr
 nO:FuncData
 mj:Addr
 mG:FuncData
 pR:Addr
 p9:FuncData
 Fl:Addr
 FD:FuncData
 Bh:Addr
 Bu:FuncData
 Fi:Addr
 Fz:FuncData
 Bj:Addr
 Bw:FuncData
 Fj:Addr
 FA:FuncData
 mh:Addr
 mF:FuncData
 pQ:Addr
 p8:FuncData
 vM:Addr
 vS:FuncData
 ml:Addr
 mH:FuncData
 vL:Addr
 vR:FuncData
 mf:Addr
 mE:FuncData
 nK:Addr
 nP:FuncData
 pS:Addr
 p_:FuncData
 xU:Addr
 yb:FuncData
 nL:Addr
 nQ:FuncData
 Qu:Addr
 Qx:FuncData
 d_:Addr
 fU:Addr
 eL:Addr
 eX:Addr
 eK:Addr
 d9:Addr
 di:Addr
 fT:Addr
 dO:Addr
 eI:Addr
 bw:Addr
 aY:Addr
structure ft (K:PySem.W.Frag)(mg:Str ->Option Value)(A:ZY):Prop where
 sV:mg "abs" =none
 yn:mg "all" =none
 QB:mg "any" =none
 TC:mg "bool" =none
 zH:mg "dict" =none
 XS:mg "int" =none
 eM:mg "isinstance" =none
 gV:mg "len" =none
 h_:mg "list" =none
 jp:mg "range" =none
 gU:mg "sorted" =none
 FI:mg "str" =none
 jo:mg "tuple" =none
 tidy:g0 K mg "tidy" ["p","pairs"] Cw A.Ky A.KU
 added:g0 K mg "added" ["p","one","other"] Ei A.Fm A.FE
 moved:g0 K mg "moved" ["pattern","by"] yK A.Fg A.Fx
 timed:g0 K mg "timed" ["p","pattern","n"] yJ A.Fe A.Fv
 gone:g0 K mg "gone" ["p","deeds"] Cy A.Kz A.KW
 joined:g0 K mg "joined" ["p","one","other"] Aw A.Bm A.By
 backward:g0 K mg "backward" ["p","one"] uU A.vN A.vT
 repeated:g0 K mg "repeated" ["p","one","n"] iL A.iX A.iY
 lies_within:g0 K mg "lies_within" ["one","farthest_end","farthest_place"] jr A.nI A.nN
 fits_crew:g0 K mg "fits_crew" ["one"] rS A.sw A.sI
 check_name:g0 K mg "check_name" ["name"] j9 A.pT A.qa
 with_thing:g0 K mg "with_thing" ["things","name","thing"] oR A.pO A.p7
 without:g0 K mg "without" ["things","name"] xr A.xR A.xZ
 Page:UK K mg "Page" "Page.__init__" ["self","rounds","teams"] IJ A.bw A.KA A.KY
 Book:UK K mg "Book" "Book.__init__" ["self","p"] IK A.aY A.KC A.KZ
 nV:qi K "settings" "Book.settings" ["self"] kL A.aY A.kZ A.lf
 fH:qi K "turn_to" "Book.turn_to" ["self","page"] lM A.aY A.mm A.mI
 mU:qi K "put" "Book.put" ["self","name","one"] nY A.aY A.vO A.vU
 gM:qi K "put_team" "Book.put_team" ["self","crew","team"] kN A.aY A.k8 A.li
 jB:qi K "enlisted" "Book.enlisted" ["self","name"] kO A.aY A.k9 A.lj
 j6:qi K "team" "Book.team" ["self","crew"] lO A.aY A.sD A.sN
 yr:qi K "tell" "Book.tell" ["self","name","deeds"] lN A.aY A.sC A.sL
 qk:qi K "join_as" "Book.join_as" ["self","name","one","other"] iN A.aY A.mq A.mK
 qp:qi K "back_as" "Book.back_as" ["self","name","one"] iQ A.aY A.mB A.mO
 nU:qi K "times_as" "Book.times_as" ["self","name","one","n"] g_ A.aY A.kY A.k_
 yw:qi K "drop" "Book.drop" ["self","name"] lQ A.aY A.sG A.sQ
 ww:qi K "found" "Book.found" ["self","crew"] j_ A.aY A.pV A.qc
 qo:qi K "disband" "Book.disband" ["self","crew"] iP A.aY A.mx A.mM
 sX:qi K "enlist" "Book.enlist" ["self","crew","name"] jt A.aY A.nM A.nR
 qm:qi K "dismiss" "Book.dismiss" ["self","crew","name"] iO A.aY A.mw A.mL
 yq:qi K "undo" "Book.undo" ["self"] lL A.aY A.sB A.sK
 yt:qi K "redo" "Book.redo" ["self"] lP A.aY A.sE A.sO
 yu:qi K "hold" "Book.hold" ["self"] rV A.aY A.sF A.sP
 mT:qi K "return_to" "Book.return_to" ["self","k"] gB A.aY A.jX A.jZ
 oz:qi K "names" "Book.names" ["self"] oW A.aY A.pU A.qb
 oB:qi K "crews" "Book.crews" ["self"] oX A.aY A.pW A.qe
 dJ:qi K "round_of" "Book.round_of" ["self","name"] hG A.aY A.k7 A.lg
 kA:qi K "members" "Book.members" ["self","crew"] iM A.aY A.mn A.mJ
 shown:g0 K mg "shown" ["one"] Ed A.Ff A.Fw
 book_text:g0 K mg "book_text" ["book"] rT A.sy A.sJ
 EU:g0 K mg "_law_begin" ["_law_script"] qE A.xW A.yd
 dc:g0 K mg "_law_take" ["_law_draw","_law_many"] Ar A.Bg A.Bt
 l_p:g0 K mg "_law_p" ["_law_draw"] Pk A.Qv A.Qy
 ES:g0 K mg "_law_names" ["_law_draw","_law_many"] xw A.xV A.yc
 zm:g0 K mg "_law_tidy" ["_law_p_here","_law_pairs"] Aq A.Be A.Bs
 EQ:g0 K mg "_law_sum" ["_law_p_here","_law_one","_law_other","_law_by","_law_many"] Ee A.Fh A.Fy
 JU:g0 K mg "_law_join" ["_law_p_here","_law_one","_law_other"] At A.Bi A.Bv
 JW:g0 K mg "_law_back" ["_law_p_here","_law_one"] Av A.Bl A.Bx
 EO:g0 K mg "_law_times" ["_law_p_here","_law_one","_law_n"] xu A.xT A.ya
 qU:g0 K mg "_law_is_name" ["_law_name"] rR A.sv A.sH
 ET:g0 K mg "_law_far" ["_law_one","_law_most","_law_reach"] Eg A.Fk A.FC
 JS:g0 K mg "_law_walk" ["_law_p_here","_law_deeds"] Ao A.Bd A.Br
 EN:g0 K mg "_law_value" ["_law_p_here","_law_rounds","_law_deed"] xt A.xS A.x_
 r_:g0 K mg "_law_due_round" ["_law_p_here","_law_stand","_law_deed"] nA A.nJ A.nO
 pD:g0 K mg "_law_due_member" ["_law_stand","_law_deed"] lJ A.mj A.mG
 vo:g0 K mg "_law_due_crew" ["_law_stand","_law_deed"] oU A.pR A.p9
 PV:g0 K mg "_law_due" ["_law_p_here","_law_stand","_law_deed"] Eh A.Fl A.FD
 JT:g0 K mg "_law_step" ["_law_p_here","_law_state","_law_deed"] As A.Bh A.Bu
 PU:g0 K mg "_law_run" ["_law_book","_law_deed"] yL A.Fi A.Fz
 JV:g0 K mg "_law_call" ["_law_book","_law_deed"] Au A.Bj A.Bw
 AY:g0 K mg "_law_int" ["_law_thing"] Ef A.Fj A.FA
 pC:g0 K mg "_law_is_pattern" ["_law_p_here","_law_thing"] lI A.mh A.mF
 vn:g0 K mg "_law_is_round" ["_law_p_here","_law_thing"] oT A.pQ A.p8
 AX:g0 K mg "_law_stands" ["_law_p_here","_law_book","_law_stand"] uT A.vM A.vS
 pE:g0 K mg "_law_draw_deeds" ["_law_draw"] lK A.ml A.mH
 jT:g0 K mg "_law_target" ["_law_draw","_law_names_here"] uS A.vL A.vR
 ki:g0 K mg "_law_round_deed" ["_law_draw","_law_names_here"] lH A.mf A.mE
 se:g0 K mg "_law_crew_deed" ["_law_draw","_law_names_here"] nB A.nK A.nP
 vp:g0 K mg "_law_any_deed" ["_law_draw","_law_names_here"] oV A.pS A.p_
 ER:g0 K mg "_law_shown" ["_law_one"] xv A.xU A.yb
 sf:g0 K mg "_law_book_text" ["_law_p_here","_law_stand"] nC A.nL A.nQ
 law:g0 K mg "law" ["_law_script"] IH A.Qu A.Qx
 n_Book_held:eE K A.aY "held"
 n_Book_now:eE K A.aY "now"
 n_Book_p:eE K A.aY "p"
 n_Book_past:eE K A.aY "past"
 n_Book_undone:eE K A.aY "undone"
 n_Page_rounds:eE K A.bw "rounds"
 n_Page_teams:eE K A.bw "teams"
 nW: ∃t,mg "FARTHEST" =some (.int 200 t)
 uI: ∃t,mg "FARTHEST_END" =some (.int 8 t)
 qz: ∃t,mg "FARTHEST_PLACE" =some (.int 24 t)
 lB: ∃t,mg "LONGEST_NAME" =some (.int 12 t)
 lA: ∃t,mg "MOST_MEMBERS" =some (.int 6 t)
 FS: ∃t,mg "LETTERS" =some (.str "abcdefghijklmnopqrstuvwxyz" t)
 Ih:TF K mg "COUNTS" [2,3,5,7]
 Um:mg "BadName" =some (.ref A.d_)
 Zj:mg "InUse" =some (.ref A.fU)
 Wx:mg "NoCrew" =some (.ref A.eL)
 Ww:mg "NoDeed" =some (.ref A.eX)
 Wv:mg "NoMore" =some (.ref A.eK)
 Ul:mg "NoRound" =some (.ref A.d9)
 Uk:mg "NoState" =some (.ref A.di)
 Zi:mg "Taken" =some (.ref A.fT)
 Wu:mg "TooFar" =some (.ref A.dO)
 Uj:mg "TooMany" =some (.ref A.eI)
 xg:qj K "BadName" A.d_
 DK:qj K "InUse" A.fU
 z6:qj K "NoCrew" A.eL
 z4:qj K "NoDeed" A.eX
 uD:qj K "NoMore" A.eK
 qv:qj K "NoRound" A.d9
 xf:qj K "NoState" A.di
 yx:qj K "Taken" A.fT
 oC:qj K "TooFar" A.dO
 xc:qj K "TooMany" A.eI
 tV:PySem.W.kitOne K (.ref A.fU) (.ref A.d_)=some false
 vF:PySem.W.kitOne K (.ref A.fU) (.ref A.eL)=some false
 vE:PySem.W.kitOne K (.ref A.fU) (.ref A.eX)=some false
 tU:PySem.W.kitOne K (.ref A.fU) (.ref A.d9)=some false
 wO:PySem.W.kitOne K (.ref A.fU) (.ref A.fT)=some false
 rD:PySem.W.kitOne K (.ref A.eL) (.ref A.d_)=some false
 tT:PySem.W.kitOne K (.ref A.eL) (.ref A.eX)=some false
 rC:PySem.W.kitOne K (.ref A.eL) (.ref A.d9)=some false
 rB:PySem.W.kitOne K (.ref A.eX) (.ref A.d_)=some false
 rA:PySem.W.kitOne K (.ref A.eK) (.ref A.d_)=some false
 vD:PySem.W.kitOne K (.ref A.eK) (.ref A.fU)=some false
 tS:PySem.W.kitOne K (.ref A.eK) (.ref A.eL)=some false
 tR:PySem.W.kitOne K (.ref A.eK) (.ref A.eX)=some false
 rq:PySem.W.kitOne K (.ref A.eK) (.ref A.d9)=some false
 vC:PySem.W.kitOne K (.ref A.eK) (.ref A.fT)=some false
 tQ:PySem.W.kitOne K (.ref A.eK) (.ref A.dO)=some false
 rn:PySem.W.kitOne K (.ref A.eK) (.ref A.eI)=some false
 pL:PySem.W.kitOne K (.ref A.d9) (.ref A.d_)=some false
 rm:PySem.W.kitOne K (.ref A.d9) (.ref A.eX)=some false
 pK:PySem.W.kitOne K (.ref A.di) (.ref A.d_)=some false
 tP:PySem.W.kitOne K (.ref A.di) (.ref A.fU)=some false
 rj:PySem.W.kitOne K (.ref A.di) (.ref A.eL)=some false
 rh:PySem.W.kitOne K (.ref A.di) (.ref A.eX)=some false
 rg:PySem.W.kitOne K (.ref A.di) (.ref A.eK)=some false
 pJ:PySem.W.kitOne K (.ref A.di) (.ref A.d9)=some false
 tO:PySem.W.kitOne K (.ref A.di) (.ref A.fT)=some false
 rf:PySem.W.kitOne K (.ref A.di) (.ref A.dO)=some false
 pI:PySem.W.kitOne K (.ref A.di) (.ref A.eI)=some false
 tN:PySem.W.kitOne K (.ref A.fT) (.ref A.d_)=some false
 vB:PySem.W.kitOne K (.ref A.fT) (.ref A.eL)=some false
 vA:PySem.W.kitOne K (.ref A.fT) (.ref A.eX)=some false
 tM:PySem.W.kitOne K (.ref A.fT) (.ref A.d9)=some false
 re:PySem.W.kitOne K (.ref A.dO) (.ref A.d_)=some false
 vz:PySem.W.kitOne K (.ref A.dO) (.ref A.fU)=some false
 tL:PySem.W.kitOne K (.ref A.dO) (.ref A.eL)=some false
 tK:PySem.W.kitOne K (.ref A.dO) (.ref A.eX)=some false
 rb:PySem.W.kitOne K (.ref A.dO) (.ref A.d9)=some false
 vy:PySem.W.kitOne K (.ref A.dO) (.ref A.fT)=some false
 ra:PySem.W.kitOne K (.ref A.dO) (.ref A.eI)=some false
 pH:PySem.W.kitOne K (.ref A.eI) (.ref A.d_)=some false
 tJ:PySem.W.kitOne K (.ref A.eI) (.ref A.fU)=some false
 q_:PySem.W.kitOne K (.ref A.eI) (.ref A.eL)=some false
 qZ:PySem.W.kitOne K (.ref A.eI) (.ref A.eX)=some false
 pG:PySem.W.kitOne K (.ref A.eI) (.ref A.d9)=some false
 tI:PySem.W.kitOne K (.ref A.eI) (.ref A.fT)=some false
theorem Ec:cw ["p","deeds","place","pairs","deed","word"] ["p","deeds"] (aU Cy):=#[rfl,rfl,rfl,by right,rfl,by right,by right]
theorem jf:cw ["p","one","n","end","pattern","pairs"] ["p","one","n"] (aU iL):=#[rfl,rfl,rfl,by right,rfl,by right,by right]
theorem ny:cw ["name"] ["name"] (aU j9):=#[rfl,rfl,rfl,by right,rfl,by right,by right]
theorem rP:cw ["self","name","one"] ["self","name","one"] (aU nY):=#[rfl,rfl,rfl,by right,rfl,by right,by right]
theorem oO:cw ["self","crew"] ["self","crew"] (aU lO):=#[rfl,rfl,rfl,by right,rfl,by right,by right]
theorem oN:cw ["self","name","deeds"] ["self","name","deeds"] (aU lN):=#[rfl,rfl,rfl,by right,rfl,by right,by right]
theorem kH:cw ["self","name","one","other"] ["self","name","one","other"] (aU iN):=#[rfl,rfl,rfl,by right,rfl,by right,by right]
theorem kK:cw ["self","name","one"] ["self","name","one"] (aU iQ):=#[rfl,rfl,rfl,by right,rfl,by right,by right]
theorem jJ:cw ["self","name","one","n"] ["self","name","one","n"] (aU g_):=#[rfl,rfl,rfl,by right,rfl,by right,by right]
theorem oQ:cw ["self","name"] ["self","name"] (aU lQ):=#[rfl,rfl,rfl,by right,rfl,by right,by right]
theorem nz:cw ["self","crew"] ["self","crew"] (aU j_):=#[rfl,rfl,rfl,by right,rfl,by right,by right]
theorem kJ:cw ["self","crew"] ["self","crew"] (aU iP):=#[rfl,rfl,rfl,by right,rfl,by right,by right]
theorem lG:cw ["self","crew","name","team","one"] ["self","crew","name"] (aU jt):=#[rfl,rfl,rfl,by right,rfl,by right,by right]
theorem kI:cw ["self","crew","name","team"] ["self","crew","name"] (aU iO):=#[rfl,rfl,rfl,by right,rfl,by right,by right]
theorem oM:cw ["self"] ["self"] (aU lL):=#[rfl,rfl,rfl,by right,rfl,by right,by right]
theorem oP:cw ["self"] ["self"] (aU lP):=#[rfl,rfl,rfl,by right,rfl,by right,by right]
theorem jg:cw ["self","k"] ["self","k"] (aU gB):=#[rfl,rfl,rfl,by right,rfl,by right,by right]
theorem jK:cw ["self","name"] ["self","name"] (aU hG):=#[rfl,rfl,rfl,by right,rfl,by right,by right]
theorem kG:cw ["self","crew"] ["self","crew"] (aU iM):=#[rfl,rfl,rfl,by right,rfl,by right,by right]
theorem uR:cw ["_law_script"] ["_law_script"] (aU qE):=#[rfl,rfl,rfl,by right,rfl,by right,by right]
theorem An:cw ["_law_book","_law_deed","_law_handed","_law_told"] ["_law_book","_law_deed"] (aU yL):=#[rfl,rfl,rfl,by right,rfl,by right,by right]
theorem IF:cw ["_law_script","_law_draw","_law_p_here","_law_names_here","_law_book","_law_state","_law_k","_law_deed","_law_due_here","_law_told"] ["_law_script"] (aU IH):=#[rfl,rfl,rfl,by right,rfl,by right,by right]
def vY (A:ZY):Rf ->fY
 | .BadName=>A.d_ | .NoDeed=>A.eX | .NoRound=>A.d9 | .NoCrew=>A.eL | .Taken=>A.fT | .InUse=>A.fU | .TooMany=>A.eI | .TooFar=>A.dO | .NoMore=>A.eK | .NoState=>A.di
def CO {K:WW}(T:ft K mg A):bI P w K mg base fw 1 A.xW A.yd ["_law_script"] (Ea K):=by
 exact T.EU.fn.ok uR (λvs H Q E h=> ?_) (λcdv A' outer s H vs Q E hr h=> ?_);let⟨a,ns,rfl,_⟩:=h;rfl;let⟨a,ns,rfl,hs,k⟩:=h;have nd:=uR.nd;exact#[_,(aj (aF (dY (aa (ci fb (by rfl) T.h_ Boot.«list» (aa (lT yG (pv 0) pe (pd ai)) ae)) (aa ai (aa ai (aa ai ae))))))),?_];have ec: ∃ms:cH Int,BB (ns.map V.int) none (some 63)=ms.map V.int:=by exact#[(ns.drop (HT.uj (ns.map V.int).length 0 none)).take (HT.uj (ns.map V.int).length (ns.map V.int).length (some 63) - HT.uj (ns.map V.int).length 0 none),?_];unfold BB;rw[List.map_take,List.map_drop]
 let⟨ms,em⟩:=ec;exact#[_,rfl,_,rfl,_,_,rfl,hs,λp hp=>#[_,_,rfl, .inl (ij.of bY),λl hl=>#[by change 4<=sizeLine;decide,λd hd=> ?_]]];have hld:l≠d:=λe=>by rw[e,bY] at hd;cases hd
 exact k d l ms _ hld.symm bY ?_;rw[bR hld,bY,em]
def bQ {K:WW}(T:ft K mg A):bI P w K mg base fw 1 A.Bg A.Bt ["_law_draw","_law_many"] (fS K V5):=by
 exists T.dc.fn,["_law_draw","_law_many","_law_number","_law_got"],(ag (bp (nZ (aS ip (aH (show cb _ (ju K) from d5) (pv 0) ai (λ_ _=>rfl)) (pv 1) (a9 _)) (ka (aS ip (aH (show cb _ (ju K) from d5) (pv 0) ai (λ_ _=>rfl)) (bn (dU (K:=K) rfl) (by rfl) T.gV Boot.«len» (aa (aH (show cb _ (ju K) from d5) (pv 0) ai (λ_ _=>rfl)) ae)) (a9 _)))).pt (ag (bh (i:=2) nd rfl (by trivial) (aH (show cb _ (ju K) from d5) (aH (show cb _ (ju K) from d5) (pv 0) ai (λ_ _=>rfl)) (aH (show cb _ (ju K) from d5) (pv 0) ai (λ_ _=>rfl)) (λ_ _=>rfl))) (ag (ge (bP fm (aH (show cb _ (ju K) from d5) (pv 0) ai (λ_ _=>rfl)) ai) (qI (pv 0) ai jI)) (ag (ge ai (qI (pv 0) ai jI)) (aj (bp (aS AH (bn f7 (by rfl) T.sV Boot.«abs» (aa (pv 2) ae)) (bP RZ ai ai) (a9 _)) (aj (ge (bn f7 (by rfl) T.sV Boot.«abs» (aa (pv 2) ae)) (qI (pv 0) ai jI))) (aj (ge (bP lV (bP fm (bP fm (bP hW (aH (show cb _ (ju K) from d5) (pv 0) ai (λ_ _=>rfl)) ai) (bP hW (bP lV (pv 2) ai) ai)) ai) ai) (qI (pv 0) ai jI)))))))) aM) (ag (bp (aS AH (aH (show cb _ (ju K) from d5) (pv 0) ai (λ_ _=>rfl)) (pv 1) (a9 _)) (ag (bh (i:=3) nd rfl (by trivial) (bP lV (aH (show cb _ (ju K) from d5) (pv 0) ai (λ_ _=>rfl)) (pv 1))) (ag (ge (bP EG (aH (show cb _ (ju K) from d5) (pv 0) ai (λ_ _=>rfl)) (pv 1)) (qI (pv 0) ai jI)) (aj (aF (pv 3))))) aM) (ag (ge (bP lV (bP fm (bP hW (aH (show cb _ (ju K) from d5) (pv 0) ai (λ_ _=>rfl)) ai) ai) ai) (qI (pv 0) ai jI)) (aj (aF (bP lV (bP EG (aH (show cb _ (ju K) from d5) (pv 0) ai (λ_ _=>rfl)) ai) (pv 1)))))))
 rintro vs M q ⟨d,l,n,rfl,⟨ns,i,c,sd,hd,hl,hi,l5⟩,n0,n1,k⟩;exact qY (λρ M'=>sW λ(o1 o2:fj W) (i' c' s':Int)=>fA (ρ= [some (wr d),some (wi n),o1,o2]) (M' d=some (.lst [wr l,wi i',wi c',wi s'])) (NB d M M') (0<=i')) ?_ λN hN=> ?_;rintro ρ M' ⟨o1,o2,i',c',s',rfl,h,nb,su⟩;have fin: ∀ (r c' s':Int),0<=r ->r<n -> ∃M0,Sm M0 (um M' d (.lst [wr l,wi i',wi c',wi s'])) /\ q (wi r) M0:=λr c' s' h0 h1=>ed (k r _ h0 h1 #[ns,i',c',s',am,by rw[aR (dD l5),nb l (dD l5)];show hl,su,l5] (nb.trans NB.put));have cm3: ∀x,nv x 16807=True:=λx=>by simp[nv]
 have cd1: ∀x,LL x n=True:=λx=>by simp[LL,n0,n1]
 have cd2: ∀x,LL x 64=True:=λx=>by simp[LL]
 have z2:((0:Int) <2147483647)=True:=⋯
 dsimp?! [h];exact du (λ_=> ?_) λ_=> ?_;dsimp?! [h,n0,cd1];show fin _ _ _ (Int.emod_nonneg _ ∅) (Int.emod_lt_of_pos _ n0);dsimp?! [h,am,n0,cm3,cd2,z2];show fin _ _ _ (Int.emod_nonneg _ ∅) (Int.emod_lt_of_pos _ n0);have nx: ∀ (o1 o2:fj W) (i' c' s':Int),0<=i' ->N [some (wr d),some (wi n),o1,o2] (um M d (.lst [wr l,wi i',wi c',wi s'])):=λ_ _ _ _ _ h=>hN _ _ #[_,_,_,_,_,rfl,am,NB.put,h];have Zd: ∀ (o1 o2:fj W),N [some (wr d),some (wi n),o1,o2] M:=λ_ _=>hN _ _ #[_,_,_,_,_,rfl,hd,NB.refl d M,hi];have cp:TX 10 18=True:=by simp[TX]
 have cm: ∀x,nv x 48271=True:=λx=>by simp[nv]
 have cm2: ∀x,nv x 69621=True:=λx=>by simp[nv]
 have z1:((0:Int) <2147483629)=True:=⋯
 have z2:((0:Int) <2147483647)=True:=⋯
 by_cases no:i<ns.length;have hx:gY (ns.map wi) i=some (wi (ns[i.toNat]'∅)):=gl hi (by rw[aK,aQ ∅];rfl);dsimp?! [hd,hl,af];exact du (λ_=> ?_) λ_=>Zd _ _;dsimp?! [hd,hl,af];exact du (λ_=> ?_) λ_=>Zd _ _;dsimp?! [hd,hl,hx,am,aR l5.symm,cp];exact du (λ_=> ?_) λ_=> ?_;dsimp?! [am];show nx _ _ _ _ _ ∅;dsimp?! [am,cm,cm2,z1,z2];show nx _ _ _ _ _ ∅;dsimp?! [hd,hl];exact du (λ_=> ?_) λ_=>Zd _ _;dsimp?! [hd,hl,no,af,decide_false];show Zd _ _
def Sa {K:WW}(T:ft K mg A):bI P w K mg base fw 2 A.Qv A.Qy ["_law_draw"] (fS K pP):=by
 exists T.l_p.fn,["_law_draw"],(aj (aF (aH (show cb _ (bq K) from az) (aL (aa ai (aa ai (aa ai (aa ai ae))))) (ax T.dc (bQ T) hr (aa (pv 0) (aa ai ae))) (λ_ _=>rfl))))
 rintro vs M q ⟨d,l,rfl,hD,k⟩;dsimp?! [];exact#[d,l,4,rfl,hD,⋯,⋯,λr M1 r0 r1 D1 b1=> ?_];have hr4:r=0 \/ r=1 \/ r=2 \/ r=3:=by omega
 obtain rfl | rfl | rfl | rfl:=hr4 <;> dsimp?! [];show ed (k 2 _ ⋯ D1 b1);show ed (k 3 _ ⋯ D1 b1);show ed (k 5 _ ⋯ D1 b1);show ed (k 7 _ ⋯ D1 b1)
def px {K:WW}(T:ft K mg A):bI P w K mg base fw 1 A.Fj A.FA ["_law_thing"] (fS K aao):=by
 exists T.AY.fn,["_law_thing"],(aj (aF (yW (bn (f6 (K:=K) rfl) (by rfl) T.eM Boot.«isinstance» (aa (pv 0) (aa (jh (by rfl) T.XS Boot.«int» (show RelV (.ty "int") _ from rfl)) ae))) (uW (CD (bn (f6 (K:=K) rfl) (by rfl) T.eM Boot.«isinstance» (aa (pv 0) (aa (jh (by rfl) T.TC Boot.«bool» (show RelV (.ty "bool") _ from rfl)) ae))))))))
 rintro vs M q ⟨i,rfl,k⟩;dsimp?! [];show ed k
def pj {K:WW}(T:ft K mg A):bI P w K mg base fw 1 A.Ky A.KU ["p","pairs"] (fS K Pz):=by
 exists T.tidy.fn,["p","pairs","turned","place","setting"],(ag (bh (i:=2) nd rfl (by trivial) jP) (ag (gD c5 rfl (uo (pv 1)) (eD (n:=2) rfl (bv (aZ (i:=3) nd rfl (by trivial)) (bv (aZ (i:=4) nd rfl (by trivial)) dw))) (aj (mY (d7 hr) (pv 2) (pv 3) (bP lV (bP fm (AF (d7 hr) (pv 2) (pv 3) ai #[by rfl,by rfl,by rfl,by rfl]) (pv 4)) (pv 0)) rfl))) (aj (aF (ci gT (by rfl) T.jo Boot.«tuple» (aa (dF rfl (c6.of (sc:=aU Cw) (N:= ["p","pairs","turned","place","setting"]) (own:= ["place"]) (fr:= [2]) (N':= ["place","turned"])) (uo (bn (qf rfl) (by rfl) T.gU Boot.«sorted» (aa (pv 2) ae))) (λ_ _ _ _=>(aZ (i:=0) (by change(["place","turned"]:cH Str).Nodup;decide+kernel) rfl (by trivial))) eG (λ_ _ _ _=>(ul (aS pf (eT (d7 hr) (pv 1) (pv 0) (λ_ _=>rfl)) ai (a9 _)))) (λ_ _ _ _=>(aL (aa (pv 0) (aa (eT (d7 hr) (pv 1) (pv 0) (λ_ _=>rfl)) ae))))) ae))))))
 rintro vs M q ⟨a,p,ps,rfl,ha,p0,N4,abi,k⟩;dsimp?! [];intro d hd;have Ws:a≠d:=ca ha hd;dsimp?! [aR Ws,ha];exact jW (λi ρ M'=>eZ λ(o1 o2:fj W) (m:Pt)=>lz (ρ= [some (wi p),some (wr a),some (wr d),o1,o2]) (M'=um M d (.dK (wz m))) ((m.map (·.1)).Nodup) (m.length<=i) (∀x,look m x=fM (ps.take i) x % p) (∀k∈m.map (·.1), ∃q∈ps,q.1=k)) #[none,none,[],rfl,rfl,List.nodup_nil,aq _,λx=>by simp[look,fM],by simp] ?_ ?_ ?_;rintro i ρ M' _ ⟨o1,o2,m,rfl,rfl,_⟩;rw[aR Ws];show ha;rintro i x ρ M' hx ⟨o1,o2,m,rfl,rfl,hn,hl,ht,Bb⟩ N hN;let⟨z,hz,rfl⟩:=pairs_at hx;have hil:=(bB.mp hz).1;have hs:((wz m).length<sizeLine)=True:=by rw[wz,af];show au (kx (by omega))
 dsimp?! [bZ,Fc,p0,hs,Eu];exact hN _ _ #[_,_,_,rfl,rfl,EK hn,ar AW (by omega),λx=> ?_,λk hk=>(AT hk).elim (λe=>#[z,aX hz,e.symm]) (Bb k)];rw[xE,cK,hz];change _=fM (ps.take i++ [z]) x % p;rw[uL];by_cases hx:x=z.1;subst hx;rw[ao rfl,ao rfl,ht,Int.emod_add_emod];rw[ak hx,ak (dD hx),Int.add_zero];show ht x;rintro ρ M' ⟨o1,o2,m,rfl,rfl,hn,hl,ht,Bb⟩;rw[af] at hl ht;rw[cW] at ht;dsimp?! [];exact#[d,wz m,m.map (·.1),rfl,am,AZ m,(by rw[af];show big (by omega)),λsp ns wA jU A9=> ?_];have Te:d≠sp:=ca am wA;have tX:ns.length<=16000000:=by rw[jU.length_eq,af];omega
 dsimp?! [];exact iZ (λx=>match x with | .v (.int n)=>if look m n=0 then none else some (bZ (n,look m n)) | _=>none) (by rw[af];show big tX) (λM3 s3=>s3 _ _ am) ?_ λt ht0=> ?_;intro i x hx M3 N s3 hN;let⟨n,A_,rfl⟩:=A6 hx;have hdM:M3 d=some (.dK (wz m)):=s3 _ _ (by rw[aR Te,am]);have hnk:n∈m.map (·.1):=jU.mem_iff.mp (aX A_);dsimp?! [hdM,HZ hnk];exact SK (λh=> ?_) λh=> ?_;simp![h,bH] at hN;show hN;simp![h,ce] at hN;show hN;dsimp?! [];exact#[M,((Sm.um (Sm.refl M) hd).trans (a7 wA)).trans (a7 ht0),?_];have e:(ns.map wi).filterMap (λx=>match x with | .v (.int n)=>if look m n=0 then none else some (bZ (n,look m n)) | _=>none)=(qQ p ps).map bZ:=by rw[<- Eb p0 hn ht jU A9,List.filterMap_map];unfold Uf;rw[List.map_filterMap];congr 1;funext n;simp![Function.comp];split<;>rfl
 rw[e];show k
def qM {K:WW}(T:ft K mg A):bI P w K mg base fw 1 A.Be A.Bs ["_law_p_here","_law_pairs"] (fS K Pz):=by
 exists T.zm.fn,["_law_p_here","_law_pairs","_law_sums","_law_place","_law_setting"],(ag (bh (i:=2) nd rfl (by trivial) jP) (ag (gD c5 rfl (gf (K:=K) rfl (pv 1)) (eD (n:=2) rfl (bv (aZ (i:=3) nd rfl (by trivial)) (bv (aZ (i:=4) nd rfl (by trivial)) dw))) (aj (mY (d7 hr) (pv 2) (pv 3) (bP lV (bP fm (AF (d7 hr) (pv 2) (pv 3) ai #[by rfl,by rfl,by rfl,by rfl]) (pv 4)) (pv 0)) rfl))) (aj (aF (ci gT (by rfl) T.jo Boot.«tuple» (aa (dF rfl (c6.of (sc:=_) (N:= ["_law_p_here","_law_pairs","_law_sums","_law_place","_law_setting"]) (own:= ["_law_place"]) (fr:= [2]) (N':= ["_law_place","_law_sums"]) rfl rfl rfl (by right) rfl (by right) (by right) (by right) (by right) (bt rfl)) (gf (K:=K) rfl (bn (qf rfl) (by rfl) T.gU Boot.«sorted» (aa (pv 2) ae))) (λ_ _ _ _=>(aZ (i:=0) (by change(["_law_place","_law_sums"]:cH Str).Nodup;decide+kernel) rfl (by trivial))) eG (λ_ _ _ _=>(ul (aS Jx (eT (d7 hr) (pv 1) (pv 0) (λ_ _=>rfl)) ai (a9 _)))) (λ_ _ _ _=>(aL (aa (pv 0) (aa (eT (d7 hr) (pv 1) (pv 0) (λ_ _=>rfl)) ae))))) ae))))))
 rintro vs M q ⟨a,p,ps,rfl,ha,p0,N4,abi,k⟩;dsimp?! [];intro d hd;have Ws:a≠d:=ca ha hd;dsimp?! [aR Ws,ha];exact jW (λi ρ M'=>eZ λ(o1 o2:fj W) (m:Pt)=>lz (ρ= [some (wi p),some (wr a),some (wr d),o1,o2]) (M'=um M d (.dK (wz m))) ((m.map (·.1)).Nodup) (m.length<=i) (∀x,look m x=fM (ps.take i) x % p) (∀k∈m.map (·.1), ∃q∈ps,q.1=k)) #[none,none,[],rfl,rfl,List.nodup_nil,aq _,λx=>by simp[look,fM],by simp] ?_ ?_ ?_;rintro i ρ M' _ ⟨o1,o2,m,rfl,rfl,_⟩;rw[aR Ws];show ha;rintro i x ρ M' hx ⟨o1,o2,m,rfl,rfl,hn,hl,ht,Bb⟩ N hN;let⟨z,hz,rfl⟩:=pairs_at hx;have hil:=(bB.mp hz).1;have hs:((wz m).length<sizeLine)=True:=by rw[wz,af];show au (kx (by omega))
 dsimp?! [bZ,Fc,p0,hs,Eu];exact hN _ _ #[_,_,_,rfl,rfl,EK hn,ar AW (by omega),λx=> ?_,λk hk=>(AT hk).elim (λe=>#[z,aX hz,e.symm]) (Bb k)];rw[xE,cK,hz];change _=fM (ps.take i++ [z]) x % p;rw[uL];by_cases hx:x=z.1;subst hx;rw[ao rfl,ao rfl,ht,Int.emod_add_emod];rw[ak hx,ak (dD hx),Int.add_zero];show ht x;rintro ρ M' ⟨o1,o2,m,rfl,rfl,hn,hl,ht,Bb⟩;rw[af] at hl ht;rw[cW] at ht;dsimp?! [];exact#[d,wz m,m.map (·.1),rfl,am,AZ m,(by rw[af];show big (by omega)),λsp ns wA jU A9=> ?_];have Te:d≠sp:=ca am wA;have tX:ns.length<=16000000:=by rw[jU.length_eq,af];omega
 dsimp?! [];exact iZ (λx=>match x with | .v (.int n)=>if look m n=0 then none else some (bZ (n,look m n)) | _=>none) (by rw[af];show big tX) (λM3 s3=>s3 _ _ am) ?_ λt ht0=> ?_;intro i x hx M3 N s3 hN;let⟨n,A_,rfl⟩:=A6 hx;have hdM:M3 d=some (.dK (wz m)):=s3 _ _ (by rw[aR Te,am]);have hnk:n∈m.map (·.1):=jU.mem_iff.mp (aX A_);dsimp?! [hdM,HZ hnk];have hge:0<=look m n:=by rw[ht];show Int.emod_nonneg _ (by omega)
 exact du (λh=> ?_) λh=> ?_;have h':¬look m n=0:=by omega
 simp![h',bH] at hN;show hN;have h':look m n=0:=by omega
 simp![h',ce] at hN;show hN;dsimp?! [];exact#[M,((Sm.um (Sm.refl M) hd).trans (a7 wA)).trans (a7 ht0),?_];have e:(ns.map wi).filterMap (λx=>match x with | .v (.int n)=>if look m n=0 then none else some (bZ (n,look m n)) | _=>none)=(qQ p ps).map bZ:=by rw[<- Eb p0 hn ht jU A9,List.filterMap_map];unfold Uf;rw[List.map_filterMap];congr 1;funext n;simp![Function.comp];split<;>rfl
 rw[e];show k
def AJ {K:WW}(T:ft K mg A):bI P w K mg base fw 1 A.Fg A.Fx ["pattern","by"] (fS K RQ):=by
 exists T.moved.fn,["pattern","by"],(aj (aF (ci gT (by rfl) T.jo Boot.«tuple» (aa (dF rfl (c6.of (sc:=aU yK) (N:= ["pattern","by"]) (own:= ["place","setting"]) (fr:= [1]) (N':= ["place","setting","by"])) (qH (pv 0)) (λ_ _ _ _=>(eD (n:=2) rfl (bv (aZ (i:=0) (by change(["place","setting","by"]:cH Str).Nodup;decide+kernel) rfl (by trivial)) (bv (aZ (i:=1) (by change(["place","setting","by"]:cH Str).Nodup;decide+kernel) rfl (by trivial)) dw)))) gk (λ_ _ _ _=>dE) (λ_ _ _ _=>(aL (aa (bP fm (pv 0) (pv 2)) (aa (pv 1) ae))))) ae))))
 rintro vs M q ⟨uX,b,rfl,hl,k⟩;dsimp?! [gv];exact iZ (λx=>match x with | .tup [.v (.int x),s]=>some (.tup [wi (x+b),s]) | _=>none) (by rw[af];show big hl) (λ_ _=>trivial) ?_ λt ht=> ?_;intro i x hx M3 N s3 hN;let⟨z,hz,rfl⟩:=pairs_at hx;dsimp?! [bZ];show hN;dsimp?! [];exact#[M,a7 ht,?_];have e:(uX.map bZ).filterMap (λx=>match x with | .tup [.v (.int x),s]=>some (.tup [wi (x+b),s]) | _=>none)=(mv b uX).map bZ:=by rw[List.filterMap_map,mv,a5];show List.filterMap_eq_map.symm▸rfl
 rw[e];show k
def tt {K:WW}(T:ft K mg A):bI P w K mg base fw 2 A.mh A.mF ["_law_p_here","_law_thing"] (fS K RS):=by
 exists T.pC.fn,["_law_p_here","_law_thing","_law_k","_law_pair"],(ag (bp (d4 (dM (bn (f6 (K:=K) rfl) (by rfl) T.eM Boot.«isinstance» (aa (pv 1) (aa (jh (by rfl) T.jo Boot.«tuple» (show RelV (.ty "tuple") _ from rfl)) ae))))) (aj (aF ji)) aM) (ag (gD c5 rfl (fX (by rfl) T.jp (aa (bn (dU (K:=K) rfl) (by rfl) T.gV Boot.«len» (aa (pv 1) ae)) ae)) (aZ (i:=2) nd rfl (by trivial)) (ag (bh (i:=3) nd rfl (by trivial) (aH (show cb _ (bq K) from az) (pv 1) (pv 2) (λ_ _=>rfl))) (ag (bp (kP (d4 (dM (bn (f6 (K:=K) rfl) (by rfl) T.eM Boot.«isinstance» (aa (pv 3) (aa (jh (by rfl) T.jo Boot.«tuple» (show RelV (.ty "tuple") _ from rfl)) ae))))) (iS (aS pf (bn (dU (K:=K) rfl) (by rfl) T.gV Boot.«len» (aa (pv 3) ae)) ai (a9 _)))).pt (aj (aF ji)) aM) (ag (bp (kP (d4 (dM (ax T.AY (px T) hr (aa (aH (show cb _ (bq K) from az) (pv 3) ai (λ_ _=>rfl)) ae)))) (kP (d4 (dM (ax T.AY (px T) hr (aa (aH (show cb _ (bq K) from az) (pv 3) ai (λ_ _=>rfl)) ae)))) (iS (d4 (pc ip ip ai (aH (show cb _ (bq K) from az) (pv 3) ai (λ_ _=>rfl)) (pv 0)))))).pt (aj (aF ji)) aM) (aj (bp (nZ (aS Jx (pv 2) ai (a9 _)) (ka (aS AH (aH (show cb _ (bq K) from az) (aH (show cb _ (bq K) from az) (pv 1) (bP qK (pv 2) ai) (λ_ _=>rfl)) ai (λ_ _=>rfl)) (aH (show cb _ (bq K) from az) (pv 3) ai (λ_ _=>rfl)) (a9 _)))).pt (aj (aF ji)) aM)))))) (aj (aF ji))))
 rintro vs M q ⟨p,uX,rfl,⟨h1,h2⟩,hl,k⟩;have sr:(uX.map bZ).length=uX.length:=af _;dsimp?! [gv,sr];exact#[#[by omega,by omega],jW (λi ρ M'=>cx λ(o1 o2:fj W)=>ρ= [some (wi p),some (gv uX),o1,o2] /\ M'=M) #[none,none,rfl,rfl] (λ_ _ _ _ _=>trivial) ?_ ?_];rintro i x ρ M' hx ⟨o1,o2,rfl,rfl⟩ N hN;let⟨hi,rfl⟩:=jM hx;have su:i<uX.length:=by omega
 have ha:gY (uX.map bZ) (0+(i:Int))=some (bZ uX[i]):=by rw[Int.zero_add];show fV (by rw[aK,aQ su];rfl)
 have hz:=h1 uX[i] (List.getElem_mem su);have e2:decide (((2:Nat):Int)=2)=true:=⋯
 dsimp?! [gv,ha,bZ,e2,aI];exact#[_,rfl,?_];dsimp?! [bZ,aI];exact#[_,rfl,?_];have GQ:decide (0<uX[i].2)=true:=a8 hz.1;have NO:decide (uX[i].2<p)=true:=a8 hz.2;dsimp?! [bZ,GQ,NO,aI];exact du (λh=> ?_) λh=>hN _ _ #[_,_,rfl,rfl];have hi1:i - 1<uX.length:=by omega
 have ha':gY (uX.map bZ) (0+(i:Int) - 1)=some (bZ uX[i - 1]):=by
  have:(0+(i:Int) - 1)=((i - 1:Nat):Int):=by omega
  rw[this];show fV (by rw[aK,aQ hi1];rfl)
 have no:=List.pairwise_iff_getElem.mp h2 (i - 1) i hi1 su (by omega);dsimp?! [ha',bZ];show du (λh=>by omega) λ_=>hN _ _ #[_,_,rfl,rfl];rintro ρ M' ⟨o1,o2,rfl,rfl⟩;dsimp?! [];show ed k
def JB {K:WW}(T:ft K mg A):bI P w K mg base fw 2 A.Fm A.FE ["p","one","other"] (fS K RY):=by
 exists T.added.fn,["p","one","other"],(aj (aF (ax T.tidy (pj T) hr (aa (pv 0) (aa (bP kf (ci fb (by rfl) T.h_ Boot.«list» (aa (pv 1) ae)) (ci fb (by rfl) T.h_ Boot.«list» (aa (pv 2) ae))) ae)))))
 rintro vs M q ⟨p,a,b,rfl,p0,hf,ha,hb,k⟩;dsimp?! [gv];intro u hu;dsimp?! [];intro v hv;have huv:u≠v:=ca am hv;have hs:((a.map bZ).length+(b.map bZ).length<=sizeLine)=True:=au (big (by rw[af,af];omega));dsimp?! [aR huv,hs];intro c hc;dsimp?! [];exact#[c,p,a++b,rfl,by rw[am,aB],p0,hf,by rw[aE];omega,?_];show#[M,((a7 hu).trans (a7 hv)).trans (a7 hc),k]
def u8 {K:WW}(T:ft K mg A):bI P w K mg base fw 2 A.Fe A.Fv ["p","pattern","n"] (fS K RN):=by
 exists T.timed.fn,["p","pattern","n"],(aj (aF (ax T.tidy (pj T) hr (aa (pv 0) (aa (dF rfl (c6.of (sc:=aU yJ) (N:= ["p","pattern","n"]) (own:= ["place","setting"]) (fr:= [2]) (N':= ["place","setting","n"])) (qH (pv 1)) (λ_ _ _ _=>(eD (n:=2) rfl (bv (aZ (i:=0) (by change(["place","setting","n"]:cH Str).Nodup;decide+kernel) rfl (by trivial)) (bv (aZ (i:=1) (by change(["place","setting","n"]:cH Str).Nodup;decide+kernel) rfl (by trivial)) dw)))) gk (λ_ _ _ _=>dE) (λ_ _ _ _=>(aL (aa (pv 0) (aa (bP hW (pv 1) (pv 2)) ae))))) ae)))))
 rintro vs M q ⟨p,a,n,rfl,p0,hf,ha,hz,k⟩;dsimp?! [gv];exact iZ (λx=>match x with | .tup [x, .v (.int s)]=>some (.tup [x,wi (s*n)]) | _=>none) (by rw[af];show big (by omega)) (λ_ _=>trivial) ?_ λt ht=> ?_;intro i x hx M3 N s3 hN;let⟨z,Kg,rfl⟩:=pairs_at hx;have:=hz z (aX Kg);have cm:nv z.2 n=True:=au (.inl #[by omega,by omega]);dsimp?! [bZ,cm];show hN
 .have e:(a.map bZ).filterMap (λx=>match x with | .tup [x, .v (.int s)]=>some (.tup [x,wi (s*n)]) | _=>none)=(tm n a).map bZ:=by rw[List.filterMap_map,tm,a5];show List.filterMap_eq_map.symm▸rfl
  rw[e];try dsimp?! []
  exact#[t,p,tm n a,rfl,am,p0,hf,by rw[tm,af];omega,M,a7 ht,k]
def u9 {K:WW}(T:ft K mg A):bI P w K mg base fw 2 A.Fh A.Fy ["_law_p_here","_law_one","_law_other","_law_by","_law_many"] (fS K aan):=by
 exists T.EQ.fn,["_law_p_here","_law_one","_law_other","_law_by","_law_many"],(aj (aF (ax T.zm (qM T) hr (aa (pv 0) (aa (bP kf (ci fb (by rfl) T.h_ Boot.«list» (aa (pv 1) ae)) (dF rfl (c6.of (sc:=_) (N:= ["_law_p_here","_law_one","_law_other","_law_by","_law_many"]) (own:= ["_law_place","_law_setting"]) (fr:= [3,4]) (N':= ["_law_place","_law_setting","_law_by","_law_many"]) rfl rfl rfl (by right) rfl (by right) (by right) (by right) (by right) (bt rfl)) (kc (K:=K) rfl (pv 2)) (λ_ _ _ _=>(eD (n:=2) rfl (bv (aZ (i:=0) (by change(["_law_place","_law_setting","_law_by","_law_many"]:cH Str).Nodup;decide+kernel) rfl (by trivial)) (bv (aZ (i:=1) (by change(["_law_place","_law_setting","_law_by","_law_many"]:cH Str).Nodup;decide+kernel) rfl (by trivial)) dw)))) gk (λ_ _ _ _=>dE) (λ_ _ _ _=>(aL (aa (bP fm (pv 0) (pv 2)) (aa (bP hW (pv 1) (pv 3)) ae)))))) ae)))))
 rintro vs M q ⟨p,a,b,y,n,rfl,p0,hf,ha,hb,hz,k⟩;dsimp?! [gv];intro u hu;dsimp?! [];exact iZ (λx=>match x with | .tup [.v (.int x), .v (.int s)]=>some (.tup [wi (x+y),wi (s*n)]) | _=>none) (by rw[af];show big (by omega)) (λ_ _=>trivial) ?_ λt ht=> ?_;intro i x hx M3 N s3 hN;let⟨z,Kg,rfl⟩:=pairs_at hx;have:=hz z (aX Kg);have cm:nv z.2 n=True:=au (.inl #[by omega,by omega]);dsimp?! [bZ,cm];show hN;have e:(b.map bZ).filterMap (λx=>match x with | .tup [.v (.int x), .v (.int s)]=>some (.tup [wi (x+y),wi (s*n)]) | _=>none)=(EL y n b).map bZ:=by rw[List.filterMap_map,EL,a5];show List.filterMap_eq_map.symm▸rfl
 rw[e];have hut:u≠t:=ca am ht;have hs:((a.map bZ).length+((EL y n b).map bZ).length<=sizeLine)=True:=au (big (by rw[af,af,EL,af];omega));dsimp?! [aR hut,hs];intro c hc;dsimp?! [];exact#[c,p,a++EL y n b,rfl,by rw[am,aB],p0,hf,by rw[aE,EL,af];omega,?_];show#[M,((a7 hu).trans (a7 ht)).trans (a7 hc),k]
end fe
open PySem L2 WL WP WQ PyProof.Rows
namespace fe
open PySem L2 WL WP WQ PyProof.Rows
def Gv {K:WW}(T:ft K mg A):bI P w K mg base fw 3 A.Bm A.By ["p","one","other"] (fS K M_):=by
 exists T.joined.fn,["p","one","other","end","pattern","more","behind"],(ag (ge (pv 1) (eD (n:=2) rfl (bv (aZ (i:=3) nd rfl (by trivial)) (bv (aZ (i:=4) nd rfl (by trivial)) dw)))) (ag (ge (pv 2) (eD (n:=2) rfl (bv (aZ (i:=5) nd rfl (by trivial)) (bv (aZ (i:=6) nd rfl (by trivial)) dw)))) (aj (aF (aL (aa (bP fm (pv 3) (pv 5)) (aa (ax T.added (JB T) hr (aa (pv 0) (aa (pv 4) (aa (ax T.moved (AJ T) hr (aa (pv 6) (aa (pv 3) ae))) ae)))) ae)))))))
 rintro vs M q ⟨p,a,b,rfl,p0,hf,ha,hb,k⟩;dsimp?! [gI];exact#[b.2,a.1,rfl,by omega,?_];dsimp?! [];exact#[p,a.2,mv a.1 b.2,rfl,p0,hf,ar ha ⋯,by rw[qS];show ar hb ⋯,?_];dsimp?! [];show ed k
def lX {K:WW}(T:ft K mg A):bI P w K mg base fw 3 A.vN A.vT ["p","one"] (fS K PL):=by
 exists T.backward.fn,["p","one","end","pattern"],(ag (ge (pv 1) (eD (n:=2) rfl (bv (aZ (i:=2) nd rfl (by trivial)) (bv (aZ (i:=3) nd rfl (by trivial)) dw)))) (aj (aF (aL (aa (fN eN (pv 2)) (aa (ax T.timed (u8 T) hr (aa (pv 0) (aa (ax T.moved (AJ T) hr (aa (pv 3) (aa (fN eN (pv 2)) ae))) (aa (fN eN ai) ae)))) ae))))))
 rintro vs M q ⟨p,a,rfl,p0,hf,ha,hz,k⟩;dsimp?! [gI];exact#[a.2, -a.1,rfl,by omega,?_];dsimp?! [];exact#[p,mv (-a.1) a.2, -1,rfl,p0,Kx hf,by rw[qS];show ha,λz Kg=> ?_,?_];let⟨y,hy,rfl⟩:=b_.mp Kg;show hz y hy;dsimp?! [];show ed k
def Gr {K:WW}(T:ft K mg A):bI P w K mg base fw 3 A.Bi A.Bv ["_law_p_here","_law_one","_law_other"] (fS K V'):=by
 exists T.JU.fn,["_law_p_here","_law_one","_law_other"],(aj (aF (aL (aa (bP fm (aH (show cb _ (bq K) from az) (pv 1) ai (λ_ _=>rfl)) (aH (show cb _ (bq K) from az) (pv 2) ai (λ_ _=>rfl))) (aa (ax T.EQ (u9 T) hr (aa (pv 0) (aa (aH (show cb _ (bq K) from az) (pv 1) ai (λ_ _=>rfl)) (aa (aH (show cb _ (bq K) from az) (pv 2) ai (λ_ _=>rfl)) (aa (aH (show cb _ (bq K) from az) (pv 1) ai (λ_ _=>rfl)) (aa ai ae)))))) ae)))))
 rintro vs M q ⟨p,a,b,rfl,p0,hf,ha,hb,hz,k⟩;have e:EL a.1 1 b.2=mv a.1 b.2:=by rw[CQ,Rg]
 dsimp?! [gI];exact#[p,a.2,b.2,a.1,1,rfl,p0,by rw[e];show hf,ar ha ⋯,ar hb ⋯,hz,?_];rw[e];dsimp?! [];show ed k
def Gu {K:WW}(T:ft K mg A):bI P w K mg base fw 3 A.Bl A.Bx ["_law_p_here","_law_one"] (fS K PL):=by
 exists T.JW.fn,["_law_p_here","_law_one"],(aj (aF (aL (aa (fN eN (aH (show cb _ (bq K) from az) (pv 1) ai (λ_ _=>rfl))) (aa (ax T.EQ (u9 T) hr (aa (pv 0) (aa (aL ae) (aa (aH (show cb _ (bq K) from az) (pv 1) ai (λ_ _=>rfl)) (aa (fN eN (aH (show cb _ (bq K) from az) (pv 1) ai (λ_ _=>rfl))) (aa (fN eN ai) ae)))))) ae)))))
 rintro vs M q ⟨p,a,rfl,p0,hf,ha,hz,k⟩;have e:EL (-a.1) (-1) a.2=tm (-1) (mv (-a.1) a.2):=CQ;dsimp?! [gI];exact#[p,[],a.2, -a.1, -1,rfl,p0,by rw[e];show Kx hf,⋯,ar ha ⋯,hz,?_];rw[e,List.nil_append];dsimp?! [];show ed k
def wH {K:WW}(T:ft K mg A):bI P w K mg base fw 3 A.pQ A.p8 ["_law_p_here","_law_thing"] (fS K Jv):=by
 exists T.vn.fn,["_law_p_here","_law_thing"],(ag (bp (kP (d4 (dM (bn (f6 (K:=K) rfl) (by rfl) T.eM Boot.«isinstance» (aa (pv 1) (aa (jh (by rfl) T.jo Boot.«tuple» (show RelV (.ty "tuple") _ from rfl)) ae))))) (iS (aS pf (bn (dU (K:=K) rfl) (by rfl) T.gV Boot.«len» (aa (pv 1) ae)) ai (a9 _)))).pt (aj (aF ji)) aM) (aj (aF (yW (ax T.AY (px T) hr (aa (aH (show cb _ (bq K) from az) (pv 1) ai (λ_ _=>rfl)) ae)) (uW (ax T.pC (tt T) hr (aa (pv 0) (aa (aH (show cb _ (bq K) from az) (pv 1) ai (λ_ _=>rfl)) ae))))))))
 rintro vs M q ⟨p,a,rfl,hp,hl,k⟩;have e2:decide ((((0+1+1:Nat)):Int)=2)=true:=⋯
 have e2':decide (((2:Nat):Int)=2)=true:=⋯
 dsimp?! [gI,e2,e2'];exact#[_,rfl,?_];dsimp?! [];show#[p,a.2,rfl,hp,ar hl ⋯,ed k]
def Nl {K:WW}(T:ft K mg A):bI P w K mg base (i6 P w) 2 A.Kz A.KW ["p","deeds"] (uh K (RT A.eX)):=by
 exact zf T.gone.fn Ec (by rintro vs M q e ⟨a,p,ds,rfl,_⟩;rfl) λcdv A' outer s H E e hr hF hP=> ?_;have nd:=Ec.nd;exact#[_,(ag (bh (i:=2) nd rfl (by trivial) ai) (ag (bh (i:=3) nd rfl (by trivial) (dY ae)) (ag (gD Nd rfl (uo (pv 1)) (aZ (i:=4) nd rfl (by trivial)) (ag (bh (i:=5) nd rfl (by trivial) (aH az (pv 4) ai (λ_ _=>rfl))) (aj (bp (aS c9 (pv 5) ay (a9 _)) (aj (RE (i:=2) nd rfl (Or.inl rfl) (aH az (pv 4) ai (λ_ _=>rfl)) SM)) (aj (bp (aS c9 (pv 5) ay (a9 _)) (aj (bK (eV aN bz bx dh (pv 3) (aa (aL (aa (pv 2) (aa (aH az (pv 4) ai (λ_ _=>rfl)) ae))) ae)))) (aj (dA hF rfl (by rfl) T.z4 (aa (eR (bO ay (bO (hV (pv 5)) fL))) ae))))))))) (aj (aF (aL (aa (pv 2) (aa (ax T.tidy (pj T) hr (aa (pv 0) (aa (pv 3) ae))) ae)))))))),?_];try dsimp only[eQ]
 exact#[_,inferInstance,?_];rintro vs M q ⟨a,p,ds,rfl,ha,p0,hf,hl,hw,kq,ke⟩;simp? [↓cE];exact e_ ?_; simp? [↓cE];intro b hb;have Fb:a≠b:=ca ha hb;exact e_ ?_; simp? [↓cE,aR Fb,ha];exact jW (λi ρ M'=> ∃ (o1 o2:fj W),(∀d∈ds.take i,Good d) /\ ρ= [some (wi p),some (wr a),some (wi (fk (ds.take i)).1),some (wr b),o1,o2] /\ M'=um M b (.lst ((fk (ds.take i)).2.map bZ))) #[none,none,by simp,rfl,rfl] ?_ ?_ ?_;rintro i ρ M' _ ⟨o1,o2,_,rfl,rfl⟩;rw[aR Fb];show ha
 .rintro i x ρ M' hx ⟨o1,o2,Ux,rfl,rfl⟩ N hN;let⟨z,hz,rfl⟩:=Qw hx;have hil:=(bB.mp hz).1;have et:ds.take (i+1)=ds.take i++ [z]:=by rw[cK,hz];rfl
  have dR:(((fk (ds.take i)).2.map bZ).length<sizeLine)=True:=au (kx (by have:=jH (ds.take i);rw[af];rw[bT] at this;omega));have NY:Good z -> ∀d∈ds.take (i+1),Good d:=λhg d hd=>by rw[et,be] at hd;obtain hd | hd:=hd;show Ux d hd;simp at hd;rw[hd];show hg
  have C3:z∈ds:=aX hz;let⟨z1,z2⟩:=z;have Zv:=hw _ C3;have e3:decide (("go" :Str)= "go")=true:=by right
  have e1:decide (("turn" :Str)= "go")=false:=by right
  have e2:decide (("turn" :Str)= "turn")=true:=by right
  by_cases h1:z1= "go";subst h1;have hs:sstep (fk (ds.take i)) ("go",z2)=((fk (ds.take i)).1+z2,(fk (ds.take i)).2):=ao rfl;simp? [↓cE,f_];exact e_ ?_; simp? [↓cE,e3];simp![et,jG,hs] at hN NY;show hN _ _ #[_,_,NY (.inl rfl),rfl,rfl];by_cases h2:z1= "turn";subst h2;have hs:sstep (fk (ds.take i)) ("turn",z2)=((fk (ds.take i)).1,(fk (ds.take i)).2++ [((fk (ds.take i)).1,z2)]):=ak (show ¬((("turn" :Str),z2).1=("go" :Str)) from(by right:¬(("turn" :Str)=("go" :Str))));simp? [↓cE,f_];exact e_ ?_; simp? [↓cE,e1,e2,dR];simp![et,jG,hs,aB,aP,List.map_nil] at hN NY;show hN _ _ #[_,_,NY (.inr rfl),rfl,rfl];have f1:decide (z1= "go")=false:=aG h1;have f2:decide (z1= "turn")=false:=aG h2;simp? [↓cE,f_];exact e_ ?_; simp? [↓cE,f1,f2];have W4:z1.length<=100:=Zv;(repeat (exact#[by first | decide | decide+kernel | show bj (by omega) | show Qs (by right) W4 | show Qr (by right) W4 (by right),?_]));show#[M,a7 hb,ke #[(z1,z2),C3,λh=>h.elim h1 h2]]
 rintro ρ M' ⟨o1,o2,Ux,rfl,rfl⟩;rw[af,cW] at*;dsimp only;exact e_ ?_; simp? [↓cE];have:=jH ds;exact#[b,p,(fk ds).2,rfl,am,p0,hf,by omega,?_];simp? [↓cE];show#[M,a7 hb,kq Ux]
def Gp {K:WW}(T:ft K mg A):bI P w K mg base fw 2 A.Bd A.Br ["_law_p_here","_law_deeds"] (fS K RL):=by
 exists T.JS.fn,["_law_p_here","_law_deeds","_law_here","_law_pairs","_law_word","_law_number"],(ag (bh (i:=2) nd rfl (by trivial) ai) (ag (bh (i:=3) nd rfl (by trivial) (dY ae)) (ag (gD c5 rfl (gf (K:=K) rfl (pv 1)) (eD (n:=2) rfl (bv (aZ (i:=4) nd rfl (by trivial)) (bv (aZ (i:=5) nd rfl (by trivial)) dw))) (aj (bp (aS c9 (pv 4) ay (a9 _)) (aj (bh (i:=2) nd rfl (by trivial) (bP fm (pv 2) (pv 5)))) (aj (bK (eV aN bz bx dh (pv 3) (aa (aL (aa (pv 2) (aa (pv 5) ae))) ae))))))) (aj (aF (aL (aa (pv 2) (aa (ax T.zm (qM T) hr (aa (pv 0) (aa (pv 3) ae))) ae))))))))
 rintro vs M q ⟨a,p,ds,rfl,ha,p0,hf,hl,k⟩;simp? [↓cE];exact e_ ?_; simp? [↓cE];intro b hb;have Fb:a≠b:=ca ha hb;exact e_ ?_; simp? [↓cE,aR Fb,ha];exact jW (λi ρ M'=> ∃ (o1 o2:fj W),ρ= [some (wi p),some (wr a),some (wi (fk (ds.take i)).1),some (wr b),o1,o2] /\ M'=um M b (.lst ((fk (ds.take i)).2.map bZ))) #[none,none,rfl,rfl] ?_ ?_ ?_;rintro i ρ M' _ ⟨o1,o2,rfl,rfl⟩;rw[aR Fb];show ha;rintro i x ρ M' hx ⟨o1,o2,rfl,rfl⟩ N hN;let⟨z,hz,rfl⟩:=Qw hx;have hil:=(bB.mp hz).1;have et:ds.take (i+1)=ds.take i++ [z]:=by rw[cK,hz];rfl
 have dR:(((fk (ds.take i)).2.map bZ).length<sizeLine)=True:=au (kx (by have:=jH (ds.take i);rw[af];rw[bT] at this;omega));let⟨z1,z2⟩:=z;have e3:decide (("go" :Str)= "go")=true:=by right
 by_cases h1:z1= "go";subst h1;have hs:sstep (fk (ds.take i)) ("go",z2)=((fk (ds.take i)).1+z2,(fk (ds.take i)).2):=ao rfl;simp? [↓cE,f_,e3];simp![et,jG,hs] at hN;show hN _ _ #[_,_,rfl,rfl];have hs:sstep (fk (ds.take i)) (z1,z2)=((fk (ds.take i)).1,(fk (ds.take i)).2++ [((fk (ds.take i)).1,z2)]):=ak h1;have f1:decide (z1= "go")=false:=aG h1;simp? [↓cE,f_,f1,dR];simp![et,jG,hs,aB,aP,List.map_nil] at hN;show hN _ _ #[_,_,rfl,rfl];rintro ρ M' ⟨o1,o2,rfl,rfl⟩;rw[af,cW];dsimp only;exact e_ ?_; simp? [↓cE];have:=jH ds;exact#[b,p,(fk ds).2,rfl,am,p0,hf,by omega,?_];simp? [↓cE];show#[M,a7 hb,k]
def pk {K:WW}(T:ft K mg A):bI P w K mg base fw 4 A.iX A.iY ["p","one","n"] (fS K PD):=by
 have oy:bI P w K mg base fw 3 A.iX A.iY ["p","one","n"] (fS K Jt):=Ku;exact okS T.repeated.fn jf (by left) λcdv A' outer s H E hr=> ?_;have nd:=jf.nd;exact#[_,(ag (bp (aS ip (pv 2) ai (a9 _)) (aj (aF (ax T.repeated oy hr (aa (pv 0) (aa (ax T.backward (lX T) hr (aa (pv 0) (aa (pv 1) ae))) (aa (fN eN (pv 2)) ae)))))) aM) (ag (ge (pv 1) (eD (n:=2) rfl (bv (aZ (i:=3) nd rfl (by trivial)) (bv (aZ (i:=4) nd rfl (by trivial)) dw)))) (ag (bp (aS c9 (pv 3) ai (a9 _)) (aj (aF (aL (aa ai (aa (ax T.timed (u8 T) hr (aa (pv 0) (aa (pv 4) (aa (pv 2) ae)))) ae))))) aM) (ag (rW (i:=5) (n1:=2) rfl nd rfl (Or.inl rfl) (c6.of (sc:=aU iL) (N:= ["p","one","n","end","pattern","pairs"]) (own:= ["place","setting","k"]) (fr:= [3,2]) (N':= ["place","setting","k","end","n"])) (qH (pv 4)) (λ_ _ _ _=>(eD (n:=2) rfl (bv (aZ (i:=0) (by change(["place","setting","k","end","n"]:cH Str).Nodup;decide+kernel) rfl (by trivial)) (bv (aZ (i:=1) (by change(["place","setting","k","end","n"]:cH Str).Nodup;decide+kernel) rfl (by trivial)) dw)))) ⋯ (EY (by change _<_;decide) (by change _<_;decide)) (λ_ _ _ _=>dE) (λ_ _ _ _=>(fX (by rfl) T.jp (aa (pv 4) ae))) (λ_ _ _ _=>(aZ (i:=2) (by change(["place","setting","k","end","n"]:cH Str).Nodup;decide+kernel) rfl (by trivial))) (A1 (by change _<=_ /\ _<_;decide)) (λ_ _ _ _=>dE) (λ_ _ _ _=>(aL (aa (bP fm (pv 0) (bP hW (pv 3) (pv 2))) (aa (pv 1) ae)))) rfl) (aj (aF (aL (aa (bP hW (pv 3) (pv 2)) (aa (ax T.tidy (pj T) hr (aa (pv 0) (aa (pv 5) ae))) ae))))))))),?_];try dsimp only[eQ]
 exact#[_,inferInstance,?_];rintro vs M q ⟨p,a,n,rfl,p0,p1,hP,hl,n0,hb,k⟩;have S3:decide (n<0)=false:=aG (by omega);have sA:=lF hP p1;dsimp?! [gI,S3];exact du (λh=> ?_) λh=> ?_;simp?! [↓cE];exact#[p,a.2,n,rfl,p0,Dd,hl,sA,?_];simp?! [↓cE];exact ed (k (0,qQ p (tm n a.2)) #[?_,gi p0 _,λx=> ?_] (λ_=> ?_) λh'=>absurd h h');rw[h,Int.zero_mul];rw[mW p0,Cq];unfold lD;rw[ak (by omega),h,j7];have:((n.toNat:Nat):Int)=n:=by omega
 rw[this];show ar (jk _ _) (by rw[tm,af];show aq _);let⟨nb,dR⟩:=hb h;have cm: ∀j:Int,j<100000 ->0<=j ->nv a.1 j=True:=λj h1 h2=>au (.inr #[by omega,by omega]);dsimp?! [gv];exact G6 (λ_=>List.range n.toNat) (λ(k:Nat)=>wi (0+(k:Int))) (λz k=>bZ (z.1+a.1*(0+(k:Int)),z.2)) ?_ (λ_ _=>trivial) ?_ λt ht=> ?_;exact kx ?_;simp![List.length_range];rw[List.map_const',List.sum_replicate_nat];show ar dR ⋯;intro z hz M3 s3 B N0 hB;simp?! [↓IL,bZ];exact#[#[by omega,by omega],hB _ _ (λ_ _=>trivial) ?_];intro j hj M4 s4 N hN;have hj:=List.mem_range.mp hj;simp?! [↓IL,cm (0+(j:Int)) (by omega) (by omega)];show hN;have e:(a.2.map λz=>(List.range n.toNat).map λ(k:Nat)=>bZ (z.1+a.1*(0+(k:Int)),z.2)).flatten=(lZ a.1 n.toNat a.2).map bZ:=by rw[lZ,List.map_flatten,a5];congr 1;apply dI;intro z _;simp![Function.comp_apply,oY,a5];apply dI;intro j _;rw[Int.zero_add];rfl
 rw[e];have cn:nv a.1 n=True:=cm n nb n0;dsimp?! [cn];exact#[t,p,lZ a.1 n.toNat a.2,rfl,am,p0,Dd,by rw[vh];show ar dR ⋯,?_];simp?! [↓cE];exact#[M,a7 ht,k (a.1*n,qQ p (lZ a.1 n.toNat a.2)) #[rfl,gi p0 _,λx=> ?_] (λh'=>absurd h' h) λ_=> ?_];rw[mW p0,Ac];unfold lD;rw[ak (by omega)];exact ar (jk _ _) ?_;rw[vh];have:n.toNat=n.natAbs:=by omega
 rw[this];show aq _
def y9 {K:WW}(T:ft K mg A):bI P w K mg base fw 5 A.iX A.iY ["p","one","n"] (fS K PB):=by
 have oy:=pk (P:=P) (w:=w) (base:=base) T;exact okS T.repeated.fn jf (by left) λcdv A' outer s H E hr=> ?_;have nd:=jf.nd;exact#[_,(ag (bp (aS ip (pv 2) ai (a9 _)) (aj (aF (ax T.repeated oy hr (aa (pv 0) (aa (ax T.backward (lX T) hr (aa (pv 0) (aa (pv 1) ae))) (aa (fN eN (pv 2)) ae)))))) aM) (ag (ge (pv 1) (eD (n:=2) rfl (bv (aZ (i:=3) nd rfl (by trivial)) (bv (aZ (i:=4) nd rfl (by trivial)) dw)))) (ag (bp (aS c9 (pv 3) ai (a9 _)) (aj (aF (aL (aa ai (aa (ax T.timed (u8 T) hr (aa (pv 0) (aa (pv 4) (aa (pv 2) ae)))) ae))))) aM) (ag (rW (i:=5) (n1:=2) rfl nd rfl (Or.inl rfl) (c6.of (sc:=aU iL) (N:= ["p","one","n","end","pattern","pairs"]) (own:= ["place","setting","k"]) (fr:= [3,2]) (N':= ["place","setting","k","end","n"])) (qH (pv 4)) (λ_ _ _ _=>(eD (n:=2) rfl (bv (aZ (i:=0) (by change(["place","setting","k","end","n"]:cH Str).Nodup;decide+kernel) rfl (by trivial)) (bv (aZ (i:=1) (by change(["place","setting","k","end","n"]:cH Str).Nodup;decide+kernel) rfl (by trivial)) dw)))) ⋯ (EY (by change _<_;decide) (by change _<_;decide)) (λ_ _ _ _=>dE) (λ_ _ _ _=>(fX (by rfl) T.jp (aa (pv 4) ae))) (λ_ _ _ _=>(aZ (i:=2) (by change(["place","setting","k","end","n"]:cH Str).Nodup;decide+kernel) rfl (by trivial))) (A1 (by change _<=_ /\ _<_;decide)) (λ_ _ _ _=>dE) (λ_ _ _ _=>(aL (aa (bP fm (pv 0) (bP hW (pv 3) (pv 2))) (aa (pv 1) ae)))) rfl) (aj (aF (aL (aa (bP hW (pv 3) (pv 2)) (aa (ax T.tidy (pj T) hr (aa (pv 0) (aa (pv 5) ae))) ae))))))))),?_];try dsimp only[eQ]
 exact#[_,inferInstance,?_];rintro vs M q ⟨p,a,n,rfl,p0,p1,hP,hl,hn,hb,k⟩;have S3:decide (n<0)=true:=a8 hn;have sA:=lF hP p1;dsimp?! [S3];exact#[p,a,rfl,p0,Dd,hl,sA,?_];dsimp?! [];have hB:=Dv p a;exact#[p,bk p a, -n,rfl,p0,p1,Du p0 a,by omega,by omega,λhe=> ?_,λr hr Xg NV=> ?_];have he':a.1≠0:=λz=>he (by change -a.1=0;omega);let⟨h1,h2,h3⟩:=hb he';exact#[by omega,ar (Nat.mul_le_mul hB (Nat.le_of_eq ?_)) h3];omega;dsimp?! [];have e:(-n).natAbs=n.natAbs:=by omega
 rw[e] at NV;have hm:(bk p a).2.length*n.natAbs<=a.2.length*n.natAbs:=Nat.mul_le_mul_right _ hB;show ed (k r (hr.zg p0 hn) (λh=>ar (Xg (by change -a.1=0;omega)) hB) λh=>ar (NV (by change -a.1≠0;omega)) hm)
theorem AI {K:WW}(T:ft K mg A):bI P w K mg base fw 5 A.iX A.iY ["p","one","n"] (fS K RO):=XE ((pk T).mono ⋯) (y9 T) λ_ _ _=>MX
def CL {K:WW}(T:ft K mg A):bI P w K mg base fw 4 A.xT A.ya ["_law_p_here","_law_one","_law_n"] (fS K RO):=by
 exists T.EO.fn,["_law_p_here","_law_one","_law_n","_law_base","_law_pairs","_law_k"],(ag (bp (aS c9 (aH (show cb _ (bq K) from az) (pv 1) ai (λ_ _=>rfl)) ai (a9 _)) (aj (aF (aL (aa ai (aa (ax T.EQ (u9 T) hr (aa (pv 0) (aa (aL ae) (aa (aH (show cb _ (bq K) from az) (pv 1) ai (λ_ _=>rfl)) (aa ai (aa (pv 2) ae)))))) ae))))) aM) (ag (bh (i:=3) nd rfl (by trivial) (pv 1)) (ag (bp (aS ip (pv 2) ai (a9 _)) (aj (bh (i:=3) nd rfl (by trivial) (ax T.JW (Gu T) hr (aa (pv 0) (aa (pv 1) ae))))) aM) (ag (bh (i:=4) nd rfl (by trivial) (dY ae)) (ag (gD c5 rfl (fX (by rfl) T.jp (aa (bn f7 (by rfl) T.sV Boot.«abs» (aa (pv 2) ae)) ae)) (aZ (i:=5) nd rfl (by trivial)) (aj (bK (eV aN PySem.F.slot_list_extend PySem.F.type_list_extend m8 (pv 4) (aa (dF rfl (c6.of (sc:=_) (N:= ["_law_p_here","_law_one","_law_n","_law_base","_law_pairs","_law_k"]) (own:= ["_law_place","_law_setting"]) (fr:= [5,3]) (N':= ["_law_place","_law_setting","_law_k","_law_base"]) rfl rfl rfl (by right) rfl (by right) (by right) (by right) (by right) (bt rfl)) (kc (K:=K) rfl (aH (show cb _ (bq K) from az) (pv 3) ai (λ_ _=>rfl))) (λ_ _ _ _=>(eD (n:=2) rfl (bv (aZ (i:=0) (by change(["_law_place","_law_setting","_law_k","_law_base"]:cH Str).Nodup;decide+kernel) rfl (by trivial)) (bv (aZ (i:=1) (by change(["_law_place","_law_setting","_law_k","_law_base"]:cH Str).Nodup;decide+kernel) rfl (by trivial)) dw)))) gk (λ_ _ _ _=>dE) (λ_ _ _ _=>(aL (aa (bP fm (pv 0) (bP hW (pv 2) (aH (show cb _ (bq K) from az) (pv 3) ai (λ_ _=>rfl)))) (aa (pv 1) ae))))) ae))))) (aj (aF (aL (aa (bP hW (aH (show cb _ (bq K) from az) (pv 3) ai (λ_ _=>rfl)) (bn f7 (by rfl) T.sV Boot.«abs» (aa (pv 2) ae))) (aa (ax T.zm (qM T) hr (aa (pv 0) (aa (pv 4) ae))) ae))))))))))
 rintro vs M q ⟨p,a,n,rfl,p0,p1,hP,hl,hb,k⟩;have sA:=lF hP p1;dsimp? [gI];exact du (λh=> ?_) λh=> ?_;exact#[p,[],a.2,0,n,rfl,p0,Dd,⋯,by omega,sA,?_];dsimp? [];exact ed (k (0,qQ p (EL 0 n a.2)) #[by rw[h,Int.zero_mul],gi p0 _,λx=> ?_] (λ_=> ?_) λh'=>absurd h h');rw[mW p0,CQ,Cq,Nz,h];unfold lD;by_cases hn:n<0;rw[ao hn, <- uN (f:=fM a.2) (g:=λx=> -fM a.2 (x+0)) (λ_=>rfl)];change _=gd (λx=> -fM a.2 (x+0)) 0 (-n).toNat x % p;rw[j7,Int.add_zero];have:(((-n).toNat:Nat):Int)= -n:=by omega
 rw[this,Int.neg_mul_neg];rw[ak hn,j7];have:((n.toNat:Nat):Int)=n:=by omega
 rw[this];exact ar (jk _ _) ?_;rw[EL,af];show aq _;let⟨b1,b2,b3⟩:=hb h;exact e_ ?_; simp? [↓cE];exact e_ (qY (λρ M'=>M'=M /\ ∃b:WQ.Rd,gy (ρ= [some (wi p),some (gI a),some (wi n),some (gI b),none,none]) (dZ p b.2) (b.2.length<=a.2.length) (b.2.length*n.natAbs<=100000) (∀r,iu p b n.natAbs r ->iu p a n r)) ?_ λN hN=> ?_);rintro ρ M' ⟨rfl,b,rfl,hPb,hlb,hbn,aa7⟩;have Xu:(if n<0 then -n else n)=(n.natAbs:Int):=by split<;>omega
 dsimp? [];intro t ht;dsimp? [Xu];exact#[#[by omega,by omega],jW (λi ρ QD=> ∃o1:fj W,ρ= [some (wi p),some (gI a),some (wi n),some (gI b),some (wr t),o1] /\ QD t=some (.lst ((o6 b i).map bZ)) /\ Sm M' QD) #[none,rfl,am,a7 ht] (λ_ _ _ _ _=>trivial) ?_ ?_];rintro i x ρ QD hx ⟨o1,rfl,hM,sM⟩ N hN;let⟨hi,rfl⟩:=jM hx;have cm:nv (0+(i:Int)) b.1=True:=au (.inl #[by omega,by omega]);dsimp? [hM,gI,gv];exact fi (λz=>bZ (z.1+(0+(i:Int))*b.1,z.2)) (big (by omega)) (λ_ _=>trivial) ?_ λu hu=> ?_;intro z hz M3 N3 s3 jx;dsimp? [bZ,cm];show jx;have e:b.2.map (λz=>bZ (z.1+(0+(i:Int))*b.1,z.2))=(mv ((i:Int)*b.1) b.2).map bZ:=by rw[mv,a5,Int.zero_add];rfl
 rw[e];have htu:t≠u:=ca hM hu;have dR:(((o6 b i).map bZ).length+((mv ((i:Int)*b.1) b.2).map bZ).length<=sizeLine)=True:=au (big (by rw[af,af,o0,qS];have h1:(i+1)*b.2.length<=n.natAbs*b.2.length:=Nat.mul_le_mul_right _ (by omega);rw[Nat.succ_mul] at h1;rw[Nat.mul_comm n.natAbs] at h1;omega));dsimp? [aR htu,hM,dR];exact hN _ _ #[_,rfl,?_,λc o e=> ?_];rw[am,o6,aB];rw[aR (ca e ht)];show(a7 hu) _ _ (sM c o e);rintro ρ QD ⟨o1,rfl,hM,sM⟩;rw[jL] at hM;have en:((n.natAbs:Int)).toNat=n.natAbs:=by omega
 rw[en] at hM;dsimp only;have cm:nv b.1 (n.natAbs:Int)=True:=au (.inr #[by omega,by omega]);dsimp? [Xu,gI,cm];exact#[t,p,o6 b n.natAbs,rfl,hM,p0,Dd,by rw[o0,Nat.mul_comm];omega,?_];dsimp? [];exact#[M',sM,k (b.1*(n.natAbs:Int),qQ p (o6 b n.natAbs)) (aa7 _ #[rfl,gi p0 _,λx=> ?_]) (λh'=>absurd h' h) λ_=> ?_];rw[mW p0,xm];unfold lD;rw[ak (by omega)];have:((n.natAbs:Int)).toNat=n.natAbs:=by omega
 rw[this];exact ar (jk _ _) ?_;rw[o0,Nat.mul_comm];show Nat.mul_le_mul_right _ hlb;dsimp? [];have hB:=Dv p a;exact du (λhn=> ?_) λhn=> ?_;dsimp? [];exact#[p,a,rfl,p0,Dd,hl,sA,?_];dsimp? [];exact hN _ _ #[rfl,bk p a,rfl,Du p0 a,hB,ar (Nat.mul_le_mul_right _ hB) b3,λr hr=> ?_];have e:((n.natAbs:Nat):Int)= -n:=by omega
 rw[e] at hr;show hr.zg p0 hn;dsimp? [];exact hN _ _ #[rfl,a,rfl,hP,aq _,b3,λr hr=> ?_];have e:((n.natAbs:Nat):Int)=n:=by omega
 rw[e] at hr;show hr
def fO {K:WW}(T:ft K mg A):bI P w K mg base (i6 P w) 1 A.pT A.qa ["name"] (uh K (RV A.d_)):=by
 exact zf T.check_name.fn ny (by rintro vs M q e ⟨n,rfl,_⟩;rfl) λcdv A' outer s H E e hr hF hP=> ?_;have nd:=ny.nd;exact#[_,(aj (bp (kP (d4 (pc pi pi ai (bn rJ (by rfl) T.gV Boot.«len» (aa (pv 0) ae)) (gg (by rfl) T.lB.choose_spec (show RelV (.int 12) _ from#[_,rfl])))) (iS (dM (bn (yg rfl) (by rfl) T.QB Boot.«any» (aa (dF rfl (c6.of (sc:=_) (N:= ["name"]) (own:= ["sign"]) (fr:= []) (N':= ["sign"]) rfl rfl rfl (by right) rfl (by right) (by right) (by right) (by right) (bt rfl)) (Jk (pv 0)) (λ_ _ _ _=>(aZ (i:=0) (by change(["sign"]:cH Str).Nodup;decide+kernel) rfl (by trivial))) eG (λ_ _ _ _=>dE) (λ_ _ _ _=>(iA Gm (pv 0) (gg (by rfl) T.FS.choose_spec (show RelV (.str "abcdefghijklmnopqrstuvwxyz") _ from#[_,rfl])) (by rfl)))) ae))))).pt (aj (dA hF rfl (by rfl) T.xg (aa (eR (bO ay (bO (lU (gg (by rfl) T.lB.choose_spec (show RelV (.int 12) _ from#[_,rfl]))) (bO ay fL)))) ae))) aM)),?_];try dsimp only[eQ]
 exact#[_,inferInstance,?_];rintro vs M q ⟨n,rfl,ha,hl,kq,ke⟩;have hz:n.length<=sizeLine:=bj (by omega);have Kg:(n.length<=sizeLine)=True:=au hz;dsimp?! [Kg];by_cases h1:1<=n.length
 .have e1:decide (1<=(n.length:Int))=true:=a8 (by omega);by_cases h2:n.length<=12
  .have e2:decide ((n.length:Int) <=12)=true:=a8 (by omega);dsimp?! [e1,e2,ha,aI];exact fi (λc=>wb (!B_ c zZ)) (by unfold B9;rw[af, <- str_len];show hz) (λ_ _=>trivial) ?_ λu hu=> ?_;intro c hc M3 N3 s3 jx;dsimp?! [];show jx;exact#[u,(B9 n).map λc=> !B_ c zZ,rfl,by rw[am,a5];rfl,?_];have e3:((B9 n).map λc=> !B_ c zZ).any id= !cy n:=by have d1:decide (1<=n.length)=true:=a8 h1;have d2:decide (n.length<=12)=true:=a8 h2;unfold cy;rw[d1,d2,List.any_map,Bool.true_and,Bool.true_and,List.not_all_eq_any_not];rfl
   rw[e3];dsimp?! [];cases hn:cy n with
   | true=> dsimp?! [aI];show#[M,a7 hu,kq hn]
   | false=> dsimp?! [aW];(repeat (exact#[by first | decide | decide+kernel,?_]));show#[M,a7 hu,ke hn]
  .have e2:decide ((n.length:Int) <=12)=false:=aG (by omega);dsimp?! [e1,e2,aW];(repeat (exact#[by first | decide | decide+kernel,?_]));show#[M,Sm.refl M,ke (by unfold cy;rw[aG h2];simp)]
 .have e1:decide (1<=(n.length:Int))=false:=aG (by omega);dsimp?! [e1];(repeat (exact#[by first | decide | decide+kernel,?_]));show#[M,Sm.refl M,ke (by unfold cy;rw[aG h1];simp)]
def nE {K:WW}(T:ft K mg A):bI P w K mg base fw 1 A.pO A.p7 ["things","name","thing"] (fS K RK):=by
 exists T.with_thing.fn,["things","name","thing","changed"],(ag (bh (i:=3) nd rfl (by trivial) (ci kr (by rfl) T.zH Boot.«dict» (aa (pv 0) ae))) (ag (mY (d7 hr) (pv 3) (pv 1) (pv 2) rfl) (aj (aF (pv 3)))))
 rintro vs M q ⟨d,kvs,n,x,rfl,hd,hl,k⟩;dsimp?! [hd];intro u hu;have hs:(kvs.length<sizeLine)=True:=au (kx (by omega));exact e_ ?_; simp?! [↓cE,hs];show ed (k u hu)
def u4 {K:WW}(T:ft K mg A):bI P w K mg base fw 1 A.xR A.xZ ["things","name"] (fS K Jo):=by
 exists T.without.fn,["things","name","changed"],(ag (bh (i:=2) nd rfl (by trivial) (ci kr (by rfl) T.zH Boot.«dict» (aa (pv 0) ae))) (ag (MQ (pv 2) (pv 1)) (aj (aF (pv 2)))))
 rintro vs M q ⟨d,kvs,n,rfl,hd,hl,k⟩;dsimp?! [hd];intro u hu;exact e_ ?_; simp?! [↓cE,hl];show ed (k u hu)
def pz {K:WW}(T:ft K mg A):bI P w K mg base fw 1 A.KA A.KY ["self","rounds","teams"] (fS K (V9 A.bw)):=by
 have cl:=au T.Page.cl;have n1:=au T.n_Page_rounds;have n2:=au T.n_Page_teams;exists T.Page.fn,["self","rounds","teams"],(ag (iT (pv 0) (pv 1) rfl) (aj (iT (pv 0) (pv 2) rfl)))
 rintro vs M q ⟨s,dx,r,t,rfl,hs,k⟩;have e1:io "rounds" (wr r) []= [(("rounds" :Str),wr r)]:=rfl;have e2:io "teams" (wr t) [(("rounds" :Str),wr r)]=lS r t:=rfl;dsimp?! [hs,cl,n1,n2,e1,e2,Nat.reduceLT];show ed k
def Nn {K:WW}(T:ft K mg A):bI P w K mg base fw 3 A.KC A.KZ ["self","p"] (fS K (We A.aY A.bw)):=by
 have cl:=au T.Book.cl;have n1:=au T.n_Book_p;have n2:=au T.n_Book_now;have n3:=au T.n_Book_past;have n4:=au T.n_Book_undone;have n5:=au T.n_Book_held;exists T.Book.fn,["self","p"],(ag (bp (aS (m7 (K:=K) rfl) (pv 1) (MV (by rfl) T.Ih) (by rfl)) (aj Jj) aM) (ag (iT (pv 0) (pv 1) rfl) (ag (iT (pv 0) (jO T.Page (pz T) (hr.mono ⋯) (by rfl) (aa jP (aa jP ae))) rfl) (ag (iT (pv 0) (dY ae) rfl) (ag (iT (pv 0) (dY ae) rfl) (aj (iT (pv 0) (dY ae) rfl)))))))
 rintro vs M q ⟨s,dx,p,rfl,hp,hs,k⟩;dsimp?! [];exact#[.int p,[.int 2, .int 3, .int 5, .int 7],rfl, .inl rfl,rfl,rfl,?_];have Bb:(if true=true then !Qf (.int p) [.int 2, .int 3, .int 5, .int 7] else Qf (.int p) [.int 2, .int 3, .int 5, .int 7])=false:=by obtain rfl | rfl | rfl | rfl:=hp <;>decide+kernel
 rw[Bb];have e1:io "p" (wi p) []= [(("p" :Str),wi p)]:=rfl;dsimp?! [hs,cl,n1,e1,Nat.reduceLT];intro r iW;dsimp?! [];intro t ht;dsimp?! [];intro pg ly m_ L' l5;exact#[pg,ly,r,t,rfl,am,rfl,?_];have h1:Fs s M (um M s (.ins A.aY dx [("p",wi p)])):=Fs.self;have h2:=h1.new (o:= .dK []) iW;have h3:=h2.new (o:= .dK []) ht;have h4:=(h3.new (o:= .ins A.bw ly []) m_)
 have Zf:s≠r:=ca am iW;have nts:s≠t:=ca (by rw[aR Zf];show am) ht;have nps:s≠pg:=ca (by rw[aR nts,aR Zf];show am) m_;have nrt:r≠t:=ca am ht;have nrp:r≠pg:=ca (by rw[aR nrt];show am) m_;have ntp:t≠pg:=ca am m_;have f5:Fs s M (um (um (um (um (um M s (.ins A.aY dx [("p",wi p)])) r (.dK [])) t (.dK [])) pg (.ins A.bw ly [])) pg (.ins A.bw ly (lS r t))):=by rw[kC];show h3.new m_
 have g1:(um (um (um (um (um M s (.ins A.aY dx [("p",wi p)])) r (.dK [])) t (.dK [])) pg (.ins A.bw ly [])) pg (.ins A.bw ly (lS r t))) s=some (.ins A.aY dx [("p",wi p)]):=by rw[kC,aR nps,aR nts,aR Zf];show am
 have g2:(um (um (um (um (um M s (.ins A.aY dx [("p",wi p)])) r (.dK [])) t (.dK [])) pg (.ins A.bw ly [])) pg (.ins A.bw ly (lS r t))) r=some (.dK []):=by rw[kC,aR nrp,aR nrt];show am
 have g3:(um (um (um (um (um M s (.ins A.aY dx [("p",wi p)])) r (.dK [])) t (.dK [])) pg (.ins A.bw ly [])) pg (.ins A.bw ly (lS r t))) t=some (.dK []):=by rw[kC,aR ntp];show am
 have g4:(um (um (um (um (um M s (.ins A.aY dx [("p",wi p)])) r (.dK [])) t (.dK [])) pg (.ins A.bw ly [])) pg (.ins A.bw ly (lS r t))) pg=some (.ins A.bw ly (lS r t)):=am;generalize (um (um (um (um (um M s (.ins A.aY dx [("p",wi p)])) r (.dK [])) t (.dK [])) pg (.ins A.bw ly [])) pg (.ins A.bw ly (lS r t)))=M4 at f5 g1 g2 g3 g4;clear h1 h2 h3 h4 iW ht m_ L';have e2:io "now" (wr pg) [(("p" :Str),wi p)]= [(("p" :Str),wi p),("now",wr pg)]:=rfl;dsimp?! [g1,cl,n2,e2,aC,List.length_nil,Nat.reduceLT];intro la L4;have JJ:s≠la:=ca am L4;have e3:io "past" (wr la) [(("p" :Str),wi p),("now",wr pg)]= [(("p" :Str),wi p),("now",wr pg),("past",wr la)]:=rfl;dsimp?! [aR JJ,cl,n3,e3,aC,List.length_nil,Nat.reduceLT];intro lu zX;have Sd:s≠lu:=ca am zX;have Nu:la≠lu:=ca (by rw[aR JJ.symm];show am) zX;have e4:io "undone" (wr lu) [(("p" :Str),wi p),("now",wr pg),("past",wr la)]= [(("p" :Str),wi p),("now",wr pg),("past",wr la),("undone",wr lu)]:=rfl;dsimp?! [aR Sd,cl,n4,e4,aC,List.length_nil,Nat.reduceLT];intro lh NW;have PN:s≠lh:=ca am NW;have Se:la≠lh:=ca (by rw[aR JJ.symm,aR Nu,aR JJ.symm];show am) NW;have Sc:lu≠lh:=ca (by rw[aR Sd.symm];show am) NW;have e5:io "held" (wr lh) [(("p" :Str),wi p),("now",wr pg),("past",wr la),("undone",wr lu)]=eY p pg la lu lh:=rfl;dsimp?! [aR PN,cl,n5,e5,aC,List.length_nil,Nat.reduceLT];have F:=((((((Fs.self (M:=M4) (s:=s)).new L4 (o:= .lst [])).put (o:= .ins A.aY dx [(("p" :Str),wi p),("now",wr pg),("past",wr la)])).new zX (o:= .lst [])).put (o:= .ins A.aY dx [(("p" :Str),wi p),("now",wr pg),("past",wr la),("undone",wr lu)])).new NW (o:= .lst [])).put (o:= .ins A.aY dx (eY p pg la lu lh));exact ed (k _ la lu lh pg #[#[dx,am],?_,?_,?_,#[Nu,Se,Sc],ly,r,t,F _ _ g4 nps.symm,F _ _ g2 Zf.symm,F _ _ g3 nts.symm] (f5.trans F) ?_ ?_ ?_ JJ.symm);rw[aR JJ.symm,aR Se,aR JJ.symm,aR Nu,aR JJ.symm];show am;rw[aR Sd.symm,aR Sc,aR Sd.symm];show am;rw[aR PN.symm];show am;rw[aR JJ.symm] at L4;show f5.free L4 JJ.symm;rw[aR Sd.symm,aR Nu.symm,aR Sd.symm] at zX;show f5.free zX Sd.symm;rw[aR PN.symm,aR Sc.symm,aR PN.symm,aR Se.symm,aR PN.symm] at NW;show f5.free NW PN.symm
def qP {K:WW}(T:ft K mg A):bI P w K mg base fw 1 A.kZ A.lf ["self"] (fS K (Gi A.aY A.bw)):=by
 have cl:=au T.Book.cl;have n1:=au T.n_Book_p;exists T.nV.fn,["self"],(aj (aF (bC (K:=K) rfl (pv 0) rfl)))
 rintro vs M q ⟨b,la,lu,lh,now,p,pa,un,he,R,T',rfl,hB,k⟩;let⟨dx,hb⟩:=hB.ob;dsimp?! [hb,cl,n1,G'];show ed k
def lW {K:WW}(T:ft K mg A):bI P w K mg base fw 1 A.nI A.nN ["one","farthest_end","farthest_place"] (fS K Jp):=by
 exists T.lies_within.fn,["one","farthest_end","farthest_place","end","pattern"],(ag (ge (pv 0) (eD (n:=2) rfl (bv (aZ (i:=3) nd rfl (by trivial)) (bv (aZ (i:=4) nd rfl (by trivial)) dw)))) (aj (aF (yW (iA pi (bn f7 (by rfl) T.sV Boot.«abs» (aa (pv 3) ae)) (pv 1) (a9 _)) (uW (bn (iH rfl) (by rfl) T.yn Boot.«all» (aa (dF rfl (c6.of (sc:=aU jr) (N:= ["one","farthest_end","farthest_place","end","pattern"]) (own:= ["place","setting"]) (fr:= [2]) (N':= ["place","setting","farthest_place"])) (qH (pv 4)) (λ_ _ _ _=>(eD (n:=2) rfl (bv (aZ (i:=0) (by change(["place","setting","farthest_place"]:cH Str).Nodup;decide+kernel) rfl (by trivial)) (bv (aZ (i:=1) (by change(["place","setting","farthest_place"]:cH Str).Nodup;decide+kernel) rfl (by trivial)) dw)))) gk (λ_ _ _ _=>dE) (λ_ _ _ _=>(iA pi (bn f7 (by rfl) T.sV Boot.«abs» (aa (pv 0) ae)) (pv 2) (a9 _)))) ae)))))))
 rintro vs M q ⟨a,e,r,rfl,hl,k⟩;have sm: ∀u o,M u=none ->Sm M (um M u o):=λu o h=>a7 h;have ef:gx a e r= !(decide ((if a.1<0 then -a.1 else a.1) <=e) && a.2.all λz=>decide ((if z.1<0 then -z.1 else z.1) <=r)):=rfl;dsimp?! [gI,gv];cases h1:decide ((if a.1<0 then -a.1 else a.1) <=e) with
 | false=>rw[h1,Bool.false_and] at ef;rw[ef] at k;dsimp?! [];show ed k
 | true=>rw[h1,Bool.true_and] at ef;rw[ef,Bool.not_not] at k;dsimp?! [];exact fi (λz=>wb (decide ((if z.1<0 then -z.1 else z.1) <=r))) (big (by omega)) (λ_ _=>trivial) ?_ λu hu=> ?_;intro z hz M3 N3 s3 jx;dsimp?! [bZ];show jx;exact#[u,a.2.map λz=>decide ((if z.1<0 then -z.1 else z.1) <=r),rfl,by rw[am,a5];rfl,?_];rw[List.all_map];show#[M,a7 hu,k]
def py {K:WW}(T:ft K mg A):bI P w K mg base fw 2 A.sw A.sI ["one"] (fS K RU):=by
 exists T.fits_crew.fn,["one"],(aj (aF (ax T.lies_within (lW T) hr (aa (pv 0) (aa (gg (by rfl) T.uI.choose_spec (show RelV (.int 8) _ from#[_,rfl])) (aa (gg (by rfl) T.qz.choose_spec (show RelV (.int 24) _ from#[_,rfl])) ae))))))
 rintro vs M q ⟨a,rfl,hl,k⟩;dsimp?! [];show#[a,8,24,rfl,hl,ed k]
def fg {K:WW}(T:ft K mg A):bI P w K mg base fw 1 A.mm A.mI ["self","page"] (fS K (V3 A.aY A.bw)):=by
 have cl:=au T.Book.cl;have n2:=au T.n_Book_now;have n3:=au T.n_Book_past;have n4:=au T.n_Book_undone;exists T.fH.fn,["self","page"],(ag (bK (eV aN bz bx dh (bC (K:=K) rfl (pv 0) rfl) (aa (bC (K:=K) rfl (pv 0) rfl) ae))) (ag (iT (pv 0) (dY ae) rfl) (aj (iT (pv 0) (pv 1) rfl))))
 rintro vs M q ⟨b,la,lu,lh,now,pg,p,pa,un,he,R,T',R',T1,rfl,hB,hP,hl,k⟩;let⟨dx,hb⟩:=hB.ob;have hs:((pa.map wr).length<sizeLine)=True:=au (kx (by rw[af];omega));have ha:=hB.pa;have LS:b≠la:=λz=>by subst z;rw[hb] at ha;cases ha
 dsimp?! [hb,cl,n2,n3,n4,iC,Lc,ha,hs];intro eU hu;have Nx:la≠eU:=ca am hu;have Nw:b≠eU:=ca (by rw[aR LS];show hb) hu;dsimp?! [aR Nw,aR LS,hb,cl,n2,n4,TB,ahF,Tx];have Ut:M eU=none:=by rwa [aR Nx.symm] at hu
 have F:z3 b la M (um (um (um M la (.lst (pa.map wr++ [wr now]))) eU (.lst [])) b (.ins A.aY dx (eY p pg la eU lh))):=λa o h n1 n2=>by rw[aR n1,aR (ca h Ut),aR n2];show h
 have hh:=hB.he;exact ed (k _ eU #[#[dx,am],?_,?_,F _ _ hh (λz=>by subst z;rw[hb] at hh;cases hh) hB.ne.2.1.symm,#[Nx,hB.ne.2.1,(ca hh Ut).symm],F.pg hb ha hP] F Ut);rw[aR LS.symm,aR Nx,am,aB];rfl;rw[aR Nw.symm];show am
def jR {K:WW}(T:ft K mg A):bI P w K mg base fw 1 A.k9 A.lj ["self","name"] (fS K (Gk A.aY A.bw)):=by
 have cl:=au T.Book.cl;have rH:=au T.Page.cl;have n2:=au T.n_Book_now;have n3:=au T.n_Page_teams;exists T.jB.fn,["self","name"],(aj (aF (bn (yg rfl) (by rfl) T.QB Boot.«any» (aa (EA (dF rfl (c6.of (sc:=_) (N:= ["self","name"]) (own:= ["team"]) (fr:= [1]) (N':= ["team","name"]) rfl rfl rfl (by right) rfl (by right) (by right) (by right) (by right) (bt rfl)) (MS (bC (K:=K) rfl (bC (K:=K) rfl (pv 0) rfl) rfl)) (λ_ _ _ _=>(aZ (i:=0) (by change(["team","name"]:cH Str).Nodup;decide+kernel) rfl (by trivial))) eG (λ_ _ _ _=>dE) (λ_ _ _ _=>(iA (uZ (K:=K) rfl) (pv 1) (pv 0) (by rfl))))) ae))))
 rintro vs M q ⟨b,la,lu,lh,now,p,pa,un,he,R,T',n,rfl,hB,hl,k⟩;let⟨dx,hb⟩:=hB.ob;let⟨ly,r,t,h1,h2,h3⟩:=hB.pg;dsimp?! [];exact#[t,_,h3,?_];dsimp?! [hb,h1,cl,rH,n2,n3,iC,n8,h3];intro o ks;rw[Ig];exact fi (λz=>wb (sj n z.2)) (big (by omega)) (λM2 s2=>s2 _ _ am) ?_ λu hu=> ?_;intro z hz M3 N3 s3 jx;dsimp?! [];show uv jx;have nut:t≠u:=ca am hu;exact#[o,ks,_,by rw[aR nut];show am,u,T'.map λz=>sj n z.2,rfl,by rw[aR nut.symm,am,a5];rfl,M,DT h3 hu,?_];rw[List.any_map];show k
def jj {K:WW}(T:ft K mg A):bI P w K mg base (i6 P w) 4 A.vO A.vU ["self","name","one"] (uh K (Gj A.aY A.bw A.dO)):=by
 have cl:=au T.Book.cl;have rH:=au T.Page.cl;have n2:=au T.n_Book_now;have n3:=au T.n_Page_teams;have n4:=au T.n_Page_rounds;exact zf T.mU.fn rP (by rintro vs M q e ⟨b,la,lu,lh,now,p,pa,un,he,R,T',n,a,rfl,_⟩;rfl) λcdv A' outer s H E e hr hF hP=> ?_;have nd:=rP.nd;exact#[_,(ag (bp (d4 (dM (ax T.lies_within (lW T) hr (aa (pv 2) (aa (gg (by rfl) T.nW.choose_spec (show RelV (.int 200) _ from#[_,rfl])) (aa (gg (by rfl) T.nW.choose_spec (show RelV (.int 200) _ from#[_,rfl])) ae)))))) (aj (dA hF rfl (by rfl) T.oC (aa (eR (bO ay (bO (lU (gg (by rfl) T.nW.choose_spec (show RelV (.int 200) _ from#[_,rfl]))) (bO ay fL)))) ae))) aM) (ag (bp (nZ (dM (eJ T.jB (jR T) (hr.mono ⋯) (pv 0) (aa (pv 1) ae))) (ka (d4 (dM (ax T.fits_crew (py T) hr (aa (pv 2) ae)))))).pt (aj (dA hF rfl (by rfl) T.oC (aa ay ae))) aM) (aj (bK (eJ T.fH (fg T) (hr.mono ⋯) (pv 0) (aa (jO T.Page (pz T) (hr.mono ⋯) (by rfl) (aa (ax T.with_thing (nE T) hr (aa (bC (K:=K) rfl (bC (K:=K) rfl (pv 0) rfl) rfl) (aa (pv 1) (aa (pv 2) ae)))) (aa (bC (K:=K) rfl (bC (K:=K) rfl (pv 0) rfl) rfl) ae))) ae)))))),?_];try dsimp only[eQ]
 exact#[_,inferInstance,?_];rintro vs M q ⟨b,la,lu,lh,now,p,pa,un,he,R,T',n,a,rfl,hB,hl,hlR,hlT,L4,kq,ke⟩;let⟨dx,hb⟩:=hB.ob;let⟨ly,r,t,h1,h2,h3⟩:=hB.pg;have up: ∀C,e C M ->WL.up e C M:=λC h=>#[M,Sm.refl M,h]
 dsimp?! [];exact#[a,200,200,rfl,L4,?_];cases hf:gx a 200 200 with
 | true=>dsimp?! [aI,aW];(repeat (exact#[by first | decide | decide+kernel,?_]));show up _ (ke (by unfold dz;rw[hf];rfl))
 | false=>
  dsimp?! [aI,aW,hb,sU];exact#[b,la,lu,lh,now,p,pa,un,he,R,T',n,rfl,hB,hlT,?_];cases hu:s_ T' n with
  | false=>
   have ol:dz T' n a=false:=by unfold dz;rw[hf,hu];rfl
   dsimp?! [hb,h1,cl,rH,n2,n3,n4,iC,n8,qJ,gG];rw[mV];dsimp?! [hb,h1,cl,rH,n2,n3,n4,iC,n8,qJ];exact#[r,_,n,_,rfl,h2,by rw[oI];omega,λu hu=> ?_];have NU:=ca hb hu;have oi:=ca h1 hu;dsimp?! [aR NU,aR oi,hb,h1,cl,rH,n2,n3,n4,iC,n8,qJ];intro pg zB m_ L' l5;rw[gJ] at m_ ⊢;exact#[pg,zB,u,t,rfl,am,rfl,?_];rw[kC];have s2:=(a7 hu (o:= .dK (tf gI (hU R n a)))).trans (a7 m_ (o:= .ins A.bw zB (lS u t)));have Nr:=ca am m_;show#[b,la,lu,lh,now,pg,p,pa,un,he,R,T',_,T',rfl,hB.sm s2,#[zB,u,t,am,by rw[aR Nr];show am,s2 _ _ h3],hl,λM' eU B' F zX=>ed (kq ol M' eU pg B' (F.sm s2) (s2.free zX) ((a7 hu).free m_))]
  | true=>
   dsimp?! [];exact#[a,rfl,L4,?_];cases L7:gx a 8 24 with
   | true=>dsimp?! [aI,aW];(repeat (exact#[by first | decide | decide+kernel,?_]));show up _ (ke (by unfold dz;rw[hu,L7,hf];rfl))
   | false=>
    have ol:dz T' n a=false:=by unfold dz;rw[hf,hu,L7];rfl
    dsimp?! [aI,aW,hb,h1,cl,rH,n2,n3,n4,iC,n8,qJ,gG];rw[mV];dsimp?! [hb,h1,cl,rH,n2,n3,n4,iC,n8,qJ];exact#[r,_,n,_,rfl,h2,by rw[oI];omega,λu hu=> ?_];have NU:=ca hb hu;have oi:=ca h1 hu;dsimp?! [aR NU,aR oi,hb,h1,cl,rH,n2,n3,n4,iC,n8,qJ];intro pg zB m_ L' l5;rw[gJ] at m_ ⊢;exact#[pg,zB,u,t,rfl,am,rfl,?_];rw[kC];have s2:=(a7 hu (o:= .dK (tf gI (hU R n a)))).trans (a7 m_ (o:= .ins A.bw zB (lS u t)));have Nr:=ca am m_;show#[b,la,lu,lh,now,pg,p,pa,un,he,R,T',_,T',rfl,hB.sm s2,#[zB,u,t,am,by rw[aR Nr];show am,s2 _ _ h3],hl,λM' eU B' F zX=>ed (kq ol M' eU pg B' (F.sm s2) (s2.free zX) ((a7 hu).free m_))]
def c_ {K:WW}(T:ft K mg A):bI P w K mg base (i6 P w) 1 A.k7 A.lg ["self","name"] (uh K (Jr A.aY A.bw A.d9)):=by
 have cl:=au T.Book.cl;have rH:=au T.Page.cl;have n2:=au T.n_Book_now;have n4:=au T.n_Page_rounds;exact zf T.dJ.fn jK (by rintro vs M q e ⟨b,la,lu,lh,now,p,pa,un,he,R,T',n,rfl,_⟩;rfl) λcdv A' outer s H E e hr hF hP=> ?_;have nd:=jK.nd;exact#[_,(ag (bp (n6 (jQ (d7 hr) (pv 1) (bC (K:=K) rfl (bC (K:=K) rfl (pv 0) rfl) rfl))) (aj (dA hF rfl (by rfl) T.qv (aa (eR (bO ay (bO (hV (pv 1)) fL))) ae))) aM) (aj (aF (eT (d7 hr) (bC (K:=K) rfl (bC (K:=K) rfl (pv 0) rfl) rfl) (pv 1) (λ_ _=>rfl))))),?_];try dsimp only[eQ]
 exact#[_,inferInstance,?_];rintro vs M q ⟨b,la,lu,lh,now,p,pa,un,he,R,T',n,rfl,hB,hl,kq,ke⟩;let⟨dx,hb⟩:=hB.ob;let⟨ly,r,t,h1,h2,h3⟩:=hB.pg;dsimp?! [hb,h1,h2,cl,rH,n2,n4,iC,qJ,cM];cases hg:cC R n with
 | some a=>dsimp?! [bG,cz,aI];dsimp?! [hb,h1,h2,cl,rH,n2,n4,iC,qJ,cM,hg,bG];show ed (kq a hg)
 | none=>dsimp?! [Option.map_none,dj,aW];(repeat (exact#[by first | decide | decide+kernel | show bj (by omega) | show Qs (by right) hl | show Qr (by right) hl (by right),?_]));show#[M,Sm.refl M,ke hg]
def nF {K:WW}(T:ft K mg A):bI P w K mg base fw 1 A.pU A.qb ["self"] (fS K (MZ A.aY A.bw)):=by
 have cl:=au T.Book.cl;have rH:=au T.Page.cl;have n2:=au T.n_Book_now;have n4:=au T.n_Page_rounds;exists T.oz.fn,["self"],(aj (aF (bn (fG rfl) (by rfl) T.gU Boot.«sorted» (aa (bC (K:=K) rfl (bC (K:=K) rfl (pv 0) rfl) rfl) ae))))
 rintro vs M q ⟨b,la,lu,lh,now,p,pa,un,he,R,T',rfl,hB,hl,k⟩;let⟨dx,hb⟩:=hB.ob;let⟨ly,r,t,h1,h2,h3⟩:=hB.pg;dsimp?! [hb,h1,h2,cl,rH,n2,n4,iC,qJ];show#[r,_,R.map (·.1),rfl,h2,jF _ _,by rw[af];show big (by omega),λu ns hu h3 h4=>ed (k u ns hu h3 h4)]
def nG {K:WW}(T:ft K mg A):bI P w K mg base fw 1 A.pW A.qe ["self"] (fS K (Nc A.aY A.bw)):=by
 have cl:=au T.Book.cl;have rH:=au T.Page.cl;have n2:=au T.n_Book_now;have n4:=au T.n_Page_teams;exists T.oB.fn,["self"],(aj (aF (bn (fG rfl) (by rfl) T.gU Boot.«sorted» (aa (bC (K:=K) rfl (bC (K:=K) rfl (pv 0) rfl) rfl) ae))))
 rintro vs M q ⟨b,la,lu,lh,now,p,pa,un,he,R,T',rfl,hB,hl,k⟩;let⟨dx,hb⟩:=hB.ob;let⟨ly,r,t,h1,h2,h3⟩:=hB.pg;dsimp?! [hb,h1,h3,cl,rH,n2,n4,iC,n8];show#[t,_,T'.map (·.1),rfl,h3,jF _ _,by rw[af];show big (by omega),λu ns hu h3 h4=>ed (k u ns hu h3 h4)]
def zb {K:WW}(T:ft K mg A):bI P w K mg base (i6 P w) 5 A.sC A.sL ["self","name","deeds"] (uh K (Wd A.aY A.bw (vY A) XF)):=by
 have cl:=au T.Book.cl;have n1:=au T.n_Book_p;exact zf T.yr.fn oN (by rintro vs M q e ⟨b,la,lu,lh,now,p,pa,un,he,R,T',dd,ys,rfl,⟨n,a,ds,rfl,_⟩,_⟩;rfl) λcdv A' outer s H E e hr hF hP=> ?_;have nd:=oN.nd;exact#[_,(ag (bK (iE hP T.check_name (fO T) (hr.mono ⋯) (by rfl) (aa (pv 1) ae))) (aj (bK (cB hP T.mU (jj T) (hr.mono ⋯) (pv 0) (aa (pv 1) (aa (iE hP T.gone (Nl T) (hr.mono ⋯) (by rfl) (aa (bC (K:=K) rfl (pv 0) rfl) (aa (pv 2) ae))) ae)))))),?_];try dsimp only[eQ]
 exact#[_,inferInstance,?_];rintro vs M q ⟨b,la,lu,lh,now,p,pa,un,he,R,T',dd,ys,rfl,⟨n,a,ds,rfl,rfl,ha⟩,⟨hn,hd,hw⟩,hB,hS,kq,ke⟩;let⟨dx,hb⟩:=hB.ob;have p0:0<p:=by have:=hS.p4;omega
 have up: ∀C,e C M ->WL.up e C M:=λC h=>#[M,Sm.refl M,h]
 exact#[n,rfl,hn.as,hn.len,λjw=> ?_,λjw=>up _ (ke .BadName (by rw[cJ,ao jw]))];have C5: ∀ (a':WQ.Rd),a'.2.length<=1000000 ->cJ p R T' (.tell n ds)=jS R T' n a' ->Gj A.aY A.bw A.dO [wr b,ws n,gI a'] M (λ_ M1=> ∃M0,Sm M0 M1 /\ q wn M0) (WL.up e):=λa' hl ho=>yS hB hS hl ho kq λr h=>up _ (ke r h);dsimp?! [hb,cl,n1,G',vZ];exact#[a,p,ds,rfl,ha,p0,Dd,by omega,hw,λhg=> ?_,λhg=>up _ (ke .NoDeed ?_)];dsimp?! [];show C5 _ (ar (jk _ _) (ar (jH _) (by omega))) (by rw[cJ,ak (by rw[jw];decide),ak (by rw[vJ.mpr hg];decide)]);have:jy ds=false:=by
  cases h:jy ds with
  | false=>rfl
  | true=>let⟨d,h1,h2⟩:=hg;show absurd (vJ.mp h d h1) h2
 rw[cJ,ak (by rw[jw];decide),ao this]
def tD {K:WW}(T:ft K mg A):bI P w K mg base (i6 P w) 5 A.mq A.mK ["self","name","one","other"] (uh K (Wd A.aY A.bw (vY A) XG)):=by
 have cl:=au T.Book.cl;have n1:=au T.n_Book_p;exact zf T.qk.fn kH (by rintro vs M q e ⟨b,la,lu,lh,now,p,pa,un,he,R,T',dd,ys,rfl,⟨n,x,y,rfl,_⟩,_⟩;rfl) λcdv A' outer s H E e hr hF hP=> ?_;have nd:=kH.nd;exact#[_,(ag (bK (iE hP T.check_name (fO T) (hr.mono ⋯) (by rfl) (aa (pv 1) ae))) (aj (bK (cB hP T.mU (jj T) (hr.mono ⋯) (pv 0) (aa (pv 1) (aa (ax T.joined (Gv T) hr (aa (bC (K:=K) rfl (pv 0) rfl) (aa (cB hP T.dJ (c_ T) (hr.mono ⋯) (pv 0) (aa (pv 2) ae)) (aa (cB hP T.dJ (c_ T) (hr.mono ⋯) (pv 0) (aa (pv 3) ae)) ae)))) ae)))))),?_];try dsimp only[eQ]
 exact#[_,inferInstance,?_];rintro vs M q ⟨b,la,lu,lh,now,p,pa,un,he,R,T',dd,ys,rfl,⟨n,x,y,rfl,rfl⟩,⟨hn,hx,hy⟩,hB,hS,kq,ke⟩;let⟨dx,hb⟩:=hB.ob;have p0:0<p:=by have:=hS.p4;omega
 have up: ∀C,e C M ->WL.up e C M:=λC h=>#[M,Sm.refl M,h]
 dsimp?! [];exact#[n,rfl,hn.as,hn.len,λjw=> ?_,λjw=>up _ (ke .BadName (by rw[cJ,ao jw]))];have C5: ∀ (a':WQ.Rd),a'.2.length<=1000000 ->cJ p R T' (.join n x y)=jS R T' n a' ->Gj A.aY A.bw A.dO [wr b,ws n,gI a'] M (λ_ M1=> ∃M0,Sm M0 M1 /\ q wn M0) (WL.up e):=λa' hl ho=>yS hB hS hl ho kq λr h=>up _ (ke r h);have oi:¬cy n=false:=by rw[jw];decide
 dsimp?! [hb,cl,n1,G',vZ,e8];exact#[b,la,lu,lh,now,p,pa,un,he,R,T',x,rfl,hB,hx.len,λa hg=> ?_,λhg=>up _ (ke .NoRound (by rw[cJ,ak oi,hg]))];dsimp?! [hb,cl,n1,G',vZ,e8];exact#[b,la,lu,lh,now,p,pa,un,he,R,T',y,rfl,hB,hy.len,λa2 Cc=> ?_,λCc=>up _ (ke .NoRound (by rw[cJ,ak oi,hg,Cc]))];dsimp?! [];let⟨z,hz,rfl,rfl⟩:=eA hg;let⟨z2,NO,rfl,rfl⟩:=eA Cc;have l1:=(hS.r.ok z hz).2.1;have l2:=(hS.r.ok z2 NO).2.1;exact#[p,z.2,z2.2,rfl,p0,Dd,by omega,by omega,?_];dsimp?! [];show C5 _ (ar (J7 _ _ _) (by omega)) (by rw[cJ,ak oi,hg,Cc])
def tG {K:WW}(T:ft K mg A):bI P w K mg base (i6 P w) 5 A.mB A.mO ["self","name","one"] (uh K (Wd A.aY A.bw (vY A) XI)):=by
 have cl:=au T.Book.cl;have n1:=au T.n_Book_p;exact zf T.qp.fn kK (by rintro vs M q e ⟨b,la,lu,lh,now,p,pa,un,he,R,T',dd,ys,rfl,⟨n,x,rfl,_⟩,_⟩;rfl) λcdv A' outer s H E e hr hF hP=> ?_;have nd:=kK.nd;exact#[_,(ag (bK (iE hP T.check_name (fO T) (hr.mono ⋯) (by rfl) (aa (pv 1) ae))) (aj (bK (cB hP T.mU (jj T) (hr.mono ⋯) (pv 0) (aa (pv 1) (aa (ax T.backward (lX T) hr (aa (bC (K:=K) rfl (pv 0) rfl) (aa (cB hP T.dJ (c_ T) (hr.mono ⋯) (pv 0) (aa (pv 2) ae)) ae))) ae)))))),?_];try dsimp only[eQ]
 exact#[_,inferInstance,?_];rintro vs M q ⟨b,la,lu,lh,now,p,pa,un,he,R,T',dd,ys,rfl,⟨n,x,rfl,rfl⟩,⟨hn,hx⟩,hB,hS,kq,ke⟩;let⟨dx,hb⟩:=hB.ob;have p0:0<p:=by have:=hS.p4;omega
 have p1:p<1000:=by have:=hS.p4;omega
 have up: ∀C,e C M ->WL.up e C M:=λC h=>#[M,Sm.refl M,h]
 dsimp?! [];exact#[n,rfl,hn.as,hn.len,λjw=> ?_,λjw=>up _ (ke .BadName (by rw[cJ,ao jw]))];have C5: ∀ (a':WQ.Rd),a'.2.length<=1000000 ->cJ p R T' (.back n x)=jS R T' n a' ->Gj A.aY A.bw A.dO [wr b,ws n,gI a'] M (λ_ M1=> ∃M0,Sm M0 M1 /\ q wn M0) (WL.up e):=λa' hl ho=>yS hB hS hl ho kq λr h=>up _ (ke r h);have oi:¬cy n=false:=by rw[jw];decide
 dsimp?! [hb,cl,n1,G',vZ,e8];exact#[b,la,lu,lh,now,p,pa,un,he,R,T',x,rfl,hB,hx.len,λa hg=> ?_,λhg=>up _ (ke .NoRound (by rw[cJ,ak oi,hg]))];dsimp?! [];let⟨z,hz,rfl,rfl⟩:=eA hg;have l1:=(hS.r.ok z hz).2.1;exact#[p,z.2,rfl,p0,Dd,by omega,lF (hS.r.ok z hz).1 p1,?_];dsimp?! [];show C5 _ (ar (Dv _ _) (by omega)) (by rw[cJ,ak oi,hg])
def qO {K:WW}(T:ft K mg A):bI P w K mg base (i6 P w) 6 A.kY A.k_ ["self","name","one","n"] (uh K (Wd A.aY A.bw (vY A) Tn)):=by
 have cl:=au T.Book.cl;have n1:=au T.n_Book_p;exact zf T.nU.fn jJ (by rintro vs M q e ⟨b,la,lu,lh,now,p,pa,un,he,R,T',dd,ys,rfl,⟨n,x,j,rfl,_⟩,_⟩;rfl) λcdv A' outer s H E e hr hF hP=> ?_;have nd:=jJ.nd;exact#[_,(ag (bK (iE hP T.check_name (fO T) (hr.mono ⋯) (by rfl) (aa (pv 1) ae))) (aj (bK (cB hP T.mU (jj T) (hr.mono ⋯) (pv 0) (aa (pv 1) (aa (ax T.repeated (AI T) hr (aa (bC (K:=K) rfl (pv 0) rfl) (aa (cB hP T.dJ (c_ T) (hr.mono ⋯) (pv 0) (aa (pv 2) ae)) (aa (pv 3) ae)))) ae)))))),?_];try dsimp only[eQ]
 exact#[_,inferInstance,?_];rintro vs M q ⟨b,la,lu,lh,now,p,pa,un,he,R,T',dd,ys,rfl,⟨n,x,j,rfl,rfl⟩,⟨hn,hx,j0,j1⟩,hB,hS,kq,ke⟩;let⟨dx,hb⟩:=hB.ob;have p0:0<p:=by have:=hS.p4;omega
 have p1:p<1000:=by have:=hS.p4;omega
 have up: ∀C,e C M ->WL.up e C M:=λC h=>#[M,Sm.refl M,h]
 dsimp?! [];exact#[n,rfl,hn.as,hn.len,λjw=> ?_,λjw=>up _ (ke .BadName (by rw[cJ,ao jw]))];have C5: ∀ (a':WQ.Rd),a'.2.length<=1000000 ->cJ p R T' (.times n x j)=jS R T' n a' ->Gj A.aY A.bw A.dO [wr b,ws n,gI a'] M (λ_ M1=> ∃M0,Sm M0 M1 /\ q wn M0) (WL.up e):=λa' hl ho=>yS hB hS hl ho kq λr h=>up _ (ke r h);have oi:¬cy n=false:=by rw[jw];decide
 dsimp?! [hb,cl,n1,G',vZ,e8];exact#[b,la,lu,lh,now,p,pa,un,he,R,T',x,rfl,hB,hx.len,λa hg=> ?_,λhg=>up _ (ke .NoRound (by rw[cJ,ak oi,hg]))];dsimp?! [];let⟨z,hz,rfl,rfl⟩:=eA hg;have l1:=(hS.r.ok z hz).2.1;have l3:z.2.2.length*j.natAbs<=401*100:=Nat.mul_le_mul l1 (by omega);exact#[p,z.2,j,rfl,p0,p1,(hS.r.ok z hz).1,by omega,λ_=>#[by omega,by omega,by omega],λr hr Xg NV=> ?_];dsimp?! [];exact C5 _ ?_ (by rw[cJ,ak oi,hg];simp![En p0 hr]);by_cases h0:z.2.1=0;have:=Xg h0;omega;have:=NV h0;omega
def ze {K:WW}(T:ft K mg A):bI P w K mg base (i6 P w) 3 A.sG A.sQ ["self","name"] (uh K (Wd A.aY A.bw (vY A) XH)):=by
 have cl:=au T.Book.cl;have rH:=au T.Page.cl;have n2:=au T.n_Book_now;have n3:=au T.n_Page_teams;have n4:=au T.n_Page_rounds;exact zf T.yw.fn oQ (by rintro vs M q e ⟨b,la,lu,lh,now,p,pa,un,he,R,T',dd,ys,rfl,⟨n,rfl,_⟩,_⟩;rfl) λcdv A' outer s H E e hr hF hP=> ?_;have nd:=oQ.nd;exact#[_,(ag (bK (cB hP T.dJ (c_ T) (hr.mono ⋯) (pv 0) (aa (pv 1) ae))) (ag (bp (dM (eJ T.jB (jR T) (hr.mono ⋯) (pv 0) (aa (pv 1) ae))) (aj (dA hF rfl (by rfl) T.DK (aa (eR (bO (hV (pv 1)) (bO ay fL))) ae))) aM) (aj (bK (eJ T.fH (fg T) (hr.mono ⋯) (pv 0) (aa (jO T.Page (pz T) (hr.mono ⋯) (by rfl) (aa (ax T.without (u4 T) hr (aa (bC (K:=K) rfl (bC (K:=K) rfl (pv 0) rfl) rfl) (aa (pv 1) ae))) (aa (bC (K:=K) rfl (bC (K:=K) rfl (pv 0) rfl) rfl) ae))) ae)))))),?_];try dsimp only[eQ]
 exact#[_,inferInstance,?_];rintro vs M q ⟨b,la,lu,lh,now,p,pa,un,he,R,T',dd,ys,rfl,⟨n,rfl,rfl⟩,hn,hB,hS,kq,ke⟩;let⟨dx,hb⟩:=hB.ob;let⟨ly,r,t,h1,h2,h3⟩:=hB.pg;have up: ∀C,e C M ->WL.up e C M:=λC h=>#[M,Sm.refl M,h]
 have hT:=hS.t;have hPa:=hS.pa;dsimp?! [hb,e8];exact#[b,la,lu,lh,now,p,pa,un,he,R,T',n,rfl,hB,hn.len,λa hg=> ?_,λhg=>up _ (ke .NoRound (by rw[cJ,hg]))];dsimp?! [hb,sU];exact#[b,la,lu,lh,now,p,pa,un,he,R,T',n,rfl,hB,by omega,?_];cases hu:s_ T' n with
 | true=>dsimp?! [];have i7:=hn.len;(repeat (exact#[by first | decide | decide+kernel | show bj (by omega) | show Qs (by right) i7 | show Qr (by right) i7 (by right),?_]));show up _ (ke .InUse (by rw[cJ,hg];show ao hu))
 | false=>
  have ho:cJ p R T' (.drop n)= .ok (ot R n):=by rw[cJ,hg];show ak (by rw[hu];decide)
  dsimp?! [hb,gG];rw[mV];dsimp?! [hb,h1,cl,rH,n2,n3,n4,iC,n8,qJ];exact#[r,_,n,rfl,h2,by rw[cM,hg];rfl,λu hu=> ?_];have NU:=ca hb hu;have oi:=ca h1 hu;dsimp?! [aR NU,aR oi,hb,h1,cl,rH,n2,n3,n4,iC,n8,qJ];intro pg zB m_ L' l5;rw[pX] at m_ ⊢;exact#[pg,zB,u,t,rfl,am,rfl,?_];rw[kC];have s2:=(a7 hu (o:= .dK (tf gI (ot R n)))).trans (a7 m_ (o:= .ins A.bw zB (lS u t)));have Nr:=ca am m_;show#[b,la,lu,lh,now,pg,p,pa,un,he,R,T',_,T',rfl,hB.sm s2,#[zB,u,t,am,by rw[aR Nr];show am,s2 _ _ h3],by omega,λM' eU B' F zX=>ed (kq _ ho M' eU pg B' (F.sm s2) (s2.free zX) ((a7 hu).free m_))]
def CN {K:WW}(T:ft K mg A):bI P w K mg base fw 2 A.xV A.yc ["_law_draw","_law_many"] (fS K MY):=by
 exists T.ES.fn,["_law_draw","_law_many","_law_letters","_law_body","_law_cut","_law_start","_law_names_here","_law_k","_law_sign"],(ag (bh (i:=2) nd rfl (by trivial) ay) (ag (bh (i:=3) nd rfl (by trivial) (eV dC de dW (show HA _ _ (o9 K) from kh) ay (aa (dF rfl (c6.of (sc:=_) (N:= ["_law_draw","_law_many","_law_letters","_law_body","_law_cut","_law_start","_law_names_here","_law_k","_law_sign"]) (own:= ["_law_k"]) (fr:= [2,0]) (N':= ["_law_k","_law_letters","_law_draw"]) rfl rfl rfl (by right) rfl (by right) (by right) (by right) (by right) (bt rfl)) (fX (by rfl) T.jp (aa (ax T.dc (bQ T) hr (aa (pv 0) (aa ai ae))) ae)) (λ_ _ _ _=>(aZ (i:=0) (by change(["_law_k","_law_letters","_law_draw"]:cH Str).Nodup;decide+kernel) rfl (by trivial))) eG (λ_ _ _ _=>dE) (λ_ _ _ _=>(aH J_ (pv 1) (ax T.dc (bQ T) hr (aa (pv 2) (aa ai ae))) (λ_ _=>rfl)))) ae))) (ag (bh (i:=4) nd rfl (by trivial) (ax T.dc (bQ T) hr (aa (pv 0) (aa (bP fm (bn rJ (by rfl) T.gV Boot.«len» (aa (pv 3) ae)) ai) ae)))) (ag (bh (i:=5) nd rfl (by trivial) (ax T.dc (bQ T) hr (aa (pv 0) (aa ai ae)))) (ag (bh (i:=6) nd rfl (by trivial) (dY ae)) (ag (gD c5 rfl (fX (by rfl) T.jp (aa (pv 1) ae)) (aZ (i:=7) nd rfl (by trivial)) (ag (bh (i:=8) nd rfl (by trivial) (bP Nf (aH J_ (pv 2) (bP lV (bP fm (pv 5) (bP hW ai (pv 7))) ai) (λ_ _=>rfl)) (bP fm ai (ax T.dc (bQ T) hr (aa (pv 0) (aa ai ae)))))) (aj (bK (eV aN bz bx dh (pv 6) (aa (bP gK (bP gK (lT IB (pv 3) pe (pd (pv 4))) (pv 8)) (lT IB (pv 3) (pd (pv 4)) pe)) ae)))))) (aj (aF (pv 6)))))))))
 rintro vs M q ⟨d,l,m,rfl,hD,m0,m1,k⟩;have hLz:(zZ.length<=sizeLine)=True:=au (by right);dsimp?! [];exact#[d,l,11,rfl,hD,⋯,⋯,λj M1 j0 j1 D1 b1=> ?_];dsimp?! [];exact#[#[by omega,by omega],Tv (by rw[jL];show big (by omega)) λu hu=> ?_];let⟨Gx,nul⟩:=D1.ne hu;exact#[λi ys M'=> ∃ss:cH Str,gy (ys=ss.map ws) (ss.length=i) (∀x∈ss,gZ x /\ x.length=1) (M' u=some (.lst ys)) (Dr M' d l),#[[],rfl,rfl,by simp,am,D1.put hu],?_,?_,?_];rintro i ys M' _ ⟨ss,rfl,hl,_,hM,_⟩;show#[trivial,hM,by rw[af];omega];rintro i x ys M' hx ⟨ss,rfl,hl,hs,hM,D2⟩ N hN;let⟨hi,rfl⟩:=jM hx;dsimp?! [];exact#[d,l,26,rfl,D2,⋯,⋯,λr M3 r0 r1 D3 b3=> ?_];let⟨c,hc,ac⟩:=JQ r0 r1;dsimp?! [hLz,hc];exact#[by rw[b3 u Gx];show hM,hN _ _ #[ss++ [⟨#[c]⟩],by rw[aB];rfl,by simp[hl],λx hx=> ?_,by rw[am],D3.RD Gx nul]];obtain h | h:=be.mp hx;show hs x h;rw[bg.mp h];show#[ac,rfl];rintro ys M' ⟨ss,rfl,hl,hs,hM,D2⟩;rw[jL] at hl;exact qX hM (c:=1) (λx hx=>by rw[(hs x hx).2];show aq _) (bj (by
  have:(Str.ofString "").length=0:=by right
  rw[this];omega)) ?_
 have UA:(Builtin.Str.glued (Str.ofString "") ss).length<=10:=ar (gj _ ss (c:=1) λx hx=>by rw[(hs x hx).2];show aq _) (by
  have:(Str.ofString "").length=0:=by right
  rw[this];omega)
 have ha0:gZ (Builtin.Str.glued (Str.ofString "") ss):=Lh (by right) λx hx=>(hs x hx).1;generalize Builtin.Str.glued (Str.ofString "") ss=bo at UA ha0;have hbz:(bo.length<=sizeLine)=True:=au (bj (by omega));clear hM hs hl hu b1 D1;dsimp?! [hbz];exact#[d,l,_,rfl,D2,by omega,by omega,λcu M3 c0 c1 D3 b3=> ?_];dsimp?! [];exact#[d,l,26,rfl,D3,⋯,⋯,λsta M4 s0 s1 D4 b4=> ?_];dsimp?! [];intro v hv;let⟨nvd,nvl⟩:=D4.ne hv;dsimp?! [];exact#[#[by omega,by omega],jW (λi ρ M'=>eZ λ(o1 o2:fj W) (ns:cH Str)=>gy (ρ= [some (wr d),some (wi m),some (ws zZ),some (ws bo),some (wi cu),some (wi sta),some (wr v),o1,o2]) (ns.length=i) (∀n∈ns,Nm n) (M' v=some (.lst (ns.map ws))) (Dr M' d l)) #[none,none,[],rfl,rfl,by simp,am,D4.put hv] (λ_ _ _ _ _=>trivial) ?_ ?_];rintro i x ρ M5 hx ⟨o1,o2,ns,rfl,hl,tX,hM,D5⟩ N hN;let⟨hi,rfl⟩:=jM hx;have cm:nv 7 (0+(i:Int))=True:=au (.inl #[by omega,by omega]);have h26:((0:Int) <26)=True:=au ⋯;let⟨c,hc,ac⟩:=JQ (i:=(sta+7*(0+(i:Int))) % 26) (by omega) (by omega);dsimp?! [cm,h26,hLz,hc];exact#[d,l,2,rfl,D5,⋯,⋯,λr M6 r0 r1 D6 b6=> ?_];dsimp?! [];let⟨w,rfl⟩:=Int.eq_ofNat_of_zero_le r0;exact#[⟨#[c]⟩,1+w,rfl,by push_cast;rfl,by omega,by change 1<=1000;decide,?_];have tl:=FW (x:=⟨#[c]⟩) (n:=1+w);have tl':(iK ⟨#[c]⟩ (1+w)).length<=2:=ar tl (by change(1+w)*1<=2;omega);have l1:=Txt.slice_le bo none (some cu);have l2:=Txt.slice_le bo (some cu) none;have z1:((Txt.slice bo none (some cu)).length+(iK ⟨#[c]⟩ (1+w)).length<=sizeLine)=True:=au (bj (by omega));have z2:(((Txt.slice bo none (some cu))++(iK ⟨#[c]⟩ (1+w))).length+(Txt.slice bo (some cu) none).length<=sizeLine)=True:=au (bj (by rw[bE];omega));have N1:M6 v=some (.lst (ns.map ws)):=by rw[b6 v nvd];show hM
 have hls:((ns.map ws).length<sizeLine)=True:=au (kx (by rw[af];omega));dsimp?! [hbz,z1,z2,N1,hls];exact hN _ _ #[_,_,ns++ [Txt.slice bo none (some cu)++iK ⟨#[c]⟩ (1+w)++Txt.slice bo (some cu) none],rfl,by simp[hl],λn hn=> ?_,by rw[am,aB];rfl,D6.RD nvd nvl];obtain h | h:=be.mp hn;show tX n h;rw[bg.mp h];show#[Nm.app (Nm.app (BL ha0) (Lg ac)) (BL ha0),by rw[bE,bE];omega];rintro ρ M5 ⟨o1,o2,ns,rfl,hl,tX,hM,D5⟩;rw[jL] at hl;dsimp?! [];show ed (k v ns M5 hM (by omega) tX nvd nvl D5)
def pq {K:WW}(T:ft K mg A):bI P w K mg base fw 1 A.sv A.sH ["_law_name"] (fS K Na):=by
 exists T.qU.fn,["_law_name","_law_good"],(ag (bh (i:=1) nd rfl (by trivial) (bn (iH rfl) (by rfl) T.yn Boot.«all» (aa (dF rfl (c6.of (sc:=_) (N:= ["_law_name","_law_good"]) (own:= ["_law_sign"]) (fr:= []) (N':= ["_law_sign"]) rfl rfl rfl (by right) rfl (by right) (by right) (by right) (by right) (bt rfl)) (Jk (pv 0)) (λ_ _ _ _=>(aZ (i:=0) (by change(["_law_sign"]:cH Str).Nodup;decide+kernel) rfl (by trivial))) eG (λ_ _ _ _=>dE) (λ_ _ _ _=>(iA R0 (pv 0) ay (by rfl)))) ae))) (aj (aF (yW (pv 1) (uW (Jm pi pi ai (bn rJ (by rfl) T.gV Boot.«len» (aa (pv 0) ae)) ai))))))
 rintro vs M q ⟨n,rfl,hn,k⟩;have hz:n.length<=sizeLine:=bj (by have:=hn.len;omega);have Kg:(n.length<=sizeLine)=True:=au hz;have ha:=hn.as;dsimp?! [Kg,ha];exact fi (λc=>wb (B_ c zZ)) (by unfold B9;rw[af, <- str_len];show hz) (λ_ _=>trivial) ?_ λu hu=> ?_;intro c hc M3 N3 s3 jx;dsimp?! [];show jx;exact#[u,(B9 n).map λc=>B_ c zZ,rfl,by rw[am,a5];rfl,?_];have e3:((B9 n).map λc=>B_ c zZ).all id=(B9 n).all λc=>B_ c zZ:=by rw[List.all_map];rfl
 rw[e3];have ek:cy n=(decide (1<=n.length) && decide (n.length<=12) && (B9 n).all λc=>B_ c zZ):=rfl;dsimp?! [Kg];cases hA:(B9 n).all λc=>B_ c zZ with
 | false=>rw[hA,Bool.and_false] at ek;rw[ek] at k;dsimp?! [];show#[M,a7 hu,k]
 | true=>rw[hA,Bool.and_true] at ek;dsimp?! [Kg];by_cases h1:1<=n.length;have e1:decide (1<=(n.length:Int))=true:=a8 (by omega);have e2:decide ((n.length:Int) <=12)=decide (n.length<=12):=decide_eq_decide.mpr (by omega);rw[a8 h1,Bool.true_and] at ek;rw[ek] at k;dsimp?! [e1,e2];show#[M,a7 hu,k];have e1:decide (1<=(n.length:Int))=false:=aG (by omega);rw[aG h1,Bool.false_and] at ek;rw[ek] at k;dsimp?! [e1];show#[M,a7 hu,k]
def u_ {K:WW}(T:ft K mg A):bI P w K mg base fw 1 A.Fk A.FC ["_law_one","_law_most","_law_reach"] (fS K V_):=by
 exists T.ET.fn,["_law_one","_law_most","_law_reach"],(aj (aF (V2 (iA Jx (bn f7 (by rfl) T.sV Boot.«abs» (aa (aH (show cb _ (bq K) from az) (pv 0) ai (λ_ _=>rfl)) ae)) (pv 1) (a9 _)) (uW (CD (bn (iH rfl) (by rfl) T.yn Boot.«all» (aa (dF rfl (c6.of (sc:=_) (N:= ["_law_one","_law_most","_law_reach"]) (own:= ["_law_place","_law_setting"]) (fr:= [2]) (N':= ["_law_place","_law_setting","_law_reach"]) rfl rfl rfl (by right) rfl (by right) (by right) (by right) (by right) (bt rfl)) (kc (K:=K) rfl (aH (show cb _ (bq K) from az) (pv 0) ai (λ_ _=>rfl))) (λ_ _ _ _=>(eD (n:=2) rfl (bv (aZ (i:=0) (by change(["_law_place","_law_setting","_law_reach"]:cH Str).Nodup;decide+kernel) rfl (by trivial)) (bv (aZ (i:=1) (by change(["_law_place","_law_setting","_law_reach"]:cH Str).Nodup;decide+kernel) rfl (by trivial)) dw)))) gk (λ_ _ _ _=>dE) (λ_ _ _ _=>(iA pi (bn f7 (by rfl) T.sV Boot.«abs» (aa (pv 0) ae)) (pv 2) (a9 _)))) ae)))))))
 rintro vs M q ⟨a,m,r,rfl,hl,k⟩;have ef:gx a m r= !(decide ((if a.1<0 then -a.1 else a.1) <=m) && a.2.all λz=>decide ((if z.1<0 then -z.1 else z.1) <=r)):=rfl;dsimp?! [gI,gv];by_cases h1:(if a.1<0 then -a.1 else a.1) <=m;have e1:decide (m<if a.1<0 then -a.1 else a.1)=false:=aG (by omega);rw[a8 h1,Bool.true_and] at ef;rw[ef] at k;dsimp?! [e1];exact fi (λz=>wb (decide ((if z.1<0 then -z.1 else z.1) <=r))) (big (by omega)) (λ_ _=>trivial) ?_ λu hu=> ?_;intro z hz M3 N3 s3 jx;dsimp?! [bZ];show jx;exact#[u,a.2.map λz=>decide ((if z.1<0 then -z.1 else z.1) <=r),rfl,by rw[am,a5];rfl,?_];rw[List.all_map];dsimp?! [];show#[M,a7 hu,k];have e1:decide (m<if a.1<0 then -a.1 else a.1)=true:=a8 (by omega);rw[aG h1,Bool.false_and] at ef;rw[ef] at k;dsimp?! [e1];show ed k
def CK {K:WW}(T:ft K mg A):bI P w K mg base fw 5 A.xS A.x_ ["_law_p_here","_law_rounds","_law_deed"] (fS K RM):=by
 exists T.EN.fn,["_law_p_here","_law_rounds","_law_deed"],(ag (bp (aS c9 (aH (show cb _ (bq K) from az) (pv 2) ai (λ_ _=>rfl)) ay (a9 _)) (aj (aF (ax T.JS (Gp T) hr (aa (pv 0) (aa (aH (show cb _ (bq K) from az) (pv 2) ai (λ_ _=>rfl)) ae))))) aM) (ag (bp (aS c9 (aH (show cb _ (bq K) from az) (pv 2) ai (λ_ _=>rfl)) ay (a9 _)) (aj (aF (ax T.JU (Gr T) hr (aa (pv 0) (aa (eT (d7 hr) (pv 1) (aH (show cb _ (bq K) from az) (aH (show cb _ (bq K) from az) (pv 2) ai (λ_ _=>rfl)) ai (λ_ _=>rfl)) (λ_ _=>rfl)) (aa (eT (d7 hr) (pv 1) (aH (show cb _ (bq K) from az) (aH (show cb _ (bq K) from az) (pv 2) ai (λ_ _=>rfl)) ai (λ_ _=>rfl)) (λ_ _=>rfl)) ae)))))) aM) (aj (aF (ax T.EO (CL T) hr (aa (pv 0) (aa (eT (d7 hr) (pv 1) (aH (show cb _ (bq K) from az) (aH (show cb _ (bq K) from az) (pv 2) ai (λ_ _=>rfl)) ai (λ_ _=>rfl)) (λ_ _=>rfl)) (aa (aH (show cb _ (bq K) from az) (pv 2) ai (λ_ _=>rfl)) ae))))))))
 rintro vs M q ⟨p,r,R,dd,w,rfl,hp,iW,hR,hD,hO,Hx,k⟩;have p0:0<p:=by omega
 have p1:p<1000:=by omega
 have s1:decide (("tell" :Str)= "tell")=true:=by right
 have s2:decide (("join" :Str)= "tell")=false:=by right
 have s3:decide (("join" :Str)= "join")=true:=by right
 have s4:decide (("back" :Str)= "tell")=false:=by right
 have s5:decide (("back" :Str)= "join")=false:=by right
 have s6:decide (("times" :Str)= "tell")=false:=by right
 have s7:decide (("times" :Str)= "join")=false:=by right
 cases dd with
 | tell n ds=>let⟨c,rfl,hc⟩:=hD;let⟨hn,hds,hw⟩:=hO;dsimp? [s1];show#[c,p,ds,rfl,hc,p0,Dd,by omega,ed (k _ rfl (gi p0 _) (ar (jk _ _) (ar (jH _) (by omega))))]
 | join n x y=>
  cases hD;rw[je] at Hx k;cases hx:cC R x with
  | none=>rw[hx] at Hx;cases Hx
  | some a1=>
  cases hy:cC R y with
  | none=>rw[hx,hy] at Hx;cases Hx
  | some a2=>
  rw[hx,hy] at k;let⟨z,hz,_,rfl⟩:=eA hx;let⟨z2,NO,_,rfl⟩:=eA hy;have l1:=(hR.ok z hz).2.1;have l2:=(hR.ok z2 NO).2.1;dsimp? [s2,b0,iW,cM,hx,hy,bG];show#[p,z.2,z2.2,rfl,p0,Dd,by omega,by omega,lF (hR.ok z2 NO).1 p1,ed (k _ rfl (SH p0 _ _) (ar (J7 _ _ _) (by omega)))]
 | back n x=>
  cases hD;rw[je] at Hx k;cases hx:cC R x with
  | none=>rw[hx] at Hx;cases Hx
  | some a1=>
  rw[hx] at k;let⟨z,hz,_,rfl⟩:=eA hx;have l1:=(hR.ok z hz).2.1;dsimp? [s4,s5,iW,cM,hx,bG];exact#[p,z.2, -1,rfl,p0,p1,(hR.ok z hz).1,by omega,λ_=>#[by omega,by omega,by change z.2.2.length*1<=100000;omega],λr hr h0 h1=>ed (k _ (by rw[bG,En p0 hr]) hr.pt ?_)];by_cases SQ:z.2.1=0;have:=h0 SQ;omega
  .have:=h1 SQ;try simp![Int.natAbs_neg,Int.natAbs_one,Nat.mul_one] at this
   omega
 | times n x j=>
  cases hD;let⟨hn,W5,j0,j1⟩:=hO;rw[je] at Hx k;cases hx:cC R x with
  | none=>rw[hx] at Hx;cases Hx
  | some a1=>
  rw[hx] at k;let⟨z,hz,_,rfl⟩:=eA hx;have l1:=(hR.ok z hz).2.1;have l3:z.2.2.length*j.natAbs<=401*100:=Nat.mul_le_mul l1 (by omega);dsimp? [s6,s7,iW,cM,hx,bG];exact#[p,z.2,j,rfl,p0,p1,(hR.ok z hz).1,by omega,λ_=>#[by omega,by omega,by omega],λr hr h0 h1=>ed (k _ (by rw[bG,En p0 hr]) hr.pt ?_)];by_cases SQ:z.2.1=0;have:=h0 SQ;omega
  .have:=h1 SQ;try simp![Int.natAbs_neg,Int.natAbs_one,Nat.mul_one] at this
   omega
 | drop n=>cases Hx
def va {K:WW}(T:ft K mg A):bI P w K mg base fw 6 A.nJ A.nO ["_law_p_here","_law_stand","_law_deed"] (fS K Wa):=by
 exists T.r_.fn,["_law_p_here","_law_stand","_law_deed","_law_rounds","_law_used","_law_one"],(ag (bh (i:=3) nd rfl (by trivial) (ci kr (by rfl) T.zH Boot.«dict» (aa (aH (show cb _ (bq K) from az) (pv 1) ai (λ_ _=>rfl)) ae))) (ag (bh (i:=4) nd rfl (by trivial) (CD (bn (iH rfl) (by rfl) T.yn Boot.«all» (aa (EA (dF rfl (c6.of (sc:=_) (N:= ["_law_p_here","_law_stand","_law_deed","_law_rounds","_law_used","_law_one"]) (own:= ["_law_crew"]) (fr:= [2,1]) (N':= ["_law_crew","_law_deed","_law_stand"]) rfl rfl rfl (by right) rfl (by right) (by right) (by right) (by right) (bt rfl)) (MT (aH (show cb _ (bq K) from az) (pv 1) ai (λ_ _=>rfl))) (λ_ _ _ _=>(aZ (i:=0) (by change(["_law_crew","_law_deed","_law_stand"]:cH Str).Nodup;decide+kernel) rfl (by trivial))) eG (λ_ _ _ _=>dE) (λ_ _ _ _=>(iA (m7 (K:=K) rfl) (aH (show cb _ (bq K) from az) (pv 1) ai (λ_ _=>rfl)) (Jl (d7 hr) (aH (show cb _ (bq K) from az) (pv 2) ai (λ_ _=>rfl)) (pv 0) (λ_ _=>rfl)) (by rfl))))) ae)))) (ag (bp (aS c9 (aH (show cb _ (bq K) from az) (pv 2) ai (λ_ _=>rfl)) ay (a9 _)) (ag (bp (n6 (jQ (d7 hr) (aH (show cb _ (bq K) from az) (pv 2) ai (λ_ _=>rfl)) (pv 3))) (aj (aF (aL (aa ay (aa (pv 1) ae))))) aM) (ag (bp (dM (pv 4)) (aj (aF (aL (aa ay (aa (pv 1) ae))))) aM) (ag (bK (AE (pv 3) (aH (show cb _ (bq K) from az) (pv 2) ai (λ_ _=>rfl)) #[by rfl,by rfl,by rfl,by rfl])) (aj (aF (aL (aa ay (aa (aL (aa (pv 3) (aa (aH (show cb _ (bq K) from az) (pv 1) ai (λ_ _=>rfl)) ae))) ae)))))))) aM) (ag (bp (d4 (dM (ax T.qU (pq T) hr (aa (aH (show cb _ (bq K) from az) (pv 2) ai (λ_ _=>rfl)) ae)))) (aj (aF (aL (aa ay (aa (pv 1) ae))))) aM) (ag (bp (nZ (aS c9 (aH (show cb _ (bq K) from az) (pv 2) ai (λ_ _=>rfl)) ay (a9 _)) (ka (d4 (dM (bn (iH rfl) (by rfl) T.yn Boot.«all» (aa (dF rfl (c6.of (sc:=_) (N:= ["_law_p_here","_law_stand","_law_deed","_law_rounds","_law_used","_law_one"]) (own:= ["_law_word","_law_number"]) (fr:= []) (N':= ["_law_word","_law_number"]) rfl rfl rfl (by right) rfl (by right) (by right) (by right) (by right) (bt rfl)) (Ez (K:=K) rfl (aH (show cb _ (bq K) from az) (pv 2) ai (λ_ _=>rfl))) (λ_ _ _ _=>(eD (n:=2) rfl (bv (aZ (i:=0) (by change(["_law_word","_law_number"]:cH Str).Nodup;decide+kernel) rfl (by trivial)) (bv (aZ (i:=1) (by change(["_law_word","_law_number"]:cH Str).Nodup;decide+kernel) rfl (by trivial)) dw)))) gk (λ_ _ _ _=>dE) (λ_ _ _ _=>(iA (uZ (K:=K) rfl) (pv 0) (aL (aa ay (aa ay ae))) (by rfl)))) ae)))))).pt (aj (aF (aL (aa ay (aa (pv 1) ae))))) aM) (ag (bp (nZ (aS pf (aH (show cb _ (bq K) from az) (pv 2) ai (λ_ _=>rfl)) ay (a9 _)) (ka (d4 (dM (bn (iH rfl) (by rfl) T.yn Boot.«all» (aa (dF rfl (c6.of (sc:=_) (N:= ["_law_p_here","_law_stand","_law_deed","_law_rounds","_law_used","_law_one"]) (own:= ["_law_name"]) (fr:= [3]) (N':= ["_law_name","_law_rounds"]) rfl rfl rfl (by right) rfl (by right) (by right) (by right) (by right) (bt rfl)) (Ez (K:=K) rfl (aH (show cb _ (bq K) from az) (pv 2) ai (λ_ _=>rfl))) (λ_ _ _ _=>(aZ (i:=0) (by change(["_law_name","_law_rounds"]:cH Str).Nodup;decide+kernel) rfl (by trivial))) eG (λ_ _ _ _=>dE) (λ_ _ _ _=>(RI (CF (d7 hr) (pv 0) (pv 1))))) ae)))))).pt (aj (aF (aL (aa ay (aa (pv 1) ae))))) aM) (ag (bh (i:=5) nd rfl (by trivial) (ax T.EN (CK T) hr (aa (pv 0) (aa (pv 3) (aa (pv 2) ae))))) (ag (bp (kP (dM (ax T.ET (u_ T) hr (aa (pv 5) (aa ai (aa ai ae))))) (iS (nZ (dM (pv 4)) (ka (dM (ax T.ET (u_ T) hr (aa (pv 5) (aa ai (aa ai ae))))))).pt)).pt (aj (aF (aL (aa ay (aa (pv 1) ae))))) aM) (ag (mY (d7 hr) (pv 3) (aH (show cb _ (bq K) from az) (pv 2) ai (λ_ _=>rfl)) (pv 5) rfl) (aj (aF (aL (aa ay (aa (aL (aa (pv 3) (aa (aH (show cb _ (bq K) from az) (pv 1) ai (λ_ _=>rfl)) ae))) ae))))))))))))))
 rintro vs M q ⟨p,r,t,R,T',dd,w,rfl,hp,⟨iW,ht⟩,⟨hR,hT⟩,hD,hO,kq,ke⟩;have p0:0<p:=by omega
 have rQ:decide (("tell" :Str)= "drop")=false:=by right
 dsimp?! [iW];intro u hu;have hsz:((xx R).length<sizeLine)=True:=au (kx (by rw[oI];have:=hR.len;omega));have A8:um M u (.dK (xx R)) t=some (.dK (qq T')):=by rw[aR (ca ht hu)];show ht
 dsimp?! [];exact#[t,_,A8,?_];dsimp?! [A8];intro o ks;have dv: ∃cX,w= .tup (ws (kdOf dd)::ws (gw dd)::cX):=by
  cases dd with
  | tell n ds=>let⟨c,rfl,hc⟩:=hD;show#[_,rfl]
  | _=>cases hD;show#[_,rfl]
 let⟨cX,ew⟩:=dv;have e1:gY (ws (kdOf dd)::ws (gw dd)::cX) 1=some (ws (gw dd)):=gl ⋯ rfl;have ek:(qq T').map (λkv=>i9 kv.1)=T'.map λz=>ws z.1:=by unfold qq tf;rw[a5];rfl
 rw[ek];exact fi (λz=>wb (!sj (gw dd) z.2)) (big (by have:=hT.len;omega)) (λM2 s2=>s2 _ _ am) ?_ λv hv=> ?_;intro z hz M3 N3 s3 jx;have h3:=s3 _ _ am;dsimp?! [ew,e1,h3,cM,zt hT.nd hz,bG];show oa jx;have nvt:t≠v:=ca am hv;exact#[o,ks,_,by rw[aR nvt];show am,v,T'.map λz=> !sj (gw dd) z.2,rfl,by rw[aR nvt.symm,am,a5];rfl,?_];have eu:(!(T'.map λz=> !sj (gw dd) z.2).all id)=s_ T' (gw dd):=by rw[List.all_map,List.not_all_eq_any_not];unfold s_;congr 1;funext z;simp
 have s1:=DT (l:= .lst (T'.map λz=>wb (!sj (gw dd) z.2))) A8 hv;generalize um (um (um (um M u (.dK (xx R))) t (.fz o ks (qq T'))) v (.lst (T'.map λz=>wb (!sj (gw dd) z.2)))) t (.dK (qq T'))=M1 at s1;generalize wR:(T'.map λz=> !sj (gw dd) z.2).all id=G_ at eu;have nn:M1 u=some (.dK (xx R)):=s1 _ _ am;have st:Sm M M1:=(a7 hu).trans s1;have Ma:=hD.sm st;clear hv nvt s1 A8 e1 wR ek;by_cases wP:Up dd
 .obtain⟨k1,k2,k3⟩:=kdn wP;let⟨tail,rfl⟩:=dvn Ma wP;dsimp?! [k1,k2,k3,aI];exact#[_,rfl,nmn wP hO,?_];cases jw:cy (gw dd) with
  | false=>dsimp?! [aW];show#[M,st,ke .BadName (EI jw (λ_ z=>by subst z;cases wP))]
  | true=>
  dsimp?! [aI,k1,k2,k3,b0];exact fi (l:=jD dd) (fW:=ws) (λz=>wb (cC R z).isSome) (big (by have:=QG dd;omega)) (λ_ _=>trivial) ?_ λv hv=> ?_;intro z hz M3 N3 s3 jx;dsimp?! [s3 _ _ nn,cM,b8];show jx;exact#[v,(jD dd).map λz=>(cC R z).isSome,rfl,by rw[am,a5];rfl,?_];have st:=st.trans (a7 hv (o:= .lst ((jD dd).map λz=>wb (cC R z).isSome)));have nn:um M1 v (.lst ((jD dd).map λz=>wb (cC R z).isSome)) u=some (.dK (xx R)):=by rw[aR (ca nn hv)];show nn
  replace Ma:=Ma.sm (a7 hv (o:= .lst ((jD dd).map λz=>wb (cC R z).isSome)));generalize um M1 v (.lst ((jD dd).map λz=>wb (cC R z).isSome))=M1 at st nn Ma;clear hv;have ea:((jD dd).map λz=>(cC R z).isSome).all id=(jD dd).all λz=>(cC R z).isSome:=by rw[List.all_map];rfl
  have Kr: ∀n' Tr,dd= .tell n' Tr ->jy Tr=true:=λ_ _ z=>by subst z;cases wP
  rw[ea];cases wR:(jD dd).all λz=>(cC R z).isSome with
  | false=>dsimp?! [aW];show#[M,st,ke .NoRound (Wm wP jw wR)]
  | true=>
  have Ki:=Mv (p:=p) wP wR;dsimp?! [aI];exact#[p,u,R,_,_,rfl,hp,nn,hR,Ma,hO,Ki,λa ha hP hl=> ?_];have ho:=JC (T:=T') (dd:=dd) p0 jw Kr ha;dsimp?! [];exact#[a,200,200,rfl,hl,?_];cases hf:gx a 200 200 with
  | true=>dsimp?! [];show#[M,st,ke .TooFar (by rw[ho,jS,ao (by unfold dz;rw[hf];rfl)])]
  | false=>
   cases xK:s_ T' (gw dd) with
   | false=>
    have KI:(!G_)=false:=eu.trans xK;have ol:dz T' (gw dd) a=false:=by unfold dz;rw[hf,xK];rfl
    have zq:=ho.trans (ak (by change ¬dz T' (gw dd) a=true;rw[ol];decide));dsimp?! [KI,nn,hsz];exact#[_,Sm.refl _,kq _ zq #[hR,λsr=>hR.put sr hP ol] u _ (st.um hu) hu ?_];rw[am,gJ]
   | true=>
    have KI:(!G_)=true:=eu.trans xK;dsimp?! [KI];exact#[a,8,24,rfl,hl,?_];cases L7:gx a 8 24 with
    | true=>dsimp?! [];show#[M,st,ke .TooFar (by rw[ho,jS,ao (by unfold dz;change(gx a 200 200 || (s_ T' (gw dd) && gx a 8 24))=true;rw[hf,xK,L7];rfl)])]
    | false=>
     have ol:dz T' (gw dd) a=false:=by unfold dz;rw[hf,xK,L7];rfl
     have zq:=ho.trans (ak (by change ¬dz T' (gw dd) a=true;rw[ol];decide));dsimp?! [nn,hsz];exact#[_,Sm.refl _,kq _ zq #[hR,λsr=>hR.put sr hP ol] u _ (st.um hu) hu ?_];rw[am,gJ]
 cases dd with
 | join n x y=>show absurd trivial wP
 | back n x=>show absurd trivial wP
 | times n x k=>show absurd trivial wP
 | tell n ds=>
  let⟨c,rfl,hc⟩:=Ma;let⟨hn,hds,hw⟩:=id hO;have Ma:DV M1 (.tell n ds) (.tup [ws "tell",ws n,wr c]):=#[c,rfl,hc]
  dsimp?! [rQ,hc,aI];exact#[n,rfl,hn,?_];cases jw:cy n with
  | false=>dsimp?! [aW];show#[M,st,ke .BadName (EI jw (λ_ z=>nomatch z))]
  | true=>
  dsimp?! [aI,rQ,hc,b0,hc];exact fi (l:=ds) (fW:=f_) (λz:Str×Int=>wb (decide (z.1= "go") || decide (z.1= "turn"))) (big (by omega)) (λM2 s2=>s2 _ _ hc) ?_ λv hv=> ?_;intro z hz M3 N3 s3 jx;dsimp?! [f_];show#[.str z.1,[.str "go", .str "turn"],rfl, .inl rfl,rfl,rfl,by rw[WZ];show jx];exact#[v,ds.map λz:Str×Int=>(decide (z.1= "go") || decide (z.1= "turn")),rfl,by rw[am,a5];rfl,?_];have eg:(ds.map λz:Str×Int=>(decide (z.1= "go") || decide (z.1= "turn"))).all id=jy ds:=by rw[List.all_map];rfl
  rw[eg];have st:=st.trans (a7 hv (o:= .lst (ds.map λz:Str×Int=>wb (decide (z.1= "go") || decide (z.1= "turn")))));have nn:um M1 v (.lst (ds.map λz:Str×Int=>wb (decide (z.1= "go") || decide (z.1= "turn")))) u=some (.dK (xx R)):=by rw[aR (ca nn hv)];show nn
  have hc:um M1 v (.lst (ds.map λz:Str×Int=>wb (decide (z.1= "go") || decide (z.1= "turn")))) c=some (.lst (ds.map f_)):=by rw[aR (ca hc hv)];show hc
  generalize um M1 v (.lst (ds.map λz:Str×Int=>wb (decide (z.1= "go") || decide (z.1= "turn"))))=M1 at st nn hc;have Ma:DV M1 (.tell n ds) (.tup [ws "tell",ws n,wr c]):=#[c,rfl,hc]
  cases Ux:jy ds with
  | false=>dsimp?! [aW];show#[M,st,ke .NoDeed (by rw[cJ,ak (by rw[jw];decide),ao Ux])]
  | true=>
  have Kr: ∀n' Tr,d3.tell n ds= .tell n' Tr ->jy Tr=true:=λ_ _ z=>by cases z;show Ux
  have Ki:(je p R (.tell n ds)).isSome=true:=rfl;have nt:(("tell" :Str)≠ "tell")=False:=by simp
  dsimp?! [aI,nt,decide_false,ne_eq,not_true,not_true_eq_false];exact#[p,u,R,_,_,rfl,hp,nn,hR,Ma,hO,Ki,λa ha hP hl=> ?_];have ho:=JC (T:=T') (dd:= .tell n ds) p0 jw Kr ha;dsimp?! [];exact#[a,200,200,rfl,hl,?_];cases hf:gx a 200 200 with
  | true=>dsimp?! [];show#[M,st,ke .TooFar (by rw[ho,jS,ao (by unfold dz;rw[hf];rfl)])]
  | false=>
   cases xK:s_ T' n with
   | false=>
    have KI:(!G_)=false:=eu.trans xK;have ol:dz T' n a=false:=by unfold dz;rw[hf,xK];rfl
    have zq:=ho.trans (ak (by change ¬dz T' n a=true;rw[ol];decide));dsimp?! [KI,nn,hsz];exact#[_,Sm.refl _,kq _ zq #[hR,λsr=>hR.put sr hP ol] u _ (st.um hu) hu ?_];rw[am,gJ];rfl
   | true=>
    have KI:(!G_)=true:=eu.trans xK;dsimp?! [KI];exact#[a,8,24,rfl,hl,?_];cases L7:gx a 8 24 with
    | true=>dsimp?! [];show#[M,st,ke .TooFar (by rw[ho,jS,ao (by unfold dz;change(gx a 200 200 || (s_ T' n && gx a 8 24))=true;rw[hf,xK,L7];rfl)])]
    | false=>
     have ol:dz T' n a=false:=by unfold dz;rw[hf,xK,L7];rfl
     have zq:=ho.trans (ak (by change ¬dz T' n a=true;rw[ol];decide));dsimp?! [nn,hsz];exact#[_,Sm.refl _,kq _ zq #[hR,λsr=>hR.put sr hP ol] u _ (st.um hu) hu ?_];rw[am,gJ];rfl
 | drop n=>
  cases Ma;dsimp?! [b0,nn,cM,b8];cases hx:cC R n with
  | none=>dsimp?! [dj,aW];show#[M,st,ke .NoRound (by rw[cJ,hx])]
  | some a1=>
   cases xK:s_ T' n with
   | true=>have KI:(!G_)=true:=eu.trans xK;dsimp?! [cz,aI,KI];show#[M,st,ke .InUse (by rw[cJ,hx];show ao xK)]
   | false=>have KI:(!G_)=false:=eu.trans xK;dsimp?! [cz,aI,KI,nn,cM,hx,bG];exact#[_,Sm.refl _,kq (ot R n) (by rw[cJ,hx];show ak (by rw[xK];decide)) #[hR,λ_=>hR.del] u _ (st.um hu) hu ?_];rw[am,pX]
def iB {K:WW}(T:ft K mg A):bI P w K mg base (i6 P w) 1 A.sD A.sN ["self","crew"] (uh K (V4 A.aY A.bw A.eL)):=by
 have cl:=au T.Book.cl;have rH:=au T.Page.cl;have n2:=au T.n_Book_now;have n4:=au T.n_Page_teams;exact zf T.j6.fn oO (by rintro vs M q e ⟨b,la,lu,lh,now,p,pa,un,he,R,T',n,rfl,_⟩;rfl) λcdv A' outer s H E e hr hF hP=> ?_;have nd:=oO.nd;exact#[_,(ag (bp (n6 (jQ (d7 hr) (pv 1) (bC (K:=K) rfl (bC (K:=K) rfl (pv 0) rfl) rfl))) (aj (dA hF rfl (by rfl) T.z6 (aa (eR (bO ay (bO (hV (pv 1)) fL))) ae))) aM) (aj (aF (eT (d7 hr) (bC (K:=K) rfl (bC (K:=K) rfl (pv 0) rfl) rfl) (pv 1) (λ_ _=>rfl))))),?_];try dsimp only[eQ]
 exact#[_,inferInstance,?_];rintro vs M q ⟨b,la,lu,lh,now,p,pa,un,he,R,T',n,rfl,hB,hl,kq,ke⟩;let⟨dx,hb⟩:=hB.ob;let⟨ly,r,t,h1,h2,h3⟩:=hB.pg;dsimp?! [hb,h1,h3,cl,rH,n2,n4,iC,n8,cM];cases hg:cC T' n with
 | some a=>dsimp?! [bG,cz,aI];dsimp?! [hb,h1,h3,cl,rH,n2,n4,iC,n8,cM,hg,bG];show ed (kq a hg)
 | none=>dsimp?! [Option.map_none,dj,aW];(repeat (exact#[by first | decide | decide+kernel | show bj (by omega) | show Qs (by right) hl | show Qr (by right) hl (by right),?_]));show#[M,Sm.refl M,ke hg]
def kS {K:WW}(T:ft K mg A):bI P w K mg base (i6 P w) 2 A.mn A.mJ ["self","crew"] (uh K (Ju A.aY A.bw A.eL)):=by
 exact zf T.kA.fn kG (by rintro vs M q e ⟨b,la,lu,lh,now,p,pa,un,he,R,T',n,rfl,_⟩;rfl) λcdv A' outer s H E e hr hF hP=> ?_;have nd:=kG.nd;exact#[_,(aj (aF (ci fb (by rfl) T.h_ Boot.«list» (aa (cB hP T.j6 (iB T) (hr.mono ⋯) (pv 0) (aa (pv 1) ae)) ae)))),?_];try dsimp only[eQ]
 exact#[_,inferInstance,?_];rintro vs M q ⟨b,la,lu,lh,now,p,pa,un,he,R,T',n,rfl,hB,hl,kq,ke⟩;let⟨dx,hb⟩:=hB.ob;dsimp?! [hb,uB];exact#[b,la,lu,lh,now,p,pa,un,he,R,T',n,rfl,hB,hl,λa hg=> ?_,λhg=>#[M,Sm.refl M,ke hg]];dsimp?! [fB];show λu hu=>ed (kq a hg u hu)
def gE {K:WW}(T:ft K mg A):bI P w K mg base fw 3 A.k8 A.li ["self","crew","team"] (fS K (Js A.aY A.bw)):=by
 have cl:=au T.Book.cl;have rH:=au T.Page.cl;have n2:=au T.n_Book_now;have n3:=au T.n_Page_teams;have n4:=au T.n_Page_rounds;exists T.gM.fn,["self","crew","team"],(aj (bK (eJ T.fH (fg T) (hr.mono ⋯) (pv 0) (aa (jO T.Page (pz T) (hr.mono ⋯) (by rfl) (aa (bC (K:=K) rfl (bC (K:=K) rfl (pv 0) rfl) rfl) (aa (ax T.with_thing (nE T) hr (aa (bC (K:=K) rfl (bC (K:=K) rfl (pv 0) rfl) rfl) (aa (pv 1) (aa (pv 2) ae)))) ae))) ae))))
 rintro vs M q ⟨b,la,lu,lh,now,p,pa,un,he,R,T',c,l,rfl,hB,hPa,hT,k⟩;let⟨dx,hb⟩:=hB.ob;let⟨ly,r,t,h1,h2,h3⟩:=hB.pg;dsimp?! [hb,gG];rw[mV];dsimp?! [hb,h1,cl,rH,n2,n3,n4,iC,n8,qJ];exact#[t,_,c,_,rfl,h3,by rw[oI];omega,λu hu=> ?_];intro pg zB m_ L' l5;rw[gJ] at m_ ⊢;exact#[pg,zB,r,u,rfl,am,rfl,?_];rw[kC];have s2:=(a7 hu (o:= .dK (tf fB (hU T' c l)))).trans (a7 m_ (o:= .ins A.bw zB (lS r u)));have Nr:=ca am m_;show#[b,la,lu,lh,now,pg,p,pa,un,he,R,T',R,_,rfl,hB.sm s2,#[zB,r,u,am,s2 _ _ h2,by rw[aR Nr];show am],by omega,λM' eU B' F zX=>ed (k M' eU pg B' (F.sm s2) (s2.free zX) ((a7 hu).free m_))]
def wL {K:WW}(T:ft K mg A):bI P w K mg base (i6 P w) 4 A.pV A.qc ["self","crew"] (uh K (ur A.aY A.bw (vY A) To)):=by
 have cl:=au T.Book.cl;have rH:=au T.Page.cl;have n2:=au T.n_Book_now;have n3:=au T.n_Page_teams;exact zf T.ww.fn nz (by rintro vs M q e ⟨b,la,lu,lh,now,p,pa,un,he,R,T',dd,ys,rfl,⟨c,rfl,_⟩,_⟩;rfl) λcdv A' outer s H E e hr hF hP=> ?_;have nd:=nz.nd;exact#[_,(ag (bK (iE hP T.check_name (fO T) (hr.mono ⋯) (by rfl) (aa (pv 1) ae))) (ag (bp (n6 (CF (d7 hr) (pv 1) (bC (K:=K) rfl (bC (K:=K) rfl (pv 0) rfl) rfl))) (aj (dA hF rfl (by rfl) T.yx (aa (eR (bO ay (bO (hV (pv 1)) fL))) ae))) aM) (aj (bK (eJ T.gM (gE T) (hr.mono ⋯) (pv 0) (aa (pv 1) (aa (aL ae) ae))))))),?_];try dsimp only[eQ]
 exact#[_,inferInstance,?_];rintro vs M q ⟨b,la,lu,lh,now,p,pa,un,he,R,T',dd,ys,rfl,⟨c,rfl,rfl⟩,hc,hB,hS,hT,kq,ke⟩;let⟨dx,hb⟩:=hB.ob;let⟨ly,r,t,h1,h2,h3⟩:=hB.pg;have lr:=hc.len;have up: ∀C,e C M ->WL.up e C M:=λC h=>#[M,Sm.refl M,h]
 dsimp?! [];exact#[c,rfl,hc.as,hc.len,λjw=> ?_,λjw=>up _ (ke .BadName (by rw[cN,ao jw]))];have oi:¬cy c=false:=by rw[jw];decide
 dsimp?! [hb,h1,h3,cl,rH,n2,n3,iC,n8,cM,b8];cases hg:cC T' c with
 | some l=>dsimp?! [cz];(repeat (exact#[by first | decide | decide+kernel | show bj (by omega) | show Qs (by right) lr | show Qr (by right) lr (by right),?_]));show up _ (ke .Taken (by rw[cN,ak oi,hg]))
 | none=>dsimp?! [dj,hb,mQ];show#[b,la,lu,lh,now,p,pa,un,he,R,T',c,[],rfl,hB,hS.pa,hS.t,λM' eU pg B' F h1 h2=>ed (kq _ (by rw[cN,ak oi,hg]) M' eU pg B' F h1 h2)]
def tF {K:WW}(T:ft K mg A):bI P w K mg base (i6 P w) 3 A.mx A.mM ["self","crew"] (uh K (ur A.aY A.bw (vY A) KG)):=by
 have cl:=au T.Book.cl;have rH:=au T.Page.cl;have n2:=au T.n_Book_now;have n3:=au T.n_Page_teams;have n4:=au T.n_Page_rounds;exact zf T.qo.fn kJ (by rintro vs M q e ⟨b,la,lu,lh,now,p,pa,un,he,R,T',dd,ys,rfl,⟨c,rfl,_⟩,_⟩;rfl) λcdv A' outer s H E e hr hF hP=> ?_;have nd:=kJ.nd;exact#[_,(ag (bK (cB hP T.j6 (iB T) (hr.mono ⋯) (pv 0) (aa (pv 1) ae))) (aj (bK (eJ T.fH (fg T) (hr.mono ⋯) (pv 0) (aa (jO T.Page (pz T) (hr.mono ⋯) (by rfl) (aa (bC (K:=K) rfl (bC (K:=K) rfl (pv 0) rfl) rfl) (aa (ax T.without (u4 T) hr (aa (bC (K:=K) rfl (bC (K:=K) rfl (pv 0) rfl) rfl) (aa (pv 1) ae))) ae))) ae))))),?_];try dsimp only[eQ]
 exact#[_,inferInstance,?_];rintro vs M q ⟨b,la,lu,lh,now,p,pa,un,he,R,T',dd,ys,rfl,⟨c,rfl,rfl⟩,hc,hB,hS,hT,kq,ke⟩;let⟨dx,hb⟩:=hB.ob;let⟨ly,r,t,h1,h2,h3⟩:=hB.pg;have hPa:=hS.pa;have up: ∀C,e C M ->WL.up e C M:=λC h=>#[M,Sm.refl M,h]
 dsimp?! [hb,uB];exact#[b,la,lu,lh,now,p,pa,un,he,R,T',c,rfl,hB,hc.len,λl hg=> ?_,λhg=>up _ (ke .NoCrew (by rw[cN,hg]))];have ho:cN R T' (.disband c)= .ok (ot T' c):=by rw[cN,hg]
 dsimp?! [hb,gG];rw[mV];dsimp?! [hb,h1,cl,rH,n2,n3,n4,iC,n8,qJ];exact#[t,_,c,rfl,h3,by rw[cM,hg];rfl,λu hu=> ?_];intro pg zB m_ L' l5;rw[pX] at m_ ⊢;exact#[pg,zB,r,u,rfl,am,rfl,?_];rw[kC];have s2:=(a7 hu (o:= .dK (tf fB (ot T' c)))).trans (a7 m_ (o:= .ins A.bw zB (lS r u)));have Nr:=ca am m_;show#[b,la,lu,lh,now,pg,p,pa,un,he,R,T',R,_,rfl,hB.sm s2,#[zB,r,u,am,s2 _ _ h2,by rw[aR Nr];show am],by omega,λM' eU B' F zX=>ed (kq _ ho M' eU pg B' (F.sm s2) (s2.free zX) ((a7 hu).free m_))]
def vd {K:WW}(T:ft K mg A):bI P w K mg base (i6 P w) 4 A.nM A.nR ["self","crew","name"] (uh K (ur A.aY A.bw (vY A) Oe)):=by
 exact zf T.sX.fn lG (by rintro vs M q e ⟨b,la,lu,lh,now,p,pa,un,he,R,T',dd,ys,rfl,⟨c,n,rfl,_⟩,_⟩;rfl) λcdv A' outer s H E e hr hF hP=> ?_;have nd:=lG.nd;exact#[_,(ag (bh (i:=3) nd rfl (by trivial) (cB hP T.j6 (iB T) (hr.mono ⋯) (pv 0) (aa (pv 1) ae))) (ag (bh (i:=4) nd rfl (by trivial) (cB hP T.dJ (c_ T) (hr.mono ⋯) (pv 0) (aa (pv 2) ae))) (ag (bp (aS (uZ (K:=K) rfl) (pv 2) (pv 3) (by rfl)) (aj (dA hF rfl (by rfl) T.yx (aa (eR (bO (hV (pv 2)) (bO ay (bO (hV (pv 1)) fL)))) ae))) aM) (ag (bp (aS AH (bn (dU (K:=K) rfl) (by rfl) T.gV Boot.«len» (aa (pv 3) ae)) (gg (by rfl) T.lA.choose_spec (show RelV (.int 6) _ from#[_,rfl])) (a9 _)) (aj (dA hF rfl (by rfl) T.xc (aa (eR (bO ay (bO (lU (gg (by rfl) T.lA.choose_spec (show RelV (.int 6) _ from#[_,rfl]))) (bO ay fL)))) ae))) aM) (ag (bp (d4 (dM (ax T.fits_crew (py T) hr (aa (pv 4) ae)))) (aj (dA hF rfl (by rfl) T.oC (aa (eR (bO (hV (pv 2)) (bO ay fL))) ae))) aM) (aj (bK (eJ T.gM (gE T) (hr.mono ⋯) (pv 0) (aa (pv 1) (aa (bP EH (pv 3) (aL (aa (pv 2) ae))) ae)))))))))),?_];try dsimp only[eQ]
 exact#[_,inferInstance,?_];rintro vs M q ⟨b,la,lu,lh,now,p,pa,un,he,R,T',dd,ys,rfl,⟨c,n,rfl,rfl⟩,⟨hc,hn⟩,hB,hS,hT,kq,ke⟩;let⟨dx,hb⟩:=hB.ob;have lr:=hc.len;have i7:=hn.len;have up: ∀C,e C M ->WL.up e C M:=λC h=>#[M,Sm.refl M,h]
 dsimp?! [hb,uB];exact#[b,la,lu,lh,now,p,pa,un,he,R,T',c,rfl,hB,hc.len,λl hg=> ?_,λhg=>up _ (ke .NoCrew (by rw[cN,hg]))];dsimp?! [hb,e8];exact#[b,la,lu,lh,now,p,pa,un,he,R,T',n,rfl,hB,hn.len,λa Cc=> ?_,λCc=>up _ (ke .NoRound (by rw[cN,hg];dsimp only;rw[Cc]))];dsimp?! [];exact uv ?_;let⟨z,hz,_,rfl⟩:=eA Cc;cases hi:sj n l with
 | true=>dsimp?! [];exact#[bj (by omega),Qs (by right) i7,Qr (by right) i7 (by right),bj (by omega),ZI (by right) i7 (by right) lr,ZI (by right) i7 (by right) lr,?_];show up _ (ke .Taken (by rw[cN,hg];dsimp only;rw[Cc];dsimp only;rw[ao hi]))
 | false=>
 have GR:¬sj n l=true:=by rw[hi];decide
 dsimp?! [fB,af];by_cases h6:6<=l.length
 .have e6:decide ((6:Int) <=(l.length:Int))=true:=a8 (by omega);dsimp?! [e6];(repeat (exact#[by first | decide | decide+kernel,?_]));show up _ (ke .TooMany (by rw[cN,hg];dsimp only;rw[Cc];dsimp only;rw[ak GR,ao h6]))
 .have e6:decide ((6:Int) <=(l.length:Int))=false:=aG (by omega);dsimp?! [e6];exact#[z.2,rfl,by have:=(hS.r.ok z hz).2.1;omega,?_];cases hf:gx z.2 8 24 with
  | true=>dsimp?! [aI,aW];(repeat (exact#[by first | decide | decide+kernel | show bj (by omega) | show Qs (by right) i7 | show Qr (by right) i7 (by right),?_]));show up _ (ke .TooFar (by rw[cN,hg];dsimp only;rw[Cc];dsimp only;rw[ak GR,ak h6,ao hf]))
  | false=>
   have hsz:((l.map ws).length+ [ws n].length<=sizeLine)=True:=au (big (by rw[af];simp;omega));dsimp?! [aI,aW,hb,mQ];exact#[big (by rw[af];omega),?_];have el:W.tup (l.map ws++ [ws n])=fB (l++ [n]):=by unfold fB;rw[aB];rfl
   rw[el];show#[b,la,lu,lh,now,p,pa,un,he,R,T',c,l++ [n],rfl,hB,hS.pa,hS.t,λM' eU pg B' F h1 h2=>ed (kq _ (by rw[cN,hg];dsimp only;rw[Cc];dsimp only;rw[ak GR,ak h6,ak (by rw[hf];decide)]) M' eU pg B' F h1 h2)]
def tE {K:WW}(T:ft K mg A):bI P w K mg base (i6 P w) 4 A.mw A.mL ["self","crew","name"] (uh K (ur A.aY A.bw (vY A) KD)):=by
 exact zf T.qm.fn kI (by rintro vs M q e ⟨b,la,lu,lh,now,p,pa,un,he,R,T',dd,ys,rfl,⟨c,n,rfl,_⟩,_⟩;rfl) λcdv A' outer s H E e hr hF hP=> ?_;have nd:=kI.nd;exact#[_,(ag (bh (i:=3) nd rfl (by trivial) (cB hP T.j6 (iB T) (hr.mono ⋯) (pv 0) (aa (pv 1) ae))) (ag (bp (aS (m7 (K:=K) rfl) (pv 2) (pv 3) (by rfl)) (aj (dA hF rfl (by rfl) T.qv (aa (eR (bO (hV (pv 2)) (bO ay (bO (hV (pv 1)) fL)))) ae))) aM) (aj (bK (eJ T.gM (gE T) (hr.mono ⋯) (pv 0) (aa (pv 1) (aa (ci gT (by rfl) T.jo Boot.«tuple» (aa (dF rfl (c6.of (sc:=_) (N:= ["self","crew","name","team"]) (own:= ["member"]) (fr:= [2]) (N':= ["member","name"]) rfl rfl rfl (by right) rfl (by right) (by right) (by right) (by right) (bt rfl)) (kc (K:=K) rfl (pv 3)) (λ_ _ _ _=>(aZ (i:=0) (by change(["member","name"]:cH Str).Nodup;decide+kernel) rfl (by trivial))) eG (λ_ _ _ _=>(ul (aS pf (pv 0) (pv 1) (a9 _)))) (λ_ _ _ _=>(pv 0))) ae)) ae))))))),?_];try dsimp only[eQ]
 exact#[_,inferInstance,?_];rintro vs M q ⟨b,la,lu,lh,now,p,pa,un,he,R,T',dd,ys,rfl,⟨c,n,rfl,rfl⟩,⟨hc,hn⟩,hB,hS,hT,kq,ke⟩;let⟨dx,hb⟩:=hB.ob;have lr:=hc.len;have i7:=hn.len;have up: ∀C,e C M ->WL.up e C M:=λC h=>#[M,Sm.refl M,h]
 dsimp?! [hb,uB];exact#[b,la,lu,lh,now,p,pa,un,he,R,T',c,rfl,hB,hc.len,λl hg=> ?_,λhg=>up _ (ke .NoCrew (by rw[cN,hg]))];dsimp?! [];exact oa ?_;cases hi:sj n l with
 | false=>dsimp?! [aW];exact#[bj (by omega),Qs (by right) i7,Qr (by right) i7 (by right),bj (by omega),ZI (by right) i7 (by right) lr,ZI (by right) i7 (by right) lr,?_];show up _ (ke .NoRound (by rw[cN,hg];dsimp only;rw[ao hi]))
 | true=>dsimp?! [aI,hb,mQ,fB];let⟨z,hz,_,rfl⟩:=eA hg;exact vW (λm=>decide (m≠n)) ws (big (by have:=hT.mem z hz;omega)) (λ_ _=>trivial) ?_ λu hu=> ?_;intro m hm M3 N3 s3 jx;dsimp?! [];by_cases h:m=n;rw[aG ⇑h] at jx;rw[a8 h];show jx;rw[a8 h] at jx;rw[aG h];show jx;dsimp?! [am];have s2:=a7 hu (o:= .lst ((z.2.filter λm=>decide (m≠n)).map ws));show#[b,la,lu,lh,now,p,pa,un,he,R,T',c,z.2.filter λm=>decide (m≠n),rfl,hB.sm s2,hS.pa,hS.t,λM' eU pg B' F h1 h2=>ed (kq _ (by rw[cN,hg];dsimp only;rw[ak (by rw[hi];decide)]) M' eU pg B' (F.sm s2) (s2.free h1) (s2.free h2))]
def za {K:WW}(T:ft K mg A):bI P w K mg base (i6 P w) 1 A.sB A.sK ["self"] (uh K (Py A.aY A.bw A.eK)):=by
 have cl:=au T.Book.cl;have n2:=au T.n_Book_now;have n3:=au T.n_Book_past;have n4:=au T.n_Book_undone;exact zf T.yq.fn oM (by rintro vs M q e ⟨b,la,lu,lh,now,p,pa,un,he,R,T',rfl,_⟩;rfl) λcdv A' outer s H E e hr hF hP=> ?_;have nd:=oM.nd;exact#[_,(ag (bp (d4 (xy (bC (K:=K) rfl (pv 0) rfl))) (aj (dA hF rfl (by rfl) T.uD (aa ay ae))) aM) (ag (bK (eV aN bz bx dh (bC (K:=K) rfl (pv 0) rfl) (aa (bC (K:=K) rfl (pv 0) rfl) ae))) (aj (iT (pv 0) (yV aN PySem.F.slot_list_pop PySem.F.type_list_pop JM (bC (K:=K) rfl (pv 0) rfl)) rfl)))),?_];try dsimp only[eQ]
 exact#[_,inferInstance,?_];rintro vs M q ⟨b,la,lu,lh,now,p,pa,un,he,R,T',rfl,hB,hl,ke,kq⟩;let⟨dx,hb⟩:=hB.ob;have ha:=hB.pa;have hu:=hB.un;dsimp?! [hb,cl,n2,n3,n4,Lc,Oz,iC,ha,hu];rw[Aa ha];cases pa using WP.iF with
 | h0=>dsimp?! [List.map_nil,List.isEmpty_nil,aI,aW];show#[M,Sm.refl M,ke rfl]
 | h1 MW pg=>
  have l5:((MW++ [pg]).map wr).isEmpty=false:=by simp
  have hs:((un.map wr).length<sizeLine)=True:=au (kx (by rw[af];omega));have LS:b≠la:=λz=>by subst z;rw[hb] at ha;cases ha
  have Nw:b≠lu:=λz=>by subst z;rw[hb] at hu;cases hu
  have Nx:=hB.ne.1;dsimp?! [l5,aI,aW,hb,cl,n2,n3,n4,Lc,Oz,iC,hu,hs,aR Nw];have ha1:um M lu (.lst (un.map wr++ [wr now])) la=some (.lst (MW.map wr++ [wr pg])):=by rw[aR Nx,ha,aB];rfl
  rw[ha1];exact#[_,rfl,la,_,_,rfl,rfl,ha1,?_];dsimp?! [aR LS,aR Nw,hb,cl,n2,TB,Tx];have hh:=hB.he;have NU:lh≠b:=λz=>by subst z;rw[hb] at hh;cases hh
  have F:UJ b la lu M (um (um (um M lu (.lst (un.map wr++ [wr now]))) la (.lst (MW.map wr))) b (.ins A.aY dx (eY p pg la lu lh))):=λa o h n1 n2 n3=>by rw[aR n1,aR n2,aR n3];show h
  let⟨R',T1,hP,kq⟩:=kq MW pg rfl;exact ed (kq _ #[#[dx,am],?_,?_,F _ _ hh NU hB.ne.2.1.symm hB.ne.2.2.symm,hB.ne,F.pg hb ha hu hP] F);rw[aR LS.symm];show am;rw[aR Nw.symm,aR Nx.symm,am,aB];rfl
def zc {K:WW}(T:ft K mg A):bI P w K mg base (i6 P w) 1 A.sE A.sO ["self"] (uh K (PF A.aY A.bw A.eK)):=by
 have cl:=au T.Book.cl;have n2:=au T.n_Book_now;have n3:=au T.n_Book_past;have n4:=au T.n_Book_undone;exact zf T.yt.fn oP (by rintro vs M q e ⟨b,la,lu,lh,now,p,pa,un,he,R,T',rfl,_⟩;rfl) λcdv A' outer s H E e hr hF hP=> ?_;have nd:=oP.nd;exact#[_,(ag (bp (d4 (xy (bC (K:=K) rfl (pv 0) rfl))) (aj (dA hF rfl (by rfl) T.uD (aa ay ae))) aM) (ag (bK (eV aN bz bx dh (bC (K:=K) rfl (pv 0) rfl) (aa (bC (K:=K) rfl (pv 0) rfl) ae))) (aj (iT (pv 0) (yV aN PySem.F.slot_list_pop PySem.F.type_list_pop JM (bC (K:=K) rfl (pv 0) rfl)) rfl)))),?_];try dsimp only[eQ]
 exact#[_,inferInstance,?_];rintro vs M q ⟨b,la,lu,lh,now,p,pa,un,he,R,T',rfl,hB,hl,ke,kq⟩;let⟨dx,hb⟩:=hB.ob;have ha:=hB.pa;have hu:=hB.un;dsimp?! [hb,cl,n2,n3,n4,Lc,Oz,iC,ha,hu];rw[Aa hu];cases un using WP.iF with
 | h0=>dsimp?! [List.map_nil,List.isEmpty_nil,aI,aW];show#[M,Sm.refl M,ke rfl]
 | h1 Q3 pg=>
  have l5:((Q3++ [pg]).map wr).isEmpty=false:=by simp
  have hs:((pa.map wr).length<sizeLine)=True:=au (kx (by rw[af];omega));have LS:b≠la:=λz=>by subst z;rw[hb] at ha;cases ha
  have Nw:b≠lu:=λz=>by subst z;rw[hb] at hu;cases hu
  have Nx:=hB.ne.1;dsimp?! [l5,aI,aW,hb,cl,n2,n3,n4,Lc,Oz,iC,ha,hs,aR LS];have nn:um M la (.lst (pa.map wr++ [wr now])) lu=some (.lst (Q3.map wr++ [wr pg])):=by rw[aR Nx.symm,hu,aB];rfl
  rw[nn];exact#[_,rfl,lu,_,_,rfl,rfl,nn,?_];dsimp?! [aR LS,aR Nw,hb,cl,n2,TB,Tx];have hh:=hB.he;have NU:lh≠b:=λz=>by subst z;rw[hb] at hh;cases hh
  have F:UJ b la lu M (um (um (um M la (.lst (pa.map wr++ [wr now]))) lu (.lst (Q3.map wr))) b (.ins A.aY dx (eY p pg la lu lh))):=λa o h n1 n2 n3=>by rw[aR n1,aR n3,aR n2];show h
  let⟨R',T1,hP,kq⟩:=kq Q3 pg rfl;exact ed (kq _ #[#[dx,am],?_,?_,F _ _ hh NU hB.ne.2.1.symm hB.ne.2.2.symm,hB.ne,F.pg hb ha hu hP] F);rw[aR LS.symm,aR Nx,am,aB];rfl;rw[aR Nw.symm];show am
def zd {K:WW}(T:ft K mg A):bI P w K mg base fw 1 A.sF A.sP ["self"] (fS K (PH A.aY A.bw)):=by
 have cl:=au T.Book.cl;have n2:=au T.n_Book_now;have n3:=au T.n_Book_held;exists T.yu.fn,["self"],(ag (bK (eV aN bz bx dh (bC (K:=K) rfl (pv 0) rfl) (aa (bC (K:=K) rfl (pv 0) rfl) ae))) (aj (aF (bP qK (bn (dU (K:=K) rfl) (by rfl) T.gV Boot.«len» (aa (bC (K:=K) rfl (pv 0) rfl) ae)) ai))))
 rintro vs M q ⟨b,la,lu,lh,now,p,pa,un,he,R,T',rfl,hB,hl,kq⟩;let⟨dx,hb⟩:=hB.ob;have hh:=hB.he;have Zh:b≠lh:=λz=>by subst z;rw[hb] at hh;cases hh
 have hs:(he.length<sizeLine)=True:=au (kx (by omega));dsimp?! [hb,cl,n2,n3,OA,iC,hh,af,hs];have e1:um M lh (.lst (he.map wr++ [wr now])) b=_:=(aR Zh).trans hb;have e2:um M lh (.lst (he.map wr++ [wr now])) lh=some (.lst (he.map wr++ [wr now])):=am;dsimp?! [e1,e2,cl,n3,OA,aE,af];have F:z3 b lh M (um M lh (.lst (he.map wr++ [wr now]))):=λa o h _ n=>by rw[aR n];show h
 have ev:wi ((he.length+1:Nat) - 1:Int)=wi he.length:=by congr 2;omega
 have kq':=kq _ #[#[dx,e1],by rw[aR hB.ne.2.1];show hB.pa,by rw[aR hB.ne.2.2];show hB.un,by rw[am,aB];rfl,hB.ne,F.pg hb hh hB.pg] F;rw[<- ev] at kq';show ed kq'
def pA {K:WW}(T:ft K mg A):bI P w K mg base (i6 P w) 2 A.jX A.jZ ["self","k"] (uh K (V8 A.aY A.bw A.di)):=by
 have cl:=au T.Book.cl;have n3:=au T.n_Book_held;exact zf T.mT.fn jg (by rintro vs M q e ⟨b,la,lu,lh,now,k,p,pa,un,he,R,T',rfl,_⟩;rfl) λcdv A' outer s H E e hr hF hP=> ?_;have nd:=jg.nd;exact#[_,(ag (bp (d4 (pc pi ip ai (pv 1) (bn (dU (K:=K) rfl) (by rfl) T.gV Boot.«len» (aa (bC (K:=K) rfl (pv 0) rfl) ae)))) (aj (dA hF rfl (by rfl) T.xf (aa (eR (bO ay (bO (lU (pv 1)) fL))) ae))) aM) (aj (bK (eJ T.fH (fg T) (hr.mono ⋯) (pv 0) (aa (aH (show cb _ (ju K) from d5) (bC (K:=K) rfl (pv 0) rfl) (pv 1) (λ_ _=>rfl)) ae))))),?_];try dsimp only[eQ]
 exact#[_,inferInstance,?_];rintro vs M q ⟨b,la,lu,lh,now,k,p,pa,un,he,R,T',rfl,hB,hl,Uu,hk,ke,kq⟩;let⟨dx,hb⟩:=hB.ob;have hh:=hB.he;dsimp?! [hb,cl,n3,OA,hh,af];have bad:¬(0<=k /\ k<he.length) ->up e A.di M:=λh=>#[M,Sm.refl M,ke h]
 have kn:=fE hk;have l1:(Str.ofString "nothing is held under ").length=22:=by right
 have rz:up e A.di M ->cr ((Str.empty++Str.ofString "nothing is held under ").length<=sizeLine) (cr (k.natAbs.log2<1920) (cr ((Str.empty++Str.ofString "nothing is held under " ++Str.ofString (toString k)).length<=sizeLine) (cr ((Str.empty++Str.ofString "nothing is held under " ++Str.ofString (toString k)).length<=sizeLine) (up e A.di M)))):=λh=>by have hh:(Str.empty++Str.ofString "nothing is held under " ++Str.ofString (toString k)).length<=sizeLine:=bj (by rw[xX,bE];omega);show#[bj (by rw[xX];omega),gh hk,hh,hh,h]
 by_cases h0:0<=k;by_cases h1:k<he.length;have d0:=a8 h0;have d1:=a8 h1;let⟨pg,m_⟩: ∃z,he[k.toNat]? =some z:=#[_,aQ (by omega)]
 have ek:gY (he.map wr) k=some (wr pg):=gl h0 (by rw[aK,m_];rfl);let⟨R',T1,hP,kq⟩:=kq pg h0 m_;dsimp?! [d0,d1,aI,hb,cl,n3,OA,hh,ek,gG];show#[b,la,lu,lh,now,pg,p,pa,un,he,R,T',R',T1,rfl,hB,hP,hl,λM' eU B' F hu=>ed (kq M' eU B' F hu)];have d0:=a8 h0;have d1:=aG h1;dsimp?! [d0,d1,aW];show rz (bad λh=>h1 h.2);have d0:=aG h0;dsimp?! [d0];show rz (bad λh=>h0 h.1)
def AK {K:WW}(T:ft K mg A):bI P w K mg base fw 4 A.vM A.vS ["_law_p_here","_law_book","_law_stand"] (fS K (EE A.aY A.bw)):=by
 have gH:=FG (c_ (P:=P) (w:=w) (base:=base) T);have im:=FG (kS (P:=P) (w:=w) (base:=base) T);exists T.AX.fn,["_law_p_here","_law_book","_law_stand","_law_names_here","_law_crews","_law_name","_law_one","_law_crew","_law_members"],(ag (bh (i:=3) nd rfl (by trivial) (iD T.oz (nF T) (hr.mono ⋯) (pv 1))) (ag (bh (i:=4) nd rfl (by trivial) (iD T.oB (nG T) (hr.mono ⋯) (pv 1))) (ag (bp (kP (d4 (dM (bn (f6 (K:=K) rfl) (by rfl) T.eM Boot.«isinstance» (aa (pv 3) (aa (jh (by rfl) T.h_ Boot.«list» (show RelV (.ty "list") _ from rfl)) ae))))) (iS (aS (show jd _ _ (AC K) from qL (by show hr.Uc)) (pv 3) (bn (fG rfl) (by rfl) T.gU Boot.«sorted» (aa (aH (show cb _ (bq K) from az) (pv 2) ai (λ_ _=>rfl)) ae)) (a9 _)))).pt (aj (aF ji)) aM) (ag (bp (kP (d4 (dM (bn (f6 (K:=K) rfl) (by rfl) T.eM Boot.«isinstance» (aa (pv 4) (aa (jh (by rfl) T.h_ Boot.«list» (show RelV (.ty "list") _ from rfl)) ae))))) (iS (aS (show jd _ _ (AC K) from qL (by show hr.Uc)) (pv 4) (bn (fG rfl) (by rfl) T.gU Boot.«sorted» (aa (aH (show cb _ (bq K) from az) (pv 2) ai (λ_ _=>rfl)) ae)) (a9 _)))).pt (aj (aF ji)) aM) (ag (gD c5 rfl (gf (K:=K) rfl (pv 3)) (aZ (i:=5) nd rfl (by trivial)) (ag (bh (i:=6) nd rfl (by trivial) (eJ T.dJ gH (hr.mono ⋯) (pv 1) (aa (pv 5) ae))) (aj (bp (kP (d4 (dM (ax T.vn (wH T) hr (aa (pv 0) (aa (pv 6) ae))))) (iS (aS (show jd _ _ (AC K) from qL (by show hr.Uc)) (pv 6) (eT (d7 hr) (aH (show cb _ (bq K) from az) (pv 2) ai (λ_ _=>rfl)) (pv 5) (λ_ _=>rfl)) (a9 _)))).pt (aj (aF ji)) aM)))) (ag (gD c5 rfl (gf (K:=K) rfl (pv 4)) (aZ (i:=7) nd rfl (by trivial)) (ag (bh (i:=8) nd rfl (by trivial) (eJ T.kA im (hr.mono ⋯) (pv 1) (aa (pv 7) ae))) (ag (bp (kP (d4 (dM (bn (f6 (K:=K) rfl) (by rfl) T.eM Boot.«isinstance» (aa (pv 8) (aa (jh (by rfl) T.h_ Boot.«list» (show RelV (.ty "list") _ from rfl)) ae))))) (iS (aS (show jd _ _ (AC K) from qL (by show hr.Uc)) (pv 8) (ci fb (by rfl) T.h_ Boot.«list» (aa (eT (d7 hr) (aH (show cb _ (bq K) from az) (pv 2) ai (λ_ _=>rfl)) (pv 7) (λ_ _=>rfl)) ae)) (a9 _)))).pt (aj (aF ji)) aM) (aj (bK (eV aN PySem.F.slot_list_insert PySem.F.type_list_insert xC (pv 8) (aa ai (aa ay ae)))))))) (ag (bK (yV aN PySem.F.slot_list_clear PySem.F.type_list_clear AO (pv 3))) (ag (bK (yV aN PySem.F.slot_list_clear PySem.F.type_list_clear AO (pv 4))) (aj (aF ji))))))))))
 rintro vs M q ⟨b,la,lu,lh,now,r,t,p,pa,un,he,R,T',rfl,hB,⟨iW,ht⟩,hR,⟨hT,dR⟩,k⟩;let⟨dx,hb⟩:=hB.ob;have hRl:=hR.len;dsimp?! [hb,BI];exact#[b,la,lu,lh,now,p,pa,un,he,R,T',rfl,hB,hRl,λnl ns i7 jU A9=> ?_];have s1:Sm M (um M nl (.lst (ns.map ws))):=a7 i7;have Xy:=hB.sm s1;have Ql:um M nl (.lst (ns.map ws)) nl=some (.lst (ns.map ws)):=am;generalize um M nl (.lst (ns.map ws))=M1 at s1 Xy Ql;have ZF:=s1 _ _ hb;dsimp?! [ZF,BJ];exact#[b,la,lu,lh,now,p,pa,un,he,R,T',rfl,Xy,by have:=hT.len;omega,λcl cs lr hpc hsc=> ?_];have s2:=s1.trans (a7 lr (o:= .lst (cs.map ws)));have hB2:=hB.sm s2;have wB:um M1 cl (.lst (cs.map ws)) nl=some (.lst (ns.map ws)):=a7 lr _ _ Ql;have GW:um M1 cl (.lst (cs.map ws)) cl=some (.lst (cs.map ws)):=am;generalize um M1 cl (.lst (cs.map ws))=M2 at s2 hB2 wB GW;dsimp?! [wB,GW];exact#[r,_,R.map (·.1),rfl,s2 _ _ iW,jF _ _,by rw[af];show big (by omega),λv Ca hv vG gR=> ?_];have en:=uQ vG jU gR A9;subst en;exact og (DR.list rG (by rw[aR (ca wB hv)];show wB)) (DR.list rG am) (Dh _) rfl ?_;have s3:=s2.trans (a7 hv (o:= .lst (Ca.map ws)));have hB3:=hB.sm s3;have S8:=a7 hv (o:= .lst (Ca.map ws)) _ _ wB;have Xr:=a7 hv (o:= .lst (Ca.map ws)) _ _ GW;generalize um M2 v (.lst (Ca.map ws))=M3 at s3 hB3 S8 Xr;dsimp?! [S8,Xr];exact#[t,_,T'.map (·.1),rfl,s3 _ _ ht,jF _ _,by rw[af];show big (by have:=hT.len;omega),λv2 UD Zy hp2 E8=> ?_];have ec:=uQ hp2 hpc E8 hsc;subst ec;exact og (DR.list rG (by rw[aR (ca Xr Zy)];show Xr)) (DR.list rG am) (Dh _) rfl ?_;have s4:=s3.trans (a7 Zy (o:= .lst (UD.map ws)));have UB:=hB.sm s4;have S6:=a7 Zy (o:= .lst (UD.map ws)) _ _ S8;have Qn:=a7 Zy (o:= .lst (UD.map ws)) _ _ Xr;generalize um M3 v2 (.lst (UD.map ws))=M4 at s4 UB S6 Qn;have hr4:=s4 _ _ iW;have Xt:=s4 _ _ hb;dsimp?! [S6];exact jW (λi ρ M'=>cx λ(o1 o2:fj W)=>ρ= [some (wi p),some (wr b),some (.tup [wr r,wr t]),some (wr nl),some (wr cl),o1,o2,none,none] /\ M'=M4) #[none,none,rfl,rfl] (by rintro i ρ M' _ ⟨o1,o2,rfl,rfl⟩;show S6) ?_ ?_;rintro i x ρ M' hx ⟨o1,o2,rfl,rfl⟩ N hN;let⟨nm,jw,rfl⟩: ∃nm,Ca[i]? =some nm /\ x=ws nm:=by
  rw[aK] at hx;cases e:Ca[i]? with
  | none=>rw[e] at hx;cases hx
  | some y=>rw[e] at hx;cases hx;show#[y,rfl,rfl]
 have Bb:nm∈R.map (·.1):=jU.mem_iff.mp (aX jw);let⟨z,hz,rfl⟩:=b_.mp Bb;let⟨a,hg⟩:=zx hz;let⟨z2,NO,_,rfl⟩:=eA hg;dsimp?! [Xt,e8];exact yH ?_;exact#[b,la,lu,lh,now,p,pa,un,he,R,T',z.1,rfl,UB,dR z hz,λa' oj=> ?_,λoj=>by rw[hg] at oj;cases oj];have ea:a'=z2.2:=by rw[hg] at oj;show(bA oj).symm
 subst ea;dsimp?! [];exact#[p,z2.2,rfl,(hR.ok z2 NO).1,by have:=(hR.ok z2 NO).2.1;omega,?_];dsimp?! [hr4,cM,hg,bG];exact Wp rfl ?_;dsimp?! [];show hN _ _ #[_,_,rfl,rfl];rintro ρ M5 ⟨o1,o2,rfl,rfl⟩;dsimp?! [Qn];have ht4:=s4 _ _ ht;exact jW (λi ρ M'=>cx λ(o3 o4:fj W)=>ρ= [some (wi p),some (wr b),some (.tup [wr r,wr t]),some (wr nl),some (wr cl),o1,o2,o3,o4] /\ Sm M5 M') #[none,none,rfl,Sm.refl M5] (by rintro i ρ M' _ ⟨o3,o4,rfl,s5⟩;show s5 _ _ Qn) ?_ ?_;rintro i x ρ M6 hx ⟨o3,o4,rfl,s5⟩ N hN;let⟨nm,jw,rfl⟩: ∃nm,UD[i]? =some nm /\ x=ws nm:=by
  rw[aK] at hx;cases e:UD[i]? with
  | none=>rw[e] at hx;cases hx
  | some y=>rw[e] at hx;cases hx;show#[y,rfl,rfl]
 have Bb:nm∈T'.map (·.1):=hpc.mem_iff.mp (aX jw);let⟨z,hz,rfl⟩:=b_.mp Bb;have hg:=zt hT.nd hz;have hb6:=s5 _ _ Xt;have ht6:=s5 _ _ ht4;dsimp?! [hb6,v6];exact yH ?_;exact#[b,la,lu,lh,now,p,pa,un,he,R,T',z.1,rfl,UB.sm s5,hT.key z hz,λa' oj u hu=> ?_,λoj=>by rw[hg] at oj;cases oj];have ea:a'=z.2:=by rw[hg] at oj;show(bA oj).symm
 subst ea;have s6:=s5.trans (a7 hu (o:= .lst (z.2.map ws)));have W7:um M6 u (.lst (z.2.map ws)) u=some (.lst (z.2.map ws)):=am;have ht7:=s6 _ _ ht4;have abj:M5 u=none:=s5.free hu;generalize um M6 u (.lst (z.2.map ws))=M7 at s6 W7 ht7;dsimp?! [W7,ht7,cM,hg,bG,fB];intro v hv;exact og (DR.list rG (by rw[aR (ca W7 hv)];show W7)) (DR.list rG am) (Dh _) rfl ?_;have s7:=s6.trans (a7 hv (o:= .lst (z.2.map ws)));have hu7:=a7 hv (o:= .lst (z.2.map ws)) _ _ W7;generalize um M7 v (.lst (z.2.map ws))=M8 at s7 hu7;dsimp?! [hu7];exact#[u,_,ws "zz",0,rfl,rfl,hu7,kx (by rw[af];have:=hT.mem z hz;omega),dm _,?_];show hN _ _ #[_,_,rfl,s7.um abj];rintro ρ M6 ⟨o3,o4,rfl,s5⟩;have hn6:=s5 _ _ S6;have ZD:=s5 _ _ Qn;have s6:=s4.trans s5;dsimp?! [hn6,ZD];by_cases hcn:cl=nl;subst hcn;dsimp?! [am];show#[M,s6.um (s1.free lr),k];dsimp?! [aR hcn,ZD];show#[M,(s6.um i7).um (s1.free lr),k]
def tz {K:WW}(T:ft K mg A):bI P w K mg base fw 2 A.ml A.mH ["_law_draw"] (fS K Nb):=by
 exists T.pE.fn,["_law_draw","_law_deeds","_law_k","_law_word","_law_way"],(ag (bh (i:=1) nd rfl (by trivial) (dY ae)) (ag (gD c5 rfl (fX (by rfl) T.jp (aa (ax T.dc (bQ T) hr (aa (pv 0) (aa ai ae))) ae)) (aZ (i:=2) nd rfl (by trivial)) (ag (bh (i:=3) nd rfl (by trivial) (aH (show cb _ (bq K) from az) (aL (aa ay (aa ay (aa ay ae)))) (ax T.dc (bQ T) hr (aa (pv 0) (aa ai ae))) (λ_ _=>rfl))) (aj (bK (eV aN bz bx dh (pv 1) (aa (aL (aa (pv 3) (aa (bP qK (ax T.dc (bQ T) hr (aa (pv 0) (aa ai ae))) ai) ae))) ae)))))) (ag (bh (i:=4) nd rfl (by trivial) (ax T.dc (bQ T) hr (aa (pv 0) (aa ai ae)))) (ag (bp (aS c9 (pv 4) ai (a9 _)) (ag (bK (eV aN bz bx dh (pv 1) (aa (aL (aa ay (aa (aH (show cb _ (bq K) from az) (aL (aa ai (aa ai (aa (fN eN ai) (aa (fN eN ai) (aa ai (aa ai (aa (fN eN ai) (aa (fN eN ai) (aa ai (aa ai (aa (fN eN ai) (aa (fN eN ai) ae))))))))))))) (ax T.dc (bQ T) hr (aa (pv 0) (aa ai ae))) (λ_ _=>rfl)) ae))) ae))) (ag (bK (eV aN bz bx dh (pv 1) (aa (aL (aa ay (aa (ax T.dc (bQ T) hr (aa (pv 0) (aa ai ae))) ae))) ae))) (aj (bK (eV aN bz bx dh (pv 1) (aa (aL (aa ay (aa (aH (show cb _ (bq K) from az) (aL (aa ai (aa (fN eN ai) (aa ai (aa (fN eN ai) (aa ai ae)))))) (ax T.dc (bQ T) hr (aa (pv 0) (aa ai ae))) (λ_ _=>rfl)) ae))) ae)))))) aM) (ag (bp (aS c9 (pv 4) ai (a9 _)) (aj (bK (eV aN PySem.F.slot_list_insert PySem.F.type_list_insert xC (pv 1) (aa (ax T.dc (bQ T) hr (aa (pv 0) (aa (bP fm (bn (dU (K:=K) rfl) (by rfl) T.gV Boot.«len» (aa (pv 1) ae)) ai) ae))) (aa (aL (aa (aH (show cb _ (bq K) from az) (aL (aa ay (aa ay (aa ay ae)))) (ax T.dc (bQ T) hr (aa (pv 0) (aa ai ae))) (λ_ _=>rfl)) (aa ai ae))) ae))))) aM) (aj (aF (pv 1))))))))
 rintro vs M q ⟨d,l,rfl,hD,k⟩;dsimp? [];intro u hu;let⟨Gx,nul⟩:=hD.ne hu;have D0:=hD.put hu (o:= .lst []);have F0:Fs d M (um M u (.lst [])):=λa o h n=>by rw[aR (ca h hu)];show h
 have Ut:um M u (.lst []) u=some (.lst (([]:cH (Str×Int)).map f_)):=am;generalize um M u (.lst [])=M1 at D0 F0 Ut;dsimp? [];exact#[d,l,5,rfl,D0,⋯,⋯,λm M2 m0 m1 D2 b2=> ?_];have F2:Fs d M M2:=λa o h n=>by rw[b2 a n];show F0 a o h n
 have hu2:M2 u=some (.lst (([]:cH (Str×Int)).map f_)):=by rw[b2 u Gx];show Ut
 have put: ∀ (M':Mp) (o:MO),Dr M' d l ->Fs d M M' ->Dr (um M' u o) d l /\ Fs d M (um M' u o):=λM' o hD' hF=>#[hD'.RD Gx nul,λa o' h n=>by rw[aR (ca h hu)];show hF a o' h n]
 have dr: ∀ (M' QD:Mp),NB d M' QD ->Fs d M M' ->Fs d M QD:=λM' QD hb hF a o h n=>by rw[hb a n];show hF a o h n
 have wd: ∀ {ds:cH (Str×Int)} {z:Str×Int},(∀y∈ds,y.1.length<=100) ->z.1.length<=100 -> ∀y∈ds++ [z],y.1.length<=100:=λ{ds z} h hz y hy=>by obtain h' | h':=be.mp hy;show h y h';rw[bg.mp h'];show hz
 have sz: ∀ {ds:cH (Str×Int)},ds.length<=50 ->((ds.map f_).length<sizeLine)=True:=λ{ds} h=>au (kx (by rw[af];omega));have snoc: ∀ (ds:cH (Str×Int)) (z:Str×Int),(MO.lst (ds.map f_++ [f_ z]))= .lst ((ds++ [z]).map f_):=λds z=>by rw[aB];rfl
 simp? [↓cE];exact#[#[by omega,by omega],jW (λi ρ M'=>eZ λ(o1 o2:fj W) (ds:cH (Str×Int))=>lz (ρ= [some (wr d),some (wr u),o1,o2,none]) (ds.length=i) (∀y∈ds,y.1.length<=100) (M' u=some (.lst (ds.map f_))) (Dr M' d l) (Fs d M M')) #[none,none,[],rfl,rfl,by simp,hu2,D2,F2] (λ_ _ _ _ _=>trivial) ?_ ?_]
 .rintro i x ρ M3 hx ⟨o1,o2,ds,rfl,hl,hw,hM,D3,F3⟩ N hN;let⟨hi,rfl⟩:=jM hx;dsimp? [];exact#[d,l,3,rfl,D3,⋯,⋯,λr M4 r0 r1 D4 b4=> ?_];have Tk:M4 u=some (.lst (ds.map f_)):=by rw[b4 u Gx];show hM
  have F4:=dr _ _ b4 F3;have hr3:r=0 \/ r=1 \/ r=2:=by omega
  obtain rfl | rfl | rfl:=hr3;all_goals
   dsimp? [XT,Tk]
   exact#[d,l,7,rfl,D4,⋯,⋯,λx M5 x0 x1 D5 b5=> ?_]
   have Tj:M5 u=some (.lst (ds.map f_)):=by rw[b5 u Gx];show Tk
   have F5:=dr _ _ b5 F4
   dsimp? [Tj,sz (ds:=ds) (by omega)]
   exact hN _ _ #[_,_,ds++ [(_,x - 3)],rfl,by simp[hl],wd hw ?_,by rw[am];show congrArg some (snoc ds (_,x - 3)),(put _ _ D5 F5).1,(put _ _ D5 F5).2]
   first | show(by right:Str.length "go" <=100) | show(by right:Str.length "turn" <=100)
 rintro ρ M3 ⟨o1,o2,ds,rfl,hl,hw,hM,D3,F3⟩;rw[jL] at hl;have hl4:ds.length<=4:=by omega
 clear hl;simp? [↓cE];exact e_ ?_;simp? [↓cE];exact#[d,l,12,rfl,D3,⋯,⋯,λwy M4 w0 w1 D4 b4=> ?_];have Tk:M4 u=some (.lst (ds.map f_)):=by rw[b4 u Gx];show hM
 have F4:=dr _ _ b4 F3;simp? [↓cE];exact e_ (qY (λρ M'=> ∃ds:cH (Str×Int),lz (ρ= [some (wr d),some (wr u),o1,o2,some (wi wy)]) (ds.length<=7) (∀y∈ds,y.1.length<=100) (M' u=some (.lst (ds.map f_))) (Dr M' d l) (Fs d M M')) ?_ λN hN=> ?_);clear Tk F4 hM D3 F3 hl4 hw;rintro ρ M5 ⟨ds,rfl,hl,hw,Tj,D5,F5⟩;exact qY (λρ M'=> ∃ds:cH (Str×Int),lz (ρ= [some (wr d),some (wr u),o1,o2,some (wi wy)]) (ds.length<=8) (∀y∈ds,y.1.length<=100) (M' u=some (.lst (ds.map f_))) (Dr M' d l) (Fs d M M')) ?_ λN hN=> ?_;rintro ρ M6 ⟨ds,rfl,hl,hw,N1,D6,F6⟩;dsimp? [];show ed (k u ds M6 hu N1 (by omega) hw D6 F6);simp? [↓cE];exact du (λh=> ?_) λh=>hN _ _ #[ds,rfl,by omega,hw,Tj,D5,F5];dsimp? [Tj,af];exact#[d,l,_,rfl,D5,by omega,by omega,λj M6 j0 j1 D6 b6=> ?_];have N1:M6 u=some (.lst (ds.map f_)):=by rw[b6 u Gx];show Tj
 have F6:=dr _ _ b6 F5;dsimp? [];exact#[d,l,3,rfl,D6,⋯,⋯,λr M7 r0 r1 D7 b7=> ?_];have hM7:M7 u=some (.lst (ds.map f_)):=by rw[b7 u Gx];show N1
 have F7:=dr _ _ b7 F6;dsimp? [];exact mZ (λx=> ∃e:Str,x=ws e /\ e.length<=100) r0 (by change r< ((3:Nat):Int);omega) (λx hx=> ?_) ?_;simp![aV,List.not_mem_nil,or_false] at hx;obtain h | h | h:=hx <;>show#[_,h,by right];rintro _ ⟨v,rfl,hv⟩;let⟨jn,rfl⟩:=Int.eq_ofNat_of_zero_le j0;exact#[u,_,f_ (v,1),jn,rfl,rfl,hM7,kx (by rw[af];omega),by rw[af];omega,?_];have em:(ds.map f_).take jn++f_ (v,1)::(ds.map f_).drop jn=(ds.take jn++(v,1)::ds.drop jn).map f_:=by rw[aB,aP,List.map_take,List.map_drop]
 rw[em];exact hN _ _ #[ds.take jn++(v,1)::ds.drop jn,rfl,by simp;omega,λy hy=> ?_,am,(put _ _ D7 F7).1,(put _ _ D7 F7).2];obtain h' | h':=be.mp hy;show hw y (List.mem_of_mem_take h');obtain h' | h':=aV.mp h';rw[h'];show hv;show hw y (List.mem_of_mem_drop h');simp? [↓cE];exact du (λh=> ?_) λh=>hN _ _ #[ds,rfl,by omega,hw,Tk,D4,F4];dsimp? [Tk];exact#[⋯,d,l,12,rfl,D4,⋯,⋯,λj M5 j0 j1 D5 b5=> ?_];have Tj:M5 u=some (.lst (ds.map f_)):=by rw[b5 u Gx];show Tk
 have F5:=dr _ _ b5 F4;dsimp? [];exact mZ (λx=> ∃e:Int,x=wi e) j0 (by change j< ((12:Nat):Int);omega) (λx hx=> ?_) ?_;simp![aV,List.not_mem_nil,or_false] at hx;obtain h | h | h | h | h | h | h | h | h | h | h | h:=hx <;>show#[_,h];rintro _ ⟨v,rfl⟩;dsimp? [Tj,sz (ds:=ds) (by omega)];have P6:=put M5 (.lst (ds.map f_++ [f_ ("go",v)])) D5 F5;have N1:um M5 u (.lst (ds.map f_++ [f_ ("go",v)])) u=some (.lst ((ds++ [(("go" :Str),v)]).map f_)):=by rw[am,snoc]
 have w6:=wd (z:=("go",v)) hw (by change Str.length "go" <=100;decide+kernel);have l6:(ds++ [(("go" :Str),v)]).length<=5:=by simp;omega
 change mP _ _ (um M5 u (.lst (ds.map f_++ [f_ ("go",v)]))) _;generalize um M5 u (.lst (ds.map f_++ [f_ ("go",v)]))=M6 at P6 N1 ⊢;generalize ds++ [(("go" :Str),v)]=d6 at N1 w6 l6;let⟨D6,F6⟩:=P6;exact#[d,l,2,rfl,D6,⋯,⋯,λx7 M7 _ _ D7 b7=> ?_];have hM7:M7 u=some (.lst (d6.map f_)):=by rw[b7 u Gx];show N1
 have F7:=dr _ _ b7 F6;dsimp? [hM7,sz (ds:=d6) (by omega)];have P8:=put M7 (.lst (d6.map f_++ [f_ ("turn",x7)])) D7 F7;have hM8:um M7 u (.lst (d6.map f_++ [f_ ("turn",x7)])) u=some (.lst ((d6++ [(("turn" :Str),x7)]).map f_)):=by rw[am,snoc]
 have w8:=wd (z:=("turn",x7)) w6 (by change Str.length "turn" <=100;decide+kernel);have l8:(d6++ [(("turn" :Str),x7)]).length<=6:=by simp;omega
 change mP _ _ (um M7 u (.lst (d6.map f_++ [f_ ("turn",x7)]))) _;generalize um M7 u (.lst (d6.map f_++ [f_ ("turn",x7)]))=M8 at P8 hM8 ⊢;generalize d6++ [(("turn" :Str),x7)]=d8 at hM8 w8 l8;let⟨D8,F8⟩:=P8;exact#[d,l,5,rfl,D8,⋯,⋯,λx9 M9 x90 x91 D9 b9=> ?_];have hM9:M9 u=some (.lst (d8.map f_)):=by rw[b9 u Gx];show hM8
 have F9:=dr _ _ b9 F8;dsimp? [];exact mZ (λx=> ∃e:Int,x=wi e) x90 (by change x9< ((5:Nat):Int);omega) (λx hx=> ?_) ?_;simp![aV,List.not_mem_nil,or_false] at hx;obtain h | h | h | h | h:=hx <;>show#[_,h];rintro _ ⟨v9,rfl⟩;dsimp? [hM9,sz (ds:=d8) (by omega)];show hN _ _ #[d8++ [(("go" :Str),v9)],rfl,by simp;omega,wd (z:=("go",v9)) w8 (by change Str.length "go" <=100;decide+kernel),by rw[am];show congrArg some (snoc d8 ("go",v9)),(put _ _ D9 F9).1,(put _ _ D9 F9).2]
def gN {K:WW}(T:ft K mg A):bI P w K mg base fw 2 A.vL A.vR ["_law_draw","_law_names_here"] (fS K yX):=by
 exists T.jT.fn,["_law_draw","_law_names_here"],(ag (bp (aS c9 (ax T.dc (bQ T) hr (aa (pv 0) (aa ai ae))) ai (a9 _)) (aj (aF (aH (show cb _ (bq K) from az) (aL (aa ay (aa ay (aa ay (aa ay (aa ay (aa ay (aa ay (aa ay (aa ay (aa ay ae))))))))))) (ax T.dc (bQ T) hr (aa (pv 0) (aa ai ae))) (λ_ _=>rfl)))) aM) (aj (aF (aH (show cb _ (ju K) from d5) (pv 1) (ax T.dc (bQ T) hr (aa (pv 0) (aa (bn (dU (K:=K) rfl) (by rfl) T.gV Boot.«len» (aa (pv 1) ae)) ae))) (λ_ _=>rfl)))))
 rintro vs M q ⟨d,l,nl,ns,rfl,hD,i7,wM,⟨n0,n1⟩,tX,k⟩;dsimp?! [];exact#[d,l,15,rfl,hD,⋯,⋯,λm M2 m0 m1 D2 b2=> ?_];dsimp?! [];exact du (λh=> ?_) λh=> ?_;dsimp?! [];exact#[⋯,d,l,10,rfl,D2,⋯,⋯,λj M3 j0 j1 D3 b3=> ?_];dsimp?! [];exact mZ (λx=> ∃e:Str,x=ws e /\ Nm e) j0 (by change j< ((10:Nat):Int);omega) (λx hx=> ?_) ?_;simp![aV,List.not_mem_nil,or_false] at hx;obtain h | h | h | h | h | h | h | h | h | h:=hx <;>show#[_,h,by right,by right];rintro _ ⟨v,rfl,hv⟩;show ed (k v _ hv D3 (NB.trans b2 b3));have Xd:M2 nl=some (.lst (ns.map ws)):=by rw[b2 nl wM];show i7
 dsimp?! [Xd,af];exact#[d,l,_,rfl,D2,by omega,by omega,λj M3 j0 j1 D3 b3=> ?_];have abb:M3 nl=some (.lst (ns.map ws)):=by rw[b3 nl wM];show Xd
 let⟨z,hz⟩: ∃z,ns[j.toNat]? =some z:=#[_,aQ (by omega)]
 have ek:gY (ns.map ws) j=some (ws z):=gl j0 (by rw[aK,hz];rfl);dsimp?! [abb,ek];show ed (k z _ (tX z (aX hz)) D3 (NB.trans b2 b3))
def kQ {K:WW}(T:ft K mg A):bI P w K mg base fw 3 A.mf A.mE ["_law_draw","_law_names_here"] (fS K RP):=by
 exists T.ki.fn,["_law_draw","_law_names_here","_law_name","_law_one","_law_way"],(ag (bh (i:=2) nd rfl (by trivial) (ax T.jT (gN T) hr (aa (pv 0) (aa (pv 1) ae)))) (ag (bh (i:=3) nd rfl (by trivial) (ax T.jT (gN T) hr (aa (pv 0) (aa (pv 1) ae)))) (ag (bh (i:=4) nd rfl (by trivial) (ax T.dc (bQ T) hr (aa (pv 0) (aa ai ae)))) (ag (bp (aS ip (pv 4) ai (a9 _)) (aj (aF (aL (aa ay (aa (pv 2) (aa (ax T.pE (tz T) hr (aa (pv 0) ae)) ae)))))) aM) (ag (bp (aS c9 (pv 4) ai (a9 _)) (aj (aF (aL (aa ay (aa (pv 2) (aa (aL (aa (pv 3) (aa (ax T.jT (gN T) hr (aa (pv 0) (aa (pv 1) ae))) ae))) ae)))))) aM) (ag (bp (aS c9 (pv 4) ai (a9 _)) (aj (aF (aL (aa ay (aa (pv 2) (aa (aL (aa (pv 3) ae)) (aa (fN eN ai) ae))))))) aM) (ag (bp (aS c9 (pv 4) ai (a9 _)) (aj (aF (aL (aa ay (aa (pv 2) (aa (aL (aa (pv 3) ae)) (aa (aH (show cb _ (bq K) from az) (aL (aa (bP qK (ax T.dc (bQ T) hr (aa (pv 0) (aa ai ae))) ai) (aa (bP qK (ax T.dc (bQ T) hr (aa (pv 0) (aa ai ae))) ai) ae))) (ax T.dc (bQ T) hr (aa (pv 0) (aa ai ae))) (λ_ _=>rfl)) ae))))))) aM) (aj (aF (aL (aa ay (aa (pv 2) ae))))))))))))
 rintro vs M q ⟨d,l,nl,ns,rfl,hD,i7,wM,n0,tX,k⟩;have tg: ∀ (M':Mp) (q':WK),Dr M' d l ->NB d M M' ->(∀ (n:Str) (M2:Mp),Nm n ->Dr M2 d l ->NB d M M2 ->q' (ws n) M2) ->yX [wr d,wr nl] M' q':=λM' q' D' b' k'=>#[d,l,nl,ns,rfl,D',by rw[b' nl wM];show i7,wM,n0,tX,λn M2 hn D2 b2=>k' n M2 hn D2 (NB.trans b' b2)]
 have fs: ∀M':Mp,NB d M M' ->Fs d M M':=λM' b a o h n=>by rw[b a n];show h
 dsimp? [];exact tg M _ hD (λ_ _=>rfl) λn M1 hn D1 b1=> ?_;dsimp? [];exact tg M1 _ D1 b1 λx M2 hx D2 b2=> ?_;dsimp? [];exact#[d,l,8,rfl,D2,⋯,⋯,λwy M3 w0 w1 D3 b3=> ?_];replace b3:=NB.trans b2 b3;dsimp? [];exact du (λh=> ?_) λh=> ?_;dsimp? [];exact#[d,l,rfl,D3,λu ds M4 hu hM hl hw D4 F4=> ?_];dsimp? [];show ed (k (.tell n ds) _ M4 #[u,rfl,hM] #[hn,hl,hw] (λa n' e=>by cases e;rw[<- b3 u (D3.ne hu).1];show hu) D4 (λa o h n=>F4 a o (by rw[b3 a n];show h) n));dsimp? [];exact du (λh=> ?_) λh=> ?_;exact tg M3 _ D3 b3 λy M4 hy D4 b4=> ?_;dsimp? [];show ed (k (.join n x y) _ M4 rfl #[hn,hx,hy] (λa n' e=>nomatch e) D4 (fs _ b4));dsimp? [];exact du (λh=> ?_) λh=> ?_;dsimp? [];show ed (k (.back n x) _ M3 rfl #[hn,hx] (λa n' e=>nomatch e) D3 (fs _ b3));dsimp? [];exact du (λh=> ?_) λh=> ?_;dsimp? [];exact#[d,l,7,rfl,D3,⋯,⋯,λy1 M4 y0 y2 D4 b4=> ?_];dsimp? [];exact#[d,l,101,rfl,D4,⋯,⋯,λz1 M5 z0 z2 D5 b5=> ?_];dsimp? [];exact#[d,l,2,rfl,D5,⋯,⋯,λr M6 r0 r1 D6 b6=> ?_];dsimp? [];exact mZ (λx=> ∃e:Int,c8 (x=wi e) (-100<=e) (e<=100)) r0 (by change r< ((2:Nat):Int);omega) (λx hx=> ?_) ?_;simp![aV,List.not_mem_nil,or_false] at hx;obtain h | h:=hx <;>show#[_,h,by omega,by omega];rintro _ ⟨v,rfl,v0,v1⟩;dsimp? [];show ed (k (.times n x v) _ M6 rfl #[hn,hx,v0,v1] (λa n' e=>nomatch e) D6 (fs _ (NB.trans (NB.trans (NB.trans b3 b4) b5) b6)));dsimp? [];show ed (k (.drop n) _ M3 rfl hn (λa n' e=>nomatch e) D3 (fs _ b3))
def tw {K:WW}(T:ft K mg A):bI P w K mg base fw 2 A.mj A.mG ["_law_stand","_law_deed"] (fS K PK):=by
 exists T.pD.fn,["_law_stand","_law_deed","_law_names_here"],(ag (bh (i:=2) nd rfl (by trivial) (eT (d7 hr) (aH (show cb _ (bq K) from az) (pv 0) ai (λ_ _=>rfl)) (aH (show cb _ (bq K) from az) (pv 1) ai (λ_ _=>rfl)) (λ_ _=>rfl))) (ag (bp (aS c9 (aH (show cb _ (bq K) from az) (pv 1) ai (λ_ _=>rfl)) ay (a9 _)) (ag (bp (aS (m7 (K:=K) rfl) (aH (show cb _ (bq K) from az) (pv 1) ai (λ_ _=>rfl)) (pv 2) (by rfl)) (aj (aF (aL (aa ay (aa (aL ae) ae))))) aM) (aj (aF (aL (aa ay (aa (ci gT (by rfl) T.jo Boot.«tuple» (aa (dF rfl (c6.of (sc:=_) (N:= ["_law_stand","_law_deed","_law_names_here"]) (own:= ["_law_name"]) (fr:= [1]) (N':= ["_law_name","_law_deed"]) rfl rfl rfl (by right) rfl (by right) (by right) (by right) (by right) (bt rfl)) (kc (K:=K) rfl (pv 2)) (λ_ _ _ _=>(aZ (i:=0) (by change(["_law_name","_law_deed"]:cH Str).Nodup;decide+kernel) rfl (by trivial))) eG (λ_ _ _ _=>(ul (aS pf (pv 0) (aH (show cb _ (bq K) from az) (pv 1) ai (λ_ _=>rfl)) (a9 _)))) (λ_ _ _ _=>(pv 0))) ae)) ae)))))) aM) (ag (bp (n6 (jQ (d7 hr) (aH (show cb _ (bq K) from az) (pv 1) ai (λ_ _=>rfl)) (aH (show cb _ (bq K) from az) (pv 0) ai (λ_ _=>rfl)))) (aj (aF (aL (aa ay (aa (aL ae) ae))))) aM) (ag (bp (aS (uZ (K:=K) rfl) (aH (show cb _ (bq K) from az) (pv 1) ai (λ_ _=>rfl)) (pv 2) (by rfl)) (aj (aF (aL (aa ay (aa (aL ae) ae))))) aM) (ag (bp (aS AH (bn (dU (K:=K) rfl) (by rfl) T.gV Boot.«len» (aa (pv 2) ae)) ai (a9 _)) (aj (aF (aL (aa ay (aa (aL ae) ae))))) aM) (ag (bp (dM (ax T.ET (u_ T) hr (aa (eT (d7 hr) (aH (show cb _ (bq K) from az) (pv 0) ai (λ_ _=>rfl)) (aH (show cb _ (bq K) from az) (pv 1) ai (λ_ _=>rfl)) (λ_ _=>rfl)) (aa ai (aa ai ae))))) (aj (aF (aL (aa ay (aa (aL ae) ae))))) aM) (aj (aF (aL (aa ay (aa (bP EH (pv 2) (aL (aa (aH (show cb _ (bq K) from az) (pv 1) ai (λ_ _=>rfl)) ae))) ae)))))))))))
 rintro vs M q ⟨r,t,R,T',d,w,l,rfl,⟨iW,ht⟩,⟨hm,hc⟩,hD,hg,⟨hl,hR⟩,kq,ke⟩;cases d with
 | found c=>cases hm
 | disband c=>cases hm
 | enlist c n=>
  cases hD;replace hg:cC T' c=some l:=hg;have bad: ∀f,n_ R l (.enlist c n)= .bad f -> ∃M0,Sm M0 M /\ q (.tup [ws (CB f), .tup []]) M0:=λf h=>ed (ke f h);dsimp?! [ht,cM,hg,bG,k_enlist_dismiss,iW,b8];cases hx:cC R n with
  | none=>dsimp?! [dj,aW];show bad .NoRound (by rw[n_,hx])
  | some a=>
  dsimp?! [cz,aI];exact uv ?_;cases hi:sj n l with
  | true=>dsimp?! [];show bad .Taken (by rw[n_,hx];show ao hi)
  | false=>
  have GR:¬sj n l=true:=by rw[hi];decide
  dsimp?! [fB,af];by_cases h6:6<=l.length;have e6:decide ((6:Int) <=(l.length:Int))=true:=a8 (by omega);dsimp?! [e6];show bad .TooMany (by rw[n_,hx];dsimp only;rw[ak GR,ao h6]);have e6:decide ((6:Int) <=(l.length:Int))=false:=aG (by omega);dsimp?! [e6,iW,cM,hx,bG];let⟨z,hz,_,rfl⟩:=eA hx;exact#[z.2,8,24,rfl,by have:=hR z hz;omega,?_];cases hf:gx z.2 8 24 with
  | true=>dsimp?! [];show bad .TooFar (by rw[n_,hx];dsimp only;rw[ak GR,ak h6,ao hf])
  | false=>
   dsimp?! [];exact#[big (by rw[af];simp;omega),?_];have el:W.tup (l.map ws++ [ws n])=fB (l++ [n]):=by unfold fB;rw[aB];rfl
   rw[el];show ed (kq _ (by rw[n_,hx];dsimp only;rw[ak GR,ak h6,ak (by rw[hf];decide)]))
 | dismiss c n=>
  cases hD;replace hg:cC T' c=some l:=hg;dsimp?! [ht,cM,hg,bG,b0];exact oa ?_;cases hi:sj n l with
  | false=>dsimp?! [aW];show ed (ke .NoRound (by rw[n_];show ao hi))
  | true=>dsimp?! [aI,fB];exact vW (λm=>decide (m≠n)) ws (big (by omega)) (λ_ _=>trivial) ?_ λu hu=> ?_;intro m hm M3 N3 s3 jx;dsimp?! [];by_cases h:m=n;rw[aG ⇑h] at jx;rw[a8 h];show jx;rw[a8 h] at jx;rw[aG h];show jx;dsimp?! [am];show#[M,a7 hu,kq _ (by rw[n_];show ak (by rw[hi];decide))]
def wJ {K:WW}(T:ft K mg A):bI P w K mg base fw 3 A.pR A.p9 ["_law_stand","_law_deed"] (fS K Wb):=by
 exists T.vo.fn,["_law_stand","_law_deed","_law_crews","_law_told"],(ag (bh (i:=2) nd rfl (by trivial) (ci kr (by rfl) T.zH Boot.«dict» (aa (aH (show cb _ (bq K) from az) (pv 0) ai (λ_ _=>rfl)) ae))) (ag (bp (aS c9 (aH (show cb _ (bq K) from az) (pv 1) ai (λ_ _=>rfl)) ay (a9 _)) (ag (bp (d4 (dM (ax T.qU (pq T) hr (aa (aH (show cb _ (bq K) from az) (pv 1) ai (λ_ _=>rfl)) ae)))) (aj (aF (aL (aa ay (aa (pv 0) ae))))) aM) (ag (bp (n6 (CF (d7 hr) (aH (show cb _ (bq K) from az) (pv 1) ai (λ_ _=>rfl)) (pv 2))) (aj (aF (aL (aa ay (aa (pv 0) ae))))) aM) (ag (mY (d7 hr) (pv 2) (aH (show cb _ (bq K) from az) (pv 1) ai (λ_ _=>rfl)) (aL ae) rfl) (aj (aF (aL (aa ay (aa (aL (aa (aH (show cb _ (bq K) from az) (pv 0) ai (λ_ _=>rfl)) (aa (pv 2) ae))) ae)))))))) aM) (ag (bp (n6 (jQ (d7 hr) (aH (show cb _ (bq K) from az) (pv 1) ai (λ_ _=>rfl)) (pv 2))) (aj (aF (aL (aa ay (aa (pv 0) ae))))) aM) (ag (bp (aS c9 (aH (show cb _ (bq K) from az) (pv 1) ai (λ_ _=>rfl)) ay (a9 _)) (ag (bK (AE (pv 2) (aH (show cb _ (bq K) from az) (pv 1) ai (λ_ _=>rfl)) #[by rfl,by rfl,by rfl,by rfl])) (aj (aF (aL (aa ay (aa (aL (aa (aH (show cb _ (bq K) from az) (pv 0) ai (λ_ _=>rfl)) (aa (pv 2) ae))) ae)))))) aM) (ag (bh (i:=3) nd rfl (by trivial) (ax T.pD (tw T) hr (aa (pv 0) (aa (pv 1) ae)))) (ag (bp (aS pf (aH (show cb _ (bq K) from az) (pv 3) ai (λ_ _=>rfl)) ay (a9 _)) (aj (aF (aL (aa (aH (show cb _ (bq K) from az) (pv 3) ai (λ_ _=>rfl)) (aa (pv 0) ae))))) aM) (ag (mY (d7 hr) (pv 2) (aH (show cb _ (bq K) from az) (pv 1) ai (λ_ _=>rfl)) (aH (show cb _ (bq K) from az) (pv 3) ai (λ_ _=>rfl)) rfl) (aj (aF (aL (aa ay (aa (aL (aa (aH (show cb _ (bq K) from az) (pv 0) ai (λ_ _=>rfl)) (aa (pv 2) ae))) ae))))))))))))
 rintro vs M q ⟨r,t,R,T',d,w,rfl,⟨iW,ht⟩,hc,hD,hT,hR,kq,ke⟩;dsimp?! [ht];intro u hu;have st:=a7 hu (o:= .dK (qq T'));have nn:um M u (.dK (qq T')) u=some (.dK (qq T')):=am;have hsz:((qq T').length<sizeLine)=True:=au (kx (by rw[oI];have:=hT.len;omega));have mem: ∀ (d:gp) (w:W) (q':WK),Kd d ->B7 d ->DA M (.c d) w -> ∀l,cC T' (Op d)=some l ->(∀l',n_ R l d= .ok l' ->q' (.tup [ws "",fB l']) (um M u (.dK (qq T')))) ->(∀f,n_ R l d= .bad f ->q' (.tup [ws (CB f), .tup []]) (um M u (.dK (qq T')))) ->PK [.tup [wr r,wr t],w] (um M u (.dK (qq T'))) q':=λd w q' hm hc hD l hg h1 h2=>#[r,t,R,T',d,w,l,rfl,#[st _ _ iW,st _ _ ht],#[hm,hc],hD.sm st,hg,#[zw hT hg,hR],h1,h2]
 change hold _ _ (um M u (.dK (qq T')));generalize um M u (.dK (qq T'))=M1 at st nn mem ⊢;have fin: ∀T2,cN R T' d= .ok T2 -> ∀M2,M2=um M1 u (.dK (qq T2)) -> ∃M0,Sm M0 M2 /\ q (.tup [ws "", .tup [wr r,wr u]]) M0:=λT2 h M2 e=>ed (kq T2 h u M2 (by rw[e];show st.um hu) (by rw[e];show am));have bad: ∀f,cN R T' d= .bad f -> ∃M0,Sm M0 M1 /\ q (.tup [ws (CB f), .tup [wr r,wr t]]) M0:=λf h=>#[M,st,ke f h]
 cases d with
 | found c=>
  cases hD;dsimp?! [b0];exact#[c,rfl,hc,?_];cases jw:cy c with
  | false=>dsimp?! [aW];show bad .BadName (by rw[cN];show ao jw)
  | true=>
  have oi:¬cy c=false:=by rw[jw];decide
  dsimp?! [aI,nn,cM,b8];cases hg:cC T' c with
  | some l=>dsimp?! [cz];show bad .Taken (by rw[cN,ak oi,hg])
  | none=>dsimp?! [dj,nn,hsz];exact fin (hU T' c []) (by rw[cN,ak oi,hg]) _ ?_;show congrArg (λz=>um M1 u (.dK z)) (gJ fB T' c [])
 | disband c=>
  cases hD;dsimp?! [k_disband_found,b0,nn,cM,b8];cases hg:cC T' c with
  | none=>dsimp?! [dj,aW];show bad .NoCrew (by rw[cN,hg])
  | some l=>dsimp?! [cz,aI,b0,nn,cM,hg,bG];exact fin (ot T' c) (by rw[cN,hg]) _ ?_;rw[pX]
 | enlist c n=>
  cases hD;dsimp?! [k_enlist_found,k_enlist_disband,nn,cM,b8];cases hg:cC T' c with
  | none=>dsimp?! [dj,aW];show bad .NoCrew (by rw[cN,hg])
  | some l=>
   have ec:=BC (R:=R) (d:= .enlist c n) trivial hg;dsimp?! [cz,aI,k_enlist_disband];exact mem (.enlist c n) _ _ trivial hc rfl l hg (λl' h=> ?_) λf h=> ?_;have ef:decide (("" :Str)= "")=true:=by right
   dsimp?! [ef,b0,nn,hsz];exact fin _ (by rw[ec,h]) _ ?_;rw[gJ];rfl;have Xn:decide (CB f=Str.ofString "")=false:=aG (IZ f);dsimp?! [Xn,aW];show bad f (by rw[ec,h])
 | dismiss c n=>
  cases hD;dsimp?! [k_dismiss_found,k_dismiss_disband,nn,cM,b8];cases hg:cC T' c with
  | none=>dsimp?! [dj,aW];show bad .NoCrew (by rw[cN,hg])
  | some l=>
   have ec:=BC (R:=R) (d:= .dismiss c n) trivial hg;dsimp?! [cz,aI,k_dismiss_disband];exact mem (.dismiss c n) _ _ trivial hc rfl l hg (λl' h=> ?_) λf h=> ?_;have ef:decide (("" :Str)= "")=true:=by right
   dsimp?! [ef,b0,nn,hsz];exact fin _ (by rw[ec,h]) _ ?_;rw[gJ];rfl;have Xn:decide (CB f=Str.ofString "")=false:=aG (IZ f);dsimp?! [Xn,aW];show bad f (by rw[ec,h])
def JA {K:WW}(T:ft K mg A):bI P w K mg base fw 7 A.Fl A.FD ["_law_p_here","_law_stand","_law_deed"] (fS K Wc):=by
 exists T.PV.fn,["_law_p_here","_law_stand","_law_deed"],(ag (bp (aS (uZ (K:=K) rfl) (aH (show cb _ (bq K) from az) (pv 2) ai (λ_ _=>rfl)) (aL (aa ay (aa ay (aa ay (aa ay ae))))) (by rfl)) (aj (aF (ax T.vo (wJ T) hr (aa (pv 1) (aa (pv 2) ae))))) aM) (aj (aF (ax T.r_ (va T) hr (aa (pv 0) (aa (pv 1) (aa (pv 2) ae)))))))
 rintro vs M q ⟨p,r,t,R,T',dd,w,rfl,hp,⟨iW,ht⟩,hS,⟨hD,C4⟩,hO,kq,ke⟩;have inl: ∀ (x:Str) (M:Mp) (q':WK),q' (wb (sj x ["found","disband","enlist","dismiss"])) M ->YE false (ws x) (.tup [ws "found",ws "disband",ws "enlist",ws "dismiss"]) M q':=λx M q' h=>uv (l:= ["found","disband","enlist","dismiss"]) h;cases dd with
 | r d=>
  let⟨cX,rfl⟩:=DV.head hD;have e0:gY (ws (kdOf d)::cX) 0=some (ws (kdOf d)):=gl ⋯ rfl;have e1:sj (kdOf d) ["found","disband","enlist","dismiss"]=false:=by cases d<;>(simp![kdOf];decide+kernel)
  dsimp?! [e0];exact inl _ _ _ ?_;dsimp?! [e1];exact#[p,r,t,R,T',d,_,rfl,hp,#[iW,ht],#[hS.r,hS.t],hD,hO,λR' ho hR r' M' s _ hr2=>ed ?_,λf ho=>ed (ke f (by rw[zi,ho]))];let⟨hk,hl⟩:=Np ho hS.k;show kq R' T' (by rw[zi,ho]) (λh _=>#[hR.2 h,hS.t,hk,hS.m]) #[hl,by omega] r' t M' s hr2 (s _ _ ht)
 | c d=>
  let⟨kd,cX,rfl,e1⟩: ∃ (k:Str) (cX:cH W),w= .tup (ws k::cX) /\ sj k ["found","disband","enlist","dismiss"]=true:=by cases d<;>cases hD<;>show#[_,_,rfl,by right]
  have e0:gY (ws kd::cX) 0=some (ws kd):=gl ⋯ rfl;dsimp?! [e0];exact inl _ _ _ ?_;dsimp?! [e1];exact#[r,t,R,T',d,_,rfl,#[iW,ht],hO,hD,hS.t,λz hz=>by have:=(hS.r.ok z hz).2.1;omega,λT2 ho t' M' s ht2=>ed ?_,λf ho=>ed (ke f (by rw[zi,ho]))];let⟨hk,hl⟩:=Om hO hS.t ho;show kq R T2 (by rw[zi,ho]) (λ_ h=>#[hS.r,hk h,hS.k,Oo hO hS.m ho]) #[by omega,hl] r t' M' s (s _ _ iW) ht2
 | _=>cases C4
def Jz {K:WW}(T:ft K mg A):bI P w K mg base (i6 P w) 7 A.Fi A.Fz ["_law_book","_law_deed"] (uh K (V7 AL A.aY A.bw (vY A))):=by
 exact zf T.PU.fn An (by rintro vs M q e ⟨b,la,lu,lh,now,p,S,dd,w,rfl,_⟩;rfl) λcdv A' outer s H E e hr hF hP=> ?_;have nd:=An.nd;exact#[_,(ag (bp (aS c9 (aH (show cb _ (bq K) from az) (pv 1) ai (λ_ _=>rfl)) ay (a9 _)) (ag (bh (i:=2) nd rfl (by trivial) (ci fb (by rfl) T.h_ Boot.«list» (aa (aH (show cb _ (bq K) from az) (pv 1) ai (λ_ _=>rfl)) ae))) (ag (bh (i:=3) nd rfl (by trivial) (cB hP T.yr (zb T) (hr.mono ⋯) (pv 0) (aa (aH (show cb _ (bq K) from az) (pv 1) ai (λ_ _=>rfl)) (aa (pv 2) ae)))) (ag (bp (aS (show jd _ _ (AC K) from qL (by show hr.Uc)) (pv 2) (ci fb (by rfl) T.h_ Boot.«list» (aa (aH (show cb _ (bq K) from az) (pv 1) ai (λ_ _=>rfl)) ae)) (a9 _)) (aj (aF ay)) aM) (ag (bK (eV aN bz bx dh (pv 2) (aa (aL (aa ay (aa ai ae))) ae))) (aj (aF (pv 3))))))) aM) (ag (bp (aS c9 (aH (show cb _ (bq K) from az) (pv 1) ai (λ_ _=>rfl)) ay (a9 _)) (aj (aF (cB hP T.qk (tD T) (hr.mono ⋯) (pv 0) (aa (aH (show cb _ (bq K) from az) (pv 1) ai (λ_ _=>rfl)) (aa (aH (show cb _ (bq K) from az) (aH (show cb _ (bq K) from az) (pv 1) ai (λ_ _=>rfl)) ai (λ_ _=>rfl)) (aa (aH (show cb _ (bq K) from az) (aH (show cb _ (bq K) from az) (pv 1) ai (λ_ _=>rfl)) ai (λ_ _=>rfl)) ae)))))) aM) (ag (bp (aS c9 (aH (show cb _ (bq K) from az) (pv 1) ai (λ_ _=>rfl)) ay (a9 _)) (aj (aF (cB hP T.qp (tG T) (hr.mono ⋯) (pv 0) (aa (aH (show cb _ (bq K) from az) (pv 1) ai (λ_ _=>rfl)) (aa (aH (show cb _ (bq K) from az) (aH (show cb _ (bq K) from az) (pv 1) ai (λ_ _=>rfl)) ai (λ_ _=>rfl)) ae))))) aM) (ag (bp (aS c9 (aH (show cb _ (bq K) from az) (pv 1) ai (λ_ _=>rfl)) ay (a9 _)) (aj (aF (cB hP T.nU (qO T) (hr.mono ⋯) (pv 0) (aa (aH (show cb _ (bq K) from az) (pv 1) ai (λ_ _=>rfl)) (aa (aH (show cb _ (bq K) from az) (aH (show cb _ (bq K) from az) (pv 1) ai (λ_ _=>rfl)) ai (λ_ _=>rfl)) (aa (aH (show cb _ (bq K) from az) (pv 1) ai (λ_ _=>rfl)) ae)))))) aM) (ag (bp (aS c9 (aH (show cb _ (bq K) from az) (pv 1) ai (λ_ _=>rfl)) ay (a9 _)) (aj (aF (cB hP T.yw (ze T) (hr.mono ⋯) (pv 0) (aa (aH (show cb _ (bq K) from az) (pv 1) ai (λ_ _=>rfl)) ae)))) aM) (ag (bp (aS c9 (aH (show cb _ (bq K) from az) (pv 1) ai (λ_ _=>rfl)) ay (a9 _)) (aj (aF (cB hP T.ww (wL T) (hr.mono ⋯) (pv 0) (aa (aH (show cb _ (bq K) from az) (pv 1) ai (λ_ _=>rfl)) ae)))) aM) (ag (bp (aS c9 (aH (show cb _ (bq K) from az) (pv 1) ai (λ_ _=>rfl)) ay (a9 _)) (aj (aF (cB hP T.qo (tF T) (hr.mono ⋯) (pv 0) (aa (aH (show cb _ (bq K) from az) (pv 1) ai (λ_ _=>rfl)) ae)))) aM) (ag (bp (aS c9 (aH (show cb _ (bq K) from az) (pv 1) ai (λ_ _=>rfl)) ay (a9 _)) (aj (aF (cB hP T.sX (vd T) (hr.mono ⋯) (pv 0) (aa (aH (show cb _ (bq K) from az) (pv 1) ai (λ_ _=>rfl)) (aa (aH (show cb _ (bq K) from az) (pv 1) ai (λ_ _=>rfl)) ae))))) aM) (ag (bp (aS c9 (aH (show cb _ (bq K) from az) (pv 1) ai (λ_ _=>rfl)) ay (a9 _)) (aj (aF (cB hP T.qm (tE T) (hr.mono ⋯) (pv 0) (aa (aH (show cb _ (bq K) from az) (pv 1) ai (λ_ _=>rfl)) (aa (aH (show cb _ (bq K) from az) (pv 1) ai (λ_ _=>rfl)) ae))))) aM) (ag (bp (aS c9 (aH (show cb _ (bq K) from az) (pv 1) ai (λ_ _=>rfl)) ay (a9 _)) (aj (aF (xz hP T.yq (za T) (hr.mono ⋯) (pv 0)))) aM) (ag (bp (aS c9 (aH (show cb _ (bq K) from az) (pv 1) ai (λ_ _=>rfl)) ay (a9 _)) (aj (aF (xz hP T.yt (zc T) (hr.mono ⋯) (pv 0)))) aM) (ag (bp (aS c9 (aH (show cb _ (bq K) from az) (pv 1) ai (λ_ _=>rfl)) ay (a9 _)) (aj (aF (iD T.yu (zd T) (hr.mono ⋯) (pv 0)))) aM) (aj (aF (cB hP T.mT (pA T) (hr.mono ⋯) (pv 0) (aa (aH (show cb _ (bq K) from az) (pv 1) ai (λ_ _=>rfl)) ae)))))))))))))))),?_];try dsimp only[eQ]
 exact#[_,inferInstance,?_];rintro vs M q ⟨b,la,lu,lh,now,p,S,dd,w,rfl,⟨hD,C4⟩,hF',hO,Qp,NZ,kq,ke⟩;have hB:=Qp.bk;have hS:=NZ.bk;let⟨dx,hb⟩:=hB.ob;have up: ∀C,e C M ->WL.up e C M:=λC h=>#[M,Sm.refl M,h]
 have pg2: ∀z:Rm×Tm,zi p S.R S.T dd= .ok z ->vt dd ->sY A.aY A.bw M b la lh p now (S.past.map (·.1)) (S.held.map (·.1)) z.1 z.2 q:=λz h hi=>Li Qp (kq _ _ (by rw[JE hi,h]));have pb2: ∀f,zi p S.R S.T dd= .bad f ->vt dd ->e (vY A f) M:=λf h hi=>ke f (by rw[JE hi,h]);cases dd with
 | r d=>
  have kq: ∀R',cJ p S.R S.T d= .ok R' ->sY A.aY A.bw M b la lh p now (S.past.map (·.1)) (S.held.map (·.1)) R' S.T q:=λR' h=>pg2 (R',S.T) (by rw[zi,h]) trivial;have ke: ∀f,cJ p S.R S.T d= .bad f ->e (vY A f) M:=λf h=>pb2 f (by rw[zi,h]) trivial;cases d with
  | tell n ds=>let⟨c,rfl,hc⟩:=hD;exact Hv rfl ?_;dsimp?! [hc];intro h hh;have s1:Sm M (um M h (.lst (ds.map f_))):=a7 hh;have Zh:=ca hb hh;dsimp?! [aR Zh,hb,Ou];exact#[b,la,lu,lh,now,p,_,_,_,_,_, .tell n ds,_,rfl,#[n,h,ds,rfl,rfl,am],hO,hB.sm s1,hS,λR' ho M' eU pg B' F tW vG=> ?_,λr ho=>#[M,s1,ke r ho]];have nah:=ca hB.pa hh;have PN:=ca hB.he hh;have nuh:h≠eU:=ca am tW;have ZE:M' c=some (.lst (ds.map f_)):=F _ _ (s1 _ _ hc) (λz=>by subst z;rw[hb] at hc;cases hc) (λz=>by subst z;show hF' _ rfl);have Xm:M' h=some (.lst (ds.map f_)):=F _ _ am Zh.symm nah.symm;dsimp?! [ZE];intro g hg;exact og (DR.list K2 (by rw[aR (ca Xm hg)];show Xm)) (DR.list K2 am) (Tt ds) rfl ?_;have hsz:((ds.map f_).length<sizeLine)=True:=au (kx (by rw[af];have:=hO.2;omega));dsimp?! [aR (ca Xm hg),Xm,hsz];show#[IY M' h,MK (a7 hg),kq R' ho _ eU pg (B'.IY Xm nah nuh.symm PN) (F.IY s1 hh) (s1.free tW) (s1.free vG)]
  | join n x y=>cases hD;exact fc rfl k_join_tell (Hv rfl ?_);dsimp?! [hb,Dn];exact#[b,la,lu,lh,now,p,_,_,_,_,_, .join n x y,_,rfl,#[n,x,y,rfl,rfl],hO,hB,hS,λR' ho M' eU pg B' F tW vG=> ?_,λr ho=>up _ (ke r ho)];dsimp?! [];show ed (kq R' ho M' eU pg B' F tW vG)
  | back n x=>cases hD;exact fc rfl k_back_tell (fc rfl k_back_join (Hv rfl ?_));dsimp?! [hb,Ds];exact#[b,la,lu,lh,now,p,_,_,_,_,_, .back n x,_,rfl,#[n,x,rfl,rfl],hO,hB,hS,λR' ho M' eU pg B' F tW vG=> ?_,λr ho=>up _ (ke r ho)];dsimp?! [];show ed (kq R' ho M' eU pg B' F tW vG)
  | times n x j=>cases hD;exact fc rfl k_times_tell (fc rfl k_times_join (fc rfl k_times_back (Hv rfl ?_)));dsimp?! [hb,BG];exact#[b,la,lu,lh,now,p,_,_,_,_,_, .times n x j,_,rfl,#[n,x,j,rfl,rfl],hO,hB,hS,λR' ho M' eU pg B' F tW vG=> ?_,λr ho=>up _ (ke r ho)];dsimp?! [];show ed (kq R' ho M' eU pg B' F tW vG)
  | drop n=>cases hD;exact fc rfl k_drop_tell (fc rfl k_drop_join (fc rfl k_drop_back (fc rfl k_drop_times (Hv rfl ?_))));dsimp?! [hb,Ox];exact#[b,la,lu,lh,now,p,_,_,_,_,_, .drop n,_,rfl,#[n,rfl,rfl],hO,hB,hS,λR' ho M' eU pg B' F tW vG=> ?_,λr ho=>up _ (ke r ho)];dsimp?! [];show ed (kq R' ho M' eU pg B' F tW vG)
 | c d=>
  have kq: ∀T',cN S.R S.T d= .ok T' ->sY A.aY A.bw M b la lh p now (S.past.map (·.1)) (S.held.map (·.1)) S.R T' q:=λT' h=>pg2 (S.R,T') (by rw[zi,h]) trivial;have ke: ∀f,cN S.R S.T d= .bad f ->e (vY A f) M:=λf h=>pb2 f (by rw[zi,h]) trivial;have hT:=NZ.s.t;cases d with
  | found c=>cases hD;exact fc rfl k_found_tell (fc rfl k_found_join (fc rfl k_found_back (fc rfl k_found_times (fc rfl k_found_drop (Hv rfl ?_)))));dsimp?! [hb,Lb];exact#[b,la,lu,lh,now,p,_,_,_,_,_, .found c,_,rfl,#[c,rfl,rfl],hO,hB,hS,hT,λR' ho M' eU pg B' F tW vG=> ?_,λr ho=>up _ (ke r ho)];dsimp?! [];show ed (kq R' ho M' eU pg B' F tW vG)
  | disband c=>cases hD;exact fc rfl k_disband_tell (fc rfl k_disband_join (fc rfl k_disband_back (fc rfl k_disband_times (fc rfl k_disband_drop (fc rfl k_disband_found (Hv rfl ?_))))));dsimp?! [hb,Dq];exact#[b,la,lu,lh,now,p,_,_,_,_,_, .disband c,_,rfl,#[c,rfl,rfl],hO,hB,hS,hT,λR' ho M' eU pg B' F tW vG=> ?_,λr ho=>up _ (ke r ho)];dsimp?! [];show ed (kq R' ho M' eU pg B' F tW vG)
  | enlist c n=>cases hD;exact fc rfl k_enlist_tell (fc rfl k_enlist_join (fc rfl k_enlist_back (fc rfl k_enlist_times (fc rfl k_enlist_drop (fc rfl k_enlist_found (fc rfl k_enlist_disband (Hv rfl ?_)))))));dsimp?! [hb,G9];exact#[b,la,lu,lh,now,p,_,_,_,_,_, .enlist c n,_,rfl,#[c,n,rfl,rfl],hO,hB,hS,hT,λR' ho M' eU pg B' F tW vG=> ?_,λr ho=>up _ (ke r ho)];dsimp?! [];show ed (kq R' ho M' eU pg B' F tW vG)
  | dismiss c n=>cases hD;exact fc rfl k_dismiss_tell (fc rfl k_dismiss_join (fc rfl k_dismiss_back (fc rfl k_dismiss_times (fc rfl k_dismiss_drop (fc rfl k_dismiss_found (fc rfl k_dismiss_disband (fc rfl k_dismiss_enlist (Hv rfl ?_))))))));dsimp?! [hb,Dp];exact#[b,la,lu,lh,now,p,_,_,_,_,_, .dismiss c n,_,rfl,#[c,n,rfl,rfl],hO,hB,hS,hT,λR' ho M' eU pg B' F tW vG=> ?_,λr ho=>up _ (ke r ho)];dsimp?! [];show ed (kq R' ho M' eU pg B' F tW vG)
 | undo=>cases hD;exact fc rfl k_undo_tell (fc rfl k_undo_join (fc rfl k_undo_back (fc rfl k_undo_times (fc rfl k_undo_drop (fc rfl k_undo_found (fc rfl k_undo_disband (fc rfl k_undo_enlist (fc rfl k_undo_dismiss (Hv rfl ?_)))))))));dsimp?! [hb,Ot];exact Mw Qp NZ.un (λh=>up _ (ke .NoMore (by rw[oA,h];rfl))) λz l h M' B' F=> ?_;dsimp?! [];show ed (kq _ _ (by rw[oA,h,List.getLast?_concat,List.dropLast_concat]) M' lu z.1 B' F (.inl rfl))
 | redo=>cases hD;exact fc rfl k_redo_tell (fc rfl k_redo_join (fc rfl k_redo_back (fc rfl k_redo_times (fc rfl k_redo_drop (fc rfl k_redo_found (fc rfl k_redo_disband (fc rfl k_redo_enlist (fc rfl k_redo_dismiss (fc rfl k_redo_undo (Hv rfl ?_))))))))));dsimp?! [hb,Ov];exact ML Qp NZ.pa (λh=>up _ (ke .NoMore (by rw[oA,h];rfl))) λz l h M' B' F=> ?_;dsimp?! [];show ed (kq _ _ (by rw[oA,h,List.getLast?_concat,List.dropLast_concat]) M' lu z.1 B' F (.inl rfl))
 | hold=>cases hD;exact fc rfl k_hold_tell (fc rfl k_hold_join (fc rfl k_hold_back (fc rfl k_hold_times (fc rfl k_hold_drop (fc rfl k_hold_found (fc rfl k_hold_disband (fc rfl k_hold_enlist (fc rfl k_hold_dismiss (fc rfl k_hold_undo (fc rfl k_hold_redo (Hv rfl ?_)))))))))));dsimp?! [hb,Ow];exact NT Qp NZ.he λM' B' F=> ?_;dsimp?! [];show ed (kq _ _ rfl M' lu now B' F (.inl rfl))
 | ret k=>cases hD;exact fc rfl k_return_tell (fc rfl k_return_join (fc rfl k_return_back (fc rfl k_return_times (fc rfl k_return_drop (fc rfl k_return_found (fc rfl k_return_disband (fc rfl k_return_enlist (fc rfl k_return_dismiss (fc rfl k_return_undo (fc rfl k_return_redo (fc rfl k_return_hold (?_))))))))))));dsimp?! [hb,zG];exact Rx Qp NZ.pa NZ.he (bD C4 ⋯) (λh=>up _ (ke .NoState ?_)) λz k0 h M' eU B' F hu=> ?_;rw[oA];split;rename_i k0;rw[List.getElem?_eq_none (by have:=λh2=>h #[k0,h2];omega)];rfl;dsimp?! [];show ed (kq _ _ (by rw[oA,ao k0,h]) M' eU z.1 B' F (.inr hu))
def Gs {K:WW}(T:ft K mg A):bI P w K mg base fw 8 A.Bj A.Bw ["_law_book","_law_deed"] (fS K (RW AL A.aY A.bw)):=by
 exists T.JV.fn,["_law_book","_law_deed","_law_told","_law_value_here"],(ag (bh (i:=2) nd rfl (by trivial) ay) (ag (bh (i:=3) nd rfl (by trivial) jv) (ag (MP (iy:=3) rfl rfl T.PU (Jz T) (hr.mono ⋯) (by rfl) (aa (pv 0) (aa (pv 1) ae)) nd rfl (by rfl) (BN.cons (by rfl) T.xg (λea=>(aj (bh (i:=2) nd rfl (by trivial) ay))) (BN.cons (by rfl) T.z4 (λea=>(aj (bh (i:=2) nd rfl (by trivial) ay))) (BN.cons (by rfl) T.qv (λea=>(aj (bh (i:=2) nd rfl (by trivial) ay))) (BN.cons (by rfl) T.z6 (λea=>(aj (bh (i:=2) nd rfl (by trivial) ay))) (BN.cons (by rfl) T.yx (λea=>(aj (bh (i:=2) nd rfl (by trivial) ay))) (BN.cons (by rfl) T.DK (λea=>(aj (bh (i:=2) nd rfl (by trivial) ay))) (BN.cons (by rfl) T.xc (λea=>(aj (bh (i:=2) nd rfl (by trivial) ay))) (BN.cons (by rfl) T.oC (λea=>(aj (bh (i:=2) nd rfl (by trivial) ay))) (BN.cons (by rfl) T.uD (λea=>(aj (bh (i:=2) nd rfl (by trivial) ay))) (BN.cons (by rfl) T.xf (λea=>(aj (bh (i:=2) nd rfl (by trivial) ay))) BN.nil))))))))))) (aj (aF (aL (aa (pv 2) (aa (pv 3) ae))))))))
 rintro vs M q ⟨b,la,lu,lh,now,p,S,dd,w,rfl,hD,hF',hO,Qp,NZ,kq,ke⟩;dsimp?! [];exact#[b,la,lu,lh,now,p,S,dd,w,rfl,hD,hF',hO,Qp,NZ,λS' v ho M' eU Gy B' F tW=> ?_,λr ho ea E9=> ?_];dsimp?! [];show ed (kq S' v ho M' eU Gy B' F tW);have fin: ∃M0,Sm M0 (um M ea (.exc (vY A r))) /\ q (.tup [ws (CB r),wn]) M0:=#[M,a7 E9,ke r ho]
 cases r with
 | BadName=>exact nS ?_;dsimp?! [];show fin
 | NoDeed=>exact cL T.rB (nS ?_);dsimp?! [];show fin
 | NoRound=>exact cL T.pL (cL T.rm (nS ?_));dsimp?! [];show fin
 | NoCrew=>exact cL T.rD (cL T.tT (cL T.rC (nS ?_)));dsimp?! [];show fin
 | Taken=>exact cL T.tN (cL T.vA (cL T.tM (cL T.vB (nS ?_))));dsimp?! [];show fin
 | InUse=>exact cL T.tV (cL T.vE (cL T.tU (cL T.vF (cL T.wO (nS ?_)))));dsimp?! [];show fin
 | TooMany=>exact cL T.pH (cL T.qZ (cL T.pG (cL T.q_ (cL T.tI (cL T.tJ (nS ?_))))));dsimp?! [];show fin
 | TooFar=>exact cL T.re (cL T.tK (cL T.rb (cL T.tL (cL T.vy (cL T.vz (cL T.ra (nS ?_)))))));dsimp?! [];show fin
 | NoMore=>exact cL T.rA (cL T.tR (cL T.rq (cL T.tS (cL T.vC (cL T.vD (cL T.rn (cL T.tQ (nS ?_))))))));dsimp?! [];show fin
 | NoState=>exact cL T.pK (cL T.rh (cL T.pJ (cL T.rj (cL T.tO (cL T.tP (cL T.pI (cL T.rf (cL T.rg (nS ?_)))))))));dsimp?! [];show fin
def Jy {K:WW}(T:ft K mg A):bI P w K mg base fw 1 A.Ff A.Fw ["one"] (fS K Jq):=by
 exists T.shown.fn,["one","end","pattern"],(ag (ge (pv 0) (eD (n:=2) rfl (bv (aZ (i:=1) nd rfl (by trivial)) (bv (aZ (i:=2) nd rfl (by trivial)) dw)))) (aj (aF (bP gK (eR (bO (lU (pv 1)) (bO ay fL))) (eV dC de dW (show HA _ _ (o9 K) from kh) ay (aa (dF rfl (c6.of (sc:=_) (N:= ["one","end","pattern"]) (own:= ["place","setting"]) (fr:= []) (N':= ["place","setting"]) rfl rfl rfl (by right) rfl (by right) (by right) (by right) (by right) (bt rfl)) (kc (K:=K) rfl (pv 2)) (λ_ _ _ _=>(eD (n:=2) rfl (bv (aZ (i:=0) (by change(["place","setting"]:cH Str).Nodup;decide+kernel) rfl (by trivial)) (bv (aZ (i:=1) (by change(["place","setting"]:cH Str).Nodup;decide+kernel) rfl (by trivial)) dw)))) gk (λ_ _ _ _=>dE) (λ_ _ _ _=>(eR (bO ay (bO (lU (pv 0)) (bO ay (bO (lU (pv 1)) fL))))))) ae))))))
 rintro vs M q ⟨a,rfl,hl,⟨hn,hz⟩,k⟩;have l1:=fE hn;have lc:(Str.ofString ":").length=1:=by right
 have lb:(Str.ofString " ").length=1:=by right
 have le:(Str.ofString "=").length=1:=by right
 have l0:(Str.ofString "").length=0:=by right
 dsimp?! [gI,gv,au (gh hn),xX];exact#[bj (by omega),?_];dsimp?! [];exact#[bj (by rw[bE];omega),?_];dsimp?! [];exact#[bj (by rw[bE];omega),?_];dsimp?! [];exact fi (λz=>ws (" " ++fZ z)) (big (by omega)) (λ_ _=>trivial) ?_ λt ht=> ?_;intro z C3 M3 N3 s3 jx;have GQ:=hz z C3;have n1:=fE GQ.1;have n2:=fE GQ.2;dsimp?! [bZ,xX];exact#[bj (by omega),?_];dsimp?! [bZ,au (gh GQ.1),au (gh GQ.2)];exact#[bj (by rw[bE];omega),?_];dsimp?! [];exact#[bj (by rw[bE,bE];omega),?_];dsimp?! [au (gh GQ.2)];exact#[bj (by rw[bE,bE,bE];omega),?_];dsimp?! [];exact#[bj (by rw[bE,bE,bE];omega),?_];rw[show Str.ofString " " ++Str.ofString (toString z.1)++Str.ofString "=" ++Str.ofString (toString z.2)=Str.ofString " " ++fZ z by rw[fZ,rK,rK,rK]];show jx;have dR: ∀x∈a.2.map (λz=>Str.ofString " " ++fZ z),x.length<=124:=λx hx=>by let⟨z,C3,rfl⟩:=b_.mp hx;have:=vm (hz z C3);rw[bE];omega
 have hml:(a.2.map λz=>Str.ofString " " ++fZ z).length*(124+(Str.ofString "").length) <=200000:=by rw[af,l0];omega
 have hsz:(200000:Nat) <=sizeLine:=by rw[cY];decide
 exact qX (ss:=a.2.map λz=>Str.ofString " " ++fZ z) (c:=124) (by rw[am,a5];rfl) dR (ar hml hsz) ?_;have hgl:=gj (Str.ofString "") (a.2.map λz=>Str.ofString " " ++fZ z) dR;dsimp?! [];exact#[ar (m:=300000) (by rw[bE];omega) (by rw[cY];decide),?_];show#[M,a7 ht,k]
def CM {K:WW}(T:ft K mg A):bI P w K mg base fw 1 A.xU A.yb ["_law_one"] (fS K Jq):=by
 exists T.ER.fn,["_law_one","_law_words"],(ag (bh (i:=1) nd rfl (by trivial) (dY (aa (bP gK (ci ng (by rfl) T.FI Boot.«str» (aa (aH (show cb _ (bq K) from az) (pv 0) ai (λ_ _=>rfl)) ae)) ay) ae))) (ag (bK (eV aN PySem.F.slot_list_extend PySem.F.type_list_extend m8 (pv 1) (aa (dF rfl (c6.of (sc:=_) (N:= ["_law_one","_law_words"]) (own:= ["_law_place","_law_setting"]) (fr:= []) (N':= ["_law_place","_law_setting"]) rfl rfl rfl (by right) rfl (by right) (by right) (by right) (by right) (bt rfl)) (kc (K:=K) rfl (aH (show cb _ (bq K) from az) (pv 0) ai (λ_ _=>rfl))) (λ_ _ _ _=>(eD (n:=2) rfl (bv (aZ (i:=0) (by change(["_law_place","_law_setting"]:cH Str).Nodup;decide+kernel) rfl (by trivial)) (bv (aZ (i:=1) (by change(["_law_place","_law_setting"]:cH Str).Nodup;decide+kernel) rfl (by trivial)) dw)))) gk (λ_ _ _ _=>dE) (λ_ _ _ _=>(bP gK (bP gK (ci ng (by rfl) T.FI Boot.«str» (aa (pv 0) ae)) ay) (ci ng (by rfl) T.FI Boot.«str» (aa (pv 1) ae))))) ae))) (aj (aF (eV dC de dW (show HA _ _ (o9 K) from kh) ay (aa (pv 1) ae))))))
 rintro vs M q ⟨a,rfl,hl,⟨hn,hz⟩,k⟩;have l1:=fE hn;have lc:(Str.ofString ":").length=1:=by right
 have lb:(Str.ofString " ").length=1:=by right
 have le:(Str.ofString "=").length=1:=by right
 dsimp?! [gI,gv,au (gh hn)];exact#[bj (by omega),?_];intro t ht;dsimp?! [];exact fi (λz=>ws (fZ z)) (big (by omega)) (λ_ _=>trivial) ?_ λu hu=> ?_;intro z C3 M3 N3 s3 jx;have GQ:=hz z C3;have n1:=fE GQ.1;have n2:=fE GQ.2;dsimp?! [bZ,au (gh GQ.1),au (gh GQ.2)];exact#[bj (by omega),?_];dsimp?! [au (gh GQ.2)];exact#[bj (by rw[bE];omega),?_];show jx;have htu:t≠u:=ca am hu;have Xi:(1+(a.2.map λz=>ws (fZ z)).length<=sizeLine)=True:=au (by rw[af];show big (by omega));dsimp?! [aR htu,Xi];have hsm:Sm M (um (um (um M t (.lst [ws (Str.ofString (toString a.1)++Str.ofString ":")])) u (.lst (a.2.map λz=>ws (fZ z)))) t (.lst ([ws (Str.ofString (toString a.1)++Str.ofString ":")]++a.2.map λz=>ws (fZ z)))):=λc o e=>by
  have nt:=ca e ht;have h2:um M t (.lst [ws (Str.ofString (toString a.1)++Str.ofString ":")]) c=some o:=by rw[aR nt];show e
  rw[aR nt,aR (ca h2 hu)];show h2
 have dR: ∀x∈((toString a.1:Str)++Str.ofString ":")::a.2.map fZ,x.length<=124:=λx hx=>by obtain rfl | hx:=aV.mp hx;rw[bE];omega;let⟨z,C3,rfl⟩:=b_.mp hx;have:=vm (hz z C3);omega
 exact qX (ss:=((toString a.1:Str)++Str.ofString ":")::a.2.map fZ) (c:=124) ?_ dR ?_ ?_;rw[am,aP,a5];rfl;exact ar (m:=200000) ?_ (by rw[cY];decide);rw[aC,af,lb];omega;rw[<- Am];show#[M,hsm,k]
def y_ {K:WW}(T:ft K mg A):bI P w K mg base fw 3 A.sy A.sJ ["book"] (fS K (xA A.aY A.bw)):=by
 have gH:=FG (c_ (P:=P) (w:=w) (base:=base) T);have im:=FG (kS (P:=P) (w:=w) (base:=base) T);exists T.book_text.fn,["book","rows"],(ag (bh (i:=1) nd rfl (by trivial) (dY (aa (eR (bO ay (bO (lU (iD T.nV (qP T) (hr.mono ⋯) (pv 0))) fL))) ae))) (ag (bK (eV aN PySem.F.slot_list_extend PySem.F.type_list_extend m8 (pv 1) (aa (dF rfl (c6.of (sc:=_) (N:= ["book","rows"]) (own:= ["name"]) (fr:= [0]) (N':= ["name","book"]) rfl rfl rfl (by right) rfl (by right) (by right) (by right) (by right) (bt rfl)) (gf (K:=K) rfl (iD T.oz (nF T) (hr.mono ⋯) (pv 0))) (λ_ _ _ _=>(aZ (i:=0) (by change(["name","book"]:cH Str).Nodup;decide+kernel) rfl (by trivial))) eG (λ_ _ _ _=>dE) (λ_ _ _ _=>(eR (bO ay (bO (hV (pv 0)) (bO ay (bO (hV (ax T.shown (Jy T) hr (aa (eJ T.dJ gH (hr.mono ⋯) (pv 1) (aa (pv 0) ae)) ae))) fL))))))) ae))) (ag (bK (eV aN PySem.F.slot_list_extend PySem.F.type_list_extend m8 (pv 1) (aa (dF rfl (c6.of (sc:=_) (N:= ["book","rows"]) (own:= ["crew"]) (fr:= [0]) (N':= ["crew","book"]) rfl rfl rfl (by right) rfl (by right) (by right) (by right) (by right) (bt rfl)) (gf (K:=K) rfl (iD T.oB (nG T) (hr.mono ⋯) (pv 0))) (λ_ _ _ _=>(aZ (i:=0) (by change(["crew","book"]:cH Str).Nodup;decide+kernel) rfl (by trivial))) eG (λ_ _ _ _=>dE) (λ_ _ _ _=>(RJ (K:=K) rfl dC de dW (JN (K:=K) rfl) ay (aa (bP kf (dY (aa ay (aa (pv 0) ae))) (eJ T.kA im (hr.mono ⋯) (pv 1) (aa (pv 0) ae))) ae)))) ae))) (aj (aF (eV dC de dW (show HA _ _ (o9 K) from kh) ay (aa (pv 1) ae)))))))
 rintro vs M q ⟨b,la,lu,lh,now,p,pa,un,he,R,T',rfl,hB,hp,hS,⟨Uv,Uu⟩,k⟩;let⟨dx,hb⟩:=hB.ob;have pn:=fE (i:=p) (by omega);have pl:=gh (i:=p) (by omega);have l9:(Str.ofString "settings ").length=9:=by right
 have l6:(Str.ofString "round ").length=6:=by right
 have l1:(Str.ofString " ").length=1:=by right
 dsimp? [xX];exact#[bj (by omega),?_];dsimp? [hb,BH];exact#[b,la,lu,lh,now,p,pa,un,he,R,T',rfl,hB,?_];dsimp? [au pl];exact#[bj (by rw[bE];omega),bj (by rw[bE];omega),?_];dsimp? [];intro w hw;have s1:Sm M (um M w (.lst [ws (Str.ofString "settings " ++Str.ofString (toString p))])):=a7 hw;have Qj:um M w (.lst [ws (Str.ofString "settings " ++Str.ofString (toString p))]) w=some (.lst [ws (Str.ofString "settings " ++Str.ofString (toString p))]):=am;change hold _ _ (um M w (.lst [ws (Str.ofString "settings " ++Str.ofString (toString p))]));generalize um M w (.lst [ws (Str.ofString "settings " ++Str.ofString (toString p))])=M1 at s1 Qj ⊢;have ZF:=s1 _ _ hb;have Xy:=hB.sm s1;dsimp? [Qj,ZF,BI];exact#[b,la,lu,lh,now,p,pa,un,he,R,T',rfl,Xy,by omega,λnl ns i7 np nsr=> ?_];have hMw:M w=none:=hw;have s2:Sm M1 (um M1 nl (.lst (ns.map ws))):=a7 i7;have wB:um M1 nl (.lst (ns.map ws)) nl=some (.lst (ns.map ws)):=am;generalize um M1 nl (.lst (ns.map ws))=M2 at s2 wB ⊢;have nln:=np.length_eq;rw[af] at nln;dsimp? [wB];exact fi (λn=>ws (iz R n)) (big (by omega)) (λM' s=>s _ _ wB) ?_ λu hu=> ?_;intro n hn M3 N3 s3 jx;let⟨z,hz,rfl⟩:=b_.mp (np.mem_iff.mp hn);have i7:=hS.k z hz;let⟨a,hg⟩:=zx hz;have hB3:=Xy.sm (s2.trans s3);have hb3:=(s2.trans s3) _ _ ZF;let⟨y,hy,_,rfl⟩:=eA hg;have jw:=zj (by omega) (hS.r.ok y hy).1 (hS.r.ok y hy).2.2;have hsl:=qD jw (hS.r.ok y hy).2.1;dsimp? [xX];exact#[bj (by omega),?_];dsimp? [];exact#[bj (by omega),?_];dsimp? [];exact#[bj (by rw[bE];omega),?_];dsimp? [];exact#[bj (by rw[bE,bE];omega),?_];dsimp? [hb3,e8];exact yH #[b,la,lu,lh,now,p,pa,un,he,R,T',_,rfl,hB3,i7,λa oj=> ?_,λoj=>by rw[hg] at oj;cases oj];rw[hg] at oj;cases oj;dsimp? [];exact#[_,rfl,by have:=(hS.r.ok y hy).2.1;omega,jw,?_];dsimp? [];exact#[ku (by omega),?_];dsimp? [];exact#[ku (by rw[bE,bE,bE];omega),?_];dsimp? [];exact#[ku (by rw[bE,bE,bE];omega),?_];have er:iz R z.1= "round " ++z.1++ " " ++j8 y.2:=by unfold iz;rw[hg]
 rw[er] at jx;show jx;have s3:=s2.trans (a7 hu (o:= .lst (ns.map λn=>ws (iz R n))));have NP:=s3 _ _ Qj;have hu3:um M2 u (.lst (ns.map λn=>ws (iz R n))) u=some (.lst (ns.map λn=>ws (iz R n))):=am;generalize um M2 u (.lst (ns.map λn=>ws (iz R n)))=M3 at s3 NP hu3 ⊢;have z1:(1+(ns.map λn=>ws (iz R n)).length<=sizeLine)=True:=au (by rw[af];show big (by omega));dsimp? [NP,hu3,z1];have f4: ∀a o,M a=some o ->um M3 w (.lst (ws (Str.ofString "settings " ++Str.ofString (toString p))::ns.map λn=>ws (iz R n))) a=some o:=λa o h=>by rw[aR (ca h hMw)];show s3 _ _ (s1 _ _ h)
 have Us:um M3 w (.lst (ws (Str.ofString "settings " ++Str.ofString (toString p))::ns.map λn=>ws (iz R n))) w=some (.lst (ws (Str.ofString "settings " ++Str.ofString (toString p))::ns.map λn=>ws (iz R n))):=am;generalize um M3 w (.lst (ws (Str.ofString "settings " ++Str.ofString (toString p))::ns.map λn=>ws (iz R n)))=M4 at f4 Us ⊢;have Xt:=f4 _ _ hb;have UB:=hB.sm f4;dsimp? [Us,Xt,BJ];exact#[b,la,lu,lh,now,p,pa,un,he,R,T',rfl,UB,by omega,λcl cs lr cp csr=> ?_];have s5:Sm M4 (um M4 cl (.lst (cs.map ws))):=a7 lr;have Uz:um M4 cl (.lst (cs.map ws)) cl=some (.lst (cs.map ws)):=am;generalize um M4 cl (.lst (cs.map ws))=M5 at s5 Uz ⊢;have cln:=cp.length_eq;rw[af] at cln;dsimp? [Uz];exact K4 (λn=>ws (qF T' n)) (big (by omega)) (λM' s=>s _ _ Uz) ?_ λv M7 hv s7 hv7=> ?_;intro n hn M6 N6 s6 hN6;let⟨z,hz,rfl⟩:=b_.mp (cp.mem_iff.mp hn);have i7:=hS.t.key z hz;have hg:=zt hS.t.nd hz;have hB6:=UB.sm (s5.trans s6);have hb6:=(s5.trans s6) _ _ Xt;have er:qF T' z.1=Builtin.Str.glued " " ("crew" ::z.1::z.2):=by unfold qF;rw[hg]
 dsimp? [];intro x1 Ur;have hb7:um M6 x1 (.lst [ws "crew",ws z.1]) b=_:=a7 Ur _ _ hb6;dsimp? [hb7,v6];exact yH #[b,la,lu,lh,now,p,pa,un,he,R,T',_,rfl,hB6.sm (a7 Ur),i7,λa oj x2 SR=> ?_,λoj=>by rw[hg] at oj;cases oj];rw[hg] at oj;cases oj;have n12:x1≠x2:=ca am SR;have zl:=hS.t.mem z hz;have z2:(2+z.2.length<=sizeLine)=True:=au (big (by omega));dsimp? [am,aR n12,af,z2];intro x3 hx3;exact qX (ss:=Str.ofString "crew" ::z.1::z.2) (c:=100) (by rw[am];rfl) (yO hS.m i7 hg) (by rw[aC,aC,l1];show ku (by omega)) ?_;rw[er] at hN6;show hN6 _ (((a7 Ur).trans (a7 SR)).trans (a7 hx3));have hw7:=s7 _ _ (s5 _ _ Us);have z2:((ns.map λn=>ws (iz R n)).length+1+(cs.map λn=>ws (qF T' n)).length<=sizeLine)=True:=au (by rw[af,af];show big (by omega));dsimp? [hw7,hv7,aC,z2];exact yh hp hS #[Uv,Uu] np nsr cp csr am ?_;show#[M,λa o h=>by rw[aR (ca h hMw)];show s7 _ _ (s5 _ _ (f4 _ _ h)),k]
def vc {K:WW}(T:ft K mg A):bI P w K mg base fw 2 A.nL A.nQ ["_law_p_here","_law_stand"] (fS K uY):=by
 exists T.sf.fn,["_law_p_here","_law_stand","_law_rows","_law_name","_law_crew"],(ag (bh (i:=2) nd rfl (by trivial) (dY (aa (bP gK ay (ci ng (by rfl) T.FI Boot.«str» (aa (pv 0) ae))) ae))) (ag (gD c5 rfl (gf (K:=K) rfl (bn (fG rfl) (by rfl) T.gU Boot.«sorted» (aa (aH (show cb _ (bq K) from az) (pv 1) ai (λ_ _=>rfl)) ae))) (aZ (i:=3) nd rfl (by trivial)) (aj (bK (eV aN bz bx dh (pv 2) (aa (bP gK (bP gK (bP gK ay (pv 3)) ay) (ax T.ER (CM T) hr (aa (eT (d7 hr) (aH (show cb _ (bq K) from az) (pv 1) ai (λ_ _=>rfl)) (pv 3) (λ_ _=>rfl)) ae))) ae))))) (ag (gD c5 rfl (gf (K:=K) rfl (bn (fG rfl) (by rfl) T.gU Boot.«sorted» (aa (aH (show cb _ (bq K) from az) (pv 1) ai (λ_ _=>rfl)) ae))) (aZ (i:=4) nd rfl (by trivial)) (aj (bK (eV aN bz bx dh (pv 2) (aa (eV dC de dW (show HA _ _ (o9 K) from kh) ay (aa (bP kf (dY (aa ay (aa (pv 4) ae))) (ci fb (by rfl) T.h_ Boot.«list» (aa (eT (d7 hr) (aH (show cb _ (bq K) from az) (pv 1) ai (λ_ _=>rfl)) (pv 4) (λ_ _=>rfl)) ae))) ae)) ae))))) (aj (aF (eV dC de dW (show HA _ _ (o9 K) from kh) ay (aa (pv 2) ae)))))))
 rintro vs M q ⟨p,r,t,R,T',rfl,⟨iW,ht⟩,hp,hS,⟨Uv,Uu⟩,k⟩;have pn:=fE (i:=p) (by omega);have pl:=gh (i:=p) (by omega);have l9:(Str.ofString "settings ").length=9:=by right
 have l6:(Str.ofString "round ").length=6:=by right
 have l1:(Str.ofString " ").length=1:=by right
 dsimp? [au pl];exact#[bj (by omega),?_];intro w hw;have s1:Sm M (um M w (.lst [ws (Str.ofString "settings " ++Str.ofString (toString p))])):=a7 hw;have Qj:um M w (.lst [ws (Str.ofString "settings " ++Str.ofString (toString p))]) w=some (.lst [ws (Str.ofString "settings " ++Str.ofString (toString p))]):=am;change hold _ _ (um M w (.lst [ws (Str.ofString "settings " ++Str.ofString (toString p))]));generalize um M w (.lst [ws (Str.ofString "settings " ++Str.ofString (toString p))])=M1 at s1 Qj ⊢;dsimp? [];exact#[r,_,R.map (·.1),rfl,s1 _ _ iW,jF _ _,by rw[af];show big (by omega),λnl ns i7 np nsr=> ?_];have nln:=np.length_eq;rw[af] at nln;have nwl:nl≠w:=λz=>by subst z;rw[Qj] at i7;cases i7
 have s2:=s1.trans (a7 i7 (o:= .lst (ns.map ws)));have SS:=a7 i7 (o:= .lst (ns.map ws)) _ _ Qj;have wB:um M1 nl (.lst (ns.map ws)) nl=some (.lst (ns.map ws)):=am;generalize um M1 nl (.lst (ns.map ws))=M2 at s2 SS wB ⊢;dsimp? [wB];exact jW (λi ρ M'=> ∃o1:fj W,fA (ρ= [some (wi p),some (.tup [wr r,wr t]),some (wr w),o1,none]) (M' w=some (.lst (ws (Str.ofString "settings " ++Str.ofString (toString p))::(ns.take i).map λn=>ws (iz R n)))) (M' nl=some (.lst (ns.map ws))) (Sm M M')) #[none,rfl, ⇑SS,wB,s2] (by rintro i ρ M' _ ⟨o1,rfl,h1,h2,h3⟩;show h2) ?_ ?_;rintro i x ρ M3 hx ⟨o1,rfl,NP,S8,s3⟩ N hN;let⟨n,hn,rfl⟩:=qT hx;let⟨z,hz,rfl⟩:=b_.mp (np.mem_iff.mp (aX hn));have i7:=hS.k z hz;let⟨a,hg⟩:=zx hz;let⟨y,hy,_,rfl⟩:=eA hg;have jw:=zj (by omega) (hS.r.ok y hy).1 (hS.r.ok y hy).2.2;have hsl:=qD jw (hS.r.ok y hy).2.1;have hr3:=s3 _ _ iW;have er:iz R z.1= "round " ++z.1++ " " ++j8 y.2:=by unfold iz;rw[hg]
 have c1:((Str.ofString "round ").length+z.1.length<=sizeLine)=True:=au (bj (by omega));have c2:((Str.ofString "round " ++z.1).length+(Str.ofString " ").length<=sizeLine)=True:=au (bj (by rw[bE];omega));dsimp? [c1,c2,hr3,cM,hg,bG,NP];exact#[_,rfl,by have:=(hS.r.ok y hy).2.1;omega,jw,?_];have c3:((Str.ofString "round " ++z.1++Str.ofString " ").length+(j8 y.2).length<=sizeLine)=True:=au (ku (by rw[bE,bE];omega));have c4:(((ns.take i).map λn=>ws (iz R n)).length+1<sizeLine)=True:=au (kx (by rw[af,bT];omega));dsimp? [c3,c4,NP,aC];have et:ns.take (i+1)=ns.take i++ [z.1]:=by rw[cK,hn];rfl
 exact hN _ _ #[_,rfl,?_,?_,λa o h=> ?_];rw[am,et,aB,aP,List.map_nil,er];rw[aR nwl];show S8;rw[aR (ca h hw)];show s3 _ _ h;rintro ρ M3 ⟨o1,rfl,NP,S8,s3⟩;rw[af,cW] at NP;clear Qj SS wB s1 s2 S8 i7;dsimp? [];exact#[t,_,T'.map (·.1),rfl,s3 _ _ ht,jF _ _,by rw[af];show big (by omega),λcl cs lr cp csr=> ?_];have cln:=cp.length_eq;rw[af] at cln;have nwc:cl≠w:=λz=>by subst z;rw[NP] at lr;cases lr
 have s4:=s3.trans (a7 lr (o:= .lst (cs.map ws)));have Us:=a7 lr (o:= .lst (cs.map ws)) _ _ NP;have Qn:um M3 cl (.lst (cs.map ws)) cl=some (.lst (cs.map ws)):=am;generalize um M3 cl (.lst (cs.map ws))=M4 at s4 Us Qn ⊢;dsimp? [Qn];exact jW (λi ρ M'=> ∃o2:fj W,fA (ρ= [some (wi p),some (.tup [wr r,wr t]),some (wr w),o1,o2]) (M' w=some (.lst (ws (Str.ofString "settings " ++Str.ofString (toString p))::((ns.map λn=>ws (iz R n))++(cs.take i).map λn=>ws (qF T' n))))) (M' cl=some (.lst (cs.map ws))) (Sm M M')) #[none,rfl, ⇑Us,Qn,s4] (by rintro i ρ M' _ ⟨o1,rfl,h1,h2,h3⟩;show h2) ?_ ?_;rintro i x ρ M5 hx ⟨o2,rfl,W6,Uz,s5⟩ N hN;let⟨n,hn,rfl⟩:=qT hx;let⟨z,hz,rfl⟩:=b_.mp (cp.mem_iff.mp (aX hn));have i7:=hS.t.key z hz;have hg:=zt hS.t.nd hz;have ht5:=s5 _ _ ht;have er:qF T' z.1=Builtin.Str.glued " " ("crew" ::z.1::z.2):=by unfold qF;rw[hg]
 have zl:=hS.t.mem z hz;dsimp? [W6];intro x1 Ur;have ht6:=a7 Ur (o:= .lst [ws "crew",ws z.1]) _ _ ht5;dsimp? [ht6,cM,hg,bG,fB];intro x2 SR;have n12:x1≠x2:=ca am SR;have z2:(2+z.2.length<=sizeLine)=True:=au (big (by omega));dsimp? [am,aR n12,af,z2];intro x3 hx3;exact qX (ss:=Str.ofString "crew" ::z.1::z.2) (c:=100) (by rw[am];rfl) (yO hS.m i7 hg) (by rw[aC,aC,l1];show ku (by omega)) ?_;have sx:=((a7 Ur (o:= .lst [ws "crew",ws z.1])).trans (a7 SR (o:= .lst (z.2.map ws)))).trans (a7 hx3 (o:= .lst ([ws "crew",ws z.1]++z.2.map ws)));have hw6:=sx _ _ W6;have ZD:=sx _ _ Uz;have s6:=s5.trans sx;have c4:((ns.map (λn=>ws (iz R n))++(cs.take i).map λn=>ws (qF T' n)).length+1<sizeLine)=True:=au (kx (by rw[aE,af,af,bT];omega));exact#[_,hw6,?_];dsimp? [c4,aC];have et:cs.take (i+1)=cs.take i++ [z.1]:=by rw[cK,hn];rfl
 exact hN _ _ #[_,rfl,?_,?_,λa o h=> ?_];rw[am,et,aB,aP,List.map_nil,er,bU];rw[aR nwc];show ZD;rw[aR (ca h hw)];show s6 _ _ h;rintro ρ M5 ⟨o2,rfl,W6,Uz,s5⟩;rw[af,cW] at W6;dsimp? [];exact yh hp hS #[Uv,Uu] np nsr cp csr W6 ?_;show#[M,s5,k]
def vb {K:WW}(T:ft K mg A):bI P w K mg base fw 3 A.nK A.nP ["_law_draw","_law_names_here"] (fS K RX):=by
 exists T.se.fn,["_law_draw","_law_names_here","_law_crew","_law_name","_law_way"],(ag (bh (i:=2) nd rfl (by trivial) (aH (show cb _ (ju K) from d5) (pv 1) (ax T.dc (bQ T) hr (aa (pv 0) (aa ai ae))) (λ_ _=>rfl))) (ag (bp (aS c9 (ax T.dc (bQ T) hr (aa (pv 0) (aa ai ae))) ai (a9 _)) (aj (bh (i:=2) nd rfl (by trivial) (ax T.jT (gN T) hr (aa (pv 0) (aa (pv 1) ae))))) aM) (ag (bh (i:=3) nd rfl (by trivial) (ax T.jT (gN T) hr (aa (pv 0) (aa (pv 1) ae)))) (ag (bh (i:=4) nd rfl (by trivial) (ax T.dc (bQ T) hr (aa (pv 0) (aa ai ae)))) (ag (bp (aS ip (pv 4) ai (a9 _)) (aj (aF (aL (aa ay (aa (aH (show cb _ (bq K) from az) (aL (aa (pv 2) (aa (pv 2) (aa (pv 2) (aa (pv 3) ae))))) (ax T.dc (bQ T) hr (aa (pv 0) (aa ai ae))) (λ_ _=>rfl)) ae))))) aM) (ag (bp (aS c9 (pv 4) ai (a9 _)) (aj (aF (aL (aa ay (aa (pv 2) ae))))) aM) (ag (bp (aS ip (pv 4) ai (a9 _)) (aj (aF (aL (aa ay (aa (pv 2) (aa (pv 3) ae)))))) aM) (aj (aF (aL (aa ay (aa (pv 2) (aa (pv 3) ae)))))))))))))
 rintro vs M q ⟨d,l,nl,ns,rfl,hD,i7,wM,⟨n0,n1⟩,tX,k⟩;have tg: ∀ (M':Mp) (q':WK),Dr M' d l ->NB d M M' ->(∀ (n:Str) (M2:Mp),Nm n ->Dr M2 d l ->NB d M M2 ->q' (ws n) M2) ->yX [wr d,wr nl] M' q':=λM' q' D' b' k'=>#[d,l,nl,ns,rfl,D',by rw[b' nl wM];show i7,wM,#[by omega,by omega],tX,λn M2 hn D2 b2=>k' n M2 hn D2 (NB.trans b' b2)]
 dsimp? [];exact#[d,l,2,rfl,hD,⋯,⋯,λj M1 j0 j1 D1 b1=> ?_];have Kj:M1 nl=some (.lst (ns.map ws)):=by rw[b1 nl wM];show i7
 let⟨z,hz⟩: ∃z,ns[j.toNat]? =some z:=#[_,aQ (by omega)]
 have hzn:=tX z (aX hz);have ek:gY (ns.map ws) j=some (ws z):=gl j0 (by rw[aK,hz];rfl);simp? [↓cE,Kj,ek];exact e_ (qY (λρ M'=> ∃c:Str,fA (ρ= [some (wr d),some (wr nl),some (ws c),none,none]) (Nm c) (Dr M' d l) (NB d M M')) ?_ λN hN=> ?_);clear D1 b1 Kj ek hzn hz;rintro ρ M2 ⟨c,rfl,hc,D2,b2⟩;dsimp? [];exact tg M2 _ D2 b2 λn M3 hn D3 b3=> ?_;dsimp? [];exact#[d,l,11,rfl,D3,⋯,⋯,λwy M4 w0 w1 D4 b4=> ?_];replace b4:=NB.trans b3 b4;dsimp? [];exact du (λh=> ?_) λh=> ?_;dsimp? [];exact#[d,l,4,rfl,D4,⋯,⋯,λr M5 r0 r1 D5 b5=> ?_];dsimp? [];exact mZ (λx=> ∃e:Str,x=ws e /\ Nm e) r0 (by change r< ((4:Nat):Int);omega) (λx hx=> ?_) ?_;simp![aV,List.not_mem_nil,or_false] at hx;obtain h | h | h | h:=hx;show#[c,h,hc];show#[c,h,hc];show#[c,h,hc];show#[n,h,hn];rintro _ ⟨v,rfl,hv⟩;dsimp? [];show ed (k (.found v) _ M5 rfl hv D5 (NB.trans b4 b5));dsimp? [];exact du (λh=> ?_) λh=> ?_;dsimp? [];show ed (k (.disband c) _ M4 rfl hc D4 b4);dsimp? [];exact du (λh=> ?_) λh=> ?_;dsimp? [];show ed (k (.enlist c n) _ M4 rfl #[hc,hn] D4 b4);dsimp? [];show ed (k (.dismiss c n) _ M4 rfl #[hc,hn] D4 b4);dsimp? [];exact#[d,l,12,rfl,D1,⋯,⋯,λr M2 r0 r1 D2 b2=> ?_];replace b2:=NB.trans b1 b2;dsimp? [];exact du (λh=> ?_) λh=>hN _ _ #[z,rfl,hzn,D2,b2];exact tg M2 _ D2 b2 λn M3 hn D3 b3=> ?_;dsimp? [];show hN _ _ #[n,rfl,hn,D3,b3]
def wK {K:WW}(T:ft K mg A):bI P w K mg base fw 4 A.pS A.p_ ["_law_draw","_law_names_here"] (fS K aap):=by
 exists T.vp.fn,["_law_draw","_law_names_here","_law_way"],(ag (bh (i:=2) nd rfl (by trivial) (ax T.dc (bQ T) hr (aa (pv 0) (aa ai ae)))) (ag (bp (aS ip (pv 2) ai (a9 _)) (aj (aF (aL (aa ay ae)))) aM) (ag (bp (aS ip (pv 2) ai (a9 _)) (aj (aF (aL (aa ay ae)))) aM) (ag (bp (aS c9 (pv 2) ai (a9 _)) (aj (aF (aL (aa ay ae)))) aM) (ag (bp (aS c9 (pv 2) ai (a9 _)) (aj (aF (aL (aa ay (aa (bP qK (ax T.dc (bQ T) hr (aa (pv 0) (aa ai ae))) ai) ae))))) aM) (ag (bp (aS ip (pv 2) ai (a9 _)) (aj (aF (ax T.ki (kQ T) hr (aa (pv 0) (aa (pv 1) ae))))) aM) (aj (aF (ax T.se (vb T) hr (aa (pv 0) (aa (pv 1) ae)))))))))))
 rintro vs M q ⟨d,l,nl,ns,rfl,hD,i7,wM,⟨n0,n1⟩,tX,kq⟩;dsimp?! [];exact#[d,l,17,rfl,hD,⋯,⋯,λj M1 j0 j1 D1 b1=> ?_];have Kj:M1 nl=some (.lst (ns.map ws)):=by rw[b1 nl wM];show i7
 have f1:Fs d M M1:=λa o h n=>by rw[b1 a n];show h
 dsimp?! [];exact du (λh=> ?_) λh=> ?_;dsimp?! [];show ed (kq .undo _ _ rfl trivial trivial (λa n e=>nomatch e) D1 f1);dsimp?! [];exact du (λh=> ?_) λh=> ?_;dsimp?! [];show ed (kq .redo _ _ rfl trivial trivial (λa n e=>nomatch e) D1 f1);dsimp?! [];exact du (λh=> ?_) λh=> ?_;dsimp?! [];show ed (kq .hold _ _ rfl trivial trivial (λa n e=>nomatch e) D1 f1);dsimp?! [];exact du (λh=> ?_) λh=> ?_;dsimp?! [];exact#[d,l,9,rfl,D1,⋯,⋯,λj M2 j0 j1 D2 b2=> ?_];dsimp?! [];show ed (kq (.ret (j - 1)) _ _ rfl (by change(j - 1).natAbs<1000;omega) trivial (λa n e=>nomatch e) D2 (f1.trans λa o h n=>by rw[b2 a n];show h));dsimp?! [];exact du (λh=> ?_) λh=> ?_;exact#[d,l,nl,ns,rfl,D1,Kj,wM,#[by omega,by omega],tX,λdd w M2 hDV hO hf D2 F2=>ed (kq (.r dd) w M2 hDV trivial hO (λa n e=> ?_) D2 (f1.trans F2))];have h1:=hf a n e;by_cases hn:a=d;subst hn;let⟨x,hx⟩:=Fo D1;rw[hx] at h1;cases h1;show f1.free h1 hn;exact#[d,l,nl,ns,rfl,D1,Kj,wM,#[by omega,by omega],tX,λdd w M2 N2 hO D2 b2=>ed (kq (.c dd) w M2 N2 trivial hO (λa n e=> ?_) D2 (f1.trans λa o h n=>by rw[b2 a n];show h))];cases dd<;>cases N2<;>cases e
def Gq {K:WW}(T:ft K mg A):bI P w K mg base fw 8 A.Bh A.Bu ["_law_p_here","_law_state","_law_deed"] (fS K V6):=by
 exists T.JT.fn,["_law_p_here","_law_state","_law_deed","_law_stand","_law_past","_law_ahead","_law_held","_law_due_here"],(ag (ge (pv 1) (eD (n:=4) rfl (bv (aZ (i:=3) nd rfl (by trivial)) (bv (aZ (i:=4) nd rfl (by trivial)) (bv (aZ (i:=5) nd rfl (by trivial)) (bv (aZ (i:=6) nd rfl (by trivial)) dw)))))) (ag (bp (aS c9 (aH (show cb _ (bq K) from az) (pv 2) ai (λ_ _=>rfl)) ay (a9 _)) (ag (bp (aS c9 (bn (dU (K:=K) rfl) (by rfl) T.gV Boot.«len» (aa (pv 4) ae)) ai (a9 _)) (aj (aF (aL (aa (aL (aa ay (aa jv ae))) (aa (pv 1) ae))))) aM) (aj (aF (aL (aa (aL (aa ay (aa jv ae))) (aa (aL (aa (aH (show cb _ (ju K) from d5) (pv 4) (fN eN ai) (λ_ _=>rfl)) (aa (lT yG (pv 4) pe (pd (fN eN ai))) (aa (bP kf (pv 5) (dY (aa (pv 3) ae))) (aa (pv 6) ae))))) ae)))))) aM) (ag (bp (aS c9 (aH (show cb _ (bq K) from az) (pv 2) ai (λ_ _=>rfl)) ay (a9 _)) (ag (bp (aS c9 (bn (dU (K:=K) rfl) (by rfl) T.gV Boot.«len» (aa (pv 5) ae)) ai (a9 _)) (aj (aF (aL (aa (aL (aa ay (aa jv ae))) (aa (pv 1) ae))))) aM) (aj (aF (aL (aa (aL (aa ay (aa jv ae))) (aa (aL (aa (aH (show cb _ (ju K) from d5) (pv 5) (fN eN ai) (λ_ _=>rfl)) (aa (bP kf (pv 4) (dY (aa (pv 3) ae))) (aa (lT yG (pv 5) pe (pd (fN eN ai))) (aa (pv 6) ae))))) ae)))))) aM) (ag (bp (aS c9 (aH (show cb _ (bq K) from az) (pv 2) ai (λ_ _=>rfl)) ay (a9 _)) (aj (aF (aL (aa (aL (aa ay (aa (bn (dU (K:=K) rfl) (by rfl) T.gV Boot.«len» (aa (pv 6) ae)) ae))) (aa (aL (aa (pv 3) (aa (pv 4) (aa (pv 5) (aa (bP kf (pv 6) (dY (aa (pv 3) ae))) ae))))) ae))))) aM) (ag (bp (aS c9 (aH (show cb _ (bq K) from az) (pv 2) ai (λ_ _=>rfl)) ay (a9 _)) (ag (bp (d4 (pc pi ip ai (aH (show cb _ (bq K) from az) (pv 2) ai (λ_ _=>rfl)) (bn (dU (K:=K) rfl) (by rfl) T.gV Boot.«len» (aa (pv 6) ae)))) (aj (aF (aL (aa (aL (aa ay (aa jv ae))) (aa (pv 1) ae))))) aM) (aj (aF (aL (aa (aL (aa ay (aa jv ae))) (aa (aL (aa (aH (show cb _ (ju K) from d5) (pv 6) (aH (show cb _ (bq K) from az) (pv 2) ai (λ_ _=>rfl)) (λ_ _=>rfl)) (aa (bP kf (pv 4) (dY (aa (pv 3) ae))) (aa (dY ae) (aa (pv 6) ae))))) ae)))))) aM) (ag (bh (i:=7) nd rfl (by trivial) (ax T.PV (JA T) hr (aa (pv 0) (aa (pv 3) (aa (pv 2) ae))))) (ag (bp (aS pf (aH (show cb _ (bq K) from az) (pv 7) ai (λ_ _=>rfl)) ay (a9 _)) (aj (aF (aL (aa (aL (aa (aH (show cb _ (bq K) from az) (pv 7) ai (λ_ _=>rfl)) (aa jv ae))) (aa (pv 1) ae))))) aM) (aj (aF (aL (aa (aL (aa ay (aa jv ae))) (aa (aL (aa (aH (show cb _ (bq K) from az) (pv 7) ai (λ_ _=>rfl)) (aa (bP kf (pv 4) (dY (aa (pv 3) ae))) (aa (dY ae) (aa (pv 6) ae))))) ae))))))))))))
 rintro vs M q ⟨p,r,t,sp,sa,sh,Z,dd,w,rfl,hL,hZ,hD,cU,hO,kq,ke⟩;let⟨lp,hp,ep,L3⟩:=hL.p;let⟨lu,hu,eu,C6⟩:=hL.u;let⟨lh,hh,eh,Zz⟩:=hL.h;have zp:lp.length=Z.past.length:=by rw[<- ep,af]
 have zu:lu.length=Z.qA.length:=by rw[<- eu,af]
 have zh:lh.length=Z.held.length:=by rw[<- eh,af]
 have c1:=hZ.pa;have c2:=hZ.un;have c3:=hZ.he;have now: ∀ {lq:Lp},(∀z∈lq,M z.1.1=some (.dK (xx z.2.1)) /\ M z.1.2=some (.dK (qq z.2.2))) -> ∀z∈lq++ [((r,t),Z.R,Z.T)],M z.1.1=some (.dK (xx z.2.1)) /\ M z.1.2=some (.dK (qq z.2.2)):=λh z hz=>(be.mp hz).elim (h z) λe=>by rw[bg.mp e];show#[hL.r,hL.t]
 have snoc: ∀lq:Lp,lq.map tq++ [.tup [wr r,wr t]]=(lq++ [((r,t),Z.R,Z.T)]).map tq:=λlq=>by rw[aB];rfl
 have one: ∀ {lq:Lp} {z:(fY×fY)×Rm×Tm},gY ((lq++ [z]).map tq) (-1)=some (tq z):=λ{lq z}=>Le (by rw[aB];show List.getLast?_concat);have cut: ∀ {lq:Lp} {z:(fY×fY)×Rm×Tm},Dj ((lq++ [z]).map tq) none (some (-1))=lq.map tq:=λ{lq z}=>by rw[aB];show K3 _ _
 have cat: ∀ {a x0:fY} {lq:Lp} {M1:Mp} {Q:cH W ->fY ->Prop},M1 a=some (.lst (lq.map tq)) ->lq.length<=900 ->Sm M M1 ->M1 x0=none ->(∀x,Sm M1 (um (um M1 x0 (.lst [.tup [wr r,wr t]])) x (.lst (lq.map tq++ [.tup [wr r,wr t]]))) ->(um (um M1 x0 (.lst [.tup [wr r,wr t]])) x (.lst (lq.map tq++ [.tup [wr r,wr t]]))) x=some (.lst ((lq++ [((r,t),Z.R,Z.T)]).map tq)) ->M x=none ->Q (lq.map tq) x) ->lstK (um M1 x0 (.lst [.tup [wr r,wr t]]) a) λl=>cr (l.length+1<=sizeLine) (CP (um M1 x0 (.lst [.tup [wr r,wr t]])) λx=>Q l x):=λ{a x0 lq M1 Q} h hl s h0 k=>#[_,a7 h0 _ _ h,big (by rw[af];omega),λx hx=>k x ((a7 h0).trans (a7 hx)) (by rw[am,snoc]) (s.free ((a7 h0).free hx))]
 by_cases C4:vt dd;let⟨kk,cX,rfl,f1,f2,f3,f4⟩:=MM hD C4;have e0:gY (ws kk::cX) 0=some (ws kk):=gl ⋯ rfl;dsimp? [eO,e0,f1,f2,f3,f4];exact#[p,r,t,Z.R,Z.T,_,_,rfl,hZ.p4,#[hL.r,hL.t],hZ.s,#[hD,C4],hO,λR' T' ho uw hle r' t' M1 s1 hr2 ht2=> ?_,λf ho=> ?_];have ef:decide (("" :Str)= "")=true:=by right
 have uw:=uw (by have:=hZ.sz;omega) (by have:=hZ.sz;omega);have hp1:=s1 _ _ hp;dsimp? [ef,b0];intro x0 h0;exact cat hp1 (by omega) s1 h0 λx s2 hx hn=> ?_;generalize um (um M1 x0 (.lst [.tup [wr r,wr t]])) x (.lst (lp.map tq++ [.tup [wr r,wr t]]))=M2 at s2 hx ⊢;intro x1 h1;have s3:=s2.trans (a7 h1 (o:= .lst []));have s4:=s1.trans s3;exact ed (kq #[R',T',Z.past++ [(Z.R,Z.T)],[],Z.held] wn (by rw[JD C4,ho]) (λ_=>#[uw,hle]) r' t' x x1 sh _ s4 #[s3 _ _ hr2,s3 _ _ ht2,?_,#[[],am,rfl,nofun],hL.h.sm s4] ?_);show#[_,a7 h1 _ _ hx,by rw[aB,ep];rfl,λy hy=>#[s4 _ _ (now L3 y hy).1,s4 _ _ (now L3 y hy).2]];rintro y (rfl | rfl | rfl);show .inr (.inr (.inr hn));show .inr (.inr (.inr ((s1.trans s2).free h1)));show .inr (.inr (.inl rfl));have Xn:decide (CB f=Str.ofString "")=false:=aG (IZ f);dsimp? [Xn,aW];show ed (ke f (by rw[JD C4,ho]));cases dd with
 | undo=>cases hD;dsimp? [eO,b0,hp,af];obtain h0 | ⟨l,z,h0⟩:=ix lp;have e0:decide ((lp.length:Int)=0)=true:=a8 (by rw[h0];rfl);dsimp? [e0];show ed (ke .NoMore (by rw[oS, <- ep,h0];rfl));have e0:decide ((lp.length:Int)=0)=false:=aG (by rw[h0,aE];simp;omega);subst h0;dsimp? [e0,hp,one,cut];intro x1 h1;have nn:=a7 h1 (o:= .lst (l.map tq)) _ _ hu;have Uv:um M x1 (.lst (l.map tq)) x1=some (.lst (l.map tq)):=am;have s1:Sm M (um M x1 (.lst (l.map tq))):=a7 h1;generalize um M x1 (.lst (l.map tq))=M1 at nn Uv s1 ⊢;dsimp? [];intro x0 h0;exact cat nn (by omega) s1 h0 λx s2 hx hn=> ?_;generalize um (um M1 x0 (.lst [.tup [wr r,wr t]])) x (.lst (lu.map tq++ [.tup [wr r,wr t]]))=M2 at s2 hx ⊢;have LQ:=s1.trans s2;exact ed (kq #[z.2.1,z.2.2,l.map (·.2),Z.qA++ [(Z.R,Z.T)],Z.held] wn (by rw[oS, <- ep];simp) (λh=>h.elim) z.1.1 z.1.2 x1 x sh M2 LQ #[LQ _ _ (L3 z (by simp)).1,LQ _ _ (L3 z (by simp)).2,?_,?_,hL.h.sm LQ] ?_);show#[l,s2 _ _ Uv,by simp,λy hy=>#[LQ _ _ (L3 y (by simp[hy])).1,LQ _ _ (L3 y (by simp[hy])).2]];show#[_,hx,by rw[aB,eu];rfl,λy hy=>#[LQ _ _ (now C6 y hy).1,LQ _ _ (now C6 y hy).2]];rintro y (rfl | rfl | rfl);show .inr (.inr (.inr h1));show .inr (.inr (.inr hn));show .inr (.inr (.inl rfl))
 | redo=>cases hD;dsimp? [eO,k_redo_undo,b0,hu,af];obtain h0 | ⟨l,z,h0⟩:=ix lu;have e0:decide ((lu.length:Int)=0)=true:=a8 (by rw[h0];rfl);dsimp? [e0];show ed (ke .NoMore (by rw[oS, <- eu,h0];rfl));have e0:decide ((lu.length:Int)=0)=false:=aG (by rw[h0,aE];simp;omega);subst h0;dsimp? [e0,hu,one,cut];intro x0 h0;exact cat hp (by omega) (Sm.refl M) h0 λx s2 hx hn=> ?_;generalize um (um M x0 (.lst [.tup [wr r,wr t]])) x (.lst (lp.map tq++ [.tup [wr r,wr t]]))=M2 at s2 hx ⊢;have hu2:=s2 _ _ hu;dsimp? [hu2,cut];intro x1 h1;have s3:=s2.trans (a7 h1 (o:= .lst (l.map tq)));exact ed (kq #[z.2.1,z.2.2,Z.past++ [(Z.R,Z.T)],l.map (·.2),Z.held] wn (by rw[oS, <- eu];simp) (λh=>h.elim) z.1.1 z.1.2 x x1 sh _ s3 #[s3 _ _ (C6 z (by simp)).1,s3 _ _ (C6 z (by simp)).2,?_,?_,hL.h.sm s3] ?_);show#[_,a7 h1 _ _ hx,by rw[aB,ep];rfl,λy hy=>#[s3 _ _ (now L3 y hy).1,s3 _ _ (now L3 y hy).2]];show#[l,am,by simp,λy hy=>#[s3 _ _ (C6 y (by simp[hy])).1,s3 _ _ (C6 y (by simp[hy])).2]];rintro y (rfl | rfl | rfl);show .inr (.inr (.inr hn));show .inr (.inr (.inr (s2.free h1)));show .inr (.inr (.inl rfl))
 | hold=>cases hD;dsimp? [eO,k_hold_undo,k_hold_redo,b0,hh,af];intro x0 h0;exact cat hh (by omega) (Sm.refl M) h0 λx s2 hx hn=> ?_;generalize um (um M x0 (.lst [.tup [wr r,wr t]])) x (.lst (lh.map tq++ [.tup [wr r,wr t]]))=M2 at s2 hx ⊢;rw[zh];exact ed (kq {Z with held:=Z.held++ [(Z.R,Z.T)]} _ rfl (λh=>h.elim) r t sp sa x _ s2 #[s2 _ _ hL.r,s2 _ _ hL.t,hL.p.sm s2,hL.u.sm s2,#[_,hx,by rw[aB,eh];rfl,λy hy=>#[s2 _ _ (now Zz y hy).1,s2 _ _ (now Zz y hy).2]]] ?_);rintro y (rfl | rfl | rfl);show .inl rfl;show .inr (.inl rfl);show .inr (.inr (.inr hn))
 | ret k =>
  cases hD;dsimp? [eO,k_return_undo,k_return_redo,k_return_hold,b0,hh,af];by_cases k0:0<=k;by_cases k1:k<lh.length;have d0:=a8 k0;have d1:=a8 k1;let⟨z,hz⟩: ∃z,lh[k.toNat]? =some z:=#[_,aQ (by omega)]
  have ek:gY (lh.map tq) k=some (tq z):=gl k0 (by rw[aK,hz];rfl);have C3:=aX hz;dsimp? [d0,d1,aI,hh,ek];intro x0 h0;exact cat hp (by omega) (Sm.refl M) h0 λx s2 hx hn=> ?_;generalize um (um M x0 (.lst [.tup [wr r,wr t]])) x (.lst (lp.map tq++ [.tup [wr r,wr t]]))=M2 at s2 hx ⊢;intro x1 h1;have s3:=s2.trans (a7 h1 (o:= .lst []));exact ed (kq #[z.2.1,z.2.2,Z.past++ [(Z.R,Z.T)],[],Z.held] wn (by rw[oS,ao k0, <- eh,aK,hz];rfl) (λh=>h.elim) z.1.1 z.1.2 x x1 sh _ s3 #[s3 _ _ (Zz z C3).1,s3 _ _ (Zz z C3).2,?_,#[[],am,rfl,nofun],hL.h.sm s3] ?_);show#[_,a7 h1 _ _ hx,by rw[aB,ep];rfl,λy hy=>#[s3 _ _ (now L3 y hy).1,s3 _ _ (now L3 y hy).2]];rintro y (rfl | rfl | rfl);show .inr (.inr (.inr hn));show .inr (.inr (.inr (s2.free h1)));show .inr (.inr (.inl rfl));have d0:=a8 k0;have d1:=aG k1;dsimp? [d0,d1,aW];show ed (ke .NoState (by rw[oS,ao k0, <- eh,aK,List.getElem?_eq_none (by omega)];rfl));have d0:=aG k0;dsimp? [d0];show ed (ke .NoState (by rw[oS,ak k0]))
 | r d=>show absurd trivial C4
 | c d=>show absurd trivial C4
def R_ {K:WW}(T:ft K mg A):bI P w K mg base fw 9 A.Qu A.Qx ["_law_script"] (Ak K):=by
 have cl:=au T.Book.cl;exact Wj T.law.fn IF ⋯ λcdv A' outer s H E hr=> ?_;have nd:=IF.nd;exact#[_,(ag (bh (i:=1) nd rfl (by trivial) (ax T.EU (CO T) hr (aa (pv 0) ae))) (ag (bh (i:=2) nd rfl (by trivial) (ax T.l_p (Sa T) hr (aa (pv 1) ae))) (ag (bh (i:=3) nd rfl (by trivial) (ax T.ES (CN T) hr (aa (pv 1) (aa ai ae)))) (ag (bh (i:=4) nd rfl (by trivial) (jO T.Book (Nn T) (hr.mono ⋯) (by rfl) (aa (pv 2) ae))) (ag (bh (i:=5) nd rfl (by trivial) (aL (aa (aL (aa jP (aa jP ae))) (aa (dY ae) (aa (dY ae) (aa (dY ae) ae)))))) (ag (gD c5 rfl (fX (by rfl) T.jp (aa (ax T.dc (bQ T) hr (aa (pv 1) (aa ai ae))) ae)) (aZ (i:=6) nd rfl (by trivial)) (ag (bh (i:=7) nd rfl (by trivial) (ax T.vp (wK T) hr (aa (pv 1) (aa (pv 3) ae)))) (ag (bp (aS ip (pv 6) ai (a9 _)) (aj (bh (i:=7) nd rfl (by trivial) (ax T.ki (kQ T) hr (aa (pv 1) (aa (pv 3) ae))))) aM) (ag (bh (i:=8) nd rfl (by trivial) (ax T.JT (Gq T) hr (aa (pv 2) (aa (pv 5) (aa (pv 7) ae))))) (ag (bh (i:=9) nd rfl (by trivial) (ax T.JV (Gs T) hr (aa (pv 4) (aa (pv 7) ae)))) (ag (bp (kP (aS (show jd _ _ (AC K) from qL (by show hr.Uc)) (pv 9) (aH (show cb _ (bq K) from az) (pv 8) ai (λ_ _=>rfl)) (a9 _)) (iS (nZ (aS Jw (aH (show cb _ (bq K) from az) (aH (show cb _ (bq K) from az) (pv 8) ai (λ_ _=>rfl)) ai (λ_ _=>rfl)) jv (a9 _)) (ka (d4 (dM (ax T.AY (px T) hr (aa (aH (show cb _ (bq K) from az) (pv 9) ai (λ_ _=>rfl)) ae)))))).pt)).pt (aj (aF ji)) aM) (ag (bh (i:=5) nd rfl (by trivial) (aH (show cb _ (bq K) from az) (pv 8) ai (λ_ _=>rfl))) (aj (bp (kP (d4 (dM (ax T.AX (AK T) hr (aa (pv 2) (aa (pv 4) (aa (aH (show cb _ (bq K) from az) (pv 5) ai (λ_ _=>rfl)) ae)))))) (iS (aS pf (ax T.book_text (y_ T) hr (aa (pv 4) ae)) (ax T.sf (vc T) hr (aa (pv 2) (aa (aH (show cb _ (bq K) from az) (pv 5) ai (λ_ _=>rfl)) ae))) (a9 _)))).pt (aj (aF ji)) aM))))))))) (aj (aF ji)))))))),?_];try dsimp only[eQ]
 exact#[_,inferInstance,?_];intro d l M hD;dsimp? [];exact#[d,l,rfl,hD,λp M1 hp D1 _=> ?_];dsimp? [];exact#[d,l,5,rfl,D1,⋯,⋯,λnl ns M2 i7 hln tX wM nnl D2=> ?_];dsimp? [];rw[mV];dsimp? [];intro b dxb UA abg l5;exact#[b,dxb,p,rfl,hp,am,λM4 la lu lh now B4 F4 L4 zX NW JJ=>#[rfl,?_]];have ZX: ∀a o,M2 a=some o ->M4 a=some o:=λa o h=>F4 a o (by rw[aR (ca h UA)];show h) (ca h UA);have D4:Dr M4 d l:=KO D2 ZX;have S6:=ZX _ _ i7;let⟨xd,Uq⟩:=Fo D2;let⟨xl,Zx⟩:=XN D2;have fr: ∀ {a c:fY} {o:MO},um M2 b (.ins A.aY dxb []) a=none ->M2 c=some o ->a≠c:=λ{a c o} h1 h2 e=>by subst e;rw[aR (ca h2 UA),h2] at h1;cases h1
 have ap: ∀ {c:fY} {o:MO},M2 c=some o ->Ap c la lu lh:=λh=>#[fr L4 h,fr zX h,fr NW h]
 have q1:=ap Uq;have q2:=ap Zx;have q3:=ap i7;have S4:ud A.aY A.bw M4 b la lu lh p now #[[],[],[],[],[]]:=#[B4,nofun,nofun,nofun]
 have ZC:=ZX _ _ Uq;clear fr ap L4 zX NW F4 ZX Uq Zx UA abg i7 D2 D1 hD B4;dsimp? [];intro r iW;dsimp? [];intro t ht;dsimp? [];intro sp wA;dsimp? [];intro sa Xa;dsimp? [];intro sh SV;let⟨s5,LL5,fsp,fsa,fsh⟩:=aaw iW ht wA Xa SV;change hold _ _ (um (um (um (um (um M4 r (.dK [])) t (.dK [])) sp (.lst [])) sa (.lst [])) sh (.lst []));generalize um (um (um (um (um M4 r (.dK [])) t (.dK [])) sp (.lst [])) sa (.lst [])) sh (.lst [])=M5 at s5 LL5 ⊢;have L5:Lk A.aY A.bw p d l nl b r t sp sa sh la lu lh now ns #[[],[],[],[],[]] M5:=#[S4.sm s5,KO D4 s5,s5 _ _ S6,LL5]
 have Q5:Lq d l nl sp sa sh la lu lh:=#[q1,q2,q3,by rintro x (rfl | rfl | rfl);show#[.new S4 fsp,(ca ZC fsp).symm];show#[.new S4 fsa,(ca ZC fsa).symm];show#[.new S4 fsh,(ca ZC fsh).symm]]
 clear S4 D4 S6 s5 LL5 iW ht wA Xa SV fsp fsa fsh ZC q1 q2 q3;dsimp? [];exact#[d,l,41,rfl,L5.dr,⋯,⋯,λm M6 m0 m1 D6 b6=> ?_];have L6:=L5.fs Q5 wM D6 (λa o h n=>by rw[b6 a n];show h);clear L5 b6 D6;dsimp? [];exact#[#[by omega,by omega],jW (λi ρ M'=>gc λ(o1 o2 o3 o4:fj W)=>ZO λ(r t sp sa sh lu now:fY) (S:gr)=>fA (ρ= [none,some (wr d),some (wi p),some (wr nl),some (wr b),some (eO r t sp sa sh),o1,o2,o3,o4]) (Lk A.aY A.bw p d l nl b r t sp sa sh la lu lh now ns S M') (Lq d l nl sp sa sh la lu lh) (Cd p i S.pure)) #[none,none,none,none,r,t,sp,sa,sh,lu,now,_,rfl,L6,Q5,ZZ] (λ_ _ _ _ _=>trivial) ?_ ?_];clear L6 Q5;rintro i x ρ M8 hx ⟨o1,o2,o3,o4,r,t,sp,sa,sh,lu,now,S,rfl,L8,Q8,hZ⟩ N hN;let⟨hi,rfl⟩:=jM hx;have la8: ∀ {M':Mp} {w:W},Lk A.aY A.bw p d l nl b r t sp sa sh la lu lh now ns S M' ->(∀a n,w= .tup [ws "tell",n,wr a] ->M' a=none) ->Od la w:=λ{M' w} L h n e=>by have h1:=L.bk.bk.pa;rw[h la n e] at h1;cases h1
 dsimp? [];exact#[d,l,nl,ns,rfl,L8.dr,L8.nl,wM,#[by omega,by omega],tX,λdd w9 M9 N2 cU hO hf D9 F9=> ?_];have GV:=la8 L8 hf;have L9:=L8.fs Q8 wM D9 F9;clear L8 hf D9 F9;simp? [↓cE];exact e_ (qY (λρ M'=>cx λ(dd:fR) (w:W)=>gy (ρ= [none,some (wr d),some (wi p),some (wr nl),some (wr b),some (eO r t sp sa sh),some (wi (0+(i:Int))),some w,o3,o4]) (DA M' dd w /\ AL dd) (Od la w) (UL dd) (Lk A.aY A.bw p d l nl b r t sp sa sh la lu lh now ns S M')) ?_ λN hN=> ?_);clear L9 N2 hO cU GV;rintro ρ M9 ⟨dd,w9,rfl,⟨N2,cU⟩,GV,hO,L9⟩;have e1:JI wn=true:=by simp[JI]
 have C6:=Nq (p:=p) (now:=now) (S:=S) (dd:=dd);have Cu: ∀ {r t sp sa sh lu now:fY} {S:gr} {M':Mp} {q':WK},Lk A.aY A.bw p d l nl b r t sp sa sh la lu lh now ns S M' ->Cd p (i+1) S.pure ->q' (wb true) M' ->EE A.aY A.bw [wi p,wr b, .tup [wr r,wr t]] M' q':=λ{r t sp sa sh lu now S M' q'} L hZ hq=>#[b,la,lu,lh,now,r,t,p,_,_,_,S.R,S.T,rfl,L.bk.bk,#[L.ll.r,L.ll.t],hZ.now.s.r,#[hZ.now.s.t,hZ.now.s.k],hq]
 have tx: ∀ {r t sp sa sh lu now:fY} {S:gr} {M':Mp} {q':WK},Lk A.aY A.bw p d l nl b r t sp sa sh la lu lh now ns S M' ->Cd p (i+1) S.pure ->q' (ws (BF p S.R S.T)) M' ->xA A.aY A.bw [wr b] M' q':=λ{r t sp sa sh lu now S M' q'} L hZ hq=>#[b,la,lu,lh,now,p,_,_,_,S.R,S.T,rfl,L.bk.bk,hp,hZ.now.s,#[by have:=hZ.now.r;simp![gr.pure] at this;omega,by have:=hZ.now.t;simp![gr.pure] at this;omega],hq]
 have tl: ∀ {r t sp sa sh lu now:fY} {S:gr} {M':Mp} {q':WK},Lk A.aY A.bw p d l nl b r t sp sa sh la lu lh now ns S M' ->Cd p (i+1) S.pure ->q' (ws (BF p S.R S.T)) M' ->uY [wi p, .tup [wr r,wr t]] M' q':=λ{r t sp sa sh lu now S M' q'} L hZ hq=>#[p,r,t,S.R,S.T,rfl,#[L.ll.r,L.ll.t],hp,hZ.now.s,#[by have:=hZ.now.r;simp![gr.pure] at this;omega,by have:=hZ.now.t;simp![gr.pure] at this;omega],hq]
 dsimp? [];exact#[p,r,t,sp,sa,sh,S.pure,dd,w9,rfl,L9.ll,hZ.ok hp (by omega),N2,cU,hO,λZ' v ho uw r' t' B8 LP LO M10 Rw BQ hx=> ?_,λf ho=> ?_];have HB:=L9.sm Rw;dsimp? [];exact#[b,la,lu,lh,now,p,S,dd,w9,rfl,#[N2.sm Rw,cU],GV,hO,HB.bk,hZ.sk hp (by omega),λS' v' S0 M11 eU Gy B11 TU tW=> ?_,λf S0=> ?_];let⟨Ti,hv⟩:=hZ.step ho uw;rw[ho,S0] at C6;cases C6;let⟨xd,Uq⟩:=Fo L9.dr;let⟨xl,Zx⟩:=XN HB.dr;have qx: ∀x,x=B8 \/ x=LP \/ x=LO ->Ap x la lu lh /\ x≠d:=λx h=>by obtain h | h | h | h:=hx x h;show Q8.qx x (.inl h);show Q8.qx x (.inr (.inl h));show Q8.qx x (.inr (.inr h));show#[.new L9.bk h,(ca Uq h).symm]
 have TN:Lk A.aY A.bw p d l nl b r' t' B8 LP LO la eU lh Gy ns S' M11:=#[B11,TU.dr HB.bk HB.dr Q8.qd Q8.ql,TU.lst HB.bk HB.nl Q8.qn,TU.Hz HB.bk BQ.r,TU.Hz HB.bk BQ.t,BQ.p.fr TU HB.bk (qx _ (.inl rfl)).1,BQ.u.fr TU HB.bk (qx _ (.inr (.inl rfl))).1,BQ.h.fr TU HB.bk (qx _ (.inr (.inr rfl))).1]
 have Q11:Lq d l nl B8 LP LO la eU lh:=#[Q8.qd.step (Rw _ _ Uq) tW,Q8.ql.step Zx tW,Q8.qn.step HB.nl tW,λx h=>#[by
  let⟨y,hy⟩: ∃y,M10 x=some (.lst y):=by obtain rfl | rfl | rfl:=h;show BQ.p.at;show BQ.u.at;show BQ.h.at
  show(qx x h).1.step hy tW,(qx x h).2]]
 have fin: ∀o4,N [none,some (wr d),some (wi p),some (wr nl),some (wr b),some (eO r' t' B8 LP LO),some (wi (0+(i:Int))),some w9,some (.tup [.tup [ws "",v'],eO r' t' B8 LP LO]),o4] M11:=λo4=>hN _ _ #[_,_,_,o4,r',t',B8,LP,LO,eU,Gy,S',rfl,TN,Q11,Ti];dsimp? [];obtain rfl | ⟨n,rfl⟩:=hv;exact og (d:= .tup [.str "", .ez]) (.inl rfl) (.inl rfl) ⋯ rfl ?_;dsimp? [];exact#[rfl,?_];dsimp? [e1,aI,eO];exact Cu TN Ti ?_;dsimp? [aI,eO];exact tx TN Ti ?_;dsimp? [eO];exact tl TN Ti ?_;dsimp? [b0,aI];show fin _;exact og (d:= .tup [.str "", .int n]) (.inl rfl) (.inl rfl) (by simp[tY,km]) rfl ?_;dsimp? [];exact#[rfl,?_];have e2:JI (wi n)=false:=by simp[JI]
 dsimp? [e2,aW];exact#[_,rfl,?_];dsimp? [aI,eO];exact Cu TN Ti ?_;dsimp? [aI,eO];exact tx TN Ti ?_;dsimp? [eO];exact tl TN Ti ?_;dsimp? [b0,aI];show fin _;rw[ho,S0] at C6;cases C6;dsimp? [];exact#[b,la,lu,lh,now,p,S,dd,w9,rfl,#[N2,cU],GV,hO,L9.bk,hZ.sk hp (by omega),λS' v' S0=> ?_,λf' S0=> ?_];rw[ho,S0] at C6;cases C6;rw[ho,S0] at C6;cases C6;dsimp? [];exact og (d:= .tup [.str (CB f), .ez]) (.inl rfl) (.inl rfl) (by simp[tY,km]) rfl ?_;dsimp? [];exact#[rfl,?_];dsimp? [e1,aI,eO];exact Cu L9 hZ.up ?_;dsimp? [aI,eO];exact tx L9 hZ.up ?_;dsimp? [eO];exact tl L9 hZ.up ?_;dsimp? [b0,aI];show hN _ _ #[_,_,_,_,r,t,sp,sa,sh,lu,now,S,rfl,L9,Q8,hZ.up];dsimp? [];exact du (λh=> ?_) λh=>hN _ _ #[dd,w9,rfl,#[N2,cU],GV,hO,L9];dsimp? [];exact#[d,l,nl,ns,rfl,L9.dr,L9.nl,wM,#[by omega,by omega],tX,λdd w M' hDV hO2 hf D2 F2=> ?_];dsimp? [];show hN _ _ #[.r dd,w,rfl,#[hDV,trivial],la8 L9 hf,hO2,L9.fs Q8 wM D2 F2]
 .rintro ρ M7 ⟨o1,o2,o3,o4,r,t,sp,sa,sh,lu,now,S,rfl,_⟩;dsimp? []
end fe
namespace fe
open PySem L2 WL WQ PyProof.Rows
theorem walk {l:W.OpenLaw}{d:DefRec}{K:Params ->WW}(hn:l.most=some 63)(Tf:d.params.defaults= [])(hY: ∀ (w:World) (h:Heap),YP w h ->(K w.params).In h)(nm:d.name= "law")(F: ∀ (w:World) (mg:Str ->fj df) (h:Heap),(K w.params).In h ->h.Ns mainGlobals mg -> ∃A,ft (K w.params) mg A): W.WalkO q xD XP YP l.row.toRowW d [] (λf vs=>PySem.call f vs):=L2.Mj (n:=63) (k:=9) (x:= "_law_script") (CX:=λ_=>fw) (sp:=λw=>Ak (K w.params)) hn ⋯ Tf #[rfl,⋯,⋯] hY (λw mg fa h X G e=>(F w mg h X G).elim λ_ T=>Sn T.law (nm▸e) (λ_ _ _ _ _ _ _=>rfl) λ_=>R_ T) (λ_ _ a ns hl _ hS=>#[a,ns,rfl,hS,λ_=>rfl]) λ_ _ _ _ _ z=>z
end fe
end
def PySem.W.Fast.tw2208115890943294754:Nat:=0
def PySem.W.Fast.tw12070845970139841334:Nat:=0
def PySem.W.Fast.tw1740424640107792302:Nat:=0
def PySem.W.Fast.tw16486745707489268176:Nat:=0
def PySem.W.Fast.tw17340876341690749211:Nat:=0
def PySem.W.Fast.tw17447764996995700306:Nat:=0
def PySem.W.Fast.tw407208312977195085:Nat:=0
def PySem.W.Fast.tw17728791898885851730:Nat:=0
def PySem.W.Fast.tw15482238755291740037:Nat:=0
def PySem.W.Fast.tw14493428934410545273:Nat:=0
def PySem.W.Fast.tw7260046787256335665:Nat:=0
def PySem.W.Fast.tw6178747725096656498:Nat:=0
def PySem.W.Fast.tw16556343737456920405:Nat:=0
def PySem.W.Fast.tw951720573049540248:Nat:=0
def PySem.W.Fast.tw1583490568494393508:Nat:=0
def PySem.W.Fast.tw3170583511883755332:Nat:=0
def PySem.W.Fast.tw18145212437997197812:Nat:=0
def PySem.W.Fast.tw7200535182257325111:Nat:=0
def PySem.W.Fast.tw9170370571327513881:Nat:=0
def PySem.W.Fast.tw2346586039681658805:Nat:=0
def PySem.W.Fast.tw1773025854751257368:Nat:=0
def PySem.W.Fast.tw11519350432231769462:Nat:=0
def PySem.W.Fast.tw16887815109334485183:Nat:=0
def PySem.W.Fast.tw14635135261250365303:Nat:=0
def PySem.W.Fast.tw6419934987175637786:Nat:=0
def PySem.W.Fast.tw11401685664301890266:Nat:=0
def PySem.W.Fast.tw15525806423728249042:Nat:=0
def PySem.W.Fast.tw359053052358614268:Nat:=0
def PySem.W.Fast.tw16140636009212005019:Nat:=0
def PySem.W.Fast.tw4398684347108191743:Nat:=0
def PySem.W.Fast.tw11993421046518320008:Nat:=0
def PySem.W.Fast.tw1464196120962368463:Nat:=0
def PySem.W.Fast.tw2565915079414088548:Nat:=0
def PySem.W.Fast.tw14576652788146307846:Nat:=0
def PySem.W.Fast.tw10814085248522472615:Nat:=0
def PySem.W.Fast.tw14534623470232965219:Nat:=0
def PySem.W.Fast.tw13072593729410591196:Nat:=0
def PySem.W.Fast.tw14364720173509398308:Nat:=0
def PySem.W.Fast.tw1706022702190726755:Nat:=0
def PySem.W.Fast.tw3925560884778778999:Nat:=0
def PySem.W.Fast.tw12154444044420062381:Nat:=0
def PySem.W.Fast.tw12625113813725772895:Nat:=0
def PySem.W.Fast.tw14612082810881464151:Nat:=0
def PySem.W.Fast.tw15705300583164284934:Nat:=0
def PySem.W.Fast.tw18123090233912216225:Nat:=0
def PySem.W.Fast.tw17350698835922174573:Nat:=0
def PySem.W.Fast.tw4950585377453989620:Nat:=0
def PySem.W.Fast.tw8680861269739059682:Nat:=0
def PySem.W.Fast.tw2317406529076592137:Nat:=0
def PySem.W.Fast.tw6810287568295256100:Nat:=0
def PySem.W.Fast.tw15824992863799202703:Nat:=0
def PySem.W.Fast.tw3351345258319965421:Nat:=0
def PySem.W.Fast.tw18163057955900456260:Nat:=0
def PySem.W.Fast.tw11553726526161923011:Nat:=0
def PySem.W.Fast.tw8373782603591887211:Nat:=0
def PySem.W.Fast.tw2904464008623621358:Nat:=0
def PySem.W.Fast.tw3205335321494833623:Nat:=0
def PySem.W.Fast.tw1417586485273056100:Nat:=0
def PySem.W.Fast.tw1472504775202487698:Nat:=0
def PySem.W.Fast.tw5776413148470185110:Nat:=0
def PySem.W.Fast.tw3106623922541898890:Nat:=0
def PySem.W.Fast.tw15277597571166478803:Nat:=0
def PySem.W.Fast.tw13299870780187164427:Nat:=0
def PySem.W.Fast.tw13896632380332490484:Nat:=0
def PySem.W.Fast.tw5417107182564350662:Nat:=0
def PySem.W.Fast.tw16063956135064849568:Nat:=0
def PySem.W.Fast.tw6281733570974654646:Nat:=0
def PySem.W.Fast.tw4475446982714765494:Nat:=0
def PySem.W.Fast.tw3852250802957346596:Nat:=0
def PySem.W.Fast.tw10684703580323311115:Nat:=0
def PySem.W.Fast.tw2800469124431323139:Nat:=0
def PySem.W.Fast.tw11692253524981603056:Nat:=0
def PySem.W.Fast.tw9687964406082738166:Nat:=0
def PySem.W.Fast.tw4161866820642804073:Nat:=0
def PySem.W.Fast.tw8503930945632641414:Nat:=0
def PySem.W.Fast.tw16036726526421046003:Nat:=0
def PySem.W.Fast.tw3124215412869962658:Nat:=0
def PySem.W.Fast.tw8278377097051903968:Nat:=0
def PySem.W.Fast.tw779198694255913500:Nat:=0
def PySem.W.Fast.tw8120142885999756594:Nat:=0
def PySem.W.Fast.tw11842283642205355701:Nat:=0
def PySem.W.Fast.tw8704574048426694866:Nat:=0
def PySem.W.Fast.tw6609614146227179622:Nat:=0
def PySem.W.Fast.tw6576249654534914974:Nat:=0
def PySem.W.Fast.tw7657295190024089035:Nat:=0
def PySem.W.Fast.tw7381962543175709991:Nat:=0
def PySem.W.Fast.tw5048325417822697138:Nat:=0
def PySem.W.Fast.tw3423040953411350176:Nat:=0
def PySem.W.Fast.tw6486047254341345674:Nat:=0
def PySem.W.Fast.tw17624189015993730397:Nat:=0
def PySem.W.Fast.tw7090375356858692340:Nat:=0
def PySem.W.Fast.tw10192895078285725604:Nat:=0
def PySem.W.Fast.tw8199608931478302138:Nat:=0
def PySem.W.Fast.tw362739309945761978:Nat:=0
def PySem.W.Fast.tw5291992993172276551:Nat:=0
def PySem.W.Fast.tw9088642152492334016:Nat:=0
def PySem.W.Fast.tw18346779096091787964:Nat:=0
def PySem.W.Fast.tw64252719300448672:Nat:=0
def PySem.W.Fast.tw13600689576196270882:Nat:=0
def PySem.W.Fast.tw232288441314670548:Nat:=0
def PySem.W.Fast.tw3042805095248738728:Nat:=0
def PySem.W.Fast.tw1250258093443805909:Nat:=0
def PySem.W.Fast.tw9137589354780418607:Nat:=0
def PySem.W.Fast.tw9171990481057764490:Nat:=0
def PySem.W.Fast.tw12566021796257211979:Nat:=0
def PySem.W.Fast.tw16199831251598626145:Nat:=0
def PySem.W.Fast.tw8732650011063407773:Nat:=0
def PySem.W.Fast.tw12866723544114724703:Nat:=0
def PySem.W.Fast.tw7073024642065794263:Nat:=0
def PySem.W.Fast.tw945651252286438440:Nat:=0
def PySem.W.Fast.tw3565015104676480476:Nat:=0
def PySem.W.Fast.tw4569188219929234871:Nat:=0
def PySem.W.Fast.tw6223194417647928395:Nat:=0
def PySem.W.Fast.tw6870800119280939467:Nat:=0
def PySem.W.Fast.tw14754023069783575058:Nat:=0
def PySem.W.Fast.tw14139768232816452518:Nat:=0
def PySem.W.Fast.tw16394107957873185587:Nat:=0
def PySem.W.Fast.tw13667916678640526845:Nat:=0
def PySem.W.Fast.tw11683149183868262480:Nat:=0
def PySem.W.Fast.tw12087576977509825985:Nat:=0
def PySem.W.Fast.tw16440480441395884377:Nat:=0
def PySem.W.Fast.tw18424652471686186346:Nat:=0
def PySem.W.Fast.tw4653313349856982678:Nat:=0
def PySem.W.Fast.tw5667371002943859719:Nat:=0
def PySem.W.Fast.tw13362863700657864056:Nat:=0
def PySem.W.Fast.tw14779962493950387639:Nat:=0
def PySem.W.Fast.tw6290094421765327284:Nat:=0
def PySem.W.Fast.tw2234659971557016523:Nat:=0
def PySem.W.Fast.tw8577601311712884893:Nat:=0
def PySem.W.Fast.tw12618190836459904883:Nat:=0
def PySem.W.Fast.tw11958363332144419246:Nat:=0
def PySem.W.Fast.tw12670669214207550192:Nat:=0
def PySem.W.Fast.tw3979317145823413060:Nat:=0
def PySem.W.Fast.tw12375034360292301825:Nat:=0
def PySem.W.Fast.tw12155638489633878863:Nat:=0
def PySem.W.Fast.tw8313511264342499437:Nat:=0
def PySem.W.Fast.tw14222908355106414011:Nat:=0
def PySem.W.Fast.tw6157153895858086281:Nat:=0
def PySem.W.Fast.tw2294130915101425581:Nat:=0
def PySem.W.Fast.tw1055730781449970818:Nat:=0
def PySem.W.Fast.tw14772461324638602545:Nat:=0
def PySem.W.Fast.tw14976034345769560442:Nat:=0
def PySem.W.Fast.tw7113657925980739824:Nat:=0
def PySem.W.Fast.tw6310217006544899815:Nat:=0
def PySem.W.Fast.tw16168022721565578082:Nat:=0
def PySem.W.Fast.tw16813855516744872720:Nat:=0
def PySem.W.Fast.tw1320336076119901:Nat:=0
def PySem.W.Fast.tw15205202888283514020:Nat:=0
def PySem.W.Fast.tw11821565961691812936:Nat:=0
def PySem.W.Fast.tw17269622870893737174:Nat:=0
def PySem.W.Fast.tw4798770939849280868:Nat:=0
def PySem.W.Fast.tw9417708431768520932:Nat:=0
def PySem.W.Fast.tw7417238459305807319:Nat:=0
def PySem.W.Fast.tw8185418213630459925:Nat:=0
def PySem.W.Fast.tw11581349984128810538:Nat:=0
def PySem.W.Fast.tw13959826684379329114:Nat:=0
def PySem.W.Fast.tw15851961933267251034:Nat:=0
def PySem.W.Fast.tw4051556557120209418:Nat:=0
def PySem.W.Fast.tw3841790288878445593:Nat:=0
def PySem.W.Fast.tw12885639995232435733:Nat:=0
def PySem.W.Fast.tw6210397133161775594:Nat:=0
def PySem.W.Fast.tw11624158888480772784:Nat:=0
def PySem.W.Fast.tw661695519370725441:Nat:=0
def PySem.W.Fast.tw16232112835773318830:Nat:=0
def PySem.W.Fast.tw16614812023457768807:Nat:=0
def PySem.W.Fast.tw15846686792703752063:Nat:=0
def PySem.W.Fast.tw3887518452308560587:Nat:=0
def PySem.W.Fast.tw9307475196754543639:Nat:=0
def PySem.W.Fast.tw16541725488931729740:Nat:=0
def PySem.W.Fast.tw9624028410409846772:Nat:=0
def PySem.W.Fast.tw2637783796617961914:Nat:=0
def PySem.W.Fast.tw18014675015123080856:Nat:=0
def PySem.W.Fast.tw17999819466235439186:Nat:=0
def PySem.W.Fast.tw2134927560696295976:Nat:=0
def PySem.W.Fast.tw7753198346223424951:Nat:=0
def PySem.W.Fast.tw2591028100264467871:Nat:=0
def PySem.W.Fast.tw5019397416519346044:Nat:=0
def PySem.W.Fast.tw15268147662943182649:Nat:=0
def PySem.W.Fast.tw324329083073285786:Nat:=0
def PySem.W.Fast.tw15415432588193973129:Nat:=0
def PySem.W.Fast.tw10550291179427457797:Nat:=0
def PySem.W.Fast.tw7067017240761169230:Nat:=0
def PySem.W.Fast.tw3292629434484373664:Nat:=0
def PySem.W.Fast.tw2358181240115804640:Nat:=0
def PySem.W.Fast.tw13527874822964832968:Nat:=0
def PySem.W.Fast.tw10116147068532130694:Nat:=0
def PySem.W.Fast.tw10952704629155638987:Nat:=0
def PySem.W.Fast.tw4023505759387754400:Nat:=0
def PySem.W.Fast.tw5688853100769806391:Nat:=0
def PySem.W.Fast.tw1199546701929297330:Nat:=0
def PySem.W.Fast.tw8350015540675334532:Nat:=0
def PySem.W.Fast.tw4556131086208902017:Nat:=0
def PySem.W.Fast.tw10472358913481313682:Nat:=0
def PySem.W.Fast.tw6206372778358646679:Nat:=0
def PySem.W.Fast.tw18205689993184098180:Nat:=0
def PySem.W.Fast.tw10100739000230029761:Nat:=0
def PySem.W.Fast.tw5231955802951893610:Nat:=0
def PySem.W.Fast.tw5433789565996658341:Nat:=0
def PySem.W.Fast.tw2377864563094431519:Nat:=0
def PySem.W.Fast.tw11257938594936385101:Nat:=0
def PySem.W.Fast.tw9204044790539448847:Nat:=0
def PySem.W.Fast.tw5799182621476035258:Nat:=0
def PySem.W.Fast.tw9468767608566395870:Nat:=0
def PySem.W.Fast.tw11954234005465801077:Nat:=0
def PySem.W.Fast.tw8347241701503586772:Nat:=0
def PySem.W.Fast.tw14830901215259535753:Nat:=0
def PySem.W.Fast.tw9526944087553361746:Nat:=0
def PySem.W.Fast.tw16107146012419484646:Nat:=0
def PySem.W.Fast.tw13786392425741707087:Nat:=0
def PySem.W.Fast.tw17367781284059830568:Nat:=0
def PySem.W.Fast.tw2619391441516480907:Nat:=0
def PySem.W.Fast.tw8837236162225210952:Nat:=0
def PySem.W.Fast.tw14118413362100388539:Nat:=0
def PySem.W.Fast.tw9885594976907846356:Nat:=0
def PySem.W.Fast.tw8211481537447393256:Nat:=0
def PySem.W.Fast.tw18054097007204582364:Nat:=0
def PySem.W.Fast.tw4464924885210036133:Nat:=0
def PySem.W.Fast.tw13650194148043498809:Nat:=0
def PySem.W.Fast.tw9685041265146146474:Nat:=0
def PySem.W.Fast.tw17148609517973717144:Nat:=0
def PySem.W.Fast.tw17150921900937917681:Nat:=0
def PySem.W.Fast.tw17811689867580430913:Nat:=0
def PySem.W.Fast.tw304176925127902882:Nat:=0
def PySem.W.Fast.tw4450281456621453616:Nat:=0
def PySem.W.Fast.tw6762801506994349734:Nat:=0
def PySem.W.Fast.tw1722578993793060488:Nat:=0
def PySem.W.Fast.tw9801314024080369687:Nat:=0
def PySem.W.Fast.tw12929772014469310081:Nat:=0
def PySem.W.Fast.tw4334279935687240232:Nat:=0
def PySem.W.Fast.tw4235505855328513289:Nat:=0
def PySem.W.Fast.tw4472645190245710515:Nat:=0
def PySem.W.Fast.tw14630377346658195274:Nat:=0
def PySem.W.Fast.tw5649451860452534975:Nat:=0
def PySem.W.Fast.tw15121561563281997224:Nat:=0
def PySem.W.Fast.tw1758443011990749816:Nat:=0
def PySem.W.Fast.tw10042979797794701619:Nat:=0
def PySem.W.Fast.tw18116768646487346021:Nat:=0
def PySem.W.Fast.tw10363710523639947484:Nat:=0
def PySem.W.Fast.tw15644214717500777531:Nat:=0
def PySem.W.Fast.tw5378390046198953347:Nat:=0
def PySem.W.Fast.tw1736993051836014032:Nat:=0
def PySem.W.Fast.tw13189383587568335435:Nat:=0
def PySem.W.Fast.tw16489875996042026568:Nat:=0
def PySem.W.Fast.tw11580652195040866701:Nat:=0
def PySem.W.Fast.tw2692481881741639314:Nat:=0
def PySem.W.Fast.tw10425232552116825971:Nat:=0
def PySem.W.Fast.tw15674320768046022703:Nat:=0
def PySem.W.Fast.tw4292404371217575623:Nat:=0
def PySem.W.Fast.tw18016449450142688955:Nat:=0
def PySem.W.Fast.tw5739771434912857107:Nat:=0
def PySem.W.Fast.tw13535451106894216727:Nat:=0
def PySem.W.Fast.tw9688456649374318064:Nat:=0
def PySem.W.Fast.tw9029391741328365366:Nat:=0
def PySem.W.Fast.tw3570260786998760262:Nat:=0
def PySem.W.Fast.tw4002125605905947461:Nat:=0
def PySem.W.Fast.tw10822094775181356649:Nat:=0
def PySem.W.Fast.tw15620818016055514028:Nat:=0
def PySem.W.Fast.tw7963689139009694376:Nat:=0
def PySem.W.Fast.tw2223260596763445275:Nat:=0
def PySem.W.Fast.tw10565480158852277454:Nat:=0
def PySem.W.Fast.tw11925575436328866228:Nat:=0
def PySem.W.Fast.tw8122952347195275410:Nat:=0
def PySem.W.Fast.tw3912406025406727360:Nat:=0
def PySem.W.Fast.tw16879552263810817326:Nat:=0
def PySem.W.Fast.tw16598886944587873538:Nat:=0
def PySem.W.Fast.tw6717350943309780790:Nat:=0
def PySem.W.Fast.tw17860307219260242977:Nat:=0
def PySem.W.Fast.tw6462026830653977430:Nat:=0
def PySem.W.Fast.tw16062187933237909443:Nat:=0
def PySem.W.Fast.tw10725608495993858093:Nat:=0
def PySem.W.Fast.tw15825173332942540146:Nat:=0
def PySem.W.Fast.tw17800359999137938542:Nat:=0
open PySem PySem.W PyProof.Rows L2
set_option maxRecDepth 100000 in
set_option maxHeartbeats 0 in
theorem PySem.Challenge.cw_duskround_k46_whole_book_forth_and_back_holds : PySem.Challenge.rw_duskround_k46_whole_book_forth_and_back.Holds := by
 w_on;o_law;k_head;(case hw=>w_witness2)
 k_fill
 refine fe.walk (l:=PySem.Challenge.rw_duskround_k46_whole_book_forth_and_back) rfl rfl (λw h Y=>PySem.W.kIn_of Y) rfl λw mg h X G=> ?_
 have' TQ:=bS (x:= "tidy") (ps:= ["p","pairs"]) (st:=fe.Cw) X G ?g14 ?g15 ?g16 ?g17;(case g14 | g15 | g16 | g17=>k_is);have' OR:=bS (x:= "added") (ps:= ["p","one","other"]) (st:=fe.Ei) X G ?g18 ?g19 ?g20 ?g21;(case g18 | g19 | g20 | g21=>k_is);have' OL:=bS (x:= "moved") (ps:= ["pattern","by"]) (st:=fe.yK) X G ?g22 ?g23 ?g24 ?g25;(case g22 | g23 | g24 | g25=>k_is);have' OJ:=bS (x:= "timed") (ps:= ["p","pattern","n"]) (st:=fe.yJ) X G ?g26 ?g27 ?g28 ?g29;(case g26 | g27 | g28 | g29=>k_is);have' TR:=bS (x:= "gone") (ps:= ["p","deeds"]) (st:=fe.Cy) X G ?g30 ?g31 ?g32 ?g33;(case g30 | g31 | g32 | g33=>k_is);have' LF:=bS (x:= "joined") (ps:= ["p","one","other"]) (st:=fe.Aw) X G ?g34 ?g35 ?g36 ?g37;(case g34 | g35 | g36 | g37=>k_is);have' DD:=bS (x:= "backward") (ps:= ["p","one"]) (st:=fe.uU) X G ?g38 ?g39 ?g40 ?g41;(case g38 | g39 | g40 | g41=>k_is);have' Dz:=bS (x:= "repeated") (ps:= ["p","one","n"]) (st:=fe.iL) X G ?g42 ?g43 ?g44 ?g45;(case g42 | g43 | g44 | g45=>k_is);have' wY:=bS (x:= "lies_within") (ps:= ["one","farthest_end","farthest_place"]) (st:=fe.jr) X G ?g46 ?g47 ?g48 ?g49;(case g46 | g47 | g48 | g49=>k_is);have' BU:=bS (x:= "fits_crew") (ps:= ["one"]) (st:=fe.rS) X G ?g50 ?g51 ?g52 ?g53;(case g50 | g51 | g52 | g53=>k_is);have' zT:=bS (x:= "check_name") (ps:= ["name"]) (st:=fe.j9) X G ?g54 ?g55 ?g56 ?g57;(case g54 | g55 | g56 | g57=>k_is);have' zP:=bS (x:= "with_thing") (ps:= ["things","name","thing"]) (st:=fe.oR) X G ?g58 ?g59 ?g60 ?g61;(case g58 | g59 | g60 | g61=>k_is);have' Hj:=bS (x:= "without") (ps:= ["things","name"]) (st:=fe.xr) X G ?g62 ?g63 ?g64 ?g65;(case g62 | g63 | g64 | g65=>k_is);have' DE:=K6 (x:= "Page") (ps:= ["self","rounds","teams"]) (st:=fe.IJ) X G ?g66 ?g67 ?g68 ?g69 ?g70 ?g71 ?g72 ?g73 ?g74 ?g75 ?g76 ?g77;(case g66 | g67 | g68 | g69 | g70 | g71 | g72 | g73 | g74 | g75 | g76 | g77=>k_is);have' dg:=K6 (x:= "Book") (ps:= ["self","p"]) (st:=fe.IK) X G ?g78 ?g79 ?g80 ?g81 ?g82 ?g83 ?g84 ?g85 ?g86 ?g87 ?g88 ?g89;(case g78 | g79 | g80 | g81 | g82 | g83 | g84 | g85 | g86 | g87 | g88 | g89=>k_is);have' t_:=eo (m:= "settings") (ps:= ["self"]) (st:=fe.kL) dg ?g90 ?g91 ?g92 ?g93 ?g94;(case g90 | g91 | g92 | g93 | g94=>k_is);have' wg:=eo (m:= "turn_to") (ps:= ["self","page"]) (st:=fe.lM) dg ?g95 ?g96 ?g97 ?g98 ?g99;(case g95 | g96 | g97 | g98 | g99=>k_is);have' DF:=eo (m:= "put") (ps:= ["self","name","one"]) (st:=fe.nY) dg ?g100 ?g101 ?g102 ?g103 ?g104;(case g100 | g101 | g102 | g103 | g104=>k_is);have' ub:=eo (m:= "put_team") (ps:= ["self","crew","team"]) (st:=fe.kN) dg ?g105 ?g106 ?g107 ?g108 ?g109;(case g105 | g106 | g107 | g108 | g109=>k_is);have' uc:=eo (m:= "enlisted") (ps:= ["self","name"]) (st:=fe.kO) dg ?g110 ?g111 ?g112 ?g113 ?g114;(case g110 | g111 | g112 | g113 | g114=>k_is);have' BY:=eo (m:= "team") (ps:= ["self","crew"]) (st:=fe.lO) dg ?g115 ?g116 ?g117 ?g118 ?g119;(case g115 | g116 | g117 | g118 | g119=>k_is);have' BX:=eo (m:= "tell") (ps:= ["self","name","deeds"]) (st:=fe.lN) dg ?g120 ?g121 ?g122 ?g123 ?g124;(case g120 | g121 | g122 | g123 | g124=>k_is);have' wo:=eo (m:= "join_as") (ps:= ["self","name","one","other"]) (st:=fe.iN) dg ?g125 ?g126 ?g127 ?g128 ?g129;(case g125 | g126 | g127 | g128 | g129=>k_is);have' wu:=eo (m:= "back_as") (ps:= ["self","name","one"]) (st:=fe.iQ) dg ?g130 ?g131 ?g132 ?g133 ?g134;(case g130 | g131 | g132 | g133 | g134=>k_is);have' t7:=eo (m:= "times_as") (ps:= ["self","name","one","n"]) (st:=fe.g_) dg ?g135 ?g136 ?g137 ?g138 ?g139;(case g135 | g136 | g137 | g138 | g139=>k_is);have' B6:=eo (m:= "drop") (ps:= ["self","name"]) (st:=fe.lQ) dg ?g140 ?g141 ?g142 ?g143 ?g144;(case g140 | g141 | g142 | g143 | g144=>k_is);have' zV:=eo (m:= "found") (ps:= ["self","crew"]) (st:=fe.j_) dg ?g145 ?g146 ?g147 ?g148 ?g149;(case g145 | g146 | g147 | g148 | g149=>k_is);have' wt:=eo (m:= "disband") (ps:= ["self","crew"]) (st:=fe.iP) dg ?g150 ?g151 ?g152 ?g153 ?g154;(case g150 | g151 | g152 | g153 | g154=>k_is);have' xa:=eo (m:= "enlist") (ps:= ["self","crew","name"]) (st:=fe.jt) dg ?g155 ?g156 ?g157 ?g158 ?g159;(case g155 | g156 | g157 | g158 | g159=>k_is);have' wq:=eo (m:= "dismiss") (ps:= ["self","crew","name"]) (st:=fe.iO) dg ?g160 ?g161 ?g162 ?g163 ?g164;(case g160 | g161 | g162 | g163 | g164=>k_is);have' BW:=eo (m:= "undo") (ps:= ["self"]) (st:=fe.lL) dg ?g165 ?g166 ?g167 ?g168 ?g169;(case g165 | g166 | g167 | g168 | g169=>k_is);have' BZ:=eo (m:= "redo") (ps:= ["self"]) (st:=fe.lP) dg ?g170 ?g171 ?g172 ?g173 ?g174;(case g170 | g171 | g172 | g173 | g174=>k_is);have' B0:=eo (m:= "hold") (ps:= ["self"]) (st:=fe.rV) dg ?g175 ?g176 ?g177 ?g178 ?g179;(case g175 | g176 | g177 | g178 | g179=>k_is);have' rM:=eo (m:= "return_to") (ps:= ["self","k"]) (st:=fe.gB) dg ?g180 ?g181 ?g182 ?g183 ?g184;(case g180 | g181 | g182 | g183 | g184=>k_is);have' zU:=eo (m:= "names") (ps:= ["self"]) (st:=fe.oW) dg ?g185 ?g186 ?g187 ?g188 ?g189;(case g185 | g186 | g187 | g188 | g189=>k_is);have' zW:=eo (m:= "crews") (ps:= ["self"]) (st:=fe.oX) dg ?g190 ?g191 ?g192 ?g193 ?g194;(case g190 | g191 | g192 | g193 | g194=>k_is);have' ua:=eo (m:= "round_of") (ps:= ["self","name"]) (st:=fe.hG) dg ?g195 ?g196 ?g197 ?g198 ?g199;(case g195 | g196 | g197 | g198 | g199=>k_is);have' wj:=eo (m:= "members") (ps:= ["self","crew"]) (st:=fe.iM) dg ?g200 ?g201 ?g202 ?g203 ?g204;(case g200 | g201 | g202 | g203 | g204=>k_is);have' OK:=bS (x:= "shown") (ps:= ["one"]) (st:=fe.Ed) X G ?g205 ?g206 ?g207 ?g208;(case g205 | g206 | g207 | g208=>k_is);have' BV:=bS (x:= "book_text") (ps:= ["book"]) (st:=fe.rT) X G ?g209 ?g210 ?g211 ?g212;(case g209 | g210 | g211 | g212=>k_is);have' Ho:=bS (x:= "_law_begin") (ps:= ["_law_script"]) (st:=fe.qE) X G ?g213 ?g214 ?g215 ?g216;(case g213 | g214 | g215 | g216=>k_is);have' Lz:=bS (x:= "_law_take") (ps:= ["_law_draw","_law_many"]) (st:=fe.Ar) X G ?g217 ?g218 ?g219 ?g220;(case g217 | g218 | g219 | g220=>k_is);have' Yd:=bS (x:= "_law_p") (ps:= ["_law_draw"]) (st:=fe.Pk) X G ?g221 ?g222 ?g223 ?g224;(case g221 | g222 | g223 | g224=>k_is);have' Hn:=bS (x:= "_law_names") (ps:= ["_law_draw","_law_many"]) (st:=fe.xw) X G ?g225 ?g226 ?g227 ?g228;(case g225 | g226 | g227 | g228=>k_is);have' Ly:=bS (x:= "_law_tidy") (ps:= ["_law_p_here","_law_pairs"]) (st:=fe.Aq) X G ?g229 ?g230 ?g231 ?g232;(case g229 | g230 | g231 | g232=>k_is);have' OM:=bS (x:= "_law_sum") (ps:= ["_law_p_here","_law_one","_law_other","_law_by","_law_many"]) (st:=fe.Ee) X G ?g233 ?g234 ?g235 ?g236;(case g233 | g234 | g235 | g236=>k_is);have' LB:=bS (x:= "_law_join") (ps:= ["_law_p_here","_law_one","_law_other"]) (st:=fe.At) X G ?g237 ?g238 ?g239 ?g240;(case g237 | g238 | g239 | g240=>k_is);have' LD:=bS (x:= "_law_back") (ps:= ["_law_p_here","_law_one"]) (st:=fe.Av) X G ?g241 ?g242 ?g243 ?g244;(case g241 | g242 | g243 | g244=>k_is);have' Hl:=bS (x:= "_law_times") (ps:= ["_law_p_here","_law_one","_law_n"]) (st:=fe.xu) X G ?g245 ?g246 ?g247 ?g248;(case g245 | g246 | g247 | g248=>k_is);have' BS:=bS (x:= "_law_is_name") (ps:= ["_law_name"]) (st:=fe.rR) X G ?g249 ?g250 ?g251 ?g252;(case g249 | g250 | g251 | g252=>k_is);have' OP:=bS (x:= "_law_far") (ps:= ["_law_one","_law_most","_law_reach"]) (st:=fe.Eg) X G ?g253 ?g254 ?g255 ?g256;(case g253 | g254 | g255 | g256=>k_is);have' Lx:=bS (x:= "_law_walk") (ps:= ["_law_p_here","_law_deeds"]) (st:=fe.Ao) X G ?g257 ?g258 ?g259 ?g260;(case g257 | g258 | g259 | g260=>k_is);have' Hk:=bS (x:= "_law_value") (ps:= ["_law_p_here","_law_rounds","_law_deed"]) (st:=fe.xt) X G ?g261 ?g262 ?g263 ?g264;(case g261 | g262 | g263 | g264=>k_is);have' wZ:=bS (x:= "_law_due_round") (ps:= ["_law_p_here","_law_stand","_law_deed"]) (st:=fe.nA) X G ?g265 ?g266 ?g267 ?g268;(case g265 | g266 | g267 | g268=>k_is);have' wc:=bS (x:= "_law_due_member") (ps:= ["_law_stand","_law_deed"]) (st:=fe.lJ) X G ?g269 ?g270 ?g271 ?g272;(case g269 | g270 | g271 | g272=>k_is);have' zR:=bS (x:= "_law_due_crew") (ps:= ["_law_stand","_law_deed"]) (st:=fe.oU) X G ?g273 ?g274 ?g275 ?g276;(case g273 | g274 | g275 | g276=>k_is);have' OQ:=bS (x:= "_law_due") (ps:= ["_law_p_here","_law_stand","_law_deed"]) (st:=fe.Eh) X G ?g277 ?g278 ?g279 ?g280;(case g277 | g278 | g279 | g280=>k_is);have' LA:=bS (x:= "_law_step") (ps:= ["_law_p_here","_law_state","_law_deed"]) (st:=fe.As) X G ?g281 ?g282 ?g283 ?g284;(case g281 | g282 | g283 | g284=>k_is);have' ON:=bS (x:= "_law_run") (ps:= ["_law_book","_law_deed"]) (st:=fe.yL) X G ?g285 ?g286 ?g287 ?g288;(case g285 | g286 | g287 | g288=>k_is);have' LC:=bS (x:= "_law_call") (ps:= ["_law_book","_law_deed"]) (st:=fe.Au) X G ?g289 ?g290 ?g291 ?g292;(case g289 | g290 | g291 | g292=>k_is);have' OO:=bS (x:= "_law_int") (ps:= ["_law_thing"]) (st:=fe.Ef) X G ?g293 ?g294 ?g295 ?g296;(case g293 | g294 | g295 | g296=>k_is);have' v_:=bS (x:= "_law_is_pattern") (ps:= ["_law_p_here","_law_thing"]) (st:=fe.lI) X G ?g297 ?g298 ?g299 ?g300;(case g297 | g298 | g299 | g300=>k_is);have' zQ:=bS (x:= "_law_is_round") (ps:= ["_law_p_here","_law_thing"]) (st:=fe.oT) X G ?g301 ?g302 ?g303 ?g304;(case g301 | g302 | g303 | g304=>k_is);have' DC:=bS (x:= "_law_stands") (ps:= ["_law_p_here","_law_book","_law_stand"]) (st:=fe.uT) X G ?g305 ?g306 ?g307 ?g308;(case g305 | g306 | g307 | g308=>k_is);have' we:=bS (x:= "_law_draw_deeds") (ps:= ["_law_draw"]) (st:=fe.lK) X G ?g309 ?g310 ?g311 ?g312;(case g309 | g310 | g311 | g312=>k_is);have' DB:=bS (x:= "_law_target") (ps:= ["_law_draw","_law_names_here"]) (st:=fe.uS) X G ?g313 ?g314 ?g315 ?g316;(case g313 | g314 | g315 | g316=>k_is);have' v8:=bS (x:= "_law_round_deed") (ps:= ["_law_draw","_law_names_here"]) (st:=fe.lH) X G ?g317 ?g318 ?g319 ?g320;(case g317 | g318 | g319 | g320=>k_is);have' w5:=bS (x:= "_law_crew_deed") (ps:= ["_law_draw","_law_names_here"]) (st:=fe.nB) X G ?g321 ?g322 ?g323 ?g324;(case g321 | g322 | g323 | g324=>k_is);have' zS:=bS (x:= "_law_any_deed") (ps:= ["_law_draw","_law_names_here"]) (st:=fe.oV) X G ?g325 ?g326 ?g327 ?g328;(case g325 | g326 | g327 | g328=>k_is);have' Hm:=bS (x:= "_law_shown") (ps:= ["_law_one"]) (st:=fe.xv) X G ?g329 ?g330 ?g331 ?g332;(case g329 | g330 | g331 | g332=>k_is);have' w_:=bS (x:= "_law_book_text") (ps:= ["_law_p_here","_law_stand"]) (st:=fe.nC) X G ?g333 ?g334 ?g335 ?g336;(case g333 | g334 | g335 | g336=>k_is);have' Yc:=bS (x:= "law") (ps:= ["_law_script"]) (st:=fe.IH) X G ?g337 ?g338 ?g339 ?g340;(case g337 | g338 | g339 | g340=>k_is);have' BP:=vg dg "held" ?n_Book_held;(case n_Book_held=>k_is);have' Dx:=vg dg "now" ?n_Book_now;(case n_Book_now=>k_is);have' Lo:=vg dg "p" ?n_Book_p;(case n_Book_p=>k_is);have' BO:=vg dg "past" ?n_Book_past;(case n_Book_past=>k_is);have' wX:=vg dg "undone" ?n_Book_undone;(case n_Book_undone=>k_is);have' wW:=vg DE "rounds" ?n_Page_rounds;(case n_Page_rounds=>k_is);have' zN:=vg DE "teams" ?n_Page_teams;(case n_Page_teams=>k_is);have' Hi:=jA (x:= "BadName") X G ?g349;(case g349=>k_is);have' OH:=jA (x:= "InUse") X G ?g350;(case g350=>k_is);have' Lw:=jA (x:= "NoCrew") X G ?g351;(case g351=>k_is);have' Lv:=jA (x:= "NoDeed") X G ?g352;(case g352=>k_is);have' Lu:=jA (x:= "NoMore") X G ?g353;(case g353=>k_is);have' Hh:=jA (x:= "NoRound") X G ?g354;(case g354=>k_is);have' Hg:=jA (x:= "NoState") X G ?g355;(case g355=>k_is);have' OG:=jA (x:= "Taken") X G ?g356;(case g356=>k_is);have' Ls:=jA (x:= "TooFar") X G ?g357;(case g357=>k_is);have' Hf:=jA (x:= "TooMany") X G ?g358;(case g358=>k_is);have' Ht:=jq (x:= "BadName") X ?g359 ?g360 ?g361 ?g362 ?g363 ?g364 ?g365 ?g366;(case g359=>k_is);(case g360=>k_exc);(case g361 | g362 | g363 | g364 | g365 | g366=>k_is);have' OT:=jq (x:= "InUse") X ?g367 ?g368 ?g369 ?g370 ?g371 ?g372 ?g373 ?g374;(case g367=>k_is);(case g368=>k_exc);(case g369 | g370 | g371 | g372 | g373 | g374=>k_is);have' LJ:=jq (x:= "NoCrew") X ?g375 ?g376 ?g377 ?g378 ?g379 ?g380 ?g381 ?g382;(case g375=>k_is);(case g376=>k_exc);(case g377 | g378 | g379 | g380 | g381 | g382=>k_is);have' LI:=jq (x:= "NoDeed") X ?g383 ?g384 ?g385 ?g386 ?g387 ?g388 ?g389 ?g390;(case g383=>k_is);(case g384=>k_exc);(case g385 | g386 | g387 | g388 | g389 | g390=>k_is);have' LH:=jq (x:= "NoMore") X ?g391 ?g392 ?g393 ?g394 ?g395 ?g396 ?g397 ?g398;(case g391=>k_is);(case g392=>k_exc);(case g393 | g394 | g395 | g396 | g397 | g398=>k_is);have' Hs:=jq (x:= "NoRound") X ?g399 ?g400 ?g401 ?g402 ?g403 ?g404 ?g405 ?g406;(case g399=>k_is);(case g400=>k_exc);(case g401 | g402 | g403 | g404 | g405 | g406=>k_is);have' Hr:=jq (x:= "NoState") X ?g407 ?g408 ?g409 ?g410 ?g411 ?g412 ?g413 ?g414;(case g407=>k_is);(case g408=>k_exc);(case g409 | g410 | g411 | g412 | g413 | g414=>k_is);have' OS:=jq (x:= "Taken") X ?g415 ?g416 ?g417 ?g418 ?g419 ?g420 ?g421 ?g422;(case g415=>k_is);(case g416=>k_exc);(case g417 | g418 | g419 | g420 | g421 | g422=>k_is);have' LG:=jq (x:= "TooFar") X ?g423 ?g424 ?g425 ?g426 ?g427 ?g428 ?g429 ?g430;(case g423=>k_is);(case g424=>k_exc);(case g425 | g426 | g427 | g428 | g429 | g430=>k_is);have' Hq:=jq (x:= "TooMany") X ?g431 ?g432 ?g433 ?g434 ?g435 ?g436 ?g437 ?g438;(case g431=>k_is);(case g432=>k_exc);(case g433 | g434 | g435 | g436 | g437 | g438=>k_is)
 refine' ⟨⟨_,_,_,_,_,_,_,_,_,_,_,_,_,_,_,_,_,_,_,_,_,_,_,_,_,_,_,_,_,_,_,_,_,_,_,_,_,_,_,_,_,_,_,_,_,_,_,_,_,_,_,_,_,_,_,_,_,_,_,_,_,_,_,_,_,_,_,_,_,_,_,_,_,_,_,_,_,_,_,_,_,_,_,_,_,_,_,_,_,_,_,_,_,_,_,_,_,_,_,_,_,_,_,_,_,_,_,_,_,_,_,_,_,_,_,_,_,_,_,_,_,_,_,_,_,_,_,_,_,_,_,_,_,_,_,_,_,_,_,_,_,_,_,_,_,_,_,_,_,_,_,_,_,_,_,_⟩,bV X G ?g1,bV X G ?g2,bV X G ?g3,bV X G ?g4,bV X G ?g5,bV X G ?g6,bV X G ?g7,bV X G ?g8,bV X G ?g9,bV X G ?g10,bV X G ?g11,bV X G ?g12,bV X G ?g13,TQ,OR,OL,OJ,TR,LF,DD,Dz,wY,BU,zT,zP,Hj,DE,dg,t_,wg,DF,ub,uc,BY,BX,wo,wu,t7,B6,zV,wt,xa,wq,BW,BZ,B0,rM,zU,zW,ua,wj,OK,BV,Ho,Lz,Yd,Hn,Ly,OM,LB,LD,Hl,BS,OP,Lx,Hk,wZ,wc,zR,OQ,LA,ON,LC,OO,v_,zQ,DC,we,DB,v8,w5,zS,Hm,w_,Yc,BP,Dx,Lo,BO,wX,wW,zN,vx X G ?g341,vx X G ?g342,vx X G ?g343,vx X G ?g344,vx X G ?g345,Rk X G ?g346,Q7 X G ?g347 ?g348,Hi,OH,Lw,Lv,Lu,Hh,Hg,OG,Ls,Hf,Ht,OT,LJ,LI,LH,Hs,Hr,OS,LG,Hq,?g439,?g440,?g441,?g442,?g443,?g444,?g445,?g446,?g447,?g448,?g449,?g450,?g451,?g452,?g453,?g454,?g455,?g456,?g457,?g458,?g459,?g460,?g461,?g462,?g463,?g464,?g465,?g466,?g467,?g468,?g469,?g470,?g471,?g472,?g473,?g474,?g475,?g476,?g477,?g478,?g479,?g480,?g481,?g482,?g483⟩
 (case g1 | g2 | g3 | g4 | g5 | g6 | g7 | g8 | g9 | g10 | g11 | g12 | g13 | g341 | g342 | g343 | g344 | g345 | g346 | g347 | g348=>k_is);(case g439 | g440 | g441 | g442 | g443 | g444 | g445 | g446 | g447 | g448 | g449 | g450 | g451 | g452 | g453 | g454 | g455 | g456 | g457 | g458 | g459 | g460 | g461 | g462 | g463 | g464 | g465 | g466 | g467 | g468 | g469 | g470 | g471 | g472 | g473 | g474 | g475 | g476 | g477 | g478 | g479 | g480 | g481 | g482 | g483=>kit_is)
