import PyProof.Rows.All
import Wide.All
import OpenK.AllK
import Wide.FinOn
import Lean
import PyProof.EqAt
import PyProof.EqKinds
import PyProof.TupleCall
import PyProof.NeKinds
import PyProof.SumAny
import PyProof.ConsumeS
import PyProof.WalkInts
import PyProof.Draws
import PyProof.EnumMake
import PyProof.Rows.Range3
import PyProof.MeetsStr
import KE.KDictLaws
import PyProof.Rows.CallKwBuiltin
import PyProof.DictItems
import KE.KPairComp
import PyProof.AttrMissHeap
import KE.KDictOf
import KE.KItemsList
import PySem.Challenge.RW_duskround_k21_stairs_made_of_patterns
set_option linter.all false
set_option genSizeOf false
set_option genInjectivity false
abbrev fk:=@List
abbrev fm:=@PySem.Value
abbrev fo:=@PySem.Shared
abbrev fG:=@Option
abbrev gY:=@PySem.Addr
abbrev iI:=@PyProof.Rows.Keyed
abbrev i9:=@Array
abbrev Ug:=@PySem.W.Frag
abbrev Uh:=@PyProof.Rows.SortSt
def aa:=@List.length_map
def ae:=@List.getElem?_eq_getElem
def af:=@List.mem_map
def ag:=@PySem.wpAny_bind
def ah:=@List.mem_singleton
def ai:=@if_neg
def aj:=@List.getElem?_eq_some_iff
def am:=@if_pos
def ao:=@Decidable.byContradiction
def ap:=@Nat.le_refl
def aq:=@PySem.Heap.get?_push_of_some
def ar:=@List.mem_of_getElem?
def av:=@List.mem_cons_of_mem
def ax:=@List.mem_cons
def ay:=@List.mem_filter
def az:=@List.getElem?_map
def aA:=@List.mem_append
def aB:=@Bool.false_eq_true
def aC:=@PySem.wpAny_pure
def aE:=@List.map_map
def aG:=@PyProof.Rows.wpS_bind
def aH:=@PySem.Heap.lt_size
def aI:=@List.map_cons
def aL:=@List.mem_cons_self
def aN:=@PyProof.Rows.wpS_pure
def aO:=@List.map_append
def aP:=@List.length_cons
def aQ:=@PySem.Heap.get?_push_size
def aR:=@List.length_append
def aS:=@Int.mul_le_mul_of_nonneg_right
def aT:=@Nat.le_trans
def aU:=@List.size_toArray
def aW:=@Ne.symm
def aX:=@Int.add_emod
def aY:=@Int.le_refl
def aZ:=@List.mem_append_right
def a4:=@Nat.ne_of_lt
def a5:=@List.getElem?_append_right
def a6:=@Int.add_zero
def a7:=@Int.mul_le_mul_of_nonneg_left
def a8:=@eq_true
def a9:=@List.getD_eq_getElem?_getD
def a_:=@Bool.false_ne_true
def be:=@Int.mul_comm
def bg:=@List.length_take
def bi:=@Int.zero_mul
def bj:=@if_false
def bm:=@List.take_append_drop
def bo:=@List.getElem?_append_left
def bv:=@PySem.PassesOwn.never
def bA:=@Int.zero_add
def bC:=@List.take_add_one
def bG:=@Option.some.inj
def bH:=@decide_eq_true
def bI:=@List.nodup_cons
def bJ:=@List.map_congr_left
def bL:=@List.pairwise_iff_getElem
def bM:=@PyProof.Rows.callWith_type1
def bO:=@List.length_range
def bP:=@Int.mul_emod
def bQ:=@List.take_length
def bT:=@Nat.lt_irrefl
def bU:=@Nat.lt_or_ge
def bV:=@Int.mul_nonneg
def bX:=@PySem.W.mg_none_of
def bY:=@Nat.lt_of_lt_of_le
def bZ:=@if_true
def b_:=@PySem.wpAny_mono
def cb:=@Int.mul_zero
def cc:=@Int.emod_emod
def cf:=@List.mem_range
def cq:=@List.getElem_mem
def cu:=@List.append_assoc
def cx:=@Int.emod_eq_of_lt
def cz:=@List.pairwise_cons
def cA:=@List.mem_iff_getElem?
def cF:=@Nat.lt_succ_self
def cG:=@List.pairwise_map
def cJ:=@Int.emod_lt_of_pos
def cK:=@Int.emod_eq_emod_iff_emod_sub_eq_zero
def cL:=@Array.toList_append
def cM:=@decide_eq_false
def cN:=@decide_eq_true_eq
def cP:=@Bool.not_true
def cR:=@List.pairwise_append
def cS:=@Int.lt_or_le
def cT:=@PySem.wpAny_truthy_bool
def cX:=@PyProof.Rows.wpS_forRange
def c5:=@PySem.W.kia_one
def c6:=@Int.emod_nonneg
def c8:=@List.all_eq_true
def c_:=@Array.length_toList
def db:=@List.length_singleton
def dg:=@PySem.sizeLine_eq
def di:=@List.length_eq_zero_iff
def dm:=@PyProof.Rows.slot_tuple_getitem
def du:=@Nat.zero_le
def dv:=@Nat.mul_le_mul_right
def dw:=@List.find?_cons
def dE:=@List.drop_eq_getElem_cons
def dF:=@PySem.Heap.size_push
def dI:=@Nat.lt_succ_of_lt
def dJ:=@Int.emod_add_emod
def dU:=@List.map_nil
def d5:=@List.getElem?_drop
def d6:=@PySem.wpAny_holding
def d7:=@Int.mul_one
def eg:=@PySem.Calls.spliced_cons
def eh:=@List.sum_cons
def eB:=@Int.mul_assoc
def eG:=@PySem.mem_of_lookup
def eI:=@List.length_pos_iff
def eQ:=@Int.one_mul
def eR:=@Int.add_mul
def eT:=@PySem.wpAny_newObj_type
def eX:=@List.perm_append_comm
def eY:=@List.length_filter_le
def eZ:=@PySem.Heap.get?_update_other
inductive cO {T0 T1:Type}(P:T0 ->T1 ->Prop):Prop | mk (x0:T0) (x1:T1) (h:P x0 x1):cO P
inductive im {T0 T1 T2:Type}(P:T0 ->T1 ->T2 ->Prop):Prop | mk (x0:T0) (x1:T1) (x2:T2) (h:P x0 x1 x2):im P
inductive kr {T0 T1 T2 T3:Type}(P:T0 ->T1 ->T2 ->T3 ->Prop):Prop | mk (x0:T0) (x1:T1) (x2:T2) (x3:T3) (h:P x0 x1 x2 x3):kr P
inductive Lr {T0 T1 T2 T3 T4:Type}(P:T0 ->T1 ->T2 ->T3 ->T4 ->Prop):Prop | mk (x0:T0) (x1:T1) (x2:T2) (x3:T3) (x4:T4) (h:P x0 x1 x2 x3 x4):Lr P
inductive XE6 {T0 T1 T2 T3 T4 T5:Type}(P:T0 ->T1 ->T2 ->T3 ->T4 ->T5 ->Prop):Prop | mk (x0:T0) (x1:T1) (x2:T2) (x3:T3) (x4:T4) (x5:T5) (h:P x0 x1 x2 x3 x4 x5):XE6 P
inductive Lq {T0 T1 T2 T3 T4 T5 T6:Type}(P:T0 ->T1 ->T2 ->T3 ->T4 ->T5 ->T6 ->Prop):Prop | mk (x0:T0) (x1:T1) (x2:T2) (x3:T3) (x4:T4) (x5:T5) (x6:T6) (h:P x0 x1 x2 x3 x4 x5 x6):Lq P
inductive Ej {T0 T1 T2 T3 T4 T5 T6 T7:Type}(P:T0 ->T1 ->T2 ->T3 ->T4 ->T5 ->T6 ->T7 ->Prop):Prop | mk (x0:T0) (x1:T1) (x2:T2) (x3:T3) (x4:T4) (x5:T5) (x6:T6) (x7:T7) (h:P x0 x1 x2 x3 x4 x5 x6 x7):Ej P
inductive d_ (P0 P1 P2:Prop):Prop | mk (U3:P0) (Ja:P1) (DM:P2):d_ P0 P1 P2
inductive fZ (P0 P1 P2 P3:Prop):Prop | mk (U3:P0) (Ja:P1) (DM:P2) (Xd:P3):fZ P0 P1 P2 P3
inductive j8 (P0 P1 P2 P3 P4:Prop):Prop | mk (U3:P0) (Ja:P1) (DM:P2) (Xd:P3) (_t:P4):j8 P0 P1 P2 P3 P4
inductive l_ (P0 P1 P2 P3 P4 P5:Prop):Prop | mk (U3:P0) (Ja:P1) (DM:P2) (Xd:P3) (_t:P4) (hP5:P5):l_ P0 P1 P2 P3 P4 P5
inductive Ek (P0 P1 P2 P3 P4 P5 P6:Prop):Prop | mk (U3:P0) (Ja:P1) (DM:P2) (Xd:P3) (_t:P4) (hP5:P5) (hP6:P6):Ek P0 P1 P2 P3 P4 P5 P6
inductive nH (P0 P1 P2 P3 P4 P5 P6 P7:Prop):Prop | mk (U3:P0) (Ja:P1) (DM:P2) (Xd:P3) (_t:P4) (hP5:P5) (hP6:P6) (hP7:P7):nH P0 P1 P2 P3 P4 P5 P6 P7
set_option Elab.async false
set_option maxRecDepth 100000
set_option genSizeOf false
set_option genInjectivity false
local macro_rules | `(∅) => `(by lia)
local macro_rules | `(⇑$x) => `(by simpa using $x)
set_option compiler.extract_closed false
noncomputable section
local macro_rules|`(⋯)=>`(by decide)
local macro_rules|`(tactic|symm)=>`(tactic|constructor)
local macro_rules|`(tactic|exact $e)=>`(tactic|refine $e)
local macro_rules|`(tactic|show $e)=>`(tactic|refine $e)
local macro_rules|`(def $i $s:optDeclSig:=by $v)=>do let d:=Lean.mkNode ``Lean.Parser.Command.declSig #[s.raw[0],s.raw[1][0]];`(theorem $i $(⟨d⟩):declSig:=by $v)|`(def $i $s:optDeclSig $v:declVal)=>`(noncomputable def $i $s:optDeclSig $v:declVal)|`(abbrev $i $s:optDeclSig $v:declVal)=>`(noncomputable abbrev $i $s:optDeclSig $v:declVal)
local macro_rules|`(tactic|let $p:term$[:$t]?:=$e)=>do let r:=p.raw.rewriteBottomUp (λs=>let k:=s.getKind;if s.isIdent then Lean.mkNode `Lean.Parser.Tactic.rcasesPat.one #[s] else if k==`Lean.Parser.Term.hole then Lean.mkNode `Lean.Parser.Tactic.rcasesPat.ignore s.getArgs else if k==`Lean.Parser.Term.anonymousCtor then Lean.mkNode `Lean.Parser.Tactic.rcasesPat.tuple (s.getArgs.modify 1 λa=>.node .none `null (a.getArgs.map λq=>if q.isAtom then q else Lean.mkNode `Lean.Parser.Tactic.rcasesPatLo #[Lean.mkNode `Lean.Parser.Tactic.rcasesPatMed #[Lean.mkNullNode #[q]],Lean.mkNullNode])) else s);`(tactic|obtain $(⟨Lean.mkNode `Lean.Parser.Tactic.rcasesPatMed #[Lean.mkNullNode #[r]]⟩):rcasesPatMed$[:$t]?:=$e)
local macro_rules|`(tactic|simp![$x,*]$[$l]?)=>`(tactic|simp only[$x,*]$[$l]?)
local macro_rules|`(#[$x,$y])=>`(⟨$x,$y⟩)|`(#[$x,$y,$z,*])=>`(⟨$x,$y,$z,*⟩)
namespace TS
open PySem PyProof.Rows
def LE (less:iI ->iI ->Bool)(x y:iI):Prop:=less y x=false
structure Ord (less:Keyed ->Keyed ->Bool):Prop where
 Vn: ∀x y,less x y=true ->less y x=false
 trans: ∀x y z,LE less x y ->LE less y z ->LE less x z
def Ord.refl (O:Ord less)(x:iI):LE less x x:=by
 unfold LE;cases h:less x x with
 | false=>rfl
 | true=>show(O.Vn x x h).symm.trans h▸rfl
theorem Ord.le (O:Ord less)(h:less x y=true):LE less x y:=O.Vn x y h
def Ord.T_ (O:Ord less)(h:LE less x y)(h':less y z=true):less x z=true:=by
 cases e:less x z with
 | true=>rfl
 | false=>have:=O.trans z x y e h;unfold LE at this;rw[h'] at this;cases this
def dc (xs:i9 iI)(i:Nat):iI:=(xs[i]?).getD (.none, .none)
def H_ (h:i<xs.size):xs[i]? =some (dc xs i):=by unfold dc;rw[getElem?_pos xs i h];rfl
def km (h:xs[i]? =ys[j]?):dc xs i=dc ys j:=by unfold dc;rw[h]
def wL (h:i<xs.size):dc xs i∈xs.toList:=by unfold dc;rw[getElem?_pos xs i h];simp
def Sg (less:iI ->iI ->Bool)(xs:i9 iI)(lo hi:Nat):Prop:= ∀i j,lo<=i ->i<=j ->j<hi ->LE less (dc xs i) (dc xs j)
def Ng (less:iI ->iI ->Bool)(xs:i9 iI)(lo hi:Nat):Prop:= ∀i j,lo<=i ->i<=j ->j<hi ->LE less (dc xs j) (dc xs i)
structure SB (kd:SortKind)(a₀:Array Keyed)(st:SortSt):Prop where
 perm:(arrOf st).Perm a₀
 kd:kindOf st=kd
 fl:failedOf st=none
theorem SB.size {kd:SortKind}{st:Uh}(h:SB kd a₀ st):(arrOf st).size=a₀.size:=h.perm.size_eq
theorem SB.mem {kd:SortKind}{st:Uh}(h:SB kd a₀ st)(hi:i<a₀.size):dc (arrOf st) i∈a₀.toList:=(Array.perm_iff_toList_perm.mp h.perm).mem_iff.mp (wL (by rw[h.size];show hi))
theorem SB.arr {kd:SortKind}{st:Uh}(h:SB kd a₀ st)(hp:xs.Perm (arrOf st)):SB kd a₀ (setArr st xs):=#[hp.trans h.perm,h.kd,h.fl]
def jL (prog:Program)(w:World)(A:Around)(E:fm ->fo ->Prop)(s:fo)(kd:SortKind)(a₀:i9 iI)(less:iI ->iI ->Bool):Prop:=∀ (x y:iI) (st:Uh) (Q:fG Bool ->Uh ->Prop),x∈a₀.toList ->y∈a₀.toList ->kindOf st=kd ->Q (some (less x y)) st ->wpS (model prog w) A E s (lt' x y) Q st
def wp_elem {st:Uh}(hi:i<xs.size)(h:Q (dc xs i) st):wpS (model prog w) A E s (elem' xs i) Q st:=by rw[elem'_eq,H_ hi];show aN h
def wp_lt (L:jL prog w A E s kd a₀ less){st:Uh}(B:SB kd a₀ st)(hi:i<a₀.size)(hj:j<a₀.size)(h:Q (some (less (dc (arrOf st) i) (dc (arrOf st) j))) st):wpS (model prog w) A E s (ltAt' i j) Q st:=by rw[ltAt'_eq];exact aG (wpS_get ?_);show aG (wp_elem (by rw[B.size];show hi) (aG (wp_elem (by rw[B.size];show hj) (L _ _ _ _ (B.mem hi) (B.mem hj) B.kd h))))
def wp_rev {st:Uh}(h:Q () (setArr st (mirror (arrOf st) i j ((j - i) / 2)))):wpS (model prog w) A E s (reverseSlice' i j) Q st:=by rw[reverseSlice'_eq];show wpS_modify h
def fJ (hj:j<=xs.size)(k:Nat):dc (mirror xs i j ((j - i) / 2)) k=if i<=k /\ k<j then dc xs (i+j - 1 - k) else dc xs k:=by have e:=getElem?_mirror_all (i:=i) hj k;by_cases c:i<=k /\ k<j;rw[am c] at e ⊢;show km e;rw[ai c] at e ⊢;show km e
def nB (hs:Ix<xs.size)(hd:d<=Ix)(k:Nat):dc (bubble xs Ix d) k=if k=Ix - d then dc xs Ix else if Ix - d<k /\ k<=Ix then dc xs (k - 1) else dc xs k:=by have e:=getElem?_bubble hs d hd k;by_cases c:k=Ix - d;rw[am c] at e ⊢;show km e;rw[ai c] at e ⊢;by_cases c':Ix - d<k /\ k<=Ix;rw[am c'] at e ⊢;show km e;rw[ai c'] at e ⊢;show km e
def Ib (lo a eM:Nat):StateT Uh Sem AscSt:=forIn [a:eM] ((none,a):AscSt) λ_ c=>do
 let x <- ltAt' (lo+c.snd) (lo+c.snd - 1)
 match x with
 | some b=>if b=true then pure (ForInStep.done (none,c.snd)) else pure (ForInStep.yield (none,c.snd+1))
 | _=>pure (ForInStep.done (some none,c.snd))
def xi (lo n eM:Nat):StateT Uh Sem (fG Nat):=do
 reverseSlice' lo (lo+n)
 let c <- Ib lo n eM
 match c.fst with
 | some r=>pure r
 | none=>pure (some c.snd)
def Ct (lo n eM:Nat):StateT Uh Sem DescSt:=forIn [n:eM] ((none,n,0):DescSt) λ_ c=>do
 let x <- ltAt' (lo+c.snd.fst) (lo+c.snd.fst - 1)
 match x with
 | some b=>
  if b=true then
   if c.snd.snd >0 then do
    reverseSlice' (lo+c.snd.fst - (c.snd.snd+1)) (lo+c.snd.fst)
    pure (ForInStep.yield (none,c.snd.fst+1,0))
   else pure (ForInStep.yield (none,c.snd.fst+1,0))
  else do
   let y <- ltAt' (lo+c.snd.fst - 1) (lo+c.snd.fst)
   match y with
   | some d=>
    if d=true then pure (ForInStep.done (none,c.snd.fst,c.snd.snd))
    else pure (ForInStep.yield (none,c.snd.fst+1,c.snd.snd+1))
   | _=>pure (ForInStep.done (some none,c.snd.fst,c.snd.snd))
 | _=>pure (ForInStep.done (some none,c.snd.fst,c.snd.snd))
def xH (lo n eM:Nat):StateT Uh Sem (fG Nat):=do
 liftM (rule "list.sort.descending-run")
 let c <- Ct lo (n+1) eM
 match c.fst with
 | some r=>pure r
 | none=>
  if c.snd.snd >0 then do
   reverseSlice' (lo+c.snd.fst - (c.snd.snd+1)) (lo+c.snd.fst)
   xi lo c.snd.fst eM
  else xi lo c.snd.fst eM
theorem JF (lo eM:Nat):countRun' lo eM=(do
  let c <- Ib lo 1 eM
  match c.fst with
  | some r=>pure r
  | none =>
   if(c.snd==eM)=true then pure (some c.snd)
   else if c.snd >1 then do
    let x <- ltAt' lo (lo+c.snd - 1)
    match x with
    | some b=>if b=true then pure (some c.snd) else do
     reverseSlice' lo (lo+c.snd)
     xH lo c.snd eM
    | _=>pure none
   else xH lo c.snd eM):=by
 rw[countRun'_eq]
 dsimp only
 unfold xH xi Ct Ib
 congr 1
 funext c
 let⟨r,n⟩:=c
 cases r with
 | some r=>rfl
 | none =>
  dsimp only;split;rfl;split;congr 1;funext x;cases x with
  | none=>rfl
  | some b=>
   dsimp only;split;rfl;congr 1;funext _r;congr 1;funext _u;congr 1;congr 1;funext s2;let⟨r2,n2,q2⟩:=s2;cases r2 with
   | some r2=>rfl
   | none=>dsimp only;split;congr 1;funext _v;congr 1;funext _w;congr 1;funext s3;let⟨r3,n3⟩:=s3;cases r3<;>rfl;congr 1;funext _w;congr 1;funext s3;let⟨r3,n3⟩:=s3;cases r3<;>rfl
  congr 1;funext _u;congr 1;congr 1;funext s2;let⟨r2,n2,q2⟩:=s2;cases r2 with
  | some r2=>rfl
  | none=>dsimp only;split;congr 1;funext _v;congr 1;funext _w;congr 1;funext s3;let⟨r3,n3⟩:=s3;cases r3<;>rfl;congr 1;funext _w;congr 1;funext s3;let⟨r3,n3⟩:=s3;cases r3<;>rfl
def qL (lo hi:Nat)(xs ys:i9 iI):Prop:= ∀k,k<lo \/ hi<=k ->dc ys k=dc xs k
theorem qL.refl {lo hi:Nat}:qL lo hi xs xs:=λ_ _=>rfl
theorem qL.trans {lo hi:Nat}(a:qL lo hi xs ys)(b:qL lo hi ys zs):qL lo hi xs zs:=λk h=>(b k h).trans (a k h)
def wp_ascL (O:Ord less)(L:jL prog w A E s kd a₀ less){st:Uh}{lo a eM:Nat}(hn:lo+eM<=a₀.size)(ha:1<=a)(han:a<=eM)(B:SB kd a₀ st)(hs:Sg less (arrOf st) lo (lo+a))(h: ∀n,a<=n ->n<=eM ->Sg less (arrOf st) lo (lo+n) ->(n=eM \/ less (dc (arrOf st) (lo+n)) (dc (arrOf st) (lo+n - 1))=true) ->Q (none,n) st): wpS (model prog w) A E s (Ib lo a eM) Q st:=by
 unfold Ib;exact cX (I:=λx c bD=>bD=st /\ c=(none,x) /\ Sg less (arrOf st) lo (lo+x)) ?step ?fin #[rfl,rfl,hs];case fin=>
  rintro c bD ⟨rfl,rfl,gO⟩
  rw[show max a eM=eM by lia] at gO ⊢
  show h eM han (ap _) gO (.inl rfl)
 case step=>
  rintro x c bD _j hxn ⟨rfl,rfl,gO⟩
  dsimp only
  exact aG (wp_lt L B ∅ ∅ ?_)
  cases e:less (dc (arrOf bD) (lo+x)) (dc (arrOf bD) (lo+x - 1)) with
  | true=>simp![bZ];show aN (h x _j ∅ gO (.inr e))
  | false=>simp![aB,bj];exact aN #[rfl,rfl,λi j hi iJ hj=> ?_];by_cases c:j<lo+x;show gO i j hi iJ c;have:j=lo+x:= ∅;subst this;by_cases c2:i=lo+x;subst c2;show O.refl _;show O.trans _ _ _ (gO i (lo+x - 1) hi ∅ ∅) e
def wp_tailL (O:Ord less)(L:jL prog w A E s kd a₀ less){st:Uh}{lo n eM:Nat}(hn:lo+eM<=a₀.size)(h1:1<=n)(IQ:n<=eM)(B:SB kd a₀ st)(hs:Ng less (arrOf st) lo (lo+n))(h: ∀m bD,SB kd a₀ bD ->1<=m ->m<=eM ->Sg less (arrOf bD) lo (lo+m) ->pendingOf bD=pendingOf st ->qL lo (lo+eM) (arrOf st) (arrOf bD) ->Q (some m) bD): wpS (model prog w) A E s (xi lo n eM) Q st:=by
 unfold xi;have hsz:lo+n<=(arrOf st).size:=by rw[B.size];lia
 exact aG (wp_rev ?_);have B':SB kd a₀ (setArr st (mirror (arrOf st) lo (lo+n) ((lo+n - lo) / 2))):=B.arr (mirror_perm _ _ _ _);exact aG (wp_ascL O L hn h1 IQ B' ?_ λm ZO Nm hsm _=>aN (h m _ B' ∅ Nm hsm rfl ?_));intro i j hi iJ hj;change LE less (dc (mirror (arrOf st) lo (lo+n) ((lo+n - lo) / 2)) i) (dc (mirror (arrOf st) lo (lo+n) ((lo+n - lo) / 2)) j);rw[fJ hsz,fJ hsz,am ∅,am ∅];show hs _ _ ∅ ∅ ∅;intro k hk;change dc (mirror (arrOf st) lo (lo+n) ((lo+n - lo) / 2)) k=_;rw[fJ hsz,ai ∅]
def pJ (O:Ord less){lo i m:Nat}(hj:m<=xs.size)(hli:lo<=i)(hs:Ng less xs lo m)(he: ∀k,i<=k ->k<m ->LE less (dc xs k) (dc xs (m - 1))):Ng less (mirror xs i m ((m - i) / 2)) lo m:=by intro a b ha Hv hb;rw[fJ hj,fJ hj];by_cases c1:i<=a;rw[am ∅,am ∅];exact O.trans _ _ _ (he (i+m - 1 - b) ∅ ∅) (hs _ _ ∅ ∅ ∅);rw[ai (show ¬(i<=a /\ a<m) by lia)];by_cases c2:i<=b;rw[am ∅];show hs _ _ ∅ ∅ ∅;rw[ai ∅];show hs _ _ ∅ ∅ ∅
theorem ng {lo hi i j:Nat}(hj:j<=xs.size)(h1:lo<=i)(h2:j<=hi):qL lo hi xs (mirror xs i j ((j - i) / 2)):=λk hk=>by rw[fJ hj,ai ∅]
def wp_descL (O:Ord less)(L:jL prog w A E s kd a₀ less){st:Uh}{lo n eM:Nat}(hn:lo+eM<=a₀.size)(h1:1<=n)(IQ:n<=eM)(B:SB kd a₀ st)(hs:Ng less (arrOf st) lo (lo+n))(h: ∀m ux bD,SB kd a₀ bD ->n<=m ->m<=eM ->Ng less (arrOf bD) lo (lo+m) ->ux+1<=m ->(∀i,lo+m - (ux+1) <=i ->i<lo+m ->LE less (dc (arrOf bD) i) (dc (arrOf bD) (lo+m - 1))) ->pendingOf bD=pendingOf st ->qL lo (lo+eM) (arrOf st) (arrOf bD) ->Q (none,m,ux) bD): wpS (model prog w) A E s (Ct lo n eM) Q st:=by
 unfold Ct;exact cX (I:=λx c bD=> ∃ux,Ek (c=(none,x,ux)) (SB kd a₀ bD) (Ng less (arrOf bD) lo (lo+x)) (ux+1<=x) (∀i,lo+x - (ux+1) <=i ->i<lo+x ->LE less (dc (arrOf bD) i) (dc (arrOf bD) (lo+x - 1))) (pendingOf bD=pendingOf st) (qL lo (lo+eM) (arrOf st) (arrOf bD))) ?step ?fin #[0,rfl,B,hs, ∅,λi h1 h2=>by rw[show i=lo+n - 1 by lia];show O.refl _,rfl,qL.refl];case fin=>
  rintro c bD ⟨ux,rfl,B',gO,hq,he,hp,ho⟩
  rw[show max n eM=eM by lia] at gO hq he ⊢
  show h eM ux bD B' IQ (ap _) gO hq he hp ho
 case step =>
  rintro x c bD _j hxn ⟨ux,rfl,B',gO,hq,he,hp,ho⟩
  dsimp only
  have hsz:lo+x<=(arrOf bD).size:=by rw[B'.size];lia
  exact aG (wp_lt L B' ∅ ∅ ?_)
  cases e:less (dc (arrOf bD) (lo+x)) (dc (arrOf bD) (lo+x - 1)) with
  | true =>simp![bZ];by_cases Hd:ux >0;rw [am Hd];exact aG (wp_rev (aN #[0,rfl,B'.arr (mirror_perm _ _ _ _),?_, ∅,λi h1 h2=>by rw[show i=lo+(x+1) - 1 by lia];show O.refl _,hp,ho.trans (ng hsz ∅ ∅)]));have hm:=pJ O (i:=lo+x - (ux+1)) hsz ∅ gO he;intro i j hi iJ hj;by_cases c:j<lo+x;show hm i j hi iJ c;have:j=lo+x:= ∅;subst this;by_cases c2:i=lo+x;subst c2;show O.refl _;exact O.trans _ _ _ ?_ (hm i (lo+x - 1) hi ∅ ∅);change LE less (dc (mirror (arrOf bD) (lo+x - (ux+1)) (lo+x) ((lo+x - (lo+x - (ux+1))) / 2)) (lo+x)) (dc (mirror (arrOf bD) (lo+x - (ux+1)) (lo+x) ((lo+x - (lo+x - (ux+1))) / 2)) (lo+x - 1));rw[fJ hsz,fJ hsz,ai ∅,am ∅];show O.trans _ _ _ (O.le e) (gO _ _ ∅ ∅ ∅);rw[ai Hd];exact aN #[0,rfl,B',λi j hi iJ hj=> ?_, ∅,λi h1 h2=>by rw[show i=lo+(x+1) - 1 by lia];show O.refl _,hp,ho];by_cases c:j<lo+x;show gO i j hi iJ c;have:j=lo+x:= ∅;subst this;by_cases c2:i=lo+x;subst c2;show O.refl _;show O.trans _ _ _ (O.le e) (gO i (lo+x - 1) hi ∅ ∅)
  | false =>
   simp![aB,bj];exact aG (wp_lt L B' ∅ ∅ ?_);cases e2:less (dc (arrOf bD) (lo+x - 1)) (dc (arrOf bD) (lo+x)) with
   | true=>simp![bZ];show aN (h x ux bD B' _j ∅ gO hq he hp ho)
   | false=>simp![aB,bj];exact aN #[ux+1,rfl,B',λi j hi iJ hj=> ?_, ∅,λi h1 h2=> ?_,hp,ho];by_cases c:j<lo+x;show gO i j hi iJ c;have:j=lo+x:= ∅;subst this;by_cases c2:i=lo+x;subst c2;show O.refl _;show O.trans _ _ _ e2 (gO i (lo+x - 1) hi ∅ ∅);rw[show lo+(x+1) - 1=lo+x by lia];by_cases c:i=lo+x;subst c;show O.refl _;show O.trans _ _ _ (he i ∅ ∅) e
def wp_partL (O:Ord less)(L:jL prog w A E s kd a₀ less){st:Uh}{lo n eM:Nat}(hn:lo+eM<=a₀.size)(IQ:n+1<=eM)(B:SB kd a₀ st)(hs:Ng less (arrOf st) lo (lo+(n+1)))(h: ∀m bD,SB kd a₀ bD ->1<=m ->m<=eM ->Sg less (arrOf bD) lo (lo+m) ->pendingOf bD=pendingOf st ->qL lo (lo+eM) (arrOf st) (arrOf bD) ->Q (some m) bD): wpS (model prog w) A E s (xH lo n eM) Q st:=by
 unfold xH;exact aG (wpS_lift (wpAny_rule #[rfl,?_]));exact aG (wp_descL O L hn ∅ IQ B hs λm ux bD B' ZO Nm gO hq he hp ho=> ?_);dsimp only;have hsz:lo+m<=(arrOf bD).size:=by rw[B'.size];lia
 by_cases Hd:ux >0;rw[am Hd];exact aG (wp_rev (wp_tailL O L hn ∅ Nm (B'.arr (mirror_perm _ _ _ _)) (pJ O hsz ∅ gO he) λm2 mU b1 b2 b3 b4 b5 b6=>h m2 mU b1 b2 b3 b4 (b5.trans hp) (ho.trans ((ng hsz ∅ ∅).trans b6))));rw[ai Hd];show wp_tailL O L hn ∅ Nm B' gO λm2 mU b1 b2 b3 b4 b5 b6=>h m2 mU b1 b2 b3 b4 (b5.trans hp) (ho.trans b6)
def wp_run (O:Ord less)(L:jL prog w A E s kd a₀ less){st:Uh}{lo eM:Nat}(hn:lo+eM<=a₀.size)(h1:1<=eM)(B:SB kd a₀ st)(h: ∀m bD,SB kd a₀ bD ->1<=m ->m<=eM ->Sg less (arrOf bD) lo (lo+m) ->pendingOf bD=pendingOf st ->qL lo (lo+eM) (arrOf st) (arrOf bD) ->Q (some m) bD): wpS (model prog w) A E s (countRun' lo eM) Q st:=by
 rw[JF];exact aG (wp_ascL O L hn (ap 1) h1 B (λi j hi iJ hj=>by rw[show i=j by lia];show O.refl _) λn UE Qc Uu hor=> ?_);dsimp only;by_cases IQ:n=eM;rw[am ⇑IQ];show aN (h n st B UE Qc Uu rfl qL.refl);rw [ai ⇑IQ];have fU:=hor.resolve_left IQ;have hsz:lo+n<=(arrOf st).size:=by rw[B.size];lia
 by_cases qe:n >1;rw [am qe];exact aG (wp_lt L B ∅ ∅ ?_);cases e:less (dc (arrOf st) lo) (dc (arrOf st) (lo+n - 1)) with
 | true=>simp![bZ];show aN (h n st B UE Qc Uu rfl qL.refl)
 | false=>simp![aB,bj];have hng:Ng less (arrOf st) lo (lo+n):=λi j hi iJ hj=>O.trans _ _ _ (O.trans _ _ _ (Uu j (lo+n - 1) ∅ ∅ ∅) e) (Uu lo i (ap _) hi ∅);exact aG (wp_rev (wp_partL O L hn ∅ (B.arr (mirror_perm _ _ _ _)) ?_ λm2 mU b1 b2 b3 b4 b5 b6=>h m2 mU b1 b2 b3 b4 b5 ((ng hsz ∅ ∅).trans b6)));have hm:=pJ O (i:=lo) hsz (ap _) hng λk _ _=>Uu k (lo+n - 1) ∅ ∅ ∅;intro i j hi iJ hj;by_cases c:j<lo+n;show hm i j hi iJ c;have:j=lo+n:= ∅;subst this;by_cases c2:i=lo+n;subst c2;show O.refl _;exact O.trans _ _ _ ?_ (hm i (lo+n - 1) hi ∅ ∅);change LE less (dc (mirror (arrOf st) lo (lo+n) ((lo+n - lo) / 2)) (lo+n)) (dc (mirror (arrOf st) lo (lo+n) ((lo+n - lo) / 2)) (lo+n - 1));rw[fJ hsz,fJ hsz,ai ∅,am ∅];show O.trans _ _ _ (O.le fU) (hng _ _ ∅ ∅ ∅)
 rw[ai qe];have ZM:n=1:= ∅;subst ZM;exact wp_partL O L hn ∅ B (λi j hi iJ hj=> ?_) h;by_cases c:i=j;subst c;show O.refl _;rw[show i=lo+1 - 1 by lia,show j=lo+1 by lia];show O.le fU
def wp_bin (O:Ord less)(L:jL prog w A E s kd a₀ less){st:Uh}{lo n ok:Nat}(hn:lo+n<=a₀.size)(dM:ok<=n)(B:SB kd a₀ st)(hs:Sg less (arrOf st) lo (lo+ok))(h: ∀bD,SB kd a₀ bD ->Sg less (arrOf bD) lo (lo+n) ->pendingOf bD=pendingOf st ->qL lo (lo+n) (arrOf st) (arrOf bD) ->Q true bD):wpS (model prog w) A E s (binarySort' lo n ok) Q st:=by
 rw[binarySort'_eq];exact aG (wpS_mono (cX (I:=λk c bD=>c=(none,()) /\ SB kd a₀ bD /\ Sg less (arrOf bD) lo (lo+min k n) /\ pendingOf bD=pendingOf st /\ qL lo (lo+n) (arrOf st) (arrOf bD)) (Q:=λc bD=>c=(none,()) /\ SB kd a₀ bD /\ Sg less (arrOf bD) lo (lo+n) /\ pendingOf bD=pendingOf st /\ qL lo (lo+n) (arrOf st) (arrOf bD)) ?step ?fin ?init) ?post);case post=>
  rintro c bD ⟨rfl,B',gO,hp,ho⟩
  show aN (h bD B' gO hp ho)
 case init=>
  exact#[rfl,B,λi j hi iJ hj=> ?_,rfl,qL.refl]
  by_cases c:ok=0
  rw[show i=j by lia];show O.refl _
  show hs i j hi iJ ∅
 case fin=>
  rintro c bD ⟨hc,B',gO,hp,ho⟩
  exact#[hc,B',?_,hp,ho]
  rwa [show min (max (max ok 1) n) n=n by lia] at gO
 case step=>
  rintro k c bD hak hkn ⟨rfl,B',gO,hp,ho⟩
  rw[show min k n=k by lia] at gO
  have hk:lo+k<a₀.size:= ∅
  exact aG (wpS_mono (cX (I:=λx c gP=>gP=bD /\ cO λl r=>l_ (c=(none,l,r)) (l<=r) (r<=k) (r - l<=k - x) (∀i,i<l ->LE less (dc (arrOf bD) (lo+i)) (dc (arrOf bD) (lo+k))) (∀i,r<=i ->i<k ->LE less (dc (arrOf bD) (lo+k)) (dc (arrOf bD) (lo+i)))) (Q:=λc gP=>gP=bD /\ cO λl r=>fZ (c=(none,l,r)) (l<=k) (∀i,i<l ->LE less (dc (arrOf bD) (lo+i)) (dc (arrOf bD) (lo+k))) (∀i,l<=i ->i<k ->LE less (dc (arrOf bD) (lo+k)) (dc (arrOf bD) (lo+i)))) ?istep ?ifin ?iinit) ?ipost)
  case iinit=>show#[rfl,0,k,rfl, ∅, ∅, ∅,λi hi=> ∅,λi h1 h2=> ∅]
  case ifin=>
   rintro c gP ⟨rfl,l,r,rfl,hlr,Zy,hm,sy,Qi⟩
   have:l=r:= ∅
   subst this
   show#[rfl,l,l,rfl,Zy,sy,Qi]
  case istep=>
   rintro x c gP _ hxk ⟨rfl,l,r,rfl,hlr,Zy,hm,sy,Qi⟩
   dsimp only
   by_cases EE:l≥r
   rw[am EE]
   have:l=r:= ∅
   subst this
   show aN #[rfl,l,l,rfl,Zy,sy,Qi]
   rw[ai EE]
   exact aG (wp_lt L B' hk ∅ ?_)
   cases e:less (dc (arrOf gP) (lo+k)) (dc (arrOf gP) (lo+(l+r) / 2)) with
   | true=>simp![bZ];exact aN #[rfl,l,(l+r) / 2,rfl, ∅, ∅, ∅,sy,λi h1 h2=> ?_];show O.trans _ _ _ (O.le e) (gO _ _ ∅ ∅ ∅)
   | false=>simp![aB,bj];exact aN #[rfl,(l+r) / 2+1,r,rfl, ∅, ∅, ∅,λi h1=> ?_,Qi];show O.trans _ _ _ (gO (lo+i) (lo+(l+r) / 2) ∅ ∅ ∅) e
  case ipost=>
   rintro c gP ⟨rfl,l,r,rfl,Hf,sy,Qi⟩
   change wpS _ _ _ _ (do moveDown' (lo+k) (lo+l);pure (ForInStep.yield (none,()))) _ _
   rw[moveDown'_eq]
   have ZW:lo+k< (arrOf gP).size:=by rw[B'.size];show hk
   exact aG (wpS_modify (aN #[rfl,B'.arr (bubble_perm _ _ _),?_,hp,ho.trans λj hj=> ?_]))
   .rw[show min (k+1) n=k+1 by lia];intro i j hi iJ hj;change LE less (dc (bubble (arrOf gP) (lo+k) (lo+k - (lo+l))) i) (dc (bubble (arrOf gP) (lo+k) (lo+k - (lo+l))) j);rw[nB ZW ∅,nB ZW ∅,show lo+k - (lo+k - (lo+l))=lo+l by lia];have ZR: ∀i,lo<=i ->i<lo+l ->LE less (dc (arrOf gP) i) (dc (arrOf gP) (lo+k)):=λi h1 h2=>by have:=sy (i - lo) ∅;rwa [show lo+(i - lo)=i by lia] at this
    have Z7: ∀i,lo+l<=i ->i<lo+k ->LE less (dc (arrOf gP) (lo+k)) (dc (arrOf gP) i):=λi h1 h2=>by have:=Qi (i - lo) ∅ ∅;rwa [show lo+(i - lo)=i by lia] at this
    repeat' split
    all_goals first
    | (exfalso;lia)
    | show O.refl _
    | show ZR _ ∅ ∅
    | show Z7 _ ∅ ∅
    | show gO _ _ ∅ ∅ ∅
   change dc (bubble (arrOf gP) (lo+k) (lo+k - (lo+l))) j=_
   rw[nB ZW ∅,ai ∅,ai ∅]
def K_:Bool ->iI ->i9 iI ->Nat ->Nat ->Nat ->StateT Uh Sem (fG Nat):=sortPriv% PySem.Builtin.gallop
def Y4:i9 iI ->i9 iI ->StateT Uh Sem (i9 iI):=sortPriv% PySem.Builtin.mergeLo
def Y5:i9 iI ->i9 iI ->StateT Uh Sem (i9 iI):=sortPriv% PySem.Builtin.mergeHi
abbrev dG (st:Uh)(g:Nat):Uh:=SortSt.mk' (kindOf st) (arrOf st) (pendingOf st) g (failedOf st)
def bey (left:Bool)(key:iI)(arr:i9 iI)(base i:Nat):StateT Uh Sem (fG Bool):=do
 let x <- elem' arr (base+i)
 if left then lt' x key else return(<- lt' key x).map (!·)
def wp_gal0 {st:Uh}(Bf:Nat ->Bool)(hh:gC<n)(hb: ∀i,i<n -> ∀Q':fG Bool ->Uh ->Prop,Q' (some (Bf i)) st ->wpS (model prog w) A E s (bey left key arr base i) Q' st)(mono: ∀i j,i<=j ->j<n ->Bf j=true ->Bf i=true)(h: ∀k,k<=n ->(∀i,i<k ->Bf i=true) ->(∀i,k<=i ->i<n ->Bf i=false) ->Q (some k) st): wpS (model prog w) A E s (K_ left key arr base n gC) Q st:=by
 have BN: ∀i j,i<=j ->j<n ->Bf i=false ->Bf j=false:=λi j iJ hj e=>by
  cases e2:Bf j with
  | false=>rfl
  | true=>rw[mono i j iJ hj e2] at e;cases e
 exact aG (hb gC hh _ ?_);dsimp only;cases hB:Bf gC with
 | true =>
  simp![bZ];exact aG (wpS_mono (cX (I:=λi c bD=>bD=st /\ cO λla f=>j8 (c=(none,la,f)) (i+1<=f) (la<f) (gC+la<n) (Bf (gC+la)=true)) (Q:=λc bD=>bD=st /\ cO λla f=>j8 (c=(none,la,f)) (la<f) (gC+la<n) (Bf (gC+la)=true) (n - gC<=f \/ (gC+f<n /\ Bf (gC+f)=false))) ?_ ?_ #[rfl,0,1,rfl,by omega,by omega,by omega,hB]) ?_);rintro i c bD _ hi ⟨rfl,la,f,rfl,h1,h2,h3,h4⟩;dsimp only;by_cases c1:f≥n - gC;rw[am c1];show aN #[rfl,la,f,rfl,h2,h3,h4, .inl c1];rw[ai c1];exact aG (hb _ (by omega) _ ?_);cases e:Bf (gC+f) with
  | true=>simp![cP,aB,bj];show aN #[rfl,f,2*f+1,rfl,by omega,by omega,by omega,e]
  | false=>simp![Bool.not_false,bZ];show aN #[rfl,la,f,rfl,h2,h3,h4, .inr #[by omega,e]]
  rintro c bD ⟨rfl,la,f,rfl,h1,h2,h3,h4⟩;show#[rfl,la,f,rfl,h2,h3,h4, .inl (by omega)];rintro c bD ⟨rfl,la,f,rfl,h2,h3,h4,h5⟩;dsimp only;exact aG (wpS_mono (cX (I:=λi c gP=>gP=bD /\ cO λlo hi=>l_ (c=(none,lo,hi)) (lo<=hi) (hi<=n) (hi - lo<=n - i) (∀i,i<lo ->Bf i=true) (∀i,hi<=i ->i<n ->Bf i=false)) (Q:=λc gP=>gP=bD /\ cO λlo hi=>fZ (c=(none,lo,hi)) (hi<=n) (∀i,i<hi ->Bf i=true) (∀i,hi<=i ->i<n ->Bf i=false)) ?_ ?_ #[rfl,_,_,rfl,by omega,by omega,by omega,λi hi=>mono i (gC+la) (by omega) h3 h4,λi hi ik=> ?_]) ?_);rintro i c gP _ hi ⟨rfl,lo,nG,rfl,g1,g2,g3,g4,g5⟩;dsimp only;by_cases c1:lo≥nG;rw[am c1];have:lo=nG:=by omega
  subst this;show aN #[rfl,_,_,rfl,g2,g4,g5];rw[ai c1];exact aG (hb _ (by omega) _ ?_);cases e:Bf (lo+(nG - lo) / 2) with
  | true=>simp![bZ];show aN #[rfl,_,_,rfl,by omega,g2,by omega,λj hj=>mono j _ (by omega) (by omega) e,g5]
  | false=>simp![aB,bj];show aN #[rfl,_,_,rfl,by omega,by omega,by omega,g4,λj hj Z0=>BN _ j hj Z0 e]
  rintro c gP ⟨rfl,lo,nG,rfl,g1,g2,g3,g4,g5⟩;have:lo=nG:=by omega
  subst this;show#[rfl,_,_,rfl,g2,g4,g5];obtain h5 | ⟨h5,h6⟩:=h5;omega;show BN (gC+f) i (by omega) ik h6;rintro c gP ⟨rfl,lo,nG,rfl,g2,g4,g5⟩;show aN (h _ g2 g4 g5)
 | false =>
  simp![aB,bj];exact aG (wpS_mono (cX (I:=λi c bD=>bD=st /\ cO λla f=>j8 (c=(none,la,f)) (i+1<=f) (la<f) (la<=gC) (Bf (gC - la)=false)) (Q:=λc bD=>bD=st /\ cO λla f=>j8 (c=(none,la,f)) (la<f) (la<=gC) (Bf (gC - la)=false) (gC+1<=f \/ (f<=gC /\ Bf (gC - f)=true))) ?_ ?_ #[rfl,0,1,rfl,by omega,by omega,by omega,hB]) ?_);rintro i c bD _ hi ⟨rfl,la,f,rfl,h1,h2,h3,h4⟩;dsimp only;by_cases c1:f≥gC+1;rw[am c1];show aN #[rfl,la,f,rfl,h2,h3,h4, .inl c1];rw[ai c1];exact aG (hb _ (by omega) _ ?_);cases e:Bf (gC - f) with
  | false=>simp![aB,bj];show aN #[rfl,f,2*f+1,rfl,by omega,by omega,by omega,e]
  | true=>simp![bZ];show aN #[rfl,la,f,rfl,h2,h3,h4, .inr #[by omega,e]]
  rintro c bD ⟨rfl,la,f,rfl,h1,h2,h3,h4⟩;show#[rfl,la,f,rfl,h2,h3,h4, .inl (by omega)];rintro c bD ⟨rfl,la,f,rfl,h2,h3,h4,h5⟩;dsimp only;exact aG (wpS_mono (cX (I:=λi c gP=>gP=bD /\ cO λlo hi=>l_ (c=(none,lo,hi)) (lo<=hi) (hi<=n) (hi - lo<=n - i) (∀i,i<lo ->Bf i=true) (∀i,hi<=i ->i<n ->Bf i=false)) (Q:=λc gP=>gP=bD /\ cO λlo hi=>fZ (c=(none,lo,hi)) (hi<=n) (∀i,i<hi ->Bf i=true) (∀i,hi<=i ->i<n ->Bf i=false)) ?_ ?_ #[rfl,_,_,rfl,by omega,by omega,by omega,λi hi=> ?_,λi hi ik=>BN (gC - la) i (by omega) ik h4]) ?_);rintro i c gP _ hi ⟨rfl,lo,nG,rfl,g1,g2,g3,g4,g5⟩;dsimp only;by_cases c1:lo≥nG;rw[am c1];have:lo=nG:=by omega
  subst this;show aN #[rfl,_,_,rfl,g2,g4,g5];rw[ai c1];exact aG (hb _ (by omega) _ ?_);cases e:Bf (lo+(nG - lo) / 2) with
  | true=>simp![bZ];show aN #[rfl,_,_,rfl,by omega,g2,by omega,λj hj=>mono j _ (by omega) (by omega) e,g5]
  | false=>simp![aB,bj];show aN #[rfl,_,_,rfl,by omega,by omega,by omega,g4,λj hj Z0=>BN _ j hj Z0 e]
  rintro c gP ⟨rfl,lo,nG,rfl,g1,g2,g3,g4,g5⟩;have:lo=nG:=by omega
  subst this;show#[rfl,_,_,rfl,g2,g4,g5];obtain h5 | ⟨h5,h6⟩:=h5;omega;show mono i (gC - f) (by omega) (by omega) h6;rintro c gP ⟨rfl,lo,nG,rfl,g2,g4,g5⟩;show aN (h _ g2 g4 g5)
def wp_galL (O:Ord less)(L:jL prog w A E s kd a₀ less){st:Uh}(B:kindOf st=kd)(hk:key∈a₀.toList)(hm: ∀i,i<n ->base+i<arr.size /\ dc arr (base+i)∈a₀.toList)(hh:gC<n)(hs:Sg less arr base (base+n))(h: ∀k,k<=n ->(∀i,i<k ->less (dc arr (base+i)) key=true) ->(∀i,k<=i ->i<n ->LE less key (dc arr (base+i))) ->Q (some k) st): wpS (model prog w) A E s (K_ true key arr base n gC) Q st:=by exact wp_gal0 (λi=>less (dc arr (base+i)) key) hh (λi hi Q' hq=> ?_) (λi j iJ hj e=>O.T_ (hs (base+i) (base+j) (by omega) (by omega) (by omega)) e) h;unfold bey;exact aG (wp_elem (hm i hi).1 ?_);simp![bZ];show L _ _ _ _ (hm i hi).2 hk B hq
def wp_galR (O:Ord less)(L:jL prog w A E s kd a₀ less){st:Uh}(B:kindOf st=kd)(hk:key∈a₀.toList)(hm: ∀i,i<n ->base+i<arr.size /\ dc arr (base+i)∈a₀.toList)(hh:gC<n)(hs:Sg less arr base (base+n))(h: ∀k,k<=n ->(∀i,i<k ->LE less (dc arr (base+i)) key) ->(∀i,k<=i ->i<n ->less key (dc arr (base+i))=true) ->Q (some k) st): wpS (model prog w) A E s (K_ false key arr base n gC) Q st:=by exact wp_gal0 (λi=> !less key (dc arr (base+i))) hh (λi hi Q' hq=> ?_) (λi j iJ hj e=> ?_) (λk h1 h2 h3=>h k h1 (λi hi=> ?_) λi h4 h5=> ?_);unfold bey;exact aG (wp_elem (hm i hi).1 ?_);simp![aB,bj];show aG (L _ _ _ _ hk (hm i hi).2 B (aN hq));simp![Bool.not_eq_true'] at e ⊢;show O.trans _ _ _ (hs (base+i) (base+j) (by omega) (by omega) (by omega)) e;have:=h2 i hi;simp![Bool.not_eq_true'] at this;show this;have:=h3 i h4 h5;simpa using this
structure MI (less:Keyed ->Keyed ->Bool)(al bl o:List Keyed)(i j:Nat):Prop where
 pm:o.Perm (al.take i++bl.take j)
 so:o.Pairwise (LE less)
 ba: ∀x∈o, ∀y∈al.drop i,LE less x y
 bb: ∀x∈o, ∀y∈bl.drop j,LE less x y
section
variable {less:iI ->iI ->Bool}{al bl o:fk iI}{i j:Nat}
theorem MI.swap (h:MI less al bl o i j):MI less bl al o j i:=#[h.pm.trans eX,h.so,h.bb,h.ba]
def take_add {α:Type}(l:fk α)(i k:Nat):l.take (i+k)=l.take i++(l.drop i).take k:=by rw[List.take_add]
def MI.Lk (h:MI less al bl o i j)(sa:al.Pairwise (LE less))(k:Nat)(hk: ∀x∈(al.drop i).take k, ∀y∈bl.drop j,LE less x y):MI less al bl (o++(al.drop i).take k) (i+k) j:=by
 have sd:(al.drop i).Pairwise (LE less):=sa.sublist (List.drop_sublist _ _);have e:(al.drop i).take k++al.drop (i+k)=al.drop i:=by rw[<- List.drop_drop,bm]
 have OK:=sd;rw[<- e,cR] at OK;exact#[?_,?_,?_,?_];rw[take_add,cu];exact(h.pm.append_right _).trans ?_;rw[cu];show List.Perm.append_left _ eX;rw[cR];show#[h.so,OK.1,λx hx y hy=>h.ba x hx y (List.mem_of_mem_take hy)];intro x hx y hy;obtain hx | hx:=aA.mp hx;show h.ba x hx y (by rw[<- e];show aZ _ hy);show OK.2.2 x hx y hy;intro x hx y hy;obtain hx | hx:=aA.mp hx;show h.bb x hx y hy;show hk x hx y hy
def MI.fin (h:MI less al bl o i j)(sa:al.Pairwise (LE less))(sb:bl.Pairwise (LE less))(hk: ∀x∈bl.drop j, ∀y∈al.drop i,LE less x y):(o++bl.drop j++al.drop i).Perm (al++bl) /\ (o++bl.drop j++al.drop i).Pairwise (LE less):=by
 symm;rw[cu];exact(h.pm.append_right _).trans ?_;have e1:(al++bl).Perm ((al.take i++al.drop i)++(bl.take j++bl.drop j)):=by rw[bm,bm]
 exact List.Perm.trans ?_ e1.symm;rw[cu,cu];exact List.Perm.append_left _ ?_;rw[<- cu];show eX;rw[cR,cR];exact#[#[h.so,sb.sublist (List.drop_sublist _ _),h.bb],sa.sublist (List.drop_sublist _ _),λx hx y hy=> ?_];obtain hx | hx:=aA.mp hx;show h.ba x hx y hy;show hk x hx y hy
structure MH (less:Keyed ->Keyed ->Bool)(al bl t:List Keyed)(i j:Nat):Prop where
 pm:t.Perm (al.drop i++bl.drop j)
 so:t.Pairwise (LE less)
 ba: ∀x∈t, ∀y∈al.take i,LE less y x
 bb: ∀x∈t, ∀y∈bl.take j,LE less y x
theorem MH.swap (h:MH less al bl t i j):MH less bl al t j i:=#[h.pm.trans eX,h.so,h.bb,h.ba]
def MH.Lk (h:MH less al bl t i j)(sa:al.Pairwise (LE less))(UO:k<=i)(hk: ∀x∈(al.take i).drop k, ∀y∈bl.take j,LE less y x):MH less al bl ((al.take i).drop k++t) k j:=by
 have sd:(al.take i).Pairwise (LE less):=sa.sublist (List.take_sublist _ _);have e0:(al.take i).take k=al.take k:=by rw[List.take_take,Nat.min_eq_left UO]
 have e:al.take k++(al.take i).drop k=al.take i:=by rw[<- e0,bm]
 have OK:=sd;rw[<- e,cR] at OK;have e3:al.drop k=(al.take i).drop k++al.drop i:=by
  have:=bm i al;have e4:al.drop k=(al.take i++al.drop i).drop k:=by rw[this]
  rw[e4];by_cases c:i<=al.length;rw[List.drop_append_of_le_length (by rw[bg];lia)];have z:al.drop i= []:=List.drop_eq_nil_of_le ∅;rw[z,List.append_nil,List.append_nil]
 exact#[?_,?_,?_,?_];rw[e3,cu];show List.Perm.append_left _ h.pm;rw[cR];show#[OK.2.1,h.so,λx hx y hy=>h.ba y hy x (by rw[<- e];show aZ _ hx)];intro x hx y hy;obtain hx | hx:=aA.mp hx;show OK.2.2 y hy x hx;show h.ba x hx y (by rw[<- e];show List.mem_append_left _ hy);intro x hx y hy;obtain hx | hx:=aA.mp hx;show hk x hx y hy;show h.bb x hx y hy
def MH.fin (h:MH less al bl t i j)(sa:al.Pairwise (LE less))(sb:bl.Pairwise (LE less))(hk: ∀x∈al.take i, ∀y∈bl.take j,LE less x y):(al.take i++bl.take j++t).Perm (al++bl) /\ (al.take i++bl.take j++t).Pairwise (LE less):=by
 symm;exact(List.Perm.append_left _ h.pm).trans ?_;have e1:(al++bl).Perm ((al.take i++al.drop i)++(bl.take j++bl.drop j)):=by rw[bm,bm]
 exact List.Perm.trans ?_ e1.symm;rw[cu,cu];exact List.Perm.append_left _ ?_;rw[<- cu, <- cu];show List.Perm.append_right _ eX;rw[cR,cR];exact#[#[sa.sublist (List.take_sublist _ _),sb.sublist (List.take_sublist _ _),hk],h.so,λx hx y hy=> ?_];obtain hx | hx:=aA.mp hx;show h.ba y hy x hx;show h.bb y hy x hx
end
abbrev R5:=fG (i9 iI)×i9 iI×Nat×Nat×Nat
abbrev R6:=fG (i9 iI)×i9 iI×Nat×Nat×Nat×Nat
abbrev R7:=fG (i9 iI)×i9 iI×Nat×Nat×Nat×Nat×Nat
section
variable (a b:i9 iI)
abbrev Jc (o:i9 iI)(i j:Nat):i9 iI:=o++a.extract i a.size++b.extract j b.size
abbrev Rf (o:i9 iI)(i j:Nat):i9 iI:=o++b.extract j b.size++a.extract i a.size
def Pa (mg:Nat)(o:i9 iI)(i j ac bc:Nat):StateT Uh Sem (ForInStep R6):=do
 let x <- elem' b j
 let y <- elem' a i
 let g <- lt' x y
 match g with
 | some g=>
  if g=true then do
   let x <- elem' b j
   if(j+1==b.size)=true then pure (.done (some (Jc a b (o.push x) i (j+1)),o.push x,i,j+1,0,bc+1))
   else if bc+1≥mg then pure (.done (none,o.push x,i,j+1,0,bc+1))
   else pure (.yield (none,o.push x,i,j+1,0,bc+1))
  else do
   let x <- elem' a i
   if(i+1+1==a.size)=true then pure (.done (some (Rf a b (o.push x) (i+1) j),o.push x,i+1,j,ac+1,0))
   else if ac+1≥mg then pure (.done (none,o.push x,i+1,j,ac+1,0))
   else pure (.yield (none,o.push x,i+1,j,ac+1,0))
 | _=>pure (.done (some (Jc a b o i j),o,i,j,ac,bc))
def Wn (mg ac bc:Nat)(o:i9 iI)(i j:Nat):StateT Uh Sem (ForInStep R7):=do
 let x <- elem' a i
 if(i+1+1==a.size)=true then pure (.done (some (Rf a b (o.push x) (i+1) j),o.push x,i+1,j,mg,ac,bc))
 else if(decide (ac<7) && decide (bc<7))=true then pure (.done (none,o.push x,i+1,j,mg,ac,bc))
 else pure (.yield (none,o.push x,i+1,j,mg,ac,bc))
def Wp (mg ac bc:Nat)(o:i9 iI)(i j:Nat):StateT Uh Sem (ForInStep R7):=do
 let x <- elem' b j
 if(j+1==b.size)=true then pure (.done (some (Jc a b (o.push x) i (j+1)),o.push x,i,j+1,mg,ac,bc))
 else do
  let y <- elem' a i
  let r <- K_ true y b (j+1) (b.size - (j+1)) 0
  match r with
  | some k=>
   if k >0 then
    if(j+1+k==b.size)=true then pure (.done (some (Jc a b (o.push x++b.extract (j+1) (j+1+k)) i (j+1+k)),o.push x++b.extract (j+1) (j+1+k),i,j+1+k,mg,ac,k))
    else Wn a b mg ac k (o.push x++b.extract (j+1) (j+1+k)) i (j+1+k)
   else Wn a b mg ac k (o.push x) i (j+1)
  | _=>pure (.done (some (Jc a b (o.push x) i (j+1)),o.push x,i,j+1,mg,ac,bc))
def Wr (mg ac bc:Nat)(o:i9 iI)(i j:Nat):StateT Uh Sem (ForInStep R7):=do
 modify λs=>dG s mg
 let x <- elem' b j
 let r <- K_ false x a i (a.size - i) 0
 match r with
 | some k=>
  if k >0 then
   if(i+k+1==a.size)=true then pure (.done (some (Rf a b (o++a.extract i (i+k)) (i+k) j),o++a.extract i (i+k),i+k,j,mg,k,bc))
   else if(i+k==a.size)=true then pure (.done (some (Jc a b (o++a.extract i (i+k)) (i+k) j),o++a.extract i (i+k),i+k,j,mg,k,bc))
   else Wp a b mg k bc (o++a.extract i (i+k)) (i+k) j
  else Wp a b mg k bc o i j
 | _=>pure (.done (some (Jc a b o i j),o,i,j,mg,ac,bc))
def Tx (c:R5):StateT Uh Sem (ForInStep R5):=do
 let d <- forIn [:a.size+b.size] ((none,c.2.1,c.2.2.1,c.2.2.2.1,0,0):R6) λ_ d=>Pa a b c.2.2.2.2 d.2.1 d.2.2.1 d.2.2.2.1 d.2.2.2.2.1 d.2.2.2.2.2
 match d.1 with
 | some r=>pure (.done (some r,d.2.1,d.2.2.1,d.2.2.2.1,c.2.2.2.2))
 | none=>do
  liftM (rule "list.sort.gallop")
  let e <- forIn [:a.size+b.size] ((none,d.2.1,d.2.2.1,d.2.2.2.1,c.2.2.2.2+1,d.2.2.2.2.1,d.2.2.2.2.2):R7) λ_ e=>if e.2.2.2.2.1 >1 then Wr a b (e.2.2.2.2.1 - 1) e.2.2.2.2.2.1 e.2.2.2.2.2.2 e.2.1 e.2.2.1 e.2.2.2.1 else Wr a b e.2.2.2.2.1 e.2.2.2.2.2.1 e.2.2.2.2.2.2 e.2.1 e.2.2.1 e.2.2.2.1
  match e.1 with
  | some r=>pure (.done (some r,e.2.1,e.2.2.1,e.2.2.2.1,e.2.2.2.2.1))
  | none=>do
   modify λs=>dG s (e.2.2.2.2.1+1)
   pure (.yield (none,e.2.1,e.2.2.1,e.2.2.2.1,e.2.2.2.2.1+1))
end
def sT {f g:α ->StateT σ Sem β}(h: ∀x,f x=g x):(m >>=f)=(m >>=g):=by rw[funext h]
def Ee {f g:α ->StateT σ Sem β}(e:m=m')(h: ∀x,f x=g x):(m >>=f)=(m' >>=g):=by rw[e,funext h]
def DB [Decidable c]{x y x' y':α}(h:x=x')(h':y=y'):(if c then x else y)=(if c then x' else y'):=by rw[h,h']
def DP {r:Std.Legacy.Range}{f g:Nat ->β ->StateT σ Sem (ForInStep β)}(h: ∀i c,f i c=g i c):forIn r c f=forIn r c g:=by rw[funext λi=>funext (h i)]
section
variable (a b:i9 iI)
theorem Dm:Y4 a b=(do
  liftM (rule "list.sort.merge-lo")
  let x <- elem' b 0
  if(1==b.size)=true then pure (Jc a b #[x] 0 1)
  else if(0+1==a.size)=true then pure (Rf a b #[x] 0 1)
  else do
   let g <- get
   let c <- forIn [:a.size+b.size] ((none, #[x],0,1,gallopOf g):R5) λ_ c=>Tx a b c
   match c.1 with
   | some r=>pure r
   | none=>unsupported "internal:list.sort.merge-bound"):=by
 exact sT λ_=>sT λx=> ?_
 exact DB rfl (DB rfl (sT λg=>Ee (DP λ_ c=> ?_) λc=> ?_))
 exact Ee (DP λ_ d=>rfl) λd=> ?_
 let⟨r,d⟩:=d
 cases r with
 | some r=>rfl
 | none =>
  exact sT λ_=>Ee (DP λ_ e=> ?_) λe=> ?_;exact DB ?_ ?_<;>
  .refine sT λ_=>sT λx=>sT λr=> ?_;cases r with
   | none=>rfl
   | some k=>
    exact DB (DB rfl (DB rfl ?_)) ?_<;>
    .exact sT λy=>DB rfl (sT λz=>sT λr=> ?_);cases r<;>rfl
  let⟨r,e⟩:=e;cases r<;>rfl
 let⟨r,c⟩:=c
 cases r<;>rfl
abbrev Jd (o:i9 iI)(i j:Nat):i9 iI:=a.extract 0 i++b.extract 0 j++o.reverse
abbrev RF (o:i9 iI)(i j:Nat):i9 iI:=b.extract 0 j++a.extract 0 i++o.reverse
def Oj (mg:Nat)(i j:Nat)(o:i9 iI)(ac bc:Nat):StateT Uh Sem (ForInStep (fG (i9 iI)×Nat×Nat×i9 iI×Nat×Nat)):=do
 let x <- elem' b (j - 1)
 let y <- elem' a (i - 1)
 let g <- lt' x y
 match g with
 | some g=>
  if g=true then do
   let x <- elem' a (i - 1)
   if(i - 1==0)=true then pure (.done (some (Jd a b (o.push x) (i - 1) j),i - 1,j,o.push x,ac+1,0))
   else if ac+1≥mg then pure (.done (none,i - 1,j,o.push x,ac+1,0))
   else pure (.yield (none,i - 1,j,o.push x,ac+1,0))
  else do
   let x <- elem' b (j - 1)
   if(j - 1==1)=true then pure (.done (some (RF a b (o.push x) i (j - 1)),i,j - 1,o.push x,0,bc+1))
   else if bc+1≥mg then pure (.done (none,i,j - 1,o.push x,0,bc+1))
   else pure (.yield (none,i,j - 1,o.push x,0,bc+1))
 | _=>pure (.done (some (Jd a b o i j),i,j,o,ac,bc))
abbrev S7:=fG (i9 iI)×Nat×Nat×i9 iI×Nat×Nat×Nat
def Wo (mg ac bc:Nat)(i j:Nat)(o:i9 iI):StateT Uh Sem (ForInStep S7):=do
 let x <- elem' a (i - 1)
 if(i - 1==0)=true then pure (.done (some (Jd a b (o.push x) (i - 1) j),i - 1,j,o.push x,mg,ac,bc))
 else if(decide (ac<7) && decide (bc<7))=true then pure (.done (none,i - 1,j,o.push x,mg,ac,bc))
 else pure (.yield (none,i - 1,j,o.push x,mg,ac,bc))
def Wq (mg ac bc:Nat)(i j:Nat)(o:i9 iI):StateT Uh Sem (ForInStep S7):=do
 let x <- elem' b (j - 1)
 if(j - 1==1)=true then pure (.done (some (RF a b (o.push x) i (j - 1)),i,j - 1,o.push x,mg,ac,bc))
 else do
  let y <- elem' a (i - 1)
  let r <- K_ true y b 0 (j - 1) (j - 1 - 1)
  match r with
  | some k=>
   if j - 1 - k >0 then
    if(k==1)=true then pure (.done (some (RF a b (o.push x++(b.extract k (j - 1)).reverse) i k),i,k,o.push x++(b.extract k (j - 1)).reverse,mg,ac,j - 1 - k))
    else if(k==0)=true then pure (.done (some (Jd a b (o.push x++(b.extract k (j - 1)).reverse) i k),i,k,o.push x++(b.extract k (j - 1)).reverse,mg,ac,j - 1 - k))
    else Wo a b mg ac (j - 1 - k) i k (o.push x++(b.extract k (j - 1)).reverse)
   else Wo a b mg ac (j - 1 - k) i (j - 1) (o.push x)
  | _=>pure (.done (some (Jd a b (o.push x) i (j - 1)),i,j - 1,o.push x,mg,ac,bc))
def Ws (mg ac bc:Nat)(i j:Nat)(o:i9 iI):StateT Uh Sem (ForInStep S7):=do
 modify λs=>dG s mg
 let x <- elem' b (j - 1)
 let r <- K_ false x a 0 i (i - 1)
 match r with
 | some k=>
  if i - k >0 then
   if(k==0)=true then pure (.done (some (Jd a b (o++(a.extract k i).reverse) k j),k,j,o++(a.extract k i).reverse,mg,i - k,bc))
   else Wq a b mg (i - k) bc k j (o++(a.extract k i).reverse)
  else Wq a b mg (i - k) bc i j o
 | _=>pure (.done (some (Jd a b o i j),i,j,o,mg,ac,bc))
abbrev S5:=fG (i9 iI)×Nat×Nat×i9 iI×Nat
def J5 (c:S5):StateT Uh Sem (ForInStep S5):=do
 let d <- forIn [:a.size+b.size] ((none,c.2.1,c.2.2.1,c.2.2.2.1,0,0):fG (i9 iI)×Nat×Nat×i9 iI×Nat×Nat) λ_ d=>Oj a b c.2.2.2.2 d.2.1 d.2.2.1 d.2.2.2.1 d.2.2.2.2.1 d.2.2.2.2.2
 match d.1 with
 | some r=>pure (.done (some r,d.2.1,d.2.2.1,d.2.2.2.1,c.2.2.2.2))
 | none=>do
  liftM (rule "list.sort.gallop")
  let e <- forIn [:a.size+b.size] ((none,d.2.1,d.2.2.1,d.2.2.2.1,c.2.2.2.2+1,d.2.2.2.2.1,d.2.2.2.2.2):S7) λ_ e=>if e.2.2.2.2.1 >1 then Ws a b (e.2.2.2.2.1 - 1) e.2.2.2.2.2.1 e.2.2.2.2.2.2 e.2.1 e.2.2.1 e.2.2.2.1 else Ws a b e.2.2.2.2.1 e.2.2.2.2.2.1 e.2.2.2.2.2.2 e.2.1 e.2.2.1 e.2.2.2.1
  match e.1 with
  | some r=>pure (.done (some r,e.2.1,e.2.2.1,e.2.2.2.1,e.2.2.2.2.1))
  | none=>do
   modify λs=>dG s (e.2.2.2.2.1+1)
   pure (.yield (none,e.2.1,e.2.2.1,e.2.2.2.1,e.2.2.2.2.1+1))
theorem Dn:Y5 a b=(do
  liftM (rule "list.sort.merge-hi")
  let x <- elem' a (a.size - 1)
  if(a.size - 1==0)=true then pure (Jd a b #[x] (a.size - 1) b.size)
  else if(b.size==1)=true then pure (RF a b #[x] (a.size - 1) b.size)
  else do
   let g <- get
   let c <- forIn [:a.size+b.size] ((none,a.size - 1,b.size, #[x],gallopOf g):S5) λ_ c=>J5 a b c
   match c.1 with
   | some r=>pure r
   | none=>unsupported "internal:list.sort.merge-bound"):=by
 exact sT λ_=>sT λx=> ?_
 exact DB rfl (DB rfl (sT λg=>Ee (DP λ_ c=> ?_) λc=> ?_))
 exact Ee (DP λ_ d=>rfl) λd=> ?_
 let⟨r,d⟩:=d
 cases r with
 | some r=>rfl
 | none =>
  exact sT λ_=>Ee (DP λ_ e=> ?_) λe=> ?_;exact DB ?_ ?_<;>
  .refine sT λ_=>sT λx=>sT λr=> ?_;cases r with
   | none=>rfl
   | some k=>
    exact DB (DB rfl ?_) ?_<;>
    .exact sT λy=>DB rfl (sT λz=>sT λr=> ?_);cases r<;>rfl
  let⟨r,e⟩:=e;cases r<;>rfl
 let⟨r,c⟩:=c
 cases r<;>rfl
end
def iO (h:i<xs.size):xs.toList[i]? =some (dc xs i):=by rw[<- H_ h];simp
def DY (h:i<xs.size):xs.toList.drop i=dc xs i::xs.toList.drop (i+1):=by have h':i<xs.toList.length:= ⇑h;have e:=iO h;rw[ae h'] at e;rw[dE h',bG e]
def xh (h:i<xs.size):(xs.toList.drop i).take 1= [dc xs i]:=by rw[DY h];rfl
def jQ (h:y∈xs.toList.drop i): ∃k,d_ (i<=k) (k<xs.size) (y=dc xs k):=by let⟨n,hn⟩:=cA.mp h;rw[d5] at hn;have hl:=(aj.mp hn).1;have qD:i+n<xs.size:= ⇑hl;rw[iO qD] at hn;show#[i+n, ∅,qD,(bG hn).symm]
def vA (h:y∈(xs.toList.drop i).take k): ∃n,fZ (i<=n) (n<i+k) (n<xs.size) (y=dc xs n):=by let⟨n,hn⟩:=cA.mp h;rw[List.getElem?_take] at hn;split at hn;rename_i hk;rw[d5] at hn;have hl:=(aj.mp hn).1;have qD:i+n<xs.size:= ⇑hl;rw[iO qD] at hn;show#[i+n, ∅, ∅,qD,(bG hn).symm];cases hn
def mD (O:Ord less)(h:xs.toList.Pairwise (LE less))(iJ:i<=j)(hj:j<xs.size):LE less (dc xs i) (dc xs j):=by
 by_cases c:i=j;subst c;show O.refl _;rw[bL] at h;have nG:i<xs.toList.length:=by simp;lia
 have jK:j<xs.toList.length:= ⇑hj;have:=h i j nG jK ∅;have e1:=iO (xs:=xs) (i:=i) ∅;have e2:=iO hj;rw[ae nG] at e1;rw[ae jK] at e2;rwa [bG e1,bG e2] at this
theorem vF (O:Ord less)(h:xs.toList.Pairwise (LE less))(hn:i+n<=xs.size):Sg less xs i (i+n):=λx y _ hxy hy=>mD O h hxy ∅
def yr (xs:i9 iI)(i k:Nat):(xs.extract i (i+k)).toList=(xs.toList.drop i).take k:=by rw[Array.toList_extract,List.extract_eq_take_drop];congr 1;lia
def ra (xs:i9 iI)(i:Nat):(xs.extract i xs.size).toList=xs.toList.drop i:=by rw[Array.toList_extract,List.extract_eq_take_drop];show List.take_of_length_le (by simp)
section
variable {prog:Program}{w:World}{A:Around}{E:fm ->fo ->Prop}{s:fo}{kd:SortKind}{a₀:i9 iI}{less:iI ->iI ->Bool}
structure vo (less:Keyed ->Keyed ->Bool)(a₀ a b:Array Keyed):Prop where
 sa:a.toList.Pairwise (LE less)
 sb:b.toList.Pairwise (LE less)
 ma: ∀i,i<a.size ->dc a i∈a₀.toList
 mb: ∀i,i<b.size ->dc b i∈a₀.toList
 na:1<=a.size
 nb:1<=b.size
 h0:less (dc b 0) (dc a 0)=true
 hl: ∀j,j<b.size ->less (dc b j) (dc a (a.size - 1))=true
def sW (less:iI ->iI ->Bool)(a b r:i9 iI):Prop:=r.toList.Perm (a.toList++b.toList) /\ r.toList.Pairwise (LE less)
structure JL (less:Keyed ->Keyed ->Bool)(a b o:Array Keyed)(i j:Nat):Prop where
 mi:MI less a.toList b.toList o.toList i j
 hi:i+1<a.size
 hj:j<b.size
variable {a b:i9 iI}
def vK (T:vo less a₀ a b)(h:MI less a.toList b.toList o.toList i j)(hj:b.size<=j \/ a.size<=i):sW less a b (Jc a b o i j):=by
 unfold sW Jc;rw[cL,cL,ra,ra];have:=h.swap.fin T.sb T.sa λx hx y hy=>by obtain hj | hj:=hj;let⟨k,h1,h2,_⟩:=jQ hy;lia;let⟨k,h1,h2,_⟩:=jQ hx;lia
 show#[this.1.trans eX,this.2]
def vJ (O:Ord less)(T:vo less a₀ a b)(h:MI less a.toList b.toList o.toList i j)(hi:i+1=a.size):sW less a b (Rf a b o i j):=by unfold sW Rf;rw[cL,cL,ra,ra];exact h.fin T.sa T.sb λx hx y hy=> ?_;let⟨k,h1,h2,rfl⟩:=jQ hx;let⟨k',Qx,Jb,rfl⟩:=jQ hy;rw[show k'=a.size - 1 by lia];show O.le (T.hl k h2)
def zE (O:Ord less)(T:vo less a₀ a b){o:i9 iI}(h:MI less a.toList b.toList o.toList i j)(hj:j<b.size)(hc:i<a.size ->LE less (dc b j) (dc a i)):MI less a.toList b.toList (o.push (dc b j)).toList i (j+1):=by have:=(h.swap.Lk T.sb 1 λx hx y hy=>by rw[xh hj] at hx;rw[ah.mp hx];let⟨k,h1,h2,rfl⟩:=jQ hy;show O.trans _ _ _ (hc ∅) (mD O T.sa h1 h2)).swap;rw[xh hj] at this;rwa [Array.toList_push]
def FU (O:Ord less)(T:vo less a₀ a b){o:i9 iI}(h:MI less a.toList b.toList o.toList i j)(hi:i<a.size)(hc:j<b.size ->LE less (dc a i) (dc b j)):MI less a.toList b.toList (o.push (dc a i)).toList (i+1) j:=by
 have:=h.Lk T.sa 1 λx hx y hy=>by rw[xh hi] at hx;rw[ah.mp hx];let⟨k,h1,h2,rfl⟩:=jQ hy;show O.trans _ _ _ (hc ∅) (mD O T.sb h1 h2)
 rw[xh hi] at this;rwa [Array.toList_push]
def QW (less:iI ->iI ->Bool)(a b:i9 iI)(st:Uh)(N:Nat)(r:ForInStep R7)(bD:Uh):Prop:=(∃g,bD=dG st g) /\ ((cO λx c=>r= .done (some x,c) /\ sW less a b x) \/ (kr λo i j c=>d_ (r= .done (none,o,i,j,c) \/ r= .yield (none,o,i,j,c)) (JL less a b o i j) (N<=i+j)))
def wp_p3L (O:Ord less)(T:vo less a₀ a b){st bD:Uh}(hg: ∃g,bD=dG st g)(J:JL less a b o i j)(hc:LE less (dc a i) (dc b j))(hN:N<=i+j):wpS (model prog w) A E s (Wn a b mg ac bc o i j) (QW less a b st N) bD:=by
 unfold Wn;have hi:=J.hi;exact aG (wp_elem ∅ ?_);have m:=FU O T J.mi ∅ λ_=>hc;by_cases c:i+1+1=a.size;rw[am ⇑c];show aN #[hg, .inl #[_,_,rfl,vJ O T m c]];rw[ai ⇑c];have J':JL less a b (o.push (dc a i)) (i+1) j:=#[m, ∅,J.hj]
 split;show aN #[hg, .inr #[_,_,_,_, .inl rfl,J', ∅]];show aN #[hg, .inr #[_,_,_,_, .inr rfl,J', ∅]]
def wp_p2L (O:Ord less)(L:jL prog w A E s kd a₀ less)(T:vo less a₀ a b){st bD:Uh}(hk:kindOf bD=kd)(hg: ∃g,bD=dG st g)(J:JL less a b o i j)(hc:less (dc b j) (dc a i)=true)(hN:N<=i+j):wpS (model prog w) A E s (Wp a b mg ac bc o i j) (QW less a b st N) bD:=by
 unfold Wp;have hi:=J.hi;have hj:=J.hj;exact aG (wp_elem hj ?_);have m:=zE O T J.mi hj λ_=>O.le hc;by_cases c:j+1=b.size;rw[am ⇑c];show aN #[hg, .inl #[_,_,rfl,vK T m (.inl ∅)]];rw [ai ⇑c];exact aG (wp_elem ∅ ?_);exact aG (wp_galL O L hk (T.ma i ∅) (λk hk=>#[∅,T.mb _ ∅]) ∅ (vF O T.sb ∅) λk h1 h2 h3=> ?_);dsimp only;by_cases ck:k >0;rw[am ck];have m2:MI less a.toList b.toList (o.push (dc b j)++b.extract (j+1) (j+1+k)).toList i (j+1+k):=by rw[cL,yr];exact(m.swap.Lk T.sb k λx hx y hy=> ?_).swap;let⟨n,n1,n2,n3,rfl⟩:=vA hx;let⟨k',k1,k2,rfl⟩:=jQ hy;have:=h2 (n - (j+1)) ∅;rw[show j+1+(n - (j+1))=n by lia] at this;show O.trans _ _ _ (O.le this) (mD O T.sa k1 k2)
 by_cases c2:j+1+k=b.size;rw[am ⇑c2];show aN #[hg, .inl #[_,_,rfl,vK T m2 (.inl ∅)]];rw[ai ⇑c2];show wp_p3L O T hg #[m2,hi, ∅] (h3 k (ap _) ∅) ∅;rw[ai ck];have:k=0:= ∅;subst this;show wp_p3L O T hg #[m,hi, ∅] (h3 0 (ap _) ∅) ∅
def wp_p1L (O:Ord less)(L:jL prog w A E s kd a₀ less)(T:vo less a₀ a b){st bD:Uh}(hk:kindOf st=kd)(hg: ∃g,bD=dG st g)(J:JL less a b o i j)(hN:N<=i+j):wpS (model prog w) A E s (Wr a b mg ac bc o i j) (QW less a b st N) bD:=by
 unfold Wr;have hi:=J.hi;have hj:=J.hj;exact aG (wpS_modify ?_);have Hm: ∃g,dG bD mg=dG st g:=by let⟨g,rfl⟩:=hg;show#[mg,rfl]
 have w5:kindOf (dG bD mg)=kd:=by let⟨g,rfl⟩:=hg;show hk
 exact aG (wp_elem hj ?_);exact aG (wp_galR O L w5 (T.mb j hj) (λk hk=>#[∅,T.ma _ ∅]) ∅ (vF O T.sa ∅) λk h1 h2 h3=> ?_);dsimp only;have W7:i+k<a.size:=by by_cases c:i+k<a.size;show c;have:=h2 (a.size - 1 - i) ∅;rw[show i+(a.size - 1 - i)=a.size - 1 by lia] at this;unfold LE at this;rw[T.hl j hj] at this;cases this
 have Nk:=h3 k (ap _) ∅;by_cases ck:k >0;rw[am ck];have m2:MI less a.toList b.toList (o++a.extract i (i+k)).toList (i+k) j:=by rw[cL,yr];exact J.mi.Lk T.sa k λx hx y hy=> ?_;let⟨n,n1,n2,n3,rfl⟩:=vA hx;let⟨k',k1,k2,rfl⟩:=jQ hy;have:=h2 (n - i) ∅;rw[show i+(n - i)=n by lia] at this;show O.trans _ _ _ this (mD O T.sb k1 k2)
 by_cases c2:i+k+1=a.size;rw[am ⇑c2];show aN #[Hm, .inl #[_,_,rfl,vJ O T m2 c2]];rw[ai ⇑c2,ai (by simp;lia)];show wp_p2L O L T w5 Hm #[m2, ∅,hj] Nk ∅;rw[ai ck];have:k=0:= ∅;subst this;show wp_p2L O L T w5 Hm J Nk hN
def wp_one1 (O:Ord less)(L:jL prog w A E s kd a₀ less)(T:vo less a₀ a b)(hk:kindOf bD=kd)(J:JL less a b o i j)(h1: ∀x c,sW less a b x ->Q (.done (some x,c)) bD)(h2: ∀o i' j' c,JL less a b o i' j' ->i'+j'=i+j+1 ->Q (.done (none,o,i',j',c)) bD /\ Q (.yield (none,o,i',j',c)) bD): wpS (model prog w) A E s (Pa a b mg o i j ac bc) Q bD:=by
 unfold Pa;have hi:=J.hi;have hj:=J.hj;exact aG (wp_elem hj (aG (wp_elem ∅ (aG (L _ _ _ _ (T.mb j hj) (T.ma i ∅) hk ?_)))));dsimp only;cases e:less (dc b j) (dc a i) with
 | true=>simp![bZ];exact aG (wp_elem hj ?_);have m:=zE O T J.mi hj λ_=>O.le e;by_cases c:j+1=b.size;rw[am ⇑c];show aN (h1 _ _ (vK T m (.inl ∅)));rw[ai ⇑c];have:=h2 _ i (j+1) (0,bc+1) #[m,hi, ∅] ∅;split;show aN this.1;show aN this.2
 | false=>simp![aB,bj];exact aG (wp_elem ∅ ?_);have m:=FU O T J.mi ∅ λ_=>e;by_cases c:i+1+1=a.size;rw[am ⇑c];show aN (h1 _ _ (vJ O T m c));rw[ai ⇑c];have:=h2 _ (i+1) j (ac+1,0) #[m, ∅,hj] ∅;split;show aN this.1;show aN this.2
def wp_mLo (O:Ord less)(L:jL prog w A E s kd a₀ less)(T:vo less a₀ a b){st:Uh}(hk:kindOf st=kd)(h: ∀r g,sW less a b r ->Q r (dG st g)):wpS (model prog w) A E s (Y4 a b) Q st:=by
 rw[Dm];have na:=T.na;have nb:=T.nb;exact aG (wpS_lift (wpAny_rule #[rfl,?_]));exact aG (wp_elem ∅ ?_);have h': ∀r,sW less a b r ->Q r st:=λr hr=>h r (gallopOf st) hr;have m:MI less a.toList b.toList (#[dc b 0]:i9 iI).toList 0 1:=by
  have m0:MI less a.toList b.toList (#[]:i9 iI).toList 0 0:=#[by simp,by simp,by simp,by simp]
  show zE O T m0 ∅ λ_=>O.le T.h0
 by_cases c:1=b.size;rw[am ⇑c];show aN (h' _ (vK T m (.inl ∅)));rw[ai ⇑c];by_cases c2:0+1=a.size;rw[am ⇑c2];show aN (h' _ (vJ O T m c2));rw[ai ⇑c2];exact aG (wpS_get ?_);exact aG (wpS_mono (cX (I:=λn c bD=>(∃g,bD=dG st g) /\ kr λo i j mg=>d_ (c=(none,o,i,j,mg)) (JL less a b o i j) (n+1<=i+j)) (Q:=λc bD=>(∃g,bD=dG st g) /\ cO λx d=>c=(some x,d) /\ sW less a b x) ?_ ?_ #[#[gallopOf st,rfl],_,0,1,_,rfl,#[m, ∅, ∅], ∅]) ?_)
 .rintro n c bD _ hn ⟨hg,o,i,j,mg,rfl,J,hN⟩;unfold Tx;dsimp only;have w5:kindOf bD=kd:=by let⟨g,rfl⟩:=hg;show hk
  exact aG (wpS_mono (cX (I:=λx c mU=>mU=bD /\ kr λo' i' j' d=>d_ (c=(none,o',i',j',d)) (JL less a b o' i' j') (i'+j'=i+j+x)) (Q:=λc mU=>mU=bD /\ ((cO λx d=>c=(some x,d) /\ sW less a b x) \/ kr λo' i' j' d=>d_ (c=(none,o',i',j',d)) (JL less a b o' i' j') (i+j+1<=i'+j'))) ?_ ?_ #[rfl,o,i,j,_,rfl,J,rfl]) ?_);rintro x c mU _ hx ⟨rfl,o',i',j',⟨ac,bc⟩,rfl,J',Qu⟩;dsimp only;exact wp_one1 O L T w5 J' (λx c hr=>#[rfl, .inl #[x,c,rfl,hr]]) λo2 i2 j2 c J2 h2=>#[#[rfl, .inr #[o2,i2,j2,c,rfl,J2, ∅]],#[rfl,o2,i2,j2,c,rfl,J2, ∅]]
  rintro c mU ⟨rfl,o',i',j',d,rfl,J',Qu⟩;show#[rfl, .inr #[o',i',j',d,rfl,J', ∅]]
  .rintro c mU ⟨rfl,⟨x,d,rfl,hr⟩ | ⟨o',i',j',⟨ac,bc⟩,rfl,J',Qu⟩⟩;show aN #[hg,x,_,rfl,hr]
   .dsimp only;exact aG (wpS_lift (wpAny_rule #[rfl,?_]));exact aG (wpS_mono (cX (I:=λx c p8=>(∃g,p8=dG st g) /\ kr λo' i' j' d=>d_ (c=(none,o',i',j',d)) (JL less a b o' i' j') (i+j+1<=i'+j')) (Q:=λc p8=>(∃g,p8=dG st g) /\ ((cO λx d=>c=(some x,d) /\ sW less a b x) \/ kr λo' i' j' d=>d_ (c=(none,o',i',j',d)) (JL less a b o' i' j') (i+j+1<=i'+j'))) ?_ ?_ #[hg,o',i',j',_,rfl,J',Qu]) ?_)
    .rintro x c p8 _ hx ⟨DI,o3,i3,j3,⟨Y3,ac3,bc3⟩,rfl,J3,EG⟩;dsimp only;split;all_goals
      exact wpS_mono (wp_p1L O L T hk DI J3 EG) ?_
      rintro r gK ⟨Qj,⟨x,c,rfl,hr⟩ | ⟨o,i,j,c,rfl | rfl,J4,h4⟩⟩
      show#[Qj, .inl #[x,c,rfl,hr]]
      show#[Qj, .inr #[o,i,j,c,rfl,J4,h4]]
      show#[Qj,o,i,j,c,rfl,J4,h4]
    rintro c p8 ⟨DI,o3,i3,j3,d,rfl,J3,EG⟩;show#[DI, .inr #[o3,i3,j3,d,rfl,J3,EG]];rintro c p8 ⟨DI,⟨x,d,rfl,hr⟩ | ⟨o3,i3,j3,⟨Y3,ac3,bc3⟩,rfl,J3,EG⟩⟩;show aN #[DI,x,_,rfl,hr];dsimp only;exact aG (wpS_modify (aN #[?_,o3,i3,j3,_,rfl,J3, ∅]));let⟨g,rfl⟩:=DI;show#[_,rfl]
 rintro c bD ⟨hg,o,i,j,mg,rfl,J,hN⟩;have:=J.hi;have:=J.hj;lia;rintro c bD ⟨⟨g,rfl⟩,x,d,rfl,hr⟩;show aN (h x g hr)
end
def ue (h:y∈xs.toList.take i): ∃n,d_ (n<i) (n<xs.size) (y=dc xs n):=by let⟨n,hn⟩:=cA.mp h;rw[List.getElem?_take] at hn;split at hn;have hl:=(aj.mp hn).1;have qD:n<xs.size:= ⇑hl;rw[iO qD] at hn;show#[n, ∅,qD,(bG hn).symm];cases hn
def A7 (h:y∈(xs.toList.take i).drop k): ∃n,fZ (k<=n) (n<i) (n<xs.size) (y=dc xs n):=by rw[List.drop_take] at h;let⟨n,h1,h2,h3,e⟩:=vA h;show#[n,h1, ∅,h3,e]
def Wc (h0:1<=i)(h:i<=xs.size):(xs.toList.take i).drop (i - 1)= [dc xs (i - 1)]:=by rw[List.drop_take,show i - (i - 1)=1 by lia,xh ∅]
def nn (xs:i9 iI)(k i:Nat):(xs.extract k i).toList=(xs.toList.take i).drop k:=by rw[Array.toList_extract,List.extract_eq_take_drop,List.drop_take]
def Cm (xs:i9 iI)(i:Nat):(xs.extract 0 i).toList=xs.toList.take i:=by rw[nn,List.drop_zero]
section
variable {prog:Program}{w:World}{A:Around}{E:fm ->fo ->Prop}{s:fo}{kd:SortKind}{a₀:i9 iI}{less:iI ->iI ->Bool}
structure JH (less:Keyed ->Keyed ->Bool)(a b o:Array Keyed)(i j:Nat):Prop where
 mi:MH less a.toList b.toList o.toList.reverse i j
 hi:1<=i
 hj:2<=j
 ia:i<=a.size
 jb:j<=b.size
variable {a b:i9 iI}
def nT (T:vo less a₀ a b)(h:MH less a.toList b.toList o.toList.reverse i j)(hj:i=0 \/ j=0):sW less a b (Jd a b o i j):=by unfold sW Jd;rw[cL,cL,Cm,Cm,Array.toList_reverse];exact h.fin T.sa T.sb λx hx y hy=> ?_;obtain hj | hj:=hj;subst hj;simp at hx;subst hj;simp at hy
def qR (O:Ord less)(T:vo less a₀ a b)(h:MH less a.toList b.toList o.toList.reverse i j)(hj:j=1):sW less a b (RF a b o i j):=by
 unfold sW RF;rw[cL,cL,Cm,Cm,Array.toList_reverse];have:=h.swap.fin T.sb T.sa λx hx y hy=>by let⟨n,n1,n2,rfl⟩:=ue hx;let⟨k,k1,k2,rfl⟩:=ue hy;rw[show n=0 by lia];show O.trans _ _ _ (O.le T.h0) (mD O T.sa (du _) k2)
 show#[this.1.trans eX,this.2]
def vM (O:Ord less)(T:vo less a₀ a b){o:i9 iI}(h:MH less a.toList b.toList o.toList.reverse i j)(h1:1<=i)(hi:i<=a.size)(hj:j<=b.size)(hc:1<=j ->LE less (dc b (j - 1)) (dc a (i - 1))):MH less a.toList b.toList (o.push (dc a (i - 1))).toList.reverse (i - 1) j:=by
 have:=h.Lk T.sa (k:=i - 1) ∅ λx hx y hy=>by rw[Wc h1 hi] at hx;rw[ah.mp hx];let⟨k,k1,k2,rfl⟩:=ue hy;show O.trans _ _ _ (mD O T.sb (show k<=j - 1 by lia) ∅) (hc ∅)
 rw[Wc h1 hi] at this;rw[Array.toList_push,List.reverse_append];show this
def BB (O:Ord less)(T:vo less a₀ a b){o:i9 iI}(h:MH less a.toList b.toList o.toList.reverse i j)(h1:1<=j)(hi:i<=a.size)(hj:j<=b.size)(hc:1<=i ->LE less (dc a (i - 1)) (dc b (j - 1))):MH less a.toList b.toList (o.push (dc b (j - 1))).toList.reverse i (j - 1):=by have:=(h.swap.Lk T.sb (k:=j - 1) ∅ λx hx y hy=>by rw[Wc h1 hj] at hx;rw[ah.mp hx];let⟨k,k1,k2,rfl⟩:=ue hy;show O.trans _ _ _ (mD O T.sa (show k<=i - 1 by lia) ∅) (hc ∅)).swap;rw[Wc h1 hj] at this;rw[Array.toList_push,List.reverse_append];show this
def Bu (o x:i9 iI):(o++x.reverse).toList.reverse=x.toList++o.toList.reverse:=by rw[cL,Array.toList_reverse,List.reverse_append,List.reverse_reverse]
def QV (less:iI ->iI ->Bool)(a b:i9 iI)(st:Uh)(N:Nat)(r:ForInStep S7)(bD:Uh):Prop:=(∃g,bD=dG st g) /\ ((cO λx c=>r= .done (some x,c) /\ sW less a b x) \/ (kr λi j o c=>d_ (r= .done (none,i,j,o,c) \/ r= .yield (none,i,j,o,c)) (JH less a b o i j) (i+j<=N)))
def wp_p3H (O:Ord less)(T:vo less a₀ a b){st bD:Uh}(hg: ∃g,bD=dG st g)(J:JH less a b o i j)(hc:LE less (dc b (j - 1)) (dc a (i - 1)))(hN:i+j<=N):wpS (model prog w) A E s (Wo a b mg ac bc i j o) (QV less a b st N) bD:=by
 unfold Wo;have hi:=J.hi;have ia:=J.ia;exact aG (wp_elem ∅ ?_);have m:=vM O T J.mi J.hi J.ia J.jb λ_=>hc;by_cases c:i - 1=0;rw[am ⇑c];show aN #[hg, .inl #[_,_,rfl,nT T m (.inl c)]];rw[ai ⇑c];have J':JH less a b (o.push (dc a (i - 1))) (i - 1) j:=#[m, ∅,J.hj, ∅,J.jb]
 split;show aN #[hg, .inr #[_,_,_,_, .inl rfl,J', ∅]];show aN #[hg, .inr #[_,_,_,_, .inr rfl,J', ∅]]
def wp_p2H (O:Ord less)(L:jL prog w A E s kd a₀ less)(T:vo less a₀ a b){st bD:Uh}(hk:kindOf bD=kd)(hg: ∃g,bD=dG st g)(J:JH less a b o i j)(hc:LE less (dc a (i - 1)) (dc b (j - 1)))(hN:i+j<=N):wpS (model prog w) A E s (Wq a b mg ac bc i j o) (QV less a b st N) bD:=by
 unfold Wq;have hi:=J.hi;have hj:=J.hj;have ia:=J.ia;have jb:=J.jb;exact aG (wp_elem ∅ ?_);have m:=BB O T J.mi ∅ ia jb λ_=>hc;by_cases c:j - 1=1;rw[am ⇑c];show aN #[hg, .inl #[_,_,rfl,qR O T m c]];rw [ai ⇑c];exact aG (wp_elem ∅ ?_);have sg:=vF O T.sb (i:=0) (n:=j - 1) ∅;exact aG (wp_galL O L hk (T.ma (i - 1) ∅) (λk hk=>#[∅,T.mb _ ∅]) ∅ sg λk h1 h2 h3=> ?_);dsimp only;simp![Nat.zero_add] at h2 h3;by_cases ck:j - 1 - k >0;rw[am ck];have m2:MH less a.toList b.toList (o.push (dc b (j - 1))++(b.extract k (j - 1)).reverse).toList.reverse i k:=by rw[Bu,nn];exact(m.swap.Lk T.sb ∅ λx hx y hy=> ?_).swap;let⟨n,n1,n2,n3,rfl⟩:=A7 hx;let⟨k',k1,k2,rfl⟩:=ue hy;show O.trans _ _ _ (mD O T.sa (show k'<=i - 1 by lia) ∅) (h3 n n1 n2)
 by_cases c2:k=1;rw[am ⇑c2];show aN #[hg, .inl #[_,_,rfl,qR O T m2 c2]];rw[ai ⇑c2];by_cases c3:k=0;rw[am ⇑c3];show aN #[hg, .inl #[_,_,rfl,nT T m2 (.inr c3)]];rw[ai ⇑c3];show wp_p3H O T hg #[m2,hi, ∅,ia, ∅] (O.le (h2 (k - 1) ∅)) ∅;rw[ai ck];show wp_p3H O T hg #[m,hi, ∅,ia, ∅] (O.le (h2 (j - 1 - 1) ∅)) ∅
def wp_p1H (O:Ord less)(L:jL prog w A E s kd a₀ less)(T:vo less a₀ a b){st bD:Uh}(hk:kindOf st=kd)(hg: ∃g,bD=dG st g)(J:JH less a b o i j)(hN:i+j<=N):wpS (model prog w) A E s (Ws a b mg ac bc i j o) (QV less a b st N) bD:=by
 unfold Ws;have hi:=J.hi;have hj:=J.hj;have ia:=J.ia;have jb:=J.jb;exact aG (wpS_modify ?_);have Hm: ∃g,dG bD mg=dG st g:=by let⟨g,rfl⟩:=hg;show#[mg,rfl]
 have w5:kindOf (dG bD mg)=kd:=by let⟨g,rfl⟩:=hg;show hk
 exact aG (wp_elem ∅ ?_);have sg:=vF O T.sa (i:=0) (n:=i) ∅;exact aG (wp_galR O L w5 (T.mb (j - 1) ∅) (λk hk=>#[∅,T.ma _ ∅]) ∅ sg λk h1 h2 h3=> ?_);dsimp only;simp![Nat.zero_add] at h2 h3;by_cases ck:i - k >0;rw[am ck];have m2:MH less a.toList b.toList (o++(a.extract k i).reverse).toList.reverse k j:=by rw[Bu,nn];exact J.mi.Lk T.sa ∅ λx hx y hy=> ?_;let⟨n,n1,n2,n3,rfl⟩:=A7 hx;let⟨k',k1,k2,rfl⟩:=ue hy;show O.trans _ _ _ (mD O T.sb (show k'<=j - 1 by lia) ∅) (O.le (h3 n n1 n2))
 by_cases c2:k=0;rw[am ⇑c2];show aN #[Hm, .inl #[_,_,rfl,nT T m2 (.inl c2)]];rw[ai ⇑c2];show wp_p2H O L T w5 Hm #[m2, ∅,hj, ∅,jb] (h2 (k - 1) ∅) ∅;rw[ai ck];show wp_p2H O L T w5 Hm J (h2 (i - 1) ∅) hN
def wp_two1 (O:Ord less)(L:jL prog w A E s kd a₀ less)(T:vo less a₀ a b)(hk:kindOf bD=kd)(J:JH less a b o i j)(h1: ∀x c,sW less a b x ->Q (.done (some x,c)) bD)(h2: ∀i' j' o c,JH less a b o i' j' ->i'+j'+1=i+j ->Q (.done (none,i',j',o,c)) bD /\ Q (.yield (none,i',j',o,c)) bD): wpS (model prog w) A E s (Oj a b mg i j o ac bc) Q bD:=by
 unfold Oj;have hi:=J.hi;have hj:=J.hj;have ia:=J.ia;have jb:=J.jb;exact aG (wp_elem ∅ (aG (wp_elem ∅ (aG (L _ _ _ _ (T.mb (j - 1) ∅) (T.ma (i - 1) ∅) hk ?_)))));dsimp only;cases e:less (dc b (j - 1)) (dc a (i - 1)) with
 | true=>simp![bZ];exact aG (wp_elem ∅ ?_);have m:=vM O T J.mi hi ia jb λ_=>O.le e;by_cases c:i - 1=0;rw[am ⇑c];show aN (h1 _ _ (nT T m (.inl c)));rw[ai ⇑c];have:=h2 (i - 1) j _ (ac+1,0) #[m, ∅,hj, ∅,jb] ∅;split;show aN this.1;show aN this.2
 | false=>simp![aB,bj];exact aG (wp_elem ∅ ?_);have m:=BB O T J.mi ∅ ia jb λ_=>e;by_cases c:j - 1=1;rw[am ⇑c];show aN (h1 _ _ (qR O T m c));rw[ai ⇑c];have:=h2 i (j - 1) _ (0,bc+1) #[m,hi, ∅,ia, ∅] ∅;split;show aN this.1;show aN this.2
def wp_mHi (O:Ord less)(L:jL prog w A E s kd a₀ less)(T:vo less a₀ a b){st:Uh}(hk:kindOf st=kd)(h: ∀r g,sW less a b r ->Q r (dG st g)):wpS (model prog w) A E s (Y5 a b) Q st:=by
 rw[Dn];have na:=T.na;have nb:=T.nb;exact aG (wpS_lift (wpAny_rule #[rfl,?_]));exact aG (wp_elem ∅ ?_);have h': ∀r,sW less a b r ->Q r st:=λr hr=>h r (gallopOf st) hr;have m:MH less a.toList b.toList (#[dc a (a.size - 1)]:i9 iI).toList.reverse (a.size - 1) b.size:=by
  have m0:MH less a.toList b.toList (#[]:i9 iI).toList.reverse a.size b.size:=#[by simp,by simp,by simp,by simp]
  show vM O T m0 ∅ (ap _) (ap _) λ_=>O.le (T.hl _ ∅)
 by_cases c:a.size - 1=0;rw[am ⇑c];show aN (h' _ (nT T m (.inl c)));rw[ai ⇑c];by_cases c2:b.size=1;rw[am ⇑c2];show aN (h' _ (qR O T m c2));rw[ai ⇑c2];exact aG (wpS_get ?_);exact aG (wpS_mono (cX (I:=λn c bD=>(∃g,bD=dG st g) /\ kr λi j o mg=>d_ (c=(none,i,j,o,mg)) (JH less a b o i j) (i+j+n<a.size+b.size)) (Q:=λc bD=>(∃g,bD=dG st g) /\ cO λx d=>c=(some x,d) /\ sW less a b x) ?_ ?_ #[#[gallopOf st,rfl],_,_,_,_,rfl,#[m, ∅, ∅, ∅, ∅], ∅]) ?_)
 .rintro n c bD _ hn ⟨hg,i,j,o,mg,rfl,J,hN⟩;unfold J5;dsimp only;have w5:kindOf bD=kd:=by let⟨g,rfl⟩:=hg;show hk
  exact aG (wpS_mono (cX (I:=λx c mU=>mU=bD /\ kr λi' j' o' d=>d_ (c=(none,i',j',o',d)) (JH less a b o' i' j') (i'+j'+x=i+j)) (Q:=λc mU=>mU=bD /\ ((cO λx d=>c=(some x,d) /\ sW less a b x) \/ kr λi' j' o' d=>d_ (c=(none,i',j',o',d)) (JH less a b o' i' j') (i'+j'+1<=i+j))) ?_ ?_ #[rfl,i,j,o,_,rfl,J,rfl]) ?_);rintro x c mU _ hx ⟨rfl,i',j',o',⟨ac,bc⟩,rfl,J',Qu⟩;dsimp only;exact wp_two1 O L T w5 J' (λx c hr=>#[rfl, .inl #[x,c,rfl,hr]]) λi2 j2 o2 c J2 h2=>#[#[rfl, .inr #[i2,j2,o2,c,rfl,J2, ∅]],#[rfl,i2,j2,o2,c,rfl,J2, ∅]]
  rintro c mU ⟨rfl,i',j',o',d,rfl,J',Qu⟩;show#[rfl, .inr #[i',j',o',d,rfl,J', ∅]]
  .rintro c mU ⟨rfl,⟨x,d,rfl,hr⟩ | ⟨i',j',o',⟨ac,bc⟩,rfl,J',Qu⟩⟩;show aN #[hg,x,_,rfl,hr]
   .dsimp only;exact aG (wpS_lift (wpAny_rule #[rfl,?_]));exact aG (wpS_mono (cX (I:=λx c p8=>(∃g,p8=dG st g) /\ kr λi' j' o' d=>d_ (c=(none,i',j',o',d)) (JH less a b o' i' j') (i'+j'+1<=i+j)) (Q:=λc p8=>(∃g,p8=dG st g) /\ ((cO λx d=>c=(some x,d) /\ sW less a b x) \/ kr λi' j' o' d=>d_ (c=(none,i',j',o',d)) (JH less a b o' i' j') (i'+j'+1<=i+j))) ?_ ?_ #[hg,i',j',o',_,rfl,J',Qu]) ?_)
    .rintro x c p8 _ hx ⟨DI,i3,j3,o3,⟨Y3,ac3,bc3⟩,rfl,J3,EG⟩;dsimp only;split;all_goals
      exact wpS_mono (wp_p1H O L T (N:=i+j - 1) hk DI J3 ∅) ?_
      rintro r gK ⟨Qj,⟨x,c,rfl,hr⟩ | ⟨i4,j4,o4,c,rfl | rfl,J4,h4⟩⟩
      show#[Qj, .inl #[x,c,rfl,hr]]
      show#[Qj, .inr #[i4,j4,o4,c,rfl,J4, ∅]]
      show#[Qj,i4,j4,o4,c,rfl,J4, ∅]
    rintro c p8 ⟨DI,i3,j3,o3,d,rfl,J3,EG⟩;show#[DI, .inr #[i3,j3,o3,d,rfl,J3,EG]];rintro c p8 ⟨DI,⟨x,d,rfl,hr⟩ | ⟨i3,j3,o3,⟨Y3,ac3,bc3⟩,rfl,J3,EG⟩⟩;show aN #[DI,x,_,rfl,hr];dsimp only;exact aG (wpS_modify (aN #[?_,i3,j3,o3,_,rfl,J3, ∅]));let⟨g,rfl⟩:=DI;show#[_,rfl]
 rintro c bD ⟨hg,i,j,o,mg,rfl,J,hN⟩;have:=J.hi;have:=J.hj;lia;rintro c bD ⟨⟨g,rfl⟩,x,d,rfl,hr⟩;show aN (h x g hr)
end
def AT (xs:i9 iI)(at_:Nat)(l:fk (iI×Nat)):i9 iI:=l.foldl (λa (p,j)=>a.setIfInBounds (at_+j) p) xs
theorem za (at_ n:Nat): ∀ (ms:fk iI) (k:Nat) (xs:i9 iI),at_+k+ms.length<=xs.size ->(AT xs at_ (ms.zipIdx k))[n]? =if at_+k<=n /\ n<at_+k+ms.length then ms[n - (at_+k)]? else xs[n]?
 | [],k,xs,h=>by rw[ai (by simp)];rfl
 | p ::ms,k,xs,h=>by rw[aP] at h;change(AT (xs.setIfInBounds (at_+k) p) at_ (ms.zipIdx (k+1)))[n]? =_;rw[za at_ n ms (k+1) _ (by rw[Array.size_setIfInBounds];lia)];rw[aP];by_cases c:n=at_+k;subst c;rw[ai ∅,am ∅,Array.getElem?_setIfInBounds_self_of_lt ∅];simp;rw[Array.getElem?_setIfInBounds_ne (aW c)];by_cases c2:at_+(k+1) <=n /\ n<at_+(k+1)+ms.length;rw[am c2,am ∅,show n - (at_+k)=(n - (at_+(k+1)))+1 by lia,List.getElem?_cons_succ];rw[ai c2,ai ∅]
def EM (h:at_+ms.length<=xs.size):(AT xs at_ ms.zipIdx).toList=xs.toList.take at_++(ms++xs.toList.drop (at_+ms.length)):=by
 apply List.ext_getElem?;intro n;have e:=za at_ n ms 0 xs ∅;rw[Nat.add_zero] at e;have e':(AT xs at_ ms.zipIdx).toList[n]? =(AT xs at_ ms.zipIdx)[n]? :=by simp
 rw[e',e];have hx: ∀k:Nat,xs.toList[k]? =xs[k]? :=λk=>Array.getElem?_toList ..;by_cases c1:n<at_;rw[ai ∅,bo (by rw[bg];simp;lia),List.getElem?_take,am c1,hx];have lt:(xs.toList.take at_).length=at_:=by rw[bg];simp;lia
 rw[a5 ∅,lt];by_cases c2:n<at_+ms.length;rw[am ∅,bo ∅];rw[ai ∅,a5 ∅,d5,hx];congr 1;lia
def three (l:fk iI)(i j k:Nat)(iJ:i<=j)(hjk:j<=k)(hk:k<=l.length):l=l.take i++((l.take j).drop i++((l.take k).drop j++l.drop k)):=by
 have e1:(l.take k).drop j++l.drop k=l.drop j:=by rw[List.drop_take];have:=bm (k - j) (l.drop j);rw[List.drop_drop,show j+(k - j)=k by lia] at this;show this
 have e2:(l.take j).drop i++l.drop j=l.drop i:=by rw[List.drop_take];have:=bm (j - i) (l.drop i);rw[List.drop_drop,show i+(j - i)=j by lia] at this;show this
 rw[e1,e2,bm]
def HE (O:Ord less){i j lo hi:Nat}(h:Sg less xs lo hi)(h1:lo<=i)(h2:j<=hi)(h3:hi<=xs.size):(xs.extract i j).toList.Pairwise (LE less):=by
 rw[bL];intro x y hx hy hxy;have e: ∀n (hn:n< (xs.extract i j).toList.length),(xs.extract i j).toList[n]=dc xs (i+n):=λn hn=>by
  have Qd:n< (xs.extract i j).size:=by rw[c_] at hn;show hn
  rw[Array.size_extract] at Qd;unfold dc;rw[getElem?_pos xs (i+n) ∅];simp
 rw[e x hx,e y hy];have Uk:y< (xs.extract i j).size:=by rw[c_] at hy;show hy
 rw[Array.size_extract] at Uk;show h _ _ ∅ ∅ ∅
def l9 (h:n< (xs.extract i j).size):dc (xs.extract i j) n=dc xs (i+n):=by unfold dc;rw[Array.size_extract] at h;rw[Array.getElem?_extract,am ∅]
abbrev Rn:=Nat×Nat×Nat
theorem Pu (i:Nat):mergeAt' i=(do
 let s <- get
 let (some (sa,na,pw),some (sb,nb,_)):=((pendingOf s)[i]?,(pendingOf s)[i+1]?) | unsupported "internal:list.sort.pending"
 set (setPending s (((pendingOf s).setIfInBounds i (sa,na+nb,pw)).eraseIdxIfInBounds (i+1)))
 let some k <- K_ false (<- elem' (arrOf s) sb) (arrOf s) sa na 0 | return false
 let (sa,na):=(sa+k,na - k)
 if na==0 then return true
 let some nb <- K_ true (<- elem' (arrOf s) (sa+na - 1)) (arrOf s) sb nb (nb - 1) | return false
 if nb==0 then return true
 let x:=(arrOf s).extract sa sb
 let y:=(arrOf s).extract sb (sb+nb)
 let r <- if na<=nb then Y4 x y else Y5 x y
 modify λs=>setArr s (AT (arrOf s) sa r.toList.zipIdx)
 return(failedOf (<- get)).isNone):=rfl
def Jj {st:σ}(h:Q ⟨⟩ v):wpS M A E s (set v:StateT σ Sem PUnit) Q st:=by unfold wpS;rw[StateT.run_set];show aC #[rfl,h]
def wp_mAt (O:Ord less)(L:jL prog w A E s kd a₀ less){st:Uh}{l1 l2:fk Rn}(B:SB kd a₀ st)(hp:pendingOf st=(l1++(sa,na,pw)::(sb,nb,Yw)::l2).toArray)(hi:i=l1.length)(PR:sb=sa+na)(h1:1<=na)(h2:1<=nb)(hz:sb+nb<=a₀.size)(s1:Sg less (arrOf st) sa sb)(s2:Sg less (arrOf st) sb (sb+nb))(h: ∀bD,SB kd a₀ bD ->pendingOf bD=(l1++(sa,na+nb,pw)::l2).toArray ->Sg less (arrOf bD) sa (sb+nb) ->qL sa (sb+nb) (arrOf st) (arrOf bD) ->Q true bD):wpS (model prog w) A E s (mergeAt' i) Q st:=by
 subst hi;rw[Pu];exact aG (wpS_get ?_);have p1:(pendingOf st)[l1.length]? =some (sa,na,pw):=by rw[hp];simp
 have p2:(pendingOf st)[l1.length+1]? =some (sb,nb,Yw):=by rw[hp];simp[a5]
 rw[p1,p2];dsimp only;exact aG (Jj ?_);have hpd:((pendingOf st).setIfInBounds l1.length (sa,na+nb,pw)).eraseIdxIfInBounds (l1.length+1)=(l1++(sa,na+nb,pw)::l2).toArray:=by rw[hp];simp![List.setIfInBounds_toArray,List.eraseIdxIfInBounds_toArray];congr 1;rw[List.set_append_right _ _ (ap _),Nat.sub_self,List.set_cons_zero];rw[List.eraseIdx_append_of_length_le ∅,show l1.length+1 - l1.length=1 by lia];rfl
 rw[hpd];let CZ:Uh:=setPending st (l1++(sa,na+nb,pw)::l2).toArray
 have B1:SB kd a₀ CZ:=#[B.perm,B.kd,B.fl]
 have hsz:=B.size;change wpS _ _ _ _ _ Q CZ;exact aG (wp_elem ∅ ?_);exact aG (wp_galR O L B.kd (B.mem ∅) (λk hk=>#[∅,B.mem ∅]) ∅ (by rw[<- PR];show s1) λk g1 g2 g3=> ?_);dsimp only;by_cases c1:na - k=0;rw [am ⇑c1];exact aN (h CZ B1 rfl (λi j hi iJ hj=> ?_) qL.refl);change LE less (dc (arrOf st) i) (dc (arrOf st) j);by_cases c2:j<sb;show s1 i j hi iJ c2;by_cases c3:sb<=i;show s2 i j c3 iJ hj;have:=g2 (i - sa) ∅;rw[show sa+(i - sa)=i by lia] at this;show O.trans _ _ _ this (s2 sb j (ap _) ∅ hj);rw [ai ⇑c1];exact aG (wp_elem ∅ ?_);rw[show sa+k+(na - k) - 1=sb - 1 by lia];exact aG (wp_galL O L B.kd (B.mem ∅) (λk hk=>#[∅,B.mem ∅]) ∅ s2 λm f1 f2 f3=> ?_);dsimp only;by_cases c2:m=0;rw [am ⇑c2];exact aN (h CZ B1 rfl (λi j hi iJ hj=> ?_) qL.refl);change LE less (dc (arrOf st) i) (dc (arrOf st) j);by_cases c2:j<sb;show s1 i j hi iJ c2;by_cases c3:sb<=i;show s2 i j c3 iJ hj;have:=f3 (j - sb) ∅ ∅;rw[show sb+(j - sb)=j by lia] at this;show O.trans _ _ _ (s1 i (sb - 1) hi ∅ ∅) this;rw [ai ⇑c2];have KD:((arrOf st).extract (sa+k) sb).size=na - k:=by rw[Array.size_extract];lia
 have G8:((arrOf st).extract sb (sb+m)).size=m:=by rw[Array.size_extract];lia
 have T:vo less a₀ ((arrOf st).extract (sa+k) sb) ((arrOf st).extract sb (sb+m)):=by exact#[HE O s1 ∅ (ap _) ∅,HE O s2 (ap _) ∅ ∅,λi hi=> ?_,λi hi=> ?_, ∅, ∅,?_,λj hj=> ?_];rw[l9 hi];rw[KD] at hi;show B.mem ∅;rw[l9 hi];rw[G8] at hi;show B.mem ∅;rw[l9 ∅,l9 ∅];show g3 k (ap _) ∅;rw[l9 hj,l9 ∅];rw[G8] at hj;rw[KD,show sa+k+(na - k - 1)=sb - 1 by lia];show f2 j hj
 have fin : ∀ (r:i9 iI) (g:Nat),sW less ((arrOf st).extract (sa+k) sb) ((arrOf st).extract sb (sb+m)) r ->wpS (model prog w) A E s (do modify λs=>setArr s (AT (arrOf s) (sa+k) r.toList.zipIdx);return(failedOf (<- get)).isNone) Q (dG CZ g):=by
  rintro r g ⟨rp,rs⟩;have rl:r.toList.length=sb+m - (sa+k):=by
   rw[rp.length_eq,aR];have e1:((arrOf st).extract (sa+k) sb).toList.length=na - k:=by rw[c_];show KD
   have e2:((arrOf st).extract sb (sb+m)).toList.length=m:=by rw[c_];show G8
   rw[e1,e2];lia
  have wl:=EM (xs:=arrOf st) (at_:=sa+k) (ms:=r.toList) (by rw[rl,hsz];lia);rw[rl,show sa+k+(sb+m - (sa+k))=sb+m by lia] at wl;have wa: ∀n,dc (AT (arrOf st) (sa+k) r.toList.zipIdx) n=if sa+k<=n /\ n<sb+m then(r.toList[n - (sa+k)]?).getD (.none, .none) else dc (arrOf st) n:=λn=>by have e:=za (sa+k) n r.toList 0 (arrOf st) (by rw[rl,hsz];lia);rw[Nat.add_zero,rl,show sa+k+(sb+m - (sa+k))=sb+m by lia] at e;unfold dc;rw[e];split<;>rfl
  have wm: ∀n,sa+k<=n ->n<sb+m -> ∃n',d_ (sa+k<=n') (n'<sb+m) (dc (AT (arrOf st) (sa+k) r.toList.zipIdx) n=dc (arrOf st) n'):=λn n1 n2=>by rw[wa,am #[n1,n2],ae ∅];have hm:=rp.mem_iff.mp (cq (l:=r.toList) (n:=n - (sa+k)) ∅);obtain hm | hm:=aA.mp hm;rw[nn] at hm;let⟨q,q1,q2,q3,e⟩:=A7 hm;show#[q,q1, ∅,e];rw[nn] at hm;let⟨q,q1,q2,q3,e⟩:=A7 hm;show#[q, ∅,q2,e]
  exact aG (wpS_modify ?_);exact aG (wpS_get (aN ?_));have ef:(failedOf (setArr (dG CZ g) (AT (arrOf (dG CZ g)) (sa+k) r.toList.zipIdx))).isNone=true:=by change(failedOf st).isNone=true;rw[B.fl];rfl
  rw[ef];exact h _ #[?_,B.kd,B.fl] rfl (λi j hi iJ hj=> ?_) (λn hn=> ?_);change(AT (arrOf st) (sa+k) r.toList.zipIdx).Perm a₀;exact Array.Perm.trans ?_ B.perm;rw[Array.perm_iff_toList_perm,wl];have e3:=three (arrOf st).toList (sa+k) sb (sb+m) ∅ ∅ (by simp;lia);exact List.Perm.trans ?_ (List.Perm.of_eq e3.symm);exact List.Perm.append_left _ ?_;rw[<- cu];exact List.Perm.append_right _ ?_;rw[nn,nn] at rp;show rp;change LE less (dc (AT (arrOf st) (sa+k) r.toList.zipIdx) i) (dc (AT (arrOf st) (sa+k) r.toList.zipIdx) j);have Kz: ∀x y,sa<=x ->x<sa+k ->sa+k<=y ->y<sb+nb ->LE less (dc (arrOf st) x) (dc (arrOf st) y):=λx y x1 x2 y1 y2=>by by_cases c:y<sb;show s1 x y x1 ∅ c;have:=g2 (x - sa) ∅;rw[show sa+(x - sa)=x by lia] at this;show O.trans _ _ _ this (s2 sb y (ap _) ∅ y2)
  have Zd: ∀x y,sa+k<=x ->x<sb+m ->sb+m<=y ->y<sb+nb ->LE less (dc (arrOf st) x) (dc (arrOf st) y):=λx y x1 x2 y1 y2=>by by_cases c:x<sb;have:=f3 (y - sb) ∅ ∅;rw[show sb+(y - sb)=y by lia] at this;show O.trans _ _ _ (s1 x (sb - 1) ∅ ∅ ∅) this;show s2 x y ∅ ∅ y2
  by_cases i1:i<sa+k;have ei:=wa i;rw[ai ∅] at ei;rw[ei];by_cases j1:j<sa+k;have ej:=wa j;rw[ai ∅] at ej;rw[ej];show s1 i j hi iJ ∅;by_cases j2:j<sb+m;let⟨n',n1,n2,e⟩:=wm j ∅ j2;rw[e];show Kz i n' hi i1 n1 ∅;have ej:=wa j;rw[ai ∅] at ej;rw[ej];show Kz i j hi i1 ∅ hj;by_cases i2:i<sb+m;by_cases j2:j<sb+m;rw[wa i,wa j,am ∅,am ∅,ae ∅,ae ∅];by_cases cij:i=j;subst cij;show O.refl _;show bL.mp rs _ _ ∅ ∅ ∅;let⟨n',n1,n2,e⟩:=wm i ∅ i2;have ej:=wa j;rw[ai ∅] at ej;rw[e,ej];show Zd n' j n1 n2 ∅ hj;have ei:=wa i;have ej:=wa j;rw[ai ∅] at ei ej;rw[ei,ej];show s2 i j ∅ iJ hj;change dc (AT (arrOf st) (sa+k) r.toList.zipIdx) n=_;rw[wa n,ai ∅]
 by_cases c3:na - k<=m;rw[am c3];show aG (wp_mLo O L T B.kd λr g hr=>fin r g hr);rw[ai c3];show aG (wp_mHi O L T B.kd λr g hr=>fin r g hr)
def Runs (less:iI ->iI ->Bool)(xs:i9 iI):fk Rn ->Nat ->Nat ->Prop
 | [],lo,hi=>lo=hi
 | (a,n,_)::r,lo,hi=>a=lo /\ 1<=n /\ Sg less xs lo (lo+n) /\ Runs less xs r (lo+n) hi
theorem Runs.le {less:iI ->iI ->Bool}{xs:i9 iI}: ∀ {l:fk Rn} {lo hi:Nat},Runs less xs l lo hi ->lo+l.length<=hi
 | [],lo,hi,h=>Nat.le_of_eq h
 | (a,n,p)::r,lo,hi,h=>by have:=Runs.le h.2.2.2;have:=h.2.1;rw[aP];lia
theorem Runs.app {less:iI ->iI ->Bool}{xs:i9 iI}: ∀ {l1 l2:fk Rn} {lo hi:Nat},Runs less xs (l1++l2) lo hi↔ ∃m,Runs less xs l1 lo m /\ Runs less xs l2 m hi
 | [],l2,lo,hi=>#[λh=>#[lo,rfl,h],λ⟨m,e,h⟩=>by cases e;show h]
 | (a,n,p)::r,l2,lo,hi=>by symm;rintro⟨h1,h2,h3,h4⟩;let⟨m,a1,a2⟩:=Runs.app.mp h4;show#[m,#[h1,h2,h3,a1],a2];rintro⟨m,⟨h1,h2,h3,a1⟩,a2⟩;show#[h1,h2,h3,Runs.app.mpr #[m,a1,a2]]
theorem Runs.out {less:iI ->iI ->Bool}{xs ys:i9 iI}{e1 e2:Nat}(o:qL e1 e2 xs ys): ∀ {l:fk Rn} {lo hi:Nat},(hi<=e1 \/ e2<=lo) ->Runs less xs l lo hi ->Runs less ys l lo hi
 | [],lo,hi,_,h=>h
 | (a,n,p)::r,lo,hi,hc,⟨h1,h2,h3,h4⟩=>by have:=Runs.le h4;exact#[h1,h2,λi j hi iJ hj=> ?_,Runs.out o ∅ h4];rw[o i ∅,o j ∅];show h3 i j hi iJ hj
theorem FC {e1 e2 lo hi:Nat}(o:qL e1 e2 xs ys)(hc:hi<=e1 \/ e2<=lo)(h:Sg less xs lo hi):Sg less ys lo hi:=λi j hi iJ hj=>by rw[o i ∅,o j ∅];show h i j hi iJ hj
def E5 {l:fk α}(h:2<=l.length):im λl1 x y=>l=l1++ [x,y]:=by exact#[l.take (l.length - 2),l[l.length - 2],l[l.length - 1],?_];have:=bm (l.length - 2) l;rw[dE ∅,dE ∅,List.drop_eq_nil_of_le ∅] at this;have e:l.length - 2+1=l.length - 1:= ∅;simp![e] at this;show this.symm
theorem Bi {α:Type}{l:fk α}(h:l≠ []): ∃l1 x,l=l1++ [x]:=#[l.dropLast,l.getLast h,(List.dropLast_concat_getLast h).symm]
def xO (l1:fk Rn)(x:Rn)(f:Rn ->Rn):(l1++ [x]).modify l1.length f=l1++ [f x]:=by
 induction l1 with
 | nil=>rfl
 | cons a l ih=>rw[List.cons_append,aP,List.modify_succ_cons,ih];rfl
def wp_mR (O:Ord less)(L:jL prog w A E s kd a₀ less){st:Uh}{x y:Rn}{i lo:Nat}(B:SB kd a₀ st)(hp:pendingOf st=(l1++x::y::l2).toArray)(hi:i=l1.length)(hz:lo<=a₀.size)(R:Runs less (arrOf st) (l1++x::y::l2) 0 lo)(h: ∀bD z,SB kd a₀ bD ->pendingOf bD=(l1++z::l2).toArray ->Runs less (arrOf bD) (l1++z::l2) 0 lo ->qL 0 lo (arrOf st) (arrOf bD) ->Q true bD):wpS (model prog w) A E s (mergeAt' i) Q st:=by let⟨sa,na,pw⟩:=x;let⟨sb,nb,Yw⟩:=y;let⟨m,r1,rfl,h1,s1,rfl,h2,s2,r2⟩:=Runs.app.mp R;have W6:=r2.le;exact wp_mAt O L B hp hi rfl h1 h2 ∅ s1 s2 λbD B' Nd s' o'=>h bD _ B' Nd ?_ λk hk=>o' k ∅;exact Runs.app.mpr #[_,r1.out o' (.inl (ap _)),rfl, ∅,?_,?_];rw[<- Nat.add_assoc];show s';rw[<- Nat.add_assoc];show r2.out o' (.inr (ap _))
def xx {a n p q lo hi:Nat}(h:Runs less xs (l1++ [(a,n,p)]) lo hi):Runs less xs (l1++ [(a,n,q)]) lo hi:=by let⟨m,r1,h1,h2,h3,h4⟩:=Runs.app.mp h;show Runs.app.mpr #[m,r1,h1,h2,h3,h4]
def wp_sort (O:Ord less)(L:jL prog w A E s kd a₀ less){st:Uh}(B:SB kd a₀ st)(ZF:pendingOf st= #[])(h2:2<=a₀.size)(h: ∀bD,(arrOf bD).Perm a₀ ->failedOf bD=none ->Sg less (arrOf bD) 0 a₀.size ->Q () bD):wpS (model prog w) A E s sortRuns' Q st:=by
 rw[sortRuns'_eq];exact aG (wpS_get ?_);dsimp only;simp![B.size];generalize minRun' a₀.size a₀.size 0=mr;exact aG (wpS_mono (cX (I:=λx c bD=>cO λlo pl=>l_ (c=(none,lo)) (x<=lo) (lo<=a₀.size) (SB kd a₀ bD) (pendingOf bD=pl.toArray) (Runs less (arrOf bD) pl 0 lo)) (Q:=λc bD=> ∃pl,fZ (c=(none,a₀.size)) (SB kd a₀ bD) (pendingOf bD=pl.toArray) (Runs less (arrOf bD) pl 0 a₀.size)) ?step ?fin #[0,[],rfl,ap _,du _,B,ZF,rfl]) ?post);case fin=>
  rintro c bD ⟨lo,pl,rfl,h1,Jb,B',hp,R⟩
  have:lo=a₀.size:= ∅
  subst this
  show#[pl,rfl,B',hp,R]
 case step =>
  rintro x c bD _ hx ⟨lo,pl,rfl,h1,Jb,B',hp,R⟩
  dsimp only
  by_cases c1:lo≥a₀.size
  rw[am c1]
  have:lo=a₀.size:= ∅
  subst this
  show aN #[pl,rfl,B',hp,R]
  rw[ai c1]
  exact aG (wp_run O L ∅ ∅ B' λm mU B2 m1 m2 s2 p2 o2=> ?_)
  dsimp only
  have R2:Runs less (arrOf mU) pl 0 lo:=R.out o2 (.inl (ap _))
  by_cases c2:m<mr
  rw [am c2]
  exact aG (wpS_lift (wpAny_rule #[rfl,?_]))
  exact aG (wp_bin O L ∅ ∅ B2 s2 λp8 B3 s3 p3 o3=> ?_)
  simp![cP,aB,bj]
  have R3:=R2.out o3 (.inl (ap _))
  have n1:1<=min (a₀.size - lo) mr:= ∅
  have n2:lo+min (a₀.size - lo) mr<=a₀.size:= ∅
  rw[p2,hp] at p3
  clear o3
  revert s3 n1 n2
  generalize min (a₀.size - lo) mr=n
  intro s3 n1 n2
  exact aG (wpS_get ?_)
  cases hb:(pendingOf p8).back? with
  | none=>dsimp only;exact aG (wpS_modify (aN #[lo+n,pl++ [(lo,n,0)],rfl, ∅,n2,#[B3.perm,B3.kd,B3.fl],?_,Runs.app.mpr #[lo,R3,rfl,n1,s3,rfl]]));change(pendingOf p8).push (lo,n,0)=_;rw[p3];simp
  | some q=>
   let⟨s1,Pn,p1⟩:=q;dsimp only;have cD:pl≠ []:=λe=>by subst e;rw[p3] at hb;simp at hb
   exact aG (wpS_mono (cX (I:=λ_ c gK=>c=(none,()) /\ ∃pl,j8 (pl≠ []) (SB kd a₀ gK) (Sg less (arrOf gK) lo (lo+n)) (pendingOf gK=pl.toArray) (Runs less (arrOf gK) pl 0 lo)) (Q:=λc gK=>c=(none,()) /\ ∃pl,j8 (pl≠ []) (SB kd a₀ gK) (Sg less (arrOf gK) lo (lo+n)) (pendingOf gK=pl.toArray) (Runs less (arrOf gK) pl 0 lo)) ?_ (λc gK h=>h) #[rfl,pl,cD,B3,s3,p3,R3]) ?_);rintro y c gK _ hy ⟨rfl,vQ,ne4,B4,s4,p4,R4⟩;exact aG (wpS_get ?_);by_cases c2:(pendingOf gK).size >1;rw[am c2];have hl:2<=vQ.length:=by rw[p4] at c2;simp at c2;lia
   let⟨l1,u,v,e4⟩:=E5 hl;have e5:(pendingOf gK).size - 2=l1.length:=by rw[p4,e4];simp
   have e6:(pendingOf gK)[(pendingOf gK).size - 2]? =some u:=by rw[e5,p4,e4];simp
   rw[e6];let⟨u1,u2,u3⟩:=u;dsimp only;split;show aN #[rfl,vQ,ne4,B4,s4,p4,R4];subst e4;exact aG (wp_mR O L (l2:= []) B4 p4 e5 ∅ R4 λQ9 z B5 p5 R5 o5=> ?_);simp![cP,aB,bj];show aN #[rfl,_,by simp,B5,FC o5 (.inr (ap _)) s4,p5,R5];rw[ai c2];show aN #[rfl,vQ,ne4,B4,s4,p4,R4];rintro c gK ⟨rfl,vQ,ne4,B4,s4,p4,R4⟩;dsimp only;exact aG (wpS_modify (aG (wpS_modify (aN ?_))));let⟨l1,⟨u1,u2,u3⟩,rfl⟩:=Bi ne4;exact#[lo+n,(l1++ [(u1,u2,power' a₀.size (2*s1+Pn) (2*s1+Pn+Pn+n) a₀.size)])++ [(lo,n,0)],rfl, ∅,n2,#[B4.perm,B4.kd,B4.fl],?_,Runs.app.mpr #[lo,xx R4,rfl,n1,s4,rfl]];change((pendingOf gK).modify ((pendingOf gK).size - 1) _).push (lo,n,0)=_;rw[p4];simp![List.modify_toArray,List.push_toArray,aU];congr 2;rw[aR,db,Nat.add_sub_cancel];show xO l1 _ _
  rw [ai c2]
  have s3:=s2
  have n1:=m1
  have n2:lo+m<=a₀.size:= ∅
  have p3:pendingOf mU=pl.toArray:=by rw[p2,hp]
  have B3:=B2
  have R3:=R2
  clear p2 o2 B2 R2 s2 m1 m2 c2
  revert s3 n1 n2
  generalize m=n
  intro s3 n1 n2
  revert p3 B3 R3 s3
  generalize mU=p8
  intro p3 B3 R3 s3
  exact aG (wpS_get ?_)
  cases hb:(pendingOf p8).back? with
  | none=>dsimp only;exact aG (wpS_modify (aN #[lo+n,pl++ [(lo,n,0)],rfl, ∅,n2,#[B3.perm,B3.kd,B3.fl],?_,Runs.app.mpr #[lo,R3,rfl,n1,s3,rfl]]));change(pendingOf p8).push (lo,n,0)=_;rw[p3];simp
  | some q=>
   let⟨s1,Pn,p1⟩:=q;dsimp only;have cD:pl≠ []:=λe=>by subst e;rw[p3] at hb;simp at hb
   exact aG (wpS_mono (cX (I:=λ_ c gK=>c=(none,()) /\ ∃pl,j8 (pl≠ []) (SB kd a₀ gK) (Sg less (arrOf gK) lo (lo+n)) (pendingOf gK=pl.toArray) (Runs less (arrOf gK) pl 0 lo)) (Q:=λc gK=>c=(none,()) /\ ∃pl,j8 (pl≠ []) (SB kd a₀ gK) (Sg less (arrOf gK) lo (lo+n)) (pendingOf gK=pl.toArray) (Runs less (arrOf gK) pl 0 lo)) ?_ (λc gK h=>h) #[rfl,pl,cD,B3,s3,p3,R3]) ?_);rintro y c gK _ hy ⟨rfl,vQ,ne4,B4,s4,p4,R4⟩;exact aG (wpS_get ?_);by_cases c2:(pendingOf gK).size >1;rw[am c2];have hl:2<=vQ.length:=by rw[p4] at c2;simp at c2;lia
   let⟨l1,u,v,e4⟩:=E5 hl;have e5:(pendingOf gK).size - 2=l1.length:=by rw[p4,e4];simp
   have e6:(pendingOf gK)[(pendingOf gK).size - 2]? =some u:=by rw[e5,p4,e4];simp
   rw[e6];let⟨u1,u2,u3⟩:=u;dsimp only;split;show aN #[rfl,vQ,ne4,B4,s4,p4,R4];subst e4;exact aG (wp_mR O L (l2:= []) B4 p4 e5 ∅ R4 λQ9 z B5 p5 R5 o5=> ?_);simp![cP,aB,bj];show aN #[rfl,_,by simp,B5,FC o5 (.inr (ap _)) s4,p5,R5];rw[ai c2];show aN #[rfl,vQ,ne4,B4,s4,p4,R4];rintro c gK ⟨rfl,vQ,ne4,B4,s4,p4,R4⟩;dsimp only;exact aG (wpS_modify (aG (wpS_modify (aN ?_))));let⟨l1,⟨u1,u2,u3⟩,rfl⟩:=Bi ne4;exact#[lo+n,(l1++ [(u1,u2,power' a₀.size (2*s1+Pn) (2*s1+Pn+Pn+n) a₀.size)])++ [(lo,n,0)],rfl, ∅,n2,#[B4.perm,B4.kd,B4.fl],?_,Runs.app.mpr #[lo,xx R4,rfl,n1,s4,rfl]];change((pendingOf gK).modify ((pendingOf gK).size - 1) _).push (lo,n,0)=_;rw[p4];simp![List.modify_toArray,List.push_toArray,aU];congr 2;rw[aR,db,Nat.add_sub_cancel];show xO l1 _ _
 case post =>
  rintro c bD ⟨pl,rfl,B',hp,R⟩
  dsimp only
  have W6:=R.le
  exact aG (wpS_mono (cX (I:=λx c gK=>c=(none,()) /\ ∃pl,fZ (SB kd a₀ gK) (pendingOf gK=pl.toArray) (Runs less (arrOf gK) pl 0 a₀.size) (pl.length<=1 \/ pl.length+x<=a₀.size)) (Q:=λc gK=>c=(none,()) /\ ∃pl,d_ (SB kd a₀ gK) (Runs less (arrOf gK) pl 0 a₀.size) (pl.length<=1)) ?_ ?_ #[rfl,pl,B',hp,R, .inr ∅]) ?_)
  rintro x c gK _ hx ⟨rfl,vQ,B4,p4,R4,hl⟩
  exact aG (wpS_get ?_)
  have esz:(pendingOf gK).size=vQ.length:=by rw[p4];simp
  by_cases c1:(pendingOf gK).size<=1
  rw[am c1]
  show aN #[rfl,vQ,B4,R4, ∅]
  rw [ai c1]
  generalize ab8:Option.any _ _=cnd
  have mk: ∀k,k+2<=vQ.length -> ∀ (Q':ForInStep (fG Unit×Unit) ->Uh ->Prop),(∀bD pl,SB kd a₀ bD ->pendingOf bD=pl.toArray ->Runs less (arrOf bD) pl 0 a₀.size ->(pl.length<=1 \/ pl.length+(x+1) <=a₀.size) ->Q' (.yield (none,())) bD) ->wpS (model prog w) A E s (do
    let b <- mergeAt' k
    if(!b)=true then pure (ForInStep.done ((some (),()):fG Unit×Unit)) else pure (ForInStep.yield (none,()))) Q' gK:=by
   intro k hk Q' hQ
   have e:=bm k vQ
   rw[dE ∅,dE ∅] at e
   have w5:(vQ.take k).length=k:=by rw[bg];lia
   rw[<- e] at p4 R4
   exact aG (wp_mR O L B4 p4 w5.symm (ap _) R4 λQ9 z B5 p5 R5 o5=> ?_)
   simp![cP,aB,bj]
   exact aN (hQ _ _ B5 p5 R5 (.inr ?_))
   rw[aR,w5,aP,List.length_drop]
   lia
  cases cnd with
  | true=>simp![bZ];show mk ((pendingOf gK).size - 2 - 1) ∅ _ λbD pl b1 b2 b3 b4=>#[rfl,pl,b1,b2,b3,b4]
  | false=>simp![aB,bj];show mk ((pendingOf gK).size - 2) ∅ _ λbD pl b1 b2 b3 b4=>#[rfl,pl,b1,b2,b3,b4]
  rintro c gK ⟨rfl,vQ,B4,p4,R4,hl⟩
  show#[rfl,vQ,B4,R4, ∅]
  rintro c gK ⟨rfl,vQ,B4,R4,hl⟩
  exact aN (h _ B4.perm B4.fl ?_)
  match vQ,R4,hl with
  | [],R4,_=>show absurd R4 (by change ¬(0=a₀.size);lia)
  | [(u1,u2,u3)],⟨_,_,h3,h4⟩,_=>have h4:0+u2=a₀.size:=h4;rw[h4] at h3;show h3
  | _::_::_,_,hl=>simp at hl
def Dl (h:Heap)(a:gY)(vs:fk fm):Heap:=((h.update a (Obj.mapSeq λ_=> #[])).push (seqObj "tuple" vs.toArray 0)).push (seqObj "list" #[] 0)
def Ki (ho:h.get? a=some (seqObj "list" vs.toArray n)):(Dl h a vs).get? a=some (seqObj "list" #[] (if((#[]:i9 fm)).size==vs.toArray.size then n else n+1)):=by have ha:=aH ho;unfold Dl;rw[Heap.get?_push_ne _ _ _ (by rw[size_push',Heap.size_update];show a4 (dI ha)),Heap.get?_push_ne _ _ _ (by rw[Heap.size_update];show a4 ha)];show get?_update_seq ho (λ_=> #[])
def Fy (O:Ord less)(ho:s.heap.get? a=some (seqObj "list" vs.toArray n))(hsz:vs.length<=sizeLine)(hk:2<=vs.length -> ∀ (Q:SortKind ->fo ->Prop),Q kd {s with heap:=Dl s.heap a vs} ->wpAny (model prog w) A (keyKind' vs.toArray) Q E {s with heap:=Dl s.heap a vs})(L:jL prog w A E {s with heap:=Dl s.heap a vs} kd (pairsOf vs) less)(h: ∀ (us:fk fm),us.Perm vs ->us.Pairwise (λx y=>less (y,y) (x,x)=false) ->P (.done (.ret .none)) {s with heap:=sortedHeap s.heap a vs us.toArray}): wpAny (model prog w) A (Builtin.«list.sort» #[[.ref a],[]]) P E s:=by
 rw[list_sort_plain];exact ag (listItems_at ho rfl ?_);exact ag (listUpdate_at ho rfl ?_ (hsz:= ⇑hsz));exact ag (seqEpoch_at (get?_update_seq ho (λ_=> #[])) rfl ?_);exact ag (wpAny_newTuple ?_);exact ag (wpAny_newList ?_);exact d6 ?_;have W2:=Ki ho;change wpAny (model prog w) A _ P E {s with heap:=Dl s.heap a vs};dsimp only;have fin: ∀xs:i9 iI,xs.Perm (pairsOf vs) ->Sg less xs 0 (pairsOf vs).size ->P (.done (.ret .none)) {s with heap:=sortedHeap s.heap a vs (xs.map (·.2))}:=by
  intro xs hp hs;have hl:xs.toList.Perm (vs.zip vs):=by rw[<- pairsOf_toList];show Array.perm_iff_toList_perm.mp hp
  have DF: ∀p,p∈xs.toList ->p.1=p.2 /\ p.1∈vs:=λp Nd=>mem_zip_self (hl.mem_iff.mp Nd);have:=h (xs.toList.map (·.2)) ?_ ?_;have e:(xs.toList.map (·.2)).toArray=xs.map (·.2):=by apply Array.toList_inj.mp;simp
  rwa [e] at this;have h1:=hl.map (λp:iI=>p.2);rwa [List.map_snd_zip (ap _)] at h1;rw[bL];intro i j hi hj iJ;have nG:i<xs.size:= ⇑hi;have jK:j<xs.size:= ⇑hj;have h1:=hs i j (du _) (Nat.le_of_lt iJ) (by rw[<- hp.size_eq];show jK);have e1:dc xs i=((xs.toList.map (·.2))[i],(xs.toList.map (·.2))[i]):=by rw[List.getElem_map];have hm:=wL nG;have e:=iO nG;rw[ae ⇑nG] at e;have e:=bG e;rw[e];show Prod.ext (DF _ hm).1 rfl
  have e2:dc xs j=((xs.toList.map (·.2))[j],(xs.toList.map (·.2))[j]):=by rw[List.getElem_map];have hm:=wL jK;have e:=iO jK;rw[ae ⇑jK] at e;have e:=bG e;rw[e];show Prod.ext (DF _ hm).1 rfl
  rw[e1,e2] at h1;show h1
 have acm:vs.toArray.size=vs.length:=by simp
 by_cases h2:vs.toArray.size<2;rw[am h2,am h2];exact ag (aC ?_);rw[StateT.run_pure];exact ag (aC ?_);dsimp only;exact ag (seqEpoch_at W2 rfl ?_);exact ag (listUpdate_at W2 rfl ?_ (hsz2:=by rw[Array.size_map];change(pairsOf vs).size<=_;rw[pairsOf_size];lia));simp![bne_self_eq_false,aB,bj];exact aC (fin (pairsOf vs) (Array.Perm.refl _) ?_);intro i j _ iJ hj;have:i=j:=by rw[pairsOf_size] at hj;lia
 subst this;show O.refl _;rw[ai h2,ai h2];exact ag (hk ∅ _ ?_);exact ag (b_ (wp_sort O L (st:=SortSt.mk' kd (vs.toArray.zip vs.toArray) #[] 7 none) (Q:=λ_ bD=>(arrOf bD).Perm (pairsOf vs) /\ failedOf bD=none /\ Sg less (arrOf bD) 0 (pairsOf vs).size) #[Array.Perm.refl _,rfl,rfl] rfl (by rw[pairsOf_size];lia) λbD a1 a2 a3=>#[a1,a2,a3]) ?_ λ_ _ e=>e);rintro⟨⟨⟩,bD⟩ s' ⟨rfl,hp,hf,hs⟩;dsimp only;exact ag (seqEpoch_at W2 rfl ?_);exact ag (listUpdate_at W2 rfl ?_ (hsz2:=by exact aT (Nat.le_of_eq ((Array.size_map ..).trans (hp.size_eq.trans (pairsOf_size _)))) ?_;lia));rw[hf];simp![bne_self_eq_false,aB,bj];show aC (fin _ hp hs)
def se (x y:iI):Bool:=decide (numOf x.1<numOf y.1)
def YH:Ord se:=by exact#[λx y h=> ?_,λx y z h1 h2=> ?_];unfold se at*;rw[cN] at h;show cM ∅;unfold LE se at*;rw[decide_eq_false_iff_not] at*;lia
def ltI {a₀:i9 iI}(h0:IntKeys a₀):jL prog w A E s oneType' a₀ se:=by
 intro x y st Q hx hy hk hq;let⟨n,t,e1⟩:=h0 x hx;let⟨m,u,e2⟩:=h0 y hy;rw[lt'_eq];exact aG (wpS_get ?_);rw[hk,keyLt'_oneType,e1,e2];exact aG (wpS_lift (wpAny_attempt (oneLt_int #[rfl,?_])));have e:se x y=decide (n<m):=by unfold se;rw[e1,e2];rfl
 rw[e] at hq;show aN hq
def ui (ho:s.heap.get? a=some (seqObj "list" vs.toArray n))(hI:IntsAre vs ns)(hsz:vs.length<=sizeLine)(h: ∀ (out:i9 fm) (Kb:fk Int),IntsAre out.toList Kb ->Kb.Perm ns ->Kb.Pairwise (· <= ·) ->P (.done (.ret .none)) {s with heap:=sortedHeap s.heap a vs out}): wpAny (model prog w) A (Builtin.«list.sort» #[[.ref a],[]]) P E s:=by
 exact Fy YH ho hsz (kd:=oneType') (λh2 Q hq=> ?_) (ltI hI.intKeys) λus hp hs=> ?_;let⟨v₁,v₂,e9,rfl⟩:im λv₁ v₂ e9=>vs=v₁::v₂::e9:=by
  match vs,h2 with
  | [],h2=>simp at h2
  | [_],h2=>simp at h2
  | v₁::v₂::e9,_=>show#[v₁,v₂,e9,rfl]
 rw[keyKind_ints hI];show aC hq;have wo: ∀v,v∈us -> ∃n t,v= .int n t:=λv hv=>hI.all v (hp.mem_iff.mp hv);exact h us.toArray (us.map numOf) ⇑(intsAre_map us wo) ?_ ?_;have:=hp.map numOf;rwa [hI.nums] at this;rw[cG];exact hs.imp λ{x y} e=> ?_;unfold se at e;rw[decide_eq_false_iff_not] at e;simp only at e;lia
end TS
namespace L2
open PySem PySem.Spec PyProof.Rows
abbrev cH:=Sum Int Str
def ou:cH ->fm ->Bool
 | .inl k,v=>Value.isInt k v
 | .inr x,v=>Value.isStrOf x v
def Zc (w:World):cH ->Int
 | .inl k=>hashInt k
 | .inr x=>hashStr w x
theorem eN: ∀ {k:cH} {v:fm},ou k v=true ->(cO λi t=>k=Sum.inl i /\ v=Value.int i t) \/ (cO λx t=>k=Sum.inr x /\ v=Value.str x t)
 | .inl i,v,h=>by let⟨t,e⟩:=Value.isInt_shape (k:=i) (v:=v) h;show .inl #[i,t,rfl,e]
 | .inr x,v,h=>by let⟨t,e⟩:=Value.isStrOf_shape (x:=x) (v:=v) h;show .inr #[x,t,rfl,e]
def Dw (i:Int)(t:Tok):ou (.inl i) (.int i t)=true:=by simp[ou,Value.isInt]
def Dv (x:Str)(t:Tok):ou (.inr x) (.str x t)=true:=by simp[ou,Value.isStrOf]
def PL (a b:Int):decide ((Sum.inl a:cH)=Sum.inl b)=(a==b):=by by_cases e:a=b;subst e;simp;have h:¬(Sum.inl a:cH)=Sum.inl b:=λq=>e (Sum.inl.inj q);rw[cM h];show(beq_eq_false_iff_ne.mpr e).symm
def PH (a b:Str):decide ((Sum.inr a:cH)=Sum.inr b)=decide (a=b):=by by_cases e:a=b;subst e;simp;have h:¬(Sum.inr a:cH)=Sum.inr b:=λq=>e (Sum.inr.inj q);rw[cM h,cM e]
theorem PK (a:Int)(b:Str):decide ((Sum.inl a:cH)=Sum.inr b)=false:=cM (λq=>nomatch q)
theorem PJ (a:Str)(b:Int):decide ((Sum.inr a:cH)=Sum.inl b)=false:=cM (λq=>nomatch q)
def cQ (prog:Program)(w:World):PySem.KeyKind prog w cH where
 is:=ou
 hash:=Zc w
 inj :=λv a b ha hb=>by
  rcases eN ha with⟨i,t,rfl,rfl⟩ | ⟨x,t,rfl,rfl⟩
  rcases eN hb with⟨j,u,rfl,e⟩ | ⟨y,u,rfl,e⟩
  injection e with e1 _;rw[e1];show nomatch e
  rcases eN hb with⟨j,u,rfl,e⟩ | ⟨y,u,rfl,e⟩
  show nomatch e
  injection e with e1 _;rw[e1]
 byValue:=λk v h=>by rcases eN h with⟨i,t,rfl,rfl⟩ | ⟨x,t,rfl,rfl⟩ <;>rfl
 pyHash:=λhv h=>by
  rcases eN hv with⟨i,t,rfl,rfl⟩ | ⟨x,t,rfl,rfl⟩
  show wpAny_pyHash_int h;show wpAny_pyHash_str h
 eqBool:=λhu hv h=>by
  rcases eN hu with⟨i,t,rfl,rfl⟩ | ⟨x,t,rfl,rfl⟩
  rcases eN hv with⟨j,u,rfl,rfl⟩ | ⟨y,u,rfl,rfl⟩
  rw[PL] at h;show wpAny_eqBool_int h;rw[PK] at h;show SeqAt.EqAt.int_str i t y u _ _ _ _ h;rcases eN hv with⟨j,u,rfl,rfl⟩ | ⟨y,u,rfl,rfl⟩
  rw[PJ] at h;show SeqAt.EqAt.str_int x t j u _ _ _ _ h;rw[PH] at h;show wpAny_eqBool_str h
 «strs» :=λk x t v h=>by
  rcases eN h with⟨i,u,rfl,e⟩ | ⟨y,u,rfl,e⟩
  show nomatch e
  injection e with e1 _;subst e1;cases v<;>rfl
theorem xQ (prog:Program)(w:World)(i:Int)(t:Tok):(cQ prog w).is (.inl i) (.int i t)=true:=Dw i t
theorem xP (prog:Program)(w:World)(x:Str)(t:Tok):(cQ prog w).is (.inr x) (.str x t)=true:=Dv x t
set_option genInjectivity true in
inductive V where
  | fh | bl (b:Bool) | int (i:Int) | str (x:Str) | AG (b:Array UInt8) | Cc (b:UInt64) | ref (a:Addr) | ty (n:String)
 deriving DecidableEq
def RelV:V ->fm ->Prop
 | .fh,u=>u=Value.none
 | .bl b,u=>u=Value.bool b
 | .int i,u=> ∃t,u=Value.int i t
 | .str x,u=> ∃t,u=Value.str x t
 | .AG b,u=> ∃t,u=Value.bytes b t
 | .Cc b,u=> ∃t,u=Value.float b t
 | .ref a,u=>u=Value.ref a
 | .ty n,u=>u=Value.type n
abbrev cV:fk V ->fk fm ->Prop:=Paired RelV
theorem cV.length (r:cV xs us):xs.length=us.length:=Paired.length r
theorem cV.get: ∀ {xs:fk V} {us:fk fm} {i:Nat} {x:V},cV xs us ->xs[i]? =some x -> ∃u,us[i]? =some u /\ RelV x u
 | _,_,_,_, .nil,e=>by simp at e
 | _,_,0,_, .cons r _,e=>by simp at e;subst e;show#[_,rfl,r]
 | _,_,i+1,x, .cons _ t,e=>by let⟨u,h1,h2⟩:=cV.get (i:=i) (x:=x) t ⇑e;show#[u, ⇑h1,h2]
theorem cV.set {x:V}{u:fm}(r:RelV x u): ∀ {xs:fk V} {us:fk fm} (i:Nat),cV xs us ->cV (xs.set i x) (us.set i u)
 | _,_,_, .nil=> .nil
 | _,_,0, .cons _ t=> .cons r t
 | _,_,i+1, .cons q t=> .cons q (cV.set r i t)
theorem cV.append: ∀ {xs ys:fk V} {us ws:fk fm},cV xs us ->cV ys ws ->cV (xs++ys) (us++ws)
 | _,_,_,_, .nil,s=>s
 | _,_,_,_, .cons r t,s=> .cons r (cV.append t s)
theorem cV.take: ∀ {xs:fk V} {us:fk fm} (n:Nat),cV xs us ->cV (xs.take n) (us.take n)
 | _,_,0,_=> .nil
 | _,_,_+1, .nil=> .nil
 | _,_,n+1, .cons r t=> .cons r (cV.take n t)
theorem cV.drop: ∀ {xs:fk V} {us:fk fm} (n:Nat),cV xs us ->cV (xs.drop n) (us.drop n)
 | _,_,0,r=>r
 | _,_,_+1, .nil=> .nil
 | _,_,n+1, .cons _ t=>cV.drop n t
def nD:fG V ->fG fm ->Prop
 | some v,some u=>RelV v u
 | none,none=>True
 | _,_=>False
def KV {κ:Type}:fk (κ×V) ->fk (κ×fm) ->Prop:=Paired λ(p:κ×V) (q:κ×fm)=>p.1=q.1 /\ RelV p.2 q.2
def kV:cH ->V
 | .inl i=> .int i
 | .inr x=> .str x
set_option genInjectivity true in
inductive HO where
 /-- a list -/
 | lst (xs:List V)
 /-- a tuple (never changes) -/
 | tup (xs:List V)
 /-- a dict RO keys are ints and texts;one RO keys are tuples of ints and texts (Q8 empty one is both) -/
 | dK (kvs:List (cH×V)) | dT (kvs:List (List cH×V))
 /-- a set of ints:its members,its size -/
 | set (S:Int ->Bool) (n:Nat)
 /-- an instance of Q8 class at C,its dict at dx,its attributes -/
 | ins (C dx:Addr) (fs:List (Str×V))
 /-- Q8 dict of Q8 instance at x -/
 | own (x:Addr)
 /-- Q8 dict of an exception -/
 | xd (fs:List (Str×V))
 /-- a bound method,f of x -/
 | met (f x:Addr)
 /-- a range object lo,lo+1, .. below hi -/
 | Ez (lo hi:Int)
 /-- a Sw acg is known to Q8 object (Q8 Yn;a dict while a loop walks it):read,never written while it is so -/
 | nk (o:Obj) (u:HO)
 /-- a code TH table -/
 | Ov (ps:Array Value)
 /-- any other Sw,by acb is true of its one object (a def of ab0 own:acF a S n:=HO.ext λh=> ..) -/
 | ext (φ:Heap ->Prop)
abbrev Hp:=gY ->fG HO
def dy (H:Hp)(a:gY)(o:HO):Hp:=λb=>if b=a then some o else H b
def cr:dy H a o a=some o:=by unfold dy;rw[am rfl]
def bS (h:b≠a):dy H a o b=H b:=by unfold dy;rw[ai h]
def TN {H:Hp}(h:H a=some o)(h':H b=some u)(d:o≠u):a≠b:=by intro e;subst e;rw[h] at h';show d (bG h')
def dW {H:Hp}(h:H a=some o)(h':H b=none):a≠b:=by intro e;subst e;rw[h] at h';cases h'
def tX (h:Heap)(a:gY)(its:i9 fm):Prop:= ∃o,h.get? a=some o /\ o.cls= .type "tuple" /\ ∃n,o.data= .seq its n /\ o.dict=none
theorem tX.t (x:tX h a its):IsTup h a its:=let ⟨o,e,c,n,d,_⟩:=x;#[o,e,c,n,d]
theorem tX.lt (x:tX h a its):a<h.objs.size:=let ⟨_,e,_⟩:=x;aH e
theorem tX.new (h:Heap)(its:i9 fm):tX (h.push {cls:= .type "tuple",data:= .seq its}) h.objs.size its:=#[_,aQ _ rfl,rfl,_,rfl,rfl]
section
variable (P:Program)(w:World)
def fq (H:Hp)(h:Heap)(a:gY):HO ->Prop
 | .lst xs=>xs.length<=sizeLine /\ cO λ(its:fk fm) (n:Nat)=>cV xs its /\ h.get? a=some {cls:= .type "list",data:= .seq its.toArray n}
 | .tup xs=>xs.length<=sizeLine /\ ∃its:fk fm,cV xs its /\ tX h a its.toArray
 | .dK kvs=>kvs.length<=sizeLine /\ (a==sysModules)=false /\ ∃vs,KV kvs vs /\ h.DictOf (cQ P w) a vs
 | .dT kvs=>kvs.length<=sizeLine /\ (a==sysModules)=false /\ ∃xs:fk (fk cH×gY×fm),Paired (λ(p:fk cH×V) (q:fk cH×gY×fm)=>p.1=q.1 /\ H q.2.1=some (.tup (p.1.map kV)) /\ RelV p.2 q.2.2) kvs xs /\∃o es ep,h.get? a=some o /\ o.ExactDict /\ o.data= .dict es ep /\ es.toList=xs.map (entryOfKey (tupleKind (cQ P w))) /\ (xs.map (·.1)).Nodup
 | .set S n=>h.SetOf (intKind P w) a S n
 | .ins C dx fs=>H dx=some (.own a) /\ fs.length<=1000 /\ dx≠a /\ h.get? a=some (W.instObj C dx) /\∃mA,h.Ns1 dx mA /\ (∀f,nD (fs.lookup f) (mA f)) /\ PySem.Within mA (fs.map (·.1))
 | .own _=> ∃o,h.get? a=some o
 | .xd fs=> ∃mA,h.Ns1 a mA /\ ∀f,nD (fs.lookup f) (mA f)
 | .Ez lo hi=>im λt u v=>h.get? a=some {cls:= .type "range",data:= .fields (List.toArray [.int lo t, .int hi u, .int 1 v])}
 | .nk o u=>h.get? a=some o /\ fq H h a u
 | .Ov ps=>h.get? a=some {cls:= .none,data:= .fields ps}
 | .met f x=>h.get? a=some (W.methodObj (.ref f) (.ref x))
 | .ext φ=>φ h /\ (∃o,h.get? a=some o) /\ ∀h1 h2:Heap,φ h1 ->(∀o,h1.get? a=some o ->h2.get? a=some o) ->φ h2
def mS (H:Hp)(h:Heap):Prop:= ∀a o,H a=some o ->fq P w H h a o
end
def fq.lt (x:fq P w H h a o):a<h.objs.size:=by
 cases o with
 | lst xs=>let⟨_,_,_,_,e⟩:=x;show aH e
 | tup xs=>let⟨_,_,_,p⟩:=x;show p.lt
 | dK kvs=>let⟨_,_,_,_,o,_,_,e,_⟩:=x;show aH e
 | dT kvs=>let⟨_,_,_,_,o,_,_,e,_⟩:=x;show aH e
 | set S n=>let⟨o,_,_,_,e,_⟩:=x;show aH e
 | ins C dx fs=>let⟨_,_,_,e,_⟩:=x;show aH e
 | own y=>let⟨_,e⟩:=x;show aH e
 | xd fs=>let⟨_,⟨_,_,_,e,_⟩,_⟩:=x;show aH e
 | Ez lo hi=>let⟨_,_,_,e⟩:=x;show aH e
 | nk ob u=>let⟨e,_⟩:=x;show aH e
 | Ov ps=>show aH (show h.get? a=some _ from x)
 | met f y=>show aH (show h.get? a=some _ from x)
 | ext φ=>let⟨_,⟨_,e⟩,_⟩:=x;show aH e
theorem Paired.Pr {α β:Type}{F G:α ->β ->Prop}: ∀ {l₁:fk α} {l₂:fk β},Paired F l₁ l₂ ->(∀a b,F a b ->G a b) ->Paired G l₁ l₂
 | _,_, .nil,_=> .nil
 | _,_, .cons r t,f=> .cons (f _ _ r) (Paired.Pr t f)
def fq.rF (x:fq P w H h a o)(k: ∀b u,(b=a \/ H b=some (.own a)) ->h.get? b=some u ->h'.get? b=some u)(ho: ∀b,H b=some (.own a) ->H' b=some (.own a))(ht: ∀b xs,H b=some (.tup xs) ->H' b=some (.tup xs)):fq P w H' h' a o:=by
 induction o with
 | lst xs=>let⟨z,its,n,r,e⟩:=x;show#[z,its,n,r,k _ _ (.inl rfl) e]
 | tup xs=>let⟨z,its,r,ob,e,c⟩:=x;show#[z,its,r,ob,k _ _ (.inl rfl) e,c]
 | dK kvs=>let⟨z,y,vs,r,ob,es,ep,e,c⟩:=x;show#[z,y,vs,r,ob,es,ep,k _ _ (.inl rfl) e,c]
 | dT kvs=>let⟨z,y,xs,r,ob,es,ep,e,c⟩:=x;show#[z,y,xs,Paired.Pr r λp q z=>#[z.1,ht _ _ z.2.1,z.2.2],ob,es,ep,k _ _ (.inl rfl) e,c]
 | set S n=>let⟨ob,es,ep,t,e,c⟩:=x;show#[ob,es,ep,t,k _ _ (.inl rfl) e,c]
 | ins C dx fs=>let⟨d,z,ne,e,mA,⟨od,es,ep,e2,c⟩,r⟩:=x;show#[ho _ d,z,ne,k _ _ (.inl rfl) e,mA,#[od,es,ep,k _ _ (.inr d) e2,c],r]
 | own y=>let⟨ob,e⟩:=x;show#[ob,k _ _ (.inl rfl) e]
 | xd fs=>let⟨mA,⟨od,es,ep,e,c⟩,r⟩:=x;show#[mA,#[od,es,ep,k _ _ (.inl rfl) e,c],r]
 | Ez lo hi=>let⟨t,u,v,e⟩:=x;show#[t,u,v,k _ _ (.inl rfl) e]
 | nk ob u ih=>let⟨e,q⟩:=x;show#[k _ _ (.inl rfl) e,ih q]
 | Ov ps=>have e:h.get? a=some {cls:= .none,data:= .fields ps}:=x;change h'.get? a=some {cls:= .none,data:= .fields ps};show k a _ (.inl rfl) e
 | met f y=>have e:h.get? a=some (W.methodObj (.ref f) (.ref y)):=x;change h'.get? a=some (W.methodObj (.ref f) (.ref y));show k a _ (.inl rfl) e
 | ext φ=>let⟨p,⟨o,e⟩,st⟩:=x;show#[st _ _ p λo q=>k _ _ (.inl rfl) q,#[o,k _ _ (.inl rfl) e],st]
theorem mS.lt (x:mS P w H h)(e:H a=some o):a<h.objs.size:=(x a o e).lt
def mS.fresh {a:gY}(x:mS P w H h)(e:h.objs.size<=a):H a=none:=by
 cases q:H a with
 | none=>rfl
 | some u=>show absurd (bY (x.lt q) e) (bT _)
theorem mS.kept (x:mS P w H h)(k: ∀b u,h.get? b=some u ->h'.get? b=some u):mS P w H h':=λa o e=>(x a o e).rF (λb u _ q=>k b u q) (λ_ q=>q) λ_ _ q=>q
theorem mS.laid {a:gY}(x:mS P w H h)(k: ∀b u,h.get? b=some u ->h'.get? b=some u)(hp:h.objs.size<=a)(new:fq P w (dy H a o) h' a o):mS P w (dy H a o) h':=λb u e=>by have hn:=x.fresh hp;by_cases hb:b=a;subst hb;rw[cr] at e;cases e;show new;rw[bS hb] at e;show(x b u e).rF (λc v _ q=>k c v q) (λc q=>by rw[bS (dW q hn)];show q) λc xs q=>by rw[bS (dW q hn)];show q
def Rd (H:Hp)(a:gY)(u:HO):Prop:=H a=some u \/ ∃o,H a=some (.nk o u)
def Rd.ok (r:Rd H a u)(x:mS P w H h):fq P w H h a u:=by obtain r | ⟨o,r⟩:=r;show x a u r;let⟨_,q⟩:=x a _ r;show q
def Vx:fG HO ->Prop
 | some (.lst _)=>True
 | some (.dK _)=>True
 | some (.dT _)=>True
 | some (.set _ _)=>True
 | some (.ins _ _ _)=>True
 | some (.ext _)=>True
 | _=>False
theorem mS.write (ok:mS P w H h)(mu:Vx (H x))(he:e=x \/ H e=some (.own x))(k: ∀b u,b≠e ->h.get? b=some u ->h'.get? b=some u)(Rt: ∃u,h'.get? e=some u)(new:fq P w (dy H x o') h' x o'):mS P w (dy H x o') h':=λb u q=>by
 have TK: ∀c y,H c=some (.own y) ->c≠x:=λc y r z=>by subst z;rw[r] at mu;show mu
 have YN: ∀c xs,H c=some (.tup xs) ->c≠x:=λc xs r z=>by subst z;rw[r] at mu;show mu
 by_cases hb:b=x;subst hb;rw[cr] at q;cases q;show new;rw [bS hb] at q;by_cases Qr:b=e;have q':H b=some (.own x):=by obtain z | z:=he;show absurd (Qr.trans z) hb;rw[Qr];show z
 rw[q] at q';cases q';let⟨v,hv⟩:=Rt;show#[v,by rw[Qr];show hv];exact(ok b u q).rF (λc v hc r=>k c v ?_ r) (λc r=>by rw[bS (TK c b r)];show r) λc xs r=>by rw[bS (YN c xs r)];show r
 obtain rfl | hc:=hc;show Qr;rintro rfl;obtain z | z:=he;show TK c b hc z;rw[hc] at z;cases z;show hb rfl
structure Un (fs ex:List Addr)(H H':Hp)(h h':Heap):Prop where
 keep: ∀b o,h.get? b=some o ->H b=none ->b∉fs ->b∉ex ->h'.get? b=some o
 slot: ∀b o,h.get? b=some o ->H b=none ->b∈fs ->b∉ex -> ∃sl,h'.get? b=some {o with slots:=sl}
 free: ∀b o,h.get? b=some o ->H b=none ->b∉ex ->H' b=none
 there: ∀b o,h.get? b=some o ->b∉ex -> ∃o',h'.get? b=some o'
 tF: ∀b xs,H b=some (.tup xs) ->H' b=some (.tup xs)
 qH: ∀b o u,H b=some (.nk o u) ->H' b=some (.nk o u)
 tG: ∀b ps,H b=some (.Ov ps) -> ∃more,H' b=some (.Ov (ps++more))
section
variable {fs DO ex ex':fk gY}{H H1 H2:Hp}{h h1 h2 h':Heap}{a x e:gY}{o:HO}
def Un.any (u:Un fs ex H H1 h h1)(q:h.get? b=some ob)(n:H b=none)(hx:b∉ex): ∃sl,h1.get? b=some {ob with slots:=sl}:=by by_cases hb:b∈fs;show u.slot b ob q n hb hx;show#[ob.slots,u.keep b ob q n hb hx]
theorem Un.kept (k: ∀b u,h.get? b=some u ->h'.get? b=some u):Un fs ex H H h h':=#[λb ob q _ _ _=>k b ob q,λb ob q _ _ _=>#[ob.slots,k b ob q],λ_ _ _ n _=>n,λb ob q _=>#[ob,k b ob q],λ_ _ q=>q,λ_ _ _ q=>q,λ_ ps q=>#[#[],by rw[q];simp]]
theorem Un.refl:Un fs ex H H h h:=Un.kept λ_ _ q=>q
theorem Un.laid (k: ∀b u,h.get? b=some u ->h'.get? b=some u)(hp:h.objs.size<=a)(hn:H a=none):Un fs ex H (dy H a o) h h' where
 keep:=λb u q _ _ _=>k b u q
 slot:=λb u q _ _ _=>#[u.slots,k b u q]
 free:=λb u q n _=>by rw[bS (a4 (bY (aH q) hp))];show n
 there:=λb u q _=>#[u,k b u q]
 tF:=λb xs q=>by rw[bS (dW q hn)];show q
 qH:=λb u xs q=>by rw[bS (dW q hn)];show q
 tG:=λb ps q=>#[#[],by rw[bS (dW q hn),q];simp]
def Un.write (mu:Vx (H x))(he:e=x \/ H e=some (.own x))(k: ∀b u,b≠e ->h.get? b=some u ->h'.get? b=some u)(Rt: ∃u,h'.get? e=some u):Un fs ex H (dy H x o) h h':=by
 have hx: ∀b,H b=none ->b≠x:=λb n z=>by subst z;rw[n] at mu;show mu
 have hb: ∀b,H b=none ->b≠e:=λb n z=>by subst z;obtain r | r:=he;show hx b n r;rw[n] at r;cases r
 have hm: ∀b u,H b=some u ->¬Vx (some u) ->b≠x:=λb u q nm z=>by subst z;rw[q] at mu;show nm mu
 exact#[λb u q n _ _=>k b u (hb b n) q,λb u q n _ _=>#[u.slots,k b u (hb b n) q],λb u q n _=>by rw[bS (hx b n)];show n,λb u q _=> ?_,λb xs q=>by rw[bS (hm b _ q λz=>z)];show q,λb u xs q=>by rw[bS (hm b _ q λz=>z)];show q,λb ps q=>#[#[],by rw[bS (hm b _ q λz=>z),q];simp]];by_cases Qr:b=e;subst Qr;show Rt;show#[u,k b u Qr q]
end
def Wa (h:Heap)(H:Hp):fk gY:=(List.range h.objs.size).filter λa=>(H a).isSome
def we (h:Heap)(H:Hp):Heap:=W.hideAll h (Wa h H)
theorem DH (h:Heap)(H:Hp):(we h H).objs.size=h.objs.size:=W.hideAll_size _ _
theorem Hl (e:h.get? b=some o)(n:H b=none):(we h H).get? b=some o:=W.hideAll_get _ e λhm=>by have q:(H b).isSome=true:=(ay.mp hm).2;rw[n] at q;simp at q
def Ka (e:(we h H).get? b=some o):h.get? b=some o /\ H b=none:=by
 have e':h.get? b=some o:=W.of_hideAll (Wa h H) e;exact#[e',?_];cases q:H b with
 | none=>rfl
 | some x=>have hm:b∈Wa h H:=ay.mpr #[cf.mpr (aH e'),by simp[q]];have z:(we h H).get? b=none:=W.hideAll_none (Wa h H) hm;rw[z] at e;cases e
def Lp (g h:Heap)(L:gY):fk (gY×Obj):=(List.range h.objs.size).filterMap λa=>if a=L \/ (g.get? a).isSome=true then none else(h.get? a).map λo=>(a,o)
def e9 (g h:Heap)(L d:gY):fk (gY×Obj):=(Lp g h L).filter λp=>decide (p.1≠d)
structure Mod (K:PySem.W.Frag)(mg:Str ->Option Value)(base:Heap):Prop where
 WN:K.In base
 glob:base.Ns mainGlobals mg
 blt: ∃mb,base.Ns builtinsNs mb /\ ∀x:Str,x≠ "__name__" ->mb x=bootBuiltins x
 nolimit:base.NoLimit
structure Cx where
 prog:Program
 w:World
 K:PySem.W.Frag
 mg:Str ->Option Value
 base:Heap
 A:Around
 N:List Str
 s₀:Shared
 H₀:Hp
 env:Env
 outer:List Env
 stack:List Env
 ex:List Addr
 fn:Str ->Bool
 calm:Bool
 pn:List (Addr×Obj)
 xe:Value ->Shared ->Prop
def Av (l:fk Env):fk gY:=l.filterMap (·.frame)
abbrev Cx.fs (X:Cx):fk gY:=Av X.outer
def Xr (sc:Scope)(x:Str):Prop:=sc.names.lookup x=some .local \/ sc.names.lookup x=some .cell \/ sc.names.lookup x=some .free
def Loc (sc:Scope)(x:Str):Prop:=sc.names.lookup x=some .local \/ sc.names.lookup x=some .cell
def Look (env:Env)(h:Heap)(m:Str ->fG fm)(x:Str)(u:fm):Prop:=(env.kindOf x=some .local /\ m x=some u) \/ ((env.kindOf x=some .cell \/ env.kindOf x=some .free) /\ ∃c,env.cells.lookup x=some c /\ h.IsCell c (some u))
structure Cx.Ok (X:Cx):Prop where
 mod:Mod X.K X.mg X.base
 kind:X.env.scope.kind= .function
 glob:X.env.globals=mainGlobals
 blt:X.env.builtins=builtinsNs
 above:X.s₀.heap.objs.size<=X.env.locals
 inj: ∀x y c,X.env.cells.lookup x=some c ->X.env.cells.lookup y=some c ->x=y
 has: ∀x,(X.env.kindOf x=some .cell \/ X.env.kindOf x=some .free) -> ∃c,X.env.cells.lookup x=some c
 Vj: ∀x c,X.fn x=true ->X.env.cells.lookup x=some c ->X.s₀.heap.objs.size<=c
 hd:X.calm=true ->X.A.handled=none
 frames:X.A.frames=some X.stack
 Wf:X.stack=X.outer \/ (X.stack=X.env::X.outer /\ X.env.frame=some X.env.locals)
 exf: ∀b∈X.ex,b≠X.env.locals /\ ∀x c,X.env.cells.lookup x=some c ->c≠b
 bs: ∀b o,X.base.get? b=some o ->X.s₀.heap.get? b=some o /\ X.H₀ b=none
 Jf:X.base.objs.size<=X.s₀.heap.objs.size
 Gm: ∀b o,X.base.get? b=some o ->b∉X.ex
 DV: ∀b∈X.ex,b∉X.fs
 qG:X.s₀.heap.FunFrames X.base X.outer
 QB: ∀b∈X.fs,X.H₀ b=none
structure Inv (X:Cx)(ak:List (Addr×Obj))(σ:List (Option V))(H:Hp)(s:Shared):Prop where
 ok:X.Ok
 os:s.os=X.s₀.os
 bare:AllBare s.gens
 base:Un X.fs X.ex X.H₀ H X.s₀.heap s.heap
 loc: ∃m,s.heap.Ns X.env.locals m /\ ∀ (i:Nat) (x:Str) (v:V),X.N[i]? =some x ->σ[i]? =some (some v) ->Xr X.env.scope x -> ∃u,RelV v u /\ Look X.env s.heap m x u
 cell: ∀x c,X.env.cells.lookup x=some c -> ∃v,s.heap.IsCell c v
 free:H X.env.locals=none
 jC: ∀x c,X.env.cells.lookup x=some c ->H c=none
 pin: ∀p∈X.pn++ak,s.heap.get? p.1=some p.2 /\ H p.1=none /\ p.1≠X.env.locals /\ p.1∉X.fs /\ ∀v,p.2.data≠ .cell v
 dM:mS X.prog X.w H s.heap
 len:σ.length=X.N.length
theorem Cx.Ok.YV {X:Cx}(ok:X.Ok)(e:X.base.get? b=some o):b∉X.fs:=λhb=>by have:=(ok.qG.mem hb).1;rw[e] at this;cases this
theorem Inv.bs (I:Inv X ak σ H s): ∀b o,X.base.get? b=some o ->s.heap.get? b=some o /\ H b=none:=λb o e=>#[I.base.keep b o (I.ok.bs b o e).1 (I.ok.bs b o e).2 (I.ok.YV e) (I.ok.Gm b o e),I.base.free b o (I.ok.bs b o e).1 (I.ok.bs b o e).2 (I.ok.Gm b o e)]
theorem Inv.bk (I:Inv X ak σ H s): ∀b o,X.base.get? b=some o ->s.heap.get? b=some o:=λb o e=>(I.bs b o e).1
theorem Inv.mod (I:Inv X ak σ H s):Mod X.K X.mg X.base:=I.ok.mod
theorem Inv.qz (I:Inv X ak σ H s):X.K.In s.heap:=I.ok.mod.WN.keeps I.bk
theorem Inv.fr (I:Inv X ak σ H s): ∃m,Fr X.base X.env.locals s.heap m:=
 let ⟨m,hn,_⟩:=I.loc
 #[m,hn,I.bk,aT I.ok.Jf I.ok.above]
theorem Inv.lt (I:Inv X ak σ H s):X.env.locals<s.heap.objs.size:=let ⟨_,hn,_⟩:=I.loc;hn.lt
theorem Inv.sz (I:Inv X ak σ H s):X.s₀.heap.objs.size<=s.heap.objs.size:=aT I.ok.above (Nat.le_of_lt I.lt)
theorem Inv.YU (I:Inv X ak σ H s){a:gY}(h:s.heap.objs.size<=a):a∉X.fs:=λhb=>by let⟨_,o,ho,_⟩:=I.ok.qG.mem hb;show absurd (bY (aH ho) (aT I.sz h)) (bT _)
theorem Inv.QL (I:Inv X ak σ H s): ∀x c,X.env.cells.lookup x=some c ->c≠X.env.locals:=λx c e z=>by let⟨v,o,ho,hd⟩:=I.cell x c e;let⟨m,⟨o',es,ep,KQ,mq,_⟩,_⟩:=I.loc;rw[z,KQ] at ho;cases ho;rw[mq] at hd;cases hd
def Inv.qG (I:Inv X ak σ H s):s.heap.FunFrames X.base X.outer:=by
 have all: ∀ (l:fk Env),(∀b∈Av l,b∈X.fs) ->X.s₀.heap.FunFrames X.base l ->s.heap.FunFrames X.base l:=by
  intro l;induction l with
  | nil=>intro _ _;trivial
  | cons env r ih=>intro hs hl;let⟨hk,⟨L,o,hf,hn,ho,hd⟩,hr⟩:=hl;have hL:L∈X.fs:=hs L (by unfold Av;rw[List.filterMap_cons,hf];show aL);let⟨sl,e⟩:=I.base.slot L o ho (I.ok.QB L hL) hL λz=>I.ok.DV L z hL;show#[hk,#[L,_,hf,hn,e,hd],ih (λb hb=>hs b (by unfold Av;rw[List.filterMap_cons,hf];show av _ hb)) hr]
 show all X.outer (λ_ hb=>hb) I.ok.qG
def Inv.stack (I:Inv X ak σ H s):s.heap.FunFrames X.base X.stack:=by obtain e | ⟨e,hf⟩:=I.ok.Wf;rw[e];show I.qG;rw[e];let⟨m,hn,_⟩:=I.loc;exact .cons (by rw[I.ok.kind];decide) hf hn ?_ I.qG;show Heap.get?_none_of_le (aT I.ok.Jf I.ok.above)
theorem Inv.zv (I:Inv X ak σ H s): ∀b∈Av X.stack,b∈X.env.locals::X.fs:=λb hb=>by obtain e | ⟨e,hf⟩:=I.ok.Wf;rw[e] at hb;show av _ hb;rw[e] at hb;unfold Av at hb;rw[List.filterMap_cons,hf] at hb;show hb
theorem Inv.Bb (I:Inv X ak σ H s): ∀b∈Av X.stack,H b=none:=λb hb=>by obtain e | hb:=ax.mp (I.zv b hb);rw[e];show I.free;let⟨_,o,ho,_⟩:=I.ok.qG.mem hb;show I.base.free b o ho (I.ok.QB b hb) λz=>I.ok.DV b z hb
def Inv.step {ch:fk gY}(I:Inv X ak σ H s)(IZ: ∀b∈ch,(b∈X.ex \/ X.s₀.heap.objs.size<=b) /\ b≠X.env.locals /\ (∀x c,X.env.cells.lookup x=some c ->c≠b) /\ ∀p∈X.pn++ak,p.1≠b)(keep: ∀b o,b≠X.env.locals ->b∉X.fs ->b∉ch ->s.heap.get? b=some o ->H b=none ->h'.get? b=some o)(slot: ∀b o,b≠X.env.locals ->b∈X.fs ->b∉ch ->s.heap.get? b=some o ->H b=none -> ∃sl,h'.get? b=some {o with slots:=sl})(free: ∀b o,b∉ch ->s.heap.get? b=some o ->H b=none ->H' b=none)(there: ∀b o,b∉ch ->s.heap.get? b=some o -> ∃o',h'.get? b=some o')(tF: ∀b xs,H b=some (.tup xs) ->H' b=some (.tup xs))(qH: ∀b o u,H b=some (.nk o u) ->H' b=some (.nk o u))(tG: ∀b ps,H b=some (.Ov ps) -> ∃more,H' b=some (.Ov (ps++more)))(ns: ∀m,s.heap.Ns X.env.locals m ->h'.Ns X.env.locals m)(dM:mS X.prog X.w H' h')(hg:AllBare g'): Inv X ak σ H' {s with heap:=h',gens:=g',drawn:=d',toks:=t'}:=by
 have neL: ∀b o,X.s₀.heap.get? b=some o ->b≠X.env.locals:=λb o e=>a4 (bY (aH e) I.ok.above);have Wy: ∀b o,X.s₀.heap.get? b=some o ->b∉X.ex ->b∉ch:=λb o e hx hb=>by obtain z | z:=(IZ b hb).1;show hx z;show absurd (bY (aH e) z) (bT _)
 have cellK: ∀x c,X.env.cells.lookup x=some c -> ∀v,s.heap.IsCell c v ->h'.IsCell c v:=λx c e v ⟨o,ho,hd⟩=>by have TQ:c∉ch:=λz=>(IZ c z).2.2.1 x c e rfl;by_cases hc:c∈X.fs;let⟨sl,q⟩:=slot c o (I.QL x c e) hc TQ ho (I.jC x c e);show#[_,q,hd];show#[o,keep c o (I.QL x c e) hc TQ ho (I.jC x c e),hd]
 exact#[I.ok,I.os,hg,#[λb o e n hb hx=> ?_,λb o e n hb hx=> ?_,λb o e n hx=> ?_,λb o e hx=> ?_,λb xs e=>tF b xs (I.base.tF b xs e),λb o xs e=>qH b o xs (I.base.qH b o xs e),λb ps e=> ?_],?_,λx c e=> ?_,?_,λx c e=> ?_,λp hp=> ?_,dM,I.len];show keep b o (neL b o e) hb (Wy b o e hx) (I.base.keep b o e n hb hx) (I.base.free b o e n hx);let⟨sl,e1⟩:=I.base.slot b o e n hb hx;let⟨sl',e2⟩:=slot b _ (neL b o e) hb (Wy b o e hx) e1 (I.base.free b o e n hx);show#[sl',e2];let⟨o',e1⟩:=I.base.there b o e hx;show free b o' (Wy b o e hx) e1 (I.base.free b o e n hx);let⟨o',e1⟩:=I.base.there b o e hx;show there b o' (Wy b o e hx) e1;let⟨m1,e1⟩:=I.base.tG b ps e;let⟨m2,e2⟩:=tG b _ e1;show#[m1++m2,by rw[e2,Array.append_assoc]];let⟨m,hn,hl⟩:=I.loc;exact#[m,ns m hn,λi x v e1 e2 e3=> ?_];let⟨u,r,l⟩:=hl i x v e1 e2 e3;exact#[u,r,?_];obtain l | ⟨k,c,e,z⟩:=l;show .inl l;show .inr #[k,c,e,cellK x c e _ z];let⟨v,z⟩:=I.cell x c e;show#[v,cellK x c e v z];let⟨m,⟨o,_,_,ho,_⟩,_⟩:=I.loc;show free _ o (λz=>(IZ _ z).2.1 rfl) ho I.free;let⟨v,o,ho,hd⟩:=I.cell x c e;show free c o (λz=>(IZ c z).2.2.1 x c e rfl) ho (I.jC x c e);let⟨e,n,ne,nf,d⟩:=I.pin p hp;have TQ:p.1∉ch:=λz=>(IZ p.1 z).2.2.2 p hp rfl;show#[keep p.1 p.2 ne nf TQ e n,free p.1 p.2 TQ e n,ne,nf,d]
def Inv.un (I:Inv X ak σ H s)(u:Un X.fs [] H H' s.heap h')(dM:mS X.prog X.w H' h'):Inv X ak σ H' {s with heap:=h',toks:=t'}:=by let⟨m,⟨o,es,ep,ho,r⟩,_⟩:=id I.loc;let⟨sl,hL⟩:=u.any ho I.free (by simp);show I.step (g':=s.gens) (d':=s.drawn) (ch:= []) (λ_ z=>nomatch z) (λb o _ hb _ e n=>u.keep b o e n hb (by simp)) (λb o _ hb _ e n=>u.slot b o e n hb (by simp)) (λb o _ e n=>u.free b o e n (by simp)) (λb o _ e=>u.there b o e (by simp)) u.tF u.qH u.tG (λm' hm=>by let⟨o',Xm,Xn,KQ,r'⟩:=hm;rw[ho] at KQ;cases KQ;show#[_,Xm,Xn,hL,r']) dM I.bare
def Inv.call (I:Inv X ak σ H s)(u:Un (Av X.stack) ch H H' s.heap h')(dM:mS X.prog X.w H' h')(hg:AllBare g')(IZ: ∀b∈ch,(b∈X.ex \/ X.s₀.heap.objs.size<=b) /\ b≠X.env.locals /\ (∀x c,X.env.cells.lookup x=some c ->c≠b) /\ ∀p∈X.pn++ak,p.1≠b): Inv X ak σ H' {s with heap:=h',gens:=g',drawn:=d',toks:=t'}:=by let⟨m,⟨o,es,ep,ho,r⟩,_⟩:=id I.loc;let⟨sl,hL⟩:=u.any ho I.free λz=>(IZ _ z).2.1 rfl;show I.step (ch:=ch) IZ (λb o hL hb hc e n=>u.keep b o e n (λz=>(ax.mp (I.zv b z)).elim hL hb) hc) (λb o _ _ hc e n=>u.any e n hc) (λb o hc e n=>u.free b o e n hc) (λb o hc e=>u.there b o e hc) u.tF u.qH u.tG (λm' hm=>by let⟨o',Xm,Xn,KQ,r'⟩:=hm;rw[ho] at KQ;cases KQ;show#[_,Xm,Xn,hL,r']) dM hg
def Inv.turned (I:Inv X ak σ H s)(k: ∀b o,b≠it ->s.heap.get? b=some o ->h'.get? b=some o)(hn:H it=none)(hL:it≠X.env.locals)(h1:it∈X.ex \/ X.s₀.heap.objs.size<=it)(h2: ∀x c,X.env.cells.lookup x=some c ->c≠it)(h3: ∀p∈X.pn++ak,p.1≠it):Inv X ak σ H {s with heap:=h',toks:=t'}:=by
 have nit: ∀b u,H b=some u ->b≠it:=λb u e z=>by rw[z,hn] at e;cases e
 exact I.step (g':=s.gens) (d':=s.drawn) (ch:= [it]) (λb hb=> ?_) (λb o _ _ hc e _=>k b o (λz=>hc (by simp[z])) e) (λb o _ _ hc e _=>#[o.slots,k b o (λz=>hc (by simp[z])) e]) (λ_ _ _ _ n=>n) (λb o hc e=>#[o,k b o (λz=>hc (by simp[z])) e]) (λ_ _ e=>e) (λ_ _ _ e=>e) (λb ps e=>#[#[],by rw[e];simp]) (λm hm=> ?_) (λb u e=> ?_) I.bare;have e:b=it:=by simpa using hb
 subst e;show#[h1,hL,h2,h3];let⟨o,es,ep,ho,r⟩:=hm;show#[o,es,ep,k _ o (aW hL) ho,r];exact(I.dM b u e).rF (λc v hc q=>k c v ?_ q) (λ_ q=>q) λ_ _ q=>q;obtain z | z:=hc;rw[z];show nit b u e;show nit c _ z
theorem Inv.tok (I:Inv X ak σ H s)(t:Nat):Inv X ak σ H {s with toks:=t}:=I.un (h':=s.heap) (t':=t) Un.refl I.dM
theorem Inv.kept (I:Inv X ak σ H s)(k: ∀b u,s.heap.get? b=some u ->h'.get? b=some u):Inv X ak σ H {s with heap:=h',toks:=t'}:=I.un (Un.kept k) (I.dM.kept k)
theorem Inv.laid {a:gY}(I:Inv X ak σ H s)(k: ∀b u,s.heap.get? b=some u ->h'.get? b=some u)(hp:s.heap.objs.size<=a)(new:fq X.prog X.w (dy H a o) h' a o): Inv X ak σ (dy H a o) {s with heap:=h',toks:=t'}:=I.un (Un.laid k hp (I.dM.fresh hp)) (I.dM.laid k hp new)
theorem Inv.write (I:Inv X ak σ H s)(mu:Vx (H x))(he:e=x \/ H e=some (.own x))(k: ∀b u,b≠e ->s.heap.get? b=some u ->h'.get? b=some u)(Rt: ∃u,h'.get? e=some u)(new:fq X.prog X.w (dy H x o) h' x o):Inv X ak σ (dy H x o) {s with heap:=h',toks:=t'}:=I.un (Un.write mu he k Rt) (I.dM.write mu he k Rt new)
theorem Inv.weak (I:Inv X ak σ H s)(hl:σ'.length=σ.length)(w: ∀ (i:Nat) v,σ'[i]? =some (some v) ->σ[i]? =some (some v)):Inv X ak σ' H s:=#[I.ok,I.os,I.bare,I.base,let ⟨m,hn,qD⟩:=I.loc;#[m,hn,λi x v e1 e2 e3=>qD i x v e1 (w i v e2) e3],I.cell,I.free,I.jC,I.pin,I.dM,hl.trans I.len]
theorem Inv.BD (I:Inv X ak σ H s)(h: ∀p∈BE,s.heap.get? p.1=some p.2 /\ H p.1=none /\ p.1≠X.env.locals /\ p.1∉X.fs /\ ∀v,p.2.data≠ .cell v):Inv X BE σ H s:=#[I.ok,I.os,I.bare,I.base,I.loc,I.cell,I.free,I.jC,λp hp=>(aA.mp hp).elim (λz=>I.pin p (List.mem_append_left _ z)) (h p),I.dM,I.len]
def xN {N:fk Str}(hN:N.Nodup){i j:Nat}(a:N[i]? =some x)(b:N[j]? =some x):i=j:=by let⟨h1,e1⟩:=aj.mp a;let⟨h2,e2⟩:=aj.mp b;show(List.getElem_inj hN).mp (e1.trans e2.symm)
def uh (I:Inv X ak σ H s)(hN:X.N.Nodup)(hi:X.N[i]? =some x)(hx:Loc X.env.scope x)(r:RelV v u)(h: ∀s',Inv X ak (σ.set i (some v)) H s' ->(∃a,Heap.SameBut a s.heap s'.heap /\ (a=X.env.locals \/ X.env.cells.lookup x=some a)) ->Q () s')(hf:X.fn x=true \/ X.env.scope.names.lookup x=some .local:=by first | show .inl rfl | show .inr rfl | assumption):wpAny M A (storeName X.env x u) Q E s:=by
 let⟨m,hn,hl⟩:=id I.loc;have _e:(X.env.scope.kind== .class || (X.env.scope.kind== .module && X.env.locals !=X.env.globals))=false:=by rw[I.ok.kind];rfl
 have hiσ:i<σ.length:=by rw[I.len];show(aj.mp hi).1
 have QL:=I.QL;have tracked: ∀ {a:gY} {h':Heap},(∃o,s.heap.get? a=some o /\ H a=none) ->Heap.SameBut a s.heap h' ->mS X.prog X.w H h':=λ{a h'} ha hs b ob e=>by let⟨_,_,Nt⟩:=ha;exact(I.dM b ob e).rF (λc w' hc q=>(hs.2 c ?_).trans q) (λ_ q=>q) λ_ _ q=>q;rintro rfl;obtain rfl | hc:=hc;rw[Nt] at e;cases e;rw[Nt] at hc;cases hc
 obtain hk | hk:=hx;exact wpAny_storeName_local hk hn (λh' Qd hs=> ?_) _e;let⟨oL,_,_,hoL,_⟩:=id hn;exact h _ #[I.ok,I.os,I.bare,#[λb o e n hb hx=> ?_,λb o e n hb hx=> ?_,I.base.free,λb o e hx=> ?_,I.base.tF,I.base.qH,I.base.tG],#[_,Qd,λj y v' e1 e2 e3=> ?_],λy c e=> ?_,I.free,I.jC,λp hp=> ?_,tracked #[oL,hoL,I.free] hs, ⇑I.len] #[_,hs, .inl rfl];show(hs.2 b (a4 (bY (aH e) I.ok.above))).trans (I.base.keep b o e n hb hx);let⟨sl,e1⟩:=I.base.slot b o e n hb hx;show#[sl,(hs.2 b (a4 (bY (aH e) I.ok.above))).trans e1];let⟨o',e1⟩:=I.base.there b o e hx;show#[o',(hs.2 b (a4 (bY (aH e) I.ok.above))).trans e1];by_cases hj:j=i;subst hj;rw[hi] at e1;cases e1;rw[List.getElem?_set_self hiσ] at e2;cases e2;show#[u,r, .inl #[hk,by simp]];rw[List.getElem?_set_ne (aW hj)] at e2;let⟨u',r',q⟩:=hl j y v' e1 e2 e3;exact#[u',r',?_];rcases q with⟨k,e⟩ | ⟨k,c,e,z⟩
 exact .inl #[k,?_];have:y≠x:=λe=>hj (xN hN e1 (e▸hi));simp[this,e];show .inr #[k,c,e,z.sameBut hs (QL y c e)];let⟨w',z⟩:=I.cell y c e;show#[w',z.sameBut hs (QL y c e)];let⟨e,n,ne,nf,d⟩:=I.pin p hp;show#[(hs.2 p.1 ne).trans e,n,ne,nf,d];have _a:X.fn x=true:=by obtain z | z:=hf;show z;rw[z] at hk;cases hk
 let⟨c,hc⟩:=I.ok.has x (.inl hk);let⟨w',z⟩:=I.cell x c hc;exact wpAny_storeName_cell I.ok.kind hk hc z (λh' RB hs=> ?_);let⟨oc,hoc,ZJ⟩:=id z;exact h {s with heap:=h'} #[I.ok,I.os,I.bare,#[λb o e n hb hx=> ?_,λb o e n hb hx=> ?_,I.base.free,λb o e hx=> ?_,I.base.tF,I.base.qH,I.base.tG],#[m,hn.sameBut hs (aW (QL x c hc)),λj y v' e1 e2 e3=> ?_],λy c' e=> ?_,I.free,I.jC,λp hp=> ?_,tracked #[oc,hoc,I.jC x c hc] hs, ⇑I.len] #[c,hs, .inr hc];show(hs.2 b (a4 (bY (aH e) (I.ok.Vj x c _a hc)))).trans (I.base.keep b o e n hb hx);let⟨sl,e1⟩:=I.base.slot b o e n hb hx;show#[sl,(hs.2 b (a4 (bY (aH e) (I.ok.Vj x c _a hc)))).trans e1];let⟨o',e1⟩:=I.base.there b o e hx;show#[o',(hs.2 b (a4 (bY (aH e) (I.ok.Vj x c _a hc)))).trans e1];by_cases hj:j=i;subst hj;rw[hi] at e1;cases e1;rw[List.getElem?_set_self hiσ] at e2;cases e2;show#[u,r, .inr #[.inl hk,c,hc,RB]];rw[List.getElem?_set_ne (aW hj)] at e2;let⟨u',r',q⟩:=hl j y v' e1 e2 e3;exact#[u',r',?_];obtain q | ⟨k,c',e,z'⟩:=q;show .inl q;exact .inr #[k,c',e,z'.sameBut hs ?_];rintro rfl;show hj (xN hN e1 (I.ok.inj _ _ _ e hc▸hi));by_cases hcc:c'=c;subst hcc;show#[_,RB];let⟨w2,z2⟩:=I.cell y c' e;show#[w2,z2.sameBut hs hcc];let⟨e,n,ne,nf,d⟩:=I.pin p hp;exact#[(hs.2 p.1 ?_).trans e,n,ne,nf,d];intro q;rw[q,hoc] at e;have q':oc=p.2:=bG e;show d w' (by rw[<- q'];show ZJ)
theorem xl (I:Inv X ak σ H s)(hN:X.N.Nodup)(hi:X.N[i]? =some x)(hx:Loc X.env.scope x)(r:RelV v u)(h: ∀s',Inv X ak (σ.set i (some v)) H s' ->Q () s')(hf:X.fn x=true \/ X.env.scope.names.lookup x=some .local:=by first | show .inl rfl | show .inr rfl | assumption):wpAny M A (storeName X.env x u) Q E s:=uh I hN hi hx r (λs' I' _=>h s' I') hf
def Inv.Vi (I:Inv X ak σ H s)(ho:s'.os=s.os)(u:Un (Av X.stack) ch H H' s.heap s'.heap)(dM:mS X.prog X.w H' s'.heap)(hg:AllBare s'.gens)(IZ: ∀b∈ch,(b∈X.ex \/ X.s₀.heap.objs.size<=b) /\ b≠X.env.locals /\ (∀x c,X.env.cells.lookup x=some c ->c≠b) /\ ∀p∈X.pn++ak,p.1≠b):Inv X ak σ H' s':=by let⟨h',g',d',t',o'⟩:=s';have e:o'=s.os:=ho;subst e;show I.call (g':=g') (t':=t') (d':=d') u dM hg IZ
abbrev XK:=fm ->fG gY ->Hp ->Prop
abbrev St:=fk (fG V)
abbrev VK:=V ->Hp ->Prop
abbrev TE:=St ->Hp ->VK ->Prop
abbrev TT:=St ->Hp ->(Bool ->Hp ->Prop) ->Prop
abbrev TA:=St ->Hp ->(fk V ->Hp ->Prop) ->Prop
structure yV where
 nx:St ->Hp ->Prop
 rt:VK
 bk:St ->Hp ->Prop:=λ_ _=>False
 ct:St ->Hp ->Prop:=λ_ _=>False
abbrev TS:=yV ->St ->Hp ->Prop
def EP (X:Cx)(ak:fk (gY×Obj))(σ:St)(Q:VK)(u:fm)(s':fo):Prop:=cO λv H'=>d_ (Inv X ak σ H' s') (RelV v u) (Q v H')
def TP (X:Cx)(ak:fk (gY×Obj))(σ:St)(Q:Bool ->Hp ->Prop)(b:Bool)(s':fo):Prop:= ∃H',Inv X ak σ H' s' /\ Q b H'
def AP (X:Cx)(ak:fk (gY×Obj))(σ:St)(Q:fk V ->Hp ->Prop)(us:fk fm)(s':fo):Prop:=cO λvs H'=>d_ (Inv X ak σ H' s') (cV vs us) (Q vs H')
def SP (X:Cx)(ak:fk (gY×Obj))(D:yV)(f:Flow)(s':fo):Prop:=
 match f with
 | .next=>cO λσ' H'=>Inv X ak σ' H' s' /\ D.nx σ' H'
 | .brk=>cO λσ' H'=>Inv X ak σ' H' s' /\ D.bk σ' H'
 | .cont=>cO λσ' H'=>Inv X ak σ' H' s' /\ D.ct σ' H'
 | .ret u=>im λv σ' H'=>d_ (Inv X ak σ' H' s') (RelV v u) (D.rt v H')
def PE (X:Cx)(e:Expr)(t:TE):Prop:=∀ (ak:fk (gY×Obj)) (s:fo) (σ:St) (H:Hp) (Q:VK),Inv X ak σ H s ->t σ H Q ->wpAny (model X.prog X.w) X.A (eval e X.env) (EP X ak σ Q) X.xe s
def PT (X:Cx)(e:Expr)(t:TT):Prop:=∀ (ak:fk (gY×Obj)) (s:fo) (σ:St) (H:Hp) (Q:Bool ->Hp ->Prop),Inv X ak σ H s ->t σ H Q ->wpAny (model X.prog X.w) X.A (isTrue e X.env (eval e X.env)) (TP X ak σ Q) X.xe s
def PW (X:Cx)(e:Expr)(t:TT):Prop:=∀ (mB:Sem fm) (ak:fk (gY×Obj)) (s:fo) (σ:St) (H:Hp) (Q:Bool ->Hp ->Prop),Inv X ak σ H s ->t σ H Q ->wpAny (model X.prog X.w) X.A (isTrue e X.env mB) (TP X ak σ Q) X.xe s
theorem PW.pt (h:PW X e t):PT X e t:=h _
def PA (X:Cx)(es:fk Expr)(t:TA):Prop:=∀ (pos:Pos) (ak:fk (gY×Obj)) (s:fo) (σ:St) (H:Hp) (Q:fk V ->Hp ->Prop),Inv X ak σ H s ->t σ H Q ->wpAny (model X.prog X.w) X.A (spliced (backTo pos (starEach es X.env))) (AP X ak σ Q) X.xe s
def PS (X:Cx)(st:Stmt)(t:TS):Prop:=∀ (ak:fk (gY×Obj)) (s:fo) (σ:St) (H:Hp) (D:yV),Inv X ak σ H s ->t D σ H ->wpAny (model X.prog X.w) X.A (exec st X.env) (SP X ak D) X.xe s
def y9 (X:Cx)(st:fk Stmt)(t:TS):Prop:=∀ (ak:fk (gY×Obj)) (s:fo) (σ:St) (H:Hp) (D:yV),Inv X ak σ H s ->t D σ H ->wpAny (model X.prog X.w) X.A (execs st X.env) (SP X ak D) X.xe s
theorem dL {Q Q':α ->fo ->Prop}(h:wpAny M A t Q E s)(hQ: ∀a s,Q a s ->Q' a s):wpAny M A t Q' E s:=b_ h hQ λ_ _ x=>x
section
variable {X:Cx}
def bin (ha:PE X a ta)(hb:PE X b tb){σ:St}{R:V ->V ->Hp ->Prop}(I:Inv X ak σ H s)(h:ta σ H λx H1=>tb σ H1 λy H2=>R x y H2){f:fm ->fm ->Sem α}(hf: ∀v u s2 x y H2,Inv X ak σ H2 s2 ->RelV x v ->RelV y u ->R x y H2 ->wpAny (model X.prog X.w) X.A (f v u) Q X.xe s2): wpAny (model X.prog X.w) X.A (eval a X.env) (λv s₁=>wpAny (model X.prog X.w) X.A (eval b X.env) (λu s₂=>wpAny (model X.prog X.w) X.A (f v u) Q X.xe s₂) X.xe s₁) X.xe s:=by exact dL (ha ak s σ H _ I h) λv s1 ⟨x,H1,I1,r1,q1⟩=> ?_;exact dL (hb ak s1 σ H1 _ I1 q1) λu s2 ⟨y,H2,I2,r2,q2⟩=> ?_;show hf v u s2 x y H2 I2 r1 r2 q2
def Jx (i:Nat):TE:=λσ H Q=> ∃v,σ[i]? =some (some v) /\ Q v H
def tC (v:V):TE:=λ_ H Q=>Q v H
def OW {pos:Pos}(hN:X.N[i]? =some x)(hv:Xr X.env.scope x)(hd:(x==("__debug__" :Str))=false:=by decide)(DJ:(x==("__classdict__" :Str))=false:=by decide):PE X (.Name x pos) (Jx i):=by
 intro ak s σ H Q I h;let⟨v,e,h⟩:=h;let⟨m,hn,hl⟩:=I.loc;let⟨u,r,l⟩:=hl i x v hN e hv;have fin:EP X ak σ Q u s:=#[v,H,I,r,h]
 rcases l with⟨hk,hm⟩ | ⟨hk,c,hc,Nw⟩
 show wpAny_Name (wpAny_loadName_local I.ok.kind hk hn hm fin) hd;obtain hk | hk:=hk;show wpAny_Name (wpAny_loadName_cell I.ok.kind hk hc Nw fin) hd;show wpAny_Name (wpAny_loadName_free I.ok.kind hk hc Nw fin DJ) hd
theorem aF {i j pos}:PE X (.Constant (.int i) j pos) (tC (.int i)):=λ_ _ _ H _ I h=>wpAny_Constant_int #[.int i,H,I.tok _,#[_,rfl],h]
theorem fF {b j pos}:PE X (.Constant (.bool b) j pos) (tC (.bl b)):=λ_ _ _ H _ I h=>Constant_bool #[.bl b,H,I,rfl,h]
theorem F8 {j pos}:PE X (.Constant .none j pos) (tC .fh):=λ_ _ _ H _ I h=>Constant_none #[.fh,H,I,rfl,h]
def Gl (X:Cx)(x:Str):Prop:=X.env.kindOf x=some .globalImplicit
theorem BQ {σ:St}(I:Inv X ak σ H s)(hg:Gl X x)(hm:X.mg x=some u)(h:Q u s)(hd:(x==("__debug__" :Str))=false:=by decide):wpAny (model X.prog X.w) X.A (eval (.Name x pos) X.env) Q E s:=Calls.Name_function_global I.ok.kind hg (Calls.loadGlobal_global (by rw[I.ok.glob];show I.mod.glob.keeps I.bk) hm h) hd
def g_ {E:fm ->fo ->Prop}{σ:St}{pos:Pos}(I:Inv X ak σ H s)(hg:Gl X x)(hm:X.mg x=none)(hv:bootBuiltins x=some u)(h:Q u s)(hn:x≠ "__name__" :=by decide)(hd:(x==("__debug__" :Str))=false:=by decide):wpAny (model X.prog X.w) X.A (eval (.Name x pos) X.env) Q E s:=by let⟨mb,h1,h2⟩:=I.mod.blt;show Calls.Name_function_global I.ok.kind hg (Calls.loadGlobal_builtin (by rw[I.ok.glob];show I.mod.glob.keeps I.bk) hm (by rw[I.ok.blt];show h1.keeps I.bk) ((h2 x hn).trans hv) h) hd
theorem iG {pos:Pos}(hg:Gl X x)(hm:X.mg x=none)(hv:bootBuiltins x=some u)(r:RelV v u)(hn:x≠ "__name__" :=by decide)(hd:(x==("__debug__" :Str))=false:=by decide):PE X (.Name x pos) (tC v):=λ_ _ _ H _ I h=>g_ I hg hm hv #[v,H,I,r,h] hn hd
variable {a b:Expr}{ta tb:TE}{pos:Pos}
def PC (X:Cx)(op:CmpOp)(a b:Expr)(t:TE):Prop:=∀ (ak:fk (gY×Obj)) (s:fo) (σ:St) (H:Hp) (Q:VK),Inv X ak σ H s ->t σ H Q ->wpAny (model X.prog X.w) X.A (eval a X.env) (λv s₁=>wpAny (model X.prog X.w) X.A (eval b X.env) (λu s₂=>wpAny (model X.prog X.w) X.A (compareOp op v u) (EP X ak σ Q) X.xe s₂) X.xe s₁) X.xe s
def Go (b:Expr)(h:op≠ .In)(h2:op≠ .NotIn):behindInMarks op b=false:=by
 have e1:(op==CmpOp.In)=false:=by cases op<;>first | rfl | show absurd rfl h
 have e2:(op==CmpOp.NotIn)=false:=by cases op<;>first | rfl | show absurd rfl h2
 cases b<;>simp[behindInMarks,e1,e2]
def tB (t:TE):TT:=λσ H Q=>t σ H λx H1=> ∃c,x= .bl c /\ Q c H1
def OU (h:PC X op a b t)(h1:behindInMarks op b=false:=by first | show Go _ ⋯ ⋯ | rfl):PT X (.Compare a [op] [b] pos) (tB t):=by intro ak s σ H Q I hw;exact wpAny_isTrue_Compare1 (dL (h ak s σ H _ I hw) λv s1 h1=>dL h1 λu s2 h2=>dL h2 λc s3 ⟨x,H1,I1,r1,q1⟩=> ?_) h1;let⟨d,rfl,q⟩:=q1;cases r1;show cT #[H1,I1,q]
def fS (h:PE X e t)(he: ∀mB,isTrue e X.env mB=(do let v <- mB;standAt e.pos;holding [v] (truthy v)):=by intro _;rfl):PT X e (tB t):=by intro ak s σ H Q I hw;exact isTrue_plain (dL (h ak s σ H _ I hw) λv s1 ⟨x,H1,I1,r1,q1⟩=> ?_) (he _);let⟨d,rfl,q⟩:=q1;cases r1;show cT #[H1,I1,q]
variable {tA Wd:TT}{e9:fk Expr}
def SJ (t u:TT):TT:=λσ H Q=>t σ H λc H1=>if c=true then u σ H1 Q else Q false H1
def tOr (t u:TT):TT:=λσ H Q=>t σ H λc H1=>if c=true then Q true H1 else u σ H1 Q
def SF (t:TT):TT:=λσ H Q=>t σ H λc H1=>Q (!c) H1
def lR (ha:PT X a tA):PW X (.BoolOp .And [a] pos) tA:=by
 intro wh ak s σ H Q I h;exact isTrue_and (dL (ha ak s σ H Q I h) λc s1 e=> ?_);cases c with
 | true=>show isTrue_and_nil e
 | false=>show e
def iB (ha:PT X a tA):PW X (.BoolOp .Or [a] pos) tA:=by
 intro wh ak s σ H Q I h;exact isTrue_or (dL (ha ak s σ H Q I h) λc s1 e=> ?_);cases c with
 | false=>show isTrue_or_nil e
 | true=>show e
def pF (ha:PT X a tA)(hb:PW X (.BoolOp .And (b::e9) pos) Wd):PW X (.BoolOp .And (a::b::e9) pos) (SJ tA Wd):=by
 intro wh ak s σ H Q I h;exact isTrue_and (dL (ha ak s σ H _ I h) λc s1 ⟨H1,I1,q1⟩=> ?_);cases c with
 | true=>show hb wh ak s1 σ H1 Q I1 q1
 | false=>show#[H1,I1,q1]
def iu (ha:PT X a tA)(hb:PW X (.BoolOp .Or (b::e9) pos) Wd):PW X (.BoolOp .Or (a::b::e9) pos) (tOr tA Wd):=by
 intro wh ak s σ H Q I h;exact isTrue_or (dL (ha ak s σ H _ I h) λc s1 ⟨H1,I1,q1⟩=> ?_);cases c with
 | true=>show#[H1,I1,q1]
 | false=>show hb wh ak s1 σ H1 Q I1 q1
def fC (ha:PT X a tA):PT X (.UnaryOp .Not a pos) (SF tA):=by intro ak s σ H Q I h;show isTrue_not (ha ak s σ H (λc H1=>Q (!c) H1) I h)
def L_ (ta tb:TE):TE:=λσ H Q=>ta σ H λx H1=> ∃c,x= .bl c /\ if c=true then tb σ H1 Q else Q (.bl false) H1
def SD (ta tb:TE):TE:=λσ H Q=>ta σ H λx H1=> ∃c,x= .bl c /\ if c=true then Q (.bl true) H1 else tb σ H1 Q
def L4 (ta:TE):TE:=λσ H Q=>ta σ H λx H1=> ∃c,x= .bl c /\ Q (.bl (!c)) H1
theorem F7 {op}(h:PE X a t):PE X (.BoolOp op [a] pos) t:=λak s σ H Q I hw=>BoolOp_one (h ak s σ H Q I hw)
def OY (ha:PE X a ta)(hb:PE X (.BoolOp .And (b::e9) pos) tb):PE X (.BoolOp .And (a::b::e9) pos) (L_ ta tb):=by
 intro ak s σ H Q I h;exact BoolOp_and (dL (ha ak s σ H _ I h) λv s1 ⟨x,H1,I1,r1,q1⟩=> ?_);let⟨c,rfl,q1⟩:=q1;cases r1;exact cT ?_;cases c with
 | true=>show hb ak s1 σ H1 Q I1 q1
 | false=>show#[.bl false,H1,I1,rfl,q1]
def Tn (ha:PE X a ta)(hb:PE X (.BoolOp .Or (b::e9) pos) tb):PE X (.BoolOp .Or (a::b::e9) pos) (SD ta tb):=by
 intro ak s σ H Q I h;exact BoolOp_or (dL (ha ak s σ H _ I h) λv s1 ⟨x,H1,I1,r1,q1⟩=> ?_);let⟨c,rfl,q1⟩:=q1;cases r1;exact cT ?_;cases c with
 | false=>show hb ak s1 σ H1 Q I1 q1
 | true=>show#[.bl true,H1,I1,rfl,q1]
def OX (ha:PE X a ta):PE X (.UnaryOp .Not a pos) (L4 ta):=by intro ak s σ H Q I h;exact UnaryOp_ (dL (ha ak s σ H _ I h) λv s1 ⟨x,H1,I1,r1,q1⟩=> ?_);let⟨c,rfl,q1⟩:=q1;cases r1;show not_of (cT #[.bl (!c),H1,I1,rfl,q1])
end
def gS (K:Ug)(H:Hp)(a:gY)(xs:fk V):Prop:=Rd H a (.lst xs) \/im λ(o:Obj) (its:i9 fm) (n:Nat)=>l_ (K.lookup a=some o) (o.cls= .type "list") (o.dict=none) (o.data= .seq its n) (its.size<=sizeLine) (cV xs its.toList)
def jI (K:Ug)(H:Hp)(a:gY)(xs:fk V):Prop:=Rd H a (.tup xs) \/im λ(o:Obj) (its:i9 fm) (n:Nat)=>l_ (K.lookup a=some o) (o.cls= .type "tuple") (o.dict=none) (o.data= .seq its n) (its.size<=sizeLine) (cV xs its.toList)
def abK:fm ->fG V
 | .none=>some .fh
 | .bool b=>some (.bl b)
 | .int i _=>some (.int i)
 | .str x _=>some (.str x)
 | .bytes b _=>some (.AG b)
 | .float b _=>some (.Cc b)
 | .ref a=>some (.ref a)
 | .type n=>some (.ty n)
 | _=>none
def RelV.abs (r:RelV x u):abK u=some x:=by
 cases x with
 | fh=>cases r;rfl
 | bl _=>cases r;rfl
 | int _=>let⟨t,rfl⟩:=r;rfl
 | str _=>let⟨t,rfl⟩:=r;rfl
 | AG _=>let⟨t,rfl⟩:=r;rfl
 | Cc _=>let⟨t,rfl⟩:=r;rfl
 | ref _=>cases r;rfl
 | ty _=>cases r;rfl
theorem RelV.inj {x y:V}{u:fm}(r:RelV x u)(q:RelV y u):x=y:=bG (r.abs.symm.trans q.abs)
theorem cV.inj: ∀ {xs ys:fk V} {us:fk fm},cV xs us ->cV ys us ->xs=ys
 | _,_,_, .nil, .nil=>rfl
 | _,_,_, .cons r t, .cons r' t'=>by rw[r.inj r',cV.inj t t']
theorem gS.of {K:Ug}(h:H a=some (.lst xs)):gS K H a xs:= .inl (.inl h)
theorem jI.of {K:Ug}(h:H a=some (.tup xs)):jI K H a xs:= .inl (.inl h)
def Inv.list {σ:St}(I:Inv X ak σ H s)(h:gS X.K H a xs): ∃its:fk fm,d_ (cV xs its) (PlainL s.heap a its.toArray) (xs.length<=sizeLine):=by obtain h | ⟨o,its,n,hk,hc,hd,hs,hz,r⟩:=h;let⟨z,its,n,r,e⟩:=h.ok I.dM;show#[its,r,#[_,n,e,rfl,rfl,rfl],z];exact#[its.toList,r,#[o,n,I.qz a o hk,hc,hd, ⇑hs],?_];have e:=r.length;simp![c_] at e;lia
def Inv.tuple {σ:St}(I:Inv X ak σ H s)(h:jI X.K H a xs): ∃its:fk fm,d_ (cV xs its) (IsTup s.heap a its.toArray) (xs.length<=sizeLine):=by obtain h | ⟨o,its,n,hk,hc,_,hs,hz,r⟩:=h;let⟨z,its,r,p⟩:=h.ok I.dM;show#[its,r,p.t,z];exact#[its.toList,r,#[o,I.qz a o hk,hc,n, ⇑hs],?_];have e:=r.length;simp![c_] at e;lia
def Inv.Om {σ:St}(I:Inv X ak σ H s)(h:jI X.K H a xs): ∃its:fk fm,d_ (cV xs its) (tX s.heap a its.toArray) (xs.length<=sizeLine):=by obtain h | ⟨o,its,n,hk,hc,hd,hs,hz,r⟩:=h;let⟨z,its,r,p⟩:=h.ok I.dM;show#[its,r,p,z];exact#[its.toList,r,#[o,I.qz a o hk,hc,n, ⇑hs,hd],?_];have e:=r.length;simp![c_] at e;lia
def Inv.list_inj {σ:St}(I:Inv X ak σ H s)(h:gS X.K H a xs)(h':gS X.K H a ys):xs=ys:=by let⟨its,r,⟨o,n,e,_,_,d⟩,_⟩:=I.list h;let⟨its',r',⟨o',n',e',_,_,d'⟩,_⟩:=I.list h';rw[e] at e';cases e';rw[d] at d';injection d' with d1 _;have:its=its':= ⇑(congrArg Array.toList d1);subst this;show r.inj r'
def Inv.pk {σ:St}(I:Inv X ak σ H s)(h:jI X.K H a xs)(h':jI X.K H a ys):xs=ys:=by let⟨its,r,⟨o,e,_,n,d⟩,_⟩:=I.tuple h;let⟨its',r',⟨o',e',_,n',d'⟩,_⟩:=I.tuple h';rw[e] at e';cases e';rw[d] at d';injection d' with d1 _;have:its=its':= ⇑(congrArg Array.toList d1);subst this;show r.inj r'
abbrev Cx.tE (X:Cx)(E:fm ->fo ->Prop):Cx:= {X with xe:=E}
abbrev Cx.Pf (X:Cx):Cx:=X.tE λ_ _=>False
theorem Cx.Ok.tE {X:Cx}(ok:X.Ok)(E:fm ->fo ->Prop):(X.tE E).Ok:=#[ok.mod,ok.kind,ok.glob,ok.blt,ok.above,ok.inj,ok.has,ok.Vj,ok.hd,ok.frames,ok.Wf,ok.exf,ok.bs,ok.Jf,ok.Gm,ok.DV,ok.qG,ok.QB]
theorem Cx.Ok.kZ {X:Cx}(ok:(X.tE E).Ok):X.Ok:=#[ok.mod,ok.kind,ok.glob,ok.blt,ok.above,ok.inj,ok.has,ok.Vj,ok.hd,ok.frames,ok.Wf,ok.exf,ok.bs,ok.Jf,ok.Gm,ok.DV,ok.qG,ok.QB]
theorem Inv.tE {σ:St}(I:Inv X ak σ H s)(E:fm ->fo ->Prop):Inv (X.tE E) ak σ H s:=#[I.ok.tE E,I.os,I.bare,I.base,I.loc,I.cell,I.free,I.jC,I.pin,I.dM,I.len]
theorem Inv.kZ {σ:St}(I:Inv (X.tE E) ak σ H s):Inv X ak σ H s:=#[I.ok.kZ,I.os,I.bare,I.base,I.loc,I.cell,I.free,I.jC,I.pin,I.dM,I.len]
def SP.kZ (h:SP (X.tE E) ak D f s'):SP X ak D f s':=by
 cases f with
 | next=>let⟨σ',H',I,q⟩:=h;show#[σ',H',I.kZ,q]
 | brk=>let⟨σ',H',I,q⟩:=h;show#[σ',H',I.kZ,q]
 | cont=>let⟨σ',H',I,q⟩:=h;show#[σ',H',I.kZ,q]
 | ret u=>let⟨v,σ',H',I,r,q⟩:=h;show#[v,σ',H',I.kZ,r,q]
theorem y9.Pf {st:fk Stmt}(h:y9 X.Pf st t):y9 X st t:=λak s σ H D I hw=>b_ (h ak s σ H D (I.tE _) hw) (λ_ _ q=>q.kZ) λ_ _ z=>False.elim z
section
variable {X:Cx}{st:Stmt}{e9:fk Stmt}{t u:TS}{e:Expr}{te:TE}{pos:Pos}
def L5:TS:=λD σ H=>D.nx σ H
def Ow (t u:TS):TS:=λD σ H=>t {D with nx:=u D} σ H
theorem cy:y9 X [] L5:=λ_ _ σ H _ I h=>wpAny_execs_nil #[σ,H,I,h]
def aD (h1:PS X st t)(h2:y9 X e9 u):y9 X (st::e9) (Ow t u):=by
 intro ak s σ H D I h;exact wpAny_execs_cons (dL (h1 ak s σ H {D with nx:=u D} I h) λf s1 q=> ?_);cases f with
 | next=>let⟨σ',H',I',q⟩:=q;show h2 ak s1 σ' H' D I' q
 | ret v=>show q
 | brk=>show q
 | cont=>show q
def aK (h1:PS X st t):y9 X [st] t:=by
 intro ak s σ H D I h;exact wpAny_execs_cons (dL (h1 ak s σ H D I h) λf s1 q=> ?_);cases f with
 | next=>show wpAny_execs_nil q
 | ret v=>show q
 | brk=>show q
 | cont=>show q
def L9:TS:=λD σ H=>D.ct σ H
theorem xE:PS X (.Continue pos) L9:=λ_ _ σ H _ I h=>wpAny_Continue #[σ,H,I,h]
def Inv.quiet {σ:St}(I:Inv X ak σ H s):interactive X.env=false:=by simp[interactive,I.ok.kind]
def L7 (te:TE):TS:=λD σ H=>te σ H λ_ H1=>D.nx σ H1
def gl (he:PE X e te)(hs:swapsWith e none pos.line X.env=pure false:=by rfl):PS X (.Expr e pos) (L7 te):=by intro ak s σ H D I h;show wpAny_Expr_any (dL (he ak s σ H _ I h) λv s1 ⟨x,H1,I1,r1,q1⟩=>#[σ,H1,I1,q1]) I.quiet hs
def SA (te:TE):TS:=λD σ H=>te σ H D.rt
def bF (he:PE X e te):PS X (.Return (some e) pos) (SA te):=by intro ak s σ H D I h;show wpAny_Return_some (dL (he ak s σ H _ I h) λv s1 ⟨x,H1,I1,r1,q1⟩=>#[x,σ,H1,I1,r1,q1])
def LZ:TS:=λD _ H=>D.rt .fh H
theorem JQ:PS X (.Return none pos) LZ:=λ_ _ σ H _ I h=>wpAny_Return_none #[.fh,σ,H,I,rfl,h]
def SH (c:TT)(t u:TS):TS:=λD σ H=>c σ H λb H1=>if b=true then t D σ H1 else u D σ H1
def dS (hc:PT X c tc)(ha:y9 X a t)(hb:y9 X b u):PS X (.If c a b pos) (SH tc t u):=by
 intro ak s σ H D I h;exact wpAny_If (dL (hc ak s σ H _ I h) λd s1 ⟨H1,I1,q1⟩=> ?_);cases d with
 | true=>show ha ak s1 σ H1 D I1 q1
 | false=>show hb ak s1 σ H1 D I1 q1
end
abbrev TG:=V ->St ->Hp ->(St ->Hp ->Prop) ->Prop
abbrev Jh:=fk V ->St ->Hp ->(St ->Hp ->Prop) ->Prop
def PG (X:Cx)(pq:Expr)(t:TG):Prop:=∀ (ak:fk (gY×Obj)) (s:fo) (σ:St) (H:Hp) (v:V) (u:fm) (Q:St ->Hp ->Prop),Inv X ak σ H s ->RelV v u ->t v σ H Q ->wpAny (model X.prog X.w) X.A (assign pq X.env u) (λ_ s'=>cO λσ' H'=>Inv X ak σ' H' s' /\ Q σ' H') X.xe s
def Xt (X:Cx)(ts:fk Expr)(t:Jh):Prop:=∀ (ak:fk (gY×Obj)) (s:fo) (σ:St) (H:Hp) (vs:fk V) (us:fk fm) (Q:St ->Hp ->Prop),Inv X ak σ H s ->cV vs us ->t vs σ H Q ->wpAny (model X.prog X.w) X.A (assignInOrder ((assignEach ts X.env).map (·.2)) us) (λ_ s'=>cO λσ' H'=>Inv X ak σ' H' s' /\ Q σ' H') X.xe s
abbrev Ih:=V ->V ->V ->Hp ->(Hp ->Prop) ->Prop
def Vt (X:Cx)(t:Ih):Prop:=∀ (ak:fk (gY×Obj)) (s:fo) (σ:St) (H:Hp) (o i v:V) (ov iv u:fm) (Q:Hp ->Prop),Inv X ak σ H s ->RelV o ov ->RelV i iv ->RelV v u ->t o i v H Q ->wpAny (model X.prog X.w) X.A (setItem ov iv u) (λ_ s'=> ∃H',Inv X ak σ H' s' /\ Q H') X.xe s
def oI (i:Nat):TG:=λv σ H Q=>Q (σ.set i (some v)) H
def bf (hN:X.N.Nodup)(hi:X.N[i]? =some x)(hx:Loc X.env.scope x)(hf:X.fn x=true \/ X.env.scope.names.lookup x=some .local:=by first | show .inl rfl | show .inr rfl | assumption):PG X (.Name x pos) (oI i):=by intro ak s σ H v u Q I r h;show wpAny_assign_Name (xl I hN hi hx r (λs' I'=>#[_,H,I',h]) hf)
def Qz:Jh:=λvs σ H Q=>vs= [] /\ Q σ H
def Cb (t:TG)(u:Jh):Jh:=λvs σ H Q=>cO λv r=>vs=v::r /\ t v σ H λσ' H'=>u r σ' H' Q
def fT:Xt X [] Qz:=by intro ak s σ H vs us Q I r h;let⟨e,h⟩:=h;subst e;cases r;show assignInOrder_nil #[σ,H,I,h]
def ci (h1:PG X e t)(h2:Xt X es u)(hs:(assignEach (e::es) X.env).map (·.2)=assign e X.env::(assignEach es X.env).map (·.2):=by rfl):Xt X (e::es) (Cb t u):=by
 intro ak s σ H vs us Q I r h;let⟨v,vr,e1,h⟩:=h;subst e1;cases r with
 | cons r rr=>rw[hs];exact assignInOrder_cons (dL (h1 ak s σ H _ _ _ I r h) λ_ s1 ⟨σ1,H1,I1,q1⟩=> ?_);show h2 ak s1 σ1 H1 _ _ Q I1 rr q1
def Qy (K:Ug)(n:Nat)(t:Jh):TG:=λv σ H Q=>cO λa xs=>fZ (v= .ref a) (jI K H a xs) (xs.length=n) (t xs σ H Q)
def gH {pos:Pos}{k:Nat}(hc:X.calm=true)(h:Xt X es t)(hn:(assignEach es X.env).length=n:=by rfl)(f8:(assignEach es X.env).findIdx? (·.1)=none:=by rfl):PG X (.Tuple es k pos) (Qy X.K n t):=by intro ak s σ H v u Q I r hw;let⟨a,xs,e1,hq,hl,hw⟩:=hw;subst e1;cases r;let⟨its,rv,ht,hz⟩:=I.tuple hq;exact assign_Tuple_tuple (I.ok.hd hc) ht (by simp[hn, <- hl,rv.length]) f8 λh' hx=> ?_;have I1:Inv X ak σ H {s with heap:=h'}:=I.kept (t':=s.toks) λb o e=>hx b o (a4 (aH e)) e;show h ak _ σ H xs _ Q I1 ⇑rv hw
def U7 (to ti:TE)(t:Ih):TG:=λv σ H Q=>to σ H λo H1=>ti σ H1 λi H2=>t o i v H2 λH3=>Q σ H3
theorem pG (ho:PE X o to)(hi:PE X i ti)(hs:Vt X t)(ha: ∀v,assign (.Subscript o i pos) X.env v=(do
  let ov <- holding [v] (eval o X.env)
  let iv <- holding [v,ov] (eval i X.env)
  standAt pos
  holding [v,ov,iv] (setItem ov iv v)
  release [v,ov,iv] []):=by intro _;rfl):PG X (.Subscript o i pos) (U7 to ti t):=by
 intro ak s σ H v u Q I r h
 rw[ha]
 exact ag (d6 (dL (ho ak s σ H _ I h) λov s1 ⟨x,H1,I1,r1,q1⟩=> ?_))
 exact ag (d6 (dL (hi ak s1 σ H1 _ I1 q1) λiv s2 ⟨y,H2,I2,r2,q2⟩=> ?_))
 exact ag (wpAny_standAt (ag (d6 (dL (hs ak s2 σ H2 x y v ov iv u _ I2 r1 r2 r q2) λ_ s3 ⟨H3,I3,q3⟩=> ?_))))
 show wpAny_release #[σ,H3,I3,q3]
def Fs (te:TE)(g:TG):TS:=λD σ H=>te σ H λx H1=>g x σ H1 D.nx
def m8 {pos:Pos}(he:PE X e te)(hg:PG X tg g)(hs:swapsWithSole [tg] e pos.line X.env=pure false:=by rfl)(hw:swappedStores [tg] e X.env=pure none:=by rfl)(h1:(assignEach [tg] X.env).map (·.2)= [assign tg X.env]:=by rfl):PS X (.Assign [tg] e pos) (Fs te g):=by intro ak s σ H D I h;exact wpAny_Assign_stores (dL (he ak s σ H _ I h) λv s1 ⟨x,H1,I1,r1,q1⟩=> ?_) hs hw;rw[h1];show dL (hg ak s1 σ H1 x v _ I1 r1 q1) λ_ s2 q=>q
def b8 {pos:Pos}(hN:X.N.Nodup)(hi:X.N[i]? =some x)(hx:Loc X.env.scope x)(he:PE X e te)(hs:swapsWith e (some (.Name x m_)) pos.line X.env=pure false:=by rfl)(hf:X.fn x=true \/ X.env.scope.names.lookup x=some .local:=by first | show .inl rfl | show .inr rfl | assumption): PS X (.Assign [.Name x m_] e pos) (Fs te (oI i)):=by intro ak s σ H D I h;exact wpAny_Assign_Name (dL (he ak s σ H _ I h) λv s1 ⟨y,H1,I1,r1,q1⟩=> ?_) hs;show xl I1 hN hi hx r1 (λs2 I2=>#[_,H1,I2,q1]) hf
def Fd (c:TT)(tb:TS):TS:=λD σ H=> ∃W:Nat ->St ->Hp ->Prop,(∃m,W m σ H) /\ ∀m σ H,W m σ H ->c σ H λb H1=>if b=true then ∃N:St ->Hp ->Prop,(∀σ' H',N σ' H' -> ∃m',m'<m /\ W m' σ' H') /\ tb {D with nx:=N,ct:=N,bk:=D.nx} σ H1 else D.nx σ H1
def xD (hp:PassesOwn (model X.prog X.w) X.A X.env X.xe)(hc:PT X c tc)(hb:y9 X body tb):PS X (.While c body [] pos) (Fd tc tb):=by
 intro ak s σ H D I h;let⟨W,⟨m0,w0⟩,turn⟩:=h;exact wpAny_While (codeAny_whileLoop (λn s'=>cO λσ' H'=>Inv X ak σ' H' s' /\ W n σ' H') ?_ m0 #[σ,H,I,w0]);rintro n s1 ⟨σ1,H1,I1,w1⟩;exact wpAny_passesOwn hp (dL (hc ak s1 σ1 H1 _ I1 (turn n σ1 H1 w1)) λb s2 ⟨H2,I2,q2⟩=> ?_);cases b with
 | true=>
  let⟨N,hN,q2⟩:=q2;rw[am rfl];exact wpAny_passesOwn hp (dL (hb ak s2 σ1 H2 _ I2 q2) λf s3 q3=> ?_);cases f with
  | next=>let⟨σ3,H3,I3,n3⟩:=q3;let⟨m',hm,w3⟩:=hN σ3 H3 n3;show#[m',hm,σ3,H3,I3,w3]
  | cont=>let⟨σ3,H3,I3,n3⟩:=q3;let⟨m',hm,w3⟩:=hN σ3 H3 n3;show#[m',hm,σ3,H3,I3,w3]
  | brk=>show q3
  | ret v=>show q3
 | false=>rw[ai a_];show wpAny_execs_nil #[σ1,H2,I2,q2]
structure It where
 go:Nat ->Hp ->Prop
 LI:Nat ->Hp ->V ->Hp ->Prop
 stop:Nat ->Hp ->Prop
def kK (X:Cx)(ak:fk (gY×Obj))(H:Hp)(b:gY):Prop:=H b=none /\ b≠X.env.locals /\ b∉X.fs /\ (b∈X.ex \/ X.s₀.heap.objs.size<=b) /\ (∀x c,X.env.cells.lookup x=some c ->c≠b) /\ ∀p∈X.pn++ak,p.1≠b
def Inv.wu {σ:St}{b:gY}(I:Inv X ak σ H s)(hb:s.heap.objs.size<=b)(hn:H' b=none):kK X ak H' b:=by exact#[hn,Nat.ne_of_gt (bY I.lt hb),I.YU hb, .inr (aT I.sz hb),λx c e z=> ?_,λp hp z=> ?_];let⟨v,q⟩:=I.cell x c e;show absurd (bY q.lt (by rw[z];show hb)) (bT _);show absurd (bY (aH (I.pin p hp).1) (by rw[z];show hb)) (bT _)
structure tS (P:Program)(w:World)(K:PySem.W.Frag)(tg:Expr)(J:It)(fp:List Addr)(it:Addr)(tn:Nat ->Heap ->Prop):Prop where
 mem:it∈fp
 obj: ∀i h,tn i h -> ∀b∈fp, ∃o,h.get? b=some o /\ ∀v,o.data≠ .cell v
 keep: ∀i h h',tn i h ->(∀b∈fp, ∀o,h.get? b=some o ->h'.get? b=some o) ->tn i h'
 item: ∀ (X:Cx),X.prog=P ->X.w=w ->X.K=K ->X.calm=true -> ∀ (i:Nat) (ak:List (Addr×Obj)) (s:Shared) (σ:St) (H:Hp) (E:Value ->Shared ->Prop),Inv X ak σ H s ->(∀b∈fp,kK X ak H b) ->tn i s.heap ->J.go i H ->wpAny (model P w) X.A (pyNext (.ref it)) (λr s1=> ∃u,r=some u /\wpAny (model P w) X.A (letOwnedTupleGo tg (.ref it) u) (λ_ s2=>cO λx H'=>j8 (Inv X ak σ H' s2) (RelV x u) (J.LI i H x H') (tn (i+1) s2.heap) (∀b∈fp,H' b=none)) E s1) E s
 done: ∀ (X:Cx),X.prog=P ->X.w=w ->X.K=K ->X.calm=true -> ∀ (i:Nat) (ak:List (Addr×Obj)) (s:Shared) (σ:St) (H:Hp) (E:Value ->Shared ->Prop),Inv X ak σ H s ->(∀b∈fp,kK X ak H b) ->tn i s.heap ->J.stop i H ->wpAny (model P w) X.A (pyNext (.ref it)) (λr s1=>r=none /\ Inv X ak σ H s1) E s
 self: ∀ (A:Around) (i:Nat) (s:Shared) (Q:Value ->Shared ->Prop) (E:Value ->Shared ->Prop),tn i s.heap ->Q (.ref it) s ->wpAny (model P w) A (pyIter (.ref it)) Q E s
abbrev TI:=St ->Hp ->(It ->Hp ->Prop) ->Prop
def PIE (X:Cx)(ak:fk (gY×Obj))(σ:St)(tg:Expr)(R:It ->Hp ->Prop)(Ri:fm)(s2:fo):Prop:=Lr λ(it:gY) (fp:fk gY) (tn:Nat ->Heap ->Prop) (J:It) (H':Hp)=>l_ (Ri= .ref it) (Inv X ak σ H' s2) (tS X.prog X.w X.K tg J fp it tn) (tn 0 s2.heap) (∀b∈fp,kK X ak H' b) (R J H')
def PI (X:Cx)(tg iter:Expr)(wi:TI):Prop:=∀ (ak:fk (gY×Obj)) (s:fo) (σ:St) (H:Hp) (R:It ->Hp ->Prop),Inv X ak σ H s ->wi σ H R ->wpAny (model X.prog X.w) X.A (eval iter X.env) (λv s1=>wpAny (model X.prog X.w) X.A (pyIter v) (PIE X ak σ tg R) X.xe s1) X.xe s
def Ca (ho:s.heap.get? it=some o)(hc:o.cls= .type n)(hd:o.data= .fields vs)(hn: ["enumerate","zip","dict_itemiterator","dict_reverseitemiterator","odict_iterator","itertools.zip_longest","itertools.pairwise"].contains n=false)(hQ:Q () s):wpAny M A (letOwnedTupleGo tg (.ref it) u) Q E s:=by
 unfold letOwnedTupleGo;cases tg <;>first
 | show aC hQ
 | (cases u<;>first
  | show aC hQ
  | (exact ag (wpAny_load ho ?_)
     rw[hc,hd]
     change wpAny M A (if(["enumerate","zip","dict_itemiterator","dict_reverseitemiterator","odict_iterator","itertools.zip_longest","itertools.pairwise"].contains n && vs[0]? ==some (rawInt _))=true then _ else _) Q E s
     rw[ai (by intro h;rw[hn,Bool.false_and] at h;cases h)]
     show aC hQ))
def Itl (K:Ug)(a:gY):It:=#[λi H=>cO λxs x=>gS K H a xs /\ xs[i]? =some x,λi H x H'=>H'=H /\ ∀xs,gS K H a xs ->xs[i]? =some x,λi H=> ∃xs,gS K H a xs /\ xs.length<=i]
def Itt (K:Ug)(a:gY):It:=#[λi H=>cO λxs x=>jI K H a xs /\ xs[i]? =some x,λi H x H'=>H'=H /\ ∀xs,jI K H a xs ->xs[i]? =some x,λi H=> ∃xs,jI K H a xs /\ xs.length<=i]
def Vz (lo:Int)(n:Nat):It:=#[λi _=>i<n,λi H x H'=>H'=H /\ x= .int (lo+i),λi _=>n<=i]
def CU {P:Program}{w:World}{K:Ug}{tg:Expr}(a it:gY):tS P w K tg (Itl K a) [it] it (λi h=>h.IsListIter it a i) where
 mem:=by simp
 obj:=λi h st b hb=>by have e:b=it:= ⇑hb;subst e;let⟨o,e,c,d⟩:=st;show#[o,e,λv z=>by rw[d] at z;cases z]
 keep:=λi h h' st k=>st.at λo e=>k it (by simp) o e
 item:=by intro X hP hw hK hc i ak s σ H E I hf st hg;subst hP hw hK;let⟨xs,x,hq,hx⟩:=hg;let⟨its,rv,p,hz⟩:=I.list hq;let⟨u,hu,ru⟩:=rv.get hx;let⟨f0,f1,f2,f3,f4,f5⟩:=hf it (by simp);exact wpAny_pyNext_list_item st p.isList (x:=u) ⇑hu λh' bD sb=> ?_;have I1:Inv X ak σ H {s with heap:=h'}:=I.turned (t':=s.toks) (λb o hb e=>(sb.2 b hb).trans e) f0 f1 f3 f4 f5;let⟨o,e,c,d⟩:=id bD;show#[u,rfl,Ca (s:= {s with heap:=h'}) e c d ⋯ #[x,H,I1,ru,#[rfl,λys hy=>by rw[I.list_inj hy hq];show hx],bD,λb hb=>(hf b hb).1]]
 done:=by intro X hP hw hK hc i ak s σ H E I hf st hg;subst hP hw hK;let⟨xs,hq,hx⟩:=hg;let⟨its,rv,p,hz⟩:=I.list hq;let⟨f0,f1,f2,f3,f4,f5⟩:=hf it (by simp);have hl:=rv.length;show wpAny_pyNext_list_end (I.ok.hd hc) st p.isList (by simp;lia) λh' eb=>#[rfl,I.turned (t':=s.toks) (λb o hb e=>eb b o hb e) f0 f1 f3 f4 f5]
 self:=λ_ _ _ _ _ st h=>wpAny_pyIter_listiter st h
def zg {P:Program}{w:World}{K:Ug}{tg:Expr}(a it:gY):tS P w K tg (Itt K a) [it] it (λi h=>h.IsTupleIter it a i) where
 mem:=by simp
 obj:=λi h st b hb=>by have e:b=it:= ⇑hb;subst e;let⟨o,e,c,d⟩:=st;show#[o,e,λv z=>by rw[d] at z;cases z]
 keep:=λi h h' st k=>st.at λo e=>k it (by simp) o e
 item:=by intro X hP hw hK hc i ak s σ H E I hf st hg;subst hP hw hK;let⟨xs,x,hq,hx⟩:=hg;let⟨its,rv,p,hz⟩:=I.tuple hq;let⟨u,hu,ru⟩:=rv.get hx;let⟨f0,f1,f2,f3,f4,f5⟩:=hf it (by simp);exact wpAny_pyNext_tuple_item st (show s.heap.IsTuple a its.toArray from p) (x:=u) ⇑hu λh' bD sb=> ?_;have I1:Inv X ak σ H {s with heap:=h'}:=I.turned (t':=s.toks) (λb o hb e=>(sb.2 b hb).trans e) f0 f1 f3 f4 f5;let⟨o,e,c,d⟩:=id bD;show#[u,rfl,Ca (s:= {s with heap:=h'}) e c d ⋯ #[x,H,I1,ru,#[rfl,λys hy=>by rw[I.pk hy hq];show hx],bD,λb hb=>(hf b hb).1]]
 done:=by intro X hP hw hK hc i ak s σ H E I hf st hg;subst hP hw hK;let⟨xs,hq,hx⟩:=hg;let⟨its,rv,p,hz⟩:=I.tuple hq;let⟨f0,f1,f2,f3,f4,f5⟩:=hf it (by simp);have hl:=rv.length;show wpAny_pyNext_tuple_end (I.ok.hd hc) st (show s.heap.IsTuple a its.toArray from p) (by simp;lia) λh' eb=>#[rfl,I.turned (t':=s.toks) (λb o hb e=>eb b o hb e) f0 f1 f3 f4 f5]
 self:=λ_ _ _ _ _ st h=>wpAny_pyIter_tupleiter st h
def zh {P:Program}{w:World}{K:Ug}{tg:Expr}(it:gY)(lo:Int)(n:Nat):tS P w K tg (Vz lo n) [it] it (λi h=>IsRangeIter h it (lo+(i:Nat)*1) ((n:Int) - (i:Nat)) 1) where
 mem:=by simp
 obj :=λi h st b hb=>by have e:b=it:= ⇑hb;subst e;show#[_,st,λv z=>by have z':Data.fields _=Data.cell v:=z;cases z']
 keep:=λi h h' st k=>k it (by simp) _ st
 item:=by intro X hP hw hK hc i ak s σ H E I hf st hg;subst hP hw hK;let⟨f0,f1,f2,f3,f4,f5⟩:=hf it (by simp);have W:=Walks.range (prog:=X.prog) (w:=X.w) (I.ok.hd hc) it lo 1 n;exact W.item i s _ _ hg st λv h' tk hv bD kk=> ?_;let⟨t,rfl⟩:=hv;have I1:Inv X ak σ H {s with heap:=h',toks:=tk}:=I.turned (λb o hb e=>kk b o ⇑hb e) f0 f1 f3 f4 f5;exact#[_,rfl,Ca (s:= {s with heap:=h',toks:=tk}) (n:= "range_iterator") bD rfl rfl ⋯ #[.int (lo+i),H,I1,#[t,?_],#[rfl,rfl],bD,λb hb=>(hf b hb).1]];rw[d7]
 done:=by intro X hP hw hK hc i ak s σ H E I hf st hg;subst hP hw hK;let⟨f0,f1,f2,f3,f4,f5⟩:=hf it (by simp);show wpAny_pyNext_range_end (I.ok.hd hc) st (by have:n<=i:=hg;lia) λh' eb=>#[rfl,I.turned (t':=s.toks) (λb o hb e=>eb b o hb e) f0 f1 f3 f4 f5]
 self:=λ_ _ _ _ _ st h=>wpAny_pyIter_rangeiter st h
def G4 (K:Ug)(tl:TE):TI:=λσ H R=>tl σ H λx H1=> ∃a,d_ (x= .ref a) (∃xs,gS K H1 a xs) (R (Itl K a) H1)
def Ui (K:Ug)(tl:TE):TI:=λσ H R=>tl σ H λx H1=> ∃a,d_ (x= .ref a) (∃xs,jI K H1 a xs) (R (Itt K a) H1)
def eU (hl:PE X l tl):PI X tg l (G4 X.K tl):=by intro ak s σ H R I h;exact dL (hl ak s σ H _ I h) λv s1 ⟨x,H1,I1,r1,q1⟩=> ?_;let⟨a,e,⟨xs,hq⟩,q⟩:=q1;subst e;cases r1;let⟨its,rv,p,hz⟩:=I1.list hq;exact wpAny_pyIter_list p.isList ?_;exact#[s1.heap.objs.size,[s1.heap.objs.size],_,_,H1,rfl,I1.kept (t':=s1.toks) λb o e=>aq _ e,CU a _,#[_,aQ _ rfl,rfl,rfl],λb hb=> ?_,q];have e:b=s1.heap.objs.size:= ⇑hb;subst e;show I1.wu (ap _) (I1.dM.fresh (ap _))
def jt (hl:PE X l tl):PI X tg l (Ui X.K tl):=by intro ak s σ H R I h;exact dL (hl ak s σ H _ I h) λv s1 ⟨x,H1,I1,r1,q1⟩=> ?_;let⟨a,e,⟨xs,hq⟩,q⟩:=q1;subst e;cases r1;let⟨its,rv,p,hz⟩:=I1.tuple hq;exact wpAny_pyIter_tuple (show s1.heap.IsTuple a its.toArray from p) ?_;exact#[s1.heap.objs.size,[s1.heap.objs.size],_,_,H1,rfl,I1.kept (t':=s1.toks) λb o e=>aq _ e,zg a _,#[_,aQ _ rfl,rfl,rfl],λb hb=> ?_,q];have e:b=s1.heap.objs.size:= ⇑hb;subst e;show I1.wu (ap _) (I1.dM.fresh (ap _))
def xA {σ:St}{lo hi:Int}(I:Inv X ak σ H s)(h1: -(2 ^ 62) <=lo)(h2:lo<2 ^ 62)(h3: -(2 ^ 62) <=hi)(h4:hi<2 ^ 62)(q:R (Vz lo (hi - lo).toNat) H):wpAny (model X.prog X.w) X.A (pyIter (.ref s.heap.objs.size)) (PIE X ak σ tg R) E {s with heap:=s.heap.push {cls:= .type "range",data:= .fields (List.toArray [.int lo t, .int hi u, .int 1 v])},toks:=tk}:=by
 exact wpAny_pyIter_range (IsRange.new ..) (small_one h1 h2 h3 h4) ?_;have I1:Inv X ak σ H {s with heap:=s.heap.push {cls:= .type "range",data:= .fields (List.toArray [.int lo t, .int hi u, .int 1 v])},toks:=tk}:=I.kept λb o e=>aq _ e;exact#[(s.heap.push {cls:= .type "range",data:= .fields (List.toArray [.int lo t, .int hi u, .int 1 v])}).objs.size,[(s.heap.push {cls:= .type "range",data:= .fields (List.toArray [.int lo t, .int hi u, .int 1 v])}).objs.size],_,_,H,rfl,I1.kept (t':=tk) λb o e=>aq _ e,zh _ lo (hi - lo).toNat,?_,λb hb=> ?_,q];have e1:lo+((0:Nat):Int)*1=lo:=by simp
 have e2:(((hi - lo).toNat:Nat):Int) - ((0:Nat):Int)=Builtin.Range.rangeSize lo hi 1:=by rw[rangeSize_one];split<;>lia
 change IsRangeIter _ _ (lo+((0:Nat):Int)*1) ((((hi - lo).toNat:Nat):Int) - ((0:Nat):Int)) 1;rw[e1,e2];show aQ _ rfl;have e:b=(s.heap.push {cls:= .type "range",data:= .fields (List.toArray [.int lo t, .int hi u, .int 1 v])}).objs.size:=by simpa using hb
 subst e;show I1.wu (ap _) (I1.dM.fresh (ap _))
def MV (ta:TA):TI:=λσ H R=>ta σ H λvs H1=> ∃j:Int,fZ (vs= [.int j]) (-(2 ^ 62) <=j) (j<2 ^ 62) (R (Vz 0 j.toNat) H1)
def MU (ta:TA):TI:=λσ H R=>ta σ H λvs H1=>cO λ(i j:Int)=>d_ (vs= [.int i, .int j]) (-(2 ^ 62) <=i /\ i<2 ^ 62 /\ -(2 ^ 62) <=j /\ j<2 ^ 62) (R (Vz i (j - i).toNat) H1)
def gm (hg:Gl X "range")(hm:X.mg "range" =none)(ha:PA X [a] ta)(hs:starEach [a] X.env= [(false,eval a X.env)]:=by rfl):PI X tg (.Call (.Name "range" p) [a] [] pos) (MV ta):=by
 intro ak s σ H R I h;exact Call_ (g_ I hg hm boot_range (bM (dL (ha pos ak s σ H _ I h) λus s1 ⟨vs,H1,I1,r1,q1⟩=> ?_) hs rfl));let⟨j,e,q1,q2,q⟩:=q1;subst e;cases r1 with
 | cons r rr=>cases rr;let⟨t,rfl⟩:=r;show call_range_1 (xA I1 ∅ ∅ q1 q2 ⇑q)
def Db {tg:Expr}{p pos:Pos}(hg:Gl X "range")(hm:X.mg "range" =none)(ha:PA X [a,b] ta)(hs:starEach [a,b] X.env= [(false,eval a X.env),(false,eval b X.env)]:=by rfl)(kR:starEach [b] X.env= [(false,eval b X.env)]:=by rfl): PI X tg (.Call (.Name "range" p) [a,b] [] pos) (MU ta):=by
 intro ak s σ H R I h;exact Call_ (g_ I hg hm boot_range (bM (dL (ha pos ak s σ H _ I h) λus s1 ⟨vs,H1,I1,r1,q1⟩=> ?_) (by rw[hs,kR]) (by rw[kR];rfl)));let⟨i,j,e,⟨q1,q2,q3,q4⟩,q⟩:=q1;subst e;cases r1 with
 | cons r rr=>
  cases rr with
  | cons r' rr=>cases rr;let⟨t,rfl⟩:=r;let⟨t',rfl⟩:=r';show call_range_2 (xA I1 q1 q2 q3 q4 q)
def SI (wi:TI)(g:TG)(tb:TS):TS:=λD σ H=>wi σ H λJ H1=> ∃W:Nat ->Nat ->St ->Hp ->Prop,(∃m,W 0 m σ H1) /\ ∀i m σ H,W i m σ H ->(J.stop i H /\ D.nx σ H) \/ (J.go i H /\ ∃N:St ->Hp ->Prop,(∀σ' H',N σ' H' -> ∃m',m'<m /\ W (i+1) m' σ' H') /\ ∀x H',J.LI i H x H' ->g x σ H' λσ2 H2=>tb {D with nx:=N,ct:=N,bk:=D.nx} σ2 H2)
def jr (fp:fk gY)(h:Heap):fk (gY×Obj):=fp.filterMap λb=>(h.get? b).map λo=>(b,o)
theorem gh (hb:b∈fp)(e:h.get? b=some o):(b,o)∈jr fp h:=List.mem_filterMap.mpr #[b,hb,by rw[e];rfl]
def Di (hp:p∈jr fp h):p.1∈fp /\ h.get? p.1=some p.2:=by
 let⟨b,hb,e⟩:=List.mem_filterMap.mp hp;cases q:h.get? b with
 | none=>rw[q] at e;cases e
 | some o=>rw[q] at e;have e':(b,o)=p:=bG e;subst e';show#[hb,q]
theorem Inv.pinned {σ:St}(I:Inv X ak σ H s)(hf: ∀b∈fp,kK X ak H b)(ho: ∀b∈fp, ∃o,s.heap.get? b=some o /\ ∀v,o.data≠ .cell v):Inv X (ak++jr fp s.heap) σ H s:=I.BD λp hp=>(aA.mp hp).elim (λz=>I.pin p (aZ _ z)) λz=>by let⟨hb,e⟩:=Di z;let⟨f0,f1,f2,_⟩:=hf p.1 hb;let⟨o,e',d⟩:=ho p.1 hb;rw[e] at e';cases e';show#[e,f0,f1,f2,d]
theorem Inv.j9 {σ:St}(I:Inv X (ak++pl) σ H s):Inv X ak σ H s:=I.BD λp hp=>I.pin p (aZ _ (List.mem_append_left _ hp))
def fD (hp:PassesOwn (model X.prog X.w) X.A X.env X.xe)(hc:X.calm=true)(hi:PI X tg iter wi)(hg:PG X tg g)(hb:y9 X body tb)(hs: ∀x,foldedSetIterable iter X.env x=pure x:=by intro _;rfl):PS X (.For tg iter body [] pos) (SI wi g tb):=by
 intro ak s σ H D I h;exact wpAny_For (dL (hi ak s σ H _ I h) λv s1 h1=>dL h1 λRi s2 h2=> ?_) hs;let⟨it,fp,tn,J,H2,e,I2,T,mU,f2,W,⟨m0,w0⟩,turn⟩:=h2;subst e;have rG: ∀ {H':Hp},(∀b∈fp,H' b=none) -> ∀b∈fp,kK X ak H' b:=λhn b hb=>#[hn b hb,(f2 b hb).2]
 exact codeAny_forLoop_any (λn s'=>im λi σ' H'=>fZ (Inv X ak σ' H' s') (tn i s'.heap) (∀b∈fp,H' b=none) (W i n σ' H')) ?_ m0 #[0,σ,H2,I2,mU,λb hb=>(f2 b hb).1,w0];rintro n s3 ⟨i,σ3,H3,I3,p8,Hz,w3⟩;rcases turn i n σ3 H3 w3 with⟨stop,qn⟩ | ⟨go,N,hN,step⟩
 .exact wpAny_passesOwn hp (dL (T.done X rfl rfl rfl hc i ak s3 σ3 H3 X.xe I3 (rG Hz) p8 stop) λr s4 ⟨hr,I4⟩=> ?_);subst hr;show wpAny_execs_nil #[σ3,H3,I4,qn]
 .exact wpAny_passesOwn hp (dL (T.item X rfl rfl rfl hc i ak s3 σ3 H3 X.xe I3 (rG Hz) p8 go) λr s4 ⟨u,hr,h4⟩=> ?_);subst hr;exact wpAny_passesOwn hp (dL h4 λ_ s5 ⟨x,H5,I5,r5,y5,Q9,fr5⟩=> ?_);have I5':=I5.pinned (rG fr5) (T.obj _ _ Q9);exact wpAny_passesOwn hp (dL (hg _ s5 σ3 H5 x u _ I5' r5 (step x H5 y5)) λ_ s6 ⟨σ6,H6,I6,q6⟩=> ?_);exact wpAny_passesOwn hp (dL (hb _ s6 σ6 H6 _ I6 q6) λf s7 q7=> ?_);have again: ∀ {σ7:St} {H7:Hp},Inv X (ak++jr fp s5.heap) σ7 H7 s7 ->N σ7 H7 -> ∃m,m<n /\ im λi σ' H'=>fZ (Inv X ak σ' H' s7) (tn i s7.heap) (∀b∈fp,H' b=none) (W i m σ' H'):=λ{σ7 H7} I7 n7=>by let⟨m',hm,w7⟩:=hN σ7 H7 n7;exact#[m',hm,i+1,σ7,H7,I7.j9,T.keep _ _ _ Q9 λb hb o e=>(I7.pin (b,o) (aZ _ (aZ _ (gh hb e)))).1,λb hb=> ?_,w7];let⟨o,e,d⟩:=T.obj _ _ Q9 b hb;show(I7.pin (b,o) (aZ _ (aZ _ (gh hb e)))).2.1
  cases f with
  | next=>let⟨σ7,H7,I7,n7⟩:=q7;show again I7 n7
  | cont=>let⟨σ7,H7,I7,n7⟩:=q7;show again I7 n7
  | brk=>let⟨σ7,H7,I7,q7⟩:=q7;show#[σ7,H7,I7.j9,q7]
  | ret v=>let⟨x7,σ7,H7,I7,r7,q7⟩:=q7;show#[x7,σ7,H7,I7.j9,r7,q7]
abbrev R2:=V ->V ->Hp ->VK ->Prop
def pi (X:Cx)(f:fm ->fm ->Sem fm)(r:R2):Prop:=∀ (ak:fk (gY×Obj)) (s:fo) (σ:St) (H:Hp) (x y:V) (v u:fm) (Q:VK),Inv X ak σ H s ->RelV x v ->RelV y u ->r x y H Q ->wpAny (model X.prog X.w) X.A (f v u) (EP X ak σ Q) X.xe s
def UnR (X:Cx)(f:fm ->Sem fm)(r:V ->Hp ->VK ->Prop):Prop:=∀ (ak:fk (gY×Obj)) (s:fo) (σ:St) (H:Hp) (x:V) (v:fm) (Q:VK),Inv X ak σ H s ->RelV x v ->r x H Q ->wpAny (model X.prog X.w) X.A (f v) (EP X ak σ Q) X.xe s
def gF (X:Cx)(f:fm)(r:fk V ->Hp ->VK ->Prop):Prop:=∀ (ak:fk (gY×Obj)) (s:fo) (σ:St) (H:Hp) (xs:fk V) (us:fk fm) (Q:VK),Inv X ak σ H s ->cV xs us ->r xs H Q ->wpAny (model X.prog X.w) X.A (call f us) (EP X ak σ Q) X.xe s
def abM (X:Cx)(r:V ->Hp ->(Bool ->Hp ->Prop) ->Prop):Prop:=∀ (ak:fk (gY×Obj)) (s:fo) (σ:St) (H:Hp) (x:V) (v:fm) (Q:Bool ->Hp ->Prop),Inv X ak σ H s ->RelV x v ->r x H Q ->wpAny (model X.prog X.w) X.A (truthy v) (TP X ak σ Q) X.xe s
def SE (r:R2)(ta tb:TE):TE:=λσ H Q=>ta σ H λx H1=>tb σ H1 λy H2=>r x y H2 Q
def tUn (r:V ->Hp ->VK ->Prop)(ta:TE):TE:=λσ H Q=>ta σ H λx H1=>r x H1 Q
def rI (C:Int ->Int ->Prop)(g:Int ->Int ->V):R2:=λx y H Q=>cO λi j=>fZ (x= .int i) (y= .int j) (C i j) (Q (g i j) H)
def JM (g:Int ->Int ->V):R2:=λx y H Q=>cO λi j=>d_ (x= .int i) (y= .int j) (Q (g i j) H)
def rU (g:Int ->V):V ->Hp ->VK ->Prop:=λx H Q=> ∃i,x= .int i /\ Q (g i) H
def QN (ha:PE X a ta)(hb:PE X b tb){σ:St}{R:V ->V ->Hp ->Prop}(I:Inv X ak σ H s)(h:ta σ H λx H1=>tb σ H1 λy H2=>R x y H2){f:fm ->fm ->Sem fm}(hf: ∀v u s2 x y H2,Inv X ak σ H2 s2 ->RelV x v ->RelV y u ->R x y H2 ->wpAny (model X.prog X.w) X.A (f v u) Q X.xe s2): wpAny (model X.prog X.w) X.A (eval a X.env) (λv s₁=>wpAny (model X.prog X.w) X.A (eval b X.env) (λu s₂=>wpAny (model X.prog X.w) X.A (f v u) Q X.xe s₂) X.xe s₁) X.xe s:=by exact dL (ha ak s σ H _ I h) λv s1 ⟨x,H1,I1,r1,q1⟩=> ?_;exact dL (hb ak s1 σ H1 _ I1 q1) λu s2 ⟨y,H2,I2,r2,q2⟩=> ?_;show hf v u s2 x y H2 I2 r1 r2 q2
def bR (ho:pi X (binaryOp op) r)(ha:PE X a ta)(hb:PE X b tb):PE X (.BinOp a op b pos) (SE r ta tb):=by intro ak s σ H Q I h;show wpAny_BinOp (QN ha hb I h λv u s2 x y H2 I2 rx ry q=>ho ak s2 σ H2 x y v u Q I2 rx ry q)
def gV (ho:UnR X (unaryOp op) r)(ha:PE X a ta):PE X (.UnaryOp op a pos) (tUn r ta):=by intro ak s σ H Q I h;show UnaryOp_ (dL (ha ak s σ H _ I h) λv s1 ⟨x,H1,I1,r1,q1⟩=>ho ak s1 σ H1 x v Q I1 r1 q1)
def Wu {g:Int ->Int ->Int}(rule: ∀ (i j:Int) (t u:Tok) (s:fo) (Q:fm ->fo ->Prop) (E:fm ->fo ->Prop),C i j ->Q (.int (g i j) s.toks) {s with toks:=s.toks+1} ->wpAny (model X.prog X.w) X.A (f (.int i t) (.int j u)) Q E s): pi X f (rI C λi j=> .int (g i j)):=by intro ak s σ H x y v u Q I rx ry h;let⟨i,j,rfl,rfl,hc,q⟩:=h;let⟨t,rfl⟩:=rx;let⟨t',rfl⟩:=ry;show rule i j t t' s _ _ hc #[.int (g i j),H,I.tok _,#[_,rfl],q]
def TB {g:Int ->Int ->Int}(rule: ∀ (i j:Int) (t u:Tok) (s:fo) (Q:fm ->fo ->Prop) (E:fm ->fo ->Prop),Q (.int (g i j) s.toks) {s with toks:=s.toks+1} ->wpAny (model X.prog X.w) X.A (f (.int i t) (.int j u)) Q E s): pi X f (JM λi j=> .int (g i j)):=by intro ak s σ H x y v u Q I rx ry h;let⟨i,j,rfl,rfl,q⟩:=h;let⟨t,rfl⟩:=rx;let⟨t',rfl⟩:=ry;show rule i j t t' s _ _ #[.int (g i j),H,I.tok _,#[_,rfl],q]
def J7 {g:Int ->Int ->Bool}(rule: ∀ (i j:Int) (t u:Tok) (s:fo) (Q:fm ->fo ->Prop) (E:fm ->fo ->Prop),Q (.bool (g i j)) s ->wpAny (model X.prog X.w) X.A (f (.int i t) (.int j u)) Q E s): pi X f (JM λi j=> .bl (g i j)):=by intro ak s σ H x y v u Q I rx ry h;let⟨i,j,rfl,rfl,q⟩:=h;let⟨t,rfl⟩:=rx;let⟨t',rfl⟩:=ry;show rule i j t t' s _ _ #[.bl (g i j),H,I,rfl,q]
def wS (i j:Int):Prop:=0<j /\ j<1073741824
def QX (i j:Int):Prop:=0<=j /\ j<=1000000 /\ i.natAbs<2 ^ 64
def iP (i j:Int):Prop:=(-(2 ^ 64) <i /\ i<2 ^ 64) \/ (-(2 ^ 64) <j /\ j<2 ^ 64)
def iP.ok (h:iP i j):IntMulOk i j:=by
 rcases h with⟨h1,h2⟩ | ⟨h1,h2⟩
 show .of_left (intBits_le_64 h1 h2);show .of_right (intBits_le_64 h1 h2)
theorem fg:pi X (binaryOp .Add) (JM λi j=> .int (i+j)):=TB λ_ _ _ _ _ _ _ q=>add_int q
theorem iS:pi X (binaryOp .Sub) (JM λi j=> .int (i - j)):=TB λ_ _ _ _ _ _ _ q=>sub_int q
theorem f7:pi X (binaryOp .Mult) (rI iP λi j=> .int (i*j)):=Wu λ_ _ _ _ _ _ _ hc q=>mul_int q hc.ok
theorem qT:pi X (binaryOp .FloorDiv) (rI wS λi j=> .int (i / j)):=Wu λi j _ _ _ _ _ hc q=>by have h1:(0:Int) <j:=hc.1;have h2:j<1073741824:=hc.2;show floordiv_int ∅ (by rw[Int.fdiv_eq_ediv_of_nonneg i ∅];show q) (.inl (PyProof.noPylong_small ∅))
theorem gX:pi X (binaryOp .Mod) (rI (λ_ j=>0<j) λi j=> .int (i % j)):=Wu λi j _ _ _ _ _ hc q=>by have h1:(0:Int) <j:=hc;show mod_int' ∅ (by rw[Int.fmod_eq_emod_of_nonneg i ∅];show q)
theorem O_:pi X (binaryOp .Pow) (rI QX λi j=> .int (i ^ j.toNat)):=Wu λ_ _ _ _ _ _ _ hc q=>pow_int_small hc.1 hc.2.1 hc.2.2 q
def unI {g:Int ->Int}(rule: ∀ (i:Int) (t:Tok) (s:fo) (Q:fm ->fo ->Prop) (E:fm ->fo ->Prop),Q (.int (g i) s.toks) {s with toks:=s.toks+1} ->wpAny (model X.prog X.w) X.A (f (.int i t)) Q E s): UnR X f (rU λi=> .int (g i)):=by intro ak s σ H x v Q I rx h;let⟨i,rfl,q⟩:=h;let⟨t,rfl⟩:=rx;show rule i t s _ _ #[.int (g i),H,I.tok _,#[_,rfl],q]
theorem fR:UnR X (unaryOp .USub) (rU λi=> .int (-i)):=unI λ_ _ _ _ _ q=>neg_int q
def JD:V ->V ->Bool
 | .fh, .fh=>true | .fh, .int _=>true | .int _, .fh=>true | .fh, .bl _=>true | .bl _, .fh=>true | .fh, .str _=>true | .str _, .fh=>true
 | .int _, .int _=>true | .bl _, .bl _=>true | .str _, .str _=>true | .AG _, .AG _=>true
 | .int _, .str _=>true | .str _, .int _=>true | .bl _, .str _=>true | .str _, .bl _=>true
 | _,_=>false
def rEq:R2:=λx y H Q=>JD x y=true /\ Q (.bl (decide (x=y))) H
def rNe:R2:=λx y H Q=>JD x y=true /\ Q (.bl (!decide (x=y))) H
def Cv:decide (V.int i=V.int j)=(i==j):=by rw[Bool.eq_iff_iff];simp
def HK:decide (V.bl i=V.bl j)=(i==j):=by rw[Bool.eq_iff_iff];simp
def Cu:decide (V.str i=V.str j)=(i==j):=by rw[Bool.eq_iff_iff];simp
def Cw:decide (V.AG i=V.AG j)=(i.toList==j.toList):=by rw[Bool.eq_iff_iff];cases i;cases j;simp
section
variable {X:Cx}{a b c:Expr}{ta tb tc:TE}{pos:Pos}
def dC {σ:St}(I:Inv X ak σ H s)(q:Q (.bl k) H)(e:k=k'):EP X ak σ Q (.bool k') s:=by subst e;show#[.bl k,H,I,rfl,q]
def iX:pi X (compareOp .Eq) rEq:=by
 intro ak s σ H x y v u Q I rx ry h;let⟨hs,q⟩:=h;cases x with
 | fh=>
  cases rx;cases y with
  | fh=>cases ry;show PySem.EqNone.eq_none_none (dC I q (by simp))
  | bl j=>cases ry;show PySem.EqNone.eq_none_bool (dC I q (by simp))
  | int j=>let⟨t',rfl⟩:=ry;show PySem.EqNone.eq_none_int (dC I q (by simp))
  | str j=>let⟨t',rfl⟩:=ry;show PySem.EqNone.eq_none_str (dC I q (by simp))
  | _=>show absurd (show false=true from hs) a_
 | bl i=>
  cases rx;cases y with
  | fh=>cases ry;show PySem.EqNone.eq_bool_none (dC I q (by simp))
  | bl j=>cases ry;show eq_bool (dC I q HK)
  | str j=>let⟨t',rfl⟩:=ry;show PySem.EqMixed.eq_bool_str (dC I q (by simp))
  | _=>show absurd (show false=true from hs) a_
 | int i=>
  let⟨t,rfl⟩:=rx;cases y with
  | fh=>cases ry;show PySem.EqNone.eq_int_none (dC I q (by simp))
  | int j=>let⟨t',rfl⟩:=ry;show eq_int (dC I q Cv)
  | str j=>let⟨t',rfl⟩:=ry;show PySem.EqMixed.eq_int_str (dC I q (by simp))
  | _=>show absurd (show false=true from hs) a_
 | str i=>
  let⟨t,rfl⟩:=rx;cases y with
  | fh=>cases ry;show PySem.EqNone.eq_str_none (dC I q (by simp))
  | bl j=>cases ry;show PySem.EqMixed.eq_str_bool (dC I q (by simp))
  | int j=>let⟨t',rfl⟩:=ry;show PySem.EqMixed.eq_str_int (dC I q (by simp))
  | str j=>let⟨t',rfl⟩:=ry;show eq_str (dC I q Cu)
  | _=>show absurd (show false=true from hs) a_
 | AG i=>
  let⟨t,rfl⟩:=rx;cases y with
  | AG j=>let⟨t',rfl⟩:=ry;show W.eq_bytes (dC I q Cw)
  | _=>show absurd (show false=true from hs) a_
 | _=>cases y<;>show absurd (show false=true from hs) a_
def mE:pi X (compareOp .NotEq) rNe:=by
 intro ak s σ H x y v u Q I rx ry h;let⟨hs,q⟩:=h;cases x with
 | fh=>
  cases rx;cases y with
  | fh=>cases ry;show PySem.EqNone.ne_none_none (dC I q (by simp))
  | bl j=>cases ry;show PySem.EqNone.ne_none_bool (dC I q (by simp))
  | int j=>let⟨t',rfl⟩:=ry;show PySem.EqNone.ne_none_int (dC I q (by simp))
  | str j=>let⟨t',rfl⟩:=ry;show PySem.EqNone.ne_none_str (dC I q (by simp))
  | _=>show absurd (show false=true from hs) a_
 | bl i=>
  cases rx;cases y with
  | fh=>cases ry;show PySem.EqNone.ne_bool_none (dC I q (by simp))
  | bl j=>cases ry;show ne_bool (dC I q (congrArg not HK))
  | str j=>let⟨t',rfl⟩:=ry;show PySem.EqMixed.ne_bool_str (dC I q (by simp))
  | _=>show absurd (show false=true from hs) a_
 | int i=>
  let⟨t,rfl⟩:=rx;cases y with
  | fh=>cases ry;show PySem.EqNone.ne_int_none (dC I q (by simp))
  | int j=>let⟨t',rfl⟩:=ry;show ne_int (dC I q (congrArg not Cv))
  | str j=>let⟨t',rfl⟩:=ry;show PySem.EqMixed.ne_int_str (dC I q (by simp))
  | _=>show absurd (show false=true from hs) a_
 | str i=>
  let⟨t,rfl⟩:=rx;cases y with
  | fh=>cases ry;show PySem.EqNone.ne_str_none (dC I q (by simp))
  | bl j=>cases ry;show PySem.EqMixed.ne_str_bool (dC I q (by simp))
  | int j=>let⟨t',rfl⟩:=ry;show PySem.EqMixed.ne_str_int (dC I q (by simp))
  | str j=>let⟨t',rfl⟩:=ry;show ne_str (dC I q (congrArg not Cu))
  | _=>show absurd (show false=true from hs) a_
 | AG i=>
  let⟨t,rfl⟩:=rx;cases y with
  | AG j=>let⟨t',rfl⟩:=ry;show W.ne_bytes (dC I q (congrArg not Cw))
  | _=>show absurd (show false=true from hs) a_
 | _=>cases y<;>show absurd (show false=true from hs) a_
theorem lg:pi X (compareOp .Lt) (JM λi j=> .bl (decide (i<j))):=J7 λ_ _ _ _ _ _ _ q=>lt_int q
theorem Tz:pi X (compareOp .LtE) (JM λi j=> .bl (decide (i<=j))):=J7 λ_ _ _ _ _ _ _ q=>le_int q
theorem xJ:pi X (compareOp .Gt) (JM λi j=> .bl (decide (j<i))):=J7 λ_ _ _ _ _ _ _ q=>gt_int q
theorem qa:pi X (compareOp .GtE) (JM λi j=> .bl (decide (j<=i))):=J7 λ_ _ _ _ _ _ _ q=>ge_int q
def J6:pi X (compareOp .IsNot) (λx y H Q=>y= .fh /\ Q (.bl (!decide (x= .fh))) H):=by
 intro ak s σ H x y v u Q I rx ry h;let⟨rfl,q⟩:=h;cases ry;exact isnot_none_gen (dC I q ?_);cases x<;>first
 | (cases rx;rfl)
 | (let⟨t,rfl⟩:=rx;rfl)
def bW (b:Expr)(h:op≠ .In:=by decide)(h2:op≠ .NotIn:=by decide):behindInMarks op b=false:=by
 have e1:(op==CmpOp.In)=false:=by cases op<;>first | rfl | show absurd rfl h
 have e2:(op==CmpOp.NotIn)=false:=by cases op<;>first | rfl | show absurd rfl h2
 cases b<;>simp[behindInMarks,e1,e2]
def nZ (ho:pi X (compareOp op) r)(ha:PE X a ta)(hb:PE X b tb)(hm:behindInMarks op b=false):PE X (.Compare a [op] [b] pos) (SE r ta tb):=by intro ak s σ H Q I h;show wpAny_Compare1 (QN ha hb I h λv u s2 x y H2 I2 rx ry q=>ho ak s2 σ H2 x y v u Q I2 rx ry q) hm
def Ff (t:TE):TT:=λσ H Q=>t σ H λx H'=> ∃k,x= .bl k /\ Q k H'
def bK (ho:pi X (compareOp op) r)(ha:PE X a ta)(hb:PE X b tb)(hm:behindInMarks op b=false):PT X (.Compare a [op] [b] pos) (Ff (SE r ta tb)):=by intro ak s σ H Q I h;exact wpAny_isTrue_Compare1 (dL (ha ak s σ H _ I h) λv s1 ⟨x,H1,I1,r1,q1⟩=>dL (hb ak s1 σ H1 _ I1 q1) λu s2 ⟨y,H2,I2,r2,q2⟩=>dL (ho ak s2 σ H2 x y v u _ I2 r1 r2 q2) λc s3 ⟨z,H3,I3,r3,k,e,q3⟩=> ?_) hm;subst e;cases r3;show cT #[H3,I3,q3]
def Fq (r r':R2)(ta tb tc:TE):TE:=λσ H Q=>ta σ H λx H1=>tb σ H1 λy H2=>r x y H2 λz H3=> ∃k,z= .bl k /\(if k=true then tc σ H3 λw' H4=>r' y w' H4 Q else Q (.bl false) H3)
def rR (ho:pi X (compareOp op) r)(KQ:pi X (compareOp YJ) r')(ha:PE X a ta)(hb:PE X b tb)(hc:PE X c tc)(hm:lastMarks [op,YJ] [b,c]=false:=by with_unfolding_all rfl):PT X (.Compare a [op,YJ] [b,c] pos) (Ff (Fq r r' ta tb tc)):=by
 intro ak s σ H Q I h;exact isTrue_chain (dL (ha ak s σ H _ I h) λv s1 ⟨x,H1,I1,r1,q1⟩=>test_link (dL (hb ak s1 σ H1 _ I1 q1) λu s2 ⟨y,H2,I2,r2,q2⟩=>dL (ho ak s2 σ H2 x y v u _ I2 r1 r2 q2) λd s3 ⟨z,H3,I3,r3,k,e,q3⟩=> ?_)) hm;subst e;cases r3;exact cT ?_;cases k with
 | false=>let⟨k',e',q'⟩:=q3;cases e';show ite_ff #[H3,I3,q']
 | true=>exact ite_tt (test_last (dL (hc ak s3 σ H3 _ I3 q3) λw' s4 ⟨z',H4,I4,r4,q4⟩=>dL (KQ ak s4 σ H4 y z' u w' _ I4 r2 r4 q4) λd' s5 ⟨z2,H5,I5,r5,k2,e2,q5⟩=> ?_));subst e2;cases r5;show cT #[H5,I5,q5]
def Lv (K:Ug)(x:V)(H:Hp)(k:Bool):Prop:=
 match x with
 | .fh=>k=false
 | .bl b=>k=b
 | .int i=>k=(i !=0)
 | .str y=>y.length<=sizeLine /\ k=((y.length:Int) !=0)
 | .AG y=>y.size<=sizeLine /\ k=((y.size:Int) !=0)
 | .ref p=>(∃xs,gS K H p xs /\ k= !xs.isEmpty) \/ (∃xs,jI K H p xs /\ k= !xs.isEmpty) \/ ∃kvs,H p=some (.dK kvs) /\ k= !kvs.isEmpty
 | _=>False
def Ak {vs:fk (κ×fm)}(r:KV kvs vs):(!vs.isEmpty)= !kvs.isEmpty:=by cases r<;>rfl
def ss (r:cV xs its):(!its.toArray.isEmpty)= !xs.isEmpty:=by cases r<;>simp
def r_:(sizeLine:Nat) <2 ^ 63:=by rw[dg];decide
def Oq:abM X (λx H Q=> ∃k,Lv X.K x H k /\ Q k H):=by
 intro ak s σ H x v Q I rx h;let⟨k,e,q⟩:=h;have hl:=r_;have hs:sizeLine=16777216:=dg;cases x with
 | fh=>cases rx;have e':k=false:=e;subst e';show truthy_none #[H,I,q]
 | bl b=>cases rx;have e':k=b:=e;subst e';show cT #[H,I,q]
 | int i=>let⟨t,rfl⟩:=rx;have e':k=(i !=0):=e;subst e';show PySem.P.truthy_int #[H,I,q]
 | str y=>let⟨t,rfl⟩:=rx;let⟨hy,e'⟩:y.length<=sizeLine /\ k=((y.length:Int) !=0):=e;subst e';show PySem.P.truthy_str ∅ #[H,I.tok _,q]
 | AG y=>let⟨t,rfl⟩:=rx;let⟨hy,e'⟩:y.size<=sizeLine /\ k=((y.size:Int) !=0):=e;subst e';show W.truthy_bytes ∅ #[H,I.tok _,q]
 | ref p=>
  cases rx;have e':(∃xs,gS X.K H p xs /\ k= !xs.isEmpty) \/ (∃xs,jI X.K H p xs /\ k= !xs.isEmpty) \/ ∃kvs,H p=some (.dK kvs) /\ k= !kvs.isEmpty:=e;rcases e' with⟨xs,hx,e'⟩ | ⟨xs,hx,e'⟩ | ⟨kvs,hx,e'⟩
  subst e';let⟨its,r,pl,hz⟩:=I.list hx;have dj:=r.length;show wpAny_truthy_list pl.isList (by simp![aU];lia) #[H,I.tok _,by rw[ss r];show q];subst e';let⟨its,r,pl,hz⟩:=I.tuple hx;have dj:=r.length;show truthy_tuple pl (by simp![aU];lia) #[H,I.tok _,by rw[ss r];show q];subst e';let⟨hz,hS,vs,r,m⟩:kvs.length<=sizeLine /\ (p==sysModules)=false /\ ∃vs,KV kvs vs /\ s.heap.DictOf (cQ X.prog X.w) p vs:=I.dM p _ hx;have dj:kvs.length=vs.length:=Paired.length r;show wpAny_truthy_dict hS m ∅ #[H,I.tok _,by rw[Ak r];show q]
 | _=>show(show False from e).elim
def FW (ha:PE X a ta)(he: ∀mB,isTrue a X.env mB=(do let v <- mB;standAt a.pos;holding [v] (truthy v))): PT X a (λσ H Q=>ta σ H λx H'=> ∃k,Lv X.K x H' k /\ Q k H'):=by intro ak s σ H Q I h;show isTrue_plain (dL (ha ak s σ H _ I h) λv s1 ⟨x,H1,I1,r1,q1⟩=>Oq ak s1 σ H1 x v Q I1 r1 q1) (he _)
def vals1 (r:cV [x] us): ∃u,us= [u] /\ RelV x u:=by
 cases r with
 | cons r1 r2=>cases r2;show#[_,rfl,r1]
def vals2 (r:cV [x,y] us):cO λu w'=>d_ (us= [u,w']) (RelV x u) (RelV y w'):=by
 cases r with
 | cons r1 r2=>
  cases r2 with
  | cons r3 r4=>cases r4;show#[_,_,rfl,r1,r3]
def HX:gF X (.builtin "abs") (λxs H Q=> ∃i,xs= [.int i] /\ Q (.int (if i<0 then -i else i)) H):=by intro ak s σ H xs us Q I r h;let⟨i,rfl,q⟩:=h;let⟨u,rfl,t,rfl⟩:=vals1 r;show call_abs_int λu tk=>#[.int (if i<0 then -i else i),H,I.tok _,#[_,rfl],q]
def Ec (hc:X.calm=true):gF X (.builtin "max") (λxs H Q=>cO λi j=>xs= [.int i, .int j] /\ Q (.int (if j >i then j else i)) H):=by
 intro ak s σ H xs us Q I r h;let⟨i,j,rfl,q⟩:=h;let⟨u,w',rfl,⟨t,rfl⟩,⟨t',rfl⟩⟩:=vals2 r;exact max_two_ints (I.ok.hd hc) λh' tk k=>#[_,H,I.kept k,?_,q]
 by_cases hj:j >i;rw[am hj,am hj];show#[_,rfl];rw[ai hj,ai hj];show#[_,rfl]
end
structure El (h:Heap)(x dx C:Addr)(mA:Str ->Option Value):Prop where
 obj:h.get? x=some (PySem.W.instObj C dx)
 ns:h.Ns1 dx mA
 ne:dx≠x
def Dp {h:Heap}(n:h.Ns1 dx mA): ∃od,h.get? dx=some od /\ ∀name,W.lookIn name od=some (mA name):=by
 let⟨o,es,ep,ho,hd,hk,_,hm⟩:=n;exact#[o,ho,λname=> ?_];have e:=hm name;unfold nsFind findBy at e;rw[<- Array.find?_toList] at e;unfold W.lookIn;rw[hd];dsimp only;split;rename_i y q;rw[q] at e;show congrArg some e;rename_i q;rw[q] at e;have a:es.toList.any (·.refKey)=false:=by rw[List.any_eq_false];intro y hy;let⟨z,t,sA⟩:=hk y (Array.mem_toList_iff.mp hy);simp[DictEntry.refKey,sA]
 have a':¬es.toList.any (·.refKey)=true:=by rw[a];show a_
 rw[ai a'];show congrArg some e
theorem El.look (I:El h x dx C mA): ∃od,W.InstAt h x (W.instObj C dx) C (some od) /\ ∀name,W.lookIn name od=some (mA name):=
 let ⟨od,ho,hl⟩:=Dp I.ns
 #[od,#[I.obj,rfl,rfl,ho],hl]
def K9 {K:Ug}(X:K.In s.heap)(I:El s.heap x dx C mA)(hg:W.plainGet K C name=true)(hh:W.hasDictIn K C=true)(ha:W.findIn K (.ref C) name=some none)(hv:mA name=some v)(sv:W.handedIn v=true)(h:Q v {s with toks:=s.toks+1}): wpAny (model prog w) A (getAttr (.ref x) name aby) Q E s:=by let⟨od,J,hl⟩:=I.look;show W.get_value X J (W.plainGet_of hg).1 (W.findObj_own hh ha rfl (by rw[hl,hv])) sv h
def JC {K:Ug}(X:K.In s.heap)(I:El s.heap x dx C mA)(hs:W.findIn K (.ref C) "__setattr__" =some (some (.builtin "object.__setattr__")))(hp:W.plainOver K C=true)(ht:W.takerIn K C name=some none)(hh:W.hasDictIn K C=true)(hw:PySem.Within mA ns)(hsz:ns.length<=sizeLine)(h: ∀h',El h' x dx C (λy=>if y=name then some v else mA y) ->Heap.SameBut dx s.heap h' ->Q () {s with heap:=h',toks:=s.toks+2}): wpAny (model prog w) A (setAttr (.ref x) name v) Q E s:=by let⟨od,J,hl⟩:=I.look;exact W.set_plain X J hs (W.osa_open (s:= {s with toks:=s.toks+1}) (r:=none) X J hp ht λb=> ?_);let⟨cd,hc,mq⟩:=W.any_some hh;have hx:s.heap.get? x=some #[.ref C,some dx, .plain, #[]]:=I.obj;exact ag (aC (ag (ag (wpAny_loadPart hx (ag (W.Looks.here (s:= {s with toks:=s.toks+1}) (W.looks_clsIn X hc) ?_))))));rw[mq];exact aC (a:=some dx) (ag (aC (ag ?_)));exact wpAny_nsSet1 (s:= {s with toks:=s.toks+1}) I.ns λh' Qc kR=> ?_;let⟨oD,esD,epD,hoD,hdD,hcD⟩:=Qc.count (PySem.Within.cons name v hw);exact ag (wpAny_lookBehind hoD (by rw[hdD];show pastItsLine_dict (aT hcD (by rw[aP];lia))) ?_);show aC (h _ #[(kR.2 _ (aW I.ne)).trans I.obj,Qc,I.ne] kR)
def Gs {K:Ug}(X:K.In s.heap)(hm:W.makesIn K C=true)(hi:W.findIn K (.ref C) "__init__" =some (some (.ref f)))(hf:W.typeIn K (.ref f)=some (.type "function"))(h:codeAny (model prog w) (A.under (.builtin "type.__call__" #[.ref C::vs,kw])) (.call (.ref f) #[.ref (s.heap.objs.size+1)::vs,kw]) (W.InitBack (s.heap.objs.size+1) R) {s with heap:=(s.heap.push W.emptyDict).push (W.instObj C s.heap.objs.size)}): codeAny (model prog w) A (.call (.ref C) #[vs,kw]) R s:=by let⟨hh,g,d,t,os⟩:=s;show W.make_core (W.makes_of X hm) (W.looks_findIn X hi) (λself=>W.bind_fn X self hf) (.inl rfl) h
def gU (f:Str)(v:V):fk (Str×V) ->fk (Str×V)
 | []=> [(f,v)]
 | (g,x)::r=>if g=f then(g,v)::r else(g,x)::gU f v r
theorem qc (f g:Str)(v:V): ∀fs:fk (Str×V),(gU f v fs).lookup g=if g=f then some v else fs.lookup g
 | []=>by change List.lookup g [(f,v)]=_;by_cases h:g=f;have hb:(g==f)=true:=beq_iff_eq.mpr h;simp![List.lookup,hb,am h];have hb:(g==f)=false:=beq_eq_false_iff_ne.mpr h;simp![List.lookup,hb,ai h]
 | (k, x)::r=>by have ih:=qc f g v r;rw[show gU f v ((k,x)::r)=(if k=f then(k,v)::r else(k,x)::gU f v r) from rfl];by_cases hk:k=f;rw[am hk];by_cases h:g=k;have hb:(g==k)=true:=beq_iff_eq.mpr h;simp![List.lookup,hb,am (h.trans hk)];have hb:(g==k)=false:=beq_eq_false_iff_ne.mpr h;simp![List.lookup,hb,ai (λe:g=f=>h (e.trans hk.symm))];rw[ai hk];by_cases h:g=k;have hb:(g==k)=true:=beq_iff_eq.mpr h;simp![List.lookup,hb,ai (λe:g=f=>hk (h.symm.trans e))];have hb:(g==k)=false:=beq_eq_false_iff_ne.mpr h;simp![List.lookup,hb];show ih
theorem pM (f:Str)(v:V): ∀fs:fk (Str×V),f∈(gU f v fs).map (·.1) /\ ∀g,g∈fs.map (·.1) ->g∈(gU f v fs).map (·.1)
 | []=>#[by simp[gU],λg h=>by simp at h]
 | (k, x)::r=>by let⟨i1,i2⟩:=pM f v r;rw[show gU f v ((k,x)::r)=(if k=f then(k,v)::r else(k,x)::gU f v r) from rfl];by_cases hk:k=f;rw[am hk];subst hk;show#[by simp,λg h=> ⇑h];rw[ai hk];exact#[?_,λg h=> ?_];rw[aI];show av _ i1;rw[aI] at h ⊢;obtain e | e:=ax.mp h;show ax.mpr (.inl e);show av _ (i2 g e)
theorem qd (f:Str)(v:V): ∀fs:fk (Str×V),(gU f v fs).length<=fs.length+1
 | []=>by simp[gU]
 | (k,x)::r=>by have ih:=qd f v r;rw[show gU f v ((k,x)::r)=(if k=f then(k,v)::r else(k,x)::gU f v r) from rfl];by_cases hk:k=f;rw[am hk,aP,aP];lia;rw[ai hk,aP,aP];lia
def nD.some_of (r:nD (some v) o): ∃u,o=some u /\ RelV v u:=by
 cases o with
 | none=>show(show False from r).elim
 | some u=>show#[u,rfl,r]
def DK (r:RelV v u):W.handedIn u=true:=by
 cases v with
 | fh=>cases (show u=Value.none from r);rfl
 | bl b=>cases (show u=Value.bool b from r);rfl
 | int i=>let⟨t,e⟩:=(show ∃t,u=Value.int i t from r);cases e;rfl
 | str x=>let⟨t,e⟩:=(show ∃t,u=Value.str x t from r);cases e;rfl
 | AG b=>let⟨t,e⟩:=(show ∃t,u=Value.bytes b t from r);cases e;rfl
 | Cc b=>let⟨t,e⟩:=(show ∃t,u=Value.float b t from r);cases e;rfl
 | ref a=>cases (show u=Value.ref a from r);rfl
 | ty n=>cases (show u=Value.type n from r);rfl
def v6 (dM:mS P w H h)(e:H a=some (.ins C dx fs)): ∃mA,j8 (El h a dx C mA) (∀f,nD (fs.lookup f) (mA f)) (PySem.Within mA (fs.map (·.1))) (fs.length<=1000) (H dx=some (.own a)):=by
 let⟨d,z,ne,ob,mA,n,r,q⟩:=(show fq P w H h a (.ins C dx fs) from dM a _ e)
 show#[mA,#[ob,n,ne],r,q,z,d]
structure AS (K:PySem.W.Frag)(C:Addr):Prop where
 pg:PySem.W.plainGet K C Str.empty=true
 hd:PySem.W.hasDictIn K C=true
 po:PySem.W.plainOver K C=true
 sa:PySem.W.findIn K (.ref C) "__setattr__" =some (some (.builtin "object.__setattr__"))
theorem AS.get {K:Ug}{C:gY}(c:AS K C)(f:Str):W.plainGet K C f=true:=c.pg
def fi (K:Ug)(C:gY)(f:Str):Prop:=W.findIn K (.ref C) f=some none
def fi.Sx {K:Ug}(n:fi K C f):W.takerIn K C f=some none:=by unfold W.takerIn;rw[show W.findIn K (.ref C) f=some none from n];rfl
def Au {σ:St}(I:Inv X ak σ H s)(e:H a=some (.ins C dx fs))(c:AS X.K C)(n:fi X.K C f)(l:fs.lookup f=some v)(h: ∀u s',Inv X ak σ H s' ->RelV v u ->Q u s'):wpAny (model X.prog X.w) A (getAttr (.ref a) f b) Q E s:=by let⟨mA,O,r,_,_,_⟩:=v6 I.dM e;let⟨u,hu,ru⟩:=nD.some_of (v:=v) (o:=mA f) (by rw[<- l];show r f);show K9 I.qz O (c.get f) c.hd n hu (DK ru) (h u _ (I.tok _) ru)
def zw {σ:St}(I:Inv X ak σ H s)(e:H a=some (.ins C dx fs))(c:AS X.K C)(n:fi X.K C f)(hl:fs.length<1000)(ry:RelV y u)(h: ∀s',Inv X ak σ (dy H a (.ins C dx (gU f y fs))) s' ->Q () s'):wpAny (model X.prog X.w) A (setAttr (.ref a) f u) Q E s:=by
 let⟨mA,O,r,wi,_,ho⟩:=v6 I.dM e;have hz:(fs.map (·.1)).length<=sizeLine:=by rw[aa,dg];lia
 exact JC I.qz O c.sa c.po n.Sx c.hd wi hz λh' O' sb=>h _ ?_;have hd: ∃o,h'.get? dx=some o:=let ⟨o,_,_,e',_⟩:=O'.ns;#[o,e']
 exact I.write (x:=a) (e:=dx) (by rw[e];show True.intro) (.inr ho) (λb q hb z=>(sb.2 b hb).trans z) hd ?_;exact#[by rw[bS O.ne];show ho,?_,O.ne,O'.obj,_,O'.ns,λg=> ?_,λg hg=> ?_];have:=qd f y fs;lia;change nD ((gU f y fs).lookup g) (if g=f then some u else mA g);rw[qc];by_cases q:g=f;rw[am q,am q];show ry;rw[ai q,ai q];show r g;by_cases q:g=f;rw[q];show(pM f y fs).1;exact(pM f y fs).2 g (wi g λz=>hg ?_);change(if g=f then some u else mA g)=none;rw[ai q];show z
def Inv.made {σ:St}(I:Inv X ak σ H s):Inv X ak σ (dy (dy H s.heap.objs.size (.own (s.heap.objs.size+1))) (s.heap.objs.size+1) (.ins C s.heap.objs.size [])) {s with heap:=(s.heap.push W.emptyDict).push (W.instObj C s.heap.objs.size)}:=by
 have e1:(s.heap.push W.emptyDict).get? s.heap.objs.size=some W.emptyDict:=aQ s.heap rfl;have e2:((s.heap.push W.emptyDict).push (W.instObj C s.heap.objs.size)).get? (s.heap.objs.size+1)=some (W.instObj C s.heap.objs.size):=by have:=aQ (s.heap.push W.emptyDict) (o:=W.instObj C s.heap.objs.size) rfl;rwa [dF] at this
 have e3:(s.heap.push W.emptyDict).Ns s.heap.objs.size (λ_=>none):=#[W.emptyDict, #[],_,e1,rfl,(λe he=>absurd he (by simp)),λ_=>rfl]
 have I1:=I.laid (a:=s.heap.objs.size) (o:= .own (s.heap.objs.size+1)) (h':=s.heap.push W.emptyDict) (t':=s.toks) (λb u q=>aq _ q) (ap _) #[_,e1];exact I1.laid (a:=s.heap.objs.size+1) (o:= .ins C s.heap.objs.size []) (t':=s.toks) (λb u q=>aq _ q) (Nat.le_of_eq (dF _ _)) ?_;have ne:s.heap.objs.size≠s.heap.objs.size+1:=a4 (cF _);exact#[by rw[bS ne,cr],du _,ne,e2,λ_=>none,(Heap.Ns1.of_empty e3).at λo q=>aq _ q,λ_=>True.intro,λy hy=>absurd rfl hy]
theorem Ll (hb:attributeBase e f env (eval e env)=eval e env)(h:wpAny (model prog w) A (eval e env) (λo s₁=>wpAny (model prog w) A (getAttr o f true) Q E s₁) E s):wpAny (model prog w) A (eval (.Attribute e f pos) env) Q E s:=Attribute_any_ h (by rw[arm_eval_Attribute,hb])
def Oy (K:Ug)(ta:TE)(f:Str):TE:=λσ H Q=>ta σ H λx H1=>Lr λa C dx fs v=>l_ (x= .ref a) (H1 a=some (.ins C dx fs)) (AS K C) (fi K C f) (fs.lookup f=some v) (Q v H1)
def S1 (K:Ug)(ta tv:TE)(f:Str):TS:=λD σ H=>tv σ H λy H1=>ta σ H1 λx H2=>kr λa C dx fs=>l_ (x= .ref a) (H2 a=some (.ins C dx fs)) (AS K C) (fi K C f) (fs.length<1000) (D.nx σ (dy H2 a (.ins C dx (gU f y fs))))
def e_ (he:PE X e ta)(hb:attributeBase e f X.env (eval e X.env)=eval e X.env):PE X (.Attribute e f pos) (Oy X.K ta f):=by intro ak s σ H Q I h;exact Ll hb (dL (he ak s σ H _ I h) λu s1 ⟨x,H1,I1,rx,a,C,dx,fs,v,ex,ea,c,n,l,q⟩=> ?_);subst ex;obtain rfl:u=Value.ref a:=rx;show Au I1 ea c n l λu' s2 I2 ru=>#[v,H1,I2,ru,q]
def m7 (ha:PE X o ta)(hv:PE X value tv)(hs:swapsWith value (some (.Attribute o f m_)) pos.line X.env=pure false):PS X (.Assign [.Attribute o f m_] value pos) (S1 X.K ta tv f):=by intro ak s σ H D I h;exact plainObj_wpAny_Assign_Attribute (dL (hv ak s σ H _ I h) λu s1 ⟨y,H1,I1,ry,q⟩=>dL (ha ak s1 σ H1 _ I1 q) λov s2 ⟨x,H2,I2,rx,a,C,dx,fs,ex,ea,c,n,l,q2⟩=> ?_) hs;subst ex;obtain rfl:ov=Value.ref a:=rx;show zw I2 ea c n l ry λs3 I3=>#[σ,_,I3,q2]
section
variable {X:Cx}{ak:fk (gY×Obj)}{σ:St}{H:Hp}{s:fo}{A:Around}{E:fm ->fo ->Prop}{Q:fm ->fo ->Prop}{c:fm}{b:Bool}
inductive pZ (K:PySem.W.Frag)(H:Hp):V ->Value ->Prop where
 | fh:pZ K H .fh (.type "NoneType")
 | bl (x:Bool):pZ K H (.bl x) (.type "bool")
 | int (i:Int):pZ K H (.int i) (.type "int")
 | str (x:Str):pZ K H (.str x) (.type "str")
 | Cc (x:UInt64):pZ K H (.Cc x) (.type "float")
 | lst {a:Addr} {xs:List V} (e:H a=some (.lst xs)):pZ K H (.ref a) (.type "list")
 | nk {a:Addr} {o:Obj} {xs:List V} (e:H a=some (.nk o (.lst xs))):pZ K H (.ref a) (.type "list")
 | tup {a:Addr} {xs:List V} (e:H a=some (.tup xs)):pZ K H (.ref a) (.type "tuple")
 | dK {a:Addr} {kvs:List (cH×V)} (e:H a=some (.dK kvs)):pZ K H (.ref a) (.type "dict")
 | dT {a:Addr} {kvs:List (List cH×V)} (e:H a=some (.dT kvs)):pZ K H (.ref a) (.type "dict")
 | ins {a C dx:Addr} {fs:List (Str×V)} (e:H a=some (.ins C dx fs)) (cl:AS K C) (ha:PySem.W.findIn K (.ref C) "__class__" =some (some (.builtin "object.__class__"))) (hn:PySem.W.specialIn K (.builtin "object.__class__") "__get__" =some (some (.builtin "getset_descriptor.__get__"))) (Ur:PySem.W.takesIn K (.builtin "object.__class__")=some true) (hm:PySem.W.mroIn K C (.type "object")=some true):pZ K H (.ref a) (.ref C)
def Dz (I:Inv X ak σ H s)(rx:RelV x u)(ty:pZ X.K H x t)(e:W.kitOne X.K t c=some b)(h: ∀tk,Q (.bool b) {s with toks:=tk}): wpAny (model X.prog X.w) A (call (.builtin "isinstance") [u,c]) Q E s:=by
 cases ty with
 | fh=>cases (show u=Value.none from rx);show c5 W.kitx_none I.qz True.intro e (λz=>nomatch z) h
 | bl y=>cases (show u=Value.bool y from rx);show c5 W.kitx_bool I.qz True.intro e (λz=>nomatch z) h
 | int i=>let⟨t,q⟩:=(show ∃t,u=Value.int i t from rx);cases q;show c5 W.kitx_int I.qz True.intro e (λz=>nomatch z) h
 | str y=>let⟨t,q⟩:=(show ∃t,u=Value.str y t from rx);cases q;show c5 W.kitx_str I.qz True.intro e (λz=>nomatch z) h
 | Cc y=>let⟨t,q⟩:=(show ∃t,u=Value.float y t from rx);cases q;show c5 W.kitx_float I.qz True.intro e (λz=>nomatch z) h
 | @lst a xs ea=>
  cases (show u=Value.ref a from rx);let⟨_,_,n,_,h1⟩:=(show fq X.prog X.w H s.heap a (.lst xs) from I.dM a _ ea)
  show c5 W.kitx_list I.qz #[_,h1,rfl] e (λz=>nomatch z) h
 | @nk a ob xs ea=>
  cases (show u=Value.ref a from rx);let⟨_,_,_,n,_,h1⟩:=(show fq X.prog X.w H s.heap a (.nk ob (.lst xs)) from I.dM a _ ea)
  show c5 W.kitx_list I.qz #[_,h1,rfl] e (λz=>nomatch z) h
 | @tup a xs ea=>
  cases (show u=Value.ref a from rx);let⟨_,_,_,p⟩:=(show fq X.prog X.w H s.heap a (.tup xs) from I.dM a _ ea)
  let⟨o,h1,h2,_⟩:=p;show c5 W.kitx_tuple I.qz #[o,h1,h2] e (λz=>nomatch z) h
 | @dK a kvs ea=>
  cases (show u=Value.ref a from rx);let⟨_,_,vs,_,p⟩:=(show fq X.prog X.w H s.heap a (.dK kvs) from I.dM a _ ea)
  let⟨o,es,ep,h1,h2,_⟩:=p;show c5 W.kitx_dict I.qz #[o,h1,h2.1] e (λz=>nomatch z) h
 | @dT a kvs ea=>
  cases (show u=Value.ref a from rx);let⟨_,_,xs,_,o,es,ep,h1,h2,_⟩:=(show fq X.prog X.w H s.heap a (.dT kvs) from I.dM a _ ea)
  show c5 W.kitx_dict I.qz #[o,h1,h2.1] e (λz=>nomatch z) h
 | @ins a C dx fs ea cl ha hn Ur hm=>cases (show u=Value.ref a from rx);let⟨mA,O,_⟩:=v6 I.dM ea;let⟨od,J,_⟩:=O.look;show c5 (W.kitx_own (cl.get _) cl.hd ha hn Ur hm) I.qz J e (λz=>nomatch z) h
end
structure gR (k:Nat)(A:Around):Prop where
 hd:A.handled=none
 dp:A.depth+3*k+5<recursionLimit
 un:A.units+16*k+200<cLine
theorem gR.mono (r:gR k A)(h:j<=k):gR j A:=#[r.hd,by have:=r.dp;lia,by have:=r.un;lia]
theorem gR.deeper (r:gR (k+1) A)(env:Env):gR k (A.deeper env):=#[r.hd,by have:=r.dp;change A.depth+1+3*k+5<_;lia,by have:=r.un;change A.units+3+16*k+200<_;lia]
def z3 {A:Around}:(A.under (.builtin "type.__call__" #[.ref C::us,kw])).depth=A.depth+1:=by first | rfl | simp[Around.under,Code.weight,Code.isCreation,Code.isGuard,Code.isCaller,Code.frames,Code.isFrame,guardIds]
def zZ {A:Around}:(A.under (.builtin "type.__call__" #[.ref C::us,kw])).units=A.units+1:=by first | rfl | simp[Around.under,Code.cUnits,Code.frames,Code.isFrame]
theorem gR.make (r:gR (k+1) A)(C:gY)(us:fk fm)(kw:fk (Str×fm)):gR k (A.under (.builtin "type.__call__" #[.ref C::us,kw])):=#[r.hd,by have:=r.dp;rw[z3];lia,by have:=r.un;rw[zZ];lia]
def gR.depth (r:gR k A):A.depth<recursionLimit:=by have:=r.dp;lia
def gR.units (r:gR k A):A.units+64<cLine:=by have:=r.un;lia
def Ox:TA:=λ_ H Q=>Q [] H
def Fn (ta:TE)(tr:TA):TA:=λσ H Q=>ta σ H λx H1=>tr σ H1 λxs H2=>Q (x::xs) H2
section
variable {X:Cx}{e:Expr}{es:fk Expr}{te:TE}{t:TA}{pos:Pos}
theorem aw:PA X [] Ox:=λ_ _ _ _ H Q I h=>Calls.spliced_nil #[[],H,I, .nil,h]
def ab (ha:PE X e te)(hr:PA X es t)(hs:starEach (e::es) X.env=(false,eval e X.env)::starEach es X.env:=by rfl):PA X (e::es) (Fn te t):=by intro pos ak s σ H Q I h;rw[hs];change wpAny _ _ (spliced ((false,eval e X.env)::backTo pos (starEach es X.env))) _ _ s;exact eg (dL (ha ak s σ H _ I h) λu s1 ⟨x,H1,I1,r1,q1⟩=> ?_);show dL (hr pos ak s1 σ H1 _ I1 q1) λus s2 ⟨xs,H2,I2,r2,q2⟩=>#[x::xs,H2,I2, .cons r1 r2,q2]
def Sz (t:TA):TE:=λσ H Q=>t σ H λxs H1=>xs.length<=sizeLine /\ ∀p,H1 p=none ->Q (.ref p) (dy H1 p (.tup xs))
def SG (t:TA):TE:=λσ H Q=>t σ H λxs H1=>xs.length<=sizeLine /\ ∀p,H1 p=none ->Q (.ref p) (dy H1 p (.lst xs))
def iC {x1}(h:PA X es t):PE X (.Tuple es x1 pos) (Sz t):=by intro ak s σ H Q I hq;exact wpAny_Tuple_spliced (dL (h pos ak s σ H _ I hq) λus s1 ⟨xs,H1,I1,r,z,q⟩=>#[by rw[<- r.length];show z,?_]);have hf:H1 s1.heap.objs.size=none:=I1.dM.fresh (ap _);exact#[.ref s1.heap.objs.size,dy H1 s1.heap.objs.size (.tup xs),I1.laid (t':=s1.toks) (λb u e=>aq _ e) (ap _) ?_,rfl,q _ hf];show#[z,us,r,#[_,aQ _ rfl,rfl,_,rfl,rfl]]
def zH (h:PA X es t):PE X (.List es pos) (SG t):=by intro ak s σ H Q I hq;exact wpAny_List_spliced (dL (h pos ak s σ H _ I hq) λus s1 ⟨xs,H1,I1,r,z,q⟩=>#[by rw[<- r.length];show z,?_]);have hf:H1 s1.heap.objs.size=none:=I1.dM.fresh (ap _);exact#[.ref s1.heap.objs.size,dy H1 s1.heap.objs.size (.lst xs),I1.laid (t':=s1.toks) (λb u e=>aq _ e) (ap _) ?_,rfl,q _ hf];show#[z,us,0,r,aQ _ rfl]
end
abbrev Sp:=fk V ->Hp ->VK ->XK ->Prop
abbrev Iv:=fk Env ->Hp ->fo ->XK ->fm ->fo ->Prop
structure AQ (P:Program)(w:World)(K:PySem.W.Frag)(mg:Str ->Option Value)(base:Heap)(A:Around)(outer:List Env)(s:Shared)(H:Hp):Prop where
 frames:A.frames=some outer
 mod:Mod K mg base
 bs: ∀b o,base.get? b=some o ->s.heap.get? b=some o /\ H b=none
 Jf:base.objs.size<=s.heap.objs.size
 qG:s.heap.FunFrames base outer
 QB: ∀b∈Av outer,H b=none
 dM:mS P w H s.heap
 bare:AllBare s.gens
def CE (outer:fk Env)(P:Program)(w:World)(H:Hp)(s:fo)(Q:VK)(u:fm)(s':fo):Prop:=cO λv H'=>l_ (s'.os=s.os) (AllBare s'.gens) (Un (Av outer) [] H H' s.heap s'.heap) (mS P w H' s'.heap) (RelV v u) (Q v H')
def CR (CX:Iv)(outer:fk Env)(P:Program)(w:World)(H:Hp)(s:fo)(Q:VK)(E:XK)(r:Result)(s':fo):Prop:=
 match r with
 | .ok (.ret u)=>CE outer P w H s Q u s'
 | .ok _=>False
 | .error e=>CX outer H s E e s'
structure dR (P:Program)(w:World)(K:PySem.W.Frag)(mg:Str ->Option Value)(base:Heap)(CX:Iv)(k:Nat)(f:Addr)(fd:FuncData)(ps:List Str)(sp:Sp):Prop where
 len: ∀vs H Q E,sp vs H Q E ->vs.length=ps.length
 run: ∀ (A:Around) (outer:List Env) (s:Shared) (H:Hp) (args:Args) (us:List Value) (vs:List V) (Q:VK) (E:XK),gR k A ->AQ P w K mg base A outer s H ->BindsTo s fd args (ps.zip us) ->cV vs us ->sp vs H Q E ->codeAny (model P w) A (.call (.ref f) args) (CR CX outer P w H s Q E) s
theorem dR.imp {K:Ug}(F:dR P w K mg base CX k f fd ps sp)(h: ∀vs H Q E,sp' vs H Q E ->sp vs H Q E):dR P w K mg base CX k f fd ps sp':=#[λvs H Q E q=>F.len vs H Q E (h _ _ _ _ q),λA outer s H args us vs Q E hr he hb hv hs=>F.run A outer s H args us vs Q E hr he hb hv (h _ _ _ _ hs)]
theorem AQ.make {K:Ug}(e:AQ P w K mg base A outer s H)(C:gY)(us:fk fm)(kw:fk (Str×fm)): AQ P w K mg base (A.under (.builtin "type.__call__" #[.ref C::us,kw])) outer s H:=#[by first | show e.frames | (simpa [Around.under,Code.envs,Code.isFrame,pushEnvs] using e.frames),e.mod,e.bs,e.Jf,e.qG,e.QB,e.dM,e.bare]
theorem Inv.Vd {σ:St}(I:Inv X ak σ H s):AQ X.prog X.w X.K X.mg X.base X.A X.stack s H:=#[I.ok.frames,I.ok.mod,I.bs,aT I.ok.Jf I.sz,I.stack,I.Bb,I.dM,I.bare]
def Inv.after {σ:St}(I:Inv X ak σ H s)(h:CE X.stack X.prog X.w H s Q u s'):EP X ak σ Q u s':=by let⟨v,H',os,bare,un,dM,r,q⟩:=h;let⟨hh,g,d,t,os'⟩:=s';obtain rfl:os'=s.os:=os;show#[v,H',I.call (h':=hh) (g':=g) (d':=d) (t':=t) (ch:= []) un dM bare (λb z=>absurd z (by simp)),r,q]
def Ba (sp:Sp)(Az:fk V)(E:XK)(t:TA):TE:=λσ H Q=>t σ H λvs H1=>sp (vs++Az) H1 Q E
def Fg (C:gY)(sp:Sp)(Az:fk V)(E:XK)(t:TA):TE:=λσ H Q=>t σ H λvs H1=> ∀x dx,H1 x=none ->H1 dx=none ->dx≠x ->sp (.ref x::(vs++Az)) (dy (dy H1 dx (.own x)) x (.ins C dx [])) (λv H2=>v= .fh /\ Q (.ref x) H2) E
def Binds (K:Ug)(fd:FuncData)(ps:fk Str)(ds:fk fm):Prop:=∀ (s:fo) (us:fk fm),K.In s.heap ->(us++ds).length=ps.length ->BindsTo s fd #[us,[]] (ps.zip (us++ds))
theorem Binds.all {K:Ug}(h: ∀us:fk fm,us.length=ps.length ->bindArgs fd #[us,[]]=pure (ps.zip us)):Binds K fd ps []:=λs us _ hl=>by rw[List.append_nil] at hl ⊢;show .of_eq (h us hl)
def sX (CX:Iv)(X:Cx)(E:XK):Prop:= ∀ (ak:fk (gY×Obj)) (σ:St) (H:Hp) (s:fo) (e:fm) (s':fo),Inv X ak σ H s ->CX X.stack H s E e s' ->X.xe e s'
section
variable {X:Cx}{CX:Iv}{k:Nat}{f C:gY}{fd:FuncData}{ps:fk Str}{sp:Sp}{Az:fk V}{ds:fk fm}{E:XK}{x m:Str}{p pos j6:Pos}{e o:Expr}{es:fk Expr}{ta:TE}{t:TA}
def ON {σ:St}(F:dR X.prog X.w X.K X.mg X.base CX k f fd ps sp)(hr:gR k X.A)(hb:Binds X.K fd ps ds)(hd:cV Az ds)(hx:sX CX X E)(I:Inv X ak σ H s)(r:cV vs us)(h:sp (vs++Az) H Q E):wpAny (model X.prog X.w) X.A (call (.ref f) us) (EP X ak σ Q) X.xe s:=by
 have r2:cV (vs++Az) (us++ds):=r.append hd;have hl:(us++ds).length=ps.length:=by rw[<- r2.length];show F.len _ _ _ _ h
 exact wpAny_call (codeAny_mono (F.run X.A X.stack s H #[us,[]] (us++ds) (vs++Az) Q E hr I.Vd (hb s us I.qz hl) r2 h) λr s' hq=> ?_);cases r with
 | error e=>show hx ak σ H s e s' I hq
 | ok fl=>
  cases fl with
  | ret u=>show I.after hq
  | next=>show False.elim hq
  | brk=>show False.elim hq
  | cont=>show False.elim hq
def JX (F:dR X.prog X.w X.K X.mg X.base CX k f fd ps sp)(hr:gR k X.A)(hg:Gl X x)(hm:X.mg x=some (.ref f))(hk:W.keepIn X.K (.ref f)=true)(hb:Binds X.K fd ps ds)(hd:cV Az ds)(hx:sX CX X E) (ha:PA X (e::es) t) (Hn:(x==("__debug__" :Str))=false:=by decide) (he:starEach (e::es) X.env=(false,eval e X.env)::starEach es X.env:=by rfl) (lu:(backTo pos (starEach es X.env)).any (·.1)=false:=by rfl): PE X (.Call (.Name x p) (e::es) [] pos) (Ba sp Az E t):=by intro ak s σ H Q I h;exact wpAny_Call_Name_kw (BQ I hg hm ?_ Hn);exact W.callWith_K (h₀:=X.base) I.ok.mod.WN hk (dL (ha pos ak s σ H _ I h) λus s1 ⟨vs,H1,I1,r,q⟩=>#[I1.qz,?_]) he lu;show ON F hr hb hd hx I1 r q
structure Mk (K:PySem.W.Frag)(C f:Addr):Prop where
 makes:PySem.W.makesIn K C=true
 init:PySem.W.findIn K (.ref C) "__init__" =some (some (.ref f))
 fn:PySem.W.isFn K (.ref f)=true
 kp:PySem.W.keepIn K (.ref C)=true
def FH {σ:St}(M:Mk X.K C f)(F:dR X.prog X.w X.K X.mg X.base CX k f fd ps sp)(hr:gR (k+1) X.A)(hb:Binds X.K fd ps ds)(hd:cV Az ds)(hx:sX CX X E)(I:Inv X ak σ H s)(r:cV vs us)(h: ∀x dx,H x=none ->H dx=none ->dx≠x ->sp (.ref x::(vs++Az)) (dy (dy H dx (.own x)) x (.ins C dx [])) (λv H2=>v= .fh /\ Q (.ref x) H2) E): wpAny (model X.prog X.w) X.A (call (.ref C) us) (EP X ak σ Q) X.xe s:=by
 have hq:=h (s.heap.objs.size+1) s.heap.objs.size (I.dM.fresh (Nat.le_succ _)) (I.dM.fresh (ap _)) (a4 (cF _));have I2:=Inv.made (C:=C) I;have r2:cV (V.ref (s.heap.objs.size+1)::(vs++Az)) (Value.ref (s.heap.objs.size+1)::(us++ds)):= .cons rfl (r.append hd);have hl:(Value.ref (s.heap.objs.size+1)::us++ds).length=ps.length:=by have e:=r2.length;rw[F.len _ _ _ _ hq] at e;show e.symm
 exact wpAny_call (Gs (f:=f) I.qz M.makes M.init (beq_iff_eq.mp M.fn) (codeAny_mono (F.run _ X.stack _ _ #[Value.ref (s.heap.objs.size+1)::us,[]] (Value.ref (s.heap.objs.size+1)::(us++ds)) _ _ E (hr.make C us []) (I2.Vd.make C us []) (hb _ (Value.ref (s.heap.objs.size+1)::us) I2.qz hl) r2 hq) λr s' Uw=> ?_));cases r with
 | error e=>show hx ak σ _ _ e s' I2 Uw
 | ok fl=>
  cases fl with
  | ret u=>let⟨v,H',I3,rv,ev,q3⟩:=I2.after Uw;subst ev;show#[rv,#[V.ref (s.heap.objs.size+1),H',I3,rfl,q3]]
  | next=>show False.elim Uw
  | brk=>show False.elim Uw
  | cont=>show False.elim Uw
def JV (M:Mk X.K C f)(F:dR X.prog X.w X.K X.mg X.base CX k f fd ps sp)(hr:gR (k+1) X.A)(hg:Gl X x)(hm:X.mg x=some (.ref C))(hb:Binds X.K fd ps ds)(hd:cV Az ds)(hx:sX CX X E) (ha:PA X (e::es) t) (Hn:(x==("__debug__" :Str))=false:=by decide) (he:starEach (e::es) X.env=(false,eval e X.env)::starEach es X.env:=by rfl) (lu:(backTo pos (starEach es X.env)).any (·.1)=false:=by rfl): PE X (.Call (.Name x p) (e::es) [] pos) (Fg C sp Az E t):=by intro ak s σ H Q I h;exact wpAny_Call_Name_kw (BQ I hg hm ?_ Hn);exact W.callWith_K (h₀:=X.base) I.ok.mod.WN M.kp (dL (ha pos ak s σ H _ I h) λus s1 ⟨vs,H1,I1,r,q⟩=>#[I1.qz,?_]) he lu;show FH M F hr hb hd hx I1 r q
end
structure jV (N P:List Str)(sc:Scope):Prop where
 kind:sc.kind= .function
 co:sc.isCoroutine=false
 gen:sc.isGenerator=false
 nd:N.Nodup
 pre:N.take P.length=P
 par: ∀x∈P,sc.names.lookup x=some .local \/ sc.names.lookup x=some .cell
 Pj: ∀y∈sc.names,y.2≠ .free
theorem vg {kindOf:Str ->fG NameKind}{x:Str}: ∀ {binds:fk (Str×fm)} {m:Str ->fG fm},(∀v,(x,v)∉binds) ->bindL kindOf binds m x=m x
 | [],_,_=>rfl
 | (n,v)::r,m,h=>by
  unfold bindL;rw[vg λw hw=>h w (av _ hw)];split;have:x≠n:=by rintro rfl;show h v aL
  simp[this];rfl
theorem vi {kindOf:Str ->fG NameKind}{x:Str}: ∀ {binds:fk (Str×fm)} {m:Str ->fG fm},(∀v,(x,v)∉binds) ->bindC kindOf binds m x=m x
 | [],_,_=>rfl
 | (n,v)::r,m,h=>by
  unfold bindC;rw[vi λw hw=>h w (av _ hw)];split;rfl;have:x≠n:=by rintro rfl;show h v aL
  simp[this]
theorem vh {kindOf:Str ->fG NameKind}{x:Str}{v:fm}: ∀ {P:fk Str} {vs:fk fm} {i:Nat} {m:Str ->fG fm},P.Nodup ->P[i]? =some x ->vs[i]? =some v ->kindOf x=some .local ->bindL kindOf (P.zip vs) m x=some v
 | [],_,_,_,_,h,_,_=>by simp at h
 | _::_,[],_,_,_,_,h,_=>by simp at h
 | p::P,w::vs,0,m,nd,h1,h2,hk=>by simp at h1 h2;subst h1;subst h2;change bindL kindOf ((p,w)::P.zip vs) m p=_;unfold bindL;rw[vg λv hv=>(bI.mp nd).1 (List.of_mem_zip hv).1,am hk];simp
 | p::P,w::vs,i+1,m,nd,h1,h2,hk=>by change bindL kindOf ((p,w)::P.zip vs) m x=_;unfold bindL;show vh (i:=i) (bI.mp nd).2 ⇑h1 ⇑h2 hk
theorem vj {kindOf:Str ->fG NameKind}{x:Str}{v:fm}: ∀ {P:fk Str} {vs:fk fm} {i:Nat} {m:Str ->fG fm},P.Nodup ->P[i]? =some x ->vs[i]? =some v ->kindOf x≠some .local ->bindC kindOf (P.zip vs) m x=some v
 | [],_,_,_,_,h,_,_=>by simp at h
 | _::_,[],_,_,_,_,h,_=>by simp at h
 | p::P,w::vs,0,m,nd,h1,h2,hk=>by simp at h1 h2;subst h1;subst h2;change bindC kindOf ((p,w)::P.zip vs) m p=_;unfold bindC;rw[vi λv hv=>(bI.mp nd).1 (List.of_mem_zip hv).1,ai hk];simp
 | p::P,w::vs,i+1,m,nd,h1,h2,hk=>by change bindC kindOf ((p,w)::P.zip vs) m x=_;unfold bindC;show vj (i:=i) (bI.mp nd).2 ⇑h1 ⇑h2 hk
def start (N:fk Str)(vs:fk V):St:=vs.map some++List.replicate (N.length - vs.length) none
def sL (CX:Iv)(P:Program)(w:World)(K:Ug)(mg:Str ->fG fm)(base:Heap)(N:fk Str)(qual:Str)(scope:Scope)(f:gY)(cd:fm)(A:Around)(outer:fk Env)(s:fo)(H:Hp)(E:XK):Cx where
 prog:=P
 w:=w
 K:=K
 mg:=mg
 base:=base
 A:=A.deeper (envOfC qual scope s.heap.objs.size f cd)
 N:=N
 s₀:=s
 H₀:=H
 env:=envOfC qual scope s.heap.objs.size f cd
 outer:=outer
 stack:=envOfC qual scope s.heap.objs.size f cd::outer
 ex:= []
 calm:=true
 fn:=λ_=>true
 pn:= []
 xe:=λe s'=>wpAny (model P w) (A.deeper (envOfC qual scope s.heap.objs.size f cd)) (leaving (envOfC qual scope s.heap.objs.size f cd) e) (λ_ Ys=>CX outer H s E e Ys) (λe' Ys=>CX outer H s E e' Ys) s'
def yK {sc:Scope}(h:sc.names.lookup x=some .cell): ∃c,(cellsFrom n sc.names []).lookup x=some c:=by have q:=W.cellsFrom_some sc.names n [] (.inl h);show Option.isSome_iff_exists.mp q
def DA {K:Ug}(S:jV N ps scope)(hd:A.handled=none)(e0:AQ P w K mg base A outer s H)(hl:vs.length=ps.length)(r:cV vs us)(x:InCallC s s.heap.objs.size (bindL (envOfC qual scope s.heap.objs.size f cd).kindOf (ps.zip us) λ_=>none) (cellsFrom (s.heap.objs.size+1) scope.names []) (bindC (envOfC qual scope s.heap.objs.size f cd).kindOf (ps.zip us) λ_=>none) s1): Inv (sL CX P w K mg base N qual scope f cd A outer s H E) [] (start N vs) H s1:=by
 have lu:ps.length<=N.length:=by have:=congrArg List.length S.pre;rw[bg] at this;lia
 let⟨h1,tk,rfl,hk⟩:=x.done;have TM: ∀b:gY,b∉(sL CX P w K mg base N qual scope f cd A outer s H E).ex:=λb z=>absurd (show b∈([]:fk gY) from z) (by simp);exact#[#[e0.mod,S.kind,rfl,rfl,ap _,λy z c h1 h2=> ?_,λy hy=> ?_,λy c _ h=> ?_,λ_=>hd,Around.frames_deeper e0.frames, .inr #[rfl,rfl],λb z=>absurd z (TM b),e0.bs,e0.Jf,λb _ _=>TM b,λb z=>absurd z (TM b),e0.qG,e0.QB],
  rfl,e0.bare,Un.kept hk,#[_,x.toInCall.ns,λi y v h1 h2 h3=> ?_],λy c h=>#[_,x.cell y c h],e0.dM.fresh (ap _),λy c h=> ?_,λp hp=>absurd (show p∈([]:fk (gY×Obj)) from hp) (by simp),e0.dM.kept hk,?_]
 show name_of_addr x.apart (eG h1) (eG h2);have hy:scope.names.lookup y=some .cell \/ scope.names.lookup y=some .free:=hy;obtain hy | hy:=hy;show yK hy;show absurd rfl (S.Pj _ (eG hy));show Nat.le_of_lt (x.above y c (eG h));have hi:i<vs.length:=by unfold start at h2;by_cases hi:i<vs.length;show hi;rw[a5 ⇑hi] at h2;rw[List.getElem?_replicate] at h2;split at h2<;>cases h2
 have ha:vs[i]? =some v:=by
  unfold start at h2;rw[bo ⇑hi,az] at h2;cases e:vs[i]? with
  | none=>rw[e] at h2;cases h2
  | some a=>rw[e] at h2;cases h2;rfl
 let⟨u,hu,rv⟩:=r.get ha;have hp:ps[i]? =some y:=by rw[<- S.pre,List.getElem?_take_of_lt ∅];show h1
 have ndP:ps.Nodup:=by rw[<- S.pre];show S.nd.sublist (List.take_sublist _ _)
 exact#[u,rv,?_];obtain k | k:=S.par y (ar hp);show .inl #[k,vh ndP hp hu k];let⟨c,e⟩:=yK (n:=s.heap.objs.size+1) k;exact .inr #[.inl k,c,e,?_];have q:=x.cell y c e;rw[vj ndP hp hu (by change scope.names.lookup y≠_;rw[k];decide)] at q;show q;show e0.dM.fresh (Nat.le_of_lt (x.above y c (eG h)));unfold start;change _=N.length;rw[aR,aa,List.length_replicate];lia
def Vb {K:Ug}{dV kV lB pm cdv ct oc:fm}(lk:K.lookup f=some #[oc,od, .func (W.fnOf name qual params body scope dV kV lB pm an cdv ct),EA])(DJ:W.codeIn K cdv qual=true)(S:jV N ps scope)(len: ∀vs H Q E,sp vs H Q E ->vs.length=ps.length)(oG: ∀ (A:Around) (outer:fk Env) (s:fo) (H:Hp) (vs:fk V) (Q:VK) (E:XK),gR k (A.deeper (envOfC qual scope s.heap.objs.size f cdv)) ->sp vs H Q E ->∃t,y9 (sL CX P w K mg base N qual scope f cdv A outer s H E) body t /\ t {nx:=λ_ H'=>Q .fh H',rt:=Q} (start N vs) H): dR P w K mg base CX (k+1) f (W.fnOf name qual params body scope dV kV lB pm an cdv ct) ps sp:=by
 exact#[len,λA outer s H args us vs Q E hr e0 hb r qW=> ?_];have hl:=len _ _ _ _ qW;have KX:K.In s.heap:=e0.mod.WN.keeps λb o e=>(e0.bs b o e).1;have lim:s.heap.NoLimit:=e0.mod.nolimit.keeps λb o e=>(e0.bs b o e).1;have UN: ∀y∈ps.zip us,scope.names.lookup y.1=some .local \/ (scope.names.lookup y.1=some .cell /\ ((cellsFrom (s.heap.objs.size+1) scope.names []).lookup y.1).isSome=true):=λ⟨n,v⟩ hy=>by obtain q | q:=S.par n (List.of_mem_zip hy).1;show .inl q;show .inr #[q,W.cellsFrom_some _ _ _ (.inl q)]
 exact codeAny_call_function hr.depth (KX _ _ lk) rfl S.co S.gen rfl (W.codeRec_of KX DJ) (hb _ _ _ _ ?_);exact wpAny_newFunctionEnv_cells S.kind UN λenv he s1 x=> ?_;subst he;exact#[lim.keeps x.toInCall.keep,codeAny_func ?_];let⟨t,ht,hq⟩:=oG A outer s H vs Q E (hr.deeper _) qW;have I:Inv (sL CX P w K mg base N qual scope f cdv A outer s H E) [] (start N vs) H s1:=DA S hr.hd e0 hl r x;exact b_ (ht [] s1 (start N vs) H _ I hq) (λfl s' hs=> ?_) λe s' hs=>hs;have fin: ∀ {σ':St} {H':Hp} {v:V} {u:fm},Inv (sL CX P w K mg base N qual scope f cdv A outer s H E) [] σ' H' s' ->RelV v u ->Q v H' ->CE outer P w H s Q u s':=λ{σ' H' v u} J rv q=>#[v,H',J.os,J.bare,J.base,J.dM,rv,q]
 cases fl with
 | ret u=>let⟨v,σ',H',J,rv,q⟩:=hs;show fin J rv q
 | next=>let⟨σ',H',J,q⟩:=hs;show fin (v:=V.fh) (u:=Value.none) J rfl q
 | brk=>let⟨_,_,_,q⟩:=hs;show False.elim q
 | cont=>let⟨_,_,_,q⟩:=hs;show False.elim q
section
variable {X:Cx}{x:Str}{p pos:Pos}{e:Expr}{es:fk Expr}{t:TA}{id T:String}{r:fk V ->Hp ->VK ->Prop}
def Yi (r:fk V ->Hp ->VK ->Prop)(t:TA):TE:=λσ H Q=>t σ H λvs H1=>r vs H1 Q
def br (hc:gF X (.builtin id) r)(hg:Gl X x)(hm:X.mg x=none)(hv:bootBuiltins x=some (.builtin id))(ha:PA X (e::es) t)(hn:x≠ "__name__" :=by decide)(Hn:(x==("__debug__" :Str))=false:=by decide) (he:starEach (e::es) X.env=(false,eval e X.env)::starEach es X.env:=by rfl) (lu:(backTo pos (starEach es X.env)).any (·.1)=false:=by rfl):PE X (.Call (.Name x p) (e::es) [] pos) (Yi r t):=by intro ak s σ H Q I h;exact wpAny_Call_Name_kw (g_ I hg hm hv ?_ hn Hn);show PyProof.Rows.callWith_builtin1 (dL (ha pos ak s σ H _ I h) λus s1 ⟨vs,H1,I1,r1,q1⟩=>hc ak s1 σ H1 vs us Q I1 r1 q1) he lu
def eV (hc:gF X (.type T) r)(hg:Gl X x)(hm:X.mg x=none)(hv:bootBuiltins x=some (.type T))(ha:PA X (e::es) t)(hn:x≠ "__name__" :=by decide)(Hn:(x==("__debug__" :Str))=false:=by decide) (he:starEach (e::es) X.env=(false,eval e X.env)::starEach es X.env:=by rfl) (lu:(backTo pos (starEach es X.env)).any (·.1)=false:=by rfl):PE X (.Call (.Name x p) (e::es) [] pos) (Yi r t):=by intro ak s σ H Q I h;exact wpAny_Call_Name_kw (g_ I hg hm hv ?_ hn Hn);show bM (dL (ha pos ak s σ H _ I h) λus s1 ⟨vs,H1,I1,r1,q1⟩=>hc ak s1 σ H1 vs us Q I1 r1 q1) he lu
end
end L2
namespace HT
open PySem PyProof.Rows
def f6 (n d:Nat):fG Int ->Nat
 | none=>d
 | some v=>if v<0 then(v+(n:Int)).toNat else min v.toNat n
theorem xw (n d:Nat):f6 n d none=d:=rfl
def Bs (n d k:Nat):f6 n d (some (k:Int))=min k n:=by change(if(k:Int) <0 then((k:Int)+(n:Int)).toNat else min (k:Int).toNat n)=min k n;rw[ai ∅,Int.toNat_natCast]
def OM (n d:Nat)(hd:d<=n)(o:fG Int):f6 n d o<=n:=by
 cases o with
 | none=>show hd
 | some v=>change(if v<0 then(v+(n:Int)).toNat else min v.toNat n) <=n;by_cases hv:v<0;rw[am hv];lia;rw[ai hv];show Nat.min_le_right _ _
def CL (v:Int)(n d:Nat):(if v<0 then max (v+(n:Int)) 0 else min v (n:Int))=((f6 n d (some v):Nat):Int):=by
 change(if v<0 then max (v+(n:Int)) 0 else min v (n:Int))=(((if v<0 then(v+(n:Int)).toNat else min v.toNat n):Nat):Int)
 by_cases hv:v<0;simp![am hv];lia;simp![ai hv];lia
def AK (lo hi:fG Int)(n:Nat):Builtin.Slice.sliceAdjust lo hi 1 (n:Int)=(((f6 n 0 lo:Nat):Int),((f6 n n hi:Nat):Int)):=by
 have h1:¬((1:Int) <0):= ∅;unfold Builtin.Slice.sliceAdjust;simp![h1,bj];exact Prod.ext ?_ ?_;cases lo with
 | none=>rfl
 | some v=>show CL v n 0
 cases hi with
 | none=>rfl
 | some v=>show CL v n n
def zF (i j:Nat):Builtin.Slice.slicePlaces (i:Int) (j:Int) 1=j - i:=by unfold Builtin.Slice.slicePlaces;have h1:(1:Int) >0:= ∅;simp![h1,bZ,Int.ediv_one];split<;>lia
def rL (p:IsPart v o)(h:Q o s):wpAny (model prog w) A (Builtin.Slice.slicePartIndex v) Q E s:=by
 cases p with
 | none=>show slicePart_none h
 | int i t=>show slicePart_int h
def j_ {lo hi:fG Int}{Q:Int×Int×Nat ->fo ->Prop}(hs:s.heap.IsSliceOf sl vl vu .none)(pl:IsPart vl lo)(pu:IsPart vu hi)(h:Q (((f6 n 0 lo:Nat):Int),1,f6 n n hi - f6 n 0 lo) s):wpAny (model prog w) A (Builtin.Slice.sliceApplied (.ref sl) (pure (n:Int))) Q E s:=by let⟨os,P9,Xa,Ru⟩:=id hs;unfold Builtin.Slice.sliceApplied Builtin.Slice.sliceFields;exact ag (ag (wpAny_field P9 Ru (x:=vl) rfl (ag (wpAny_field P9 Ru (x:=vu) rfl (ag (wpAny_field P9 Ru (x:= .none) rfl (aC ?_)))))));exact ag (slicePart_none ?_);change wpAny _ _ (if((1:Int)==0)=true then _ else _) _ _ s;rw[ai ⋯];exact ag (rL pl (ag (rL pu (ag (aC ?_)))));change wpAny _ _ (match Builtin.Slice.sliceAdjust lo hi 1 (n:Int) with | (lo,hi)=>pure (lo,(1:Int),Builtin.Slice.slicePlaces lo hi 1)) _ _ s;rw[AK lo hi n];change wpAny _ _ (pure (((f6 n 0 lo:Nat):Int),(1:Int),Builtin.Slice.slicePlaces ((f6 n 0 lo:Nat):Int) ((f6 n n hi:Nat):Int) 1)) _ _ s;rw[zF];show aC h
def F2 (xs:i9 fm)(i k:Nat):((List.range k).filterMap λ(m:Nat)=>xs[((i:Int)+(m:Int)*1).toNat]?).toArray=((xs.toList.drop i).take k).toArray:=by
 have e:(λ(m:Nat)=>xs[((i:Int)+(m:Int)*1).toNat]?)=λm=>xs[i+m]? :=by funext m;have:((i:Int)+(m:Int)*1).toNat=i+m:= ∅;rw[this]
 rw[e];have:=pick_run xs i k;rw[List.filterMap_map] at this;have e2:((λx=>xs[x]?) ∘ λx=>i+x)=λm=>xs[i+m]? :=rfl;rw[e2] at this;rw[this]
def oH {lo hi:fG Int}(ht:IsTup s.heap t items)(hs:s.heap.IsSliceOf sl vl vu .none)(pl:IsPart vl lo)(pu:IsPart vu hi)(hw:¬(f6 items.size 0 lo=0 /\ f6 items.size items.size hi=items.size))(h:Q (.ref s.heap.objs.size) {s with heap:=s.heap.push {cls:= .type "tuple",data:= .seq ((items.toList.drop (f6 items.size 0 lo)).take (f6 items.size items.size hi - f6 items.size 0 lo)).toArray}})(hsz:items.size<=sizeLine):wpAny (model prog w) A (getItem (.ref t) (.ref sl)) Q E s:=by
 have uG:sizeOk (.seq ((items.toList.drop (f6 items.size 0 lo)).take (f6 items.size items.size hi - f6 items.size 0 lo)).toArray):=by change((items.toList.drop (f6 items.size 0 lo)).take (f6 items.size items.size hi - f6 items.size 0 lo)).toArray.size<=sizeLine;rw[aU,bg,List.length_drop,c_];lia
 have hj:f6 items.size items.size hi<=items.size:=OM _ _ (ap _) hi;let⟨os,P9,Xa,Ru⟩:=id hs;have _p:s.TypeIs (.ref sl) "slice" :=#[os,P9,Xa]
 unfold getItem;try with_reducible exact d6 ?_
 first | exact ag (aC ?_) | skip
 exact ag (wpAny_sequenceKey ht.typeIs ⋯ ?_);exact ag (wpAny_callSpecial?_slot (name:=Str.ofString "__getitem__") ht.typeIs dm (wpAny_call_entry dm ht.typeIs entry_tuple_getitem ?_ (args_tuple_getitem _ _)));change wpAny _ _ (Builtin.Tuple.tupleItemsOf (.ref t) >>=_) _ _ s;exact ag (tupleItemsOf_ ht ?_);exact ag (wpAny_typeOf _p ?_);rw[am ⋯];exact ag (j_ hs pl pu ?_);have ZL:¬((((f6 items.size 0 lo:Nat):Int)==0 && (1:Int)==1 && (f6 items.size items.size hi - f6 items.size 0 lo)==items.size)=true):=by intro q;rw[Bool.and_eq_true,Bool.and_eq_true] at q;have q1:((f6 items.size 0 lo:Nat):Int)=0:=eq_of_beq q.1.1;have q2:f6 items.size items.size hi - f6 items.size 0 lo=items.size:=eq_of_beq q.2;show hw #[∅, ∅]
 change wpAny _ _ (if(((f6 items.size 0 lo:Nat):Int)==0 && (1:Int)==1 && (f6 items.size items.size hi - f6 items.size 0 lo)==items.size)=true then _ else _) _ _ s;rw[ai ZL,F2];first
 | show ag (m:=Builtin.Tuple.tupleExact _) (eT (aC #[_,rfl,aC h]) uG)
 | show ag (m:=Builtin.Tuple.tupleExact _) (eT (ag (aC (aC #[_,rfl,aC h]))) uG)
 | show ag (ag (m:=Builtin.Tuple.tupleExact _) (eT (aC (aC #[_,rfl,aC h])) uG))
 | show ag (ag (m:=Builtin.Tuple.tupleExact _) (eT (aC #[_,rfl,aC h]) uG))
end HT
namespace L2
open PySem PySem.Spec PyProof.Rows
abbrev TO:=St ->Hp ->(fG Int ->Hp ->Prop) ->Prop
def PO (X:Cx)(e:fG Expr)(t:TO):Prop:=∀ (ak:fk (gY×Obj)) (s:fo) (σ:St) (H:Hp) (Q:fG Int ->Hp ->Prop),Inv X ak σ H s ->t σ H Q ->wpAny (model X.prog X.w) X.A (evalPart e X.env) (λu s'=>cO λo H'=>d_ (Inv X ak σ H' s') (IsPart u o) (Q o H')) X.xe s
def A8:TO:=λ_ H Q=>Q none H
def L3 (t:TE):TO:=λσ H Q=>t σ H λx H1=> ∃i,x= .int i /\ Q (some i) H1
section
variable {X:Cx}{e:Expr}{te:TE}{lo hi:fG Expr}{tl th:TO}{pos p2:Pos}
def nW:PO X none A8:=by intro ak s σ H Q I h;rw[evalPart_none];show aC #[none,H,I, .none,h]
def nV (h:PE X e te):PO X (some e) (L3 te):=by intro ak s σ H Q I hw;rw[evalPart_some];exact dL (h ak s σ H _ I hw) λu s1 ⟨x,H1,I1,r1,q1⟩=> ?_;let⟨i,rfl,q⟩:=q1;let⟨t,rfl⟩:=r1;show#[some i,H1,I1, .int i t,q]
def Vr (X:Cx)(r:V ->fG Int ->fG Int ->Hp ->VK ->Prop):Prop:=∀ (ak:fk (gY×Obj)) (s:fo) (σ:St) (H:Hp) (x:V) (v vl vu:fm) (lo hi:fG Int) (sl:gY) (Q:VK),Inv X ak σ H s ->RelV x v ->s.heap.IsSliceOf sl vl vu .none ->IsPart vl lo ->IsPart vu hi ->r x lo hi H Q ->cO λT id=>d_ (typeLookup (.type T) "__getitem__" =pure (some (.builtin id))) (s.TypeIs v T) (wpAny (model X.prog X.w) X.A (getItem v (.ref sl)) (EP X ak σ Q) X.xe s)
def tSl (r:V ->fG Int ->fG Int ->Hp ->VK ->Prop)(te:TE)(tl th:TO):TE:=λσ H Q=>te σ H λx H1=>tl σ H1 λl H2=>th σ H2 λu H3=>r x l u H3 Q
def lf (hr:Vr X r)(he:PE X e te)(hl:PO X lo tl)(hu:PO X hi th):PE X (.Subscript e (.Slice lo hi none p2) pos) (tSl r te tl th):=by intro ak s σ H Q I h;exact Subscript_ (dL (he ak s σ H _ I h) λv s1 ⟨x,H1,I1,r1,q1⟩=> ?_);exact wpAny_Slice (dL (hl ak s1 σ H1 _ I1 q1) λvl s2 ⟨l,H2,I2,pl,q2⟩=>dL (hu ak s2 σ H2 _ I2 q2) λvu s3 ⟨u,H3,I3,pu,q3⟩=> ?_);rw[evalPart_none];exact aC ?_;have I4:Inv X ak σ H3 {s3 with heap:=s3.heap.push {cls:= .type "slice",data:= .fields (List.toArray [vl,vu, .none])}}:=I3.kept (t':=s3.toks) λb ob q=>aq _ q;let⟨T,id,hT,ht,hg⟩:=hr ak {s3 with heap:=s3.heap.push {cls:= .type "slice",data:= .fields (List.toArray [vl,vu, .none])}} σ H3 x v vl vu l u s3.heap.objs.size Q I4 r1 (Heap.IsSliceOf.new ..) pl pu q3;change wpAny (model X.prog X.w) X.A (subscriptTail e (.Slice lo hi none p2) v (.ref s3.heap.objs.size)) (EP X ak σ Q) X.xe {s3 with heap:=s3.heap.push {cls:= .type "slice",data:= .fields (List.toArray [vl,vu, .none])}};show tail_any (ops:= [.ref s3.heap.objs.size,v]) ht hT hg (by with_unfolding_all rfl)
def sN (xs:fk V)(lo hi:fG Int):fk V:=(xs.drop (HT.f6 xs.length 0 lo)).take (HT.f6 xs.length xs.length hi - HT.f6 xs.length 0 lo)
def qk (xs:fk V)(lo hi:fG Int):(sN xs lo hi).length<=xs.length:=by unfold sN;rw[bg,List.length_drop];lia
def Yv (K:Ug):V ->fG Int ->fG Int ->Hp ->VK ->Prop:=λx lo hi H Q=>cO λa xs=>fZ (x= .ref a) (jI K H a xs) (¬(HT.f6 xs.length 0 lo=0 /\ HT.f6 xs.length xs.length hi=xs.length)) (∀p,H p=none ->Q (.ref p) (dy H p (.tup (sN xs lo hi))))
def OJ:Vr X (Yv X.K):=by
 intro ak s σ H x v vl vu lo hi sl Q I rx hs pl pu h;let⟨a,xs,rfl,hx,hw,q⟩:=h;cases rx;let⟨its,r,ht,hz⟩:=I.tuple hx;have dj:its.toArray.size=xs.length:=by rw[aU];show r.length.symm
 exact#["tuple",_,dm.lookup,ht.typeIs,?_];exact HT.oH ht hs pl pu (by rw[dj];show hw) ?_ (by rw[dj];show hz);rw[dj];exact#[.ref s.heap.objs.size,_,I.laid (t':=s.toks) (o:= .tup (sN xs lo hi)) (λb ob q=>aq _ q) (ap _) ?_,rfl,q _ (I.dM.fresh (ap _))];show#[aT (qk xs lo hi) hz,_,(r.drop (HT.f6 xs.length 0 lo)).take (HT.f6 xs.length xs.length hi - HT.f6 xs.length 0 lo),tX.new _ _]
end
def wW (n:Nat)(i:Int):fG Nat:=if 0<=i then(if i<n then some i.toNat else none) else if -(n:Int) <=i then some (i+n).toNat else none
def iV {α:Type}(xs:fk α)(i:Int):fG α:=(wW xs.length i).bind λj=>xs[j]?
def B6 (h:wW n i=some j): seqIndex? i n=some j /\ j<n /\ -(n:Int) <=i /\ i<n:=by unfold wW at h;by_cases h0:0<=i;rw[am h0] at h;by_cases h1:i<n;rw[am h1] at h;have e:i.toNat=j:=bG h;show#[by rw[seqIndex_of h0 h1,e], ∅, ∅,h1];rw[ai h1] at h;cases h;rw[ai h0] at h;by_cases h1: -(n:Int) <=i;rw[am h1] at h;have e:(i+n).toNat=j:=bG h;show#[by rw[seqIndex_neg ∅ h1,e], ∅,h1, ∅];rw[ai h1] at h;cases h
def CO {v:α}(h:iV xs i=some v): ∃j,j8 (seqIndex? i xs.length=some j) (xs[j]? =some v) (j<xs.length) (-(xs.length:Int) <=i) (i<xs.length):=by
 unfold iV at h;cases e:wW xs.length i with
 | none=>rw[e] at h;cases h
 | some j=>rw[e] at h;let⟨h1,h2,h3,h4⟩:=B6 e;show#[j,h1,h,h2,h3,h4]
def fK {j:Nat}{v:α}(h:xs[j]? =some v):iV xs (j:Int)=some v:=by
 have hj:j<xs.length:=(aj.mp h).1;have e:wW xs.length (j:Int)=some j:=by unfold wW;rw[am ∅,am ∅];simp
 unfold iV;rw[e];show h
def Lw (b:Expr):Prop:= ∀o i,subscripted b false o i=operate [o,i] (getItem o i)
def Lz (X:Cx)(r:R2):Prop:=∀ (value slice:Expr) (ak:fk (gY×Obj)) (s:fo) (σ:St) (H:Hp) (x y:V) (v u:fm) (Q:VK),Inv X ak σ H s ->RelV x v ->RelV y u ->r x y H Q ->subscripted slice false v u=operate [v,u] (getItem v u) ->wpAny (model X.prog X.w) X.A (subscriptTail value slice v u) (EP X ak σ Q) X.xe s
def MtR (X:Cx)(id:String)(r:V ->fk V ->Hp ->VK ->Prop):Prop:=∀ (ak:fk (gY×Obj)) (s:fo) (σ:St) (H:Hp) (x:V) (xs:fk V) (v:fm) (us:fk fm) (Q:VK),Inv X ak σ H s ->RelV x v ->cV xs us ->r x xs H Q ->wpAny (model X.prog X.w) X.A (call (.builtin id) (v::us)) (EP X ak σ Q) X.xe s
section
variable {X:Cx}{a b:Expr}{ta tb:TE}{pos:Pos}
def Lz.or (h:Lz X r)(h':Lz X r'):Lz X (λx y H Q=>r x y H Q \/ r' x y H Q):=by intro value slice ak s σ H x y v u Q I rx ry q hs;obtain q | q:=q;show h value slice ak s σ H x y v u Q I rx ry q hs;show h' value slice ak s σ H x y v u Q I rx ry q hs
def ca (hr:Lz X r)(ha:PE X a ta)(hb:PE X b tb)(hs:Lw b):PE X (.Subscript a b pos) (SE r ta tb):=by intro ak s σ H Q I h;show Subscript_ (QN ha hb I h λv u s2 x y H2 I2 rx ry q=>hr a b ak s2 σ H2 x y v u Q I2 rx ry q (hs _ _))
def JK (K:Ug):R2:=λx y H Q=>kr λp xs i v=>j8 (x= .ref p) (y= .int i) (gS K H p xs) (iV xs i=some v) (Q v H)
def FQ (K:Ug):R2:=λx y H Q=>kr λp xs i v=>j8 (x= .ref p) (y= .int i) (jI K H p xs) (iV xs i=some v) (Q v H)
def cj:Lz X (JK X.K):=by
 intro value slice ak s σ H x y v u Q I rx ry h hs;let⟨p,xs,i,z,rfl,rfl,hq,he,q⟩:=h;cases rx;let⟨t,rfl⟩:=ry;let⟨its,r,pl,hz⟩:=I.list hq;let⟨j,h1,h2,h3,h4,h5⟩:=CO he;let⟨w,ew,vH⟩:=r.get h2;have hl:=r.length;have hn:=r_;have fin:EP X ak σ Q w s:=#[z,H,I,vH,q]
 by_cases h0:0<=i;have hj:i.toNat=j:=by rw[seqIndex_of h0 h5] at h1;show bG h1
 show item_listR pl.isList h0 ∅ (by rw[hj];simpa using ew) fin hs;have hj:(i+(its.toArray.size:Int)).toNat=j:=by rw[seqIndex_neg ∅ h4] at h1;rw[aU, <- hl];show bG h1
 show subscriptTail_builtinR (x:=w) pl.isList.typeIs slot_list_getitem.lookup (wpAny_getItem_list_neg (Q:=λr s'=>r=w /\ EP X ak σ Q r s') pl.isList ∅ (by rw[aU] <;>lia) ∅ (by rw[hj];simpa using ew) #[rfl,fin]) hs
def dP:Lz X (FQ X.K):=by
 intro value slice ak s σ H x y v u Q I rx ry h hs;let⟨p,xs,i,z,rfl,rfl,hq,he,q⟩:=h;cases rx;let⟨t,rfl⟩:=ry;let⟨its,r,pl,hz⟩:=I.tuple hq;let⟨j,h1,h2,h3,h4,h5⟩:=CO he;let⟨w,ew,vH⟩:=r.get h2;have hl:=r.length;have hn:=r_;have fin:EP X ak σ Q w s:=#[z,H,I,vH,q]
 show subscriptTail_builtinR (x:=w) pl.typeIs slot_tuple_getitem.lookup (getItem_tuple (j:=j) (Q:=λr s'=>r=w /\ EP X ak σ Q r s') pl ∅ ∅ (by rw[aU, <- hl];show h1) ⇑ew #[rfl,fin]) hs
def zY (its:fk fm)(n j:Nat)(u:fm):Obj.mapSeq (·.setIfInBounds j u) {cls:= .type "list",data:= .seq its.toArray n}= {cls:= .type "list",data:= .seq (its.set j u).toArray n}:=by simp[Obj.mapSeq]
def Inv.lst {ak:fk (gY×Obj)}{σ:St}{H:Hp}{s:fo}{p:gY}{xs:fk V}(I:Inv X ak σ H s)(h:H p=some (.lst xs)): cO λ(its:fk fm) (n:Nat)=>d_ (cV xs its) (s.heap.get? p=some {cls:= .type "list",data:= .seq its.toArray n}) (xs.length<=sizeLine):=by let⟨z,its,n,r,e⟩:=I.dM p _ h;show#[its,n,r,e,z]
def Inv.Pw {σ:St}{its its':fk fm}(I:Inv X ak σ H s)(h:H p=some (.lst xs))(ho:s.heap.get? p=some {cls:= .type "list",data:= .seq its.toArray n})(hf:f {cls:= .type "list",data:= .seq its.toArray n}= {cls:= .type "list",data:= .seq its'.toArray n'})(r:cV ys its')(hz:ys.length<=sizeLine)(t:Nat): Inv X ak σ (dy H p (.lst ys)) {s with heap:=s.heap.update p f,toks:=t}:=by
 have e:(s.heap.update p f).get? p=some {cls:= .type "list",data:= .seq its'.toArray n'}:=by rw[Heap.get?_update_self f ho (by rw[hf] <;>rfl),hf]
 exact I.write (x:=p) (e:=p) (by rw[h];trivial) (.inl rfl) (λb u hb q=>(eZ _ _ (aW hb)).trans q) #[_,e] ?_;show#[hz,its',n',r,e]
def Mt:V ->V ->V ->Hp ->(Hp ->Prop) ->Prop:=λo i v H Q=>kr λp xs k j=>j8 (o= .ref p) (i= .int k) (H p=some (.lst xs)) (wW xs.length k=some j) (Q (dy H p (.lst (xs.set j v))))
def ka:Vt X Mt:=by
 intro ak s σ H o i v ov iv u Q I ro ri rv h;let⟨p,xs,k,j,rfl,rfl,hp,hj,q⟩:=h;cases ro;let⟨t,rfl⟩:=ri;let⟨its,n,r,ho,hz⟩:=I.lst hp;let⟨h1,h2,h3,h4⟩:=B6 hj;have hl:=r.length;have hn:=r_;have I':Inv X ak σ (dy H p (.lst (xs.set j v))) {s with heap:=s.heap.update p (Obj.mapSeq (·.setIfInBounds j u))}:=I.Pw hp ho (zY its n j u) (r.set rv j) (by rw[List.length_set];show hz) s.toks;by_cases h0:0<=k;have hk:k.toNat=j:=by rw[seqIndex_of h0 h4] at h1;show bG h1
 show W.ki_setAt ho h0 ∅ (by rw[aU, <- hl];show h4) (by rw[hk];show#[_,I',q]);have hk:(k+(its.toArray.size:Int)).toNat=j:=by rw[seqIndex_neg ∅ h3] at h1;rw[aU, <- hl];show bG h1
 show W.ki_setBack ho ∅ (by rw[aU, <- hl];show h3) ∅ (by rw[hk];show#[_,I',q])
def vD (lo hi:fG Int)(n:Nat):(sliceBounds lo hi none n).1=((HT.f6 n 0 lo:Nat):Int) /\ (sliceBounds lo hi none n).2.1=((HT.f6 n n hi:Nat):Int) /\ (sliceBounds lo hi none n).2.2=1:=by
 exact#[?_,?_,rfl];cases lo with
 | none=>simp[sliceBounds,HT.f6]
 | some i=>simp![sliceBounds,HT.f6,Option.getD_none,show(1:Int) >0 by decide,bZ];by_cases h:i<0;simp![h,bZ] <;>lia;simp![h,bj] <;>lia
 cases hi with
 | none=>simp[sliceBounds,HT.f6]
 | some i=>simp![sliceBounds,HT.f6,Option.getD_none,show(1:Int) >0 by decide,bZ];by_cases h:i<0;simp![h,bZ] <;>lia;simp![h,bj] <;>lia
def tH (its:fk fm)(lo hi:fG Int):slicePick its.toArray lo hi none=((its.drop (HT.f6 its.length 0 lo)).take (HT.f6 its.length its.length hi - HT.f6 its.length 0 lo)).toArray:=by let⟨h1,h2,h3⟩:=vD lo hi its.toArray.size;unfold slicePick;rw[h1,h2,h3];simp![sliceRange_one,pick_run,aU] <;>rfl
def S_ (K:Ug):V ->fG Int ->fG Int ->Hp ->VK ->Prop:=λx lo hi H Q=>cO λa xs=>d_ (x= .ref a) (gS K H a xs) (∀p,H p=none ->Q (.ref p) (dy H p (.lst (sN xs lo hi))))
def vE:Vr X (S_ X.K):=by intro ak s σ H x v vl vu lo hi sl Q I rx hs pl pu h;let⟨a,xs,rfl,hx,q⟩:=h;cases rx;let⟨its,r,ht,hz⟩:=I.list hx;have dj:=r.length;exact#["list",_,slot_list_getitem.lookup,ht.isList.typeIs,?_];exact wpAny_getItem_list_slice ht.isList hs pl pu .none (by simp) ?_ (by rw[aU] <;>lia);rw[tH, <- dj];exact#[.ref s.heap.objs.size,_,I.laid (t':=s.toks) (o:= .lst (sN xs lo hi)) (λb ob q=>aq _ q) (ap _) ?_,rfl,q _ (I.dM.fresh (ap _))];show#[aT (qk xs lo hi) hz,_,0,(r.drop (HT.f6 xs.length 0 lo)).take (HT.f6 xs.length xs.length hi - HT.f6 xs.length 0 lo),aQ _ rfl]
def NF:V ->Bool
 | .fh=>true
 | .bl _=>true
 | .int _=>true
 | .str _=>true
 | _=>false
def eqV:V ->V ->Bool
 | .fh, .fh=>true
 | .bl a, .bl b=>a==b
 | .bl a, .int b=>(if a then 1 else 0)==b
 | .int a, .bl b=>a==(if b then 1 else 0)
 | .int a, .int b=>a==b
 | .str a, .str b=>a==b
 | _,_=>false
def gy (ry:RelV y u)(rx:RelV x v)(fy:NF y=true)(fx:NF x=true):SeqAt.EqAt A s u v (eqV y x):=by
 cases y with
 | fh=>
  cases ry;cases x with
  | fh=>cases rx;show SeqAt.EqAt.same _
  | bl b=>cases rx;show SeqAt.EqAt.none_bool b
  | int b=>let⟨t,rfl⟩:=rx;show SeqAt.EqAt.none_int b t
  | str b=>let⟨t,rfl⟩:=rx;show SeqAt.EqAt.none_str b t
  | _=>show absurd (show false=true from fx) a_
 | bl a=>
  cases ry;cases x with
  | fh=>cases rx;show SeqAt.EqAt.bool_none a
  | bl b=>cases rx;show SeqAt.EqAt.bool_bool a b
  | int b=>let⟨t,rfl⟩:=rx;show SeqAt.EqAt.bool_int a b t
  | str b=>let⟨t,rfl⟩:=rx;show SeqAt.EqAt.bool_str a b t
  | _=>show absurd (show false=true from fx) a_
 | int a=>
  let⟨t',rfl⟩:=ry;cases x with
  | fh=>cases rx;show SeqAt.EqAt.int_none a t'
  | bl b=>cases rx;show SeqAt.EqAt.int_bool a t' b
  | int b=>let⟨t,rfl⟩:=rx;show SeqAt.EqAt.int_int a t' b t
  | str b=>let⟨t,rfl⟩:=rx;show SeqAt.EqAt.int_str a t' b t
  | _=>show absurd (show false=true from fx) a_
 | str a=>
  let⟨t',rfl⟩:=ry;cases x with
  | fh=>cases rx;show SeqAt.EqAt.str_none a t'
  | bl b=>cases rx;show SeqAt.EqAt.str_bool a t' b
  | int b=>let⟨t,rfl⟩:=rx;show SeqAt.EqAt.str_int a t' b t
  | str b=>let⟨t,rfl⟩:=rx;show SeqAt.EqAt.str_str a t' b t
  | _=>show absurd (show false=true from fx) a_
 | _=>show absurd (show false=true from fy) a_
def wK:gF X (.builtin "len") (λxs H Q=>cO λp ys=>d_ (xs= [.ref p]) (gS X.K H p ys \/ jI X.K H p ys) (Q (.int ys.length) H)):=by intro ak s σ H xs us Q I r h;let⟨p,ys,rfl,hq,q⟩:=h;let⟨u,rfl,rx⟩:=vals1 r;cases rx;have hn:=r_;obtain hq | hq:=hq;let⟨its,r',pl,hz⟩:=I.list hq;have dj:=r'.length;show Calls.call_len_list pl.isList (by simp![aU] <;>lia) #[.int ys.length,H,I.tok _,#[s.toks+1,by rw[aU,dj]],q];let⟨its,r',pl,hz⟩:=I.tuple hq;have dj:=r'.length;show len_tuple pl (by simp![aU] <;>lia) #[.int ys.length,H,I.tok _,#[s.toks+1,by rw[aU,dj]],q]
def wJ:gF X (.type "list") (λxs H Q=>cO λp ys=>d_ (xs= [.ref p]) (gS X.K H p ys \/ jI X.K H p ys) (∀l,H l=none ->Q (.ref l) (dy H l (.lst ys)))):=by
 intro ak s σ H xs us Q I r h;let⟨p,ys,rfl,hq,q⟩:=h;let⟨u,rfl,rx⟩:=vals1 r;cases rx;have fin: ∀ (its:fk fm),cV ys its ->ys.length<=sizeLine -> ∀ (h':Heap) (c':Nat),(∀b o',s.heap.get? b=some o' ->h'.get? b=some o') ->h'.get? s.heap.objs.size=some {cls:= .type "list",dict:=none,data:= .seq its.toArray c',slots:= #[]} ->EP X ak σ Q (.ref s.heap.objs.size) {s with heap:=h'}:=λits r' hz h' c' kp e=>#[.ref s.heap.objs.size,_,I.laid (t':=s.toks) kp (ap _) (show fq X.prog X.w _ h' _ (.lst ys) from#[hz,its,c',r',e]),rfl,q _ (I.dM.fresh (ap _))]
 obtain hq | hq:=hq;let⟨its,r',pl,hz⟩:=I.list hq;have dj:=r'.length;let⟨o,ho,hc,n,hd⟩:=pl.isList;show call_list_seq p (.inl rfl) ho hc hd (λh' c' kp e=>fin its r' hz h' c' kp e) (by simp![aU] <;>lia);let⟨its,r',pl,hz⟩:=I.tuple hq;have dj:=r'.length;let⟨o,ho,hc,n,hd⟩:=pl;show call_list_seq p (.inr rfl) ho hc hd (λh' c' kp e=>fin its r' hz h' c' kp e) (by simp![aU] <;>lia)
def tR:gF X (.type "tuple") (λxs H Q=>cO λp ys=>xs= [.ref p] /\ ((gS X.K H p ys /\ ∀l,H l=none ->Q (.ref l) (dy H l (.tup ys))) \/ (jI X.K H p ys /\ Q (.ref p) H))):=by
 intro ak s σ H xs us Q I r h;let⟨p,ys,rfl,h⟩:=h;let⟨u,rfl,rx⟩:=vals1 r;cases rx;rcases h with⟨hq,q⟩ | ⟨hq,q⟩
 let⟨its,r',pl,hz⟩:=I.list hq;have dj:=r'.length;exact call_tuple_list pl.isList (λh' kp=> ?_) (by simp![aU] <;>lia);have I1:Inv X ak σ H {s with heap:=h'}:=I.kept (t':=s.toks) kp;have I2:Inv X ak σ (dy H h'.objs.size (.tup ys)) {s with heap:=h'.push {cls:= .type "tuple",data:= .seq its.toArray}}:=I1.laid (t':=s.toks) (λb o e=>aq _ e) (ap _) (show fq X.prog X.w _ _ _ (.tup ys) from#[hz,its,r',tX.new _ _]);show#[.ref h'.objs.size,_,I2,rfl,q _ (I1.dM.fresh (ap _))];let⟨its,r',pl,hz⟩:=I.tuple hq;show call_tuple_same pl #[.ref p,H,I,rfl,q]
def Yc (K:Ug)(T:String)(x:V)(H:Hp):Prop:=match x with
 | .str _=>T= "str"
 | .int _=>T= "int"
 | .ref p=>(T= "list" /\ ∃xs,gS K H p xs) \/ (T= "tuple" /\ ∃o,d_ (K.lookup p=some o) (o.cls= .type "tuple") (o.dict=none)) \/(T= "dict" /\ ((∃kvs,H p=some (.dK kvs)) \/ ∃kvs,H p=some (.dT kvs))) \/ (T= "set" /\ ∃S n,H p=some (.set S n))
 | _=>False
def Oh {σ:St}(I:Inv X ak σ H s)(r:RelV x v)(ty:Yc X.K T x H): s.TypeIs v T /\ ∀a,v= .ref a -> ∃ob,s.heap.get? a=some ob /\ ob.dict=none:=by
 cases x with
 | str z=>let⟨t,rfl⟩:=r;cases (show T= "str" from ty);show#[typeIs_str s z t,λ_ e=>nomatch e]
 | int i=>let⟨t,rfl⟩:=r;cases (show T= "int" from ty);show#[typeIs_int s i t,λ_ e=>nomatch e]
 | ref p =>
  cases r;rcases ty with⟨rfl,xs,hq⟩ | ⟨rfl,o,hk,hc,hd⟩ | ⟨rfl,hk⟩ | ⟨rfl,S,n,hk⟩
  let⟨its,_,pl,_⟩:=I.list hq;exact#[pl.isList.typeIs,λa e=> ?_];cases e;let⟨o,n,e,c,hd,_⟩:=pl;show#[o,e,hd];exact#[#[o,I.qz p o hk,hc],λa e=> ?_];cases e;show#[o,I.qz _ o hk,hd];have z: ∃o,s.heap.get? p=some o /\ o.ExactDict:=by
   rcases hk with⟨kvs,hk⟩ | ⟨kvs,hk⟩
   let⟨_,_,_,_,o,_,_,e,ex,_⟩:=I.dM p _ hk;show#[o,e,ex];let⟨_,_,_,_,o,_,_,e,ex,_⟩:=I.dM p _ hk;show#[o,e,ex]
  let⟨o,e,ex⟩:=z;exact#[#[o,e,ex.1],λa e2=> ?_];cases e2;show#[o,e,ex.2.1];let⟨o,_,_,_,e,ex,_⟩:=I.dM p _ hk;exact#[#[o,e,ex.1],λa e2=> ?_];cases e2;show#[o,e,ex.2.1]
 | _=>show False.elim ty
def tBM (K:Ug)(T:String)(r:V ->fk V ->Hp ->VK ->Prop)(to:TE)(t:TA):TE:=λσ H Q=>to σ H λx H1=>Yc K T x H1 /\ t σ H1 λxs H2=>r x xs H2 Q
variable {o e:Expr}{es:fk Expr}{to:TE}{t:TA}{name:Str}{j6 gJ:Pos}{T id:String}{r:V ->fk V ->Hp ->VK ->Prop}
def F_ (pa:PlainAttrs T)(slot:Slot T name id)(hty:typeOf (.builtin id)=pure (.type "method_descriptor"))(hm:MtR X id r)(ho:PE X o to)(ha:PA X (e::es) t) (yi:attributeBase o name X.env (eval o X.env)=eval o X.env:=by rfl) (_b:((backTo gJ (starEach (e::es) X.env)).all (λx=> !x.1) && (backToKw gJ (keywordEach [] X.env)).all (λx=>x.1.isSome) && decide ((e::es).length+([]:fk Keyword).length+(if([]:fk Keyword).isEmpty then 0 else 1) <30))=true:=by rfl) (yg:(j6.endLine==gJ.line)=true:=by rfl) (hs:starEach (e::es) X.env=(false,eval e X.env)::starEach es X.env:=by rfl) (PZ:(backTo gJ (starEach es X.env)).any (·.1)=false:=by rfl): PE X (.Call (.Attribute o name j6) (e::es) [] gJ) (tBM X.K T r to t):=by intro ak s σ H Q I h;exact wpAny_Call_method_late yi _b yg rfl (dL (ho ak s σ H _ I h) λv s1 ⟨x,H1,I1,r1,ty,q1⟩=> ?_);let⟨h1,h2⟩:=Oh I1 r1 ty;exact#[T,id,pa,slot,hty,h1,h2,?_];have hA:=ha gJ ak s1 σ H1 _ I1 q1;rw[hs] at hA ⊢;exact Calls.callWith_builtin (by change(false || (backTo gJ (starEach es X.env)).any (·.1))=false;rw[PZ] <;>rfl) (Calls.evalArgs_plain ?_);show dL hA λus s2 ⟨vs,H2,I2,r2,q2⟩=>hm ak s2 σ H2 x vs v us Q I2 r1 r2 q2
end
def MtM (X:Cx)(id:String)(r:V ->fk V ->Hp ->VK ->Prop):Prop:=∀ (ak:fk (gY×Obj)) (s:fo) (σ:St) (H:Hp) (x:V) (xs:fk V) (v:fm) (us:fk fm) (Q:VK),Inv X ak σ H s ->RelV x v ->cV xs us ->r x xs H Q ->wpAny (model X.prog X.w) X.A (call (.builtin id) (v::us)) (EP X ak σ Q) X.xe s
def cV.one: ∀ {x:V} {us:fk fm},cV [x] us -> ∃u,us= [u] /\ RelV x u :=by intro x us h;cases h with | cons r t=>cases t;show#[_,rfl,r]
def Inv.T9 {σ:St}{its its':fk fm}(I:Inv X ak σ H s)(hH:H l=some (.lst xs))(e:s.heap.get? l=some {cls:= .type "list",data:= .seq its.toArray n})(hf:f its.toArray=its'.toArray)(hv:cV ys its')(hz:ys.length<=sizeLine): Inv X ak σ (dy H l (.lst ys)) {s with heap:=s.heap.update l (Obj.mapSeq f),toks:=t'}:=by have q:=PySem.IsL.update e f;rw[hf] at q;exact I.write (x:=l) (e:=l) (by rw[hH];show trivial) (.inl rfl) (λb' u hb hu=>(eZ s.heap (Obj.mapSeq f) (aW hb)).trans hu) #[_,q] ?_;show#[hz,its',_,hv,q]
theorem Inv.Y7 {σ:St}(I:Inv X ak σ H s)(hv:cV ys its)(hz:ys.length<=sizeLine): Inv X ak σ (dy H s.heap.objs.size (.lst ys)) {s with heap:=s.heap.push {cls:= .type "list",data:= .seq its.toArray},toks:=t'}:=I.laid (λ_ _ q=>aq _ q) (ap _) #[hz,its,0,hv,aQ _ rfl]
theorem Inv.fresh {σ:St}(I:Inv X ak σ H s):H s.heap.objs.size=none:=I.dM.fresh (ap _)
def Inv.Gu {σ:St}(I:Inv X ak σ H s)(hH:H l=some (.lst xs)):xs.length<=sizeLine /\ cO λ(its:fk fm) (n:Nat)=>d_ (cV xs its) (xs.length=its.length) (s.heap.get? l=some {cls:= .type "list",data:= .seq its.toArray n}):=by let⟨z,its,n,r,e⟩:=I.dM l _ hH;show#[z,its,n,r,r.length,e]
def Gk (h:n<=sizeLine):Builtin.List.listTooLong n=false:=by unfold Builtin.List.listTooLong;show cM ∅
def Bx:V ->fk V ->Hp ->VK ->Prop:=λx vs H Q=>im λl xs y=>j8 (x= .ref l) (vs= [y]) (H l=some (.lst xs)) (xs.length<sizeLine) (Q .fh (dy H l (.lst (xs++ [y]))))
def lT:MtM X "list.append" Bx:=by intro ak s σ H x vs v us Q I rx rv h;let⟨l,xs,y,rfl,rfl,hH,hz,q⟩:=h;cases rx;let⟨u,rfl,ru⟩:=rv.one;let⟨z,its,n,r,hl,e⟩:=I.Gu hH;exact call_meets F.slot_list_append #[_,e,rfl] F.entry_list_append (F.args_list_append_2 _ _) (PySem.list_append l its.toArray n u (by rw[aU];lia)) #[e,?_];exact#[.fh,_,I.T9 (its':=its++ [u]) hH e (by simp) (r.append (.cons ru .nil)) ?_,rfl,q];rw[aR,db];lia
def Bw:V ->fk V ->Hp ->VK ->Prop:=λx vs H Q=>kr λl b xs zs=>l_ (x= .ref l) (vs= [.ref b]) (H l=some (.lst xs)) (H b=some (.lst zs)) (xs.length+zs.length<=sizeLine) (Q .fh (dy H l (.lst (xs++zs))))
def Dk:MtM X "list.extend" Bw:=by
 intro ak s σ H x vs v us Q I rx rv h;let⟨l,b,xs,zs,rfl,rfl,hH,hB,hz,q⟩:=h;cases rx;let⟨u,rfl,ru⟩:=rv.one;cases ru;let⟨z,its,n,r,hl,e⟩:=I.Gu hH;let⟨z2,Af,n2,r2,Np,e2⟩:=I.Gu hB;have hsz:its.toArray.size+Af.toArray.size<=sizeLine:=by rw[aU,aU];lia
 have UH:¬(!its.toArray.isEmpty && Builtin.List.listTooLong (its.toArray.size+Af.toArray.size))=true:=by rw[Gk hsz,Bool.and_false];show a_
 exact call_meets F.slot_list_extend #[_,e,rfl] F.entry_list_extend (F.args_list_extend_2 _ _) (AutoSeq1.list_extend_list_list_0 l its.toArray n b Af.toArray n2 UH (by rw[aU];lia) ∅) #[e,e2,?_];exact#[.fh,_,I.T9 (its':=its++Af) hH e (by simp) (r.append r2) ?_,rfl,q];rw[aR];lia
def Tf:R2:=λx y H Q=>kr λl b xs zs=>l_ (x= .ref l) (y= .ref b) (H l=some (.lst xs)) (H b=some (.lst zs)) (xs.length+zs.length<=sizeLine) (∀p,H p=none ->Q (.ref p) (dy H p (.lst (xs++zs))))
def Gg:pi X (binaryOp .Add) Tf:=by
 intro ak s σ H x y v u Q I rx ry h;let⟨l,b,xs,zs,rfl,rfl,hH,hB,hz,q⟩:=h;cases rx;cases ry;let⟨z,its,n,r,hl,e⟩:=I.Gu hH;let⟨z2,Af,n2,r2,Np,e2⟩:=I.Gu hB;exact PySem.P.add_list e e2 ?_ (by rw[aU,aU];lia);have ea:its.toArray++Af.toArray=(its++Af).toArray:=by simp
 rw[ea];show#[.ref _,_,I.Y7 (t':=s.toks) (r.append r2) (by rw[aR];lia),rfl,q _ I.fresh]
section
variable {κ:Type} [DecidableEq κ]
def iQ (kvs:fk (κ×V))(k:κ):fG V:=(kvs.find? λkv=>decide (kv.1=k)).map (·.2)
def gQ (kvs:fk (κ×V))(k:κ)(v:V):fk (κ×V):=if(kvs.any λkv=>decide (kv.1=k))=true then kvs.map (λkv=>if kv.1=k then(kv.1,v) else kv) else kvs++ [(k,v)]
def qh (kvs:fk (κ×V))(k:κ):fk (κ×V):=kvs.filter λkv=>decide (kv.1≠k)
def rn {k:κ}(e:p.1=k):iQ (p::r) k=some p.2:=by simp[iQ,dw,e]
def rq {k:κ}(e:¬p.1=k):iQ (p::r) k=iQ r k:=by simp[iQ,dw,e]
theorem xa (k:κ): ∀kvs:fk (κ×V),(kvs.any λkv=>decide (kv.1=k))=(iQ kvs k).isSome
 | []=>rfl
 | p::r=>by rw[List.any_cons];by_cases e:p.1=k;simp![rn e,bH e,Bool.true_or,Option.isSome_some];rw[rq e,cM e,Bool.false_or];show xa k r
def iN (kvs:fk (κ×V))(k:κ)(v:V):(gQ kvs k v).length<=kvs.length+1:=by unfold gQ;split;rw[aa];lia;rw[aR,aP,List.length_nil];lia
def nD.l4 (r:nD o u):o.isSome=u.isSome:=by
 cases o with
 | none=>cases u with
  | none=>rfl
  | some _=>show(show False from r).elim
 | some _=>cases u with
  | none=>show(show False from r).elim
  | some _=>rfl
def nD.getD (r:nD o u)(rd:RelV d d'):RelV (o.getD d) (u.getD d'):=by
 cases o with
 | none=>cases u with
  | none=>show rd
  | some _=>show(show False from r).elim
 | some _=>cases u with
  | none=>show(show False from r).elim
  | some _=>show r
def KV.val (r:KV kvs vs)(k:κ):nD (iQ kvs k) (valueAt vs k):=by
 unfold KV at r;induction r with
 | nil=>show True.intro
 | @cons p q ps qs h t ih=>
  let⟨h1,h2⟩:=h;by_cases e:p.1=k;have e':q.1=k:=h1.symm.trans e;have b:valueAt (q::qs) k=some q.2:=by simp[valueAt,dw,e']
  rw[rn e,b];show h2;have e':¬q.1=k:=λz=>e (h1.trans z);have b:valueAt (q::qs) k=valueAt qs k:=by simp[valueAt,dw,e']
  rw[rq e,b];show ih
def KV.any (r:KV kvs vs)(k:κ):(kvs.any λkv=>decide (kv.1=k))=vs.any λkv=>decide (kv.1=k):=by
 unfold KV at r;induction r with
 | nil=>rfl
 | cons h t ih=>rw[List.any_cons,List.any_cons,ih,h.1]
def KV.OQ (r:KV kvs vs)(k:κ)(ry:RelV y u): KV (kvs.map λkv=>if kv.1=k then(kv.1,y) else kv) (vs.map λkv=>if kv.1=k then(kv.1,u) else kv):=by
 unfold KV at r ⊢;induction r with
 | nil=>show .nil
 | @cons p q ps qs h t ih=>rw[aI,aI];exact .cons ?_ ih;let⟨h1,h2⟩:=h;by_cases e:p.1=k;rw[am e,am (h1.symm.trans e)];show#[h1,ry];rw[ai e,ai (λz=>e (h1.trans z))];show#[h1,h2]
def KV.put (r:KV kvs vs)(k:κ)(ry:RelV y u):KV (gQ kvs k y) (stored vs k u):=by unfold gQ stored;rw[r.any k];by_cases e:(vs.any λkv=>decide (kv.1=k))=true;rw[am e,am e];show r.OQ k ry;rw[ai e,ai e];show Paired.snoc r #[rfl,ry]
def KV.drop (r:KV kvs vs)(k:κ):KV (qh kvs k) (without vs k):=by
 unfold KV at r ⊢;unfold qh without;induction r with
 | nil=>show .nil
 | @cons p q ps qs h t ih=>
  let⟨h1,h2⟩:=h;rw[List.filter_cons,List.filter_cons];by_cases e:p.1=k;have a:¬decide (p.1≠k)=true:=by simp[e]
  have b:¬decide (q.1≠k)=true:=by simp[h1.symm.trans e]
  rw[ai a,ai b];show ih;have e':¬q.1=k:=λz=>e (h1.trans z);have a:decide (p.1≠k)=true:=by simp[e]
  have b:decide (q.1≠k)=true:=by simp[e']
  rw[am a,am b];show .cons #[h1,h2] ih
def KV.keys {vs:fk (κ×fm)}(r:KV kvs vs):kvs.map (·.1)=vs.map (·.1):=by
 unfold KV at r;induction r with
 | nil=>rfl
 | cons h t ih=>rw[aI,aI,ih,h.1]
theorem KV.length {vs:fk (κ×fm)}(r:KV kvs vs):kvs.length=vs.length:=Paired.length r
theorem HH (kvs:fk (κ×V))(k:κ):(qh kvs k).length<=kvs.length:=eY _ _
end
def ox (r:RelV (kV k) u):(cQ P w).is k u=true:=by
 cases k with
 | inl i=>let⟨t,e⟩:=(show ∃t,u=Value.int i t from r);subst e;show xQ P w i t
 | inr x=>let⟨t,e⟩:=(show ∃t,u=Value.str x t from r);subst e;show xP P w x t
theorem uF {P:Program}{w:World}: ∀ {ks:fk cH} {us:fk fm},cV (ks.map kV) us ->ItemsAre (cQ P w) ks us
 | [],_,r=>by rw[dU] at r;cases r;show .nil
 | k::ks,_,r=>by
  rw[aI] at r;cases r with
  | cons h t=>show .cons (ox h) (uF t)
abbrev KT (H:Hp):fk (fk cH×V) ->fk (fk cH×gY×fm) ->Prop:=Paired λp q=>p.1=q.1 /\ H q.2.1=some (.tup (p.1.map kV)) /\ RelV p.2 q.2.2
def KT.val (r:KT H kvs xs)(k:fk cH):nD (iQ kvs k) ((atKey xs k).map (·.2)):=by
 induction r with
 | nil=>show True.intro
 | @cons p q ps qs h t ih=>
  let⟨h1,_,h2⟩:=h;by_cases e:p.1=k;have e':q.1=k:=h1.symm.trans e;have b:atKey (q::qs) k=some q.2:=by simp[atKey,dw,e']
  rw[rn e,b];show h2;have e':¬q.1=k:=λz=>e (h1.trans z);have b:atKey (q::qs) k=atKey qs k:=by simp[atKey,dw,e']
  rw[rq e,b];show ih
def KT.OQ (r:KT H kvs xs)(k:fk cH)(ry:RelV y u): KT H (kvs.map λkv=>if kv.1=k then(kv.1,y) else kv) (xs.map (putAt k u)):=by
 induction r with
 | nil=>show .nil
 | @cons p q ps qs h t ih=>rw[aI,aI];exact .cons ?_ ih;let⟨h1,h2,h3⟩:=h;unfold putAt;by_cases e:p.1=k;rw[am e,am (h1.symm.trans e)];show#[h1,h2,ry];rw[ai e,ai (λz=>e (h1.trans z))];show#[h1,h2,h3]
def KT.put (r:KT H kvs xs)(k:fk cH)(hb:H b=some (.tup (k.map kV)))(ry:RelV y u): KT H (gQ kvs k y) (storedH xs k b u):=by
 have e:(kvs.any λkv=>decide (kv.1=k))=(atKey xs k).isSome:=by rw[xa,(r.val k).l4,Option.isSome_map]
 unfold gQ storedH;rw[e];by_cases q:(atKey xs k).isSome=true;rw[am q,am q];show r.OQ k ry;rw[ai q,ai q];show Paired.snoc r #[rfl,hb,ry]
theorem KT.keeps (r:KT H kvs xs)(ht: ∀b ys,H b=some (.tup ys) ->H' b=some (.tup ys)):KT H' kvs xs:=Paired.Pr r λ_ _ z=>#[z.1,ht _ _ z.2.1,z.2.2]
theorem Ms (ok:mS P w H h)(e:Rd H a u):fq P w H h a u:=e.ok ok
theorem oP (ok:mS P w H h)(e:Rd H a (.dK kvs)):kvs.length<=sizeLine /\ (a==sysModules)=false /\ ∃vs,KV kvs vs /\ h.DictOf (cQ P w) a vs:=
 show fq P w H h a (.dK kvs) from Ms ok e
theorem yx (ok:mS P w H h)(e:H a=some (.dK kvs)):kvs.length<=sizeLine /\ (a==sysModules)=false /\ ∃vs,KV kvs vs /\ h.DictOf (cQ P w) a vs:=oP ok (.inl e)
def sq (ok:mS P w H h)(e:H a=some (.tup (ks.map kV))):(tupleKind (cQ P w)).is h ks a:=by
 let⟨_,its,r,o,h1,h2,n,h3,_⟩:=(show fq P w H h a (.tup (ks.map kV)) from ok a _ e)
 show#[o,its.toArray,n,h1,h2,h3, ⇑(uF r)]
def uU (ok:mS P w H h)(e:Rd H a (.dT kvs)):kvs.length<=sizeLine /\ (a==sysModules)=false /\∃xs,KT H kvs xs /\ h.DictOfH (tupleKind (cQ P w)) a xs:=by
 let⟨z,y,xs,r,o,es,ep,h1,h2,h3,h4,h5⟩:=(show fq P w H h a (.dT kvs) from Ms ok e)
 exact#[z,y,xs,r,o,es,ep,h1,h2,h3,h4,λx hx=> ?_,h5];have all: ∀ {l:fk (fk cH×V)} {m:fk (fk cH×gY×fm)},KT H l m -> ∀x∈m,(tupleKind (cQ P w)).is h x.1 x.2.1:=by
  intro l m q;induction q with
  | nil=>intro x hx;show nomatch hx
  | @cons p q ps qs hq t ih=>intro x hx;obtain e | hx:=ax.mp hx;subst e;show sq ok (by rw[<- hq.1];show hq.2.1);show ih x hx
 show all r x hx
theorem Ve (ok:mS P w H h)(e:H a=some (.dT kvs)):kvs.length<=sizeLine /\ (a==sysModules)=false /\∃xs,KT H kvs xs /\ h.DictOfH (tupleKind (cQ P w)) a xs:=uU ok (.inl e)
def qP (H:Hp)(a:gY)(y:V)(r:fG V):Prop:=(cO λkvs k=>d_ (Rd H a (.dK kvs)) (y=kV k) (r=iQ kvs k)) \/ im λkvs k b=>fZ (Rd H a (.dT kvs)) (y= .ref b) (H b=some (.tup (k.map kV))) (r=iQ kvs k)
def Is (H:Hp)(a:gY)(y v:V)(H':Hp):Prop:=(cO λkvs k=>fZ (H a=some (.dK kvs)) (y=kV k) (kvs.length<sizeLine) (H'=dy H a (.dK (gQ kvs k v)))) \/im λkvs k b=>j8 (H a=some (.dT kvs)) (y= .ref b) (H b=some (.tup (k.map kV))) (kvs.length<sizeLine) (H'=dy H a (.dT (gQ kvs k v)))
theorem qP.k {k:cH}(e:H a=some (.dK kvs)):qP H a (kV k) (iQ kvs k):= .inl #[kvs,k, .inl e,rfl,rfl]
theorem Is.k {k:cH}(e:H a=some (.dK kvs))(hl:kvs.length<sizeLine):Is H a (kV k) v (dy H a (.dK (gQ kvs k v))):= .inl #[kvs,k,e,rfl,hl,rfl]
def Inv.big {σ:St}(I:Inv X ak σ H s):sysModules<s.heap.objs.size:=by have h:mainGlobals<s.heap.objs.size:=(I.mod.glob.keeps I.bk).lt;show Nat.lt_trans ⋯ h
def D7 {σ:St}(hu:A.units+1<cLine)(I:Inv X ak σ H s)(g:qP H a y (some v))(ry:RelV y u)(h: ∀w' s',Inv X ak σ H s' ->RelV v w' ->Q w' s'): wpAny (model X.prog X.w) A (getItem (.ref a) u) Q E s:=by
 rcases g with⟨kvs,k,e,ey,l⟩ | ⟨kvs,k,b,e,ey,eb,l⟩
 subst ey;let⟨z,hd,vs,rel,dd⟩:=oP I.dM e;let⟨w',hw,vH⟩:=nD.some_of (v:=v) (o:=valueAt vs k) (by rw[l];show rel.val k);show wpAny_getItem_of (ox ry) dd.mapOf hw (h w' _ (I.tok _) vH);subst ey;cases (show u=Value.ref b from ry);let⟨z,hd,xs,rel,dd⟩:=uU I.dM e;let⟨w',hw,vH⟩:=nD.some_of (v:=v) (o:=(atKey xs k).map (·.2)) (by rw[l];show rel.val k);let⟨p,hp,ZD⟩:=Option.map_eq_some_iff.mp hw;exact wpAny_getItem_heap (tupleKind_room_in1 hu) (sq I.dM eb) dd hp ?_;rw[ZD];show h w' _ (I.tok _) vH
def Li {σ:St}(hu:A.units+1<cLine)(I:Inv X ak σ H s)(g:qP H a y o)(ry:RelV y u)(h: ∀s',Inv X ak σ H s' ->Q (.bool (!o.isSome)) s'): wpAny (model X.prog X.w) A (compareOp .NotIn u (.ref a)) Q E s:=by
 rcases g with⟨kvs,k,e,ey,l⟩ | ⟨kvs,k,b,e,ey,eb,l⟩
 subst ey;let⟨z,hd,vs,rel,dd⟩:=oP I.dM e;exact wpAny_notIn_of (ox ry) hd dd.mapOf ?_;rw[<- (rel.val k).l4, <- l];show h _ (I.tok _);subst ey;cases (show u=Value.ref b from ry);let⟨z,hd,xs,rel,dd⟩:=uU I.dM e;exact wpAny_notIn_heap (tupleKind_room_in1 hu) (sq I.dM eb) hd dd ?_;have q:=(rel.val k).l4;rw[Option.isSome_map] at q;rw[<- q, <- l];show h _ (I.tok _)
theorem oQ {σ:St}(I:Inv X ak σ H s)(mu:Vx (H a))(hs:Heap.SameBut a s.heap h')(he: ∃q,h'.get? a=some q)(new:fq X.prog X.w (dy H a ob) h' a ob): Inv X ak σ (dy H a ob) {s with heap:=h',toks:=t'}:=I.write (x:=a) (e:=a) mu (.inl rfl) (λb q hb z=>(hs.2 b hb).trans z) he new
theorem sH (z:kvs.length<=sizeLine)(hd:(a==sysModules)=false)(rel:KV kvs vs)(dd:h'.DictOf (cQ P w) a vs): fq P w H' h' a (.dK kvs):=#[z,hd,vs,rel,dd]
def D0 {σ:St}(hu:A.units+1<cLine)(I:Inv X ak σ H s)(g:Is H a y v H')(ry:RelV y u)(rv:RelV v r)(h: ∀s',Inv X ak σ H' s' ->Q () s'): wpAny (model X.prog X.w) A (setItem (.ref a) u r) Q E s:=by
 rcases g with⟨kvs,k,e,ey,l,eH⟩ | ⟨kvs,k,b,e,ey,eb,l,eH⟩
 subst ey eH;let⟨z,hd,vs,rel,dd⟩:=yx I.dM e;have hz:vs.length<=sizeLine:=by rw[<- rel.length];show z
 have hl:(gQ kvs k v).length<=sizeLine:=by have:=iN kvs k v;lia
 exact wpAny_setItem_pairs (hsz:=hz) (ox ry) dd λh' DZ hs=>h _ ?_;have he: ∃q,h'.get? a=some q:=let ⟨q,_,_,hq,_⟩:=DZ;#[q,hq]
 show oQ I (by rw[e];show True.intro) hs he (sH hl hd (rel.put k rv) DZ);subst ey eH;cases (show u=Value.ref b from ry);let⟨z,hd,xs,rel,dd⟩:=Ve I.dM e;have hz:xs.length<=sizeLine:=by rw[<- Paired.length rel];show z
 have hl:(gQ kvs k v).length<=sizeLine:=by have:=iN kvs k v;lia
 exact wpAny_setItem_heap (hsz:=hz) (tupleKind_room_in1 hu) (sq I.dM eb) dd λh' DZ hs=>h _ ?_;let⟨q,es,ep,hq,h2,h3,h4,_,h5⟩:=DZ;exact oQ I (by rw[e];show True.intro) hs #[q,hq] #[hl,hd,_,(rel.put k eb rv).keeps λc ys ec=> ?_,q,es,ep,hq,h2,h3,h4,h5];rw[bS (TN ec e (λz=>nomatch z))];show ec
def D8 {σ:St}(I:Inv X ak σ H s)(e:H a=some (.dK kvs))(ry:RelV (kV k) u)(l:(iQ kvs k).isSome=true)(h: ∀s',Inv X ak σ (dy H a (.dK (qh kvs k))) s' ->Q () s'): wpAny (model X.prog X.w) A (delItem (.ref a) u) Q E s:=by
 let⟨z,hd,vs,rel,dd⟩:=yx I.dM e;exact wpAny_delItem_slot dd.typeIs ⋯ PySem.F.slot_dict_delitem (call_meetsIn PySem.F.slot_dict_delitem dd.typeIs PySem.F.entry_dict_delitem (PySem.F.args_dict_delitem_2 _ _) (meets_dict_delitem_pairs (cQ X.prog X.w) a (ox ry)) #[vs,dd,by rw[<- rel.length];show z,by rw[<- (rel.val k).l4];show l,λh' DZ hs=>h _ ?_]);have he: ∃q,h'.get? a=some q:=let ⟨q,_,_,hq,_⟩:=DZ;#[q,hq]
 show oQ I (by rw[e];show True.intro) hs he (sH (aT (HH kvs k) z) hd (rel.drop k) DZ)
def Vv (i:Expr):Prop:= ∀ov iv,subscripted i false ov iv=operate [ov,iv] (getItem ov iv)
def Jy {T id:String}(hl:typeLookup (.type T) "__getitem__" =pure (some (.builtin id)))(hs:Vv slice)(h:wpAny (model prog w) A (eval value env) (λo s₁=>wpAny (model prog w) A (eval slice env) (λi s₂=>s₂.TypeIs o T /\ wpAny (model prog w) A (getItem o i) Q E s₂) E s₁) E s): wpAny (model prog w) A (eval (.Subscript value slice pos) env) Q E s:=by
 exact Subscript_ (b_ h (λo s₁ h₁=>b_ h₁ (λi s₂ h₂=> ?_) λ_ _ x=>x) λ_ _ x=>x);let⟨hT,h₂⟩:=h₂;unfold subscriptTail;exact ag ?_;rw[getitemInPython_of_ne hT.not_modules];exact ag (wpAny_specialOf hT hl ?_);have fin:wpAny (model prog w) A (subscripted slice false o i) (λr s₃=>wpAny (model prog w) A (letTemporaryGo value o r >>=λ_=>pure r) Q E s₃) E s₂:=by rw[hs o i];show wpAny_operating (b_ h₂ (λr s₃ h₃=>ag (wpAny_letTemporaryGo (aC h₃))) λ_ _ x=>x)
 first
 | show aC (ag fin)
 | show ag (aC (ag fin))
 | show ag fin
def yz {σ:St}(I:Inv X ak σ H s)(g:qP H a y o):s.TypeIs (.ref a) "dict" :=by
 rcases g with⟨kvs,k,e,_,_⟩ | ⟨kvs,k,b,e,_,_,_⟩
 let⟨_,_,vs,_,dd⟩:=oP I.dM e;show dd.typeIs;let⟨_,_,xs,_,dd⟩:=uU I.dM e;show dd.typeIs
def L8 (td ty:TE):TE:=λσ H Q=>td σ H λx H1=>ty σ H1 λy H2=>cO λa v=>d_ (x= .ref a) (qP H2 a y (some v)) (Q v H2)
def A_ (ty td:TE):TE:=λσ H Q=>ty σ H λy H1=>td σ H1 λx H2=>cO λa o=>d_ (x= .ref a) (qP H2 a y o) (Q (.bl (!o.isSome)) H2)
def Mo (td ty tv:TE):TS:=λD σ H=>tv σ H λv H1=>td σ H1 λx H2=>ty σ H2 λy H3=>cO λa H4=>d_ (x= .ref a) (Is H3 a y v H4) (D.nx σ H4)
def Mq (td ty:TE):TS:=λD σ H=>td σ H λx H1=>ty σ H1 λy H2=>im λa kvs k=>j8 (x= .ref a) (H2 a=some (.dK kvs)) (y=kV k) ((iQ kvs k).isSome=true) (D.nx σ (dy H2 a (.dK (qh kvs k))))
def f9 (hu:X.A.units+1<cLine)(ho:PE X o td)(hi:PE X i ty)(hs:Vv i):PE X (.Subscript o i pos) (L8 td ty):=by intro ak s σ H Q I h;exact Jy PySem.F.slot_dict_getitem.lookup hs (dL (ho ak s σ H _ I h) λu s1 ⟨x,H1,I1,rx,q1⟩=>dL (hi ak s1 σ H1 _ I1 q1) λiv s2 ⟨y,H2,I2,ry,a,v,ex,g,q2⟩=> ?_);subst ex;obtain rfl:u=Value.ref a:=rx;show#[yz I2 g,D7 hu I2 g ry λw' s3 I3 vH=>#[v,H2,I3,vH,q2]]
def Dc (hu:X.A.units+1<cLine)(hi:PE X i ty)(ho:PE X o td):PC X .NotIn i o (A_ ty td):=by intro ak s σ H Q I h;exact dL (hi ak s σ H _ I h) λiv s1 ⟨y,H1,I1,ry,q1⟩=>dL (ho ak s1 σ H1 _ I1 q1) λu s2 ⟨x,H2,I2,rx,a,ov,ex,g,q2⟩=> ?_;subst ex;obtain rfl:u=Value.ref a:=rx;show Li hu I2 g ry λs3 I3=>#[.bl (!ov.isSome),H2,I3,rfl,q2]
def nU (hu:X.A.units+1<cLine)(ho:PE X o td)(hi:PE X i ty)(hv:PE X value tv)(hs:swapsWith value (some (.Subscript o i m_)) pos.line X.env=pure false): PS X (.Assign [.Subscript o i m_] value pos) (Mo td ty tv):=by intro ak s σ H D I h;exact wpAny_Assign_Subscript (dL (hv ak s σ H _ I h) λr s1 ⟨v,H1,I1,rv,q1⟩=>dL (ho ak s1 σ H1 _ I1 q1) λu s2 ⟨x,H2,I2,rx,q2⟩=>dL (hi ak s2 σ H2 _ I2 q2) λiv s3 ⟨y,H3,I3,ry,a,H4,ex,g,q3⟩=> ?_) hs;subst ex;obtain rfl:u=Value.ref a:=rx;show D0 hu I3 g ry rv λs4 I4=>#[σ,H4,I4,q3]
def JR (ho:PE X o td)(hi:PE X i ty):PS X (.Delete [.Subscript o i zl] pos) (Mq td ty):=by intro ak s σ H D I h;exact wpAny_Delete (wpAny_deleteEach_cons (wpAny_delete_Subscript (dL (ho ak s σ H _ I h) λu s1 ⟨x,H1,I1,rx,q1⟩=>dL (hi ak s1 σ H1 _ I1 q1) λiv s2 ⟨y,H2,I2,ry,a,kvs,k,ex,e,ey,l,q2⟩=> ?_)));subst ex ey;obtain rfl:u=Value.ref a:=rx;show D8 I2 e ry l λs3 I3=>wpAny_deleteEach_nil #[σ,_,I3,q2]
theorem yy (h:Heap)(hb:sysModules<h.objs.size):fq P w H (h.push {cls:= .type "dict",data:= .dict #[]}) h.objs.size (.dK []):=#[du _,beq_eq_false_iff_ne.mpr (aW (a4 hb)),[], .nil,Heap.DictOf.new h]
def Fl:TE:=λ_ H Q=> ∀p,H p=none ->Q (.ref p) (dy H p (.dK []))
theorem ju:PE X (.Dict [] [] pos) Fl:=λak s σ H Q I h=>wpAny_Dict_empty #[.ref s.heap.objs.size,_,I.laid (a:=s.heap.objs.size) (o:= .dK []) (t':=s.toks) (λ_ _ q=>aq _ q) (ap _) (yy s.heap I.big),rfl,h _ (I.dM.fresh (ap _))]
def zp:fk (TE×TE) ->St ->Hp ->(fk (V×V) ->Hp ->Prop) ->Prop
 | [],_,H,Q=>Q [] H
 | (tk,tv)::r,σ,H,Q=>tk σ H λx H1=>tv σ H1 λy H2=>zp r σ H2 λps H3=>Q ((x,y)::ps) H3
abbrev VV:fk (V×V) ->fk (fm×fm) ->Prop:=Paired λp q=>RelV p.1 q.1 /\ RelV p.2 q.2
def Xs (X:Cx)(pos:Pos)(keys:fk (fG Expr))(rh:fk Expr)(Jt:fk (TE×TE)):Prop:=∀ (ak:fk (gY×Obj)) (s:fo) (σ:St) (H:Hp) (Q:fk (V×V) ->Hp ->Prop),Inv X ak σ H s ->zp Jt σ H Q ->wpAny (model X.prog X.w) X.A (evalPairs (pairTrees keys rh X.env pos)) (λvs s'=>cO λps H'=>d_ (Inv X ak σ H' s') (VV ps vs) (Q ps H')) X.xe s
theorem JS:Xs X pos [] [] []:=λak s σ H Q I h=>pairTrees_nil_walk #[[],H,I, .nil,h]
theorem FZ (hk:PE X k tk)(hv:PE X v tv)(hr:Xs X pos ks vs Jt): Xs X pos (some k::ks) (v::vs) ((tk,tv)::Jt):=λak s σ H Q I h=>pairTrees_cons_walk (dL (hk ak s σ H _ I h) λu s1 ⟨x,H1,I1,rx,q1⟩=>dL (hv ak s1 σ H1 _ I1 q1) λw2 s2 ⟨y,H2,I2,ry,q2⟩=>dL (hr ak s2 σ H2 _ I2 q2) λws s3 ⟨ps,H3,I3,rel,q3⟩=>#[(x,y)::ps,H3,I3, .cons #[rx,ry] rel,q3])
def lq (kvs more:fk (cH×V)):fk (cH×V):=more.foldl (λf_ kv=>gQ f_ kv.1 kv.2) kvs
def KV.merge: ∀ {more:fk (cH×V)} {rs:fk (cH×fm)} {kvs:fk (cH×V)} {vs:fk (cH×fm)},KV more rs ->KV kvs vs ->KV (lq kvs more) (merged vs rs):=by
 intro more rs kvs vs r;unfold KV at r;induction r generalizing kvs vs with
 | nil=>intro q;show q
 | @cons p q ps qs h t ih=>
  intro r0;have e:KV (gQ kvs p.1 p.2) (stored vs q.1 q.2):=by have:=r0.put p.1 h.2;rw[<- h.1];show this
  show ih e
theorem mG: ∀ (more kvs:fk (cH×V)),(lq kvs more).length<=kvs.length+more.length
 | [],kvs=>by change kvs.length<=kvs.length+0;lia
 | p::r,kvs=>by have h1:=mG r (gQ kvs p.1 p.2);have h2:=iN kvs p.1 p.2;change(lq (gQ kvs p.1 p.2) r).length<=_;rw[aP];lia
theorem sS {P:Program}{w:World}: ∀ {kvs:fk (cH×V)} {ws:fk (fm×fm)},VV (kvs.map λkv=>(kV kv.1,kv.2)) ws -> ∃rs,Carries (cQ P w) ws rs /\ KV kvs rs
 | [],_,r=>by rw[dU] at r;cases r;show#[[],True.intro, .nil]
 | p ::kvs,_,r=>by
  rw[aI] at r;cases r with
  | @cons a b as bs h t=>let⟨rs,c,q⟩:=sS (P:=P) (w:=w) t;let⟨b1,b2⟩:=b;show#[(p.1,b2)::rs,#[ox h.1,rfl,c], .cons #[rfl,h.2] q]
def Fj (Jt:fk (TE×TE)):TE:=λσ H Q=> ∀p,H p=none ->zp Jt σ (dy H p (.dK [])) λps H2=>H2 p=some (.dK []) /\ ∃kvs:fk (cH×V),d_ (ps=kvs.map (λkv=>(kV kv.1,kv.2))) (kvs.length<=15) (Q (.ref p) (dy H2 p (.dK (lq [] kvs))))
def JW (h:Xs X pos keys rh Jt)(wo:keys.all (·.isSome)=true)(hl:keys.length=rh.length)(h0:keys≠ [])(h15:keys.length<=15):PE X (.Dict keys rh pos) (Fj Jt):=by
 intro ak s σ H Q I q;have hn:=I.dM.fresh (ap s.heap.objs.size);have I1:=I.laid (a:=s.heap.objs.size) (o:= .dK []) (h':=s.heap.push {cls:= .type "dict",data:= .dict #[]}) (t':=s.toks) (λ_ _ q=>aq _ q) (ap _) (yy s.heap I.big);exact wpAny_Dict_walk (knd:=cQ X.prog X.w) wo hl h0 h15 (dL (h ak _ σ _ _ I1 (q _ hn)) λws s2 ⟨ps,H2,I2,rel,e,kvs,ep,lk,q2⟩=> ?_);subst ep;let⟨rs,c,rk⟩:=sS (P:=X.prog) (w:=X.w) rel;let⟨z,hd,vs0,r0,dd⟩:=yx I2.dM e;cases r0;exact#[rs,c,dd,λh' DZ hs=>#[.ref s.heap.objs.size,_,?_,rfl,q2]];have hz:(lq [] kvs).length<=sizeLine:=by have h1:=mG kvs [];rw[List.length_nil] at h1;rw[dg];lia
 have he: ∃q,h'.get? s.heap.objs.size=some q:=let ⟨q,_,_,hq,_⟩:=DZ;#[q,hq]
 show oQ I2 (by rw[e];show True.intro) hs he (sH hz hd (rk.merge .nil) DZ)
structure M1 (X:Cx)(o:Expr)(m:Str)(j6:Pos)(e:Expr)(gJ:Pos):Prop where
 base:attributeBase o m X.env (eval o X.env)=eval o X.env
 HB:((backTo gJ (starEach [e] X.env)).all (λx=> !x.1) && (backToKw gJ (keywordEach [] X.env)).all (λx=>x.1.isSome) && decide (([e]:List Expr).length+([]:List Keyword).length+(if([]:List Keyword).isEmpty then 0 else 1) <30))=true
 line:(j6.endLine==gJ.line)=true
 trees:backTo gJ (starEach [e] X.env)= [(false,eval e X.env)]
structure M2 (X:Cx)(o:Expr)(m:Str)(j6:Pos)(e f:Expr)(gJ:Pos):Prop where
 base:attributeBase o m X.env (eval o X.env)=eval o X.env
 HB:((backTo gJ (starEach [e,f] X.env)).all (λx=> !x.1) && (backToKw gJ (keywordEach [] X.env)).all (λx=>x.1.isSome) && decide (([e,f]:List Expr).length+([]:List Keyword).length+(if([]:List Keyword).isEmpty then 0 else 1) <30))=true
 line:(j6.endLine==gJ.line)=true
 trees:backTo gJ (starEach [e,f] X.env)= [(false,eval e X.env),(false,eval f X.env)]
def IsD (H:Hp)(a:gY):Prop:=(∃kvs,Rd H a (.dK kvs)) \/ ∃kvs,Rd H a (.dT kvs)
def vY {σ:St}(I:Inv X ak σ H s)(d:IsD H a): s.TypeIs (.ref a) "dict" /\ (∀b,Value.ref a= .ref b -> ∃ob,s.heap.get? b=some ob /\ ob.dict=none) /\ (a==sysModules)=false:=by
 rcases d with⟨kvs,e⟩ | ⟨kvs,e⟩
 let⟨_,hd,vs,_,dd⟩:=oP I.dM e;exact#[dd.typeIs,λb q=> ?_,hd];cases q;let⟨ob,_,_,h1,h2,_⟩:=dd;show#[ob,h1,h2.2.1];let⟨_,hd,xs,_,dd⟩:=uU I.dM e;exact#[dd.typeIs,λb q=> ?_,hd];cases q;let⟨ob,_,_,h1,h2,_⟩:=dd;show#[ob,h1,h2.2.1]
def QK {σ:St}(hu:A.units+1<cLine)(I:Inv X ak σ H s)(g:qP H a y o)(ry:RelV y u)(rd:RelV d r)(h: ∀w' s',Inv X ak σ H s' ->RelV (o.getD d) w' ->Q w' s'): wpAny (model X.prog X.w) A (call (.builtin "dict.get") [.ref a,u,r]) Q E s:=by
 rcases g with⟨kvs,k,e,ey,l⟩ | ⟨kvs,k,b,e,ey,eb,l⟩
 subst ey;let⟨z,hd,vs,rel,dd⟩:=oP I.dM e;exact call_meetsIn PySem.F.slot_dict_get dd.typeIs PySem.F.entry_dict_get (PySem.F.args_dict_get_3 _ _ _) (meets_dict_get_default (cQ X.prog X.w) a (ox ry) hd r) #[_,dd.mapOf,h _ _ (I.tok _) ?_];rw[l];show(rel.val k).getD rd;subst ey;cases (show u=Value.ref b from ry);let⟨z,hd,xs,rel,dd⟩:=uU I.dM e;exact call_meetsIn PySem.F.slot_dict_get dd.typeIs PySem.F.entry_dict_get (PySem.F.args_dict_get_3 _ _ _) (meetsH_dict_get_default (tupleKind (cQ X.prog X.w)) a b hd r) #[tupleKind_room_in1 hu,k,xs,sq I.dM eb,dd,h _ _ (I.tok _) ?_];rw[l];show(rel.val k).getD rd
def Fm (td ty tx:TE):TE:=λσ H Q=>td σ H λx H1=> ∃a,d_ (x= .ref a) (IsD H1 a) (ty σ H1 λy H2=>tx σ H2 λz H3=> ∃o,qP H3 a y o /\ Q (o.getD z) H3)
def nY (hu:X.A.units+1<cLine)(ho:PE X o td)(he:PE X e ty)(hf:PE X f tx)(m:M2 X o "get" j6 e f gJ):PE X (.Call (.Attribute o "get" j6) [e,f] [] gJ) (Fm td ty tx):=by intro ak s σ H Q I h;exact wpAny_Call_method m.base m.HB m.line PySem.F.plainAttrs_dict PySem.F.slot_dict_get PySem.F.type_dict_get (dL (ho ak s σ H _ I h) λu s1 ⟨x,H1,I1,rx,a,ex,d,q1⟩=> ?_);subst ex;obtain rfl:u=Value.ref a:=rx;let⟨t1,t2,_⟩:=vY I1 d;exact#[t1,t2,?_];rw[m.trees];exact Calls.callWith_builtin rfl (Calls.evalArgs_plain (eg (dL (he ak s1 σ H1 _ I1 q1) λiv s2 ⟨y,H2,I2,ry,q2⟩=>eg (dL (hf ak s2 σ H2 _ I2 q2) λfv s3 ⟨z,H3,I3,rz,ov,g,q3⟩=>Calls.spliced_nil ?_))));show QK hu I3 g ry rz λw' s4 I4 vH=>#[_,H3,I4,vH,q3]
end L2
namespace Att
open PySem PySem.W PySem.Calls PyProof.Rows
def qA: ∀ (ns:fk Int) (vs:fk fm),WellAll P h vs (ns.map WData.int) ->IntsAre vs ns:=by
 intro ns;induction ns with
 | nil=>intro vs w;rw[dU] at w;cases w;show .nil
 | cons n ns ih=>
  intro vs w;rw[aI] at w;cases w with
  | cons a b=>cases a;show .cons _ _ (ih _ b)
def C2 {l:OpenLaw}(hn:l.most=some n)(KO:l.row.toRowW.claim.pre args=true)(Ul:WellAll P h Od args): im λa vs ns=>j8 (Od= [Value.ref a]) (args= [WData.list (ns.map WData.int)]) (h.get? a=some {cls:= .type "list",data:= .seq vs.toArray}) (IntsAre vs ns) (ns.length<=n):=by
 have WZ:WShape.hasAll [] args [.list .int]=true:=(pre_splitW KO).1;have hc:l.pre.holds [] {args:=args}=true:=(pre_splitW KO).2;let⟨d,r,rfl,h1,h2⟩:=hasAllW_cons WZ;obtain rfl:=hasAllW_nil h2;let⟨xs,rfl,h3⟩:=hasW_list h1;let⟨ns,rfl⟩:=items_int h3;have dj:ns.length<=n:=by
  unfold OpenLaw.pre at hc;have h4:(WTm.not (.lt (.lit (.int (n:Int))) (.len (.arg 0)))).holds [] {args:= [.list (ns.map .int)]}=true:=by have h4:=(holds_andW hc).1;rw[hn] at h4;show h4
  have h5:=condW_of h4 (w_not (w_lt w_lit (w_len_list (w_arg rfl))));rw[aa] at h5;exact Nat.le_of_not_lt λq=> ?_;have q':(n:Int) < ((ns.length:Nat):Int):= ∅;first
  | (rw[bH q'] at h5;show absurd h5 ⋯)
  | (simp at h5;lia)
 cases Ul with
 | cons w1 w2=>
  cases w2;cases w1 with
  | list ho wo=>show#[_,_,ns,rfl,rfl,ho,qA ns _ wo,dj]
theorem C9 (l:OpenLaw)(args:fk WData):l.row.toRowW.claim.post args (.bool true) args=true:=postW_of (r:=l.row.toRowW) (X:=(true==true)) (show WShape.has [] (.bool true) .bool=true by first | rfl | decide | simp[WShape.has,WShape.arms,WShape.armsAll]) (show(WTm.eq .res (.lit (.bool true))).value [] {args:=args,res:=some (.bool true),after:=args}=some (.bool (true==true)) from w_eq_bool (w_res rfl) w_lit) rfl
def yN {l:OpenLaw}(hn:l.most=some n)(UW:d.params.defaults= [])(call: ∀ (w:World) (s₀ s₁:fo) (mg mb:Str ->fG fm) (fa:gY) (o:Obj) (pm cd lB:fm) (a:gY) (vs:fk fm) (ns:fk Int),Ground q uB [] XP w s₀ mg mb s₁.heap ->YP w s₁.heap ->s₁.heap.get? fa=some o ->o.data= .func (docDef d.name d.params d.body d.scope pm cd lB) ->s₁.heap.CodeRec cd d.name ->mg d.name=some (.ref fa) ->s₁.heap.get? a=some {cls:= .type "list",data:= .seq vs.toArray} ->IntsAre vs ns ->ns.length<=n ->s₁.gens= #[] ->codeAny (model l.prog w) callerA (.call (.ref fa) #[[.ref a],[]]) (λr s'=>r= .ok (.ret (.bool true)) /\ OldK s₁.heap s'.heap /\ s'.os=s₁.os /\ AllBare s'.gens) s₁): WalkO q uB XP YP l.row.toRowW d [] (λf vs=>PySem.call f vs):=by intro w s₀ s₁ mg mb G Y fa o pm cd lB dV kV ho hd DJ hD ZN hg args Od as KO acy hrd Ul sy;obtain rfl:dV= .none:=Dflts.none hD UW;obtain rfl:kV= .none:=Dflts.noKw hD;let⟨a,vs,ns,rfl,rfl,P_,Hk,dj⟩:=C2 hn KO Ul;exact enter_call (codeAny_mono (call w s₀ s₁ mg mb fa o pm cd lB a vs ns G Y ho (fd_plain hd) DJ ZN P_ Hk dj hg) λr s' hq=> ?_);let⟨rfl,h2,h3,h4⟩:=hq;show#[.inl #[.bool true, .bool true,[],rfl,λ_=>rfl, .bool true,C9 l _,λ_=>#[List.Pairwise.nil,λ_ hm=>(nomatch hm)]],h2,h3,h4]
end Att
namespace L2
open PySem PySem.Spec PyProof.Rows
theorem lM: ∀ {vs:fk fm} {ns:fk Int},IntsAre vs ns ->cV (ns.map V.int) vs
 | _,_, .nil=> .nil
 | _,_, .cons n t h=> .cons #[t,rfl] (lM h)
def QQ (H:Hp):Prop:= ∀b,H b=none \/ ∃o xs,H b=some (.nk o (.lst xs))
def GH {K:Ug}(KX:K.In s₁.heap)(Nj:s₁.heap.Ns mainGlobals mg)(hb:s₁.heap.Ns builtinsNs mb)(RD: ∀x:Str,x≠ "__name__" ->mb x=bootBuiltins x)(ZT:s₁.heap.NoLimit)(hg:s₁.gens= #[])(ha:s₁.heap.get? a=some {cls:= .type "list",data:= .seq vs.toArray})(hi:IntsAre vs ns)(hl:ns.length<=sizeLine)(hr:gR k callerA)(F: ∀base:Heap,K.In base ->base.Ns mainGlobals mg ->dR P w K mg base CX k fa fd [x] sp)(U2: ∀ (s:fo) (u:fm),BindsTo s fd #[[u],[]] [(x,u)])(qW: ∀H:Hp,QQ H ->gS K H a (ns.map V.int) ->sp [.ref a] H (λv _=>v= .bl true) λ_ _ _=>False)(_E: ∀H e s',CX [] H s₁ (λ_ _ _=>False) e s' ->False): codeAny (model P w) callerA (.call (.ref fa) #[[.ref a],[]]) (λr s'=>r= .ok (.ret (.bool true)) /\ OldK s₁.heap s'.heap /\ s'.os=s₁.os /\ AllBare s'.gens) s₁:=by
 have rv:=lM hi;have Y8:=hi.length;have core : ∀H:Hp,QQ H ->gS K H a (ns.map V.int) ->mS P w H s₁.heap ->(∀b,H b≠none ->b=a) ->(H a≠none ->K.lookup a=none) ->codeAny (model P w) callerA (.call (.ref fa) #[[.ref a],[]]) (λr s'=>r= .ok (.ret (.bool true)) /\ OldK s₁.heap s'.heap /\ s'.os=s₁.os /\ AllBare s'.gens) s₁:=by
  intro H hO hS dM hA hK;have CN: ∀ {b:gY} {o:Obj},s₁.heap.get? b=some o ->H b=none ->(we s₁.heap H).get? b=some o:=λe n=>Hl e n;have TM: ∀ {b:gY} {o:Obj} {es:i9 DictEntry} {ep:Nat},s₁.heap.get? b=some o ->o.data= .dict es ep ->H b=none:=λ{b o es ep} e d=>by
   cases q:H b with
   | none=>rfl
   | some u=>have e':b=a:=hA b (by rw[q];simp);subst e';rw[ha] at e;cases e;have d':Data.seq vs.toArray _=Data.dict es ep:=d;cases d'
  have Wx: ∀ {b:gY} {m:Str ->fG fm},s₁.heap.Ns b m ->(we s₁.heap H).Ns b m:=λ{b m} ⟨o,es,ep,e,d,r⟩=>#[o,es,ep,CN e (TM e d),d,r]
  have hKb:K.In (we s₁.heap H):=λb o e=>CN (KX b o e) (by
   cases q:H b with
   | none=>rfl
   | some u=>have e':b=a:=hA b (by rw[q];simp);subst e';rw[hK (by rw[q];simp)] at e;cases e)
  have hM:Mod K mg (we s₁.heap H):=#[hKb,Wx Nj,#[mb,Wx hb,RD],let ⟨mc,h1,h2⟩:=ZT;#[mc,Wx h1,h2]]
  have e0:AQ P w K mg (we s₁.heap H) callerA [] s₁ H:=#[rfl,hM,λb o e=>Ka e,Nat.le_of_eq (DH _ _),trivial,λb hb=>absurd (show b∈([]:fk gY) from hb) (by simp),dM, .of_eq hg]
  exact codeAny_mono ((F _ hKb (Wx Nj)).run callerA [] s₁ H #[[.ref a],[]] [.ref a] [.ref a] _ _ hr e0 (U2 s₁ (.ref a)) (.cons rfl .nil) (qW H hO hS)) λr s' h=> ?_;cases r with
  | error e=>show(_E H e s' h).elim
  | ok fl =>
   cases fl with
   | next=>show False.elim h
   | brk=>show False.elim h
   | cont=>show False.elim h
   | ret u=>
    let⟨v,H',os,bare,un,ZI,r',q⟩:=h;have q':v= .bl true:=q;subst q';obtain rfl:u=Value.bool true:=r';exact#[rfl,OldK.of_keep λb o e=> ?_,os,bare];cases q:H b with
    | none=>show un.keep b o e q (by intro z;show absurd (show b∈([]:fk gY) from z) (by simp)) (by simp)
    | some u=>obtain z | ⟨ob,xs,z⟩:=hO b;rw[q] at z;cases z;have z2:=un.qH b ob _ z;let⟨e1,_⟩:=dM b _ z;let⟨e2,_⟩:=ZI b _ z2;rw[e] at e1;cases e1;show e2
 cases hk:K.lookup a with
 | some o=>have e:=KX a o hk;rw[ha] at e;cases e;exact core (λ_=>none) (λ_=> .inl rfl) (.inr #[_,vs.toArray,_,hk,rfl,rfl,rfl,by rw[aU,Y8];show hl, ⇑rv]) (λb u z=>by have z':(none:fG HO)=some u:=z;cases z') (λb z=>absurd rfl z) λz=>absurd rfl z
 | none=>exact core (λb=>if b=a then some (.nk {cls:= .type "list",data:= .seq vs.toArray} (.lst (ns.map V.int))) else none) (λb=> ?_) (.inl (.inr #[{cls:= .type "list",data:= .seq vs.toArray},am rfl])) (λb u z=> ?_) (λb z=> ?_) λ_=>hk;by_cases hb:b=a;show .inr #[_,_,am hb];show .inl (ai hb);by_cases hb:b=a;have z':=(am hb).symm.trans z;cases z';subst hb;show#[ha,by rw[aa];show hl,vs,_,rv,ha];have z':=(ai hb).symm.trans z;cases z';by_cases hb:b=a;show hb;show absurd (ai hb) z
def Jk {l:W.OpenLaw}{K:Params ->Ug}{CX:World ->Iv}{sp:World ->Sp}(hn:l.most=some n)(Qc:n<=sizeLine)(UW:d.params.defaults= [])(hr:gR k callerA)(hY: ∀ (w:World) (h:Heap),YP w h ->(K w.params).In h)(F : ∀ (w:World) (mg:Str ->fG fm) (fa:gY) (h:Heap),(K w.params).In h ->h.Ns mainGlobals mg ->mg d.name=some (.ref fa) ->∃ fd:FuncData,(∀ (s:fo) (u:fm),BindsTo s fd #[[u],[]] [(x,u)]) /\∀base:Heap,(K w.params).In base ->base.Ns mainGlobals mg ->dR l.prog w (K w.params) mg base (CX w) k fa fd [x] (sp w))(qW: ∀ (w:World) (H:Hp) (a:gY) (ns:fk Int),ns.length<=n ->QQ H ->gS (K w.params) H a (ns.map V.int) ->sp w [.ref a] H (λv _=>v= .bl true) λ_ _ _=>False)(_E: ∀ (w:World) (H:Hp) (s:fo) (e:fm) (s':fo),CX w [] H s (λ_ _ _=>False) e s' ->False): W.WalkO q uB XP YP l.row.toRowW d [] (λf vs=>PySem.call f vs):=by exact Att.yN hn UW λw s₀ s₁ mg mb fa o pm cd lB a vs ns G Y ho hd DJ ZN P_ Hk dj hg=> ?_;have KX:=hY w _ Y;let⟨fd,hb,hF⟩:=F w mg fa _ KX G.T.g ZN;show GH KX G.T.g G.T.b G.T.builtins G.T.nolimit hg P_ Hk (aT dj Qc) hr hF hb (λH hO hS=>qW w H a ns dj hO hS) λH e s'=>_E w H s₁ e s'
def hV (s:Stmt):Arguments:=match s with
 | .FunctionDef _ a _ _ _ _ _ _ _ _=>a
 | _=> {posonlyargs:= [],args:= [],vararg:=none,kwonlyargs:= [],kw_defaults:= [],kwarg:=none,defaults:= []}
def fV (s:Stmt):fk Stmt:=match s with
 | .FunctionDef _ _ b _ _ _ _ _ _ _=>b
 | _=> []
def bn (s:Stmt):Scope:=match s with
 | .FunctionDef _ _ _ _ _ _ sc _ _ _=>sc
 | _=> {kind:= .function,names:= [],isGenerator:=false,isCoroutine:=false}
abbrev iq:Iv:=λ_ _ _ _ _ _=>False
abbrev E0:XK:=λ_ _ _=>False
theorem MA:sX iq X E0:=λ_ _ _ _ _ _ _ h=>h.elim
structure EI (K:PySem.W.Frag)(x qual:Str)(st:Stmt)(f:Addr)(fd:FuncData):Prop where
 ex:Ej λ(oc:Value) (od:Option Addr) (kV lB pm:Value) (an:Option Addr) (cdv ct:Value)=> ∃ (EA:Array (Option Value)),d_ (fd=PySem.W.fnOf x qual (hV st) (fV st) (bn st) .none kV lB pm an cdv ct) (K.lookup f=some #[oc,od, .func fd,EA]) (PySem.W.codeIn K cdv qual=true)
 kp:PySem.W.keepIn K (.ref f)=true
def EI.ok {K:Ug}{st:Stmt}(F:EI K x qual st f fd)(S:jV N ps (bn st))(len: ∀vs H Q E,sp vs H Q E ->vs.length=ps.length)(oG: ∀ (cdv:fm) (A:Around) (outer:fk Env) (s:fo) (H:Hp) (vs:fk V) (Q:VK) (E:XK),gR k (A.deeper (envOfC qual (bn st) s.heap.objs.size f cdv)) ->sp vs H Q E ->∃t,y9 (sL iq P w K mg base N qual (bn st) f cdv A outer s H E).Pf (fV st) t /\ t {nx:=λ_ H'=>Q .fh H',rt:=Q} (start N vs) H):dR P w K mg base iq (k+1) f fd ps sp:=by let⟨oc,od,kV,lB,pm,an,cdv,ct,EA,rfl,lk,DJ⟩:=F.ex;exact Vb lk DJ S len λA outer s H vs Q E hr qW=> ?_;let⟨t,h,q⟩:=oG cdv A outer s H vs Q E hr qW;show#[t,h.Pf,q]
def EI.binds {K:Ug}{st:Stmt}(F:EI K x qual st f fd)(h: ∀ (kV lB pm:fm) (an:fG gY) (cdv ct:fm) (us:fk fm),us.length=ps.length ->bindArgs (W.fnOf x qual (hV st) (fV st) (bn st) .none kV lB pm an cdv ct) #[us,[]]=pure (ps.zip us)):Binds K fd ps []:=by let⟨oc,od,kV,lB,pm,an,cdv,ct,EA,rfl,lk,DJ⟩:=F.ex;show .all (h kV lB pm an cdv ct)
theorem wq {K:Ug}{st:Stmt}{kV lB pm cdv ct:fm}(l:K.lookup f=some #[oc,od, .func (W.fnOf x qual (hV st) (fV st) (bn st) .none kV lB pm an cdv ct),EA])(c:W.codeIn K cdv qual=true)(k:W.keepIn K (.ref f)=true):EI K x qual st f (W.fnOf x qual (hV st) (fV st) (bn st) .none kV lB pm an cdv ct):=#[#[oc,od,kV,lB,pm,an,cdv,ct,EA,rfl,l,c],k]
theorem f' (hr:gR k A):A.units+1<cLine:=Nat.lt_of_le_of_lt (Nat.add_le_add_left (by decide:1<=64) _) hr.units
theorem pv {X:Cx}(i:Nat){pos:Pos}(hN:X.N[i]? =some x:=by rfl)(hv:Xr X.env.scope x:=by first | show Or.inl rfl | show Or.inr (Or.inl rfl) | show Or.inr (Or.inr rfl))(hd:(x==("__debug__" :Str))=false:=by decide)(DJ:(x==("__classdict__" :Str))=false:=by decide):PE X (.Name x pos) (Jx i):=OW hN hv hd DJ
def gk (H H':Hp):Prop:= ∀b o,H b=some o ->H' b=some o
section
variable {κ:Type} [DecidableEq κ]
theorem BL: ∀ {l:fk κ} {k:κ},l.Nodup ->¬k∈l ->(l++ [k]).Nodup
 | [],k,_,_=>by simp
 | a::r,k,h,hk=>by let⟨h1,h2⟩:=bI.mp h;change(a::(r++ [k])).Nodup;exact bI.mpr #[λm=> ?_,BL h2 λm=>hk (ax.mpr (Or.inr m))];obtain q | q:=aA.mp m;show h1 q;show hk (ax.mpr (Or.inl (ah.mp q).symm))
end
def dA {α:Type}{c:α}{l:fk (Str×α)}:((y,c)::l).lookup x=if x=y then some c else l.lookup x:=by by_cases h:x=y;subst h;simp[List.lookup_cons];rw[ai h,List.lookup_cons];have:(x==y)=false:= ⇑h;rw[this]
theorem kJ {env:Env}: ∀ (names:fk (Str×NameKind)) (f_:fk (Str×gY)),(∀y∈names,y.2= .free -> ∃c,env.cells.lookup y.1=some c) ->(∀x c,f_.lookup x=some c ->env.cells.lookup x=some c) ->∃cl,fZ ((forIn names f_ λx s=>if(x.snd==NameKind.free)=true then(do let c <- cellOf env x.fst;pure (ForInStep.yield ((x.fst,c)::s)):Sem _) else pure (ForInStep.yield s))=(pure cl:Sem (fk (Str×gY)))) (∀x c,cl.lookup x=some c ->env.cells.lookup x=some c) (∀x,(f_.lookup x).isSome=true ->(cl.lookup x).isSome=true) (∀y∈names,y.2= .free ->(cl.lookup y.1).isSome=true)
 | [],f_,_,h2=>#[f_,rfl,h2,λ_ h=>h,λ_ h=>absurd h (by simp)]
 | (n, k)::r,f_,h1,h2=>by
  by_cases hk:k=NameKind.free;subst hk;let⟨c,hc⟩:=h1 (n, .free) aL rfl;have Jb: ∀x c',((n,c)::f_).lookup x=some c' ->env.cells.lookup x=some c':=λx c' e=>by rw[dA] at e;by_cases hx:x=n;rw[am hx] at e;cases e;rw[hx];show hc;rw[ai hx] at e;show h2 x c' e
  let⟨cl,e1,e2,e3,e4⟩:=kJ r ((n,c)::f_) (λy hy=>h1 y (av _ hy)) Jb;exact#[cl,?_,e2,λx hx=>e3 x ?_,λy hy hf=> ?_];rw[List.forIn_cons];have:cellOf env n=pure c:=by unfold cellOf;rw[hc]
  simp![beq_self_eq_true,bZ,this,pure_bind];show e1;rw[dA];by_cases gN:x=n;rw[am gN];rfl;rw[ai gN];show hx;obtain rfl | hy:=ax.mp hy;exact e3 n ?_;rw[dA,am rfl];rfl;show e4 y hy hf;let⟨cl,e1,e2,e3,e4⟩:=kJ r f_ (λy hy=>h1 y (av _ hy)) h2;exact#[cl,?_,e2,e3,λy hy hf=> ?_];rw[List.forIn_cons];have:(k==NameKind.free)=false:= ⇑hk;simp![this,aB,bj,pure_bind];show e1;obtain rfl | hy:=ax.mp hy;show absurd hf hk;show e4 y hy hf
def nw (h: ∀y∈scope.names,y.2= .free -> ∃c,env.cells.lookup y.1=some c): ∃cl,d_ (closureFor scope env=pure cl) (∀x c,cl.lookup x=some c ->env.cells.lookup x=some c) (∀y∈scope.names,y.2= .free ->(cl.lookup y.1).isSome=true):=by let⟨cl,e1,e2,_,e4⟩:=kJ scope.names [] h (λ_ _ e=>by simp at e);exact#[cl,?_,e2,e4];simp![closureFor];rw[e1,pure_bind]
theorem jq {env:Env}: ∀ {names:fk (Str×NameKind)} {x:Str} {k:NameKind},(names.map λ(n,k)=>if(k==NameKind.free && env.scope.kind== .function && env.kindOf n==some .cell) then(n,NameKind.cell) else(n,k)).lookup x=some k ->names.lookup x=some k \/ (k= .cell /\ names.lookup x=some .free)
 | [],_,_,h=>by simp at h
 | (n, j)::r,x,k,h=>by
  have ih:= @jq env r x k;rw[aI] at h;by_cases hc:(j==NameKind.free && env.scope.kind== .function && env.kindOf n==some .cell)=true;simp![hc,bZ] at h;rw[dA] at h;rw[dA];by_cases hx:x=n;rw[am hx] at h ⊢;cases h;have hj:j=NameKind.free:=by rw[Bool.and_eq_true,Bool.and_eq_true] at hc;show eq_of_beq hc.1.1
  show .inr #[rfl,by rw[hj]];rw[ai hx] at h ⊢;show ih h;simp![hc,aB,bj] at h;rw[dA] at h;rw[dA];by_cases hx:x=n;rw[am hx] at h ⊢;show .inl h;rw[ai hx] at h ⊢;show ih h
theorem iY {env:Env}: ∀ {names:fk (Str×NameKind)} {x:Str},names.lookup x=some .free ->(names.map λ(n,k)=>if(k==NameKind.free && env.scope.kind== .function && env.kindOf n==some .cell) then(n,NameKind.cell) else(n,k)).lookup x=some .cell \/(names.map λ(n,k)=>if(k==NameKind.free && env.scope.kind== .function && env.kindOf n==some .cell) then(n,NameKind.cell) else(n,k)).lookup x=some .free
 | [],_,h=>by simp at h
 | (n,j)::r,x,h=>by have ih:= @iY env r x;rw[aI];rw[dA] at h;by_cases hc:(j==NameKind.free && env.scope.kind== .function && env.kindOf n==some .cell)=true;simp![hc,bZ];rw[dA];by_cases hx:x=n;rw[am hx];show .inl rfl;rw[ai hx] at h ⊢;show ih h;simp![hc,aB,bj];rw[dA];by_cases hx:x=n;rw[am hx] at h ⊢;cases h;show .inr rfl;rw[ai hx] at h ⊢;show ih h
abbrev cn (X:Cx)(N':fk Str)(scope:Scope)(cl:fk (Str×gY))(fp:fk gY)(s3:fo)(H3:Hp):Cx:={X with N:=N',s₀:=s3,H₀:=H3,env:=compEnvC scope cl s3.heap.objs.size X.env,outer:=X.stack,stack:=X.stack,ex:=fp,fn:=λ_=>false,pn:= [],xe:=λ_ _=>False}
def kT (own:Nat)(fr:fk Nat)(σ:St):St:=List.replicate own none++fr.map λj=>(σ[j]?).join
structure dD (X:Cx)(own:List Str)(fr:List Nat)(N':List Str)(scope:Scope):Prop where
 kind:scope.kind= .function
 names:N'=own++fr.filterMap (λj=>X.N[j]?)
 len:N'.length=own.length+fr.length
 nd:N'.Nodup
 rY: ∀y∈scope.names,y.2≠ .cell
 loc: ∀y∈scope.names,y.2= .local ->scope.names.lookup y.1=some .local
 RI: ∀x∈fr.filterMap (λj=>X.N[j]?),scope.names.lookup x=some .free
 free: ∀y∈scope.names,y.2= .free ->X.env.kindOf y.1=some .cell \/ X.env.kindOf y.1=some .free
theorem oJ {N:fk Str}: ∀ {fr:fk Nat} {k:Nat} {x:Str},(fr.filterMap (λj=>N[j]?)).length=fr.length ->(fr.filterMap (λj=>N[j]?))[k]? =some x -> ∃j,fr[k]? =some j /\ N[j]? =some x
 | [],_,_,_,e=>by simp at e
 | j ::r,k,x,hl,e=>by
  cases hj:N[j]? with
  | none=>rw[List.filterMap_cons,hj] at hl;have:=List.length_filterMap_le (λj=>N[j]?) r;simp![aP] at hl;lia
  | some y=>
   rw[List.filterMap_cons,hj] at hl e;simp![aP,Nat.add_right_cancel_iff] at hl;cases k with
   | zero=>simp at e;show#[j,by simp,by rw[hj,e]]
   | succ k=>show oJ (k:=k) hl ⇑e
def yb {σ:St}{fp:fk gY}(S:dD X own fr N' scope)(I:Inv X ak σ H s)(pd: ∀x c,cl.lookup x=some c ->X.env.cells.lookup x=some c)(qF: ∀y∈scope.names,y.2= .free ->(cl.lookup y.1).isSome=true)(wg: ∀b∈fp,kK X ak H b)(Qk: ∀b∈fp,b<s.heap.objs.size)(Nj:h'.Ns s.heap.objs.size (λ_=>none))(hk: ∀b o,s.heap.get? b=some o ->h'.get? b=some o): Inv (cn X N' scope cl fp s H) [] (kT own.length fr σ) H {s with heap:=h',toks:=t}:=by
 have look: ∀x,(compEnvC scope cl s.heap.objs.size X.env).kindOf x=(relabel scope X.env).names.lookup x:=λ_=>rfl
 have U9:(fr.filterMap (λj=>X.N[j]?)).length=fr.length:=by have:=S.len;rw[S.names,aR] at this;lia
 exact#[#[I.ok.mod,?_,I.ok.glob,I.ok.blt,ap _,λx y c e1 e2=>I.ok.inj x y c (pd _ _ e1) (pd _ _ e2),λx hx=> ?_,(λx c z _=>nomatch z),I.ok.hd,I.ok.frames, .inl rfl,λb hb=>#[?_,λx c e=>(wg b hb).2.2.2.2.1 x c (pd x c e)],I.bs,aT I.ok.Jf I.sz,λb o e hb=> ?_,λb hb hz=> ?_,I.stack,I.Bb],
  rfl,I.bare,Un.kept hk,#[_,Nj,λi x v e1 e2 e3=> ?_],λx c e=> ?_,I.dM.fresh (ap _),λx c e=>I.jC x c (pd x c e),λp hp=>absurd (show p∈([]:fk (gY×Obj)) from hp) (by simp),I.dM.kept hk,?_]
 change(relabel scope X.env).kind=_
 show S.kind
 have gN:scope.names.lookup x=some .free:=by obtain hx | hx:=hx;obtain q | ⟨_,q⟩:=jq hx;show absurd rfl (S.rY _ (eG q));show q;obtain q | ⟨q,_⟩:=jq hx;show q;cases q
 show Option.isSome_iff_exists.mp (qF _ (eG gN) rfl)
 show a4 (Qk b hb)
 obtain z | z:=(wg b hb).2.2.2.1
 show I.ok.Gm b o e z
 show absurd (bY (aH e) (aT I.ok.Jf z)) (bT _)
 obtain q | q:=ax.mp (I.zv b hz)
 show(wg b hb).2.1 q
 show(wg b hb).2.2.1 q
 -- a YX value
 have e1:(own++fr.filterMap (λj=>X.N[j]?))[i]? =some x:=by rw[<- S.names];show e1
 unfold kT at e2
 by_cases hi:i<own.length
 rw[bo ⇑hi,List.getElem?_replicate,am hi] at e2
 cases e2
 rw [a5 ⇑hi,List.length_replicate] at e2
 rw[a5 ⇑hi] at e1
 let⟨j,ej,ex⟩:=oJ U9 e1
 rw[az,ej] at e2
 have e2:(σ[j]?).join=some v:= ⇑e2
 have e2':σ[j]? =some (some v):=by
  cases q:σ[j]? with
  | none=>rw[q] at e2;cases e2
  | some w=>rw[q] at e2;simp at e2;rw[e2]
 have hf:=S.RI x (ar e1)
 have hm:=eG hf
 let⟨m,_,hl⟩:=I.loc
 have vis:Xr X.env.scope x:=by obtain q | q:=S.free _ hm rfl;show .inr (.inl q);show .inr (.inr q)
 let⟨u,r,l⟩:=hl j x v ex e2' vis
 exact#[u,r, .inr #[?_,?_]]
 show iY hf
 rcases l with⟨k,_⟩ | ⟨_,c,ec,z⟩
 obtain q | q:=S.free _ hm rfl
 rw[k] at q;cases q
 rw[k] at q;cases q
 let⟨c',ec'⟩:=Option.isSome_iff_exists.mp (qF _ hm rfl)
 have:=pd _ _ ec'
 rw[ec] at this
 cases this
 show#[c,ec',z.keeps hk]
 let⟨v,z⟩:=I.cell x c (pd x c e)
 show#[v,z.keeps hk]
 change(kT own.length fr σ).length=N'.length
 unfold kT
 rw[aR,List.length_replicate,aa,S.len]
def Ly (X:Cx)(cs:fk Expr)(t:TT):Prop:=∀ (ak:fk (gY×Obj)) (s:fo) (σ:St) (H:Hp) (Q:Bool ->Hp ->Prop),Inv X ak σ H s ->t σ H Q ->wpAny (model X.prog X.w) X.A (forIn cs true λc r=>if r=true then do let ok <- isTrue c X.env (eval c X.env);pure (ForInStep.yield ok) else pure (ForInStep.yield r)) (TP X ak σ Q) X.xe s
def Sy:TT:=λ_ H Q=>Q true H
theorem fB:Ly X [] Sy:=λak s σ H Q I h=>wpAny_tests_nil #[H,I,h]
theorem lS (h:PT X c t):Ly X [c] t:=λak s σ H Q I q=>wpAny_tests_one (h ak s σ H Q I q)
theorem D_ (I:Nat ->fo ->Prop)(turn : ∀n s,I n s ->wpAny (model prog w) A (pyNext it) (λr s₁=>match r with
   | none=>R (.ok .next) s₁
   | some v=>wpAny (model prog w) A (letOwnedTupleGo pq it v) (λ_ s₀=>wpAny (model prog w) A (assign pq env v) (λ_ s₂=>
    wpAny (model prog w) A (forIn ji true λc r=>if r=true then do let ok <- isTrue c env (eval c env);pure (ForInStep.yield ok) else pure (ForInStep.yield r)) (λok s₃=>if ok=true then wpAny (model prog w) A (eval jk env) (λx s₄=>wpAny (model prog w) A (call (.builtin "list.append") [f_,x]) (λ_ s₅=> ∃m,m<n /\ I m s₅) (λ_ _=>False) s₄) (λ_ _=>False) s₃ else ∃m,m<n /\ I m s₃) (λ_ _=>False) s₂)
    (λ_ _=>False) s₀) (λ_ _=>False) s₁) (λ_ _=>False) s)(n:Nat)(h:I n s):codeAny (model prog w) A (.compLoop (.ListComp jk [#[pq,iter,ji,0]] scope pos) 0 it f_ env) R s:=by
 exact codeAny_loop rfl I (λn s hI=> ?_) n h
 change wpAny _ A ((compTurn (.ListComp jk [#[pq,iter,ji,0]] scope pos) 0 it f_ env).onRaise (λx=>do noteFrame x env;theTreesLotGoes x)) _ _ s
 exact wpAny_noted ?_
 rw[compTurn_list]
 exact ag (wpAny_standAt (ag (b_ (turn n s hI) (λr s₁ h₁=> ?_) λ_ _ h'=>h'.elim)))
 cases r with
 | none=>show aC h₁
 | some v=>
  exact ag (b_ h₁ (λ_ s₀ Uj=> ?_) λ_ _ h'=>h'.elim);exact ag (b_ Uj (λ_ s₂ h₂=> ?_) λ_ _ h'=>h'.elim);exact ag (b_ h₂ (λTD s₃ h₃=> ?_) λ_ _ h'=>h'.elim);cases TD with
  | false=>show aC #[rfl,h₃]
  | true=>show ag (ag (b_ h₃ (λx s₄ h₄=>ag (b_ h₄ (λ_ s₅ h₅=>aC (aC #[rfl,h₅])) λ_ _ h'=>h'.elim)) λ_ _ h'=>h'.elim))
def Wk (σ0 σ2:St):Prop:=σ2.length=σ0.length /\ ∀ (i:Nat) v,σ0[i]? =some (some v) ->σ2[i]? =some (some v)
def Iu (own:Nat)(g:TG):Prop:= ∀ (c:St) (v:V) (H:Hp) (Q:St ->Hp ->Prop),g v (List.replicate own none++c) H Q ->g v (List.replicate own none++c) H λσ2 H2=>Wk (List.replicate own none++c) σ2 /\ Q σ2 H2
def dZ:Iu 1 (oI 0):=by
 intro c v H Q h;exact#[#[by simp,λi u e=> ?_],h];cases i with
 | zero=>simp at e
 | succ i=>simpa using e
def kj {K:Ug}:Iu 2 (Qy K 2 (Cb (oI 0) (Cb (oI 1) Qz))):=by
 rintro c v H Q ⟨a,xs,e,hs,hl,x,r,rfl,y,r',rfl,rfl,h⟩;exact#[a,_,e,hs,hl,x,_,rfl,y,_,rfl,rfl,#[by simp,λi u e=> ?_],h];match i with
 | 0=>simp at e
 | 1=>simp at e
 | i+2=>simpa using e
def NS (J:It)(own:Nat)(fr:fk Nat)(g:TG)(tc:TT)(te:TE)(σ:St)(p:gY)(H1:Hp)(Q:VK):Prop:=∃ W :Nat ->Nat ->fk V ->Hp ->Prop,(∃m,W 0 m [] (dy H1 p (.lst []))) /\ ∀i m ys H',W i m ys H' ->H' p=some (.lst ys) /\((J.stop i H' /\ Q (.ref p) H') \/ (J.go i H' /\ ys.length<sizeLine /\ ∀x H2,J.LI i H' x H2 ->g x (kT own fr σ) H2 λσ2 H3=>tc σ2 H3 λb H4=>if b=true then te σ2 H4 λy H5=> ∃zs,H5 p=some (.lst zs) /\ zs.length<sizeLine /\ ∃m',m'<m /\ W (i+1) m' (zs++ [y]) (dy H5 p (.lst (zs++ [y]))) else ∃zs m',m'<m /\ W (i+1) m' zs H4))
def Fp (wi:TI)(own:Nat)(fr:fk Nat)(g:TG)(tc:TT)(te:TE):TE:=λσ H Q=>wi σ H λJ H1=> ∀p,H1 p=none ->NS J own fr g tc te σ p H1 Q
theorem pX {σ:St}{σ':St}(I3:Inv X ak σ H s3)(wg: ∀b∈fp,kK X ak H b)(Ic:Inv (cn X N' scope cl fp s3 H) BE σ' H' s'):Inv X ak σ H' s':=I3.Vi (ch:=fp) Ic.os Ic.base Ic.dM Ic.bare λb hb=>#[(wg b hb).2.2.2.1,(wg b hb).2.1,(wg b hb).2.2.2.2.1,(wg b hb).2.2.2.2.2]
def pW {σ:St}{C:gY}{σ':St}(I3:Inv X ak σ H s3)(hC:C=s3.heap.objs.size)(J:Inv X ak σ' H' s')(hn:H' C=none)(hs:Heap.SameBut C s'.heap h'):Inv X ak σ' H' {s' with heap:=h'}:=by subst hC;exact J.turned (t':=s'.toks) (it:=s3.heap.objs.size) (λb o hb e=>hs.extBut b o hb e) hn (Nat.ne_of_gt I3.lt) (.inr I3.sz) (λx c e z=> ?_) λp hp z=> ?_;let⟨v,q⟩:=I3.cell x c e;show absurd q.lt (by rw[z];show bT _);show absurd (aH (I3.pin p hp).1) (by rw[z];show bT _)
def sQ {σ:St}{RR:fm ->gY ->Result ->fo ->Prop}(kg:X.calm=true)(S:dD X own fr N' scope)(hg: ∀s3 H3,PG (cn X N' scope cl fp s3 H3) tg g)(hw:Iu own.length g)(hc: ∀s3 H3,Ly (cn X N' scope cl fp s3 H3) ji tc)(he: ∀s3 H3,PE (cn X N' scope cl fp s3 H3) jk te)(pd: ∀x c,cl.lookup x=some c ->X.env.cells.lookup x=some c)(qF: ∀y∈scope.names,y.2= .free ->(cl.lookup y.1).isSome=true)(I:Inv X ak σ H s)(T:tS X.prog X.w X.K tg J fp it tn)(st:tn 0 s.heap)(wg: ∀b∈fp,kK X ak H b)(h: ∀p,H p=none ->NS J own.length fr g tc te σ p H Q)(fin: ∀ (s3:fo) (H3:Hp),Inv X ak σ H3 s3 ->(∀b∈fp,kK X ak H3 b) -> ∀ (D:gY) (σ':St) (H':Hp) (s':fo) (t:Nat),D<s3.heap.objs.size ->Inv (cn X N' scope cl fp s3 H3) [] σ' H' s' ->Q (.ref D) H' ->RR (.ref D) s3.heap.objs.size (.ok .next) s'): wpAny (model X.prog X.w) X.A (newList []) (λf_ s₃=>wpAny (model X.prog X.w) X.A (newFunctionEnv scope X.env.globals cl [] X.env.qual none .none (some X.env)) (λHW s₄=>codeAny (model X.prog X.w) X.A (.compStart (.ListComp jk [#[tg,iter,ji,0]] scope pos) 0 (.ref it) f_ {HW with scope:=relabel scope X.env}) (RR f_ HW.locals) s₄) E s₃) E s:=by
 exact eT ?_;have hf:H s.heap.objs.size=none:=I.dM.fresh (ap _);let⟨W,⟨m0,w0⟩,turn⟩:=h _ hf;generalize e3:({s with heap:=s.heap.push {cls:= .type "list",dict:=none,data:= .seq ([]:fk fm).toArray}}:fo)=s3;have OA:s3.heap.objs.size=s.heap.objs.size+1:=by rw[<- e3];show dF ..
 have Yb: ∀b o,s.heap.get? b=some o ->s3.heap.get? b=some o:=λb o e=>by rw[<- e3];show aq _ e
 have I3:Inv X ak σ (dy H s.heap.objs.size (.lst [])) s3:=by rw[<- e3];show I.laid (t':=s.toks) (λb u e=>aq _ e) (ap _) #[du _,[],0, .nil,aQ _ rfl]
 have QA: ∀b∈fp,b<s.heap.objs.size:=λb hb=>by let⟨o,e,_⟩:=T.obj 0 _ st b hb;show aH e
 have Aq: ∀b∈fp,kK X ak (dy H s.heap.objs.size (.lst [])) b:=λb hb=>#[by rw[bS (a4 (QA b hb))];show(wg b hb).1,(wg b hb).2]
 exact wpAny_newFunctionEnv S.rY (by intro y hy;simp at hy) (λh₁ Qa PQ=> ?_) S.kind;have old: ∀b o,s3.heap.get? b=some o ->h₁.get? b=some o:=λb o e=>PQ.extBut b o (a4 (aH e)) (aq _ e);have Ic:=yb (t:=s3.toks+([]:fk (Str×fm)).length) S I3 pd qF Aq (λb hb=>by rw[OA];show dI (QA b hb)) Qa old;have CZ:tn 0 h₁:=T.keep 0 _ _ st λb hb o e=>old b o (Yb b o e);have rG: ∀ {H':Hp},(∀b∈fp,H' b=none) -> ∀b∈fp,kK (cn X N' scope cl fp s3 (dy H s.heap.objs.size (.lst []))) [] H' b:=λhn b hb=>by exact#[hn b hb,?_,?_, .inl hb,λx c e=>(wg b hb).2.2.2.2.1 x c (pd x c e),λp hp=>absurd (show p∈([]:fk (gY×Obj)) from hp) (by simp)];change b≠s3.heap.objs.size;rw[OA];show a4 (dI (QA b hb));show Ic.ok.DV b hb
 have loop:codeAny (model X.prog X.w) X.A (.compLoop (.ListComp jk [#[tg,iter,ji,0]] scope pos) 0 (.ref it) (.ref s.heap.objs.size) (compEnvC scope cl s3.heap.objs.size X.env)) (RR (.ref s.heap.objs.size) s3.heap.objs.size) {s3 with heap:=h₁,toks:=s3.toks+([]:fk (Str×fm)).length}:=by
  exact D_ (λn s'=>im λi ys H'=>fZ (Inv (cn X N' scope cl fp s3 (dy H s.heap.objs.size (.lst []))) [] (kT own.length fr σ) H' s') (tn i s'.heap) (∀b∈fp,H' b=none) (W i n ys H')) ?_ m0 #[0,[],_,Ic,CZ,λb hb=>(Aq b hb).1,w0];rintro n s4 ⟨i,ys,H4,I4,gK,Lc,w4⟩;let⟨DL,alt⟩:=turn i n ys H4 w4;rcases alt with⟨stop,q⟩ | ⟨go,hsz,step⟩
  .exact dL (T.done (cn X N' scope cl fp s3 (dy H s.heap.objs.size (.lst []))) rfl rfl rfl kg i [] s4 _ H4 (λ_ _=>False) I4 (rG Lc) gK stop) λr s5 ⟨hr,I5⟩=> ?_;subst hr;show fin s3 _ I3 Aq _ _ H4 s5 s5.toks (by rw[OA];show cF _) I5 q
  exact dL (T.item (cn X N' scope cl fp s3 (dy H s.heap.objs.size (.lst []))) rfl rfl rfl kg i [] s4 _ H4 (λ_ _=>False) I4 (rG Lc) gK go) λr s5 ⟨u,hr,h5⟩=> ?_;subst hr;exact dL h5 λ_ s6 ⟨x,H6,I6,r6,y6,OD,fr6⟩=> ?_;have I6':=I6.pinned (rG fr6) (T.obj _ _ OD);have Ma:=hw _ x H6 _ (step x H6 y6);exact dL (hg s3 _ _ s6 _ H6 x u _ I6' r6 Ma) λ_ s7 ⟨σ7,H7,I7,wk,q7⟩=> ?_;have again: ∀ {H9:Hp} {s9:fo} {N1:fk V},Inv (cn X N' scope cl fp s3 (dy H s.heap.objs.size (.lst []))) ([]++jr fp s6.heap) σ7 H9 s9 ->(∃m',m'<n /\ W (i+1) m' N1 H9) ->∃m,m<n /\ im λi ys H'=>fZ (Inv (cn X N' scope cl fp s3 (dy H s.heap.objs.size (.lst []))) [] (kT own.length fr σ) H' s9) (tn i s9.heap) (∀b∈fp,H' b=none) (W i m ys H'):=λ{H9 s9 N1} I9 ⟨m',hm,w9⟩=>by exact#[m',hm,i+1,N1,H9,(I9.j9).weak ?_ wk.2,T.keep _ _ _ OD λb hb o e=>(I9.pin (b,o) (aZ _ (aZ _ (gh hb e)))).1,λb hb=> ?_,w9];show wk.1.symm;let⟨o,e,d⟩:=T.obj _ _ OD b hb;show(I9.pin (b,o) (aZ _ (aZ _ (gh hb e)))).2.1
  exact dL (hc s3 _ _ s7 σ7 H7 _ I7 q7) λok s8 ⟨H8,I8,q8⟩=> ?_;cases ok with
  | false=>simp![aB,bj] at q8 ⊢;let⟨zs,q8⟩:=q8;show again I8 q8
  | true=>simp![bZ] at q8 ⊢;exact dL (he s3 _ _ s8 σ7 H8 _ I8 q8) λy s9 ⟨yv,H9,I9,ry,zs,hp9,hz9,q9⟩=> ?_;exact dL (lT _ s9 σ7 H9 (.ref s.heap.objs.size) [yv] (.ref s.heap.objs.size) [y] (λv H'=>H'=dy H9 s.heap.objs.size (.lst (zs++ [yv]))) I9 rfl (.cons ry .nil) #[_,zs,yv,rfl,rfl,hp9,hz9,rfl]) λv Yr ⟨_,RL,I10,_,e10⟩=> ?_;subst e10;show again I10 q9
 show codeAny_compStart_list loop (T.self _ 0 _ _ _ CZ loop)
theorem Cx.Ok.cellsOf (ok:X.Ok)(S:dD X own fr N' scope): ∀y∈scope.names,y.2= .free -> ∃c,X.env.cells.lookup y.1=some c:=λy hy hf=>ok.has y.1 (S.free y hy hf)
def fb (kg:X.calm=true)(S:dD X own fr N' scope)(hi:PI X tg iter wi)(hg: ∀cl fp s3 H3,PG (cn X N' scope cl fp s3 H3) tg g)(hw:Iu own.length g)(hc: ∀cl fp s3 H3,Ly (cn X N' scope cl fp s3 H3) ji tc)(he: ∀cl fp s3 H3,PE (cn X N' scope cl fp s3 H3) jk te)(hs: ∀x,foldedSetIterable iter X.env x=pure x:=by intro _;rfl):PE X (.ListComp jk [#[tg,iter,ji,0]] scope pos) (Fp wi own.length fr g tc te):=by intro ak s σ H Q I h;let⟨cl,yh,pd,qF⟩:=nw (I.ok.cellsOf S);rw[eval_ListComp];exact wpAny_comprehension_free (use:=none) rfl hs yh S.kind S.loc (dL (hi ak s σ H _ I h) λv s1 h1=>dL h1 λRi s2 h2=> ?_);let⟨it,fp,tn,J,H2,e,I2,T,mU,f2,h2⟩:=h2;subst e;exact sQ (RR:=λf_ C=>compPost (model X.prog X.w) X.A X.xe none (EP X ak σ Q) f_ C) kg S (hg cl fp) hw (hc cl fp) (he cl fp) pd qF I2 T mU f2 h2 ?_;intro s3 H3 I3 f3 D σ' H' s' t hD Ic q;let⟨m,hn,_⟩:=Ic.loc;exact#[m,hn,λh' PR=>#[.ref D,H',?_,rfl,q]];show pW I3 rfl (pX I3 f3 Ic) Ic.free PR
def mZ {pos C0 m_:Pos}(kg:X.calm=true)(hN:X.N.Nodup)(hx:X.N[i]? =some x)(hl:Loc X.env.scope x)(S:dD X own fr N' scope)(hi:PI X tg iter wi)(hg: ∀cl fp s3 H3,PG (cn X N' scope cl fp s3 H3) tg g)(hw:Iu own.length g)(hc: ∀cl fp s3 H3,Ly (cn X N' scope cl fp s3 H3) ji tc)(he: ∀cl fp s3 H3,PE (cn X N' scope cl fp s3 H3) jk te)(hsw:swapsWith (.ListComp jk [#[tg,iter,ji,0]] scope pos) (some (.Name x m_)) C0.line X.env=pure true)(hs: ∀x,foldedSetIterable iter X.env x=pure x:=by intro _;rfl)(hf:X.fn x=true \/ X.env.scope.names.lookup x=some .local:=by first | show .inl rfl | show .inr rfl | assumption):PS X (.Assign [.Name x m_] (.ListComp jk [#[tg,iter,ji,0]] scope pos) C0) (Fs (Fp wi own.length fr g tc te) (oI i)):=by
 intro ak s σ H D I h;let⟨cl,yh,pd,qF⟩:=nw (I.ok.cellsOf S);rw[exec_Assign_Name_used _ _ _ _ hsw];exact ag (wpAny_standAt (ag ?_));change wpAny _ X.A (do let _ <- comprehension (.ListComp jk [#[tg,iter,ji,0]] scope pos) scope X.env _ (newList []) false (eval iter X.env) (some (assign (.Name x m_) X.env))) _ _ s;exact ag (dL (wpAny_comprehension_free (use:=some (assign (.Name x m_) X.env)) (Q:=λ_ s'=>SP X ak D .next s') rfl hs yh S.kind S.loc (dL (hi ak s σ H _ I h) λv s1 h1=>dL h1 λRi s2 h2=> ?_)) λ_ s' hq=>aC (aC hq));let⟨it,fp,tn,J,H2,e,I2,T,mU,f2,h2⟩:=h2;subst e;exact sQ (RR:=λf_ C=>compPost (model X.prog X.w) X.A X.xe (some (assign (.Name x m_) X.env)) (λ_ s'=>SP X ak D .next s') f_ C) kg S (hg cl fp) hw (hc cl fp) (he cl fp) pd qF I2 T mU f2 h2 ?_;intro s3 H3 I3 f3 Da σ' H' s' t hD Ic q;let⟨m,hn,_⟩:=Ic.loc;have I5:=pX I3 f3 Ic;change wpAny _ X.A (assign (.Name x m_) X.env (.ref Da)) _ _ s';exact wpAny_assign_Name (uh I5 hN hx hl (show RelV (.ref Da) (.ref Da) from rfl) (λs6 I6 PR=> ?_) hf);let⟨a,sb,ha⟩:=PR;have cD:s3.heap.objs.size≠a:=by obtain rfl | ha:=ha;show Nat.ne_of_gt I3.lt;let⟨v,z⟩:=I3.cell x a ha;show Nat.ne_of_gt z.lt
 exact#[m,hn.sameBut sb cD,λh' Zx=>#[_,H',pW I3 rfl I6 Ic.free Zx,q]]
set_option genInjectivity true in
inductive Dt where
 | fh | bl (b:Bool) | int (i:Int) | str (x:Str) | tup (l:List Dt) | lst (l:List Dt)
mutual
def Rep (K:Ug)(H:Hp):Dt ->V ->Prop
 | .fh,v=>v= .fh
 | .bl b,v=>v= .bl b
 | .int i,v=>v= .int i
 | .str x,v=>v= .str x
 | .tup l,v=>cO λa vs=>d_ (v= .ref a) (jI K H a vs) (io K H l vs)
 | .lst l,v=>cO λa vs=>d_ (v= .ref a) (gS K H a vs) (io K H l vs)
def io (K:Ug)(H:Hp):fk Dt ->fk V ->Prop
 | [],vs=>vs= []
 | d::r,vs=>cO λv t=>d_ (vs=v::t) (Rep K H d v) (io K H r t)
end
mutual
def sF:Dt ->Dt ->Bool
 | .fh, .fh=>true
 | .bl a, .bl b=>a==b
 | .bl a, .int b=>(if a then 1 else 0)==b
 | .int a, .bl b=>a==(if b then 1 else 0)
 | .int a, .int b=>a==b
 | .str a, .str b=>a==b
 | .tup a, .tup b=>wv a b
 | .lst a, .lst b=>wv a b
 | _,_=>false
def wv:fk Dt ->fk Dt ->Bool
 | [],[]=>true
 | x::xs,y::ys=>sF x y && wv xs ys
 | _,_=>false
end
mutual
def uW:Dt ->Nat
 | .tup l=>qI l+1
 | .lst l=>qI l+1
 | _=>0
def qI:fk Dt ->Nat
 | []=>0
 | d::r=>max (uW d) (qI r)
end
theorem io.length {K:Ug}{H:Hp}: ∀ {l:fk Dt} {vs:fk V},io K H l vs ->l.length=vs.length
 | [],_,h=>by simp![io] at h;subst h;rfl
 | d::r,vs,h=>by simp![io] at h;let⟨v,t,rfl,_,h⟩:=h;simp[io.length h]
theorem io.at {K:Ug}{H:Hp}: ∀ {l:fk Dt} {vs:fk V} {j:Nat} {d:Dt},io K H l vs ->l[j]? =some d -> ∃v,vs[j]? =some v /\ Rep K H d v
 | [],_,_,_,_,e=>by simp at e
 | d::r,vs,j,d',h,e=>by
  simp![io] at h;let⟨v,t,rfl,h1,h⟩:=h;cases j with
  | zero=>simp at e;subst e;show#[v,rfl,h1]
  | succ j=>simpa using io.at (j:=j) h ⇑e
theorem oN: ∀ {l:fk Dt} {d:Dt},d∈l ->uW d<=qI l
 | [],_,h=>by simp at h
 | x::r,d,h=>by simp![qI];obtain rfl | h:=ax.mp h;show Nat.le_max_left _ _;show aT (oN h) (Nat.le_max_right _ _)
theorem kG: ∀ (a b:fk Dt),wv a b=((List.range (min a.length b.length)).all (λj=>sF (a.getD j .fh) (b.getD j .fh)) && a.length==b.length)
 | [],[]=>rfl
 | [],y::ys=>by simp[wv]
 | x::xs,[]=>by simp[wv]
 | x::xs,y::ys=>by
  have e:min (x::xs).length (y::ys).length=min xs.length ys.length+1:=by simp![aP];lia
  rw[wv,kG xs ys,e,List.range_succ_eq_map,List.all_cons,List.all_map];have e2:((x::xs).length==(y::ys).length)=(xs.length==ys.length):=by simp
  rw[e2,Bool.and_assoc];rfl
mutual
theorem ki: ∀d:Dt,sF d d=true
 | .fh=>rfl
 | .bl b=>by simp[sF]
 | .int i=>by simp[sF]
 | .str x=>by simp[sF]
 | .tup l=>by simp![sF];show pU l
 | .lst l=>by simp![sF];show pU l
theorem pU: ∀l:fk Dt,wv l l=true
 | []=>rfl
 | x::xs=>by simp![wv,ki x,pU xs,Bool.and_self]
end
def Un.Yl {K:Ug}(h: ∀b xs,Rd H b (.tup xs) ->Rd H' b (.tup xs))(q:jI K H a xs):jI K H' a xs:=by obtain q | q:=q;show .inl (h _ _ q);show .inr q
section
variable {X:Cx}{ak:fk (gY×Obj)}{σ:St}{H:Hp}{s:fo}
mutual
theorem Rep.inj (I:Inv X ak σ H s): ∀ (d e:Dt) (v:V),Rep X.K H d v ->Rep X.K H e v ->d=e
 | .fh,e,v,h1,h2=>by simp![Rep] at h1;subst h1;cases e<;>simp![Rep] at h2<;>first | rfl | (cases h2;done) | (let⟨_,_,q,_⟩:=h2;cases q)
 | .bl b,e,v,h1,h2=>by simp![Rep] at h1;subst h1;cases e<;>simp![Rep] at h2<;>first | (cases h2;rfl) | (cases h2;done) | (let⟨_,_,q,_⟩:=h2;cases q)
 | .int b,e,v,h1,h2=>by simp![Rep] at h1;subst h1;cases e<;>simp![Rep] at h2<;>first | (cases h2;rfl) | (cases h2;done) | (let⟨_,_,q,_⟩:=h2;cases q)
 | .str b,e,v,h1,h2=>by simp![Rep] at h1;subst h1;cases e<;>simp![Rep] at h2<;>first | (cases h2;rfl) | (cases h2;done) | (let⟨_,_,q,_⟩:=h2;cases q)
 | .tup l,e,v,h1,h2=>by
  simp![Rep] at h1;let⟨a,vs,rfl,hs,hr⟩:=h1;cases e<;>simp![Rep] at h2<;>first | (cases h2;done) | skip
  let⟨a',Oc,q,gO,pQ⟩:=h2;cases q;have:=I.pk hs gO;subst this;rw[io.inj I l _ vs hr pQ];let⟨a',Oc,q,gO,pQ⟩:=h2;cases q;let⟨its,_,ht,_⟩:=I.tuple hs;let⟨its',_,hl,_⟩:=I.list gO;show absurd rfl (SeqAt.ne_of_list_tuple (s:=s) hl.isList ht)
 | .lst l,e,v,h1,h2=>by
  simp![Rep] at h1;let⟨a,vs,rfl,hs,hr⟩:=h1;cases e<;>simp![Rep] at h2<;>first | (cases h2;done) | skip
  let⟨a',Oc,q,gO,pQ⟩:=h2;cases q;let⟨its,_,ht,_⟩:=I.tuple gO;let⟨its',_,hl,_⟩:=I.list hs;show absurd rfl (SeqAt.ne_of_list_tuple (s:=s) hl.isList ht);let⟨a',Oc,q,gO,pQ⟩:=h2;cases q;have:=I.list_inj hs gO;subst this;rw[io.inj I l _ vs hr pQ]
theorem io.inj (I:Inv X ak σ H s): ∀ (l m:fk Dt) (vs:fk V),io X.K H l vs ->io X.K H m vs ->l=m
 | [],m,vs,h1,h2=>by
  simp![io] at h1;subst h1;cases m with
  | nil=>rfl
  | cons _ _=>simp![io] at h2;let⟨_,_,q,_⟩:=h2;cases q
 | d ::r,m,vs,h1,h2=>by
  simp![io] at h1;let⟨v,t,rfl,h1,h3⟩:=h1;cases m with
  | nil=>simp![io] at h2;cases h2
  | cons d' r'=>simp![io] at h2;let⟨v',t',q,h4,h5⟩:=h2;cases q;rw[Rep.inj I d d' v h1 h4,io.inj I r r' t h3 h5]
end
def io.items (h:io X.K H l vs)(r:cV vs its)(hj:j<its.length):Rep X.K H (l.getD j .fh) (vs.getD j .fh) /\ RelV (vs.getD j .fh) its[j] /\ l.getD j .fh∈l:=by
 have e1:=h.length;have e2:=r.length;have hl:j<l.length:= ∅;let⟨v,hv,hr⟩:=h.at (ae hl);let⟨u,hu,ru⟩:=r.get hv;have e3:l.getD j .fh=l[j]:=by simp[List.getD,hl]
 have e4:vs.getD j .fh=v:=by simp[List.getD,hv]
 rw[ae hj] at hu;cases hu;rw[e3,e4];show#[hr,ru,cq hl]
theorem ww (I:Inv X ak σ H s): ∀ (n:Nat) (A:Around) (d e:Dt) (x y:V) (u v:fm),uW d<=n ->A.units+n<cLine ->Rep X.K H d x ->Rep X.K H e y ->RelV x u ->RelV y v ->SeqAt.EqAt A s u v (sF d e)
 | n, A, .tup l, .tup m,x,y,u,v,hn,hu,h1,h2,r1,r2=>by
  have Qx:=h1;have Jb:=h2;simp![Rep] at h1 h2;let⟨a,vs,rfl,hs,hr⟩:=h1;let⟨b,ws,rfl,gO,pQ⟩:=h2;cases r1;cases r2;by_cases Hv:a=b;subst Hv;rw[Rep.inj I _ _ _ Qx Jb,ki];show SeqAt.EqAt.same _;let⟨its,rv,ht,_⟩:=I.tuple hs;let⟨its',zB,o_,_⟩:=I.tuple gO;exact SeqAt.EqAt.of_refs Hv ?_;simp![sF];simp![uW] at hn;match n,hn with
  | n +1,hn=>
   have z:=SeqAt.RcAt.tuples (A:=A) (s:=s) (e:=λj=>sF (l.getD j .fh) (m.getD j .fh)) ht o_ ∅ λj g1 g2=>by let⟨q1,q2,q3⟩:=hr.items rv (j:=j) ⇑g1;let⟨q4,q5,q6⟩:=pQ.items zB (j:=j) ⇑g2;exact ww I n A.in1 _ _ _ _ _ _ ?_ ?_ q1 q4 ⇑q2 ⇑q5;have:=oN q3;lia;change A.units+1+n<cLine;lia
   rw[kG,hr.length,pQ.length,rv.length,zB.length];simpa using z
 | n, A, .lst l, .lst m,x,y,u,v,hn,hu,h1,h2,r1,r2=>by
  have Qx:=h1;have Jb:=h2;simp![Rep] at h1 h2;let⟨a,vs,rfl,hs,hr⟩:=h1;let⟨b,ws,rfl,gO,pQ⟩:=h2;cases r1;cases r2;by_cases Hv:a=b;subst Hv;rw[Rep.inj I _ _ _ Qx Jb,ki];show SeqAt.EqAt.same _;let⟨its,rv,ht,_⟩:=I.list hs;let⟨its',zB,o_,_⟩:=I.list gO;exact SeqAt.EqAt.of_refs Hv ?_;simp![sF];simp![uW] at hn;by_cases hl:its.length=its'.length;match n,hn with
  | n +1,hn=>
   have z:=SeqAt.RcAt.lists (A:=A) (s:=s) (e:=λj=>sF (l.getD j .fh) (m.getD j .fh)) ht.isList o_.isList ⇑hl ∅ λj g1 g2=>by let⟨q1,q2,q3⟩:=hr.items rv (j:=j) ⇑g1;let⟨q4,q5,q6⟩:=pQ.items zB (j:=j) ⇑g2;exact ww I n A.in1 _ _ _ _ _ _ ?_ ?_ q1 q4 ⇑q2 ⇑q5;have:=oN q3;lia;change A.units+1+n<cLine;lia
   rw[kG,hr.length,pQ.length,rv.length,zB.length,hl];simpa [hl] using z
  have z:=SeqAt.RcAt.lists_lengths (A:=A) (s:=s) ht.isList o_.isList ⇑hl ∅;have hf:(its.length==its'.length)=false:= ⇑hl;rw[kG,hr.length,pQ.length,rv.length,zB.length,hf,Bool.and_false];show z
 | n,A, .tup l, .lst m,x,y,u,v,hn,hu,h1,h2,r1,r2=>by simp![Rep] at h1 h2;let⟨a,vs,rfl,hs,hr⟩:=h1;let⟨b,ws,rfl,gO,pQ⟩:=h2;cases r1;cases r2;let⟨its,rv,ht,_⟩:=I.tuple hs;let⟨its',zB,o_,_⟩:=I.list gO;show SeqAt.EqAt.tuple_list ht o_.isList ∅
 | n,A, .lst l, .tup m,x,y,u,v,hn,hu,h1,h2,r1,r2=>by simp![Rep] at h1 h2;let⟨a,vs,rfl,hs,hr⟩:=h1;let⟨b,ws,rfl,gO,pQ⟩:=h2;cases r1;cases r2;let⟨its,rv,ht,_⟩:=I.list hs;let⟨its',zB,o_,_⟩:=I.tuple gO;show SeqAt.EqAt.list_tuple ht.isList o_ ∅
 | n,A, .tup l, .fh,x,y,u,v,hn,hu,h1,h2,r1,r2=>by simp![Rep] at h1 h2;let⟨a,vs,rfl,hs,hr⟩:=h1;subst h2;cases r1;cases r2;let⟨its,rv,ht,_⟩:=I.tuple hs;show SeqAt.EqAt.tuple_none ht ∅
 | n,A, .tup l, .bl b,x,y,u,v,hn,hu,h1,h2,r1,r2=>by simp![Rep] at h1 h2;let⟨a,vs,rfl,hs,hr⟩:=h1;subst h2;cases r1;cases r2;let⟨its,rv,ht,_⟩:=I.tuple hs;show SeqAt.EqAt.tuple_bool b ht ∅
 | n,A, .tup l, .int b,x,y,u,v,hn,hu,h1,h2,r1,r2=>by simp![Rep] at h1 h2;let⟨a,vs,rfl,hs,hr⟩:=h1;subst h2;cases r1;let⟨t,rfl⟩:=r2;let⟨its,rv,ht,_⟩:=I.tuple hs;show SeqAt.EqAt.tuple_int b t ht ∅
 | n,A, .tup l, .str b,x,y,u,v,hn,hu,h1,h2,r1,r2=>by simp![Rep] at h1 h2;let⟨a,vs,rfl,hs,hr⟩:=h1;subst h2;cases r1;let⟨t,rfl⟩:=r2;let⟨its,rv,ht,_⟩:=I.tuple hs;show SeqAt.EqAt.tuple_str b t ht ∅
 | n,A, .lst l, .fh,x,y,u,v,hn,hu,h1,h2,r1,r2=>by simp![Rep] at h1 h2;let⟨a,vs,rfl,hs,hr⟩:=h1;subst h2;cases r1;cases r2;let⟨its,rv,ht,_⟩:=I.list hs;show SeqAt.EqAt.list_none ht.isList ∅
 | n,A, .lst l, .bl b,x,y,u,v,hn,hu,h1,h2,r1,r2=>by simp![Rep] at h1 h2;let⟨a,vs,rfl,hs,hr⟩:=h1;subst h2;cases r1;cases r2;let⟨its,rv,ht,_⟩:=I.list hs;show SeqAt.EqAt.list_bool b ht.isList ∅
 | n,A, .lst l, .int b,x,y,u,v,hn,hu,h1,h2,r1,r2=>by simp![Rep] at h1 h2;let⟨a,vs,rfl,hs,hr⟩:=h1;subst h2;cases r1;let⟨t,rfl⟩:=r2;let⟨its,rv,ht,_⟩:=I.list hs;show SeqAt.EqAt.list_int b t ht.isList ∅
 | n,A, .lst l, .str b,x,y,u,v,hn,hu,h1,h2,r1,r2=>by simp![Rep] at h1 h2;let⟨a,vs,rfl,hs,hr⟩:=h1;subst h2;cases r1;let⟨t,rfl⟩:=r2;let⟨its,rv,ht,_⟩:=I.list hs;show SeqAt.EqAt.list_str b t ht.isList ∅
 | n,A, .fh, .tup l,x,y,u,v,hn,hu,h1,h2,r1,r2=>by simp![Rep] at h1 h2;let⟨a,vs,rfl,hs,hr⟩:=h2;subst h1;cases r2;cases r1;let⟨its,rv,ht,_⟩:=I.tuple hs;show SeqAt.EqAt.none_tuple ht ∅
 | n,A, .bl b, .tup l,x,y,u,v,hn,hu,h1,h2,r1,r2=>by simp![Rep] at h1 h2;let⟨a,vs,rfl,hs,hr⟩:=h2;subst h1;cases r2;cases r1;let⟨its,rv,ht,_⟩:=I.tuple hs;show SeqAt.EqAt.bool_tuple b ht ∅
 | n,A, .int b, .tup l,x,y,u,v,hn,hu,h1,h2,r1,r2=>by simp![Rep] at h1 h2;let⟨a,vs,rfl,hs,hr⟩:=h2;subst h1;cases r2;let⟨t,rfl⟩:=r1;let⟨its,rv,ht,_⟩:=I.tuple hs;show SeqAt.EqAt.int_tuple b t ht ∅
 | n,A, .str b, .tup l,x,y,u,v,hn,hu,h1,h2,r1,r2=>by simp![Rep] at h1 h2;let⟨a,vs,rfl,hs,hr⟩:=h2;subst h1;cases r2;let⟨t,rfl⟩:=r1;let⟨its,rv,ht,_⟩:=I.tuple hs;show SeqAt.EqAt.str_tuple b t ht ∅
 | n,A, .fh, .lst l,x,y,u,v,hn,hu,h1,h2,r1,r2=>by simp![Rep] at h1 h2;let⟨a,vs,rfl,hs,hr⟩:=h2;subst h1;cases r2;cases r1;let⟨its,rv,ht,_⟩:=I.list hs;show SeqAt.EqAt.none_list ht.isList ∅
 | n,A, .bl b, .lst l,x,y,u,v,hn,hu,h1,h2,r1,r2=>by simp![Rep] at h1 h2;let⟨a,vs,rfl,hs,hr⟩:=h2;subst h1;cases r2;cases r1;let⟨its,rv,ht,_⟩:=I.list hs;show SeqAt.EqAt.bool_list b ht.isList ∅
 | n,A, .int b, .lst l,x,y,u,v,hn,hu,h1,h2,r1,r2=>by simp![Rep] at h1 h2;let⟨a,vs,rfl,hs,hr⟩:=h2;subst h1;cases r2;let⟨t,rfl⟩:=r1;let⟨its,rv,ht,_⟩:=I.list hs;show SeqAt.EqAt.int_list b t ht.isList ∅
 | n,A, .str b, .lst l,x,y,u,v,hn,hu,h1,h2,r1,r2=>by simp![Rep] at h1 h2;let⟨a,vs,rfl,hs,hr⟩:=h2;subst h1;cases r2;let⟨t,rfl⟩:=r1;let⟨its,rv,ht,_⟩:=I.list hs;show SeqAt.EqAt.str_list b t ht.isList ∅
 | n,A, .fh, .fh,x,y,u,v,hn,hu,h1,h2,r1,r2=>by simp![Rep] at h1 h2;subst h1 h2;show gy r1 r2 rfl rfl
 | n,A, .fh, .bl b,x,y,u,v,hn,hu,h1,h2,r1,r2=>by simp![Rep] at h1 h2;subst h1 h2;show gy r1 r2 rfl rfl
 | n,A, .fh, .int b,x,y,u,v,hn,hu,h1,h2,r1,r2=>by simp![Rep] at h1 h2;subst h1 h2;show gy r1 r2 rfl rfl
 | n,A, .fh, .str b,x,y,u,v,hn,hu,h1,h2,r1,r2=>by simp![Rep] at h1 h2;subst h1 h2;show gy r1 r2 rfl rfl
 | n,A, .bl a, .fh,x,y,u,v,hn,hu,h1,h2,r1,r2=>by simp![Rep] at h1 h2;subst h1 h2;show gy r1 r2 rfl rfl
 | n,A, .bl a, .bl b,x,y,u,v,hn,hu,h1,h2,r1,r2=>by simp![Rep] at h1 h2;subst h1 h2;show gy r1 r2 rfl rfl
 | n,A, .bl a, .int b,x,y,u,v,hn,hu,h1,h2,r1,r2=>by simp![Rep] at h1 h2;subst h1 h2;show gy r1 r2 rfl rfl
 | n,A, .bl a, .str b,x,y,u,v,hn,hu,h1,h2,r1,r2=>by simp![Rep] at h1 h2;subst h1 h2;show gy r1 r2 rfl rfl
 | n,A, .int a, .fh,x,y,u,v,hn,hu,h1,h2,r1,r2=>by simp![Rep] at h1 h2;subst h1 h2;show gy r1 r2 rfl rfl
 | n,A, .int a, .bl b,x,y,u,v,hn,hu,h1,h2,r1,r2=>by simp![Rep] at h1 h2;subst h1 h2;show gy r1 r2 rfl rfl
 | n,A, .int a, .int b,x,y,u,v,hn,hu,h1,h2,r1,r2=>by simp![Rep] at h1 h2;subst h1 h2;show gy r1 r2 rfl rfl
 | n,A, .int a, .str b,x,y,u,v,hn,hu,h1,h2,r1,r2=>by simp![Rep] at h1 h2;subst h1 h2;show gy r1 r2 rfl rfl
 | n,A, .str a, .fh,x,y,u,v,hn,hu,h1,h2,r1,r2=>by simp![Rep] at h1 h2;subst h1 h2;show gy r1 r2 rfl rfl
 | n,A, .str a, .bl b,x,y,u,v,hn,hu,h1,h2,r1,r2=>by simp![Rep] at h1 h2;subst h1 h2;show gy r1 r2 rfl rfl
 | n,A, .str a, .int b,x,y,u,v,hn,hu,h1,h2,r1,r2=>by simp![Rep] at h1 h2;subst h1 h2;show gy r1 r2 rfl rfl
 | n,A, .str a, .str b,x,y,u,v,hn,hu,h1,h2,r1,r2=>by simp![Rep] at h1 h2;subst h1 h2;show gy r1 r2 rfl rfl
end
end L2
namespace L2
open PySem PySem.Spec PyProof.Rows
def ab4:Dt ->Bool
 | .tup _=>true
 | .lst _=>true
 | _=>false
def lP:Dt ->Dt ->Bool
 | .tup _, .tup _=>true
 | .lst _, .lst _=>true
 | _,_=>false
def S' {σ:St}(I:Inv X ak σ H s)(hs:lP d e=true)(hn:uW d<=50)(hu:A.units+60<cLine)(h1:Rep X.K H d x)(h2:Rep X.K H e y)(r1:RelV x u)(r2:RelV y v): SeqAt.RcAt A s u v (sF d e) /\ SeqAt.RcNeAt A s u v (!sF d e):=by
 cases d with
 | tup l=>
  cases e with
  | tup m=>
   simp![Rep] at h1 h2;let⟨a,vs,rfl,hs,hr⟩:=h1;let⟨b,ws,rfl,gO,pQ⟩:=h2;cases r1;cases r2;let⟨its,rv,ht,_⟩:=I.tuple hs;let⟨its',zB,o_,_⟩:=I.tuple gO;simp![sF];simp![uW] at hn;have he: ∀j (g1:j<its.toArray.size) (g2:j<its'.toArray.size),SeqAt.EqAt A.in1 s its.toArray[j] its'.toArray[j] ((λj=>sF (l.getD j .fh) (m.getD j .fh)) j):=λj g1 g2=>by let⟨q1,q2,q3⟩:=hr.items rv (j:=j) ⇑g1;let⟨q4,q5,q6⟩:=pQ.items zB (j:=j) ⇑g2;exact ww I 50 A.in1 _ _ _ _ _ _ ?_ ?_ q1 q4 ⇑q2 ⇑q5;have:=oN q3;lia;change A.units+1+50<cLine;lia
   have z:=SeqAt.RcAt.tuples (A:=A) (s:=s) ht o_ ∅ he;have z':=SeqAt.RcNeAt.tuples (A:=A) (s:=s) ht o_ ∅ he;rw[kG,hr.length,pQ.length,rv.length,zB.length];show#[⇑z, ⇑z']
  | _=>cases hs
 | lst l =>
  cases e with
  | lst m=>
   simp![Rep] at h1 h2;let⟨a,vs,rfl,hs,hr⟩:=h1;let⟨b,ws,rfl,gO,pQ⟩:=h2;cases r1;cases r2;let⟨its,rv,ht,_⟩:=I.list hs;let⟨its',zB,o_,_⟩:=I.list gO;simp![sF];simp![uW] at hn;by_cases hl:its.length=its'.length;have he: ∀j (g1:j<its.toArray.size) (g2:j<its'.toArray.size),SeqAt.EqAt A.in1 s its.toArray[j] its'.toArray[j] ((λj=>sF (l.getD j .fh) (m.getD j .fh)) j):=λj g1 g2=>by let⟨q1,q2,q3⟩:=hr.items rv (j:=j) ⇑g1;let⟨q4,q5,q6⟩:=pQ.items zB (j:=j) ⇑g2;exact ww I 50 A.in1 _ _ _ _ _ _ ?_ ?_ q1 q4 ⇑q2 ⇑q5;have:=oN q3;lia;change A.units+1+50<cLine;lia
   have z:=SeqAt.RcAt.lists (A:=A) (s:=s) ht.isList o_.isList ⇑hl ∅ he;have z':=SeqAt.RcNeAt.lists (A:=A) (s:=s) ht.isList o_.isList ⇑hl ∅ he;rw[kG,hr.length,pQ.length,rv.length,zB.length,hl];show#[by simpa [hl] using z,by simpa [hl] using z'];have z:=SeqAt.RcAt.lists_lengths (A:=A) (s:=s) ht.isList o_.isList ⇑hl ∅;have z':=SeqAt.RcNeAt.lists_lengths (A:=A) (s:=s) ht.isList o_.isList ⇑hl ∅;have hf:(its.length==its'.length)=false:= ⇑hl;rw[kG,hr.length,pQ.length,rv.length,zB.length,hf,Bool.and_false];show#[z,z']
  | _=>cases hs
 | _=>cases hs
def JN (K:Ug):R2:=λx y H Q=>cO λd e=>j8 (lP d e=true) (uW d<=50) (Rep K H d x) (Rep K H e y) (Q (.bl (sF d e)) H)
def Ta (K:Ug):R2:=λx y H Q=>cO λd e=>j8 (lP d e=true) (uW d<=50) (Rep K H d x) (Rep K H e y) (Q (.bl (!sF d e)) H)
def zL (hu:X.A.units+60<cLine):pi X (compareOp .Eq) (JN X.K):=by intro ak s σ H x y v u Q I r1 r2 h;let⟨d,e,h0,hn,h1,h2,q⟩:=h;show(S' I h0 hn hu h1 h2 r1 r2).1 X.prog X.w X.xe _ #[.bl _,H,I,rfl,q]
def zK (hu:X.A.units+60<cLine):pi X (compareOp .NotEq) (Ta X.K):=by intro ak s σ H x y v u Q I r1 r2 h;let⟨d,e,h0,hn,h1,h2,q⟩:=h;show(S' I h0 hn hu h1 h2 r1 r2).2 X.prog X.w X.xe _ #[.bl _,H,I,rfl,q]
def gR.Q6 (r:gR k A):A.units+60<cLine:=by have:=r.units;lia
theorem oz: ∀ {ns:fk Int} {us:fk fm},cV (ns.map V.int) us ->IntsAre us ns
 | [],_,h=>by cases h;show .nil
 | n ::r,_,h=>by
  cases h with
  | cons h1 h2=>let⟨t,rfl⟩:=h1;show .cons n t (oz h2)
theorem B7: ∀ {ks:fk Int} {vs:fk fm},vs.length=ks.length ->(∀ (j:Nat) (v:fm),vs[j]? =some v ->cO λ(k:Int) (t:Tok)=>ks[j]? =some k /\ v= .int k t) ->IntsAre vs ks
 | [],[],_,_=> .nil
 | [],_::_,h,_=>by simp at h
 | _::_,[],h,_=>by simp at h
 | k::ks,v::vs,h,hv=>by let⟨k',t,e1,e2⟩:=hv 0 v rfl;simp at e1;subst e1 e2;show .cons k t (B7 ⇑h λj u e=> ⇑(hv (j+1) u ⇑e))
def xC:fk V ->Hp ->VK ->Prop:=λxs H Q=>im λ(d:gY) (kvs:fk (cH×V)) (ks:fk Int)=>j8 (xs= [.ref d]) (H d=some (.dK kvs)) (kvs.map (·.1)=ks.map Sum.inl) (ks.length<=sizeLine) (∀ (p:gY) (ns:fk Int),H p=none ->ns.Perm ks ->ns.Pairwise (· <= ·) ->Q (.ref p) (dy H p (.lst (ns.map V.int))))
def gv (hc:X.calm=true):gF X (.builtin "sorted") xC:=by
 intro ak s σ H xs us Q I r h;let⟨d,kvs,ks,rfl,hd,hk,U6,q⟩:=h;let⟨u,rfl,ru⟩:=vals1 r;cases ru;have hh:X.A.in1.handled=none:=I.ok.hd hc;let⟨hz,lo,vs,rel,dd⟩:=yx I.dM hd;let⟨ep,kY⟩:=dd.dictAt;have dj:vs.length=ks.length:=by have e1:=congrArg List.length hk;rw[aa,aa] at e1;rw[<- rel.length,e1]
 exact Calls.call_function_entry kind_sorted plain_sorted entry_sorted (args_sorted1 _) ?_;unfold Builtin.«sorted»;exact ag (m:=checkCount "sorted" 1 1 _) (aC ?_);exact ag (W.kdu_collect (A:=X.A.in1) (W.kdl_dict (knd:=cQ X.prog X.w) (kvs:=vs) (ep:=ep) lo) hh kY (by rw[<- rel.length];show hz) λh' tk f_ Hh DL=> ?_);have hl:f_.toList.length=ks.length:=by rw[c_,DL.1,dj]
 have hI:IntsAre f_.toList ks:=B7 hl λj v e=>by
  let⟨k,x,hx,UO⟩:=DL.2 j v (by rw[<- Array.getElem?_toList];show e);have UM:(kvs.map (·.1))[j]? =some k:=by
   have:(vs.map (·.1))[j]? =some k:=by rw[az,hx];rfl
   rw[<- rel.keys] at this;show this
  rw[hk,az] at UM;cases e2:ks[j]? with
  | none=>rw[e2] at UM;cases UM
  | some n=>
   rw[e2] at UM;cases UM;have ZY:ou (Sum.inl n) v=true:=UO;rcases eN ZY with⟨i,t,e3,e4⟩ | ⟨x,t,e3,e4⟩
   cases e3;show#[n,t,rfl,e4];cases e3
 exact ag (wpAny_newList ?_ (by rw[hl];show U6));have ho:(h'.push (seqObj "list" f_.toList.toArray 0)).get? h'.objs.size=some (seqObj "list" f_.toList.toArray 0):=aQ _ rfl;exact ag (d6 (wpAny_call_entry slot_list_sort #[_,ho,rfl] entry_list_sort (TS.ui (s:= {s with heap:=h'.push (seqObj "list" f_.toList.toArray 0),toks:=tk}) ho hI (by rw[hl];show U6) λout Kb a1 a2 a3=>#[_,rfl,?_]) (args_list_sort _)));let⟨ee,Hu⟩:=sortedHeap_at (out:=out) ho;have I':Inv X ak σ H {s with heap:=h',toks:=tk}:=I.kept (t':=tk) Hh;exact aC #[_,rfl, .ref h'.objs.size,_,I'.laid (t':=tk) (o:= .lst (Kb.map V.int)) (λb o hb=> ?_) (ap _) ?_,rfl,q _ Kb (I'.dM.fresh (ap _)) a2 a3];have fU:b<h'.objs.size:=aH hb;rw[sortedHeap_old (a4 fU) (by rw[dF];show dI fU)];show aq _ hb;exact#[?_,out.toList,ee,lM a1, ⇑Hu];rw[aa,a2.length_eq];show U6
def dD.of {X:Cx}{sc scope:Scope}{N own N':fk Str}{fr:fk Nat}(hsc:X.env.scope=sc:=by show rfl)(hN:X.N=N:=by show rfl)(kind:scope.kind= .function:=by show rfl)(names:N'=own++fr.filterMap (λj=>N[j]?):=by decide+kernel)(len:N'.length=own.length+fr.length:=by show rfl)(nd:N'.Nodup:=by decide+kernel) (rY: ∀y∈scope.names,y.2≠ .cell:=by decide+kernel) (loc: ∀y∈scope.names,y.2= .local ->scope.names.lookup y.1=some .local:=by decide+kernel) (RI: ∀x∈fr.filterMap (λj=>N[j]?),scope.names.lookup x=some .free:=by decide+kernel) (free: ∀y∈scope.names,y.2= .free ->sc.names.lookup y.1=some .cell \/ sc.names.lookup y.1=some .free:=by decide+kernel):dD X own fr N' scope:=by subst hN hsc;show#[kind,names,len,nd,rY,loc,RI,free]
structure jU (K:PySem.W.Frag)(mg:Str ->Option Value)(x:Str)(ps:List Str)(st:Stmt)(f:Addr)(fd:FuncData):Prop where
 at_:mg x=some (.ref f)
 fn:EI K x x st f fd
 bd:Binds K fd ps []
theorem aM {st:Stmt}{p pos:Pos}(C:jU X.K X.mg x ps st f fd)(F:dR X.prog X.w X.K X.mg X.base iq k f fd ps sp)(hr:gR j X.A)(ha:PA X (e::es) t)(hk:k<=j:=by decide)(hg:Gl X x:=by rfl)(Hn:(x==("__debug__" :Str))=false:=by decide)(he:starEach (e::es) X.env=(false,eval e X.env)::starEach es X.env:=by rfl)(lu:(backTo pos (starEach es X.env)).any (·.1)=false:=by rfl): PE X (.Call (.Name x p) (e::es) [] pos) (Ba sp [] E0 t):=JX F (hr.mono hk) hg C.at_ C.fn.kp C.bd .nil MA ha Hn he lu
theorem cB (h:H p=none):gk H (dy H p o):=λb u e=>by rw[bS (dW e h)];show e
def bu (H H':Hp):Prop:= ∀b xs,Rd H b (.tup xs) ->Rd H' b (.tup xs)
theorem bu.refl (H:Hp):bu H H:=λ_ _ h=>h
theorem bu.trans (a:bu H H1)(b:bu H1 H2):bu H H2:=λc o h=>b c o (a c o h)
theorem gk.ts (a:gk H H'):bu H H':=λb xs h=>by obtain h | ⟨o,h⟩:=h;show .inl (a _ _ h);show .inr #[o,a _ _ h]
inductive Vq (K:PySem.W.Frag)(H:Hp):V ->Value ->Prop where
 | of {x:V} {t:Value} (h:pZ K H x t):Vq K H x t
 | tup {a:Addr} {xs:List V} (h:jI K H a xs):Vq K H (.ref a) (.type "tuple")
 | lst {a:Addr} {xs:List V} (h:gS K H a xs):Vq K H (.ref a) (.type "list")
def Te (K:Ug):fk V ->Hp ->VK ->Prop:=λxs H Q=>kr λx T t b=>fZ (xs= [x, .ty T]) (Vq K H x t) (W.kitOne K t (.type T)=some b) (Q (.bl b) H)
def gD:gF X (.builtin "isinstance") (Te X.K):=by
 intro ak s σ H xs us Q I r h;let⟨x,T,t,b,rfl,ty,e,q⟩:=h;let⟨u,w',rfl,ru,vH⟩:=vals2 r;cases vH;cases ty with
 | of ty=>show Dz I ru ty e λtk=>#[.bl b,H,I.tok tk,rfl,q]
 | tup hs=>cases ru;let⟨its,rv,⟨o,h1,h2,_⟩,_⟩:=I.tuple hs;show c5 W.kitx_tuple I.qz #[o,h1,h2] e (λz=>nomatch z) λtk=>#[.bl b,H,I.tok tk,rfl,q]
 | lst hs=>cases ru;let⟨its,rv,ht,_⟩:=I.list hs;let⟨o,h1,h2,_⟩:=ht.isList;show c5 W.kitx_list I.qz #[o,h1,h2] e (λz=>nomatch z) λtk=>#[.bl b,H,I.tok tk,rfl,q]
end L2
namespace L2
open PySem PyProof.Rows PyProof.V PySem.Calls PySem.Spec
def VF (a C:gY)(h:Heap):Prop:= ∃o,h.get? a=some o /\ o.cls= .ref C
end L2
namespace WL
open PySem L2
set_option genInjectivity true in
inductive W where
 | v (x:V) | tup (l:List W)
set_option genInjectivity true in
inductive MO where
 | lst (l:List W) | dK (kvs:List (cH×W)) | ins (C dx:Addr) (fs:List (Str×W)) | exc (C:Addr) | fz (o:Obj) (ks:List (cH×V)) (kvs:List (cH×W))
abbrev Mp:=gY ->fG MO
abbrev eE:=fk (fG W)
abbrev WK:=W ->Mp ->Prop
abbrev WE:=eE ->Mp ->WK ->Prop
abbrev WT:=eE ->Mp ->(Bool ->Mp ->Prop) ->Prop
abbrev WA:=eE ->Mp ->(fk W ->Mp ->Prop) ->Prop
abbrev WG:=W ->eE ->Mp ->(eE ->Mp ->Prop) ->Prop
abbrev Lu:=fk W ->eE ->Mp ->(eE ->Mp ->Prop) ->Prop
abbrev wN:=W ->W ->Mp ->WK ->Prop
abbrev yQ:=fk W ->Mp ->WK ->Prop
abbrev WI:=eE ->Mp ->(fk W ->(Mp ->Prop) ->Mp ->Prop) ->Prop
structure kn where
 nx:eE ->Mp ->Prop
 rt:WK
 bk:eE ->Mp ->Prop:=λ_ _=>False
 ct:eE ->Mp ->Prop:=λ_ _=>False
abbrev WS:=kn ->eE ->Mp ->Prop
@[reducible] def wi (i:Int):W:= .v (.int i)
@[reducible] def wb (b:Bool):W:= .v (.bl b)
@[reducible] def wr (a:gY):W:= .v (.ref a)
@[reducible] def ws (x:Str):W:= .v (.str x)
@[reducible] def wn:W:= .v .fh
def um (M:Mp)(a:gY)(o:MO):Mp:=λb=>if b=a then some o else M b
def au:um M a o a=some o:=by unfold um;rw[am rfl]
def aJ (h:b≠a):um M a o b=M b:=by unfold um;rw[ai h]
def ub:um (um M a o) a u=um M a u:=by funext b;unfold um;split<;>rfl
def cY {M:Mp}(h:M a=some o)(h':M b=none):a≠b:=by intro e;subst e;rw[h] at h';cases h'
def Sm (M M':Mp):Prop:= ∀b o,M b=some o ->M' b=some o
theorem Sm.refl (M:Mp):Sm M M:=λ_ _ h=>h
theorem Sm.trans {M M1 M2:Mp}(a:Sm M M1)(b:Sm M1 M2):Sm M M2:=λc o h=>b c o (a c o h)
theorem ce (h:M p=none):Sm M (um M p o):=λb u e=>by rw[aJ (cY e h)];show e
theorem Sm.um (a:Sm M M')(h:M p=none):Sm M (um M' p o):=λb u e=>by rw[aJ (cY e h)];show a b u e
mutual
def WR (K:Ug)(H:Hp):W ->V ->Prop
 | .v x,v=>v=x
 | .tup l,v=>cO λa vs=>d_ (v= .ref a) (jI K H a vs) (c7 K H l vs)
def c7 (K:Ug)(H:Hp):fk W ->fk V ->Prop
 | [],vs=>vs= []
 | x::r,vs=>cO λv t=>d_ (vs=v::t) (WR K H x v) (c7 K H r t)
end
mutual
theorem WR.ts {K:Ug}{H H':Hp}(a:bu H H'): ∀ (x:W) (v:V),WR K H x v ->WR K H' x v
 | .v x,v,h=>by simp![WR] at h ⊢;show h
 | .tup l,v,h=>by simp![WR] at h ⊢;let⟨p,vs,e,hs,hr⟩:=h;show#[p,vs,e,Un.Yl a hs,c7.ts a l vs hr]
theorem c7.ts {K:Ug}{H H':Hp}(a:bu H H'): ∀ (l:fk W) (vs:fk V),c7 K H l vs ->c7 K H' l vs
 | [],vs,h=>by simp![c7] at h ⊢;show h
 | x::r,vs,h=>by simp![c7] at h ⊢;let⟨v,t,e,h1,h2⟩:=h;show#[v,t,e,WR.ts a x v h1,c7.ts a r t h2]
end
theorem c7.length {K:Ug}{H:Hp}: ∀ {l:fk W} {vs:fk V},c7 K H l vs ->vs.length=l.length
 | [],_,h=>by simp![c7] at h;subst h;rfl
 | d::r,vs,h=>by simp![c7] at h;let⟨v,t,rfl,_,h⟩:=h;simp[c7.length h]
theorem c7.at {K:Ug}{H:Hp}: ∀ {l:fk W} {vs:fk V} {j:Nat} {d:W},c7 K H l vs ->l[j]? =some d -> ∃v,vs[j]? =some v /\ WR K H d v
 | [],_,_,_,_,e=>by simp at e
 | d::r,vs,j,d',h,e=>by
  simp![c7] at h;let⟨v,t,rfl,h1,h⟩:=h;cases j with
  | zero=>simp at e;subst e;show#[v,rfl,h1]
  | succ j=>simpa using c7.at (j:=j) h ⇑e
theorem c7.mk {K:Ug}{H:Hp}: ∀ {l:fk W} {vs:fk V},vs.length=l.length ->(∀ (j:Nat) d v,l[j]? =some d ->vs[j]? =some v ->WR K H d v) ->c7 K H l vs
 | [],vs,h,_=>by simp![c7];show di.mp h
 | d::r,[],h,_=>by simp at h
 | d::r,v::vs,h,k=>by simp![c7];show#[v,vs,rfl,k 0 d v rfl rfl,c7.mk ⇑h λj x u e1 e2=>k (j+1) x u ⇑e1 ⇑e2]
def c7.back {j:Nat}(h:c7 K H l vs)(e:vs[j]? =some v): ∃d,l[j]? =some d /\ WR K H d v:=by
 have hl:=h.length;have hj:j<l.length:=by have:=(aj.mp e).1;lia
 let⟨u,hu,r⟩:=h.at (j:=j) (d:=l[j]) (ae hj);rw[e] at hu;cases hu;show#[_,ae hj,r]
def c7.snoc (h:c7 K H l vs)(hr:WR K H d v):c7 K H (l++ [d]) (vs++ [v]):=by
 have hl:=h.length;exact c7.mk (by simp[hl]) λj x u e1 e2=> ?_;by_cases hj:j<l.length;rw[bo hj] at e1;rw[bo ∅] at e2;let⟨w,hw,r⟩:=h.at e1;rw[e2] at hw;cases hw;show r;rw[a5 ∅] at e1;rw[a5 ∅,hl] at e2;cases hk:j - l.length with
 | zero=>rw[hk] at e1 e2;simp at e1 e2;subst e1 e2;show hr
 | succ k=>rw[hk] at e1;simp at e1
def c7.append (h:c7 K H l vs)(h':c7 K H m us):c7 K H (l++m) (vs++us):=by have hl:=h.length;have qD:=h'.length;exact c7.mk (by simp[hl,qD]) λj x u e1 e2=> ?_;by_cases hj:j<l.length;rw[bo hj] at e1;rw[bo ∅] at e2;let⟨w,hw,r⟩:=h.at e1;rw[e2] at hw;cases hw;show r;rw[a5 ∅] at e1;rw[a5 ∅,hl] at e2;let⟨w,hw,r⟩:=h'.at e1;rw[e2] at hw;cases hw;show r
def c7.drop (n:Nat)(h:c7 K H l vs):c7 K H (l.drop n) (vs.drop n):=by exact c7.mk (by simp[h.length]) λj x u e1 e2=> ?_;rw[d5] at e1 e2;let⟨w,hw,r⟩:=h.at e1;rw[e2] at hw;cases hw;show r
def c7.take (n:Nat)(h:c7 K H l vs):c7 K H (l.take n) (vs.take n):=by exact c7.mk (by simp[h.length]) λj x u e1 e2=> ?_;rw[List.getElem?_take] at e1 e2;split at e1;rename_i hj;rw[am hj] at e2;let⟨w,hw,r⟩:=h.at e1;rw[e2] at hw;cases hw;show r;cases e1
def c7.set (n:Nat)(h:c7 K H l vs)(hr:WR K H d v):c7 K H (l.set n d) (vs.set n v):=by have hl:=h.length;exact c7.mk (by simp[h.length]) λj x u e1 e2=> ?_;rw[List.getElem?_set] at e1 e2;split at e1;rename_i hj;rw[am hj] at e2;split at e1;split at e2;cases e1;cases e2;show hr;cases e2;cases e1;rename_i hj;rw[ai hj] at e2;let⟨w,hw,r⟩:=h.at e1;rw[e2] at hw;cases hw;show r
def c7.nil:c7 K H [] []:=by simp![c7]
def c7.cons {K:Ug}{H:Hp}{x:W}{v:V}{l:fk W}{vs:fk V}(h:WR K H x v)(r:c7 K H l vs):c7 K H (x::l) (v::vs):=by simp![c7];show#[v,vs,rfl,h,r]
def WR.v:WR K H (.v x) x:=by simp![WR]
def WR.eq {x v:V}(h:WR K H (.v x) v):v=x:=by simpa only[WR] using h
def WR.tup {K:Ug}{H:Hp}{l:fk W}{v:V}(h:WR K H (.tup l) v):cO λa vs=>d_ (v= .ref a) (jI K H a vs) (c7 K H l vs):=by simpa only[WR] using h
def WR.MJ (h:jI K H a vs)(r:c7 K H l vs):WR K H (.tup l) (.ref a):=by simp![WR];show#[a,vs,rfl,h,r]
def KR (K:Ug)(H:Hp){κ:Type}:fk (κ×W) ->fk (κ×V) ->Prop:=Paired λp q=>p.1=q.1 /\ WR K H p.2 q.2
theorem KR.ts {K:Ug}{H H':Hp}{κ:Type}(a:bu H H'): ∀ {l:fk (κ×W)} {vs:fk (κ×V)},KR K H l vs ->KR K H' l vs
 | _,_, .nil=> .nil
 | _,_, .cons ⟨e,r⟩ t=> .cons #[e,r.ts a] (KR.ts a t)
def MR (K:Ug)(H:Hp)(a:gY):MO ->Prop
 | .lst l=> ∃vs,H a=some (.lst vs) /\ c7 K H l vs
 | .dK kvs=> ∃ks,H a=some (.dK ks) /\ KR K H kvs ks
 | .ins C dx fs=> ∃ks,H a=some (.ins C dx ks) /\ KR K H fs ks
 | .exc C=>H a=some (.ext (VF a C))
 | .fz o ks kvs=>H a=some (.nk o (.dK ks)) /\ KR K H kvs ks
def MR.some (h:MR K H a o): ∃u,H a=some u:=by
 cases o with
 | lst l=>let⟨_,e,_⟩:=h;show#[_,e]
 | dK l=>let⟨_,e,_⟩:=h;show#[_,e]
 | ins C d l=>let⟨_,e,_⟩:=h;show#[_,e]
 | exc C=>show#[_,h]
 | fz o l l2=>show#[_,h.1]
def MR.mv (t:bu H H')(e:H' a=H a)(h:MR K H a o):MR K H' a o:=by
 cases o with
 | lst l=>let⟨vs,e1,r⟩:=h;show#[vs,e.trans e1,r.ts t]
 | dK l=>let⟨vs,e1,r⟩:=h;show#[vs,e.trans e1,r.ts t]
 | ins C d l=>let⟨vs,e1,r⟩:=h;show#[vs,e.trans e1,r.ts t]
 | exc C=>show e.trans h
 | fz o l l2=>show#[e.trans h.1,h.2.ts t]
def ij (K:Ug)(M:Mp)(H:Hp):Prop:= ∀a o,M a=some o ->MR K H a o
def ij.fresh (h:ij K M H)(hp:H p=none):M p=none:=by
 cases e:M p with
 | none=>rfl
 | some o=>let⟨u,hu⟩:=(h p o e).some;rw[hp] at hu;cases hu
theorem ij.new (h:ij K M H)(hp:H p=none):ij K M (dy H p u):=λa o e=>by have:=h a o e;let⟨w,hw⟩:=this.some;show this.mv (L2.gk.ts (cB hp)) (bS (dW hw hp))
theorem AY (h:H a=some o)(hn: ∀xs,o≠ .tup xs)(hf: ∀b xs,o≠ .nk b (.tup xs)):bu H (dy H a u):=λb xs r=>by
 have nb:b≠a:=λe=>by subst e;obtain r | ⟨w,r⟩:=r;rw[h] at r;cases r;show hn _ rfl;rw[h] at r;cases r;show hf _ _ rfl
 unfold Rd;rw[bS nb];show r
theorem ij.put (h:ij K M H)(t:bu H (dy H a u))(new:MR K (dy H a u) a o):ij K (um M a o) (dy H a u):=λb x e=>by by_cases hb:b=a;subst hb;rw[au] at e;cases e;show new;rw[aJ hb] at e;show(h b x e).mv t (bS hb)
theorem ij.qx (h:ij K M H)(hp:H p=none)(r:c7 K H l vs):ij K (um M p (.lst l)) (dy H p (.lst vs)):=h.put (L2.gk.ts (cB hp)) #[vs,cr,r.ts (L2.gk.ts (cB hp))]
theorem mT (h:H a=some (.lst xs)):bu H (dy H a u):=AY h (λ_ z=>nomatch z) λ_ _ z=>nomatch z
theorem nK (h:H a=some (.dK xs)):bu H (dy H a u):=AY h (λ_ z=>nomatch z) λ_ _ z=>nomatch z
theorem Oo (h:H a=some (.ins C d xs)):bu H (dy H a u):=AY h (λ_ z=>nomatch z) λ_ _ z=>nomatch z
theorem ij.putL (h:ij K M H)(e:H a=some (.lst xs))(r:c7 K H l vs):ij K (um M a (.lst l)) (dy H a (.lst vs)):=h.put (mT e) #[vs,cr,r.ts (mT e)]
theorem ij.putD (h:ij K M H)(e:H a=some (.dK xs))(r:KR K H l vs):ij K (um M a (.dK l)) (dy H a (.dK vs)):=h.put (nK e) #[vs,cr,KR.ts (nK e) r]
def Jg (K:Ug)(H:Hp)(ρ:eE)(σ:St):Prop:=ρ.length=σ.length /\ ∀ (i:Nat) x,ρ[i]? =some (some x) -> ∃v,σ[i]? =some (some v) /\ WR K H x v
theorem Jg.ts (t:bu H H')(h:Jg K H ρ σ):Jg K H' ρ σ:=#[h.1,λi x e=>let ⟨v,a,r⟩:=h.2 i x e;#[v,a,r.ts t]]
structure Ok (K:PySem.W.Frag)(ρ:eE)(M:Mp)(σ:St)(H:Hp):Prop where
 env:Jg K H ρ σ
 hp:ij K M H
theorem Ok.mv (o:Ok K ρ M σ H)(t:bu H H')(m:ij K M' H'):Ok K ρ M' σ H':=#[o.env.ts t,m]
def Jg.set (h:Jg K H ρ σ)(i:Nat)(r:WR K H x v):Jg K H (ρ.set i (some x)) (σ.set i (some v)):=by exact#[by simp[h.1],λj y e=> ?_];rw[List.getElem?_set] at e ⊢;split at e;rename_i hj;rw[am hj];split at e;rename_i fU;rw[am (by rw[<- h.1];show fU)];cases e;show#[v,rfl,r];cases e;rename_i hj;rw[ai hj];show h.2 j y e
section
variable (K:Ug)
class IE (t:TE) (w:outParam WE):Prop where
 imp: ∀ (ρ:eE) (M:Mp) (σ:St) (H:Hp) (q:WK) (Q:VK),Ok K ρ M σ H ->w ρ M q ->(∀x M' v H',q x M' ->bu H H' ->ij K M' H' ->WR K H' x v ->Q v H') ->t σ H Q
class IT (t:TT) (w:outParam WT):Prop where
 imp: ∀ (ρ:eE) (M:Mp) (σ:St) (H:Hp) (q:Bool ->Mp ->Prop) (Q:Bool ->Hp ->Prop),Ok K ρ M σ H ->w ρ M q ->(∀b M' H',q b M' ->bu H H' ->ij K M' H' ->Q b H') ->t σ H Q
class IA (t:TA) (w:outParam WA):Prop where
 imp: ∀ (ρ:eE) (M:Mp) (σ:St) (H:Hp) (q:List W ->Mp ->Prop) (Q:List V ->Hp ->Prop),Ok K ρ M σ H ->w ρ M q ->(∀x M' v H',q x M' ->bu H H' ->ij K M' H' ->c7 K H' x v ->Q v H') ->t σ H Q
class IG (t:TG) (w:outParam WG):Prop where
 imp: ∀ (x:W) (v:V) (ρ:eE) (M:Mp) (σ:St) (H:Hp) (q:eE ->Mp ->Prop) (Q:St ->Hp ->Prop),Ok K ρ M σ H ->WR K H x v ->w x ρ M q ->(∀ρ' M' σ' H',q ρ' M' ->bu H H' ->Ok K ρ' M' σ' H' ->Q σ' H') ->t v σ H Q
class Xv (t:Jh) (w:outParam Lu):Prop where
 imp: ∀ (x:List W) (v:List V) (ρ:eE) (M:Mp) (σ:St) (H:Hp) (q:eE ->Mp ->Prop) (Q:St ->Hp ->Prop),Ok K ρ M σ H ->c7 K H x v ->w x ρ M q ->(∀ρ' M' σ' H',q ρ' M' ->bu H H' ->Ok K ρ' M' σ' H' ->Q σ' H') ->t v σ H Q
structure wR (H:Hp)(D':kn)(D:yV):Prop where
 nx: ∀ρ' M' σ' H',D'.nx ρ' M' ->bu H H' ->Ok K ρ' M' σ' H' ->D.nx σ' H'
 rt: ∀x M' v H',D'.rt x M' ->bu H H' ->ij K M' H' ->WR K H' x v ->D.rt v H'
 bk: ∀ρ' M' σ' H',D'.bk ρ' M' ->bu H H' ->Ok K ρ' M' σ' H' ->D.bk σ' H'
 ct: ∀ρ' M' σ' H',D'.ct ρ' M' ->bu H H' ->Ok K ρ' M' σ' H' ->D.ct σ' H'
class IS (t:TS) (w:outParam WS):Prop where
 imp: ∀ (ρ:eE) (M:Mp) (σ:St) (H:Hp) (D':kn) (D:yV),Ok K ρ M σ H ->w D' ρ M ->wR K H D' D ->t D σ H
class IR (r:R2) (w:outParam wN):Prop where
 imp: ∀ (x y:W) (v u:V) (M:Mp) (H:Hp) (q:WK) (Q:VK),ij K M H ->WR K H x v ->WR K H y u ->w x y M q ->(∀x M' v H',q x M' ->bu H H' ->ij K M' H' ->WR K H' x v ->Q v H') ->r v u H Q
class IU (r:V ->Hp ->VK ->Prop) (w:outParam (W ->Mp ->WK ->Prop)):Prop where
 imp: ∀ (x:W) (v:V) (M:Mp) (H:Hp) (q:WK) (Q:VK),ij K M H ->WR K H x v ->w x M q ->(∀x M' v H',q x M' ->bu H H' ->ij K M' H' ->WR K H' x v ->Q v H') ->r v H Q
class IC (r:List V ->Hp ->VK ->Prop) (w:outParam yQ):Prop where
 imp: ∀ (x:List W) (v:List V) (M:Mp) (H:Hp) (q:WK) (Q:VK),ij K M H ->c7 K H x v ->w x M q ->(∀x M' v H',q x M' ->bu H H' ->ij K M' H' ->WR K H' x v ->Q v H') ->r v H Q
end
theorem wR.mv (e:wR K H D' D)(t:bu H H'):wR K H' D' D:=#[λa b c d h s=>e.nx a b c d h (t.trans s),λa b c d h s=>e.rt a b c d h (t.trans s),λa b c d h s=>e.bk a b c d h (t.trans s),λa b c d h s=>e.ct a b c d h (t.trans s)]
end WL
namespace WL
open PySem L2
section
variable {K:Ug}
def iy (i:Nat):WE:=λρ M q=>match ρ[i]? with
 | some (some x)=>q x M
 | _=>False
def N5 (h:iy i ρ M q): ∃x,ρ[i]? =some (some x) /\ q x M:=by unfold iy at h;split at h;rename_i x e;show#[x,e,h];show h.elim
instance {i:Nat}:IE K (Jx i) (iy i) where
 imp:=λρ M σ H q Q o h k=>let ⟨x,e,h⟩:=N5 h;let ⟨v,e',r⟩:=o.env.2 i x e;#[v,e',k x M v H h (bu.refl H) o.hp r]
def wC (x:W):WE:=λ_ M q=>q x M
instance {v:V}:IE K (tC v) (wC (.v v)) where
 imp:=λρ M σ H q Q o h k=>k (.v v) M v H h (bu.refl H) o.hp WR.v
def wOp (r:wN)(a b:WE):WE:=λρ M q=>a ρ M λx M1=>b ρ M1 λy M2=>r x y M2 q
instance {r:R2}{w:wN}{ta tb:TE}{a b:WE} [ir:IR K r w] [ia:IE K ta a] [ib:IE K tb b]:IE K (SE r ta tb) (wOp w a b) where
 imp:=λρ M σ H q Q o h k=>ia.imp ρ M σ H _ _ o h λx M1 v H1 h1 t1 m1 r1=>ib.imp ρ M1 σ H1 _ _ (o.mv t1 m1) h1 λy M2 u H2 h2 t2 m2 r2=>ir.imp x y v u M2 H2 _ _ m2 (r1.ts t2) r2 h2 λz M3 v3 H3 h3 t3 m3 r3=>k z M3 v3 H3 h3 ((t1.trans t2).trans t3) m3 r3
def wUn (r:W ->Mp ->WK ->Prop)(a:WE):WE:=λρ M q=>a ρ M λx M1=>r x M1 q
instance {r:V ->Hp ->VK ->Prop}{w:W ->Mp ->WK ->Prop}{ta:TE}{a:WE} [ir:IU K r w] [ia:IE K ta a]:IE K (tUn r ta) (wUn w a) where
 imp:=λρ M σ H q Q o h k=>ia.imp ρ M σ H _ _ o h λx M1 v H1 h1 t1 m1 r1=>ir.imp x v M1 H1 _ _ m1 r1 h1 λz M3 v3 H3 h3 t3 m3 r3=>k z M3 v3 H3 h3 (t1.trans t3) m3 r3
def wI (C:Int ->Int ->Prop)(g:Int ->Int ->V):wN:=λx y M q=> ∃i j,x=wi i /\ y=wi j /\ C i j /\ q (.v (g i j)) M
def wI0 (g:Int ->Int ->V):wN:=λx y M q=>cO λi j=>d_ (x=wi i) (y=wi j) (q (.v (g i j)) M)
def wU (g:Int ->V):W ->Mp ->WK ->Prop:=λx M q=> ∃i,x=wi i /\ q (.v (g i)) M
instance {C:Int ->Int ->Prop}{g:Int ->Int ->V}:IR K (rI C g) (wI C g) where
 imp:=by rintro x y v u M H q Q m r1 r2 ⟨i,j,rfl,rfl,c,h⟩ k;show#[i,j,r1.eq,r2.eq,c,k _ M _ H h (bu.refl H) m WR.v]
instance {g:Int ->Int ->V}:IR K (JM g) (wI0 g) where
 imp:=by rintro x y v u M H q Q m r1 r2 ⟨i,j,rfl,rfl,h⟩ k;show#[i,j,r1.eq,r2.eq,k _ M _ H h (bu.refl H) m WR.v]
instance {g:Int ->V}:IU K (rU g) (wU g) where
 imp:=by rintro x v M H q Q m r1 ⟨i,rfl,h⟩ k;show#[i,r1.eq,k _ M _ H h (bu.refl H) m WR.v]
def wEq:wN:=λx y M q=>cO λa b=>fZ (x= .v a) (y= .v b) (JD a b=true) (q (wb (decide (a=b))) M)
def wNe:wN:=λx y M q=>cO λa b=>fZ (x= .v a) (y= .v b) (JD a b=true) (q (wb (!decide (a=b))) M)
instance:IR K rEq wEq where
 imp:=by rintro x y v u M H q Q m r1 r2 ⟨i,j,rfl,rfl,c,h⟩ k;cases r1.eq;cases r2.eq;show#[c,k _ M _ H h (bu.refl H) m WR.v]
instance:IR K rNe wNe where
 imp:=by rintro x y v u M H q Q m r1 r2 ⟨i,j,rfl,rfl,c,h⟩ k;cases r1.eq;cases r2.eq;show#[c,k _ M _ H h (bu.refl H) m WR.v]
def ES (a:WE):WT:=λρ M q=>a ρ M λx M1=> ∃k,x=wb k /\ q k M1
instance {t:TE}{a:WE} [ia:IE K t a]:IT K (Ff t) (ES a) where
 imp:=λρ M σ H q Q o h k=>ia.imp ρ M σ H _ _ o h λx M1 v H1 ⟨b,e,h1⟩ t1 m1 r1=>by subst e;show#[b,r1.eq,k b M1 H1 h1 t1 m1]
instance {t:TE}{a:WE} [ia:IE K t a]:IT K (tB t) (ES a) where
 imp:=λρ M σ H q Q o h k=>ia.imp ρ M σ H _ _ o h λx M1 v H1 ⟨b,e,h1⟩ t1 m1 r1=>by subst e;show#[b,r1.eq,k b M1 H1 h1 t1 m1]
def Se (a b:WT):WT:=λρ M q=>a ρ M λc M1=>if c=true then b ρ M1 q else q false M1
def wOr (a b:WT):WT:=λρ M q=>a ρ M λc M1=>if c=true then q true M1 else b ρ M1 q
def RY (a:WT):WT:=λρ M q=>a ρ M λc M1=>q (!c) M1
instance {t u:TT}{a b:WT} [ia:IT K t a] [ib:IT K u b]:IT K (SJ t u) (Se a b) where
 imp:=λρ M σ H q Q o h k=>ia.imp ρ M σ H _ _ o h λc M1 H1 h1 t1 m1=>by
  cases c with
  | true=>simp![bZ] at h1 ⊢;show ib.imp ρ M1 σ H1 _ _ (o.mv t1 m1) h1 λb M2 H2 h2 t2 m2=>k b M2 H2 h2 (t1.trans t2) m2
  | false=>simp![aB,bj] at h1 ⊢;show k _ M1 H1 h1 t1 m1
instance {t u:TT}{a b:WT} [ia:IT K t a] [ib:IT K u b]:IT K (tOr t u) (wOr a b) where
 imp:=λρ M σ H q Q o h k=>ia.imp ρ M σ H _ _ o h λc M1 H1 h1 t1 m1=>by
  cases c with
  | false=>simp![aB,bj] at h1 ⊢;show ib.imp ρ M1 σ H1 _ _ (o.mv t1 m1) h1 λb M2 H2 h2 t2 m2=>k b M2 H2 h2 (t1.trans t2) m2
  | true=>simp![bZ] at h1 ⊢;show k _ M1 H1 h1 t1 m1
instance {t:TT}{a:WT} [ia:IT K t a]:IT K (SF t) (RY a) where
 imp:=λρ M σ H q Q o h k=>ia.imp ρ M σ H _ _ o h λc M1 H1 h1 t1 m1=>k _ M1 H1 h1 t1 m1
def LV (a b:WE):WE:=λρ M q=>a ρ M λx M1=> ∃c,x=wb c /\ if c=true then b ρ M1 q else q (wb false) M1
def RV (a b:WE):WE:=λρ M q=>a ρ M λx M1=> ∃c,x=wb c /\ if c=true then q (wb true) M1 else b ρ M1 q
def LN (a:WE):WE:=λρ M q=>a ρ M λx M1=> ∃c,x=wb c /\ q (wb (!c)) M1
instance {t u:TE}{a b:WE} [ia:IE K t a] [ib:IE K u b]:IE K (L_ t u) (LV a b) where
 imp:=λρ M σ H q Q o h k=>ia.imp ρ M σ H _ _ o h λx M1 v H1 ⟨c,e,h1⟩ t1 m1 r1=>by
  subst e;exact#[c,r1.eq,?_];cases c with
  | true=>simp![bZ] at h1 ⊢;show ib.imp ρ M1 σ H1 _ _ (o.mv t1 m1) h1 λb M2 v H2 h2 t2 m2 r2=>k b M2 v H2 h2 (t1.trans t2) m2 r2
  | false=>simp![aB,bj] at h1 ⊢;show k _ M1 _ H1 h1 t1 m1 WR.v
instance {t u:TE}{a b:WE} [ia:IE K t a] [ib:IE K u b]:IE K (SD t u) (RV a b) where
 imp:=λρ M σ H q Q o h k=>ia.imp ρ M σ H _ _ o h λx M1 v H1 ⟨c,e,h1⟩ t1 m1 r1=>by
  subst e;exact#[c,r1.eq,?_];cases c with
  | false=>simp![aB,bj] at h1 ⊢;show ib.imp ρ M1 σ H1 _ _ (o.mv t1 m1) h1 λb M2 v H2 h2 t2 m2 r2=>k b M2 v H2 h2 (t1.trans t2) m2 r2
  | true=>simp![bZ] at h1 ⊢;show k _ M1 _ H1 h1 t1 m1 WR.v
instance {t:TE}{a:WE} [ia:IE K t a]:IE K (L4 t) (LN a) where
 imp:=λρ M σ H q Q o h k=>ia.imp ρ M σ H _ _ o h λx M1 v H1 ⟨c,e,h1⟩ t1 m1 r1=>by subst e;show#[c,r1.eq,k _ M1 _ H1 h1 t1 m1 WR.v]
def E4 (r r':wN)(a b c:WE):WE:=λρ M q=>a ρ M λx M1=>b ρ M1 λy M2=>r x y M2 λz M3=> ∃k,z=wb k /\ if k=true then c ρ M3 λy' M4=>r' y y' M4 λz' M5=>q z' M5 else q (wb false) M3
def RZ:WA:=λ_ M q=>q [] M
def LR (a:WE)(r:WA):WA:=λρ M q=>a ρ M λx M1=>r ρ M1 λxs M2=>q (x::xs) M2
instance:IA K Ox RZ where
 imp:=λρ M σ H q Q o h k=>k [] M [] H h (bu.refl H) o.hp c7.nil
instance {t:TE}{u:TA}{a:WE}{b:WA} [ia:IE K t a] [ib:IA K u b]:IA K (Fn t u) (LR a b) where
 imp:=λρ M σ H q Q o h k=>ia.imp ρ M σ H _ _ o h λx M1 v H1 h1 t1 m1 r1=>ib.imp ρ M1 σ H1 _ _ (o.mv t1 m1) h1 λy M2 u H2 h2 t2 m2 r2=>k _ M2 _ H2 h2 (t1.trans t2) m2 (c7.cons (r1.ts t2) r2)
def RQ (a:WA):WE:=λρ M q=>a ρ M λxs M1=>xs.length<=sizeLine /\ q (.tup xs) M1
def R1 (a:WA):WE:=λρ M q=>a ρ M λxs M1=>xs.length<=sizeLine /\ ∀p,M1 p=none ->q (wr p) (um M1 p (.lst xs))
instance {t:TA}{a:WA} [ia:IA K t a]:IE K (Sz t) (RQ a) where
 imp:=λρ M σ H q Q o h k=>ia.imp ρ M σ H _ _ o h λx M1 v H1 ⟨hl,h1⟩ t1 m1 r1=>#[by rw[r1.length];show hl,λp hp=>k _ M1 _ _ h1 (t1.trans (L2.gk.ts (cB hp))) (m1.new hp) (WR.MJ (jI.of cr) (r1.ts (L2.gk.ts (cB hp))))]
instance {t:TA}{a:WA} [ia:IA K t a]:IE K (SG t) (R1 a) where
 imp:=λρ M σ H q Q o h k=>ia.imp ρ M σ H _ _ o h λx M1 v H1 ⟨hl,h1⟩ t1 m1 r1=>#[by rw[r1.length];show hl,λp hp=>k _ _ _ _ (h1 p (m1.fresh hp)) (t1.trans (L2.gk.ts (cB hp))) (m1.qx hp r1) WR.v]
def Jn:wN:=λx y M q=>kr λa l i u=>j8 (x=wr a) (y=wi i) (M a=some (.lst l)) (iV l i=some u) (q u M)
def Jm:wN:=λx y M q=>im λl i u=>fZ (x= .tup l) (y=wi i) (iV l i=some u) (q u M)
def c7.iV (r:c7 K H l vs)(e:iV l i=some u): ∃v,L2.iV vs i=some v /\ WR K H u v:=by
 unfold L2.iV at e ⊢;rw[r.length];cases h:wW l.length i with
 | none=>rw[h] at e;cases e
 | some j=>rw[h] at e;show r.at e
instance:IR K (JK K) Jn where
 imp:=by rintro x y v u M H q Q m r1 r2 ⟨a,l,i,z,rfl,rfl,hl,e,h⟩ k;let⟨vs,hv,r⟩:=m a _ hl;let⟨v',e',r'⟩:=r.iV e;show#[a,vs,i,v',r1.eq,r2.eq,gS.of hv,e',k _ M _ H h (bu.refl H) m r']
instance:IR K (FQ K) Jm where
 imp:=by rintro x y v u M H q Q m r1 r2 ⟨l,i,z,rfl,rfl,e,h⟩ k;let⟨a,vs,rfl,hv,r⟩:=r1.tup;let⟨v',e',r'⟩:=r.iV e;show#[a,vs,i,v',rfl,r2.eq,hv,e',k _ M _ H h (bu.refl H) m r']
def lG (xs:fk W)(lo hi:fG Int):fk W:=(xs.drop (HT.f6 xs.length 0 lo)).take (HT.f6 xs.length xs.length hi - HT.f6 xs.length 0 lo)
def c7.cut (lo hi:fG Int)(r:c7 K H l vs):c7 K H (lG l lo hi) (sN vs lo hi):=by unfold lG sN;rw[r.length];show(r.drop _).take _
end
abbrev WO:=eE ->Mp ->(fG Int ->Mp ->Prop) ->Prop
class IO (K:PySem.W.Frag) (t:TO) (w:outParam WO):Prop where
 imp: ∀ (ρ:eE) (M:Mp) (σ:St) (H:Hp) (q:Option Int ->Mp ->Prop) (Q:Option Int ->Hp ->Prop),Ok K ρ M σ H ->w ρ M q ->(∀b M' H',q b M' ->bu H H' ->ij K M' H' ->Q b H') ->t σ H Q
abbrev RK:=W ->fG Int ->fG Int ->Mp ->WK ->Prop
class ISl (K:PySem.W.Frag) (r:V ->Option Int ->Option Int ->Hp ->VK ->Prop) (w:outParam RK):Prop where
 imp: ∀ (x:W) (v:V) (lo hi:Option Int) (M:Mp) (H:Hp) (q:WK) (Q:VK),ij K M H ->WR K H x v ->w x lo hi M q ->(∀x M' v H',q x M' ->bu H H' ->ij K M' H' ->WR K H' x v ->Q v H') ->r v lo hi H Q
section
variable {K:Ug}
def AV:WO:=λ_ M q=>q none M
def LM (a:WE):WO:=λρ M q=>a ρ M λx M1=> ∃i,x=wi i /\ q (some i) M1
instance:IO K A8 AV where
 imp:=λρ M σ H q Q o h k=>k _ M H h (bu.refl H) o.hp
instance {t:TE}{a:WE} [ia:IE K t a]:IO K (L3 t) (LM a) where
 imp:=λρ M σ H q Q o h k=>ia.imp ρ M σ H _ _ o h λx M1 v H1 ⟨i,e,h1⟩ t1 m1 r1=>by subst e;show#[i,r1.eq,k _ M1 H1 h1 t1 m1]
def wSl (r:RK)(a:WE)(lo hi:WO):WE:=λρ M q=>a ρ M λx M1=>lo ρ M1 λl M2=>hi ρ M2 λu M3=>r x l u M3 q
instance {r:V ->fG Int ->fG Int ->Hp ->VK ->Prop}{w:RK}{t:TE}{tl th:TO}{a:WE}{lo hi:WO} [ir:ISl K r w] [ia:IE K t a] [il:IO K tl lo] [ih:IO K th hi]:IE K (tSl r t tl th) (wSl w a lo hi) where
 imp:=λρ M σ H q Q o h k=>ia.imp ρ M σ H _ _ o h λx M1 v H1 h1 t1 m1 r1=>il.imp ρ M1 σ H1 _ _ (o.mv t1 m1) h1 λl M2 H2 h2 t2 m2=>ih.imp ρ M2 σ H2 _ _ (o.mv (t1.trans t2) m2) h2 λu M3 H3 h3 t3 m3=>ir.imp x v l u M3 H3 _ _ m3 (r1.ts (t2.trans t3)) h3 λy M4 v4 H4 h4 t4 m4 r4=>k y M4 v4 H4 h4 (((t1.trans t2).trans t3).trans t4) m4 r4
def RT:RK:=λx lo hi M q=>cO λa l=>d_ (x=wr a) (M a=some (.lst l)) (∀p,M p=none ->q (wr p) (um M p (.lst (lG l lo hi))))
instance:ISl K (S_ K) RT where
 imp:=by rintro x v lo hi M H q Q m r1 ⟨a,l,rfl,hl,h⟩ k;let⟨vs,hv,r⟩:=m a _ hl;show#[a,vs,r1.eq,gS.of hv,λp hp=>k _ _ _ _ (h p (m.fresh hp)) (L2.gk.ts (cB hp)) (m.qx hp (r.cut lo hi)) WR.v]
def wCB (r:yQ)(a:WA):WE:=λρ M q=>a ρ M λxs M1=>r xs M1 q
instance {r:fk V ->Hp ->VK ->Prop}{w:yQ}{t:TA}{a:WA} [ir:IC K r w] [ia:IA K t a]:IE K (Yi r t) (wCB w a) where
 imp:=λρ M σ H q Q o h k=>ia.imp ρ M σ H _ _ o h λx M1 v H1 h1 t1 m1 r1=>ir.imp x v M1 H1 _ _ m1 r1 h1 λy M4 v4 H4 h4 t4 m4 r4=>k y M4 v4 H4 h4 (t1.trans t4) m4 r4
abbrev jc:=fk W ->Mp ->WK ->Prop
def jJ (K:Ug)(p:jc):Sp:=λvs H Q _=>im λ(xs:fk W) (M:Mp) (q:WK)=>fZ (c7 K H xs vs) (ij K M H) (p xs M q) (∀x M' v H',q x M' ->bu H H' ->ij K M' H' ->WR K H' x v ->Q v H')
def LU (p:jc)(a:WA):WE:=λρ M q=>a ρ M λxs M1=>p xs M1 q
instance {p:jc}{E:XK}{t:TA}{a:WA} [ia:IA K t a]:IE K (Ba (jJ K p) [] E t) (LU p a) where
 imp:=λρ M σ H q Q o h k=>ia.imp ρ M σ H _ _ o h λx M1 v H1 h1 t1 m1 r1=>#[x,M1,q,by rw[List.append_nil];show r1,m1,h1,λy M4 v4 H4 h4 t4 m4 r4=>k y M4 v4 H4 h4 (t1.trans t4) m4 r4]
def okW (F:EI K x qual st f fd)(S:jV N ps (bn st))(len: ∀vs M q,p vs M q ->vs.length=ps.length)(oG: ∀ (cdv:fm) (A:Around) (outer:fk Env) (s:fo) (H:Hp) (E:XK),gR k (A.deeper (PyProof.Rows.envOfC qual (bn st) s.heap.objs.size f cdv)) ->cO λt w'=>d_ (y9 (sL iq P w K mg base N qual (bn st) f cdv A outer s H E).Pf (fV st) t) (IS K t w') (∀vs M q,p vs M q ->w' {nx:=λ_ M'=>q wn M',rt:=q} (vs.map some++List.replicate (N.length - vs.length) none) M)): dR P w K mg base iq (k+1) f fd ps (jJ K p):=by
 exact EI.ok F S (λvs H Q E ⟨xs,M,q,r,m,h,_⟩=>by rw[r.length];show len xs M q h) λcdv A outer s H vs Q E hr h=> ?_;let⟨t,w',h1,h2,h3⟩:=oG cdv A outer s H E hr;let⟨xs,M,q,r,m,h,k'⟩:=h;exact#[t,h1,h2.imp _ M _ H _ _ #[#[?_,λi x e=> ?_],m] (h3 xs M q h) #[λρ' M' σ' H' h ts o=>k' _ M' _ H' h ts o.hp WR.v,λx M' v H' h ts m' r'=>k' x M' v H' h ts m' r',λ_ _ _ _ h=>h.elim,λ_ _ _ _ h=>h.elim]];have:=r.length;simp[L2.start,this];have hl:=r.length;unfold L2.start;by_cases hi:i<xs.length;rw[bo ⇑hi,az] at e;cases ex:xs[i]? with
 | none=>rw[ex] at e;cases e
 | some y=>rw[ex] at e;cases e;let⟨v,hv,rv⟩:=r.at ex;exact#[v,?_,rv];rw[bo (by simp;lia),az,hv];rfl
 rw[a5 ⇑hi,List.getElem?_replicate] at e;split at e<;>cases e
def Tc (K:Ug):fk V ->Hp ->VK ->Prop:=λxs H Q=>cO λp ys=>d_ (xs= [.ref p]) (gS K H p ys \/ jI K H p ys) (Q (.int ys.length) H)
theorem dz:gF X (.builtin "len") (Tc X.K):=wK
def N9:yQ:=λxs M q=>(cO λa l=>d_ (xs= [wr a]) (M a=some (.lst l)) (q (wi l.length) M)) \/ ∃l,xs= [.tup l] /\ q (wi l.length) M
def c7.one (h:c7 K H [x] vs): ∃v,vs= [v] /\ WR K H x v:=by simp![c7] at h;let⟨v,t,rfl,h1,rfl⟩:=h;show#[v,rfl,h1]
def c7.two (h:c7 K H [x,y] vs):cO λv u=>d_ (vs= [v,u]) (WR K H x v) (WR K H y u):=by simp![c7] at h;let⟨v,t,rfl,h1,u,t',rfl,h2,rfl⟩:=h;show#[v,u,rfl,h1,h2]
instance:IC K (Tc K) N9 where
 imp :=by
  rintro xs v M H q Q m r1 h k;rcases h with⟨a,l,rfl,hl,h⟩ | ⟨l,rfl,h⟩
  let⟨v,rfl,r⟩:=r1.one;cases r.eq;let⟨vs,hv,rr⟩:=m a _ hl;exact#[a,vs,rfl, .inl (gS.of hv),k _ M _ H h (bu.refl H) m ?_];rw[rr.length];show WR.v;let⟨v,rfl,r⟩:=r1.one;let⟨a,vs,rfl,hv,rr⟩:=r.tup;exact#[a,vs,rfl, .inr hv,k _ M _ H h (bu.refl H) m ?_];rw[rr.length];show WR.v
def Ti:fk V ->Hp ->VK ->Prop:=λxs H Q=> ∃i,xs= [.int i] /\ Q (.int (if i<0 then -i else i)) H
theorem vf:gF X (.builtin "abs") Ti:=HX
def Sh:yQ:=λxs M q=> ∃i,xs= [wi i] /\ q (wi (if i<0 then -i else i)) M
instance:IC K Ti Sh where
 imp:=by rintro xs v M H q Q m r1 ⟨i,rfl,h⟩ k;let⟨v,rfl,r⟩:=r1.one;cases r.eq;show#[i,rfl,k _ M _ H h (bu.refl H) m WR.v]
def My:fk V ->Hp ->VK ->Prop:=λxs H Q=>cO λi j=>xs= [.int i, .int j] /\ Q (.int (if j >i then j else i)) H
theorem ny (hc:X.calm=true):gF X (.builtin "max") My:=Ec hc
def LO:yQ:=λxs M q=>cO λi j=>xs= [wi i,wi j] /\ q (wi (if j >i then j else i)) M
instance:IC K My LO where
 imp:=by rintro xs v M H q Q m r1 ⟨i,j,rfl,h⟩ k;let⟨v,u,rfl,r,r'⟩:=r1.two;cases r.eq;cases r'.eq;show#[i,j,rfl,k _ M _ H h (bu.refl H) m WR.v]
def Bv (K:Ug):fk V ->Hp ->VK ->Prop:=λxs H Q=>cO λp ys=>d_ (xs= [.ref p]) (gS K H p ys \/ jI K H p ys) (∀l,H l=none ->Q (.ref l) (dy H l (.lst ys)))
theorem nA:gF X (.type "list") (Bv X.K):=wJ
def vv:yQ:=λxs M q=> ∃l,((∃a,xs= [wr a] /\ M a=some (.lst l)) \/ xs= [.tup l]) /\ ∀p,M p=none ->q (wr p) (um M p (.lst l))
instance:IC K (Bv K) vv where
 imp :=by
  rintro xs v M H q Q m r1 ⟨l,hx,h⟩ k;rcases hx with⟨a,rfl,hl⟩ | rfl
  let⟨v,rfl,r⟩:=r1.one;cases r.eq;let⟨vs,hv,rr⟩:=m a _ hl;show#[a,vs,rfl, .inl (gS.of hv),λp hp=>k _ _ _ _ (h p (m.fresh hp)) (L2.gk.ts (cB hp)) (m.qx hp rr) WR.v];let⟨v,rfl,r⟩:=r1.one;let⟨a,vs,rfl,hv,rr⟩:=r.tup;show#[a,vs,rfl, .inr hv,λp hp=>k _ _ _ _ (h p (m.fresh hp)) (L2.gk.ts (cB hp)) (m.qx hp rr) WR.v]
def xB (K:Ug):fk V ->Hp ->VK ->Prop:=λxs H Q=>cO λp ys=>xs= [.ref p] /\ ((gS K H p ys /\ ∀l,H l=none ->Q (.ref l) (dy H l (.tup ys))) \/ (jI K H p ys /\ Q (.ref p) H))
theorem lJ:gF X (.type "tuple") (xB X.K):=tR
def w8:yQ:=λxs M q=> ∃l,((∃a,xs= [wr a] /\ M a=some (.lst l)) \/ xs= [.tup l]) /\ q (.tup l) M
instance:IC K (xB K) w8 where
 imp :=by
  rintro xs v M H q Q m r1 ⟨l,hx,h⟩ k;rcases hx with⟨a,rfl,hl⟩ | rfl
  let⟨v,rfl,r⟩:=r1.one;cases r.eq;let⟨vs,hv,rr⟩:=m a _ hl;show#[a,vs,rfl, .inl #[gS.of hv,λp hp=>k _ M _ _ h (L2.gk.ts (cB hp)) (m.new hp) (WR.MJ (jI.of cr) (rr.ts (L2.gk.ts (cB hp))))]];let⟨v,rfl,r⟩:=r1.one;let⟨a,vs,rfl,hv,rr⟩:=r.tup;show#[a,vs,rfl, .inr #[hv,k _ M _ H h (bu.refl H) m (WR.MJ hv rr)]]
theorem c7.ints {H:Hp}: ∀ {ns:fk Int} {vs:fk V},c7 K H (ns.map wi) vs ->vs=ns.map V.int
 | [],vs,h=>by simpa only[dU,c7] using h
 | n::r,vs,h=>by simp![aI,c7] at h;let⟨v,t,rfl,h1,h2⟩:=h;rw[c7.ints h2,h1.eq];rfl
theorem c7.ofInts {H:Hp}: ∀ (ns:fk Int),c7 K H (ns.map wi) (ns.map V.int)
 | []=>c7.nil
 | n::r=>c7.cons WR.v (c7.ofInts r)
def V_ (M:Mp):W ->fG fm
 | .v (.int _)=>some (.type "int")
 | .v (.bl _)=>some (.type "bool")
 | .v (.str _)=>some (.type "str")
 | .v .fh=>some (.type "NoneType")
 | .tup _=>some (.type "tuple")
 | .v (.ref a)=>match M a with
  | some (.lst _)=>some (.type "list")
  | _=>none
 | _=>none
def R9 (K:Ug):yQ:=λxs M q=>kr λx T t b=>fZ (xs= [x, .v (.ty T)]) (V_ M x=some t) (W.kitOne K t (.type T)=some b) (q (wb b) M)
def Og (m:ij K M H)(r:WR K H x v)(e:V_ M x=some t):Vq K H v t:=by
 cases x with
 | tup l=>let⟨a,vs,rfl,hv,rr⟩:=r.tup;cases e;show .tup hv
 | v y =>
  cases r.eq;cases v with
  | int i=>cases e;show .of (.int i)
  | bl i=>cases e;show .of (.bl i)
  | str i=>cases e;show .of (.str i)
  | fh=>cases e;show .of .fh
  | ref a=>
   simp![V_] at e;cases ha:M a with
   | none=>rw[ha] at e;cases e
   | some o=>
    rw[ha] at e;cases o with
    | lst l=>cases e;let⟨vs,hv,_⟩:=m a _ ha;show .lst (gS.of hv)
    | dK l=>cases e
    | ins C d l=>cases e
    | exc C=>cases e
    | fz o l l2=>cases e
  | AG _=>cases e
  | Cc _=>cases e
  | ty _=>cases e
instance:IC K (Te K) (R9 K) where
 imp:=by rintro xs v M H q Q m r1 ⟨x,T,t,b,rfl,ht,e,h⟩ k;let⟨v,u,rfl,r,r'⟩:=r1.two;cases r'.eq;show#[v,T,t,b,rfl,Og m r ht,e,k _ M _ H h (bu.refl H) m WR.v]
end
section
variable {K:Ug}
abbrev WM:=W ->fk W ->Mp ->WK ->Prop
class IM (K:PySem.W.Frag) (r:V ->List V ->Hp ->VK ->Prop) (w:outParam WM):Prop where
 imp: ∀ (x:W) (v:V) (ys:List W) (us:List V) (M:Mp) (H:Hp) (q:WK) (Q:VK),ij K M H ->WR K H x v ->c7 K H ys us ->w x ys M q ->(∀x M' v H',q x M' ->bu H H' ->ij K M' H' ->WR K H' x v ->Q v H') ->r v us H Q
def IsL (M:Mp)(x:W):Prop:=cO λa l=>x=wr a /\ M a=some (.lst l)
def IsL.ty (m:ij K M H)(r:WR K H x v)(h:IsL M x):Yc K "list" v H:=by let⟨a,l,rfl,hl⟩:=h;cases r.eq;let⟨vs,hv,_⟩:=m a _ hl;show .inl #[rfl,vs,gS.of hv]
def X6 (r:WM)(a:WE)(b:WA):WE:=λρ M q=>a ρ M λx M1=>IsL M1 x /\ b ρ M1 λxs M2=>r x xs M2 q
instance {r:V ->fk V ->Hp ->VK ->Prop}{w:WM}{t:TE}{u:TA}{a:WE}{b:WA} [ir:IM K r w] [ia:IE K t a] [ib:IA K u b]:IE K (tBM K "list" r t u) (X6 w a b) where
 imp:=λρ M σ H q Q o h k=>ia.imp ρ M σ H _ _ o h λx M1 v H1 ⟨hl,h1⟩ t1 m1 r1=>#[hl.ty m1 r1,ib.imp ρ M1 σ H1 _ _ (o.mv t1 m1) h1 λy M2 u H2 h2 t2 m2 r2=>ir.imp x v y u M2 H2 _ _ m2 (r1.ts t2) r2 h2 λz M3 v3 H3 h3 t3 m3 r3=>k z M3 v3 H3 h3 ((t1.trans t2).trans t3) m3 r3]
def AW:WM:=λx ys M q=>im λa l y=>j8 (x=wr a) (ys= [y]) (M a=some (.lst l)) (l.length<sizeLine) (q wn (um M a (.lst (l++ [y]))))
instance:IM K Bx AW where
 imp:=by rintro x v ys us M H q Q m r1 r2 ⟨a,l,y,rfl,rfl,hl,hn,h⟩ k;cases r1.eq;let⟨u,rfl,r⟩:=r2.one;let⟨vs,hv,rr⟩:=m a _ hl;show#[a,vs,u,rfl,rfl,hv,by rw[rr.length];show hn,k _ _ _ _ h (mT hv) (m.putL hv (rr.snoc r)) WR.v]
def Jo:WM:=λx ys M q=>kr λa b l l'=>l_ (x=wr a) (ys= [wr b]) (M a=some (.lst l)) (M b=some (.lst l')) (l.length+l'.length<=sizeLine) (q wn (um M a (.lst (l++l'))))
instance:IM K Bw Jo where
 imp:=by rintro x v ys us M H q Q m r1 r2 ⟨a,b,l,l',rfl,rfl,hl,qD,hn,h⟩ k;cases r1.eq;let⟨u,rfl,r⟩:=r2.one;cases r.eq;let⟨vs,hv,rr⟩:=m a _ hl;let⟨Oc,sv,FJ⟩:=m b _ qD;show#[a,b,vs,Oc,rfl,rfl,hv,sv,by rw[rr.length,FJ.length];show hn,k _ _ _ _ h (mT hv) (m.putL hv (rr.append FJ)) WR.v]
def Sd:wN:=λx y M q=>kr λa b l l'=>l_ (x=wr a) (y=wr b) (M a=some (.lst l)) (M b=some (.lst l')) (l.length+l'.length<=sizeLine) (∀p,M p=none ->q (wr p) (um M p (.lst (l++l'))))
instance:IR K Tf Sd where
 imp:=by rintro x y v u M H q Q m r1 r2 ⟨a,b,l,l',rfl,rfl,hl,qD,hn,h⟩ k;cases r1.eq;cases r2.eq;let⟨vs,hv,rr⟩:=m a _ hl;let⟨Oc,sv,FJ⟩:=m b _ qD;show#[a,b,vs,Oc,rfl,rfl,hv,sv,by rw[rr.length,FJ.length];show hn,λp hp=>k _ _ _ _ (h p (m.fresh hp)) (L2.gk.ts (cB hp)) (m.qx hp (rr.append FJ)) WR.v]
def Jl (M:Mp):W ->Bool ->Prop
 | .v .fh,k=>k=false
 | .v (.bl b),k=>k=b
 | .v (.int i),k=>k=(i !=0)
 | .v (.str y),k=>y.length<=sizeLine /\ k=((y.length:Int) !=0)
 | .v (.ref a),k=>(∃l,M a=some (.lst l) /\ k= !l.isEmpty) \/ (∃l,M a=some (.dK l) /\ k= !l.isEmpty)
 | .tup l,k=>k= !l.isEmpty
 | _,_=>False
def Fe (K:Ug)(ta:TE):TT:=λσ H Q=>ta σ H λx H'=> ∃k,Lv K x H' k /\ Q k H'
theorem C7 (ha:PE X a ta)(he: ∀mB,isTrue a X.env mB=(do let v <- mB;standAt a.pos;holding [v] (truthy v)):=by intro _;rfl):PT X a (Fe X.K ta):=FW ha he
def ER (a:WE):WT:=λρ M q=>a ρ M λx M1=> ∃k,Jl M1 x k /\ q k M1
def c7.isEmpty (r:c7 K H l vs):vs.isEmpty=l.isEmpty:=by have:=r.length;cases l<;>cases vs<;>simp_all
def KR.isEmpty {vs:fk (cH×V)}(r:KR K H l vs):vs.isEmpty=l.isEmpty:=by cases r<;>rfl
def Jl.ok (m:ij K M H)(r:WR K H x v)(h:Jl M x k):Lv K v H k:=by
 cases x with
 | tup l=>let⟨a,vs,rfl,hv,rr⟩:=r.tup;show .inr (.inl #[vs,hv,by rw[rr.isEmpty];show h])
 | v y =>
  cases r.eq;cases v with
  | ref a=>
   rcases h with⟨l,hl,e⟩ | ⟨l,hl,e⟩
   let⟨vs,hv,rr⟩:=m a _ hl;show .inl #[vs,gS.of hv,by rw[rr.isEmpty];show e];let⟨vs,hv,rr⟩:=m a _ hl;show .inr (.inr #[vs,hv,by rw[rr.isEmpty];show e])
  | _=>first | show h | show(show False from h).elim
instance {t:TE}{a:WE} [ia:IE K t a]:IT K (Fe K t) (ER a) where
 imp:=λρ M σ H q Q o h k=>ia.imp ρ M σ H _ _ o h λx M1 v H1 ⟨b,hb,h1⟩ t1 m1 r1=>#[b,hb.ok m1 r1,k b M1 H1 h1 t1 m1]
def gq:cH ->W
 | .inl k=>wi k
 | .inr x=>ws x
def fX (kvs:fk (cH×W))(k:cH):fG W:=(kvs.find? λkv=>decide (kv.1=k)).map (·.2)
def kc (kvs:fk (cH×W))(k:cH)(v:W):fk (cH×W):=if(kvs.any λkv=>decide (kv.1=k))=true then kvs.map (λkv=>if kv.1=k then(kv.1,v) else kv) else kvs++ [(k,v)]
def uV (kvs:fk (cH×W))(k:cH):fk (cH×W):=kvs.filter λkv=>decide (kv.1≠k)
theorem KR.keys {H:Hp}: ∀ {l:fk (cH×W)} {vs:fk (cH×V)},KR K H l vs ->vs.map (·.1)=l.map (·.1)
 | _,_, .nil=>rfl
 | _,_, .cons ⟨e,r⟩ t=>by rw[aI,aI,KR.keys t,e]
theorem KR.length {H:Hp}{κ:Type}: ∀ {l:fk (κ×W)} {vs:fk (κ×V)},KR K H l vs ->vs.length=l.length
 | _,_, .nil=>rfl
 | _,_, .cons _ t=>by rw[aP,aP,KR.length t]
theorem KR.val {H:Hp}(k:cH): ∀ {l:fk (cH×W)} {vs:fk (cH×V)},KR K H l vs ->(fX l k=none /\ iQ vs k=none) \/ cO λx v=>d_ (fX l k=some x) (iQ vs k=some v) (WR K H x v)
 | _,_, .nil=> .inl #[rfl,rfl]
 | (k1,x)::l,(k2,v)::vs, .cons ⟨e,r⟩ t=>by have e:k1=k2:=e;subst e;unfold fX iQ;rw[dw,dw];by_cases hk:k1=k;simp![hk,decide_true];show .inr #[x,v,rfl,rfl,r];simp![hk,decide_false];show KR.val k t
theorem KR.map {H:Hp}{k:cH}{x:W}{v:V}(rx:WR K H x v): ∀ {l:fk (cH×W)} {vs:fk (cH×V)},KR K H l vs ->KR K H (l.map (λkv=>if kv.1=k then(kv.1,x) else kv)) (vs.map (λkv=>if kv.1=k then(kv.1,v) else kv))
 | _,_, .nil=> .nil
 | (k1,y)::l,(k2,u)::vs, .cons ⟨e,r⟩ t=>by have e:k1=k2:=e;subst e;rw[aI,aI];exact .cons ?_ (KR.map rx t);by_cases hk:k1=k;rw[am hk,am hk];show#[rfl,rx];rw[ai hk,ai hk];show#[rfl,r]
theorem KR.append {H:Hp}{k:cH}{x:W}{v:V}(rx:WR K H x v): ∀ {l:fk (cH×W)} {vs:fk (cH×V)},KR K H l vs ->KR K H (l++ [(k,x)]) (vs++ [(k,v)])
 | _,_, .nil=> .cons #[rfl,rx] .nil
 | _,_, .cons r t=> .cons r (KR.append rx t)
def KR.put (rx:WR K H x v)(r:KR K H l vs):KR K H (kc l k x) (gQ vs k v):=by
 have ek:(l.any λkv=>decide (kv.1=k))=vs.any λkv=>decide (kv.1=k):=by
  have:=r.keys;have e1:(l.any λkv=>decide (kv.1=k))=(l.map (·.1)).any λy=>decide (y=k):=by rw[List.any_map];rfl
  have e2:(vs.any λkv=>decide (kv.1=k))=(vs.map (·.1)).any λy=>decide (y=k):=by rw[List.any_map];rfl
  rw[e1,e2,this]
 unfold kc gQ;rw[ek];split;show KR.map rx r;show KR.append rx r
theorem KR.drop {H:Hp}{k:cH}: ∀ {l:fk (cH×W)} {vs:fk (cH×V)},KR K H l vs ->KR K H (uV l k) (qh vs k)
 | _,_, .nil=> .nil
 | (k1,y)::l,(k2,u)::vs, .cons ⟨e,r⟩ t=>by have e:k1=k2:=e;subst e;unfold uV qh;rw[List.filter_cons,List.filter_cons];by_cases hk:k1=k;simp![hk,ne_eq,not_true,decide_false,aB,bj];show KR.drop t;simp![ne_eq,hk,not_false_eq_true,decide_true,bZ];show .cons #[rfl,r] (KR.drop t)
def lZ (r:WR K H (gq k) v):v=kV k:=by cases k<;>show r.eq
def LQ:WE:=λ_ M q=> ∀p,M p=none ->q (wr p) (um M p (.dK []))
instance:IE K Fl LQ where
 imp:=λρ M σ H q Q o h k=>λp hp=>k _ _ _ _ (h p (o.hp.fresh hp)) (L2.gk.ts (cB hp)) (o.hp.put (L2.gk.ts (cB hp)) #[[],cr, .nil]) WR.v
def E2 (a b:WE):WE:=λρ M q=>a ρ M λx M1=>b ρ M1 λy M2=>kr λp kvs k z=>j8 (x=wr p) (M2 p=some (.dK kvs)) (y=gq k) (fX kvs k=some z) (q z M2)
instance {t u:TE}{a b:WE} [ia:IE K t a] [ib:IE K u b]:IE K (L8 t u) (E2 a b) where
 imp :=λρ M σ H q Q o h k=>ia.imp ρ M σ H _ _ o h λx M1 v H1 h1 t1 m1 r1=>ib.imp ρ M1 σ H1 _ _ (o.mv t1 m1) h1 λy M2 u H2 ⟨p,kvs,ky,z,e1,e2,e3,e4,h2⟩ t2 m2 r2=>by
  subst e1 e3;let⟨ks,hk,rr⟩:=m2 p _ e2;rcases rr.val ky with⟨n1,_⟩ | ⟨x',v',n1,n2,rx⟩
  rw[n1] at e4;cases e4;rw[n1] at e4;cases e4;exact#[p,v',r1.eq,?_,k _ M2 _ H2 h2 (t1.trans t2) m2 rx];rw[lZ r2, <- n2];show qP.k hk
def vx (a b:WE):WE:=λρ M q=>a ρ M λy M1=>b ρ M1 λx M2=>im λp kvs k=>fZ (x=wr p) (M2 p=some (.dK kvs)) (y=gq k) (q (wb (!(fX kvs k).isSome)) M2)
def KR.some (k:cH)(r:KR K H l vs):(iQ vs k).isSome=(fX l k).isSome:=by rcases r.val k with⟨a,b⟩ | ⟨x,v,a,b,_⟩ <;>rw[a,b] <;>rfl
instance {t u:TE}{a b:WE} [ia:IE K t a] [ib:IE K u b]:IE K (A_ t u) (vx a b) where
 imp:=λρ M σ H q Q o h k=>ia.imp ρ M σ H _ _ o h λy M1 v H1 h1 t1 m1 r1=>ib.imp ρ M1 σ H1 _ _ (o.mv t1 m1) h1 λx M2 u H2 ⟨p,kvs,ky,e1,e2,e3,h2⟩ t2 m2 r2=>by subst e1 e3;let⟨ks,hk,rr⟩:=m2 p _ e2;exact#[p,iQ ks ky,r2.eq,by rw[lZ r1];show qP.k hk,k _ M2 _ H2 h2 (t1.trans t2) m2 ?_];rw[rr.some];show WR.v
def zc (a b c:WE):WE:=λρ M q=>a ρ M λx M1=> ∃p,d_ (x=wr p) (∃kvs,M1 p=some (.dK kvs)) (b ρ M1 λy M2=>c ρ M2 λz M3=>cO λkvs k=>d_ (M3 p=some (.dK kvs)) (y=gq k) (q ((fX kvs k).getD z) M3))
instance {t u s:TE}{a b c:WE} [ia:IE K t a] [ib:IE K u b] [ic:IE K s c]:IE K (Fm t u s) (zc a b c) where
 imp:=λρ M σ H q Q o h k=>ia.imp ρ M σ H _ _ o h λx M1 v H1 ⟨p,e,⟨kvs,hp⟩,h1⟩ t1 m1 r1=>by
  subst e;let⟨ks,hk,rr⟩:=m1 p _ hp;exact#[p,r1.eq, .inl #[ks, .inl hk],ib.imp ρ M1 σ H1 _ _ (o.mv t1 m1) h1 λy M2 u H2 h2 t2 m2 r2=>ic.imp ρ M2 σ H2 _ _ (o.mv (t1.trans t2) m2) h2 λz M3 u3 H3 ⟨kvs,ky,e2,e3,h3⟩ t3 m3 r3=> ?_];subst e3;let⟨ks,hk,rr⟩:=m3 p _ e2;exact#[iQ ks ky,by rw[lZ (r2.ts t3)];show qP.k hk,k _ M3 _ H3 h3 ((t1.trans t2).trans t3) m3 ?_];rcases rr.val ky with⟨n1,n2⟩ | ⟨x',v',n1,n2,rx⟩
  rw[n1,n2];show r3;rw[n1,n2];show rx
end
section
variable {K:Ug}
def LX (i:Nat):WG:=λx ρ M q=>q (ρ.set i (some x)) M
instance {i:Nat}:IG K (oI i) (LX i) where
 imp:=λx v ρ M σ H q Q o r h k=>k _ M _ H h (bu.refl H) #[o.env.set i r,o.hp]
def Oe:Lu:=λxs ρ M q=>xs= [] /\ q ρ M
def LY (a:WG)(b:Lu):Lu:=λxs ρ M q=>cO λx r=>xs=x::r /\ a x ρ M λρ' M'=>b r ρ' M' q
instance:Xv K Qz Oe where
 imp:=λx v ρ M σ H q Q o r h k=>by let⟨rfl,h⟩:=h;show#[by simpa only[c7] using r,k _ M _ H h (bu.refl H) o]
instance {t:TG}{u:Jh}{a:WG}{b:Lu} [ia:IG K t a] [ib:Xv K u b]:Xv K (Cb t u) (LY a b) where
 imp:=λx v ρ M σ H q Q o r h k=>by let⟨y,e9,rfl,h⟩:=h;simp![c7] at r;let⟨v1,t1,rfl,r1,r2⟩:=r;show#[v1,t1,rfl,ia.imp y v1 ρ M σ H _ _ o r1 h λρ' M' σ' H' h' ts o'=>ib.imp e9 t1 ρ' M' σ' H' _ _ o' (r2.ts ts) h' λρ2 M2 σ2 H2 h2 Sq o2=>k ρ2 M2 σ2 H2 h2 (ts.trans Sq) o2]
def Si (n:Nat)(a:Lu):WG:=λx ρ M q=> ∃l,d_ (x= .tup l) (l.length=n) (a l ρ M q)
instance {n:Nat}{t:Jh}{a:Lu} [ia:Xv K t a]:IG K (Qy K n t) (Si n a) where
 imp:=λx v ρ M σ H q Q o r h k=>by let⟨l,rfl,hl,h⟩:=h;let⟨a',vs,rfl,hv,rr⟩:=r.tup;show#[a',vs,rfl,hv,by rw[rr.length];show hl,ia.imp l vs ρ M σ H _ _ o rr h k]
abbrev Ig:=W ->W ->W ->Mp ->(Mp ->Prop) ->Prop
class VA (K:PySem.W.Frag) (t:Ih) (w:outParam Ig):Prop where
 imp: ∀ (x y z:W) (v u r:V) (M:Mp) (H:Hp) (q:Mp ->Prop) (Q:Hp ->Prop),ij K M H ->WR K H x v ->WR K H y u ->WR K H z r ->w x y z M q ->(∀M' H',q M' ->bu H H' ->ij K M' H' ->Q H') ->t v u r H Q
def LK:Ig:=λx y z M q=>kr λa l k j=>j8 (x=wr a) (y=wi k) (M a=some (.lst l)) (wW l.length k=some j) (q (um M a (.lst (l.set j z))))
instance:VA K Mt LK where
 imp:=by rintro x y z v u r M H q Q m r1 r2 r3 ⟨a,l,i,j,rfl,rfl,hl,e,h⟩ k;let⟨vs,hv,rr⟩:=m a _ hl;show#[a,vs,i,j,r1.eq,r2.eq,hv,by rw[rr.length];show e,k _ _ h (mT hv) (m.putL hv (rr.set j r3))]
def Sj (a b:WE)(s:Ig):WG:=λx ρ M q=>a ρ M λo M1=>b ρ M1 λi M2=>s o i x M2 λM3=>q ρ M3
instance {t u:TE}{s:Ih}{a b:WE}{w:Ig} [ia:IE K t a] [ib:IE K u b] [is:VA K s w]:IG K (U7 t u s) (Sj a b w) where
 imp:=λx v ρ M σ H q Q o r h k=>ia.imp ρ M σ H _ _ o h λy M1 v1 H1 h1 t1 m1 r1=>ib.imp ρ M1 σ H1 _ _ (o.mv t1 m1) h1 λz M2 v2 H2 h2 t2 m2 r2=>is.imp y z x v1 v2 v M2 H2 _ _ m2 (r1.ts t2) r2 (r.ts (t1.trans t2)) h2 λM3 H3 h3 t3 m3=>k ρ M3 σ H3 h3 ((t1.trans t2).trans t3) (o.mv ((t1.trans t2).trans t3) m3)
def Ml:WS:=λD ρ M=>D.nx ρ M
instance:IS K L5 Ml where
 imp:=λρ M σ H D' D o h e=>e.nx ρ M σ H h (bu.refl H) o
def JE (a b:WS):WS:=λD ρ M=>a {D with nx:=b D} ρ M
instance {t u:TS}{a b:WS} [ia:IS K t a] [ib:IS K u b]:IS K (Ow t u) (JE a b) where
 imp:=λρ M σ H D' D o h e=>ia.imp ρ M σ H _ _ o h #[λρ' M' σ' H' h' ts o'=>ib.imp ρ' M' σ' H' D' D o' h' (e.mv ts),e.rt,e.bk,e.ct]
def Mr:WS:=λD ρ M=>D.ct ρ M
instance:IS K L9 Mr where
 imp:=λρ M σ H D' D o h e=>e.ct ρ M σ H h (bu.refl H) o
def Mm (a:WE):WS:=λD ρ M=>a ρ M λ_ M1=>D.nx ρ M1
instance {t:TE}{a:WE} [ia:IE K t a]:IS K (L7 t) (Mm a) where
 imp:=λρ M σ H D' D o h e=>ia.imp ρ M σ H _ _ o h λx M1 v H1 h1 t1 m1 r1=>e.nx ρ M1 σ H1 h1 t1 (o.mv t1 m1)
def SY (a:WE):WS:=λD ρ M=>a ρ M D.rt
instance {t:TE}{a:WE} [ia:IE K t a]:IS K (SA t) (SY a) where
 imp:=λρ M σ H D' D o h e=>ia.imp ρ M σ H _ _ o h λx M1 v H1 h1 t1 m1 r1=>e.rt x M1 v H1 h1 t1 m1 r1
def Mj:WS:=λD _ M=>D.rt wn M
instance:IS K LZ Mj where
 imp:=λρ M σ H D' D o h e=>e.rt wn M .fh H h (bu.refl H) o.hp WR.v
def Wi (c:WT)(a b:WS):WS:=λD ρ M=>c ρ M λk M1=>if k=true then a D ρ M1 else b D ρ M1
instance {tc:TT}{t u:TS}{c:WT}{a b:WS} [ic:IT K tc c] [ia:IS K t a] [ib:IS K u b]:IS K (SH tc t u) (Wi c a b) where
 imp:=λρ M σ H D' D o h e=>ic.imp ρ M σ H _ _ o h λk M1 H1 h1 t1 m1=>by
  cases k with
  | true=>simp![bZ] at h1 ⊢;show ia.imp ρ M1 σ H1 D' D (o.mv t1 m1) h1 (e.mv t1)
  | false=>simp![aB,bj] at h1 ⊢;show ib.imp ρ M1 σ H1 D' D (o.mv t1 m1) h1 (e.mv t1)
def S4 (a:WE)(g:WG):WS:=λD ρ M=>a ρ M λx M1=>g x ρ M1 D.nx
instance {t:TE}{g:TG}{a:WE}{w:WG} [ia:IE K t a] [ig:IG K g w]:IS K (Fs t g) (S4 a w) where
 imp:=λρ M σ H D' D o h e=>ia.imp ρ M σ H _ _ o h λx M1 v H1 h1 t1 m1 r1=>ig.imp x v ρ M1 σ H1 _ _ (o.mv t1 m1) r1 h1 λρ2 M2 σ2 H2 h2 t2 o2=>e.nx ρ2 M2 σ2 H2 h2 (t1.trans t2) o2
def zz (a b c:WE):WS:=λD ρ M=>c ρ M λz M1=>a ρ M1 λx M2=>b ρ M2 λy M3=>im λp kvs k=>j8 (x=wr p) (M3 p=some (.dK kvs)) (y=gq k) (kvs.length<sizeLine) (D.nx ρ (um M3 p (.dK (kc kvs k z))))
instance {t u s:TE}{a b c:WE} [ia:IE K t a] [ib:IE K u b] [ic:IE K s c]:IS K (Mo t u s) (zz a b c) where
 imp :=λρ M σ H D' D o h e=>ic.imp ρ M σ H _ _ o h λz M1 v1 H1 h1 t1 m1 r1=>ia.imp ρ M1 σ H1 _ _ (o.mv t1 m1) h1 λx M2 v2 H2 h2 t2 m2 r2=>ib.imp ρ M2 σ H2 _ _ (o.mv (t1.trans t2) m2) h2 λy M3 v3 H3 ⟨p,kvs,k,e1,e2,e3,hl,h3⟩ t3 m3 r3=>by subst e1 e3;let⟨ks,hk,rr⟩:=m3 p _ e2;have ts:=nK (u:= .dK (gQ ks k v1)) hk;exact#[p,_,r2.eq,?_,e.nx ρ _ σ (dy H3 p (.dK (gQ ks k v1))) h3 (((t1.trans t2).trans t3).trans ts) (o.mv (((t1.trans t2).trans t3).trans ts) (m3.putD hk (KR.put (r1.ts (t2.trans t3)) rr)))];rw[lZ r3];show Is.k hk (by rw[rr.length];show hl)
def zA (a b:WE):WS:=λD ρ M=>a ρ M λx M1=>b ρ M1 λy M2=>im λp kvs k=>j8 (x=wr p) (M2 p=some (.dK kvs)) (y=gq k) ((fX kvs k).isSome=true) (D.nx ρ (um M2 p (.dK (uV kvs k))))
instance {t u:TE}{a b:WE} [ia:IE K t a] [ib:IE K u b]:IS K (Mq t u) (zA a b) where
 imp :=λρ M σ H D' D o h e=>ia.imp ρ M σ H _ _ o h λx M2 v2 H2 h2 t2 m2 r2=>ib.imp ρ M2 σ H2 _ _ (o.mv t2 m2) h2 λy M3 v3 H3 ⟨p,kvs,k,e1,e2,e3,hl,h3⟩ t3 m3 r3=>by subst e1 e3;let⟨ks,hk,rr⟩:=m3 p _ e2;have ts:=nK (u:= .dK (qh ks k)) hk;show#[p,ks,k,r2.eq,hk,lZ r3,by rw[rr.some];show hl,e.nx ρ _ σ _ h3 ((t2.trans t3).trans ts) (o.mv ((t2.trans t3).trans ts) (m3.putD hk rr.drop))]
def Em (K:Ug)(H1:Hp)(J:It)(xs:fk W)(keep:Mp ->Prop):Prop:=∀i M H,bu H1 H ->ij K M H ->keep M ->(xs.length=i ->J.stop i H) /\ (i<xs.length ->J.go i H) /\ ∀v H',i<xs.length ->J.LI i H v H' ->bu H H' /\ ij K M H' /\ ∃x,xs[i]? =some x /\ WR K H' x v
class II (K:PySem.W.Frag) (t:TI) (w:outParam WI):Prop where
 imp: ∀ (ρ:eE) (M:Mp) (σ:St) (H:Hp) (q:List W ->(Mp ->Prop) ->Mp ->Prop) (R:It ->Hp ->Prop),Ok K ρ M σ H ->w ρ M q ->(∀xs keep J M' H',q xs keep M' ->bu H H' ->ij K M' H' ->Em K H' J xs keep ->R J H') ->t σ H R
def GX (a:WE):WI:=λρ M q=>a ρ M λx M1=>cO λp l=>d_ (x=wr p) (M1 p=some (.lst l)) (q l (λM'=>M' p=some (.lst l)) M1)
def Ud (a:WE):WI:=λρ M q=>a ρ M λx M1=> ∃l,x= .tup l /\ q l (λ_=>True) M1
def gg (lo:Int)(n:Nat):fk W:=(List.range n).map λ(k:Nat)=>wi (lo+(k:Int))
def GW (a:WA):WI:=λρ M q=>a ρ M λxs M1=> ∃j:Int,fZ (xs= [wi j]) (-(2 ^ 62) <=j) (j<2 ^ 62) (q (gg 0 j.toNat) (λ_=>True) M1)
def GV (a:WA):WI:=λρ M q=>a ρ M λxs M1=>cO λ(i j:Int)=>d_ (xs= [wi i,wi j]) (-(2 ^ 62) <=i /\ i<2 ^ 62 /\ -(2 ^ 62) <=j /\ j<2 ^ 62) (q (gg i (j - i).toNat) (λ_=>True) M1)
def Dy:Em K H1 (Itl K p) l (λM'=>M' p=some (.lst l)):=by intro i M H ts m hk;let⟨vs,hv,rr⟩:=m p _ hk;have hl:=rr.length;exact#[λh=>#[vs,gS.of hv, ∅],λh=>#[vs,vs[i]'∅,gS.of hv,by simp],λv H' hi y=> ?_];let⟨rfl,y⟩:=y;have:=y vs (gS.of hv);let⟨d,hd,r⟩:=rr.back this;show#[bu.refl _,m,d,hd,r]
def G2 (hv:jI K H1 p vs)(rr:c7 K H1 l vs):Em K H1 (Itt K p) l (λ_=>True):=by intro i M H ts m _;have sv:=Un.Yl ts hv;have FJ:=rr.ts ts;have hl:=FJ.length;exact#[λh=>#[vs,sv, ∅],λh=>#[vs,vs[i]'∅,sv,by simp],λv H' hi y=> ?_];let⟨rfl,y⟩:=y;have:=y vs sv;let⟨d,hd,r⟩:=FJ.back this;show#[bu.refl _,m,d,hd,r]
def x_:Em K H1 (Vz lo n) (gg lo n) (λ_=>True):=by
 intro i M H ts m _;have hl:(gg lo n).length=n:=by simp[gg]
 rw[hl];exact#[λh=>Nat.le_of_eq h,λh=>h,λv H' hi y=> ?_];let⟨rfl,y⟩:=y;exact#[bu.refl _,m,wi (lo+i),?_,by rw[y];show WR.v];simp[gg,hi]
instance {t:TE}{a:WE} [ia:IE K t a]:II K (G4 K t) (GX a) where
 imp:=λρ M σ H q R o h k=>ia.imp ρ M σ H _ _ o h λx M1 v H1 ⟨p,l,e,hp,h1⟩ t1 m1 r1=>by subst e;let⟨vs,hv,rr⟩:=m1 p _ hp;show#[p,r1.eq,#[vs,gS.of hv],k l _ _ M1 H1 h1 t1 m1 Dy]
instance {t:TE}{a:WE} [ia:IE K t a]:II K (Ui K t) (Ud a) where
 imp:=λρ M σ H q R o h k=>ia.imp ρ M σ H _ _ o h λx M1 v H1 ⟨l,e,h1⟩ t1 m1 r1=>by subst e;let⟨p,vs,rfl,hv,rr⟩:=r1.tup;show#[p,rfl,#[vs,hv],k l _ _ M1 H1 h1 t1 m1 (G2 hv rr)]
instance {t:TA}{a:WA} [ia:IA K t a]:II K (MV t) (GW a) where
 imp:=λρ M σ H q R o h k=>ia.imp ρ M σ H _ _ o h λxs M1 v H1 ⟨j,e,h0,h1,h2⟩ t1 m1 r1=>by subst e;let⟨v,rfl,r⟩:=r1.one;cases r.eq;show#[j,rfl,h0,h1,k _ _ _ M1 H1 h2 t1 m1 x_]
instance {t:TA}{a:WA} [ia:IA K t a]:II K (MU t) (GV a) where
 imp:=λρ M σ H q R o h k=>ia.imp ρ M σ H _ _ o h λxs M1 v H1 ⟨i,j,e,h0,h2⟩ t1 m1 r1=>by subst e;let⟨v,u,rfl,r,r'⟩:=r1.two;cases r.eq;cases r'.eq;show#[i,j,rfl,h0,k _ _ _ M1 H1 h2 t1 m1 x_]
def S0 (it:WI)(g:WG)(b:WS):WS:=λD ρ M=>it ρ M λxs keep M1=> ∃I:Nat ->eE ->Mp ->Prop,fZ (I 0 ρ M1) (∀i ρ M,i<=xs.length ->I i ρ M ->keep M) (∀i x ρ M,xs[i]? =some x ->I i ρ M ->g x ρ M λρ2 M2=>b {D with nx:=I (i+1),ct:=I (i+1),bk:=D.nx} ρ2 M2) (∀ρ M,I xs.length ρ M ->D.nx ρ M)
instance {ti:TI}{g:TG}{t:TS}{it:WI}{w:WG}{b:WS} [ii:II K ti it] [ig:IG K g w] [ib:IS K t b]:IS K (SI ti g t) (S0 it w b) where
 imp :=λρ M σ H D' D o h e=>ii.imp ρ M σ H _ _ o h λxs keep J M1 H1 h1 t1 m1 ok=>by let⟨I,h0,hk,hs,hd⟩:=h1;exact#[λi m σ' H'=>m=xs.length - i /\ i<=xs.length /\ cO λρ' M'=>d_ (I i ρ' M') (bu H1 H') (Ok K ρ' M' σ' H'),#[_,rfl,du _,ρ,M1,h0,bu.refl _,o.mv t1 m1],?_];rintro i m σ' H' ⟨rfl,hi,ρ',M',hI,ts,o'⟩;let⟨k1,k2,k3⟩:=ok i M' H' ts o'.hp (hk i ρ' M' hi hI);by_cases fU:i<xs.length;exact .inr #[k2 fU,λσ2 H2=>cO λρ2 M2=>d_ (I (i+1) ρ2 M2) (bu H1 H2) (Ok K ρ2 M2 σ2 H2),λσ2 H2 ⟨ρ2,M2,a,b,c⟩=>#[xs.length - (i+1), ∅,rfl,fU,ρ2,M2,a,b,c],λv H2 y=> ?_];let⟨ty,my,x,hx,r⟩:=k3 v H2 fU y;replace ts:=ts.trans ty;exact ig.imp x v ρ' M' σ' H2 _ _ (o'.mv ty my) r (hs i x ρ' M' hx hI) λρ3 M3 σ3 H3 h3 t3 o3=>ib.imp ρ3 M3 σ3 H3 _ _ o3 h3 #[λa b c d h t o=>#[a,b,h,(ts.trans t3).trans t,o],λa b c d h t=>e.rt a b c d h (t1.trans ((ts.trans t3).trans t)),λa b c d h t=>e.nx a b c d h (t1.trans ((ts.trans t3).trans t)),λa b c d h t o=>#[a,b,h,(ts.trans t3).trans t,o]];have e':i=xs.length:= ∅;subst e';show .inl #[k1 rfl,e.nx ρ' M' σ' H' (hd ρ' M' hI) (t1.trans ts) o']
def zy (c:WT)(b:WS):WS:=λD ρ M=> ∃I:Nat ->eE ->Mp ->Prop,(∃m,I m ρ M) /\ ∀m ρ M,I m ρ M ->c ρ M λk M1=>if k=true then b {D with nx:=λρ' M'=> ∃m',m'<m /\ I m' ρ' M',ct:=λρ' M'=> ∃m',m'<m /\ I m' ρ' M',bk:=D.nx} ρ M1 else D.nx ρ M1
instance {tc:TT}{t:TS}{c:WT}{b:WS} [ic:IT K tc c] [ib:IS K t b]:IS K (Fd tc t) (zy c b) where
 imp :=λρ M σ H D' D o ⟨I,⟨m,h0⟩,hs⟩ e=>by
  exact#[λm σ' H'=>cO λρ' M'=>d_ (I m ρ' M') (bu H H') (Ok K ρ' M' σ' H'),#[m,ρ,M,h0,bu.refl _,o],?_];rintro m σ' H' ⟨ρ',M',hI,ts,o'⟩;exact ic.imp ρ' M' σ' H' _ _ o' (hs m ρ' M' hI) λk M1 H1 h1 t1 m1=> ?_;cases k with
  | true=>simp![bZ] at h1 ⊢;exact#[λσ2 H2=> ∃m',m'<m /\ cO λρ2 M2=>d_ (I m' ρ2 M2) (bu H H2) (Ok K ρ2 M2 σ2 H2),λσ2 H2 h=>h,ib.imp ρ' M1 σ' H1 _ _ (o'.mv t1 m1) h1 #[λa b c d ⟨m',hm,h⟩ t o=>#[m',hm,a,b,h,(ts.trans t1).trans t,o],λa b c d h t=>e.rt a b c d h ((ts.trans t1).trans t),λa b c d h t=>e.nx a b c d h ((ts.trans t1).trans t),λa b c d ⟨m',hm,h⟩ t o=>#[m',hm,a,b,h,(ts.trans t1).trans t,o]]]
  | false=>simp![aB,bj] at h1 ⊢;show e.nx ρ' M1 σ' H1 h1 (ts.trans t1) (o'.mv t1 m1)
def mx (own:Nat)(fr:fk Nat)(ρ:eE):eE:=List.replicate own none++fr.map λj=>(ρ[j]?).join
def Jg.RI (own:Nat)(fr:fk Nat)(h:Jg K H ρ σ):Jg K H (mx own fr ρ) (kT own fr σ):=by
 unfold mx kT;exact#[by simp,λi x e=> ?_];by_cases hi:i<own;rw[bo ⇑hi,List.getElem?_replicate,am hi] at e;cases e;rw [a5 ⇑hi,List.length_replicate,az] at e;rw[a5 ⇑hi,List.length_replicate,az];cases ej:fr[i - own]? with
 | none=>rw[ej] at e;cases e
 | some j=>
  rw[ej] at e;simp![Option.map_some,Option.some.injEq] at e ⊢;cases er:ρ[j]? with
  | none=>rw[er] at e;cases e
  | some z=>rw[er] at e;simp![Option.join_some] at e;subst e;let⟨v,ev,r⟩:=h.2 j x er;show#[v,by rw[ev];rfl,r]
def LS (it:WI)(own:Nat)(fr:fk Nat)(g:WG)(c:WT)(el:WE):WE:=λρ M q=>it ρ M λxs keep M1=>xs.length<=sizeLine /\ ∀p,M1 p=none -> ∃I:Nat ->fk W ->Mp ->Prop,fZ (I 0 [] (um M1 p (.lst []))) (∀i ys M,i<=xs.length ->I i ys M ->keep M /\ M p=some (.lst ys) /\ ys.length<=i) (∀i x ys M,xs[i]? =some x ->I i ys M ->g x (mx own fr ρ) M λρ2 M2=>c ρ2 M2 λb M3=>if b=true then el ρ2 M3 λy M4=>M4 p=some (.lst ys) /\ I (i+1) (ys++ [y]) (um M4 p (.lst (ys++ [y]))) else I (i+1) ys M3) (∀ys M,I xs.length ys M ->q (wr p) M)
instance {ti:TI}{own:Nat}{fr:fk Nat}{g:TG}{tc:TT}{te:TE}{it:WI}{w:WG}{c:WT}{el:WE} [ii:II K ti it] [ig:IG K g w] [ic:IT K tc c] [ie:IE K te el]:IE K (Fp ti own fr g tc te) (LS it own fr w c el) where
 imp :=λρ M σ H q Q o h k=>ii.imp ρ M σ H _ _ o h λxs keep J M1 H1 h1 t1 m1 ok=>by
  intro p hp;let⟨hz,h1⟩:=h1;let⟨I,h0,hk,hs,hd⟩:=h1 p (m1.fresh hp);have tp:=L2.gk.ts (cB (o:= .lst []) hp);exact#[λi m vs H'=>m=xs.length - i /\ i<=xs.length /\ cO λys M'=>j8 (I i ys M') (bu H1 H') (ij K M' H') (c7 K H' ys vs) (H' p=some (.lst vs)),#[_,rfl,du _,[],_,h0,tp,m1.qx hp c7.nil,c7.nil,cr],?_];rintro i m vs H' ⟨rfl,hi,ys,M',hI,ts,m',rv,hv⟩;exact#[hv,?_];let⟨kp,hMp,hyl⟩:=hk i ys M' hi hI;let⟨k1,k2,k3⟩:=ok i M' H' ts m' kp;by_cases fU:i<xs.length;exact .inr #[k2 fU,by rw[rv.length];lia,λv H2 y=> ?_];let⟨ty,my,x,hx,r⟩:=k3 v H2 fU y;replace ts:=ts.trans ty;have oc:Ok K (mx own fr ρ) M' (kT own fr σ) H2:=#[(o.env.ts (t1.trans ts)).RI own fr,my]
  exact ig.imp x v _ M' _ H2 _ _ oc r (hs i x ys M' hx hI) λρ3 M3 σ3 H3 h3 t3 o3=>ic.imp ρ3 M3 σ3 H3 _ _ o3 h3 λb M4 H4 h4 t4 m4=> ?_;cases b with
  | true=>simp![bZ] at h4 ⊢;exact ie.imp ρ3 M4 σ3 H4 _ _ (o3.mv t4 m4) h4 λz M5 u H5 ⟨h5,h6⟩ t5 m5 r5=> ?_;let⟨LW,G9,JG⟩:=m5 p _ h5;have Yj:=(t3.trans t4).trans t5;have t6:=mT (u:= .lst (LW++ [u])) G9;show#[LW,G9,by rw[JG.length];lia,_, ∅,rfl,fU,_,_,h6,(ts.trans Yj).trans t6,m5.putL G9 (JG.snoc r5),(JG.snoc r5).ts t6,cr]
  | false=>simp![aB,bj] at h4 ⊢;let⟨LW,G9,JG⟩:=m4 p _ (hk (i+1) ys M4 fU h4).2.1;show#[LW,_, ∅,rfl,fU,_,_,h4,ts.trans (t3.trans t4),m4,JG,G9]
  have e':i=xs.length:= ∅;subst e';show .inl #[k1 rfl,k _ M' _ H' (hd ys M' hI) (t1.trans ts) m' WR.v]
def RP:WT:=λ_ M q=>q true M
instance:IT K Sy RP where
 imp:=λρ M σ H q Q o h k=>k _ M H h (bu.refl H) o.hp
end
section
variable {K:Ug}
theorem ij.sub (s:Sm M M')(m:ij K M' H):ij K M H:=λa o e=>m a o (s a o e)
def okS (F:EI K x qual st f fd)(S:jV N ps (bn st))(len: ∀vs M q,p vs M q ->vs.length=ps.length)(oG: ∀ (cdv:fm) (A:Around) (outer:fk Env) (s:fo) (H:Hp) (E:XK),gR k (A.deeper (PyProof.Rows.envOfC qual (bn st) s.heap.objs.size f cdv)) ->∃t,y9 (sL iq P w K mg base N qual (bn st) f cdv A outer s H E).Pf (fV st) t /\ ∃w',IS K t w' /\ ∀vs M q,p vs M q ->w' {nx:=λ_ M'=> ∃M0,Sm M0 M' /\ q wn M0,rt:=λx M'=> ∃M0,Sm M0 M' /\ q x M0} (vs.map some++List.replicate (N.length - vs.length) none) M): dR P w K mg base iq (k+1) f fd ps (jJ K p):=by
 have h:=okW (K:=K) (P:=P) (w:=w) (mg:=mg) (base:=base) (k:=k) (p:=λvs M q=> ∃q',p vs M q' /\ q=λx M'=> ∃M0,Sm M0 M' /\ q' x M0) F S (λvs M q ⟨q',h,_⟩=>len vs M q' h) λcdv A outer s H E hr=>by let⟨t,h1,w',h2,h3⟩:=oG cdv A outer s H E hr;exact#[t,w',h1,h2,?_];rintro vs M q ⟨q',h,rfl⟩;show h3 vs M q' h
 exact h.imp λvs H Q E ⟨xs,M,q,r,m,hp,hk⟩=>#[xs,M,_,r,m,#[q,hp,rfl],?_]
 rintro x M' v H' ⟨M0,s,hq⟩ ts m' r';show hk x M0 v H' hq ts (m'.sub s) r'
def D9 {xs:fk W}{keep:Mp ->Prop}{M1:Mp}{g:WG}{c:WT}{el:WE}{q:WK}(f:W ->fG W)(hz:xs.length<=sizeLine)(kf: ∀M,Sm M1 M ->keep M)(hs: ∀ (i:Nat) x,xs[i]? =some x -> ∀ (M:Mp) (N:fG W ->Mp ->Prop),Sm M1 M ->N (f x) M ->g x (mx own fr ρ) M λρ2 M2=>c ρ2 M2 λb M3=>if b=true then el ρ2 M3 λy M4=>N (some y) M4 else N none M3)(hq: ∀p,M1 p=none ->q (wr p) (um M1 p (.lst (xs.filterMap f)))): xs.length<=sizeLine /\ ∀p,M1 p=none -> ∃I:Nat ->fk W ->Mp ->Prop,fZ (I 0 [] (um M1 p (.lst []))) (∀i ys M,i<=xs.length ->I i ys M ->keep M /\ M p=some (.lst ys) /\ ys.length<=i) (∀i x ys M,xs[i]? =some x ->I i ys M ->g x (mx own fr ρ) M λρ2 M2=>c ρ2 M2 λb M3=>if b=true then el ρ2 M3 λy M4=>M4 p=some (.lst ys) /\ I (i+1) (ys++ [y]) (um M4 p (.lst (ys++ [y]))) else I (i+1) ys M3) (∀ys M,I xs.length ys M ->q (wr p) M):=by
 exact#[hz,λp hp=>#[λi ys M=>M=um M1 p (.lst ys) /\ ys=(xs.take i).filterMap f,#[rfl,by simp],?_,?_,?_]];rintro i ys M hi ⟨rfl,rfl⟩;exact#[kf _ (ce hp),au,aT (List.length_filterMap_le _ _) ?_];rw[bg];lia;rintro i x ys M hx ⟨rfl,rfl⟩;exact hs i x hx _ (λo M4=>match o with
 | some y=>M4 p=some (.lst ((xs.take i).filterMap f)) /\ (um M4 p (.lst ((xs.take i).filterMap f++ [y]))=um M1 p (.lst ((xs.take i).filterMap f++ [y])) /\ (xs.take i).filterMap f++ [y]=(xs.take (i+1)).filterMap f)
 | none=>M4=um M1 p (.lst ((xs.take i).filterMap f)) /\ (xs.take i).filterMap f=(xs.take (i+1)).filterMap f) (ce hp) ?_
 have e:xs.take (i+1)=xs.take i++ [x]:=by rw[bC,hx];rfl
 cases hf:f x with
 | none=>show#[rfl,by rw[e,List.filterMap_append];simp[hf]]
 | some y=>show#[au,ub,by rw[e,List.filterMap_append];simp[hf]]
 rintro ys M ⟨rfl,rfl⟩;rw[bQ];show hq p hp
mutual
def HP:W ->fG Dt
 | .v .fh=>some .fh
 | .v (.bl b)=>some (.bl b)
 | .v (.int i)=>some (.int i)
 | .v (.str x)=>some (.str x)
 | .v _=>none
 | .tup l=>(pV l).map .tup
def pV:fk W ->fG (fk Dt)
 | []=>some []
 | x::r=>match HP x,pV r with
  | some d,some l=>some (d::l)
  | _,_=>none
end
mutual
theorem FM {H:Hp}: ∀ (x:W) (d:Dt) (v:V),HP x=some d ->WR K H x v ->Rep K H d v
 | .v y,d,v,e,r=>by cases r.eq;cases y<;>simp![HP,Option.some.injEq,reduceCtorEq] at e<;>subst e<;>simp![Rep]
 | .tup l,d,v,e,r=>by
  let⟨a,vs,rfl,hv,rr⟩:=r.tup;simp![HP] at e;cases hd:pV l with
  | none=>rw[hd] at e;cases e
  | some ds=>rw[hd] at e;cases e;simp![Rep];show#[a,vs,rfl,hv,vL l ds vs hd rr]
theorem vL {H:Hp}: ∀ (l:fk W) (ds:fk Dt) (vs:fk V),pV l=some ds ->c7 K H l vs ->io K H ds vs
 | [],ds,vs,e,r=>by simp![pV] at e;cases e;simp![c7] at r;simp![io];show r
 | x ::l,ds,vs,e,r=>by
  simp![pV] at e;cases hx:HP x with
  | none=>rw[hx] at e;cases e
  | some d=>
   cases hl:pV l with
   | none=>rw[hx,hl] at e;cases e
   | some ds'=>rw[hx,hl] at e;cases e;simp![c7] at r;let⟨v,t,rfl,r1,r2⟩:=r;simp![io];show#[v,t,rfl,FM x d v hx r1,vL l ds' t hl r2]
end
def DR (M:Mp)(x:W)(d:Dt):Prop:=HP x=some d \/ im λa l ds=>fZ (x=wr a) (M a=some (.lst l)) (pV l=some ds) (d= .lst ds)
def DR.rep (m:ij K M H)(r:WR K H x v)(h:DR M x d):Rep K H d v:=by obtain h | ⟨a,l,ds,rfl,hl,e,rfl⟩:=h;show FM x d v h r;cases r.eq;let⟨vs,hv,rr⟩:=m a _ hl;simp![Rep];show#[a,vs,rfl,gS.of hv,vL l ds vs e rr]
def R':wN:=λx y M q=>cO λd e=>j8 (DR M x d) (DR M y e) (lP d e=true) (uW d<=50) (q (wb (sF d e)) M)
def N7:wN:=λx y M q=>cO λd e=>j8 (DR M x d) (DR M y e) (lP d e=true) (uW d<=50) (q (wb (!sF d e)) M)
instance:IR K (JN K) R' where
 imp:=by rintro x y v u M H q Q m r1 r2 ⟨d,e,h1,h2,h3,h4,h⟩ k;show#[d,e,h3,h4,h1.rep m r1,h2.rep m r2,k _ M _ H h (bu.refl H) m WR.v]
instance:IR K (Ta K) N7 where
 imp:=by rintro x y v u M H q Q m r1 r2 ⟨d,e,h1,h2,h3,h4,h⟩ k;show#[d,e,h3,h4,h1.rep m r1,h2.rep m r2,k _ M _ H h (bu.refl H) m WR.v]
instance {r r':R2}{t u s:TE}{a b c:WE}{w w':wN} [ir:IR K r w] [ir':IR K r' w'] [ia:IE K t a] [ib:IE K u b] [ic:IE K s c]:IE K (Fq r r' t u s) (E4 w w' a b c) where
 imp :=λρ M σ H q Q o h k=>ia.imp ρ M σ H _ _ o h λx M1 v H1 h1 t1 m1 r1=>ib.imp ρ M1 σ H1 _ _ (o.mv t1 m1) h1 λy M2 u H2 h2 t2 m2 r2=>ir.imp x y v u M2 H2 _ _ m2 (r1.ts t2) r2 h2 λz M3 v3 H3 ⟨kk,e,h3⟩ t3 m3 r3=>by
  subst e;exact#[kk,r3.eq,?_];cases kk with
  | true=>simp![bZ] at h3 ⊢;show ic.imp ρ M3 σ H3 _ _ (o.mv ((t1.trans t2).trans t3) m3) h3 λy4 M4 v4 H4 h4 t4 m4 r4=>ir'.imp y y4 u v4 M4 H4 _ _ m4 (r2.ts (t3.trans t4)) r4 h4 λz5 M5 v5 H5 h5 t5 m5 r5=>k z5 M5 v5 H5 h5 ((((t1.trans t2).trans t3).trans t4).trans t5) m5 r5
  | false=>simp![aB,bj] at h3 ⊢;show k _ M3 _ H3 h3 ((t1.trans t2).trans t3) m3 WR.v
def ET:yQ:=λxs M q=>im λ(d:gY) (kvs:fk (cH×W)) (ks:fk Int)=>j8 (xs= [wr d]) (M d=some (.dK kvs)) (kvs.map (·.1)=ks.map Sum.inl) (ks.length<=sizeLine) (∀ (p:gY) (ns:fk Int),M p=none ->ns.Perm ks ->ns.Pairwise (· <= ·) ->q (wr p) (um M p (.lst (ns.map wi))))
instance:IC K xC ET where
 imp:=by rintro xs v M H q Q m r1 ⟨d,kvs,ks,rfl,hd,hk,hl,h⟩ k;let⟨v,rfl,r⟩:=r1.one;cases r.eq;let⟨vs,hv,rr⟩:=m d _ hd;show#[d,vs,ks,rfl,hv,by rw[rr.keys];show hk,hl,λp ns hp h1 h2=>k _ _ _ _ (h p ns (m.fresh hp) h1 h2) (L2.gk.ts (cB hp)) (m.qx hp (c7.ofInts ns)) WR.v]
end
end WL
namespace WL
open PySem L2
theorem vm {l:fk α}:iV (a::l) 0=some a:=fK (j:=0) (by rfl)
theorem aca {l:fk α}:iV (a::b::l) 1=some b:=fK (j:=1) (by rfl)
theorem ab' {l:fk α}:iV (a::b::c::l) 2=some c:=fK (j:=2) (by rfl)
theorem ab9 {l:fk α}:iV (a::b::c::d::l) 3=some d:=fK (j:=3) (by rfl)
def ab3:wW (n+1+1) 1=some 1:=by unfold wW;rw[am ∅,am ∅];rfl
def ab2:wW (n+1+1+1) 2=some 2:=by unfold wW;rw[am ∅,am ∅];rfl
def ab1:wW (n+1+1+1+1) 3=some 3:=by unfold wW;rw[am ∅,am ∅];rfl
def Ln {a:α}(h0:0<=i)(h:l[i.toNat]? =some a):iV l i=some a:=by have e:((i.toNat:Nat):Int)=i:= ∅;rw[<- e];show fK h
theorem no {P:Mp ->Prop}(h:P M): ∃M0,Sm M0 M /\ P M0:=#[M,Sm.refl M,h]
def NB (d:gY)(M M':Mp):Prop:= ∀b,b≠d ->M' b=M b
theorem NB.refl (d:gY)(M:Mp):NB d M M:=λ_ _=>rfl
theorem NB.trans {M M1 M2:Mp}(a:NB d M M1)(b:NB d M1 M2):NB d M M2:=λc n=>(b c n).trans (a c n)
theorem NB.put:NB d M (um M d o):=λb n=>aJ n
def Dr (M:Mp)(d l:gY):Prop:=kr λ(ns:fk Int) (i c s:Int)=>fZ (M d=some (.lst [wr l,wi i,wi c,wi s])) (M l=some (.lst (ns.map wi))) (0<=i) (d≠l)
def Dr.put (h:Dr M d l)(hp:M p=none):Dr (um M p o) d l:=by let⟨ns,i,c,s,h1,h2,h3,h4⟩:=h;show#[ns,i,c,s,by rw[aJ (cY h1 hp)];show h1,by rw[aJ (cY h2 hp)];show h2,h3,h4]
def Dr.OT (h:Dr M d l)(hd:p≠d)(hl:p≠l):Dr (um M p o) d l:=by let⟨ns,i,c,s,h1,h2,h3,h4⟩:=h;show#[ns,i,c,s,by rw[aJ hd.symm];show h1,by rw[aJ hl.symm];show h2,h3,h4]
def Dr.ne (h:Dr M d l)(hp:M p=none):p≠d /\ p≠l:=by let⟨ns,i,c,s,h1,h2,h3,h4⟩:=h;show#[(cY h1 hp).symm,(cY h2 hp).symm]
def dh (q:Int×Int):W:= .tup [wi q.1,wi q.2]
def bN (l:fk (Int×Int)):W:= .tup (l.map dh)
def pairs_at {l:fk (Int×Int)}{i:Nat}(h:(l.map dh)[i]? =some x): ∃q,l[i]? =some q /\ x=dh q:=by
 rw[az] at h;cases e:l[i]? with
 | none=>rw[e] at h;cases h
 | some q=>rw[e] at h;cases h;show#[q,rfl,rfl]
def oy {l:fk Int}{i:Nat}(h:(l.map wi)[i]? =some x): ∃n,l[i]? =some n /\ x=wi n:=by
 rw[az] at h;cases e:l[i]? with
 | none=>rw[e] at h;cases h
 | some q=>rw[e] at h;cases h;show#[q,rfl,rfl]
def kb (h:(gg lo n)[i]? =some x):i<n /\ x=wi (lo+i):=by unfold gg at h;rw[az] at h;by_cases hi:i<n;rw[List.getElem?_range hi] at h;cases h;show#[hi,rfl];rw[List.getElem?_eq_none ⇑hi] at h;cases h
def je:(gg lo n).length=n:=by simp[gg]
def lstK (o:fG MO)(k:fk W ->Prop):Prop:= ∃l,o=some (.lst l) /\ k l
def kH (o:fG MO)(k:fk (cH×W) ->Prop):Prop:= ∃l,o=some (.dK l) /\ k l
def tJ {α:Type}(o:fG α)(k:α ->Prop):Prop:= ∃a,o=some a /\ k a
def iW (C Q:Prop):Prop:=C /\ Q
def iU (b:Bool)(A B:Prop):Prop:=if b=true then A else B
def rZ (M:Mp)(k:gY ->Prop):Prop:= ∀p,M p=none ->k p
def HY (p:jc)(xs:fk W)(M:Mp)(q:WK):Prop:=p xs M q
def Rj (x:W)(M:Mp)(q:Bool ->Mp ->Prop):Prop:= ∃k,x=wb k /\ q k M
def iA (x:W)(k:gY ->Prop):Prop:= ∃a,x=wr a /\ k a
def tupK (x:W)(k:fk W ->Prop):Prop:= ∃l,x= .tup l /\ k l
def Ot (M:Mp)(x:W)(k:Bool ->Prop):Prop:= ∃b,Jl M x b /\ k b
def pN (x:W)(k:cH ->Prop):Prop:= ∃y,x=gq y /\ k y
def Va (xs:fk W)(keep:Mp ->Prop)(g:WG)(b:WS)(D:kn)(ρ:eE)(M1:Mp):Prop:= ∃I:Nat ->eE ->Mp ->Prop,fZ (I 0 ρ M1) (∀i ρ M,i<=xs.length ->I i ρ M ->keep M) (∀i x ρ M,xs[i]? =some x ->I i ρ M ->g x ρ M λρ2 M2=>b {D with nx:=I (i+1),ct:=I (i+1),bk:=D.nx} ρ2 M2) (∀ρ M,I xs.length ρ M ->D.nx ρ M)
def sR (xs:fk W)(keep:Mp ->Prop)(own:Nat)(fr:fk Nat)(g:WG)(c:WT)(el:WE)(ρ:eE)(M1:Mp)(q:WK):Prop:=xs.length<=sizeLine /\ ∀p,M1 p=none -> ∃I:Nat ->fk W ->Mp ->Prop,fZ (I 0 [] (um M1 p (.lst []))) (∀i ys M,i<=xs.length ->I i ys M ->keep M /\ M p=some (.lst ys) /\ ys.length<=i) (∀i x ys M,xs[i]? =some x ->I i ys M ->g x (mx own fr ρ) M λρ2 M2=>c ρ2 M2 λb M3=>if b=true then el ρ2 M3 λy M4=>M4 p=some (.lst ys) /\ I (i+1) (ys++ [y]) (um M4 p (.lst (ys++ [y]))) else I (i+1) ys M3) (∀ys M,I xs.length ys M ->q (wr p) M)
def EQ (c:WT)(b:WS)(D:kn)(ρ:eE)(M:Mp):Prop:=zy c b D ρ M
def Y6:lstK (some (.lst l)) k=k l:=by apply propext;symm;(· rintro⟨_,h,k⟩;cases h;show k);(· intro h;show#[_,rfl,h])
def abD:kH (some (.dK l)) k=k l:=by apply propext;symm;(· rintro⟨_,h,k⟩;cases h;show k);(· intro h;show#[_,rfl,h])
def YI {k:α ->Prop}:tJ (some x) k=k x:=by apply propext;symm;(· rintro⟨_,h,k⟩;cases h;show k);(· intro h;show#[_,rfl,h])
def abI:iW True Q=Q:=by simp[iW]
def Zf:iU true A B=A:=by simp[iU]
def Zg:iU false A B=B:=by simp[iU]
def ab5:Rj (.v (.bl k)) M q=q k M:=by apply propext;symm;(· rintro⟨_,h,k⟩;cases h;show k);(· intro h;show#[_,rfl,h])
def Yu:iA (.v (.ref x)) k=k x:=by apply propext;symm;(· rintro⟨_,h,k⟩;cases h;show k);(· intro h;show#[_,rfl,h])
def Yf:tupK (.tup x) k=k x:=by apply propext;symm;(· rintro⟨_,h,k⟩;cases h;show k);(· intro h;show#[_,rfl,h])
def Zb:pN (.v (.int i)) k=k (.inl i):=by apply propext;symm;(· rintro⟨y,h,z⟩;cases y<;>cases h;show z);(· intro h;show#[.inl i,rfl,h])
theorem XQ {r:eE}:iy 0 (some x::r) M q=q x M:=rfl
theorem XO {r:eE}:iy 1 (x0::some x::r) M q=q x M:=rfl
theorem XN {r:eE}:iy 2 (x0::x1::some x::r) M q=q x M:=rfl
theorem XM {r:eE}:iy 3 (x0::x1::x2::some x::r) M q=q x M:=rfl
theorem XJ {r:eE}:iy 4 (x0::x1::x2::x3::some x::r) M q=q x M:=rfl
theorem XI {r:eE}:iy 5 (x0::x1::x2::x3::x4::some x::r) M q=q x M:=rfl
theorem XH {r:eE}:iy 6 (x0::x1::x2::x3::x4::x5::some x::r) M q=q x M:=rfl
theorem XG {r:eE}:iy 7 (x0::x1::x2::x3::x4::x5::x6::some x::r) M q=q x M:=rfl
theorem XF {r:eE}:iy 8 (x0::x1::x2::x3::x4::x5::x6::x7::some x::r) M q=q x M:=rfl
theorem XE {r:eE}:iy 9 (x0::x1::x2::x3::x4::x5::x6::x7::x8::some x::r) M q=q x M:=rfl
theorem VW {r:eE}:iy 10 (x0::x1::x2::x3::x4::x5::x6::x7::x8::x9::some x::r) M q=q x M:=rfl
theorem VU {r:eE}:iy 11 (x0::x1::x2::x3::x4::x5::x6::x7::x8::x9::qq::some x::r) M q=q x M:=rfl
theorem VT {r:eE}:iy 12 (x0::x1::x2::x3::x4::x5::x6::x7::x8::x9::qq::re::some x::r) M q=q x M:=rfl
theorem VS {r:eE}:iy 13 (x0::x1::x2::x3::x4::x5::x6::x7::x8::x9::qq::re::tD::some x::r) M q=q x M:=rfl
theorem VR {r:eE}:iy 14 (x0::x1::x2::x3::x4::x5::x6::x7::x8::x9::qq::re::tD::vt::some x::r) M q=q x M:=rfl
theorem VQ {r:eE}:iy 15 (x0::x1::x2::x3::x4::x5::x6::x7::x8::x9::qq::re::tD::vt::w6::some x::r) M q=q x M:=rfl
theorem VP {r:eE}:iy 16 (x0::x1::x2::x3::x4::x5::x6::x7::x8::x9::qq::re::tD::vt::w6::y_::some x::r) M q=q x M:=rfl
theorem VO {r:eE}:iy 17 (x0::x1::x2::x3::x4::x5::x6::x7::x8::x9::qq::re::tD::vt::w6::y_::CS::some x::r) M q=q x M:=rfl
theorem VN {r:eE}:iy 18 (x0::x1::x2::x3::x4::x5::x6::x7::x8::x9::qq::re::tD::vt::w6::y_::CS::EK::some x::r) M q=q x M:=rfl
theorem VM {r:eE}:iy 19 (x0::x1::x2::x3::x4::x5::x6::x7::x8::x9::qq::re::tD::vt::w6::y_::CS::EK::Ji::some x::r) M q=q x M:=rfl
theorem VL {r:eE}:iy 20 (x0::x1::x2::x3::x4::x5::x6::x7::x8::x9::qq::re::tD::vt::w6::y_::CS::EK::Ji::N4::some x::r) M q=q x M:=rfl
theorem VJ {r:eE}:iy 21 (x0::x1::x2::x3::x4::x5::x6::x7::x8::x9::qq::re::tD::vt::w6::y_::CS::EK::Ji::N4::RM::some x::r) M q=q x M:=rfl
theorem VI {r:eE}:iy 22 (x0::x1::x2::x3::x4::x5::x6::x7::x8::x9::qq::re::tD::vt::w6::y_::CS::EK::Ji::N4::RM::Xy::some x::r) M q=q x M:=rfl
theorem VH {r:eE}:iy 23 (x0::x1::x2::x3::x4::x5::x6::x7::x8::x9::qq::re::tD::vt::w6::y_::CS::EK::Ji::N4::RM::Xy::x22::some x::r) M q=q x M:=rfl
theorem acf:wC x ρ M q=q x M:=rfl
theorem abT:wOp r a b ρ M q=a ρ M λx M1=>b ρ M1 λy M2=>r x y M2 q:=rfl
theorem abQ:wUn r a ρ M q=a ρ M λx M1=>r x M1 q:=rfl
def ace:wI C g (.v (.int i)) (.v (.int j)) M q=iW (C i j) (q (.v (g i j)) M):=by apply propext;symm;(· rintro⟨_,_,h1,h2,k⟩;cases h1;cases h2;show k);(· intro h;show#[_,_,rfl,rfl,h])
def abV:wI0 g (.v (.int i)) (.v (.int j)) M q=q (.v (g i j)) M:=by apply propext;symm;(· rintro⟨_,_,h1,h2,k⟩;cases h1;cases h2;show k);(· intro h;show#[_,_,rfl,rfl,h])
def acd:wU g (.v (.int i)) M q=q (.v (g i)) M:=by apply propext;symm;(· rintro⟨_,h,k⟩;cases h;show k);(· intro h;show#[_,rfl,h])
def abW:wEq (.v (.int i)) (.v (.int j)) M q=q (wb (decide (i=j))) M:=by apply propext;symm;(· rintro⟨_,_,h1,h2,_,k⟩;cases h1;cases h2;simpa using k);(· intro h;show#[_,_,rfl,rfl,rfl, ⇑h])
def abU:wNe (.v (.int i)) (.v (.int j)) M q=q (wb (!decide (i=j))) M:=by apply propext;symm;(· rintro⟨_,_,h1,h2,_,k⟩;cases h1;cases h2;simpa using k);(· intro h;show#[_,_,rfl,rfl,rfl, ⇑h])
theorem VX:ES a ρ M q=a ρ M λx M1=>Rj x M1 q:=rfl
theorem X8:Se a b ρ M q=a ρ M λc M1=>iU c (b ρ M1 q) (q false M1):=rfl
theorem abS:wOr a b ρ M q=a ρ M λc M1=>iU c (q true M1) (b ρ M1 q):=rfl
theorem XW:RY a ρ M q=a ρ M λc M1=>q (!c) M1:=rfl
theorem V8:LV a b ρ M q=a ρ M λx M1=>Rj x M1 λc M1=>iU c (b ρ M1 q) (q (wb false) M1):=rfl
theorem XU:RV a b ρ M q=a ρ M λx M1=>Rj x M1 λc M1=>iU c (q (wb true) M1) (b ρ M1 q):=rfl
theorem V0:LN a ρ M q=a ρ M λx M1=>Rj x M1 λc M1=>q (wb (!c)) M1:=rfl
theorem Sc:E4 r r' a b c ρ M q=a ρ M λx M1=>b ρ M1 λy M2=>r x y M2 λz M3=>Rj z M3 λk M3=>iU k (c ρ M3 λy' M4=>r' y y' M4 q) (q (wb false) M3):=rfl
theorem XX:RZ ρ M q=q [] M:=rfl
theorem V5:LR a r ρ M q=a ρ M λx M1=>r ρ M1 λxs M2=>q (x::xs) M2:=rfl
theorem XR:RQ a ρ M q=a ρ M λxs M1=>iW (xs.length<=sizeLine) (q (.tup xs) M1):=rfl
theorem XY:R1 a ρ M q=a ρ M λxs M1=>iW (xs.length<=sizeLine) (rZ M1 λp=>q (wr p) (um M1 p (.lst xs))):=rfl
def X2:Jn (.v (.ref x)) (.v (.int i)) M q=lstK (M x) λl=>tJ (iV l i) λu=>q u M:=by apply propext;symm;(· rintro⟨_,l,_,u,h1,h2,h3,h4,k⟩;cases h1;cases h2;show#[l,h3,u,h4,k]);(· rintro⟨l,h3,u,h4,k⟩;show#[_,l,_,u,rfl,rfl,h3,h4,k])
def X1:Jm (.tup l) (.v (.int i)) M q=tJ (iV l i) λu=>q u M:=by apply propext;symm;(· rintro⟨_,_,u,h1,h2,h4,k⟩;cases h1;cases h2;show#[u,h4,k]);(· rintro⟨u,h4,k⟩;show#[_,_,u,rfl,rfl,h4,k])
theorem Q0:AV ρ M q=q none M:=rfl
def Al (x:W)(k:Int ->Prop):Prop:= ∃i,x=wi i /\ k i
def Zi:Al (.v (.int i)) k=k i:=by apply propext;symm;(· rintro⟨_,h,k⟩;cases h;show k);(· intro h;show#[_,rfl,h])
theorem VZ:LM a ρ M q=a ρ M λx M1=>Al x λi=>q (some i) M1:=rfl
theorem abR:wSl r a lo hi ρ M q=a ρ M λx M1=>lo ρ M1 λl M2=>hi ρ M2 λu M3=>r x l u M3 q:=rfl
def XS:RT (.v (.ref x)) lo hi M q=lstK (M x) λl=>rZ M λp=>q (wr p) (um M p (.lst (lG l lo hi))):=by apply propext;symm;(· rintro⟨_,l,h1,h3,k⟩;cases h1;show#[l,h3,k]);(· rintro⟨l,h3,k⟩;show#[_,l,rfl,h3,k])
theorem abX:wCB r a ρ M q=a ρ M λxs M1=>r xs M1 q:=rfl
theorem V7:LU p a ρ M q=a ρ M λxs M1=>HY p xs M1 q:=rfl
def X0:N9 [.v (.ref x)] M q=lstK (M x) λl=>q (wi l.length) M:=by apply propext;symm;(· rintro(⟨_,l,h1,h2,k⟩ | ⟨_,h1,_⟩);(· cases h1;show#[l,h2,k]);cases h1);(· rintro⟨l,h3,k⟩;show .inl #[_,l,rfl,h3,k])
def XZ:N9 [.tup l] M q=q (wi l.length) M:=by apply propext;symm;(· rintro(⟨_,l,h1,h2,k⟩ | ⟨_,h1,k⟩);(· cases h1);cases h1;show k);(· intro k;show .inr #[l,rfl,k])
def X9:Sh [.v (.int i)] M q=q (wi (if i<0 then -i else i)) M:=by apply propext;symm;(· rintro⟨_,h,k⟩;cases h;show k);(· intro h;show#[_,rfl,h])
def V2:LO [.v (.int i), .v (.int j)] M q=q (wi (if j >i then j else i)) M:=by apply propext;symm;(· rintro⟨_,_,h,k⟩;cases h;show k);(· intro h;show#[_,_,rfl,h])
def Q2:vv [.v (.ref x)] M q=lstK (M x) λl=>rZ M λp=>q (wr p) (um M p (.lst l)):=by apply propext;symm;(· rintro⟨l,⟨_,h1,h2⟩ | h1,k⟩;(· cases h1;show#[l,h2,k]);cases h1);(· rintro⟨l,h3,k⟩;show#[l, .inl #[_,rfl,h3],k])
def Q1:vv [.tup l] M q=rZ M λp=>q (wr p) (um M p (.lst l)):=by apply propext;symm;(· rintro⟨l,⟨_,h1,h2⟩ | h1,k⟩;(· cases h1);cases h1;show k);(· intro k;show#[l, .inr rfl,k])
def N6:w8 [.v (.ref x)] M q=lstK (M x) λl=>q (.tup l) M:=by apply propext;symm;(· rintro⟨l,⟨_,h1,h2⟩ | h1,k⟩;(· cases h1;show#[l,h2,k]);cases h1);(· rintro⟨l,h3,k⟩;show#[l, .inl #[_,rfl,h3],k])
def X3:R9 K [x, .v (.ty T)] M q=tJ (V_ M x) λt=>tJ (W.kitOne K t (.type T)) λb=>q (wb b) M:=by apply propext;symm;(· rintro⟨_,_,t,b,h1,h2,h3,k⟩;cases h1;show#[t,h2,b,h3,k]);(· rintro⟨t,h2,b,h3,k⟩;show#[_,_,t,b,rfl,h2,h3,k])
theorem MP:W.kitOne K (.type "int") (.type "int")=some true:=rfl
theorem Kw:W.kitOne K (.type "int") (.type "bool")=some false:=rfl
theorem MN:W.kitOne K (.type "int") (.type "str")=some false:=rfl
theorem IK:W.kitOne K (.type "int") (.type "tuple")=some false:=rfl
theorem Kv:W.kitOne K (.type "int") (.type "list")=some false:=rfl
theorem Ky:W.kitOne K (.type "bool") (.type "int")=some true:=rfl
theorem IN:W.kitOne K (.type "bool") (.type "bool")=some true:=rfl
theorem Kx:W.kitOne K (.type "bool") (.type "str")=some false:=rfl
theorem GQ:W.kitOne K (.type "bool") (.type "tuple")=some false:=rfl
theorem IL:W.kitOne K (.type "bool") (.type "list")=some false:=rfl
theorem MM:W.kitOne K (.type "str") (.type "int")=some false:=rfl
theorem Ks:W.kitOne K (.type "str") (.type "bool")=some false:=rfl
theorem ML:W.kitOne K (.type "str") (.type "str")=some true:=rfl
theorem IF:W.kitOne K (.type "str") (.type "tuple")=some false:=rfl
theorem Kr:W.kitOne K (.type "str") (.type "list")=some false:=rfl
theorem Du:W.kitOne K (.type "NoneType") (.type "int")=some false:=rfl
theorem B0:W.kitOne K (.type "NoneType") (.type "bool")=some false:=rfl
theorem Ds:W.kitOne K (.type "NoneType") (.type "str")=some false:=rfl
theorem Ab:W.kitOne K (.type "NoneType") (.type "tuple")=some false:=rfl
theorem BZ:W.kitOne K (.type "NoneType") (.type "list")=some false:=rfl
theorem ID:W.kitOne K (.type "tuple") (.type "int")=some false:=rfl
theorem GO:W.kitOne K (.type "tuple") (.type "bool")=some false:=rfl
theorem IB:W.kitOne K (.type "tuple") (.type "str")=some false:=rfl
theorem EB:W.kitOne K (.type "tuple") (.type "tuple")=some true:=rfl
theorem GN:W.kitOne K (.type "tuple") (.type "list")=some false:=rfl
theorem Ku:W.kitOne K (.type "list") (.type "int")=some false:=rfl
theorem IJ:W.kitOne K (.type "list") (.type "bool")=some false:=rfl
theorem Kt:W.kitOne K (.type "list") (.type "str")=some false:=rfl
theorem GP:W.kitOne K (.type "list") (.type "tuple")=some false:=rfl
theorem IH:W.kitOne K (.type "list") (.type "list")=some true:=rfl
def abY:X6 r a b ρ M q=a ρ M λx M1=>iA x λp=>lstK (M1 p) λ_=>b ρ M1 λxs M2=>r x xs M2 q:=by unfold X6 IsL iA lstK;congr 1;funext x M1;apply propext;symm;(· rintro⟨⟨p,l,h1,h2⟩,k⟩;show#[p,h1,l,h2,k]);(· rintro⟨p,h1,l,h2,k⟩;show#[#[p,l,h1,h2],k])
def Q5:AW (.v (.ref x)) [y] M q=lstK (M x) λl=>iW (l.length<sizeLine) (q wn (um M x (.lst (l++ [y])))):=by apply propext;symm;(· rintro⟨_,l,_,h1,h2,h3,h4,k⟩;cases h1;cases h2;show#[l,h3,h4,k]);(· rintro⟨l,h3,h4,k⟩;show#[_,l,_,rfl,rfl,h3,h4,k])
def X5:Sd (.v (.ref x)) (.v (.ref y)) M q=lstK (M x) λl=>lstK (M y) λl'=>iW (l.length+l'.length<=sizeLine) (rZ M λp=>q (wr p) (um M p (.lst (l++l')))):=by apply propext;symm;(· rintro⟨_,_,l,l',h1,h2,h3,h4,h5,k⟩;cases h1;cases h2;show#[l,h3,l',h4,h5,k]);(· rintro⟨l,h3,l',h4,h5,k⟩;show#[_,_,l,l',rfl,rfl,h3,h4,h5,k])
theorem RS:ER a ρ M q=a ρ M λx M1=>Ot M1 x λk=>q k M1:=rfl
theorem V3:LQ ρ M q=rZ M λp=>q (wr p) (um M p (.dK [])):=rfl
def V4:E2 a b ρ M q=a ρ M λx M1=>b ρ M1 λy M2=>iA x λp=>pN y λk=>kH (M2 p) λkvs=>tJ (fX kvs k) λz=>q z M2:=by unfold E2 iA pN kH tJ;congr 1;funext x M1;congr 1;funext y M2;apply propext;symm;(· rintro⟨p,kvs,k,z,h1,h2,h3,h4,h⟩;show#[p,h1,k,h3,kvs,h2,z,h4,h]);(· rintro⟨p,h1,k,h3,kvs,h2,z,h4,h⟩;show#[p,kvs,k,z,h1,h2,h3,h4,h])
def Q4:vx a b ρ M q=a ρ M λy M1=>b ρ M1 λx M2=>iA x λp=>pN y λk=>kH (M2 p) λkvs=>q (wb (!(fX kvs k).isSome)) M2:=by unfold vx iA pN kH;congr 1;funext x M1;congr 1;funext y M2;apply propext;symm;(· rintro⟨p,kvs,k,h1,h2,h3,h⟩;show#[p,h1,k,h3,kvs,h2,h]);(· rintro⟨p,h1,k,h3,kvs,h2,h⟩;show#[p,kvs,k,h1,h2,h3,h])
def Sa:zc a b c ρ M q=a ρ M λx M1=>iA x λp=>kH (M1 p) λ_=>b ρ M1 λy M2=>c ρ M2 λz M3=>pN y λk=>kH (M3 p) λkvs=>q ((fX kvs k).getD z) M3:=by
 unfold zc iA pN kH;congr 1;funext x M1;apply propext;symm;rintro⟨p,h1,⟨kvs,h2⟩,h⟩;exact#[p,h1,kvs,h2,?_];have e:(λy M2=>c ρ M2 λz M3=>cO λkvs k=>d_ (M3 p=some (.dK kvs)) (y=gq k) (q ((fX kvs k).getD z) M3))=(λy M2=>c ρ M2 λz M3=> ∃k,y=gq k /\ ∃kvs,M3 p=some (.dK kvs) /\ q ((fX kvs k).getD z) M3):=by funext y M2;congr 1;funext z M3;apply propext;symm;rintro⟨a,b,c,d,e⟩;show#[b,d,a,c,e];rintro⟨b,d,a,c,e⟩;show#[a,b,c,d,e]
 rw[<- e];show h;rintro⟨p,h1,kvs,h2,h⟩;exact#[p,h1,#[kvs,h2],?_];have e:(λy M2=>c ρ M2 λz M3=>cO λkvs k=>d_ (M3 p=some (.dK kvs)) (y=gq k) (q ((fX kvs k).getD z) M3))=(λy M2=>c ρ M2 λz M3=> ∃k,y=gq k /\ ∃kvs,M3 p=some (.dK kvs) /\ q ((fX kvs k).getD z) M3):=by funext y M2;congr 1;funext z M3;apply propext;symm;rintro⟨a,b,c,d,e⟩;show#[b,d,a,c,e];rintro⟨b,d,a,c,e⟩;show#[a,b,c,d,e]
 rw[e];show h
theorem de:JE a b D ρ M=a {nx:=b D,rt:=D.rt,bk:=D.bk,ct:=D.ct} ρ M:=rfl
theorem Wh:Ml D ρ M=D.nx ρ M:=rfl
theorem Wm:Mr D ρ M=D.ct ρ M:=rfl
theorem Wl:Mm a D ρ M=a ρ M λ_ M1=>D.nx ρ M1:=rfl
theorem Yo:SY a D ρ M=a ρ M D.rt:=rfl
theorem Wg:Mj D ρ M=D.rt wn M:=rfl
theorem abZ:Wi c a b D ρ M=c ρ M λk M1=>iU k (a D ρ M1) (b D ρ M1):=rfl
theorem Yq:S4 a g D ρ M=a ρ M λx M1=>g x ρ M1 D.nx:=rfl
def Oi (xs:fk W)(k:W ->W ->Prop):Prop:=cO λx y=>xs= [x,y] /\ k x y
def Ye:Oi [x,y] k=k x y:=by apply propext;symm;(· rintro⟨_,_,h,z⟩;cases h;show z);(· intro h;show#[_,_,rfl,h])
def S2:zz a b c D ρ M=c ρ M λz M1=>a ρ M1 λx M2=>b ρ M2 λy M3=>iA x λp=>pN y λk=>kH (M3 p) λkvs=>iW (kvs.length<sizeLine) (D.nx ρ (um M3 p (.dK (kc kvs k z)))):=by unfold zz iA pN kH iW;congr 1;funext z M1;congr 1;funext x M2;congr 1;funext y M3;apply propext;symm;(· rintro⟨p,kvs,k,h1,h2,h3,h4,h⟩;show#[p,h1,k,h3,kvs,h2,h4,h]);(· rintro⟨p,h1,k,h3,kvs,h2,h4,h⟩;show#[p,kvs,k,h1,h2,h3,h4,h])
theorem Yp:S0 it g b D ρ M=it ρ M λxs keep M1=>Va xs keep g b D ρ M1:=rfl
theorem SX:zy c b D ρ M=EQ c b D ρ M:=rfl
theorem V9:LX i x ρ M q=q (ρ.set i (some x)) M:=rfl
def Ya:Oe [] ρ M q=q ρ M:=by simp[Oe]
def V':LY a b (x::r) ρ M q=a x ρ M λρ' M'=>b r ρ' M' q:=by apply propext;symm;(· rintro⟨_,_,h,k⟩;cases h;show k);(· intro h;show#[_,_,rfl,h])
def X':Si n a (.tup l) ρ M q=iW (l.length=n) (a l ρ M q):=by apply propext;symm;(· rintro⟨_,h,k,l⟩;cases h;show#[k,l]);(· rintro⟨h,l⟩;show#[_,rfl,h,l])
theorem X_:Sj a b s x ρ M q=a ρ M λo M1=>b ρ M1 λi M2=>s o i x M2 λM3=>q ρ M3:=rfl
def VY:LK (.v (.ref x)) (.v (.int i)) z M q=lstK (M x) λl=>tJ (wW l.length i) λj=>q (um M x (.lst (l.set j z))):=by apply propext;symm;(· rintro⟨_,l,_,j,h1,h2,h3,h4,k⟩;cases h1;cases h2;show#[l,h3,j,h4,k]);(· rintro⟨l,h3,j,h4,k⟩;show#[_,l,_,j,rfl,rfl,h3,h4,k])
def WW:GX a ρ M q=a ρ M λx M1=>iA x λp=>lstK (M1 p) λl=>q l (λM'=>M' p=some (.lst l)) M1:=by unfold GX iA lstK;congr 1;funext x M1;apply propext;symm;(· rintro⟨p,l,h1,h2,h⟩;show#[p,h1,l,h2,h]);(· rintro⟨p,h1,l,h2,h⟩;show#[p,l,h1,h2,h])
theorem Ze:Ud a ρ M q=a ρ M λx M1=>tupK x λl=>q l (λ_=>True) M1:=rfl
def zM (xs:fk W)(k:W ->Prop):Prop:= ∃x,xs= [x] /\ k x
def YK:zM [x] k=k x:=by apply propext;symm;(· rintro⟨_,h,k⟩;cases h;show k);(· intro h;show#[_,rfl,h])
def WV:GW a ρ M q=a ρ M λxs M1=>zM xs λx=>Al x λj=>iW (-(2 ^ 62) <=j /\ j<2 ^ 62) (q (gg 0 j.toNat) (λ_=>True) M1):=by unfold GW zM Al iW;congr 1;funext x M1;apply propext;symm;(· rintro⟨j,h1,h2,h3,h⟩;show#[_,h1,j,rfl,#[h2,h3],h]);(· rintro⟨_,h1,j,rfl,⟨h2,h3⟩,h⟩;show#[j,h1,h2,h3,h])
def WU:GV a ρ M q=a ρ M λxs M1=>Oi xs λx y=>Al x λi=>Al y λj=>iW (-(2 ^ 62) <=i /\ i<2 ^ 62 /\ -(2 ^ 62) <=j /\ j<2 ^ 62) (q (gg i (j - i).toNat) (λ_=>True) M1):=by unfold GV Oi Al iW;congr 1;funext x M1;apply propext;symm;(· rintro⟨i,j,h1,h2,h⟩;show#[_,_,h1,i,rfl,j,rfl,h2,h]);(· rintro⟨_,_,h1,i,rfl,j,rfl,h2,h⟩;show#[i,j,h1,h2,h])
theorem V6:LS it own fr g c el ρ M q=it ρ M λxs keep M1=>sR xs keep own fr g c el ρ M1 q:=rfl
theorem XD:RP ρ M q=q true M:=rfl
def sl2:(2<=sizeLine)=True:=by rw[dg];decide
def sl3:(3<=sizeLine)=True:=by rw[dg];decide
def sl4:(4<=sizeLine)=True:=by rw[dg];decide
def sl0:(0<=sizeLine)=True:=by simp
def dQ [Decidable c](h1:c ->A)(h2:¬c ->B):iU (decide c) A B:=by unfold iU;by_cases h:c;rw[am (bH h)];show h1 h;rw[ai ⇑h];show h2 h
def Aj [Decidable c](h1:¬c ->A)(h2:c ->B):iU (!decide c) A B:=by unfold iU;by_cases h:c;rw[ai ⇑h];show h2 h;rw[am ⇑h];show h1 h
theorem nv {M1:Mp}(f:W ->fG W)(hz:xs.length<=sizeLine)(kf: ∀M,Sm M1 M ->keep M)(hs: ∀ (i:Nat) x,xs[i]? =some x -> ∀ (M:Mp) (N:fG W ->Mp ->Prop),Sm M1 M ->N (f x) M ->g x (mx own fr ρ) M λρ2 M2=>c ρ2 M2 λb M3=>iU b (el ρ2 M3 λy M4=>N (some y) M4) (N none M3))(hq: ∀p,M1 p=none ->q (wr p) (um M1 p (.lst (xs.filterMap f)))):sR xs keep own fr g c el ρ M1 q:=D9 f hz kf hs hq
end WL
namespace WL
def UB (f:eE ->Mp ->Prop)(ρ:eE)(M:Mp):Prop:=f ρ M
theorem j5 (h:f ρ M):UB f ρ M:=h
theorem fw:JE a b D ρ M=a {nx:=UB (b D),rt:=D.rt,bk:=D.bk,ct:=D.ct} ρ M:=rfl
theorem v8 (Mid:eE ->Mp ->Prop)(e9: ∀ρ M,Mid ρ M ->R D ρ M)(h: ∀N:eE ->Mp ->Prop,(∀ρ M,Mid ρ M ->N ρ M) ->Wi c a b {nx:=N,rt:=D.rt,bk:=D.bk,ct:=D.ct} ρ M):JE (Wi c a b) R D ρ M:=h _ e9
theorem gx (I:Nat ->eE ->Mp ->Prop)(h0:I 0 ρ M1)(hk: ∀i ρ M,i<=xs.length ->I i ρ M ->keep M)(hs: ∀i x ρ M,xs[i]? =some x ->I i ρ M -> ∀N:eE ->Mp ->Prop,(∀ρ' M',I (i+1) ρ' M' ->N ρ' M') ->g x ρ M λρ2 M2=>b {nx:=N,rt:=D.rt,bk:=D.nx,ct:=N} ρ2 M2)(hd: ∀ρ M,I xs.length ρ M ->D.nx ρ M):Va xs keep g b D ρ M1:=#[I,h0,hk,λi x ρ M hx hI=>hs i x ρ M hx hI _ λ_ _ h=>h,hd]
theorem AU (I:Nat ->eE ->Mp ->Prop)(m:Nat)(h0:I m ρ M)(hs: ∀m ρ M,I m ρ M -> ∀N:eE ->Mp ->Prop,(∀m' ρ' M',m'<m ->I m' ρ' M' ->N ρ' M') ->c ρ M λk M1=>iU k (b {nx:=N,rt:=D.rt,bk:=D.nx,ct:=N} ρ M1) (D.nx ρ M1)):EQ c b D ρ M:=#[I,#[m,h0],λm ρ M hI=>hs m ρ M hI _ λm' _ _ hm h=>#[m',hm,h]]
end WL
namespace WP
open PySem L2 WL
abbrev Pt:=fk (Int×Int)
def look:Pt ->Int ->Int
 | [],_=>0
 | q::r,x=>if q.1=x then q.2 else look r x
def cW (p:Int)(l:Pt):Prop:=(∀q∈l,0<q.2 /\ q.2<p) /\ l.Pairwise (λa b=>a.1<b.1)
def dq:Pt ->Int ->Int
 | [],_=>0
 | q::r,x=>(if q.1=x then q.2 else 0)+dq r x
def iz (a b:Pt)(x:Int):dq (a++b) x=dq a x+dq b x:=by
 induction a with
 | nil=>simp[dq]
 | cons q r ih=>rw[List.cons_append,dq,dq,ih];lia
def nL (a:Pt)(q:Int×Int)(x:Int):dq (a++ [q]) x=dq a x+if q.1=x then q.2 else 0:=by rw[iz];simp[dq]
def fH (h: ∀q∈l,q.1≠x):look l x=0:=by
 induction l with
 | nil=>rfl
 | cons q r ih=>rw[look,ai (h q (by simp)),ih λz hz=>h z (by simp[hz])]
def A1 (h: ∀q∈l,q.1≠x):dq l x=0:=by
 induction l with
 | nil=>rfl
 | cons q r ih=>rw[dq,ai (h q (by simp)),ih λz hz=>h z (by simp[hz])];rfl
def xc (h:l.Pairwise (λa b=>a.1<b.1))(x:Int):dq l x=look l x:=by
 induction l with
 | nil=>rfl
 | cons q r ih=>rw[cz] at h;rw[dq,look,ih h.2];by_cases e:q.1=x;rw[am e,am e,fH];lia;intro z hz;have:=h.1 z hz;lia;rw[ai e,ai e];lia
def jz (hp:0<p)(h:cW p l)(x:Int):0<=look l x /\ look l x<p:=by
 induction l with
 | nil=>rw[look];lia
 | cons q r ih=>rw[look];split;have:=h.1 q (by simp);lia;show ih #[λz hz=>h.1 z (by simp[hz]),(cz.mp h.2).2]
theorem cW.tail {r:Pt}(h:cW p (q::r)):cW p r:=#[λz hz=>h.1 z (by simp[hz]),(cz.mp h.2).2]
theorem cW.nil:cW p []:=#[λ_ h=>absurd h (by simp),List.Pairwise.nil]
theorem n6 {p p':Int}: ∀ {a b:Pt},cW p a ->cW p' b ->(∀x,look a x=look b x) ->a=b
 | [],[],_,_,_=>rfl
 | [],q::r,_,hb,h=>by have:=h q.1;rw[look,look,am rfl] at this;have:=hb.1 q (by simp);lia
 | q::r,[],ha,_,h=>by have:=h q.1;rw[look,look,am rfl] at this;have:=ha.1 q (by simp);lia
 | q ::r,q'::r',ha,hb,h=>by
  have pa:=ha.1 q (by simp);have pb:=hb.1 q' (by simp);have sa:=(cz.mp ha.2).1;have sb:=(cz.mp hb.2).1;have e1:q.1=q'.1:=by obtain l | l | l:=Int.lt_trichotomy q.1 q'.1;have e:=h q.1;rw[look,am rfl,look,ai ∅,fH (λz hz=>by have:=sb z hz;lia)] at e;lia;show l;have e:=h q'.1;rw[look,ai ∅,fH (λz hz=>by have:=sa z hz;lia),look,am rfl] at e;lia
  have e2:q.2=q'.2:=by have e:=h q.1;rw[look,am rfl,look,am e1.symm] at e;show e
  have e:r=r':=n6 ha.tail hb.tail λx=>by by_cases hx:q.1=x;rw[fH (λz hz=>by have:=sa z hz;lia),fH (λz hz=>by have:=sb z hz;lia)];have e:=h x;rwa [look,ai hx,look,ai ∅] at e
  rw[e,Prod.ext e1 e2]
def jG (p:Int):Pt ->Int ->Int ->Pt
 | [],x,s=>if s % p=0 then [] else [(x,s % p)]
 | q::r,x,s=>if x<q.1 then(if s % p=0 then q::r else(x,s % p)::q::r) else if x=q.1 then(if(q.2+s) % p=0 then r else(x,(q.2+s) % p)::r) else q::jG p r x s
def kM (p:Int)(ps:Pt):Pt:=ps.foldl (λa q=>jG p a q.1 q.2) []
def vn (h:z∈jG p l x s):z.1=x \/ z∈l:=by
 induction l with
 | nil=>rw[jG] at h;split at h;cases h;left;rw[ah.mp h]
 | cons q r ih=>rw[jG] at h;split at h;split at h;show .inr h;obtain h | h:=ax.mp h;left;rw[h];show .inr h;split at h;split at h;show .inr (by simp[h]);obtain h | h:=ax.mp h;left;rw[h];show .inr (by simp[h]);obtain h | h:=ax.mp h;show .inr (by simp[h]);obtain h | h:=ih h;show .inl h;show .inr (by simp[h])
def zX {p s:Int}(hp:0<p)(h:¬s % p=0):0<s % p /\ s % p<p:=by have:=c6 s (show p≠0 by lia);have:=cJ s hp;lia
def Eh (hp:0<p)(h:cW p l):cW p (jG p l x s):=by
 induction l with
 | nil=>rw[jG];split;show cW.nil;rename_i hs;show#[λq hq=>by rw[ah.mp hq];show zX hp hs,by simp]
 | cons q r ih=>have sa:=(cz.mp h.2).1;rw[jG];split;rename_i hx;split;show h;rename_i hs;exact#[λz hz=> ?_,cz.mpr #[λz hz=> ?_,h.2]];obtain rfl | hz:=ax.mp hz;show zX hp hs;show h.1 z hz;obtain rfl | hz:=ax.mp hz;show hx;have:=sa z hz;change x<z.1;lia;split;rename_i hx;split;show h.tail;rename_i hs;exact#[λz hz=> ?_,cz.mpr #[λz hz=> ?_,h.tail.2]];obtain rfl | hz:=ax.mp hz;show zX hp hs;show h.1 z (by simp[hz]);have:=sa z hz;change x<z.1;lia;rename_i h1 h2;have ih':=ih h.tail;exact#[λz hz=> ?_,cz.mpr #[λz hz=> ?_,ih'.2]];obtain rfl | hz:=ax.mp hz;show h.1 z (by simp);show ih'.1 z hz;obtain e | hz:=vn hz;lia;show sa z hz
def z6 (hp:0<p)(h:cW p l)(y:Int):look (jG p l x s) y=if y=x then(look l x+s) % p else look l y:=by
 induction l with
 | nil=>rw[jG];by_cases hs:s % p=0;rw[am hs];simp[look,hs];rw[ai hs];by_cases e:y=x;subst e;simp[look];rw[ai e];simp[look,aW e]
 | cons q r ih=>
  have sa:=(cz.mp h.2).1;have qr:=h.1 q (by simp);rw[jG];split;rename_i hx;have hn:look (q::r) x=0:=fH (λz hz=>by obtain rfl | hz:=ax.mp hz;lia;have:=sa z hz;lia);rw[hn,bA];split;rename_i hs;by_cases e:y=x;rw[am e,e,hn,hs];rw[ai e];by_cases e:y=x;rw[am e,look,am e.symm];rw[ai e,look,ai (aW e)];split;rename_i hx;have hq:look (q::r) x=q.2:=by rw[look,am hx.symm]
  rw[hq];split;rename_i hs;by_cases e:y=x;rw[am e,hs,fH (λz hz=>by have:=sa z hz;lia)];rw[ai e,look,ai ∅];by_cases e:y=x;rw[am e,look,am e.symm];rw[ai e,look,ai (aW e),look,ai ∅];rename_i h1 h2;rw[look,ih h.tail];by_cases e:y=x;rw[am e,am e,ai ∅];conv=>rhs;rw[look,ai ∅]
  rw[ai e,ai e,look]
def n_ (p:Int)(ps:Pt)(q:Int×Int):kM p (ps++ [q])=jG p (kM p ps) q.1 q.2:=by unfold kM;rw[List.foldl_append];rfl
def jg {α:Type}{P:fk α ->Prop}(h0:P [])(h1: ∀l a,P l ->P (l++ [a]))(l:fk α):P l:=by
 have key: ∀n:Nat, ∀l:fk α,l.length=n ->P l:=by
  intro n;induction n with
  | zero=>intro l hl;rw[di.mp hl];show h0
  | succ n ih=>
   intro l hl;have cD:l≠ []:=by intro e;rw[e] at hl;cases hl
   rw[<- List.dropLast_concat_getLast cD];show h1 _ _ (ih _ (by rw[List.length_dropLast];lia))
 show key _ l rfl
def iH (hp:0<p)(ps:Pt):cW p (kM p ps):=by
 induction ps using jg with
 | h0=>show cW.nil
 | h1 l a ih=>rw[n_];show Eh hp ih
def jA (hp:0<p)(ps:Pt)(x:Int):look (kM p ps) x=dq ps x % p:=by
 induction ps using jg with
 | h0=>simp[kM,look,dq]
 | h1 l a ih=>rw[n_,z6 hp (iH hp l),nL];by_cases e:x=a.1;subst e;rw[am rfl,am rfl,ih,dJ];rw[ai e,ai (aW e),ih,a6]
def Ei:(jG p l x s).length<=l.length+1:=by
 induction l with
 | nil=>rw[jG];split<;>simp
 | cons q r ih=>rw[jG];split;split<;>simp;split;split<;>simp<;>lia;simp;show ih
def BK (p:Int)(ps:Pt):(kM p ps).length<=ps.length:=by
 induction ps using jg with
 | h0=>simp[kM]
 | h1 l a ih=>rw[n_,aR];show aT Ei (by simp;show ih)
def Gj (h:z∈kM p ps): ∃q∈ps,q.1=z.1:=by
 induction ps using jg generalizing z with
 | h0=>simp[kM] at h
 | h1 l a ih=>rw[n_] at h;obtain e | h:=vn h;show#[a,by simp,e.symm];let⟨q,h1,h2⟩:=ih h;show#[q,by simp[h1],h2]
def fY (m:Pt):fk (cH×W):=m.map λq=>((Sum.inl q.1:cH),wi q.2)
def mj (m:Pt)(x v:Int):Pt:=if(m.any λq=>decide (q.1=x))=true then m.map (λq=>if q.1=x then(q.1,v) else q) else m++ [(x,v)]
def oW {m:Pt}:(m.any λq=>decide (q.1=x))=true↔x∈m.map (·.1):=by rw[List.any_eq_true,af];symm;rintro⟨q,hq,e⟩;show#[q,hq, ⇑e];rintro⟨q,hq,e⟩;show#[q,hq, ⇑e]
def v7 (a b:Int):decide ((Sum.inl a:cH)=Sum.inl b)=decide (a=b):=by simp
def qS (m:Pt)(x v:Int):kc (fY m) (.inl x) (wi v)=fY (mj m x v):=by
 unfold kc mj;have e:((fY m).any λkv=>decide (kv.1=(Sum.inl x:cH)))=m.any λq=>decide (q.1=x):=by unfold fY;rw[List.any_map];congr 1;funext q;show v7 _ _
 rw[e];split;unfold fY;rw[aE,aE];apply bJ;intro q _;change(if(Sum.inl q.1:cH)=Sum.inl x then((Sum.inl q.1:cH),wi v) else(Sum.inl q.1,wi q.2))=((Sum.inl (if q.1=x then(q.1,v) else q).1:cH),wi (if q.1=x then(q.1,v) else q).2)
 by_cases hq:q.1=x;rw[am (by rw[hq]),am hq];rw[ai (λz=>hq (Sum.inl.inj z)),ai hq];unfold fY;rw[aO];rfl
def vz (m:Pt)(x:Int):fX (fY m) (.inl x)=(m.find? λq=>decide (q.1=x)).map λq=>wi q.2:=by
 unfold fX fY;rw[List.find?_map,Option.map_map];have e:((λkv:cH×W=>decide (kv.1=(Sum.inl x:cH))) ∘ λq:Int×Int=>((Sum.inl q.1:cH),wi q.2))=λq=>decide (q.1=x):=by funext q;show v7 _ _
 rw[e];rfl
def l7:(m.find? λq=>decide (q.1=x))=none /\ look m x=0 /\ x∉m.map (·.1) \/ ∃q,(m.find? λq=>decide (q.1=x))=some q /\ look m x=q.2:=by
 induction m with
 | nil=>show .inl #[rfl,rfl,by simp]
 | cons q r ih=>
  rw[dw,look];by_cases e:q.1=x;simp![e,decide_true];show .inr #[q,rfl,by simp];simp![e,decide_false,bj];rcases ih with⟨h1,h2,h3⟩ | h
  show .inl #[h1,h2,by rw[aI,ax,not_or];show#[aW e,h3]];show .inr h
def qY (m:Pt)(x:Int):(fX (fY m) (.inl x)).getD (wi 0)=wi (look m x):=by rw[vz];rcases l7 (m:=m) (x:=x) with⟨h1,h2,_⟩ | ⟨q,h1,h2⟩ <;>rw[h1,h2] <;>rfl
def rm (h:x∈m.map (·.1)):fX (fY m) (.inl x)=some (wi (look m x)):=by
 rw[vz];rcases l7 (m:=m) (x:=x) with⟨_,_,h3⟩ | ⟨q,h1,h2⟩
 show absurd h h3;rw[h1,h2];rfl
def xV (m:Pt):(fY m).map (·.1)=(m.map (·.1)).map Sum.inl:=by unfold fY;rw[aE,aE];rfl
def uE:(mj m x v).map (·.1)=if x∈m.map (·.1) then m.map (·.1) else m.map (·.1)++ [x]:=by unfold mj;by_cases h:x∈m.map (·.1);rw[am (oW.mpr h),am h,aE];apply bJ;intro q _;change(if q.1=x then(q.1,v) else q).1=q.1;split<;>rfl;rw[ai (λe=>h (oW.mp e)),ai h,aO];rfl
def vS (h:(m.map (·.1)).Nodup):((mj m x v).map (·.1)).Nodup:=by rw[uE];by_cases e:x∈m.map (·.1);rw[am e];show h;rw[ai e];show BL h e
def sf:(mj m x v).length<=m.length+1:=by unfold mj;split;rw[aa];lia;simp
def pK:look (mj m x v) y=if y=x then v else look m y:=by
 unfold mj;by_cases h:x∈m.map (·.1);rw [am (oW.mpr h)];have key: ∀m:Pt,look (m.map (λq=>if q.1=x then(q.1,v) else q)) y=if y=x /\ x∈m.map (·.1) then v else look m y:=by
  intro m;induction m with
  | nil=>simp[look]
  | cons q r ih=>
   rw[aI,look,look,ih];by_cases hq:q.1=x;by_cases hy:y=x;subst hy;simp[hq];simp[hq,hy,aW hy];by_cases hy:y=x;subst hy;have:(y∈(q::r).map (·.1))=(y∈r.map (·.1)):=by rw[aI,ax];simp[aW hq]
   simp![this,hq,bj];simp[hq,hy]
 rw[key];simp[h];rw [ai (λe=>h (oW.mp e))];have key: ∀m:Pt,x∉m.map (·.1) ->look (m++ [(x,v)]) y=if y=x then v else look m y:=by
  intro m;induction m with
  | nil=>intro _;by_cases e:y=x;simp[look,e];simp[look,e,aW e]
  | cons q r ih=>intro hn;rw[aI,ax,not_or] at hn;rw[List.cons_append,look,look,ih hn.2];by_cases e:y=x;subst e;simp[aW hn.1];simp[e]
 show key m h
def Q_ (m:Pt)(ns:fk Int):Pt:=ns.filterMap λx=>if look m x=0 then none else some (x,look m x)
theorem xS {m:Pt}{x:Int}: ∀ {ns:fk Int},ns.Nodup ->look (Q_ m ns) x=if x∈ns then look m x else 0
 | [],_=>rfl
 | n ::r,h=>by rw[bI] at h;have ih:=xS (m:=m) (x:=x) h.2;unfold Q_ at ih ⊢;rw[List.filterMap_cons];by_cases e:look m n=0;rw[am e];change look (r.filterMap _) x=_;rw[ih];by_cases hx:x=n;subst hx;rw[ai h.1,am (by simp),e];simp[hx];rw[ai e];change look ((n,look m n)::r.filterMap _) x=_;rw[look,ih];by_cases hx:x=n;subst hx;rw[am rfl,am (by simp)];rw[ai (aW hx)];simp[hx]
def ug {ns:fk Int}(h1:ns.Pairwise (· <= ·))(h2:ns.Nodup):ns.Pairwise (· < ·):=by exact(List.Pairwise.and h1 h2).imp ?_;rintro a b ⟨h,n⟩;lia
def Bm (hp:0<p)(hn:(m.map (·.1)).Nodup)(ht: ∀x,look m x=dq ps x % p)(cC:ns.Perm (m.map (·.1)))(hs:ns.Pairwise (· <= ·)):Q_ m ns=kM p ps:=by have nd:=cC.nodup_iff.mpr hn;have st:=ug hs nd;exact n6 (p:=p) #[?_,?_] (iH hp ps) λx=> ?_;intro q hq;let⟨x,hx,e⟩:=List.mem_filterMap.mp hq;split at e;cases e;rename_i h0;cases e;have:=ht x;have:=c6 (dq ps x) (show p≠0 by lia);have:=cJ (dq ps x) hp;change 0<look m x /\ look m x<p;lia;unfold Q_;exact List.Pairwise.filterMap _ ?_ st;intro a b Hv c hc d hd;split at hc<;>cases hc;split at hd<;>cases hd;show Hv;rw[xS nd,jA hp];split;show ht x;rename_i hx;rw[<- ht x,fH];intro q hq e;show hx (cC.mem_iff.mpr (by rw[<- e];show List.mem_map_of_mem hq))
def fM {ks:fk Int}: ∀ {l:fk Int},ks.Nodup ->(∀k∈ks,k∈l) ->ks.length<=l.length:=by
 induction ks with
 | nil=>intro l _ _;simp
 | cons k r ih=>
  intro l hn hs;rw[bI] at hn;have hk:k∈l:=hs k (by simp);have:=ih (l:=l.erase k) hn.2 λz hz=>by have Zn:z≠k:=λe=>hn.1 (e▸hz);show(List.mem_erase_of_ne Zn).mpr (hs z (by simp[hz]))
  rw[List.length_erase_of_mem hk] at this;have:0<l.length:=List.length_pos_of_mem hk;rw[aP];lia
def Xw (_:Pt):Prop:=True
theorem HB:Xw ps:=trivial
theorem Le (h:ps.length<64):Xw ps:=trivial
def xR (h:k∈(mj m x v).map (·.1)):k=x \/ k∈m.map (·.1):=by rw[uE] at h;split at h;show .inr h;obtain h | h:=aA.mp h;show .inr h;show .inl (ah.mp h)
end WP
namespace WQ
open PySem L2 WL WP
def Tp:jc:=λxs M q=>im λ(d l:gY) (n:Int)=>j8 (xs= [wr d,wi n]) (Dr M d l) (0<n) (n<1073741824) (∀ (r:Int) (M':Mp),0<=r ->r<n ->Dr M' d l ->NB d M M' ->q (wi r) M')
def pP:jc:=λxs M q=>cO λ(d l:gY)=>d_ (xs= [wr d]) (Dr M d l) (∀ (p:Int) (M':Mp),(p=2 \/ p=3 \/ p=5 \/ p=7) ->Dr M' d l ->NB d M M' ->q (wi p) M')
def MB:jc:=λxs M q=>im λ(a:gY) (p:Int) (ps:Pt)=>l_ (xs= [wi p,wr a]) (M a=some (.lst (ps.map dh))) (0<p) (Xw ps) (ps.length<=16000000) (q (bN (kM p ps)) M)
def Ga:jc:=λxs M q=>Lr λ(d l:gY) (p most mJ:Int)=>nH (xs= [wr d,wi p,wi most,wi mJ]) (Dr M d l) (2<=p) (p<1000) (0<=most) (most<63) (0<=mJ) (mJ<100000000 /\ ∀ (ps:Pt) (M':Mp),(ps.length:Int) <=most ->(∀z∈ps, -mJ<=z.1 /\ z.1<=mJ /\ 0<z.2 /\ z.2<p) ->Dr M' d l ->NB d M M' ->q (bN (kM p ps)) M')
def pAt:jc:=λxs M q=>cO λ(pat:Pt) (x:Int)=>xs= [bN pat,wi x] /\ q (wi (look pat x)) M
def mv (oV:Int)(l:Pt):Pt:=l.map λz=>(z.1+oV,z.2)
def YD:jc:=λxs M q=> ∃i:Int,xs= [wi i] /\ q (wb true) M
def O7:jc:=λxs M q=>cO λ(p:Int) (pat:Pt)=>fZ (xs= [wi p,bN pat]) (cW p pat) (pat.length<=16000000) (q (wb true) M)
def tm (n:Int)(l:Pt):Pt:=l.map λz=>(z.1,z.2*n)
def zW (b n:Int)(l:Pt):Pt:=l.map λz=>(z.1+b,z.2*n)
def YB:jc:=λxs M q=>Lr λ(p:Int) (a b:Pt) (y n:Int)=>Ek (xs= [wi p,bN a,bN b,wi y,wi n]) (0<p) (Xw (a++zW y n b)) (a.length<=8000000) (b.length<=8000000) (∀z∈b,0<=z.2 /\ z.2<1000) (q (bN (kM p (a++zW y n b))) M)
theorem big (h:n<=16000000):n<=sizeLine:=aT h (by rw[dg];decide)
theorem AH (h:n<=16000000):n<sizeLine:=Nat.lt_of_le_of_lt h (by rw[dg];decide)
def WC:mv 0 l=l:=by
 unfold mv;have:(λz:Int×Int=>(z.1+0,z.2))=id:=by funext z;rw[a6];rfl
 rw[this,List.map_id]
def WH:look (mv b l) x=look l (x - b):=by
 induction l with
 | nil=>rfl
 | cons q r ih=>change look ((q.1+b,q.2)::mv b r) x=_;rw[look,look,ih];by_cases e:q.1+b=x;rw[am e,am ∅];rw[ai e,ai ∅]
def rB:dq (tm n l) x=dq l x*n:=by
 induction l with
 | nil=>simp[tm,dq]
 | cons q r ih=>change dq ((q.1,q.2*n)::tm n r) x=_;rw[dq,dq,ih,eR];split<;>simp
def Po:zW b n l=tm n (mv b l):=by unfold zW tm mv;rw[aE];rfl
def zm:dq (mv b l) x=dq l (x - b):=by
 induction l with
 | nil=>rfl
 | cons q r ih=>change dq ((q.1+b,q.2)::mv b r) x=_;rw[dq,dq,ih];by_cases e:q.1+b=x;rw[am e,am ∅];rw[ai e,ai ∅]
def HN (q:Int×Int):HP (dh q)=some (.tup [.int q.1, .int q.2]):=by simp[dh,HP,pV]
theorem sK: ∀l:Pt,pV (l.map dh)=some (l.map λq=> .tup [.int q.1, .int q.2])
 | []=>rfl
 | q::r=>by rw[aI,pV,HN,sK r];rfl
def Dd (l:Pt):Dt:= .tup (l.map λq=> .tup [.int q.1, .int q.2])
def l8 (l:Pt):HP (bN l)=some (Dd l):=by rw[bN,HP,sK];rfl
theorem nq: ∀l:Pt,qI (l.map λq=> .tup [.int q.1, .int q.2]) <=1
 | []=>by simp[qI]
 | q::r=>by rw[aI,qI];have:=nq r;simp![uW,qI];lia
def Cp (l:Pt):uW (Dd l) <=50:=by unfold Dd;rw[uW];have:=nq l;lia
def Ay {a b:Pt}(e:a=b)(h:q (wb true) M):R' (bN a) (bN b) M q:=by subst e;show#[_,_, .inl (l8 a), .inl (l8 a),rfl,Cp a,by rw[ki];show h]
def Gp {a b:Pt}(e:a=b)(h:q (wb false) M):N7 (bN a) (bN b) M q:=by subst e;show#[_,_, .inl (l8 a), .inl (l8 a),rfl,Cp a,by rw[ki];show h]
def Bh (K:Ug):Sp:=λvs H Q _=>cO λ(a:gY) (ns:fk Int)=>d_ (vs= [.ref a]) (gS K H a (ns.map V.int)) (∀ (d l:gY) (ms:fk Int) (H':Hp),d≠l ->H' d=some (.lst [.ref l, .int 0, .int 0, .int 11]) ->H' l=some (.lst (ms.map V.int)) ->Q (.ref d) H')
def xn (K:Ug):Sp:=λvs H Q _=>cO λ(a:gY) (ns:fk Int)=>d_ (vs= [.ref a]) (gS K H a (ns.map V.int)) (∀H',Q (.bl true) H')
def TF (F:EI K x qual st f fd)(S:jV N [z] (bn st))(hN:2<=N.length)(oG: ∀ (cdv:fm) (A:Around) (outer:fk Env) (s:fo) (H:Hp) (E:XK),gR k (A.deeper (PyProof.Rows.envOfC qual (bn st) s.heap.objs.size f cdv)) ->∃ R,y9 (sL iq P w K mg base N qual (bn st) f cdv A outer s H E).Pf (fV st) (Ow (Fs (Ba (Bh K) [] E0 (Fn (Jx 0) Ox)) (oI 1)) R) /\∃w',IS K R w' /\ ∀d l M,Dr M d l ->w' {nx:=λ_ _=>False,rt:=λx _=>x=wb true} (none::some (wr d)::List.replicate (N.length - 2) none) M): dR P w K mg base iq (k+1) f fd [z] (xn K):=by
 exact EI.ok F S (λvs H Q E ⟨a,ns,h,_,_⟩=>by rw[h];rfl) λcdv A outer s H vs Q E hr h=> ?_;let⟨R,h1,w',h2,h3⟩:=oG cdv A outer s H E hr;let⟨a,ns,rfl,hs,hq⟩:=h;exact#[_,h1,?_];let⟨n,hn⟩: ∃n,N.length=n+2:=#[N.length - 2, ∅]
 have e0:L2.start N [V.ref a]=some (V.ref a)::none::List.replicate n none:=by unfold L2.start;rw[hn];rfl
 rw[e0];exact#[_,rfl,a,ns,rfl,hs,λd l ms H' cD hd hl=> ?_];change R _ _ H';exact h2.imp (none::some (wr d)::List.replicate (N.length - 2) none) (um (um (λ_=>none) l (.lst (ms.map wi))) d (.lst [wr l,wi 0,wi 0,wi 11])) _ H' _ _ #[#[?_,λi y e=> ?_],λb o e=> ?_] (h3 d l _ #[ms,0,0,11,au,by rw[aJ (aW cD),au],⋯,cD]) #[λ_ _ _ _ h=>h.elim,λy M' v H2 e _ _ r=> ?_,λ_ _ _ _ h=>h.elim,λ_ _ _ _ h=>h.elim];simp[hn];match i with
 | 0=>simp at e
 | 1=>simp at e;subst e;show#[.ref d,rfl,WR.v]
 | i+2=>simp[List.getElem?_replicate] at e
 by_cases hb:b=d;subst hb;rw[au] at e;cases e;show#[_,hd,c7.cons WR.v (c7.cons WR.v (c7.cons WR.v (c7.cons WR.v c7.nil)))];rw[aJ hb] at e;by_cases uK:b=l;subst uK;rw[au] at e;cases e;show#[_,hl,c7.ofInts ms];rw[aJ uK] at e;cases e;subst e;rw[r.eq];show hq H2
abbrev Rd:=Int×Pt
def jn (p:Int)(a b:Rd):Rd:=(a.1+b.1,kM p (a.2++mv a.1 b.2))
def bk (p:Int)(a:Rd):Rd:=(-a.1,kM p (tm (-1) (mv (-a.1) a.2)))
end WQ
namespace WL
open PySem PySem.Spec PyProof.Rows L2
theorem nC (bt:Nat ->Nat ->Bool): ∀k,PySem.argBest bt k<=k
 | 0=>ap _
 | k+1=>by unfold PySem.argBest;split;show ap _;show Nat.le_succ_of_le (nC bt k)
theorem qp (val:Nat ->Int): ∀k j,j<=k ->val j<=val (PySem.argBest (λi j=>decide (val i >val j)) k)
 | 0, j, h => by have:j=0:=by omega
                 subst this;show aY _
 | k + 1,j,h=>by
  have ih:=qp val k;unfold PySem.argBest;by_cases hb:val (k+1) >val (PySem.argBest (λi j=>decide (val i >val j)) k);rw[am (bH hb)];obtain h' | h':=bU j (k+1);have:=ih j (by omega);omega;have:j=k+1:=by omega
  subst this;show aY _;rw[ai ⇑hb];obtain h' | h':=bU j (k+1);show ih j (by omega);have:j=k+1:=by omega
  subst this;omega
theorem qo (val:Nat ->Int): ∀k j,j<=k ->val (PySem.argBest (λi j=>decide (val i<val j)) k) <=val j
 | 0, j, h => by have:j=0:=by omega
                 subst this;show aY _
 | k + 1,j,h=>by
  have ih:=qo val k;unfold PySem.argBest;by_cases hb:val (k+1) <val (PySem.argBest (λi j=>decide (val i<val j)) k);rw[am (bH hb)];obtain h' | h':=bU j (k+1);have:=ih j (by omega);omega;have:j=k+1:=by omega
  subst this;show aY _;rw[ai ⇑hb];obtain h' | h':=bU j (k+1);show ih j (by omega);have:j=k+1:=by omega
  subst this;omega
def kQ (ns:fk Int)(m:Int):Prop:=m∈ns /\ ∀x∈ns,x<=m
def gE (ns:fk Int)(m:Int):Prop:=m∈ns /\ ∀x∈ns,m<=x
def Tb (K:Ug):fk V ->Hp ->VK ->Prop:=λxs H Q=>cO λ(l:gY) (ns:fk Int)=>fZ (xs= [.ref l]) (gS K H l (ns.map V.int)) (ns≠ []) (∀m,kQ ns m ->Q (.int m) H)
def Mw (K:Ug):fk V ->Hp ->VK ->Prop:=λxs H Q=>cO λ(l:gY) (ns:fk Int)=>fZ (xs= [.ref l]) (gS K H l (ns.map V.int)) (ns≠ []) (∀m,gE ns m ->Q (.int m) H)
section
variable {X:Cx}
def l3 {ns:fk Int}(rv:cV (ns.map V.int) its)(e:its.toArray[i]? =some v): ∃t,v= .int (ns.getD i 0) t /\ i<ns.length:=by
 have e':its[i]? =some v:= ⇑e;have dj:=rv.length;have hi:i<ns.length:=by have:=(aj.mp e').1;rw[aa] at dj;omega
 let⟨w',hw,vH⟩:=rv.get (i:=i) (x:= .int ns[i]) (by rw[az,ae hi];rfl);rw[e'] at hw;cases hw;let⟨t,rfl⟩:=vH;show#[t,by simp[List.getD,hi],hi]
def NE {ns:fk Int}(h:i<ns.length):ns.getD i 0=ns[i]:=by simp[List.getD,h]
def HZ (hn:ns≠ []):kQ ns (ns.getD (PySem.argBest (λi j=>decide (ns.getD i 0 >ns.getD j 0)) (ns.length - 1)) 0):=by
 have hl:0<ns.length:=eI.mpr hn;have hb:=nC (λi j=>decide (ns.getD i 0 >ns.getD j 0)) (ns.length - 1);have hi:PySem.argBest (λi j=>decide (ns.getD i 0 >ns.getD j 0)) (ns.length - 1) <ns.length:=by omega
 exact#[?_,λx hx=> ?_];rw[NE hi];show cq hi;let⟨j,hj,rfl⟩:=List.mem_iff_getElem.mp hx;have:=qp (λi=>ns.getD i 0) (ns.length - 1) j (by omega);have e:ns.getD j 0=ns[j]:=by simp[List.getD,hj]
 simp![e] at this;show this
def yL (hn:ns≠ []):gE ns (ns.getD (PySem.argBest (λi j=>decide (ns.getD i 0<ns.getD j 0)) (ns.length - 1)) 0):=by
 have hl:0<ns.length:=eI.mpr hn;have hb:=nC (λi j=>decide (ns.getD i 0<ns.getD j 0)) (ns.length - 1);have hi:PySem.argBest (λi j=>decide (ns.getD i 0<ns.getD j 0)) (ns.length - 1) <ns.length:=by omega
 exact#[?_,λx hx=> ?_];rw[NE hi];show cq hi;let⟨j,hj,rfl⟩:=List.mem_iff_getElem.mp hx;have:=qo (λi=>ns.getD i 0) (ns.length - 1) j (by omega);have e:ns.getD j 0=ns[j]:=by simp[List.getD,hj]
 simp![e] at this;show this
def RJ (hc:X.calm=true):gF X (.builtin "max") (Tb X.K):=by
 intro ak s σ H xs us Q I r h;let⟨l,ns,rfl,hs,hn,q⟩:=h;let⟨u,rfl,ru⟩:=vals1 r;cases ru;let⟨its,rv,ht,hz⟩:=I.list hs;have hh:X.A.in1.handled=none:=I.ok.hd hc;have dj:its.toArray.size=ns.length:=by have:=rv.length;rw[aa] at this;simpa using this.symm
 have fU:l<s.heap.objs.size:=by let⟨_,e,_⟩:=ht.isList;show aH e
 exact PySem.call_max_walkS ?_;exact wpAny_pyIter_list ht.isList ?_;exact#[s.heap.objs.size,_,_,_,its.toArray.size,_,_,λi j=>decide (ns.getD i 0 >ns.getD j 0),rfl,(Walks.list hh s.heap.objs.size l (a4 fU) its.toArray).toS,#[#[_,aQ _ rfl,rfl,rfl],ht.isList.push _],λb hb=> ?_,?_,PySem.CmpOf.ints_gt (λi=>ns.getD i 0) (λi v e=>let ⟨t,h,_⟩:=l3 rv e;#[t,h]),λv s' e hm=> ?_];change b< (s.heap.push _).objs.size;rw[dF];obtain rfl | hb:=ax.mp hb;show cF _;rw[ah.mp hb];show dI fU;rw[dj];show eI.mpr hn;have hk: ∀b o,s.heap.get? b=some o ->s'.heap.get? b=some o:=λb o e=>hm.heap b o (λhI=>absurd (aH e) (by rw[ah.mp hI];show bT _)) (aq _ e);rw[Moved.eq_with hm];let⟨t,rfl,_⟩:=l3 rv e;rw[dj];show#[.int _,H,I.kept (t':=s'.toks) hk,#[t,rfl],q _ (HZ hn)]
def Ea (hc:X.calm=true):gF X (.builtin "min") (Mw X.K):=by
 intro ak s σ H xs us Q I r h;let⟨l,ns,rfl,hs,hn,q⟩:=h;let⟨u,rfl,ru⟩:=vals1 r;cases ru;let⟨its,rv,ht,hz⟩:=I.list hs;have hh:X.A.in1.handled=none:=I.ok.hd hc;have dj:its.toArray.size=ns.length:=by have:=rv.length;rw[aa] at this;simpa using this.symm
 have fU:l<s.heap.objs.size:=by let⟨_,e,_⟩:=ht.isList;show aH e
 exact PySem.call_min_walkS ?_;exact wpAny_pyIter_list ht.isList ?_;exact#[s.heap.objs.size,_,_,_,its.toArray.size,_,_,λi j=>decide (ns.getD i 0<ns.getD j 0),rfl,(Walks.list hh s.heap.objs.size l (a4 fU) its.toArray).toS,#[#[_,aQ _ rfl,rfl,rfl],ht.isList.push _],λb hb=> ?_,?_,PySem.CmpOf.ints_lt (λi=>ns.getD i 0) (λi v e=>let ⟨t,h,_⟩:=l3 rv e;#[t,h]),λv s' e hm=> ?_];change b< (s.heap.push _).objs.size;rw[dF];obtain rfl | hb:=ax.mp hb;show cF _;rw[ah.mp hb];show dI fU;rw[dj];show eI.mpr hn;have hk: ∀b o,s.heap.get? b=some o ->s'.heap.get? b=some o:=λb o e=>hm.heap b o (λhI=>absurd (aH e) (by rw[ah.mp hI];show bT _)) (aq _ e);rw[Moved.eq_with hm];let⟨t,rfl,_⟩:=l3 rv e;rw[dj];show#[.int _,H,I.kept (t':=s'.toks) hk,#[t,rfl],q _ (yL hn)]
variable {K:Ug}
def R0:yQ:=λxs M q=>cO λ(a:gY) (ns:fk Int)=>fZ (xs= [wr a]) (M a=some (.lst (ns.map wi))) (ns≠ []) (∀m,gE ns m ->q (wi m) M)
instance:IC K (Mw K) R0 where
 imp:=by rintro xs v M H q Q m r1 ⟨a,ns,rfl,hl,hn,h⟩ k;let⟨v,rfl,r⟩:=r1.one;cases r.eq;let⟨vs,hv,rr⟩:=m a _ hl;cases rr.ints;show#[a,ns,rfl,gS.of hv,hn,λx hx=>k _ M _ H (h x hx) (bu.refl H) m WR.v]
end
end WL
namespace WQ
open PySem L2 WL WP
def prc (p s:Int):Int:=if p - s<s then p - s else s
def Bd (a:Rd):fk Int:=0::a.1::a.2.map (·.1)
def Vp (i:Int):Int:=if i<0 then -i else i
def fwv (p:Int)(a:Rd)(lo hi:Int):Int:=2*(hi - lo) - Vp a.1+(a.2.map λz=>prc p z.2).sum
def gE.uniq (h:gE ns a)(h':gE ns b):a=b:=by have:=h.2 b h'.1;have:=h'.2 a h.1;lia
def kQ.uniq (h:kQ ns a)(h':kQ ns b):a=b:=by have:=h.2 b h'.1;have:=h'.2 a h.1;lia
def tN (e n x:Int):Bool:=decide (x.fmod e=0) && (decide (0<=x.fdiv e) && decide (x.fdiv e<n))
end WQ
namespace EN
open PySem PySem.Spec PyProof.Rows L2
open Sem (wp)
open AutoSeq1 (wpAny_loadPart')
def zV (hj:s.heap.IsTupleIter j t i)(ht:s.heap.IsTuple t its)(hx:its[i]? =some x)(hQ: ∀h',h'.IsTupleIter j t (i+1) ->Heap.SameBut j s.heap h' ->Q x {s with heap:=h'}):wpAny (model prog w) A (Builtin.SmallTypes.nextOf (.ref j)) Q E s:=by let⟨oj,Nf,hcj,K5⟩:=id hj;let⟨ot,ZH,_,nt,_c⟩:=ht;unfold Builtin.SmallTypes.nextOf;exact ag (wpAny_callSpecial?_slot (name:=Str.ofString "__next__") hj.typeIs F.slot_tuple_iterator_next (wpAny_call_entry F.slot_tuple_iterator_next hj.typeIs F.entry_tuple_iterator_next ?_ (F.args_tuple_iterator_next_1 _)));change wpAny _ _ (field (.ref j) 0 >>=_) _ _ s;exact ag (wpAny_field Nf K5 (x:= .ref t) rfl ?_);change wpAny _ _ (if(Value.ref t==Value.none)=true then _ else _) _ _ s;rw[ai (show ¬((Value.ref t==Value.none)=true) from λz=>a_ z)];change wpAny _ _ (field (.ref j) 1 >>=_) _ _ s;exact ag (wpAny_field Nf K5 (x:= .int i 0) rfl ?_);change wpAny _ _ (seqItems? (.ref t) >>=_) _ _ s;exact ag (wpAny_seqItems ZH _c ?_);simp![Int.toNat_natCast,hx];exact ag (wpAny_setField Nf K5 (by simp) (aC #[x,rfl,aC (hQ _ ?_ (Heap.SameBut.update ..))]));show#[_,Heap.get?_update_self _ Nf (Obj.isFreed_of_fields (Obj.data_mapFields K5 _)),(Obj.cls_mapFields ..).trans hcj,by rw[Obj.data_mapFields K5];simp[rawInt]]
def Dj (hh:A.handled=none)(hj:s.heap.IsTupleIter j t i)(ht:s.heap.IsTuple t its)(hx:its[i]? =none)(hE: ∀h' e,Heap.ExtBut j s.heap h' ->(∃o,h'.get? e=some o /\ o.cls= .type "StopIteration") ->E (.ref e) {s with heap:=h'}):wpAny (model prog w) A (Builtin.SmallTypes.nextOf (.ref j)) Q E s:=by
 let⟨oj,Nf,hcj,K5⟩:=id hj;let⟨ot,ZH,_,nt,_c⟩:=ht;unfold Builtin.SmallTypes.nextOf;exact ag (wpAny_callSpecial?_slot (name:=Str.ofString "__next__") hj.typeIs F.slot_tuple_iterator_next (wpAny_call_entry F.slot_tuple_iterator_next hj.typeIs F.entry_tuple_iterator_next ?_ (F.args_tuple_iterator_next_1 _)));change wpAny _ _ (field (.ref j) 0 >>=_) _ _ s;exact ag (wpAny_field Nf K5 (x:= .ref t) rfl ?_);change wpAny _ _ (if(Value.ref t==Value.none)=true then _ else _) _ _ s;rw[ai (show ¬((Value.ref t==Value.none)=true) from λz=>a_ z)];change wpAny _ _ (field (.ref j) 1 >>=_) _ _ s;exact ag (wpAny_field Nf K5 (x:= .int i 0) rfl ?_);change wpAny _ _ (seqItems? (.ref t) >>=_) _ _ s;exact ag (wpAny_seqItems ZH _c ?_);simp![Int.toNat_natCast,hx];exact ag (wpAny_rule (ag (wpAny_setField Nf K5 (by simp) ?_)));change wpAny _ _ (newExc (.type "StopIteration") [] >>=_) _ _ _;exact ag ?_;simp![newExc,newTuple];exact ag (eT ?_ (by size_fits));exact ag (m:=firstArgMember _ _) (wpAny_of_eq (a:=Value.none) (by first | rfl | (simp![firstArgMember];rfl)) ?_);exact eT ?_ (by size_fits);simp![raiseNew];exact ag (wpAny_handled ?_);first | rw[show A.in1.handled=none from hh] | rw[hh]
 exact ag (aC (wpAny_throw ?_));show hE _ _ (((Heap.SameBut.update ..).extBut.push _).push _) #[_,aQ _ rfl,rfl]
theorem HI {prog:Program}{w:World}{A:Around}(hh:A.handled=none)(j t:gY)(cD:t≠j)(its:i9 fm): Draws prog w A j [j,t] its.size (λi v=>its[i]? =some v) (λi h=>h.IsTupleIter j t i /\ h.IsTuple t its) where
 live:=λ_ _ st=>let ⟨o,ho,_⟩:=st.1;#[o,ho]
 frame:=λ_ _ _ st hk=>#[let ⟨o,ho,r⟩:=st.1;#[o,hk j (by simp) o ho,r],let ⟨o,ho,r⟩:=st.2;#[o,hk t (by simp) o ho,r]]
 item:=λi s Q E hi st hQ=>by exact zV st.1 st.2 (x:=its[i]) (by simp[hi]) λh' jK gO=> ?_;show hQ _ h' s.toks (by simp[hi]) #[jK,st.2.extBut gO.extBut cD] gO
 done:=λs Q E st hE=>Dj hh st.1 st.2 (by simp) hE
theorem Pp (t:gY)(its:i9 fm)(n:Nat)(Xp:fG gY)(sl:i9 (fG fm)): Meets (Builtin.«enumerate.__new__» #[[.type "enumerate", .ref t],[]]) (λ_ R s=>s.heap.get? t=some {cls:= .type "tuple",dict:=Xp,data:= .seq its n,slots:=sl} /\R (.ok (.ret (.ref (s.heap.push {cls:= .type "tuple_iterator",data:= .fields (List.toArray [.ref t, .int 0 0])}).objs.size))) {s with heap:=(s.heap.push {cls:= .type "tuple_iterator",data:= .fields (List.toArray [.ref t, .int 0 0])}).push {cls:= .type "enumerate",data:= .fields (List.toArray [.none, .bool false, .ref s.heap.objs.size,rawInt 0, .none, .none])}}):= .of_wp λprog w A R s h=>by
 let⟨hp,g,d,tk,os⟩:=s;let⟨hl,h⟩:=h;have oB:=sub_enumerate;have hL:Heap.IsTuple (Shared.heap #[hp,g,d,tk,os]) t its:=#[_,hl,rfl,n,rfl]
 wp_walk using wpAny_loadPart' hl;exact wpAny_stack_any λst=>aC ?_;split;rename_i c _ _ _ _ _;cases (c==Value.type "enumerate");wp_walk using wpAny_loadPart' hl,wpAny_pyIter_tuple hL;show#[_,rfl,h];wp_walk using wpAny_loadPart' hl,wpAny_pyIter_tuple hL;show#[_,rfl,h];wp_walk using wpAny_loadPart' hl,wpAny_pyIter_tuple hL;show#[_,rfl,h]
def AF (hL:s.heap.IsTuple t its)(h: ∀h',IsEnum h' (s.heap.objs.size+1) s.heap.objs.size 0 .none ->h'.IsTupleIter s.heap.objs.size t 0 ->h'.objs.size=s.heap.objs.size+2 ->(∀b o,s.heap.get? b=some o ->h'.get? b=some o) ->Q (.ref (s.heap.objs.size+1)) {s with heap:=h'}):wpAny (model prog w) A (call (.type "enumerate") [.ref t]) Q E s:=by
 let⟨⟨c,Xp,dt,sl⟩,hl,hc,n,hd⟩:=hL;replace hc:c= .type "tuple" :=hc;replace hd:dt= .seq its n:=hd;subst hc hd;exact callType_new F.called_enumerate ⋯ (F.typeCall_enumerate_1 _) (F.newCall_enumerate_1 _) (λobj=>F.args_object_init_2 obj _) F.entry_enumerate_new (Pp t its n Xp sl) #[hl,?_];have hz:(s.heap.push {cls:= .type "tuple_iterator",data:= .fields (List.toArray [.ref t, .int 0 0])}).objs.size=s.heap.objs.size+1:=dF ..;change _ /\ _;rw[hz];have he:IsEnum ((s.heap.push {cls:= .type "tuple_iterator",data:= .fields (List.toArray [.ref t, .int 0 0])}).push {cls:= .type "enumerate",data:= .fields (List.toArray [.none, .bool false, .ref s.heap.objs.size,rawInt 0, .none, .none])}) (s.heap.objs.size+1) s.heap.objs.size 0 .none:=by have q:=aQ (s.heap.push {cls:= .type "tuple_iterator",data:= .fields (List.toArray [.ref t, .int 0 0])}) (o:= {cls:= .type "enumerate",data:= .fields (List.toArray [.none, .bool false, .ref s.heap.objs.size,rawInt 0, .none, .none])}) rfl;rw[hz] at q;show q
 exact#[#[_,he,rfl],h _ he #[_,aq _ (aQ _ rfl),rfl,rfl] (by rw[dF,hz]) λb o x=>aq _ (aq _ x)]
end EN
namespace EN
open PySem PySem.Spec PyProof.Rows L2 WL
def vZ {σ:L2.St}(I:Inv X ak σ H s)(k: ∀b o,b≠e ->b≠j ->s.heap.get? b=some o ->h'.get? b=some o)(fe:kK X ak H e)(fj:kK X ak H j)(new:fq X.prog X.w (dy H s.heap.objs.size (.tup xs)) h' s.heap.objs.size (.tup xs)):Inv X ak σ (dy H s.heap.objs.size (.tup xs)) {s with heap:=h',toks:=t'}:=by
 have US:H s.heap.objs.size=none:=I.dM.fresh (ap _);have ne: ∀ {b u},H b=some u ->b≠e /\ b≠j:=λ{b u} q=>#[dW q fe.1,dW q fj.1]
 have nm: ∀ {b:gY},b∉ [e,j] ->b≠e /\ b≠j:=λ{b} q=> ⇑q;exact I.call (ch:= [e,j]) (g':=s.gens) (d':=s.drawn) #[λb o q n _ hc=>k b o (nm hc).1 (nm hc).2 q,λb o q n _ hc=>#[o.slots,k b o (nm hc).1 (nm hc).2 q],λb o q n hc=> ?_,λb o q hc=>#[o,k b o (nm hc).1 (nm hc).2 q],λb ys q=> ?_,λb o u q=> ?_,λb ps q=>#[#[],?_]] ?_ I.bare ?_;rw[bS (a4 (aH q))];show n;rw[bS (dW q US)];show q;rw[bS (dW q US)];show q;rw[bS (dW q US),q];simp;intro b u q;by_cases hb:b=s.heap.objs.size;subst hb;rw[cr] at q;cases q;show new;rw[bS hb] at q;exact(I.dM b u q).rF (λc v hc r=> ?_) (λc r=>by rw[bS (dW r US)];show r) λc ys r=>by rw[bS (dW r US)];show r
 obtain rfl | hc:=hc;show k _ v (ne q).1 (ne q).2 r;show k _ v (ne hc).1 (ne hc).2 r;intro b hb;obtain rfl | hb:=ax.mp hb;show#[fe.2.2.2.1,fe.2.1,fe.2.2.2.2.1,fe.2.2.2.2.2];rw[ah.mp hb];show#[fj.2.2.2.1,fj.2.1,fj.2.2.2.2.1,fj.2.2.2.2.2]
def Ij (K:Ug)(a:gY):It:=#[λi H=>cO λxs x=>jI K H a xs /\ xs[i]? =some x,λi H v H'=>cO λp x=>fZ (H p=none) (H'=dy H p (.tup [.int i,x])) (v= .ref p) (∀xs,jI K H a xs ->xs[i]? =some x),λi H=> ∃xs,jI K H a xs /\ xs.length=i]
def Ik (K:Ug)(a:gY):It:=#[λi H=>cO λxs x=>gS K H a xs /\ xs[i]? =some x,λi H v H'=>cO λp x=>fZ (H p=none) (H'=dy H p (.tup [.int i,x])) (v= .ref p) (∀xs,gS K H a xs ->xs[i]? =some x),λi H=> ∃xs,gS K H a xs /\ xs.length=i]
def zj {P:Program}{w:World}{K:Ug}{tP:fk Expr}{x1}{pos:Pos}(a e j:gY)(Ql:e≠j):tS P w K (.Tuple tP x1 pos) (Ij K a) [e,j] e (λi h=>(∃old,IsEnum h e j i old) /\ h.IsTupleIter j a i) where
 mem:=by simp
 obj:=λi h st b hb=>by let⟨⟨old,he⟩,o,hj,c,d⟩:=st;obtain rfl | hb:=ax.mp hb;show#[_,he,λv z=>nomatch z];rw[ah.mp hb];show#[o,hj,λv z=>by rw[d] at z;cases z]
 keep:=λi h h' st k=>by let⟨⟨old,he⟩,o,hj,r⟩:=st;show#[#[old,k e (by simp) _ he],o,k j (by simp) o hj,r]
 item := by
  intro X hP hw hK hc i ak s σ H E I hf st hg;subst hP hw hK;let⟨xs,x,hq,hx⟩:=hg;let⟨its,rv,p,hz⟩:=I.tuple hq;let⟨⟨old,he⟩,hj⟩:=st;have fe:=hf e (by simp);have fj:=hf j (by simp);have tN:s.heap.IsTuple a its.toArray:=p;have ha:a≠j:=λz=>by let⟨o,h1,c1,_⟩:=tN;let⟨o2,h2,c2,_⟩:=hj;rw[z] at h1;rw[h1] at h2;cases h2;rw[c1] at c2;simp at c2
  have _l:a≠e:=λz=>by let⟨o,h1,c1,_⟩:=tN;rw[z] at h1;rw[he] at h1;cases h1;simp at c1
  have hi:i<its.toArray.size:=by have:=(aj.mp hx).1;have:=rv.length;simp;lia
  exact wpAny_pyNext_enum_itemD (HI (show X.A.in1.handled=none from I.ok.hd hc) j a ha its.toArray) he #[hj,tN] hi Ql (by simp[Ql,aW _l]) λy h' tk hy ho f8 ht hsz hk=> ?_;exact#[_,rfl,wpAny_letOwnedTupleGo_enum ho λh2 IY kR=> ?_];let⟨u,hu,ru⟩:=rv.get hx;have eu:u=y:=by have:its.toArray[i]? =some u:= ⇑hu;rw[hy] at this;show(bG this).symm
  subst eu;have Nu:s.heap.objs.size≠e:=Nat.ne_of_gt (aH he);exact#[.ref s.heap.objs.size,dy H s.heap.objs.size (.tup [.int i,x]),vZ (t':=tk+1) I (λb o hb uK q=>(kR.2 b hb).trans (hk b o hb uK q)) fe fj #[by rw[dg];change 2<=16777216;decide,[.int i tk,u], .cons #[_,rfl] (.cons ru .nil),?_],rfl,#[_,x,I.dM.fresh (ap _),rfl,rfl,λys G8=>by rw[I.pk G8 hq];show hx],#[#[u, ⇑IY],?_],λb hb=> ?_];show#[_,(kR.2 _ Nu).trans ht,rfl,_,rfl,rfl];let⟨⟨o,h1,r⟩,_⟩:=f8;show#[o,(kR.2 j (aW Ql)).trans h1,r];have:H b=none:=(hf b hb).1;rw[bS (λz=> ?_)];show this;let⟨o,h1,_⟩:=hj;obtain rfl | hb:=ax.mp hb;show Nu z.symm;rw[ah.mp hb] at z;show absurd (aH h1) (by rw[z];show bT _)
 done:=by
   intro X hP hw hK hc i ak s σ H E I hf st hg;subst hP hw hK;let⟨xs,hq,hx⟩:=hg;let⟨its,rv,p,hz⟩:=I.tuple hq;let⟨⟨old,he⟩,hj⟩:=st;have tN:s.heap.IsTuple a its.toArray:=p;have ha:a≠j:=λz=>by let⟨o,h1,c1,_⟩:=tN;let⟨o2,h2,c2,_⟩:=hj;rw[z] at h1;rw[h1] at h2;cases h2;rw[c1] at c2;simp at c2
   let⟨f0,f1,f2,f3,f4,f5⟩:=hf j (by simp);have hl:i=its.toArray.size:=by have:=rv.length;simp;lia
   exact wpAny_pyNext_enum_endD (HI (show X.A.in1.handled=none from I.ok.hd hc) j a ha its.toArray) he #[hl▸hj,tN] λh2 eb=>#[rfl,I.turned (t':=s.toks) (λb o hb q=>eb b o hb q) f0 f1 f3 f4 f5]
 self:=λ_ _ _ _ _ st h=>let ⟨⟨_,he⟩,_⟩:=st;wpAny_pyIter_enum he h
def zk {P:Program}{w:World}{K:Ug}{tP:fk Expr}{x1}{pos:Pos}(a e j:gY)(Ql:e≠j):tS P w K (.Tuple tP x1 pos) (Ik K a) [e,j] e (λi h=>(∃old,IsEnum h e j i old) /\ h.IsListIter j a i) where
 mem:=by simp
 obj:=λi h st b hb=>by let⟨⟨old,he⟩,o,hj,c,d⟩:=st;obtain rfl | hb:=ax.mp hb;show#[_,he,λv z=>nomatch z];rw[ah.mp hb];show#[o,hj,λv z=>by rw[d] at z;cases z]
 keep:=λi h h' st k=>by let⟨⟨old,he⟩,o,hj,r⟩:=st;show#[#[old,k e (by simp) _ he],o,k j (by simp) o hj,r]
 item := by
  intro X hP hw hK hc i ak s σ H E I hf st hg;subst hP hw hK;let⟨xs,x,hq,hx⟩:=hg;let⟨its,rv,p,hz⟩:=I.list hq;let⟨⟨old,he⟩,hj⟩:=st;have fe:=hf e (by simp);have fj:=hf j (by simp);have tN:s.heap.IsList a its.toArray:=p.isList;have ha:a≠j:=λz=>by let⟨o,h1,c1,_⟩:=tN;let⟨o2,h2,c2,_⟩:=hj;rw[z] at h1;rw[h1] at h2;cases h2;rw[c1] at c2;simp at c2
  have _l:a≠e:=λz=>by let⟨o,h1,c1,_⟩:=tN;rw[z] at h1;rw[he] at h1;cases h1;simp at c1
  have hi:i<its.toArray.size:=by have:=(aj.mp hx).1;have:=rv.length;simp;lia
  exact wpAny_pyNext_enum_itemD (Draws.list (show X.A.in1.handled=none from I.ok.hd hc) j a ha its.toArray) he #[hj,tN] hi Ql (by simp[Ql,aW _l]) λy h' tk hy ho f8 ht hsz hk=> ?_;exact#[_,rfl,wpAny_letOwnedTupleGo_enum ho λh2 IY kR=> ?_];let⟨u,hu,ru⟩:=rv.get hx;have eu:u=y:=by have:its.toArray[i]? =some u:= ⇑hu;rw[hy] at this;show(bG this).symm
  subst eu;have Nu:s.heap.objs.size≠e:=Nat.ne_of_gt (aH he);exact#[.ref s.heap.objs.size,dy H s.heap.objs.size (.tup [.int i,x]),vZ (t':=tk+1) I (λb o hb uK q=>(kR.2 b hb).trans (hk b o hb uK q)) fe fj #[by rw[dg];change 2<=16777216;decide,[.int i tk,u], .cons #[_,rfl] (.cons ru .nil),?_],rfl,#[_,x,I.dM.fresh (ap _),rfl,rfl,λys G8=>by rw[I.list_inj G8 hq];show hx],#[#[u, ⇑IY],?_],λb hb=> ?_];show#[_,(kR.2 _ Nu).trans ht,rfl,_,rfl,rfl];let⟨⟨o,h1,r⟩,_⟩:=f8;show#[o,(kR.2 j (aW Ql)).trans h1,r];have:H b=none:=(hf b hb).1;rw[bS (λz=> ?_)];show this;let⟨o,h1,_⟩:=hj;obtain rfl | hb:=ax.mp hb;show Nu z.symm;rw[ah.mp hb] at z;show absurd (aH h1) (by rw[z];show bT _)
 done:=by
   intro X hP hw hK hc i ak s σ H E I hf st hg;subst hP hw hK;let⟨xs,hq,hx⟩:=hg;let⟨its,rv,p,hz⟩:=I.list hq;let⟨⟨old,he⟩,hj⟩:=st;have tN:s.heap.IsList a its.toArray:=p.isList;have ha:a≠j:=λz=>by let⟨o,h1,c1,_⟩:=tN;let⟨o2,h2,c2,_⟩:=hj;rw[z] at h1;rw[h1] at h2;cases h2;rw[c1] at c2;simp at c2
   let⟨f0,f1,f2,f3,f4,f5⟩:=hf j (by simp);have hl:i=its.toArray.size:=by have:=rv.length;simp;lia
   exact wpAny_pyNext_enum_endD (Draws.list (show X.A.in1.handled=none from I.ok.hd hc) j a ha its.toArray) he #[hl▸hj,tN] λh2 eb=>#[rfl,I.turned (t':=s.toks) (λb o hb q=>eb b o hb q) f0 f1 f3 f4 f5]
 self:=λ_ _ _ _ _ st h=>let ⟨⟨_,he⟩,_⟩:=st;wpAny_pyIter_enum he h
def G6 (K:Ug)(tl:TA):TI:=λσ H R=>tl σ H λvs H1=> ∃a,d_ (vs= [.ref a]) (∃xs,jI K H1 a xs) (R (Ij K a) H1)
def G7 (K:Ug)(tl:TA):TI:=λσ H R=>tl σ H λvs H1=> ∃a,d_ (vs= [.ref a]) (∃xs,gS K H1 a xs) (R (Ik K a) H1)
def F4 (et:tg= .Tuple tP x1 zl)(hg:Gl X "enumerate")(hm:X.mg "enumerate" =none)(ha:PA X [l] tl)(hs:starEach [l] X.env= [(false,eval l X.env)]:=by rfl):PI X tg (.Call (.Name "enumerate" p) [l] [] pos) (G6 X.K tl):=by subst et;intro ak s σ H R I h;exact Call_ (g_ I hg hm Boot.«enumerate» (bM (dL (ha pos ak s σ H _ I h) λus s1 ⟨vs,H1,I1,r1,q1⟩=> ?_) hs rfl));let⟨a,e,⟨xs,hq⟩,q⟩:=q1;subst e;let⟨v,rfl,Yt⟩:=vals1 r1;cases Yt;let⟨its,rv,ht,hz⟩:=I1.tuple hq;exact AF (show s1.heap.IsTuple a its.toArray from ht) λh2 he hj hsz hk=> ?_;have I2:Inv X ak σ H1 {s1 with heap:=h2}:=I1.kept (t':=s1.toks) hk;exact wpAny_pyIter_enum he ?_;exact#[_,[s1.heap.objs.size+1,s1.heap.objs.size],_,_,H1,rfl,I2,zj a (s1.heap.objs.size+1) s1.heap.objs.size (Nat.succ_ne_self _),#[#[_,he],hj],λb hb=> ?_,q];obtain rfl | hb:=ax.mp hb;show I1.wu (Nat.le_succ _) (I1.dM.fresh (Nat.le_succ _));rw[ah.mp hb];show I1.wu (ap _) (I1.dM.fresh (ap _))
def F5 (et:tg= .Tuple tP x1 zl)(hg:Gl X "enumerate")(hm:X.mg "enumerate" =none)(ha:PA X [l] tl)(hs:starEach [l] X.env= [(false,eval l X.env)]:=by rfl):PI X tg (.Call (.Name "enumerate" p) [l] [] pos) (G7 X.K tl):=by subst et;intro ak s σ H R I h;exact Call_ (g_ I hg hm Boot.«enumerate» (bM (dL (ha pos ak s σ H _ I h) λus s1 ⟨vs,H1,I1,r1,q1⟩=> ?_) hs rfl));let⟨a,e,⟨xs,hq⟩,q⟩:=q1;subst e;let⟨v,rfl,Yt⟩:=vals1 r1;cases Yt;let⟨its,rv,ht,hz⟩:=I1.list hq;exact call_enumerate_list ht.isList λh2 he hj hsz hk=> ?_;have I2:Inv X ak σ H1 {s1 with heap:=h2}:=I1.kept (t':=s1.toks) hk;exact wpAny_pyIter_enum he ?_;exact#[_,[s1.heap.objs.size+1,s1.heap.objs.size],_,_,H1,rfl,I2,zk a (s1.heap.objs.size+1) s1.heap.objs.size (Nat.succ_ne_self _),#[#[_,he],hj],λb hb=> ?_,q];obtain rfl | hb:=ax.mp hb;show I1.wu (Nat.le_succ _) (I1.dM.fresh (Nat.le_succ _));rw[ah.mp hb];show I1.wu (ap _) (I1.dM.fresh (ap _))
end EN
namespace WL
open PySem PySem.Spec PyProof.Rows L2 EN
section
variable {X:Cx}
def Th (K:Ug):fk V ->Hp ->VK ->Prop:=λxs H Q=>cO λ(l:gY) (bs:fk Bool)=>d_ (xs= [.ref l]) (gS K H l (bs.map V.bl)) (Q (.bl (bs.all id)) H)
def Tg (K:Ug):fk V ->Hp ->VK ->Prop:=λxs H Q=>cO λ(l:gY) (bs:fk Bool)=>d_ (xs= [.ref l]) (gS K H l (bs.map V.bl)) (Q (.bl (bs.any id)) H)
def G1 {bs:fk Bool}(rv:cV (bs.map V.bl) its)(e:its.toArray[i]? =some v):v= .bool (bs.getD i false) /\ i<bs.length:=by
 have e':its[i]? =some v:= ⇑e;have dj:=rv.length;have hi:i<bs.length:=by have:=(aj.mp e').1;rw[aa] at dj;lia
 let⟨w',hw,vH⟩:=rv.get (i:=i) (x:= .bl bs[i]) (by rw[az,ae hi];rfl);rw[e'] at hw;cases hw;cases vH;show#[by simp[List.getD,hi],hi]
def C5 (bs:fk Bool):(List.range bs.length).all (λi=>bs.getD i false)=bs.all id:=by apply Bool.eq_iff_iff.mpr;rw[c8,c8];symm;intro h x hx;let⟨i,hi,rfl⟩:=List.mem_iff_getElem.mp hx;have:=h i (cf.mpr hi);simpa [List.getD,hi] using this;intro h i hi;rw[cf] at hi;have:=h bs[i] (cq hi);simpa [List.getD,hi] using this
def C4 (bs:fk Bool):(List.range bs.length).any (λi=>bs.getD i false)=bs.any id:=by apply Bool.eq_iff_iff.mpr;rw[List.any_eq_true,List.any_eq_true];symm;rintro⟨i,hi,h⟩;rw[cf] at hi;show#[bs[i],cq hi,by simpa [List.getD,hi] using h];rintro⟨x,hx,h⟩;let⟨i,hi,rfl⟩:=List.mem_iff_getElem.mp hx;show#[i,cf.mpr hi,by simpa [List.getD,hi] using h]
def kl (hc:X.calm=true):gF X (.builtin "all") (Th X.K):=by
 intro ak s σ H xs us Q I r h;let⟨l,bs,rfl,hs,q⟩:=h;let⟨u,rfl,ru⟩:=vals1 r;cases ru;let⟨its,rv,ht,hz⟩:=I.list hs;have hh:X.A.in1.handled=none:=I.ok.hd hc;have dj:its.toArray.size=bs.length:=by have:=rv.length;rw[aa] at this;simpa using this.symm
 have fU:l<s.heap.objs.size:=by let⟨_,e,_⟩:=ht.isList;show aH e
 exact PySem.call_all_walkS (wpAny_pyIter_list ht.isList ?_);exact#[s.heap.objs.size,_,_,_,its.toArray.size,_,_,λi=>bs.getD i false,rfl,(Walks.list hh s.heap.objs.size l (a4 fU) its.toArray).toS,#[#[_,aQ _ rfl,rfl,rfl],ht.isList.push _],λi v s' Q' E' e hq=> ?_,λs' hm=> ?_];let⟨rfl,_⟩:=G1 rv e;show cT hq;have hk: ∀b o,s.heap.get? b=some o ->s'.heap.get? b=some o:=λb o e=>hm.heap b o (λhI=>absurd (aH e) (by rw[ah.mp hI];show bT _)) (aq _ e);rw[Moved.eq_with hm,dj,C5];show#[.bl _,H,I.kept (t':=s'.toks) hk,rfl,q]
def Ed (hc:X.calm=true):gF X (.builtin "any") (Tg X.K):=by
 intro ak s σ H xs us Q I r h;let⟨l,bs,rfl,hs,q⟩:=h;let⟨u,rfl,ru⟩:=vals1 r;cases ru;let⟨its,rv,ht,hz⟩:=I.list hs;have hh:X.A.in1.handled=none:=I.ok.hd hc;have dj:its.toArray.size=bs.length:=by have:=rv.length;rw[aa] at this;simpa using this.symm
 have fU:l<s.heap.objs.size:=by let⟨_,e,_⟩:=ht.isList;show aH e
 exact PySem.call_any_walkS (wpAny_pyIter_list ht.isList ?_);exact#[s.heap.objs.size,_,_,_,its.toArray.size,_,_,λi=>bs.getD i false,rfl,(Walks.list hh s.heap.objs.size l (a4 fU) its.toArray).toS,#[#[_,aQ _ rfl,rfl,rfl],ht.isList.push _],λi v s' Q' E' e hq=> ?_,λs' hm=> ?_];let⟨rfl,_⟩:=G1 rv e;show cT hq;have hk: ∀b o,s.heap.get? b=some o ->s'.heap.get? b=some o:=λb o e=>hm.heap b o (λhI=>absurd (aH e) (by rw[ah.mp hI];show bT _)) (aq _ e);rw[Moved.eq_with hm,dj,C4];show#[.bl _,H,I.kept (t':=s'.toks) hk,rfl,q]
variable {K:Ug}
theorem c7.bools {H:Hp}: ∀ {bs:fk Bool} {vs:fk V},c7 K H (bs.map wb) vs ->vs=bs.map V.bl
 | [],vs,h=>by simpa only[dU,c7] using h
 | n::r,vs,h=>by simp![aI,c7] at h;let⟨v,t,rfl,h1,h2⟩:=h;rw[c7.bools h2,h1.eq];rfl
def Sf:yQ:=λxs M q=>cO λ(a:gY) (bs:fk Bool)=>d_ (xs= [wr a]) (M a=some (.lst (bs.map wb))) (q (wb (bs.all id)) M)
def X7:yQ:=λxs M q=>cO λ(a:gY) (bs:fk Bool)=>d_ (xs= [wr a]) (M a=some (.lst (bs.map wb))) (q (wb (bs.any id)) M)
instance:IC K (Th K) Sf where
 imp:=by rintro xs v M H q Q m r1 ⟨a,ns,rfl,hl,h⟩ k;let⟨v,rfl,r⟩:=r1.one;cases r.eq;let⟨vs,hv,rr⟩:=m a _ hl;cases rr.bools;show#[a,ns,rfl,gS.of hv,k _ M _ H h (bu.refl H) m WR.v]
instance:IC K (Tg K) X7 where
 imp:=by rintro xs v M H q Q m r1 ⟨a,ns,rfl,hl,h⟩ k;let⟨v,rfl,r⟩:=r1.one;cases r.eq;let⟨vs,hv,rr⟩:=m a _ hl;cases rr.bools;show#[a,ns,rfl,gS.of hv,k _ M _ H h (bu.refl H) m WR.v]
def gi (l:fk W):fk W:=(List.range l.length).map λ(i:Nat)=> .tup [wi i,l.getD i wn]
def Cn {i:Nat}(h:(gi l)[i]? =some x): ∃y,l[i]? =some y /\ x= .tup [wi i,y]:=by unfold gi at h;rw[az] at h;by_cases hi:i<l.length;rw[List.getElem?_range hi] at h;cases h;show#[l[i],ae hi,by simp[List.getD,hi]];rw[List.getElem?_eq_none ⇑hi] at h;cases h
def yt:(gi l).length=l.length:=by simp[gi]
def Lh {i:Nat}(h:l[i]? =some y):(gi l)[i]? =some (.tup [wi i,y]):=by let⟨hi,rfl⟩:=aj.mp h;unfold gi;rw[az,List.getElem?_range hi];simp[List.getD,hi]
def Ad (a:WA):WI:=λρ M q=>a ρ M λxs M1=> ∃l,xs= [.tup l] /\ q (gi l) (λ_=>True) M1
def Ae (a:WA):WI:=λρ M q=>a ρ M λxs M1=>cO λp l=>d_ (xs= [wr p]) (M1 p=some (.lst l)) (q (gi l) (λM'=>M' p=some (.lst l)) M1)
def yk {i:Nat}(m:ij K M H)(rr:c7 K H l vs)(hi:vs[i]? =some x)(hp:H p=none): bu H (dy H p (.tup [.int i,x])) /\ ij K M (dy H p (.tup [.int i,x])) /\ ∃z,(gi l)[i]? =some z /\ WR K (dy H p (.tup [.int i,x])) z (.ref p):=by let⟨d,hd,r⟩:=rr.back hi;have ts:=L2.gk.ts (cB (o:= .tup [.int i,x]) hp);show#[ts,m.new hp,_,Lh hd,WR.MJ (jI.of cr) (c7.cons WR.v (c7.cons (r.ts ts) c7.nil))]
def Ah (hv:jI K H1 p vs)(rr:c7 K H1 l vs): ∀i M H,bu H1 H ->ij K M H ->True ->((gi l).length=i ->(Ij K p).stop i H) /\ (i< (gi l).length ->(Ij K p).go i H) /\ ∀v H',i< (gi l).length ->(Ij K p).LI i H v H' ->bu H H' /\ ij K M H' /\ ∃x,(gi l)[i]? =some x /\ WR K H' x v:=by intro i M H ts m _;have sv:=Un.Yl ts hv;have FJ:=rr.ts ts;have hl:=FJ.length;rw[yt];exact#[λh=>#[vs,sv, ∅],λh=>#[vs,vs[i]'∅,sv,by simp],λv H' hi y=> ?_];let⟨q,x,hq,rfl,rfl,y⟩:=y;show yk m FJ (y vs sv) hq
def Ai: ∀i M H,bu H1 H ->ij K M H ->M p=some (.lst l) ->((gi l).length=i ->(Ik K p).stop i H) /\ (i< (gi l).length ->(Ik K p).go i H) /\ ∀v H',i< (gi l).length ->(Ik K p).LI i H v H' ->bu H H' /\ ij K M H' /\ ∃x,(gi l)[i]? =some x /\ WR K H' x v:=by intro i M H ts m hk;let⟨vs,hv,rr⟩:=m p _ hk;have hl:=rr.length;rw[yt];exact#[λh=>#[vs,gS.of hv, ∅],λh=>#[vs,vs[i]'∅,gS.of hv,by simp],λv H' hi y=> ?_];let⟨q,x,hq,rfl,rfl,y⟩:=y;show yk m rr (y vs (gS.of hv)) hq
instance {t:TA}{a:WA} [ia:IA K t a]:II K (G6 K t) (Ad a) where
 imp:=λρ M σ H q R o h k=>ia.imp ρ M σ H _ _ o h λxs M1 v H1 ⟨l,e,h1⟩ t1 m1 r1=>by subst e;let⟨v,rfl,r⟩:=r1.one;let⟨p,vs,rfl,hv,rr⟩:=r.tup;show#[p,rfl,#[vs,hv],k _ _ _ M1 H1 h1 t1 m1 (Ah hv rr)]
instance {t:TA}{a:WA} [ia:IA K t a]:II K (G7 K t) (Ae a) where
 imp:=λρ M σ H q R o h k=>ia.imp ρ M σ H _ _ o h λxs M1 v H1 ⟨p,l,e,hp,h1⟩ t1 m1 r1=>by subst e;let⟨v,rfl,r⟩:=r1.one;cases r.eq;let⟨vs,hv,rr⟩:=m1 p _ hp;show#[p,rfl,#[vs,gS.of hv],k _ _ _ M1 H1 h1 t1 m1 Ai]
def GY:Ad a ρ M q=a ρ M λxs M1=>zM xs λx=>tupK x λl=>q (gi l) (λ_=>True) M1:=by unfold Ad zM tupK;congr 1;funext xs M1;apply propext;symm;rintro⟨l,h,k⟩;show#[_,h,l,rfl,k];rintro⟨_,h,l,rfl,k⟩;show#[l,h,k]
def GZ:Ae a ρ M q=a ρ M λxs M1=>zM xs λx=>iA x λp=>lstK (M1 p) λl=>q (gi l) (λM'=>M' p=some (.lst l)) M1:=by unfold Ae zM iA lstK;congr 1;funext xs M1;apply propext;symm;rintro⟨p,l,h,h2,k⟩;show#[_,h,p,rfl,l,h2,k];rintro⟨_,h,p,rfl,l,h2,k⟩;show#[p,l,h,h2,k]
end
end WL
namespace WL
open PySem L2
def AC {M1:Mp}(hz:xs.length<=sizeLine)(h: ∀p,M1 p=none -> ∃I:Nat ->fk W ->Mp ->Prop,fZ (I 0 [] (um M1 p (.lst []))) (∀i ys M,i<=xs.length ->I i ys M ->keep M /\ M p=some (.lst ys) /\ ys.length<=i) (∀i x ys M,xs[i]? =some x ->I i ys M -> ∀N:fk W ->Mp ->Prop,(∀ys M,I (i+1) ys M ->N ys M) ->g x (mx own fr ρ) M λρ2 M2=>c ρ2 M2 λb M3=>iU b (el ρ2 M3 λy M4=>M4 p=some (.lst ys) /\ N (ys++ [y]) (um M4 p (.lst (ys++ [y])))) (N ys M3)) (∀ys M,I xs.length ys M ->q (wr p) M)):sR xs keep own fr g c el ρ M1 q:=by exact#[hz,λp hp=> ?_];let⟨I,h0,h1,h2,h3⟩:=h p hp;show#[I,h0,h1,λi x ys M hx hI=>h2 i x ys M hx hI _ λ_ _ z=>z,h3]
theorem rf {bs:fk Bool}(h:M x=some (.lst (bs.map wb)))(k:q (wb (bs.all id)) M):Sf [wr x] M q:=#[x,bs,rfl,h,k]
end WL
namespace WQ
open PySem L2 WL WP
def NY (p:Int)(l:fk Int):Prop:=(∀x∈l,0<=x /\ x<p) /\ ∀x,l.getLast? =some x ->x≠0
def Ie (row:fk Int)(k:Nat)(x:Int):fk Int:=row.set k (row.getD k 0+x)
def gQ (row:fk Int)(o:Nat)(l:fk Int)(n:Nat):fk Int:=(List.range n).foldl (λr i=>Ie r (o+i) (l.getD i 0)) row
def TW (row:fk Int)(k:Nat)(x:Int)(b:fk Int):Nat ->fk Int
 | 0=>row
 | j+1=>Ie (TW row k x b j) (k+j) (x*b.getD j 0)
def pw (p s:Int):Nat ->Int
 | 0=>1
 | n+1=>pw p s n*s % p
def Gc:jc:=λxs M q=>cO λ(p s:Int)=>j8 (xs= [wi p,wi s]) (p=2 \/ p=3 \/ p=5 \/ p=7) (0<s) (s<p) (∀r,0<r ->r<p ->r*s % p=1 ->q (wi r) M)
def OS: ∀ (p s:Int),(p=2 \/ p=3 \/ p=5 \/ p=7) ->0<s ->s<p ->0<pw p s (p - 2).toNat /\ pw p s (p - 2).toNat<p /\ pw p s (p - 2).toNat*s % p=1:=by intro p s hp h0 h1;have hs:s=1 \/ s=2 \/ s=3 \/ s=4 \/ s=5 \/ s=6:= ∅;obtain rfl | rfl | rfl | rfl:=hp <;>obtain rfl | rfl | rfl | rfl | rfl | rfl:=hs <;>first | decide | lia
end WQ
namespace WL
open PySem L2 PySem.Spec PyProof.Rows
abbrev WX:=gY ->Mp ->Prop
def up (e:WX):WX:=λC M'=> ∃M0,Sm M0 M' /\ e C M0
end WL
namespace WL
open PySem L2
def Pg:W ->Bool
 | .v x=>decide (x=V.fh)
 | .tup _=>false
def Mu:R2:=λx y H Q=>y= .fh /\ Q (.bl (!decide (x=V.fh))) H
def RW:wN:=λx y M q=>y=wn /\ q (wb (!Pg x)) M
instance {K:Ug}:IR K Mu RW where
 imp:=by
  rintro x y v u M H q Q m r1 r2 ⟨rfl,h⟩ k;exact#[r2.eq,k _ M _ H h (bu.refl H) m ?_];cases x with
  | v x=>rw[r1.eq];show WR.v
  | tup l=>let⟨a,vs,rfl,_⟩:=r1.tup;show WR.v
theorem Ge:pi X (compareOp .IsNot) Mu:=J6
theorem Pl (hx:DR M x d)(hy:DR M y d)(hd:uW d<=50)(hs:lP d d=true)(h:q (wb false) M):N7 x y M q:=#[d,d,hx,hy,hs,hd,by rw[ki];show h]
def Vg {α:Type}(f:α ->W)(g:α ->Dt):Prop:= ∀a,HP (f a)=some (g a)
theorem yF {α:Type}{f:α ->W}{g:α ->Dt}(h:Vg f g): ∀l:fk α,pV (l.map f)=some (l.map g)
 | []=>rfl
 | a::l=>by rw[aI,pV,h a,yF h l];rfl
theorem yu {α:Type}{g:α ->Dt}{n:Nat}(h: ∀a,uW (g a) <=n): ∀l:fk α,qI (l.map g) <=n
 | []=>by simp[qI]
 | a::l=>by rw[aI,qI];have:=h a;have:=yu h l;lia
theorem DR.list {l:fk α}(h:Vg f g)(ha:M a=some (.lst (l.map f))):DR M (wr a) (.lst (l.map g)):= .inr #[a,_,_,rfl,ha,yF h l,rfl]
end WL
namespace L2
open PySem PySem.Spec PyProof.Rows
def Keeps (S:Nat ->Prop)(g:TG):Prop:= ∀ (σ:St) (v:V) (H:Hp) (Q:St ->Hp ->Prop),g v σ H Q ->g v σ H λσ2 H2=>(σ2.length=σ.length /\ ∀i,¬S i ->σ2[i]? =σ[i]?) /\ Q σ2 H2
def xY (h:S n):Keeps S (oI n):=by intro σ v H Q q;exact#[#[by simp,λi hi=> ?_],q];rw[List.getElem?_set_ne];intro e;subst e;show hi h
def CM (h:(kT own fr σ)[i]? =some (some v)):own<=i:=by unfold kT at h;obtain c | c:=bU i own;rw[bo ⇑c,List.getElem?_replicate,am c] at h;cases h;show c
def inW (EO:TI)(g2:TG)(wV:TT)(te:TE)(σ2:St)(p:gY)(H4:Hp)(N:fk V ->Hp ->Prop):Prop:=EO σ2 H4 λJ2 H5=> ∃Z:Nat ->Nat ->fk V ->Hp ->Prop,(∃m zs,Z 0 m zs H5) /\ ∀j k zs H6,Z j k zs H6 ->H6 p=some (.lst zs) /\((J2.stop j H6 /\ N zs H6) \/ (J2.go j H6 /\ zs.length<sizeLine /\ ∀y H7,J2.LI j H6 y H7 ->g2 y σ2 H7 λσ3 H8=>wV σ3 H8 λc H9=>if c=true then te σ3 H9 λz RL=> ∃ws,RL p=some (.lst ws) /\ ws.length<sizeLine /\ ∃k',k'<k /\ Z (j+1) k' (ws++ [z]) (dy RL p (.lst (ws++ [z]))) else ∃ws k',k'<k /\ Z (j+1) k' ws H9))
def HU (J:It)(own:Nat)(fr:fk Nat)(g:TG)(tc:TT)(EO:TI)(g2:TG)(wV:TT)(te:TE)(σ:St)(p:gY)(H1:Hp)(Q:VK):Prop:=∃ W :Nat ->Nat ->fk V ->Hp ->Prop,(∃m,W 0 m [] (dy H1 p (.lst []))) /\ ∀i m ys H',W i m ys H' ->H' p=some (.lst ys) /\((J.stop i H' /\ Q (.ref p) H') \/ (J.go i H' /\ ∀x H2,J.LI i H' x H2 ->g x (kT own fr σ) H2 λσ2 H3=>tc σ2 H3 λb H4=>if b=true then inW EO g2 wV te σ2 p H4 λzs H5=> ∃m',m'<m /\ W (i+1) m' zs H5 else ∃zs m',m'<m /\ W (i+1) m' zs H4))
def Fo (wi:TI)(own:Nat)(fr:fk Nat)(g:TG)(tc:TT)(EO:TI)(g2:TG)(wV:TT)(te:TE):TE:=λσ H Q=>wi σ H λJ H1=> ∀p,H1 p=none ->HU J own fr g tc EO g2 wV te σ p H1 Q
abbrev vT (jk tg iter:Expr)(ji:fk Expr)(kX dX:Expr)(gB:fk Expr)(scope:Scope)(pos:Pos):Expr:= .ListComp jk [#[tg,iter,ji,0],#[kX,dX,gB,0]] scope pos
def Js (jk tg iter:Expr)(ji:fk Expr)(kX dX:Expr)(gB:fk Expr)(scope:Scope)(pos:Pos)(it f_:fm)(env:Env): compTurn (vT jk tg iter ji kX dX gB scope pos) 0 it f_ env=(do
 standAt iter.pos
 let r <- pyNext it
 match r with
 | none=>pure (.done .next)
 | some v=>do
  letOwnedTupleGo tg it v
  assign tg env v
  let ok <- forIn ji true λc r=>if r=true then do let ok <- isTrue c env (eval c env);pure (ForInStep.yield ok) else pure (ForInStep.yield r)
  if ok=true then do
   let x <- eval dX env
   standAt dX.pos
   let x <- foldedSetIterable dX env x
   let i2 <- holding [x] (pyIter x)
   let _ <- runOwn (.compStart (vT jk tg iter ji kX dX gB scope pos) 1 i2 f_ env) env
   again (.compLoop (vT jk tg iter ji kX dX gB scope pos) 0 it f_ env)
  else again (.compLoop (vT jk tg iter ji kX dX gB scope pos) 0 it f_ env)):=by rfl
def Jr (jk tg iter:Expr)(ji:fk Expr)(kX dX:Expr)(gB:fk Expr)(scope:Scope)(pos:Pos)(it f_:fm)(env:Env): compTurn (vT jk tg iter ji kX dX gB scope pos) 1 it f_ env=(do
 standAt dX.pos
 let r <- pyNext it
 match r with
 | none=>pure (.done .next)
 | some v=>do
  letOwnedTupleGo kX it v
  assign kX env v
  let ok <- forIn gB true λc r=>if r=true then do let ok <- isTrue c env (eval c env);pure (ForInStep.yield ok) else pure (ForInStep.yield r)
  if ok=true then do
   ((do let _ <- call (.builtin "list.append") [f_, <- eval jk env]):Sem Unit)
   again (.compLoop (vT jk tg iter ji kX dX gB scope pos) 1 it f_ env)
  else again (.compLoop (vT jk tg iter ji kX dX gB scope pos) 1 it f_ env)):=by rfl
def Fv (h0:codeAny (model prog w) A (.compLoop (vT jk tg iter ji kX dX gB scope pos) 1 it f_ env) R s)(h:wpAny (model prog w) A (pyIter it) (λZh s'=>codeAny (model prog w) A (.compLoop (vT jk tg iter ji kX dX gB scope pos) 1 Zh f_ env) R s') (notedBy (model prog w) A env λx s'=>R (.error x) s') s): codeAny (model prog w) A (.compStart (vT jk tg iter ji kX dX gB scope pos) 1 it f_ env) R s:=by
 exact codeAny_of_tree ?_;change wpAny _ _ ((compStart (vT jk tg iter ji kX dX gB scope pos) 1 it f_ env).onRaise (λx=>do noteFrame x env;standAt theWindowsPlace)) _ _ s;exact wpAny_notedAt ?_;unfold compStart;change wpAny _ _ (ask >>=_) _ _ s;exact ag (wpAny_askSetting (wpAny_ite ?_));split;first
 | show ag (aC (aC (And.intro rfl h0)))
 | show aC (And.intro rfl h0)
 first
 | show ag (wpAny_rule (ag (wpAny_standAt (ag (b_ h (λZh s' h'=>aC (And.intro rfl h')) λ_ _ x=>x)))))
 | (exact ag (wpAny_rule ?_);change wpAny _ _ (standAt dX.pos >>=_) _ _ s;show ag (wpAny_standAt (ag (b_ h (λZh s' h'=>aC (And.intro rfl h')) λ_ _ x=>x))))
theorem Km (I:Nat ->fo ->Prop)(turn : ∀n s,I n s ->wpAny (model prog w) A (pyNext it) (λr s₁=>match r with
   | none=>R (.ok .next) s₁
   | some v=>wpAny (model prog w) A (letOwnedTupleGo kX it v) (λ_ s₀=>wpAny (model prog w) A (assign kX env v) (λ_ s₂=>
    wpAny (model prog w) A (forIn gB true λc r=>if r=true then do let ok <- isTrue c env (eval c env);pure (ForInStep.yield ok) else pure (ForInStep.yield r)) (λok s₃=>if ok=true then wpAny (model prog w) A (eval jk env) (λx s₄=>wpAny (model prog w) A (call (.builtin "list.append") [f_,x]) (λ_ s₅=> ∃m,m<n /\ I m s₅) (λ_ _=>False) s₄) (λ_ _=>False) s₃ else ∃m,m<n /\ I m s₃) (λ_ _=>False) s₂)
    (λ_ _=>False) s₀) (λ_ _=>False) s₁) (λ_ _=>False) s)(n:Nat)(h:I n s):codeAny (model prog w) A (.compLoop (vT jk tg iter ji kX dX gB scope pos) 1 it f_ env) R s:=by
 exact codeAny_loop rfl I (λn s hI=> ?_) n h
 change wpAny _ A ((compTurn (vT jk tg iter ji kX dX gB scope pos) 1 it f_ env).onRaise (λx=>do noteFrame x env;theTreesLotGoes x)) _ _ s
 exact wpAny_noted ?_
 rw[Jr]
 exact ag (wpAny_standAt (ag (b_ (turn n s hI) (λr s₁ h₁=> ?_) λ_ _ h'=>h'.elim)))
 cases r with
 | none=>show aC h₁
 | some v=>
  exact ag (b_ h₁ (λ_ s₀ Uj=> ?_) λ_ _ h'=>h'.elim);exact ag (b_ Uj (λ_ s₂ h₂=> ?_) λ_ _ h'=>h'.elim);exact ag (b_ h₂ (λTD s₃ h₃=> ?_) λ_ _ h'=>h'.elim);cases TD with
  | false=>show aC #[rfl,h₃]
  | true=>show ag (ag (b_ h₃ (λx s₄ h₄=>ag (b_ h₄ (λ_ s₅ h₅=>aC (aC #[rfl,h₅])) λ_ _ h'=>h'.elim)) λ_ _ h'=>h'.elim))
theorem Kn (I:Nat ->fo ->Prop)(hs: ∀x,foldedSetIterable dX env x=pure x)(turn : ∀n s,I n s ->wpAny (model prog w) A (pyNext it) (λr s₁=>match r with
   | none=>R (.ok .next) s₁
   | some v=>wpAny (model prog w) A (letOwnedTupleGo tg it v) (λ_ s₀=>wpAny (model prog w) A (assign tg env v) (λ_ s₂=>
    wpAny (model prog w) A (forIn ji true λc r=>if r=true then do let ok <- isTrue c env (eval c env);pure (ForInStep.yield ok) else pure (ForInStep.yield r)) (λok s₃=>if ok=true then wpAny (model prog w) A (eval dX env) (λx s₄=>wpAny (model prog w) A (pyIter x) (λi2 s₅=>codeAny (model prog w) (A.mark none) (.compStart (vT jk tg iter ji kX dX gB scope pos) 1 i2 f_ env) (λr s₆=>match r with | .ok _=> ∃m,m<n /\ I m s₆ | .error _=>False) s₅) (λ_ _=>False) s₄) (λ_ _=>False) s₃ else ∃m,m<n /\ I m s₃) (λ_ _=>False) s₂)
    (λ_ _=>False) s₀) (λ_ _=>False) s₁) (λ_ _=>False) s)(n:Nat)(h:I n s):codeAny (model prog w) A (.compLoop (vT jk tg iter ji kX dX gB scope pos) 0 it f_ env) R s:=by
 exact codeAny_loop rfl I (λn s hI=> ?_) n h
 change wpAny _ A ((compTurn (vT jk tg iter ji kX dX gB scope pos) 0 it f_ env).onRaise (λx=>do noteFrame x env;theTreesLotGoes x)) _ _ s
 exact wpAny_noted ?_
 rw[Js]
 exact ag (wpAny_standAt (ag (b_ (turn n s hI) (λr s₁ h₁=> ?_) λ_ _ h'=>h'.elim)))
 cases r with
 | none=>show aC h₁
 | some v=>
  exact ag (b_ h₁ (λ_ s₀ Uj=> ?_) λ_ _ h'=>h'.elim);exact ag (b_ Uj (λ_ s₂ h₂=> ?_) λ_ _ h'=>h'.elim);exact ag (b_ h₂ (λTD s₃ h₃=> ?_) λ_ _ h'=>h'.elim);cases TD with
  | false=>show aC #[rfl,h₃]
  | true=>
   exact ag (b_ h₃ (λx s₄ h₄=> ?_) λ_ _ h'=>h'.elim);exact ag (wpAny_standAt ?_);rw[hs];exact ag (aC (ag (d6 (b_ h₄ (λi2 s₅ h₅=> ?_) λ_ _ h'=>h'.elim))));exact ag (wpAny_runOwn ?_);exact codeAny_mono h₅ λr s' z=> ?_;cases r with
   | ok f=>show aC #[rfl,z]
   | error e=>show z.elim
def yI {σ:St}{RR:fm ->gY ->Result ->fo ->Prop}(kg:X.calm=true)(S:dD X own fr N' scope)(hg: ∀s3 H3,PG (cn X N' scope cl fp s3 H3) tg g)(UE:n1<=own.length)(hw:Keeps (λi=>i<n1) g)(hc: ∀s3 H3,Ly (cn X N' scope cl fp s3 H3) ji tc)(Z6: ∀s3 H3,PI (cn X N' scope cl fp s3 H3) kX dX EO)(Z9: ∀s3 H3,PG (cn X N' scope cl fp s3 H3) kX g2)(Zr:Keeps (λi=>n1<=i /\ i<own.length) g2)(RA: ∀s3 H3,Ly (cn X N' scope cl fp s3 H3) gB wV)(he: ∀s3 H3,PE (cn X N' scope cl fp s3 H3) jk te)(kR: ∀s3 H3 x,foldedSetIterable dX (cn X N' scope cl fp s3 H3).env x=pure x)(pd: ∀x c,cl.lookup x=some c ->X.env.cells.lookup x=some c)(qF: ∀y∈scope.names,y.2= .free ->(cl.lookup y.1).isSome=true)(I:Inv X ak σ H s)(T:tS X.prog X.w X.K tg J fp it tn)(st:tn 0 s.heap)(wg: ∀b∈fp,kK X ak H b)(h: ∀p,H p=none ->HU J own.length fr g tc EO g2 wV te σ p H Q)(fin: ∀ (s3:fo) (H3:Hp),Inv X ak σ H3 s3 ->(∀b∈fp,kK X ak H3 b) -> ∀ (D:gY) (σ':St) (H':Hp) (s':fo) (t:Nat),D<s3.heap.objs.size ->Inv (cn X N' scope cl fp s3 H3) [] σ' H' s' ->Q (.ref D) H' ->RR (.ref D) s3.heap.objs.size (.ok .next) s'): wpAny (model X.prog X.w) X.A (newList []) (λf_ s₃=>wpAny (model X.prog X.w) X.A (newFunctionEnv scope X.env.globals cl [] X.env.qual none .none (some X.env)) (λHW s₄=>codeAny (model X.prog X.w) X.A (.compStart (vT jk tg iter ji kX dX gB scope pos) 0 (.ref it) f_ {HW with scope:=relabel scope X.env}) (RR f_ HW.locals) s₄) E s₃) E s:=by
 exact eT ?_;have hf:H s.heap.objs.size=none:=I.dM.fresh (ap _);let⟨W,⟨m0,w0⟩,turn⟩:=h _ hf;generalize e3:({s with heap:=s.heap.push {cls:= .type "list",dict:=none,data:= .seq ([]:fk fm).toArray}}:fo)=s3;have OA:s3.heap.objs.size=s.heap.objs.size+1:=by rw[<- e3];show dF ..
 have Yb: ∀b o,s.heap.get? b=some o ->s3.heap.get? b=some o:=λb o e=>by rw[<- e3];show aq _ e
 have I3:Inv X ak σ (dy H s.heap.objs.size (.lst [])) s3:=by rw[<- e3];show I.laid (t':=s.toks) (λb u e=>aq _ e) (ap _) #[du _,[],0, .nil,aQ _ rfl]
 have QA: ∀b∈fp,b<s.heap.objs.size:=λb hb=>by let⟨o,e,_⟩:=T.obj 0 _ st b hb;show aH e
 have Aq: ∀b∈fp,kK X ak (dy H s.heap.objs.size (.lst [])) b:=λb hb=>#[by rw[bS (a4 (QA b hb))];show(wg b hb).1,(wg b hb).2]
 exact wpAny_newFunctionEnv S.rY (by intro y hy;simp at hy) (λh₁ Qa PQ=> ?_) S.kind;have old: ∀b o,s3.heap.get? b=some o ->h₁.get? b=some o:=λb o e=>PQ.extBut b o (a4 (aH e)) (aq _ e);have Ic:=yb (t:=s3.toks+([]:fk (Str×fm)).length) S I3 pd qF Aq (λb hb=>by rw[OA];show dI (QA b hb)) Qa old;have CZ:tn 0 h₁:=T.keep 0 _ _ st λb hb o e=>old b o (Yb b o e);have rG: ∀ {H':Hp},(∀b∈fp,H' b=none) -> ∀b∈fp,kK (cn X N' scope cl fp s3 (dy H s.heap.objs.size (.lst []))) [] H' b:=λhn b hb=>by exact#[hn b hb,?_,?_, .inl hb,λx c e=>(wg b hb).2.2.2.2.1 x c (pd x c e),λp hp=>absurd (show p∈([]:fk (gY×Obj)) from hp) (by simp)];change b≠s3.heap.objs.size;rw[OA];show a4 (dI (QA b hb));show Ic.ok.DV b hb
 have loop : codeAny (model X.prog X.w) X.A (.compLoop (vT jk tg iter ji kX dX gB scope pos) 0 (.ref it) (.ref s.heap.objs.size) (compEnvC scope cl s3.heap.objs.size X.env)) (RR (.ref s.heap.objs.size) s3.heap.objs.size) {s3 with heap:=h₁,toks:=s3.toks+([]:fk (Str×fm)).length}:=by
  exact Kn (λn s'=>im λi ys H'=>fZ (Inv (cn X N' scope cl fp s3 (dy H s.heap.objs.size (.lst []))) [] (kT own.length fr σ) H' s') (tn i s'.heap) (∀b∈fp,H' b=none) (W i n ys H')) (kR s3 H) ?_ m0 #[0,[],_,Ic,CZ,λb hb=>(Aq b hb).1,w0];rintro n s4 ⟨i,ys,H4,I4,gK,Lc,w4⟩;let⟨DL,alt⟩:=turn i n ys H4 w4;rcases alt with⟨stop,q⟩ | ⟨go,step⟩
  .exact dL (T.done (cn X N' scope cl fp s3 (dy H s.heap.objs.size (.lst []))) rfl rfl rfl kg i [] s4 _ H4 (λ_ _=>False) I4 (rG Lc) gK stop) λr s5 ⟨hr,I5⟩=> ?_;subst hr;show fin s3 _ I3 Aq _ _ H4 s5 s5.toks (by rw[OA];show cF _) I5 q
  exact dL (T.item (cn X N' scope cl fp s3 (dy H s.heap.objs.size (.lst []))) rfl rfl rfl kg i [] s4 _ H4 (λ_ _=>False) I4 (rG Lc) gK go) λr s5 ⟨u,hr,h5⟩=> ?_;subst hr;exact dL h5 λ_ s6 ⟨x,H6,I6,r6,y6,OD,fr6⟩=> ?_;have I6':=I6.pinned (rG fr6) (T.obj _ _ OD);have Ma:=hw _ x H6 _ (step x H6 y6);exact dL (hg s3 _ _ s6 _ H6 x u _ I6' r6 Ma) λ_ s7 ⟨σ7,H7,I7,wk,q7⟩=> ?_;have wk1: ∀ (j:Nat) v,(kT own.length fr σ)[j]? =some (some v) ->σ7[j]? =some (some v):=λj v e=>by rw[wk.2 j (by have:=CM e;lia)];show e
  have wk2: ∀j,n1<=j ->j<own.length -> ∀v,σ7[j]? ≠some (some v):=λj h1 h2 v e=>by rw[wk.2 j ∅] at e;have:=CM e;lia
  have again: ∀ {σ9:St} {H9:Hp} {s9:fo} {N1:fk V},σ9.length=σ7.length ->(∀ (j:Nat) v,σ7[j]? =some (some v) ->σ9[j]? =some (some v)) ->Inv (cn X N' scope cl fp s3 (dy H s.heap.objs.size (.lst []))) ([]++jr fp s6.heap) σ9 H9 s9 ->(∃m',m'<n /\ W (i+1) m' N1 H9) ->∃m,m<n /\ im λi ys H'=>fZ (Inv (cn X N' scope cl fp s3 (dy H s.heap.objs.size (.lst []))) [] (kT own.length fr σ) H' s9) (tn i s9.heap) (∀b∈fp,H' b=none) (W i m ys H'):=λ{σ9 H9 s9 N1} hl9 hv9 I9 ⟨m',hm,w9⟩=>by exact#[m',hm,i+1,N1,H9,(I9.j9).weak ?_ λj v e=>hv9 j v (wk1 j v e),T.keep _ _ _ OD λb hb o e=>(I9.pin (b,o) (aZ _ (aZ _ (gh hb e)))).1,λb hb=> ?_,w9];rw[hl9,wk.1];let⟨o,e,d⟩:=T.obj _ _ OD b hb;show(I9.pin (b,o) (aZ _ (aZ _ (gh hb e)))).2.1
  exact dL (hc s3 _ _ s7 σ7 H7 _ I7 q7) λok s8 ⟨H8,I8,q8⟩=> ?_;cases ok with
  | false=>simp![aB,bj] at q8 ⊢;let⟨zs,q8⟩:=q8;show again rfl (λ_ _ e=>e) I8 q8
  | true =>
   simp![bZ] at q8 ⊢;exact dL (Z6 s3 _ _ s8 σ7 H8 _ I8 q8) λv2 s9 h9=>dL h9 λRi Yr Xh=> ?_;let⟨ya,U_,tn2,J2,RL,e10,I10,T2,SR,f10,Z,⟨mz,z0,An⟩,Sn⟩:=Xh;subst e10;have Fu: ∀ {H':Hp},(∀b∈U_,H' b=none) -> ∀b∈U_,kK (cn X N' scope cl fp s3 (dy H s.heap.objs.size (.lst []))) ([]++jr fp s6.heap) H' b:=λhn b hb=>#[hn b hb,(f10 b hb).2]
   have MK:codeAny (model X.prog X.w) X.A (.compLoop (vT jk tg iter ji kX dX gB scope pos) 1 (.ref ya) (.ref s.heap.objs.size) (compEnvC scope cl s3.heap.objs.size X.env)) (λr s₆=>match r with
   | .ok _=> ∃m,m<n /\ im λi ys H'=>fZ (Inv (cn X N' scope cl fp s3 (dy H s.heap.objs.size (.lst []))) [] (kT own.length fr σ) H' s₆) (tn i s₆.heap) (∀b∈fp,H' b=none) (W i m ys H')
   | .error _=>False) Yr:=by
    exact Km (λk s'=>im λj zs H'=>fZ (Inv (cn X N' scope cl fp s3 (dy H s.heap.objs.size (.lst []))) ([]++jr fp s6.heap) σ7 H' s') (tn2 j s'.heap) (∀b∈U_,H' b=none) (Z j k zs H')) ?_ mz #[0,z0,RL,I10,SR,λb hb=>(f10 b hb).1,An]
    rintro k s11 ⟨j,zs,H11,I11,SQ,U',z11⟩
    let⟨acp,abJ⟩:=Sn j k zs H11 z11
    rcases abJ with⟨SK,qN⟩ | ⟨go2,hsz2,SO⟩
    exact dL (T2.done (cn X N' scope cl fp s3 (dy H s.heap.objs.size (.lst []))) rfl rfl rfl kg j _ s11 _ H11 (λ_ _=>False) I11 (Fu U') SQ SK) λr s12 ⟨hr,I12⟩=> ?_
    subst hr
    show again rfl (λ_ _ e=>e) I12 qN
    exact dL (T2.item (cn X N' scope cl fp s3 (dy H s.heap.objs.size (.lst []))) rfl rfl rfl kg j _ s11 _ H11 (λ_ _=>False) I11 (Fu U') SQ go2) λr s12 ⟨u2,hr,h12⟩=> ?_
    subst hr
    exact dL h12 λ_ s13 ⟨x2,H13,I13,r13,y13,OE,abx⟩=> ?_
    have abO:=I13.pinned (Fu abx) (T2.obj _ _ OE)
    have Yk:=Zr _ x2 H13 _ (SO x2 H13 y13)
    exact dL (Z9 s3 _ _ s13 _ H13 x2 u2 _ abO r13 Yk) λ_ s14 ⟨σ14,H14,I14,RN,q14⟩=> ?_
    have NT: ∀ {H9:Hp} {s9:fo} {ws:fk V},Inv (cn X N' scope cl fp s3 (dy H s.heap.objs.size (.lst []))) (([]++jr fp s6.heap)++jr U_ s13.heap) σ14 H9 s9 ->(∃k',k'<k /\ Z (j+1) k' ws H9) ->∃m,m<k /\ im λj zs H'=>fZ (Inv (cn X N' scope cl fp s3 (dy H s.heap.objs.size (.lst []))) ([]++jr fp s6.heap) σ7 H' s9) (tn2 j s9.heap) (∀b∈U_,H' b=none) (Z j m zs H'):=λ{H9 s9 ws} I9 ⟨k',w5,z9⟩=>by exact#[k',w5,j+1,ws,H9,(I9.j9).weak RN.1.symm λa v e=> ?_,T2.keep _ _ _ OE λb hb o e=>(I9.pin (b,o) (aZ _ (aZ _ (gh hb e)))).1,λb hb=> ?_,z9];rw[RN.2 a λhS=>wk2 a hS.1 hS.2 v e];show e;let⟨o,e,d⟩:=T2.obj _ _ OE b hb;show(I9.pin (b,o) (aZ _ (aZ _ (gh hb e)))).2.1
    exact dL (RA s3 _ _ s14 σ14 H14 _ I14 q14) λYL s15 ⟨H15,I15,Rb⟩=> ?_
    cases YL with
    | false=>simp![aB,bj] at Rb ⊢;let⟨ws,Rb⟩:=Rb;show NT I15 Rb
    | true=>simp![bZ] at Rb ⊢;exact dL (he s3 _ _ s15 σ14 H15 _ I15 Rb) λy s16 ⟨yv,H16,I16,ry,ws,ZE,Zo,q16⟩=> ?_;exact dL (lT _ s16 σ14 H16 (.ref s.heap.objs.size) [yv] (.ref s.heap.objs.size) [y] (λv H'=>H'=dy H16 s.heap.objs.size (.lst (ws++ [yv]))) I16 rfl (.cons ry .nil) #[_,ws,yv,rfl,rfl,ZE,Zo,rfl]) λv s17 ⟨_,H17,I17,_,e17⟩=> ?_;subst e17;show NT I17 q16
   change codeAny _ X.A _ _ Yr;show Fv MK (T2.self _ 0 _ _ _ SR MK)
 show codeAny_compStart_list loop (T.self _ 0 _ _ _ CZ loop)
def F' {pos:Pos}(kg:X.calm=true)(S:dD X own fr N' scope)(hi:PI X tg iter wi)(hg: ∀cl fp s3 H3,PG (cn X N' scope cl fp s3 H3) tg g)(UE:n1<=own.length)(hw:Keeps (λi=>i<n1) g)(hc: ∀cl fp s3 H3,Ly (cn X N' scope cl fp s3 H3) ji tc)(Z6: ∀cl fp s3 H3,PI (cn X N' scope cl fp s3 H3) kX dX EO)(Z9: ∀cl fp s3 H3,PG (cn X N' scope cl fp s3 H3) kX g2)(Zr:Keeps (λi=>n1<=i /\ i<own.length) g2)(RA: ∀cl fp s3 H3,Ly (cn X N' scope cl fp s3 H3) gB wV)(he: ∀cl fp s3 H3,PE (cn X N' scope cl fp s3 H3) jk te)(hs: ∀x,foldedSetIterable iter X.env x=pure x:=by intro _;rfl)(kR: ∀cl fp s3 H3 x,foldedSetIterable dX (cn X N' scope cl fp s3 H3).env x=pure x:=by intro _ _ _ _ _;rfl):PE X (.ListComp jk [#[tg,iter,ji,0],#[kX,dX,gB,0]] scope pos) (Fo wi own.length fr g tc EO g2 wV te):=by intro ak s σ H Q I h;let⟨cl,yh,pd,qF⟩:=nw (I.ok.cellsOf S);rw[eval_ListComp];exact wpAny_comprehension_free (use:=none) rfl hs yh S.kind S.loc (dL (hi ak s σ H _ I h) λv s1 h1=>dL h1 λRi s2 h2=> ?_);let⟨it,fp,tn,J,H2,e,I2,T,mU,f2,h2⟩:=h2;subst e;exact yI (RR:=λf_ C=>compPost (model X.prog X.w) X.A X.xe none (EP X ak σ Q) f_ C) kg S (hg cl fp) UE hw (hc cl fp) (Z6 cl fp) (Z9 cl fp) Zr (RA cl fp) (he cl fp) (kR cl fp) pd qF I2 T mU f2 h2 ?_;intro s3 H3 I3 f3 D σ' H' s' t hD Ic q;let⟨m,hn,_⟩:=Ic.loc;exact#[m,hn,λh' PR=>#[.ref D,H',?_,rfl,q]];show pW I3 rfl (pX I3 f3 Ic) Ic.free PR
end L2
namespace WL
open PySem L2
section
variable {K:Ug}
def PN (wT:fk W)(gM:Mp ->Prop)(g2:WG)(c2:WT)(el:WE)(ρ2:eE)(p:gY)(ys:fk W)(M4:Mp)(N:fk W ->Mp ->Prop):Prop:=∃I2:Nat ->fk W ->Mp ->Prop,fZ (I2 0 ys M4) (∀j zs M,j<=wT.length ->I2 j zs M ->gM M /\ M p=some (.lst zs) /\ zs.length<sizeLine) (∀j y zs M,wT[j]? =some y ->I2 j zs M ->g2 y ρ2 M λρ3 M5=>c2 ρ3 M5 λb M6=>if b=true then el ρ3 M6 λz M7=>M7 p=some (.lst zs) /\ I2 (j+1) (zs++ [z]) (um M7 p (.lst (zs++ [z]))) else I2 (j+1) zs M6) (∀zs M,I2 wT.length zs M ->N zs M)
def wE (xs:fk W)(keep:Mp ->Prop)(own:Nat)(fr:fk Nat)(g:WG)(c:WT)(ya:WI)(g2:WG)(c2:WT)(el:WE)(ρ:eE)(M1:Mp)(q:WK):Prop:= ∀p,M1 p=none -> ∃I:Nat ->fk W ->Mp ->Prop,fZ (I 0 [] (um M1 p (.lst []))) (∀i ys M,i<=xs.length ->I i ys M ->keep M /\ M p=some (.lst ys)) (∀i x ys M,xs[i]? =some x ->I i ys M ->g x (mx own fr ρ) M λρ2 M2=>c ρ2 M2 λb M3=>if b=true then ya ρ2 M3 λwT gM M4=>PN wT gM g2 c2 el ρ2 p ys M4 (I (i+1)) else I (i+1) ys M3) (∀ys M,I xs.length ys M ->q (wr p) M)
def E3 (it:WI)(own:Nat)(fr:fk Nat)(g:WG)(c:WT)(ya:WI)(g2:WG)(c2:WT)(el:WE):WE:=λρ M q=>it ρ M λxs keep M1=>wE xs keep own fr g c ya g2 c2 el ρ M1 q
theorem Sb:E3 it own fr g c ya g2 c2 el ρ M q=it ρ M λxs keep M1=>wE xs keep own fr g c ya g2 c2 el ρ M1 q:=rfl
instance {ti:TI}{own:Nat}{fr:fk Nat}{g:TG}{tc:TT}{ti2:TI}{g2:TG}{wV:TT}{te:TE}{it:WI}{w:WG}{c:WT}{ya:WI}{w2:WG}{c2:WT}{el:WE} [ii:II K ti it] [ig:IG K g w] [ic:IT K tc c] [ii2:II K ti2 ya] [ig2:IG K g2 w2] [ic2:IT K wV c2] [ie:IE K te el]: IE K (Fo ti own fr g tc ti2 g2 wV te) (E3 it own fr w c ya w2 c2 el) where
 imp := λρ M σ H q Q o h k=>ii.imp ρ M σ H _ _ o h λxs keep J M1 H1 h1 t1 m1 ok=>by
  intro p hp;let⟨I,h0,hk,hs,hd⟩:=h1 p (m1.fresh hp);have tp:=L2.gk.ts (cB (o:= .lst []) hp);exact#[λi m vs H'=>m=xs.length - i /\ i<=xs.length /\ cO λys M'=>j8 (I i ys M') (bu H1 H') (ij K M' H') (c7 K H' ys vs) (H' p=some (.lst vs)),#[_,rfl,du _,[],_,h0,tp,m1.qx hp c7.nil,c7.nil,cr],?_];rintro i m vs H' ⟨rfl,hi,ys,M',hI,ts,m',rv,hv⟩;exact#[hv,?_];let⟨kp,hMp⟩:=hk i ys M' hi hI;let⟨k1,k2,k3⟩:=ok i M' H' ts m' kp;by_cases fU:i<xs.length;exact .inr #[k2 fU,λv H2 y=> ?_];let⟨ty,my,x,hx,r⟩:=k3 v H2 fU y;replace ts:=ts.trans ty;have oc:Ok K (mx own fr ρ) M' (kT own fr σ) H2:=#[(o.env.ts (t1.trans ts)).RI own fr,my]
  exact ig.imp x v _ M' _ H2 _ _ oc r (hs i x ys M' hx hI) λρ3 M3 σ3 H3 h3 t3 o3=>ic.imp ρ3 M3 σ3 H3 _ _ o3 h3 λb M4 H4 h4 t4 m4=> ?_;cases b with
  | true=>
   simp![bZ] at h4 ⊢;exact ii2.imp ρ3 M4 σ3 H4 _ _ (o3.mv t4 m4) h4 λwT gM J2 M5 H5 h5 t5 m5 YL=> ?_;let⟨I2,h20,Hj,kR,Ry⟩:=h5;have tt5:=ts.trans ((t3.trans t4).trans t5);have at5: ∀ {M6:Mp} {H6:Hp} {zs:fk W},M6 p=some (.lst zs) ->ij K M6 H6 -> ∃vs,H6 p=some (.lst vs) /\ c7 K H6 zs vs:=λh m=>by let⟨vs,hv,rr⟩:=m p _ h;show#[vs,hv,rr]
   let⟨LW,G9,JG⟩:=at5 (Hj 0 ys M5 (du _) h20).2.1 m5;exact#[λj m vs H'=>m=wT.length - j /\ j<=wT.length /\ cO λzs M'=>j8 (I2 j zs M') (bu H5 H') (ij K M' H') (c7 K H' zs vs) (H' p=some (.lst vs)),#[_,LW,rfl,du _,ys,M5,h20,bu.refl _,m5,JG,G9],?_];rintro j m2 vs6 H6 ⟨rfl,hj,zs,M6,_D,So,m6,rv6,hv6⟩;exact#[hv6,?_];let⟨Kq,acE,hzl⟩:=Hj j zs M6 hj _D;let⟨a1,a2,a3⟩:=YL j M6 H6 So m6 Kq;by_cases yf:j<wT.length;exact .inr #[a2 yf,by rw[rv6.length];show hzl,λu7 H7 y7=> ?_];let⟨Yd,my7,x7,hx7,r7⟩:=a3 u7 H7 yf y7;have o7:Ok K ρ3 M6 σ3 H7:=#[o3.env.ts ((t4.trans t5).trans (So.trans Yd)),my7]
   exact ig2.imp x7 u7 ρ3 M6 σ3 H7 _ _ o7 r7 (kR j x7 zs M6 hx7 _D) λρ8 M8 σ8 H8 h8 t8 o8=>ic2.imp ρ8 M8 σ8 H8 _ _ o8 h8 λb9 M9 H9 h9 t9 m9=> ?_;cases b9 with
   | true=>simp![bZ] at h9 ⊢;exact ie.imp ρ8 M9 σ8 H9 _ _ (o8.mv t9 m9) h9 λz M10 u RL ⟨Xh,h11⟩ t10 m10 r10=> ?_;let⟨Jp,G',FI⟩:=m10 p _ Xh;have t11:=mT (u:= .lst (Jp++ [u])) G';exact#[Jp,G',by rw[FI.length];show hzl,_,?_,rfl,yf,_,_,h11,((((So.trans Yd).trans t8).trans t9).trans t10).trans t11,m10.putL G' (FI.snoc r10),(FI.snoc r10).ts t11,cr];lia
   | false=>simp![aB,bj] at h9 ⊢;let⟨Jp,G',FI⟩:=at5 (Hj (j+1) zs M9 yf h9).2.1 m9;exact#[Jp,_,?_,rfl,yf,_,_,h9,((So.trans Yd).trans t8).trans t9,m9,FI,G'];lia
   have e':j=wT.length:= ∅;subst e';exact .inl #[a1 rfl,_,?_,rfl,fU,zs,M6,Ry zs M6 _D,tt5.trans So,m6,rv6,hv6];lia
  | false=>simp![aB,bj] at h4 ⊢;let⟨LW,G9,JG⟩:=m4 p _ (hk (i+1) ys M4 fU h4).2;exact#[LW,_,?_,rfl,fU,_,_,h4,ts.trans (t3.trans t4),m4,JG,G9];lia
  have e':i=xs.length:= ∅;subst e';show .inl #[k1 rfl,k _ M' _ H' (hd ys M' hI) (t1.trans ts) m' WR.v]
def jy {α:Type}{f:α ->W}{l:fk α}{i:Nat}(h:(l.map f)[i]? =some x): ∃a,l[i]? =some a /\ x=f a:=by
 rw[az] at h;cases e:l[i]? with
 | none=>rw[e] at h;cases h
 | some a=>rw[e] at h;cases h;show#[a,rfl,rfl]
def RH {α β:Type}{l:fk α}{fW:α ->W}(dB:α ->fk β)(gW:β ->W)(eW:α ->β ->W){M1:Mp}(hz:(l.map λa=>(dB a).length).sum<sizeLine)(kf: ∀M,Sm M1 M ->keep M)(hs: ∀a∈l, ∀M,Sm M1 M -> ∀ (B:eE ->fk W ->(Mp ->Prop) ->Mp ->Prop) (N0:Mp ->Prop),(∀ρ2 gM,(∀M',Sm M1 M' ->gM M') ->(∀b∈dB a, ∀M',Sm M1 M' -> ∀N:fG W ->Mp ->Prop,N (some (eW a b)) M' ->g2 (gW b) ρ2 M' λρ3 M5=>c2 ρ3 M5 λb M6=>iU b (el ρ3 M6 λz M7=>N (some z) M7) (N none M6)) ->B ρ2 ((dB a).map gW) gM M) ->g (fW a) (mx own fr ρ) M λρ2 M2=>c ρ2 M2 λb M3=>iU b (ya ρ2 M3 λwT gM M4=>B ρ2 wT gM M4) (N0 M3))(hq: ∀p,M1 p=none ->q (wr p) (um M1 p (.lst (l.map λa=>(dB a).map (eW a)).flatten))): wE (l.map fW) keep own fr g c ya g2 c2 el ρ M1 q:=by
 intro p hp;have dj: ∀k:fk α,(k.map λa=>(dB a).map (eW a)).flatten.length=(k.map λa=>(dB a).length).sum:=λk=>by rw[List.length_flatten,aE];congr 1;apply bJ;intro a _;simp
 have uG: ∀i:Nat,((l.take i).map λa=>(dB a).length).sum<=(l.map λa=>(dB a).length).sum:=λi=>by
  have e:(l.map λa=>(dB a).length)=((l.take i).map λa=>(dB a).length)++((l.drop i).map λa=>(dB a).length):=by rw[<- aO,bm]
  rw[e,List.sum_append];lia
 exact#[λi ys M=>M=um M1 p (.lst ys) /\ ys=((l.take i).map λa=>(dB a).map (eW a)).flatten,#[rfl,by simp],?_,?_,?_];rintro i ys M hi ⟨rfl,rfl⟩;show#[kf _ (ce hp),au];rintro i x ys M hx ⟨rfl,rfl⟩;let⟨a,ha,rfl⟩:=jy hx;have e:l.take (i+1)=l.take i++ [a]:=by rw[bC,ha];rfl
 have eF:((l.take (i+1)).map λa=>(dB a).map (eW a)).flatten=((l.take i).map λa=>(dB a).map (eW a)).flatten++(dB a).map (eW a):=by rw[e,aO,List.flatten_append];simp
 have eS:((l.take (i+1)).map λa=>(dB a).length).sum=((l.take i).map λa=>(dB a).length).sum+(dB a).length:=by rw[e,aO,List.sum_append];simp
 exact hs a (ar ha) _ (ce hp) (λρ2 wT gM M4=>PN wT gM g2 c2 el ρ2 p ((l.take i).map λa=>(dB a).map (eW a)).flatten M4 λys M=>M=um M1 p (.lst ys) /\ ys=((l.take (i+1)).map λa=>(dB a).map (eW a)).flatten) (λM=>M=um M1 p (.lst ((l.take i).map λa=>(dB a).map (eW a)).flatten) /\ ((l.take i).map λa=>(dB a).map (eW a)).flatten=((l.take (i+1)).map λa=>(dB a).map (eW a)).flatten) ?_;intro ρ2 gM Hj kR;exact#[λj zs M=>M=um M1 p (.lst zs) /\ zs=((l.take i).map λa=>(dB a).map (eW a)).flatten++((dB a).take j).map (eW a),#[rfl,by simp],?_,?_,?_];rintro j zs M hj ⟨rfl,rfl⟩;exact#[Hj _ (ce hp),au,?_];rw[aR,dj,aa,bg];have b3:=uG (i+1);rw[eS] at b3;lia;rintro j y zs M hy ⟨rfl,rfl⟩;let⟨b,hb,rfl⟩:=jy hy;have e2:(dB a).take (j+1)=(dB a).take j++ [b]:=by rw[bC,hb];rfl
 exact kR b (ar hb) _ (ce hp) (λo M4=>match o with
 | some z=>M4 p=some (.lst (((l.take i).map λa=>(dB a).map (eW a)).flatten++((dB a).take j).map (eW a))) /\ (um M4 p (.lst (((l.take i).map λa=>(dB a).map (eW a)).flatten++((dB a).take j).map (eW a)++ [z]))=um M1 p (.lst (((l.take i).map λa=>(dB a).map (eW a)).flatten++((dB a).take j).map (eW a)++ [z])) /\ ((l.take i).map λa=>(dB a).map (eW a)).flatten++((dB a).take j).map (eW a)++ [z]=((l.take i).map λa=>(dB a).map (eW a)).flatten++((dB a).take (j+1)).map (eW a))
 | none=>M4=um M1 p (.lst (((l.take i).map λa=>(dB a).map (eW a)).flatten++((dB a).take j).map (eW a))) /\ ((l.take i).map λa=>(dB a).map (eW a)).flatten++((dB a).take j).map (eW a)=((l.take i).map λa=>(dB a).map (eW a)).flatten++((dB a).take (j+1)).map (eW a)) ?_
 show#[au,ub,by rw[e2,aO];simp];rintro zs M ⟨rfl,rfl⟩;show#[rfl,by rw[eF,aa,bQ]];rintro ys M ⟨rfl,rfl⟩;rw[aa,bQ];show hq p hp
def lI {α:Type}{l:fk α}{fW:α ->W}(pr:α ->Bool)(eW:α ->W){M1:Mp}(hz:l.length<=sizeLine)(kf: ∀M,Sm M1 M ->keep M)(hs: ∀a∈l, ∀ (M:Mp) (N:fG W ->Mp ->Prop),Sm M1 M ->N (if pr a=true then some (eW a) else none) M ->g (fW a) (mx own fr ρ) M λρ2 M2=>c ρ2 M2 λb M3=>iU b (el ρ2 M3 λy M4=>N (some y) M4) (N none M3))(hq: ∀p,M1 p=none ->q (wr p) (um M1 p (.lst ((l.filter pr).map eW)))):sR (l.map fW) keep own fr g c el ρ M1 q:=by
 exact#[by rw[aa];show hz,λp hp=>#[λi ys M=>M=um M1 p (.lst ys) /\ ys=((l.take i).filter pr).map eW,#[rfl,by simp],?_,?_,?_]];rintro i ys M hi ⟨rfl,rfl⟩;exact#[kf _ (ce hp),au,?_];rw[aa];exact aT (eY _ _) ?_;rw[bg];lia;rintro i x ys M hx ⟨rfl,rfl⟩;let⟨a,ha,rfl⟩:=jy hx;have e:l.take (i+1)=l.take i++ [a]:=by rw[bC,ha];rfl
 exact hs a (ar ha) _ (λo M4=>match o with
 | some y=>M4 p=some (.lst (((l.take i).filter pr).map eW)) /\ (um M4 p (.lst (((l.take i).filter pr).map eW++ [y]))=um M1 p (.lst (((l.take i).filter pr).map eW++ [y])) /\ ((l.take i).filter pr).map eW++ [y]=((l.take (i+1)).filter pr).map eW)
 | none=>M4=um M1 p (.lst (((l.take i).filter pr).map eW)) /\ ((l.take i).filter pr).map eW=((l.take (i+1)).filter pr).map eW) (ce hp) ?_
 cases hf:pr a with
 | false=>rw[ai (by simp)];show#[rfl,by rw[e,List.filter_append];simp[hf]]
 | true=>rw[am rfl];show#[au,ub,by rw[e,List.filter_append];simp[hf]]
 rintro ys M ⟨rfl,rfl⟩;rw[aa,bQ];show hq p hp
def gj {α:Type}{l:fk α}{fW:α ->W}(eW:α ->W){M1:Mp}(hz:l.length<=sizeLine)(kf: ∀M,Sm M1 M ->keep M)(hs: ∀a∈l, ∀ (M:Mp) (N:fG W ->Mp ->Prop),Sm M1 M ->N (some (eW a)) M ->g (fW a) (mx own fr ρ) M λρ2 M2=>c ρ2 M2 λb M3=>iU b (el ρ2 M3 λy M4=>N (some y) M4) (N none M3))(hq: ∀p,M1 p=none ->q (wr p) (um M1 p (.lst (l.map eW)))):sR (l.map fW) keep own fr g c el ρ M1 q:=by exact lI (λ_=>true) eW hz kf (λa ha M N s h=>hs a ha M N s ⇑h) λp hp=> ?_;have e:l.filter (λ_=>true)=l:=List.filter_eq_self.mpr λ_ _=>rfl;rw[e];show hq p hp
theorem ut (lo:Int)(n:Nat):gg lo n=(List.range n).map λ(k:Nat)=>wi (lo+(k:Int)):=rfl
end
end WL
namespace L2
open PySem PySem.Spec PyProof.Rows
def Iy (a b c:Int):Nat:=(Builtin.Range.rangeSize a b c).toNat
def xy:Iy a b (-1)=(a - b).toNat:=by unfold Iy Builtin.Range.rangeSize;rw[ai ⋯];split;rw[show -(-1:Int)=1 by decide,Int.ediv_one];lia;change(0:Int).toNat=_;lia
def QS (lo c:Int)(n:Nat):It:=#[λi _=>i<n,λi H x H'=>H'=H /\ x= .int (lo+i*c),λi _=>n<=i]
def xb {P:Program}{w:World}{K:Ug}{tg:Expr}(it:gY)(lo c:Int)(n:Nat):tS P w K tg (QS lo c n) [it] it (λi h=>IsRangeIter h it (lo+(i:Nat)*c) ((n:Int) - (i:Nat)) c) where
 mem:=by simp
 obj :=λi h st b hb=>by have e:b=it:= ⇑hb;subst e;show#[_,st,λv z=>by have z':Data.fields _=Data.cell v:=z;cases z']
 keep:=λi h h' st k=>k it (by simp) _ st
 item:=by intro X hP hw hK hc i ak s σ H E I hf st hg;subst hP hw hK;let⟨f0,f1,f2,f3,f4,f5⟩:=hf it (by simp);have W:=Walks.range (prog:=X.prog) (w:=X.w) (I.ok.hd hc) it lo c n;exact W.item i s _ _ hg st λv h' tk hv bD kk=> ?_;let⟨t,rfl⟩:=hv;have I1:Inv X ak σ H {s with heap:=h',toks:=tk}:=I.turned (λb o hb e=>kk b o ⇑hb e) f0 f1 f3 f4 f5;show#[_,rfl,Ca (s:= {s with heap:=h',toks:=tk}) (n:= "range_iterator") bD rfl rfl ⋯ #[.int (lo+i*c),H,I1,#[t,rfl],#[rfl,rfl],bD,λb hb=>(hf b hb).1]]
 done:=by intro X hP hw hK hc i ak s σ H E I hf st hg;subst hP hw hK;let⟨f0,f1,f2,f3,f4,f5⟩:=hf it (by simp);show wpAny_pyNext_range_end (I.ok.hd hc) st (by have:n<=i:=hg;lia) λh' eb=>#[rfl,I.turned (t':=s.toks) (λb o hb e=>eb b o hb e) f0 f1 f3 f4 f5]
 self:=λ_ _ _ _ _ st h=>wpAny_pyIter_rangeiter st h
def AM (a b c:Int):Prop:=c≠0 /\ c.natAbs<1000000 /\ a.natAbs<1000000000 /\ b.natAbs<1000000000
def pE (h:c≠0):0<=Builtin.Range.rangeSize a b c:=by unfold Builtin.Range.rangeSize;split;split;have:=Int.ediv_nonneg (a:=b - a - 1) (b:=c) ∅ ∅;lia;show aY _;split;have:=Int.ediv_nonneg (a:=a - b - 1) (b:= -c) ∅ ∅;lia;show aY _
def xp (h:AM a b c):Builtin.Range.small a b c=true:=by
 let⟨h0,h1,h2,h3⟩:=h;have hs:Builtin.Range.rangeSize a b c<=2000000001:=by unfold Builtin.Range.rangeSize;split;split;have:=Int.ediv_le_self (a:=b - a - 1) c ∅;lia;lia;split;have:=Int.ediv_le_self (a:=a - b - 1) (-c) ∅;lia;lia
 have wY:=pE (a:=a) (b:=b) h0;unfold Builtin.Range.small;simp![Builtin.Range.rangeFitsLong,Bool.and_eq_true,Bool.or_eq_true,cN,beq_iff_eq];exact#[#[#[#[#[∅, ∅], ∅, ∅], ∅, ∅], ∅, ∅], .inr ?_];split;rw[Bool.and_eq_true,cN,cN];lia;rw[Bool.and_eq_true,cN,cN];lia
def MT (ta:TA):TI:=λσ H R=>ta σ H λvs H1=>im λ(i j c:Int)=>d_ (vs= [.int i, .int j, .int c]) (AM i j c) (R (QS i c (Iy i j c)) H1)
def C_ {tg:Expr}{p pos:Pos}(hg:Gl X "range")(hm:X.mg "range" =none)(ha:PA X [a,b,c] ta)(hs:starEach [a,b,c] X.env=(false,eval a X.env)::starEach [b,c] X.env:=by rfl)(kR:(backTo pos (starEach [b,c] X.env)).any (·.1)=false:=by rfl): PI X tg (.Call (.Name "range" p) [a,b,c] [] pos) (MT ta):=by
 intro ak s σ H R I h;exact Call_ (g_ I hg hm boot_range (bM (dL (ha pos ak s σ H _ I h) λus s1 ⟨vs,H1,I1,r1,q1⟩=> ?_) hs kR));let⟨i,j,c,e,rg,q⟩:=q1;subst e;cases r1 with
 | cons r rr=>
  cases rr with
  | cons r' rr=>
   cases rr with
   | cons Tj rr=>
    cases rr;let⟨t,rfl⟩:=r;let⟨t',rfl⟩:=r';let⟨Oz,rfl⟩:=Tj;exact call_range_3 rg.1 ?_ (.inl (PyProof.noPylong_small (by have:=rg.2.1;lia)));exact wpAny_pyIter_range (IsRange.new ..) (xp rg) ?_;have I2:Inv X ak σ H1 {s1 with heap:=s1.heap.push {cls:= .type "range",data:= .fields (List.toArray [.int i t, .int j t', .int c Oz])},toks:=s1.toks}:=I1.kept λb o e=>aq _ e;exact#[(s1.heap.push {cls:= .type "range",data:= .fields (List.toArray [.int i t, .int j t', .int c Oz])}).objs.size,[(s1.heap.push {cls:= .type "range",data:= .fields (List.toArray [.int i t, .int j t', .int c Oz])}).objs.size],_,_,H1,rfl,I2.kept (t':=s1.toks) λb o e=>aq _ e,xb _ i c (Iy i j c),?_,λb hb=> ?_,q];have e1:i+((0:Nat):Int)*c=i:=by simp
    have e2:((Iy i j c:Nat):Int) - ((0:Nat):Int)=Builtin.Range.rangeSize i j c:=by unfold Iy;have:=pE (a:=i) (b:=j) rg.1;lia
    change IsRangeIter _ _ (i+((0:Nat):Int)*c) (((Iy i j c:Nat):Int) - ((0:Nat):Int)) c;rw[e1,e2];show aQ _ rfl;have e:b=(s1.heap.push {cls:= .type "range",data:= .fields (List.toArray [.int i t, .int j t', .int c Oz])}).objs.size:=by simpa using hb
    subst e;show I2.wu (ap _) (I2.dM.fresh (ap _))
end L2
namespace WL
open PySem L2
def p6 (lo c:Int)(n:Nat):fk W:=(List.range n).map λ(k:Nat)=>wi (lo+(k:Int)*c)
def xm:(p6 lo c n).length=n:=by simp[p6]
def step_at (h:(p6 lo c n)[i]? =some x):i<n /\ x=wi (lo+i*c):=by unfold p6 at h;rw[az] at h;by_cases hi:i<n;rw[List.getElem?_range hi] at h;cases h;show#[hi,rfl];rw[List.getElem?_eq_none ⇑hi] at h;cases h
section
variable {K:Ug}
def MQ (a:WA):WI:=λρ M q=>a ρ M λxs M1=>im λ(i j c:Int)=>d_ (xs= [wi i,wi j,wi c]) (AM i j c) (q (p6 i c (Iy i j c)) (λ_=>True) M1)
def Dx:Em K H1 (QS lo c n) (p6 lo c n) (λ_=>True):=by intro i M H ts m _;rw[xm];exact#[λh=>Nat.le_of_eq h,λh=>h,λv H' hi y=> ?_];let⟨rfl,y⟩:=y;exact#[bu.refl _,m,wi (lo+i*c),?_,by rw[y];show WR.v];simp[p6,hi]
def c7.three (h:c7 K H [x,y,z] vs):im λv u t=>fZ (vs= [v,u,t]) (WR K H x v) (WR K H y u) (WR K H z t):=by simp![c7] at h;let⟨v,t,rfl,h1,u,t',rfl,h2,s,Oz,rfl,h3,rfl⟩:=h;show#[v,u,s,rfl,h1,h2,h3]
instance {t:TA}{a:WA} [ia:IA K t a]:II K (MT t) (MQ a) where
 imp:=λρ M σ H q R o h k=>ia.imp ρ M σ H _ _ o h λxs M1 v H1 ⟨i,j,c,e,h0,h2⟩ t1 m1 r1=>by subst e;let⟨v,u,s,rfl,r,r',Tj⟩:=r1.three;cases r.eq;cases r'.eq;cases Tj.eq;show#[i,j,c,rfl,h0,k _ _ _ M1 H1 h2 t1 m1 Dx]
theorem KA:MQ a ρ M q=a ρ M λxs M1=>im λ(i j c:Int)=>d_ (xs= [wi i,wi j,wi c]) (AM i j c) (q (p6 i c (Iy i j c)) (λ_=>True) M1):=rfl
end
end WL
namespace HT
open PySem PySem.Spec PyProof.Rows
def mw {lo hi:fG Int}(ht:IsTup s.heap t items)(hs:s.heap.IsSliceOf sl vl vu .none)(pl:IsPart vl lo)(pu:IsPart vu hi)(hw:f6 items.size 0 lo=0 /\ f6 items.size items.size hi=items.size)(h:Q (.ref t) s):wpAny (model prog w) A (getItem (.ref t) (.ref sl)) Q E s:=by
 let⟨os,P9,Xa,Ru⟩:=id hs;have _p:s.TypeIs (.ref sl) "slice" :=#[os,P9,Xa]
 unfold getItem;try with_reducible exact d6 ?_
 first | exact ag (aC ?_) | skip
 exact ag (wpAny_sequenceKey ht.typeIs ⋯ ?_);exact ag (wpAny_callSpecial?_slot (name:=Str.ofString "__getitem__") ht.typeIs dm (wpAny_call_entry dm ht.typeIs entry_tuple_getitem ?_ (args_tuple_getitem _ _)));change wpAny _ _ (Builtin.Tuple.tupleItemsOf (.ref t) >>=_) _ _ s;exact ag (tupleItemsOf_ ht ?_);exact ag (wpAny_typeOf _p ?_);rw[am ⋯];exact ag (j_ hs pl pu ?_);have Zp:(((f6 items.size 0 lo:Nat):Int)==0 && (1:Int)==1 && (f6 items.size items.size hi - f6 items.size 0 lo)==items.size)=true:=by rw[hw.1,hw.2];simp
 change wpAny _ _ (if(((f6 items.size 0 lo:Nat):Int)==0 && (1:Int)==1 && (f6 items.size items.size hi - f6 items.size 0 lo)==items.size)=true then _ else _) _ _ s;rw[am Zp];exact ag (m:=Builtin.Tuple.tupleIsExact _) ?_;unfold Builtin.Tuple.tupleIsExact;exact ag (wpAny_typeOf ht.typeIs (aC ?_));rw[am ⋯];first
 | show ag (wpAny_rule (aC #[_,rfl,aC h]))
 | show ag (wpAny_rule (ag (aC (aC #[_,rfl,aC h]))))
 | show ag (ag (wpAny_rule (aC (aC #[_,rfl,aC h]))))
 | show ag (ag (wpAny_rule (aC #[_,rfl,aC h])))
end HT
namespace L2
open PySem PySem.Spec PyProof.Rows
def OR (K:Ug):V ->fG Int ->fG Int ->Hp ->VK ->Prop:=λx lo hi H Q=>cO λa xs=>fZ (x= .ref a) (jI K H a xs) ((HT.f6 xs.length 0 lo=0 /\ HT.f6 xs.length xs.length hi=xs.length) ->Q (.ref a) H) (¬(HT.f6 xs.length 0 lo=0 /\ HT.f6 xs.length xs.length hi=xs.length) -> ∀p,H p=none ->Q (.ref p) (dy H p (.tup (sN xs lo hi))))
def Bl:Vr X (OR X.K):=by
 intro ak s σ H x v vl vu lo hi sl Q I rx hs pl pu h;let⟨a,xs,rfl,hx,q1,q2⟩:=h;by_cases hw:HT.f6 xs.length 0 lo=0 /\ HT.f6 xs.length xs.length hi=xs.length;cases rx;let⟨its,r,ht,hz⟩:=I.tuple hx;have dj:its.toArray.size=xs.length:=by rw[aU];show r.length.symm
 exact#["tuple",_,dm.lookup,ht.typeIs,?_];show HT.mw ht hs pl pu (by rw[dj];show hw) #[.ref a,H,I,rfl,q1 hw];show OJ ak s σ H (.ref a) v vl vu lo hi sl Q I rx hs pl pu #[a,xs,rfl,hx,hw,q2 hw]
end L2
namespace WL
open PySem L2
section
variable {K:Ug}
def RU:RK:=λx lo hi M q=> ∃l,x= .tup l /\ q (.tup (lG l lo hi)) M
def AA (h:HT.f6 l.length 0 lo=0 /\ HT.f6 l.length l.length hi=l.length):lG l lo hi=l:=by unfold lG;rw[h.1,h.2,List.drop_zero,Nat.sub_zero,bQ]
instance:ISl K (OR K) RU where
 imp :=by rintro x v lo hi M H q Q m r1 ⟨l,rfl,h⟩ k;let⟨a,vs,rfl,hv,r⟩:=r1.tup;exact#[a,vs,rfl,hv,λhw=> ?_,λhw p hp=> ?_];rw[r.length] at hw;rw[AA hw] at h;show k _ M _ H h (bu.refl H) m (WR.MJ hv r);show k _ M _ _ h (L2.gk.ts (cB hp)) (m.new hp) (WR.MJ (jI.of cr) ((r.cut lo hi).ts (L2.gk.ts (cB hp))))
def XT:RU (.tup l) lo hi M q=q (.tup (lG l lo hi)) M:=by apply propext;symm;rintro⟨_,h,k⟩;cases h;show k;intro h;show#[_,rfl,h]
end
end WL
namespace WQ
open PySem L2 WL WP
def cv (a b:fk Int):Nat ->Nat ->Int
 | 0,_=>0
 | k+1,n=>cv a b k n+if k<=n then a.getD k 0*b.getD (n - k) 0 else 0
structure IsPart (p:Int)(one other q r:List Int):Prop where
 qs:NY p q
 rs:NY p r
 len:r.length<other.length
 ql:q.length<=one.length
 eq: ∀n,one.getD n 0 % p=(cv q other q.length n+r.getD n 0) % p
end WQ
namespace L2
open PySem PySem.Spec PyProof.Rows
def QJ {σ:St}(I:Inv X ak σ H s)(e:H a=some (.dK kvs))(ry:RelV (kV k) u)(rd:RelV d r)(z1:kvs.length<sizeLine)(h1: ∀v w' s',iQ kvs k=some v ->Inv X ak σ H s' ->RelV v w' ->Q w' s')(h2: ∀s',iQ kvs k=none ->Inv X ak σ (dy H a (.dK (gQ kvs k d))) s' ->Q r s'): wpAny (model X.prog X.w) A (call (.builtin "dict.setdefault") [.ref a,u,r]) Q E s:=by
 let⟨z,hd,vs,rel,dd⟩:=yx I.dM e;have hz:vs.length<=sizeLine:=by rw[<- rel.length];show z
 have hl:(gQ kvs k d).length<=sizeLine:=by have:=iN kvs k d;lia
 have rv:=rel.val k;exact call_meetsIn PySem.F.slot_dict_setdefault dd.typeIs PySem.F.entry_dict_setdefault (PySem.F.args_dict_setdefault_3 _ _ _) (kt_meets_setdefault (cQ X.prog X.w) a (ox ry) hd r) #[vs,dd,hz,λv hv=> ?_,λhn h' DZ hs=> ?_];rw[hv] at rv;cases hk:iQ kvs k with
 | none=>rw[hk] at rv;show absurd rv (by intro h;cases h)
 | some x=>rw[hk] at rv;show h1 x v _ hk (I.tok _) (by first | show rv | (cases rv;assumption))
 rw[hn] at rv;cases hk:iQ kvs k with
 | some x=>rw[hk] at rv;show absurd rv (by intro h;cases h)
 | none=>
  exact h2 _ hk ?_;have he: ∃q,h'.get? a=some q:=let ⟨q,_,_,hq,_⟩:=DZ;#[q,hq]
  show oQ I (by rw[e];show True.intro) hs he (sH hl hd (rel.put k rd) DZ)
def Fk (td ty tx:TE):TE:=λσ H Q=>td σ H λx H1=> ∃a,x= .ref a /\ IsD H1 a /\ ty σ H1 λy H2=>tx σ H2 λz H3=> ∃kvs k,H3 a=some (.dK kvs) /\ y=kV k /\ kvs.length<sizeLine /\(∀v,iQ kvs k=some v ->Q v H3) /\ (iQ kvs k=none ->Q z (dy H3 a (.dK (gQ kvs k z))))
def F9 (ho:PE X o td)(he:PE X e ty)(hf:PE X f tx)(m:M2 X o "setdefault" j6 e f gJ):PE X (.Call (.Attribute o "setdefault" j6) [e,f] [] gJ) (Fk td ty tx):=by intro ak s σ H Q I h;exact wpAny_Call_method m.base m.HB m.line PySem.F.plainAttrs_dict PySem.F.slot_dict_setdefault PySem.F.type_dict_setdefault (dL (ho ak s σ H _ I h) λu s1 ⟨x,H1,I1,rx,a,ex,d,q1⟩=> ?_);subst ex;obtain rfl:u=Value.ref a:=rx;let⟨t1,t2,_⟩:=vY I1 d;exact#[t1,t2,?_];rw[m.trees];exact Calls.callWith_builtin rfl (Calls.evalArgs_plain (eg (dL (he ak s1 σ H1 _ I1 q1) λiv s2 ⟨y,H2,I2,ry,q2⟩=>eg (dL (hf ak s2 σ H2 _ I2 q2) λfv s3 ⟨z,H3,I3,rz,kvs,k,ea,ey,z1,q3,q4⟩=>Calls.spliced_nil ?_))));subst ey;show QJ I3 ea ry rz z1 (λv w' s4 hv I4 vH=>#[_,H3,I4,vH,q3 v hv]) λs4 hn I4=>#[z,_,I4,rz,q4 hn]
end L2
namespace WL
open PySem L2
variable {K:Ug}
def zb (a b c:WE):WE:=λρ M q=>a ρ M λx M1=> ∃p,x=wr p /\ (∃kvs,M1 p=some (.dK kvs)) /\ b ρ M1 λy M2=>c ρ M2 λz M3=> ∃kvs k,M3 p=some (.dK kvs) /\ y=gq k /\ kvs.length<sizeLine /\ (∀x,fX kvs k=some x ->q x M3) /\ (fX kvs k=none ->q z (um M3 p (.dK (kc kvs k z))))
instance {t u s:TE}{a b c:WE} [ia:IE K t a] [ib:IE K u b] [ic:IE K s c]:IE K (Fk t u s) (zb a b c) where
 imp :=λρ M σ H q Q o h k=>ia.imp ρ M σ H _ _ o h λx M1 v H1 ⟨p,e,⟨kvs,hp⟩,h1⟩ t1 m1 r1=>by
  subst e;let⟨ks,hk,rr⟩:=m1 p _ hp;exact#[p,r1.eq, .inl #[ks, .inl hk],ib.imp ρ M1 σ H1 _ _ (o.mv t1 m1) h1 λy M2 u H2 h2 t2 m2 r2=>ic.imp ρ M2 σ H2 _ _ (o.mv (t1.trans t2) m2) h2 λz M3 u3 H3 ⟨kvs,ky,e2,e3,hl,h3,h4⟩ t3 m3 r3=> ?_];subst e3;let⟨ks,hk,rr⟩:=m3 p _ e2;have ts:=nK (u:= .dK (gQ ks ky u3)) hk;exact#[ks,ky,hk,lZ (r2.ts t3),by rw[rr.length];show hl,λv hv=> ?_,λhn=> ?_];rcases rr.val ky with⟨n1,n2⟩ | ⟨x',v',n1,n2,rx⟩
  rw[n2] at hv;cases hv;rw[n2] at hv;cases hv;show k _ M3 _ H3 (h3 _ n1) ((t1.trans t2).trans t3) m3 rx;rcases rr.val ky with⟨n1,n2⟩ | ⟨x',v',n1,n2,rx⟩
  show k _ _ _ _ (h4 n1) (((t1.trans t2).trans t3).trans ts) (m3.putD hk (KR.put r3 rr)) (r3.ts ts);rw[n2] at hn;cases hn
def uk (o:fG W)(q:W ->Prop)(n:Prop):Prop:=(∀x,o=some x ->q x) /\ (o=none ->n)
def R_:zb a b c ρ M q=a ρ M λx M1=>iA x λp=>kH (M1 p) λ_=>b ρ M1 λy M2=>c ρ M2 λz M3=>pN y λk=>kH (M3 p) λkvs=>iW (kvs.length<sizeLine) (uk (fX kvs k) (λx=>q x M3) (q z (um M3 p (.dK (kc kvs k z))))):=by
 unfold zb iA pN kH iW uk;congr 1;funext x M1;apply propext;symm;all_goals
  have e: ∀p:gY,(λy M2=>c ρ M2 λz M3=> ∃kvs k,M3 p=some (.dK kvs) /\ y=gq k /\ kvs.length<sizeLine /\ (∀x,fX kvs k=some x ->q x M3) /\ (fX kvs k=none ->q z (um M3 p (.dK (kc kvs k z)))))=(λy M2=>c ρ M2 λz M3=> ∃k,y=gq k /\ ∃kvs,M3 p=some (.dK kvs) /\ kvs.length<sizeLine /\ (∀x,fX kvs k=some x ->q x M3) /\ (fX kvs k=none ->q z (um M3 p (.dK (kc kvs k z))))):=λp=>by funext y M2;congr 1;funext z M3;apply propext;symm;rintro⟨a,b,c,d,e⟩;show#[b,d,a,c,e];rintro⟨b,d,a,c,e⟩;show#[a,b,c,d,e]
 rintro⟨p,h1,⟨kvs,h2⟩,h⟩;show#[p,h1,kvs,h2,e p▸h];rintro⟨p,h1,kvs,h2,h⟩;show#[p,h1,#[kvs,h2],(e p).symm▸h]
def JA:uk (some x) q n=q x:=by apply propext;unfold uk;symm;(· intro h;show h.1 x rfl);(· intro h;show#[λy e=>by cases e;show h,λe=>nomatch e])
def JB:uk none q n=n:=by apply propext;unfold uk;symm;(· intro h;show h.2 rfl);(· intro h;show#[λy e=>(nomatch e),λ_=>h])
end WL
namespace WL
open PySem L2
def HR {α:Type}{l:fk α}{fW:α ->W}(eW:α ->W){M1:Mp}(hz:l.length<=sizeLine)(kf: ∀M,Sm M1 M ->keep M)(hs: ∀a∈l, ∀ (M:Mp) (N:fG W ->Mp ->Prop),Sm M1 M ->(∀M',Sm M M' ->N (some (eW a)) M') ->g (fW a) (mx own fr ρ) M λρ2 M2=>c ρ2 M2 λb M3=>iU b (el ρ2 M3 λy M4=>N (some y) M4) (N none M3))(hq: ∀p M',M1 p=none ->Sm M1 M' ->M' p=some (.lst (l.map eW)) ->q (wr p) M'):sR (l.map fW) keep own fr g c el ρ M1 q:=by
 exact#[by rw[aa];show hz,λp hp=>#[λi ys M=>M p=some (.lst ys) /\ Sm M1 M /\ ys=(l.take i).map eW,#[au,ce hp,by simp],?_,?_,?_]];rintro i ys M hi ⟨h1,h2,rfl⟩;exact#[kf _ h2,h1,?_];rw[aa,bg];lia;rintro i x ys M hx ⟨h1,h2,rfl⟩;let⟨a,ha,rfl⟩:=jy hx;have e:l.take (i+1)=l.take i++ [a]:=by rw[bC,ha];rfl
 exact hs a (ar ha) _ (λo M4=>match o with
 | some y=>M4 p=some (.lst ((l.take i).map eW)) /\ um M4 p (.lst ((l.take i).map eW++ [y])) p=some (.lst ((l.take i).map eW++ [y])) /\ Sm M1 (um M4 p (.lst ((l.take i).map eW++ [y]))) /\ (l.take i).map eW++ [y]=(l.take (i+1)).map eW
 | none=>M4 p=some (.lst ((l.take i).map eW)) /\ Sm M1 M4 /\ (l.take i).map eW=(l.take (i+1)).map eW) h2 λM' s'=>#[s' _ _ h1,au,λc o ec=>by rw[aJ (cY ec hp)];show s' _ _ (h2 _ _ ec),by rw[e,aO];rfl]
 rintro ys M ⟨h1,h2,rfl⟩;rw[aa,bQ] at h1;show hq p M hp h2 h1
end WL
namespace WQ
open PySem L2 WL WP
def cs (n r:Int)(l:Pt):Int:=((l.filter λz=>decide (z.1 % n=r)).map (·.2)).sum
end WQ
namespace L2
open PySem PySem.Spec PyProof.Rows
def F3 {K:Ug}(hK:X.K=K)(hl:PE X l tl):PI X tg l (G4 K tl):=by subst hK;show eU hl
end L2
namespace WQ
open PySem L2 WL WP
abbrev Cf:=Nat ->Int
def Xq:Nat ->Cf ->Cf ->Int
 | 0,f,g=>f 0*g 0
 | n+1,f,g=>f 0*g (n+1)+Xq n (λi=>f (i+1)) g
def co (l:fk Int):Cf:=λi=>l.getD i 0
def Mult (p:Int)(a g:Cf):Prop:=cO λ(E:Cf) (N:Nat)=>(∀i,N<=i ->E i % p=0) /\ ∀n,a n % p=Xq n E g % p
def vo (p:Int)(a g h:Cf):Prop:=im λ(A B:Cf) (N:Nat)=>(∀i,N<=i ->A i % p=0 /\ B i % p=0) /\ ∀n,a n % p=(Xq n A g+Xq n B h) % p
def FV (p:Int)(a:Rd)(v:Int):Prop:=cO λlo hi=>d_ (gE (Bd a) lo) (kQ (Bd a) hi) (v=fwv p a lo hi)
open Classical in
noncomputable def fv (p:Int) (a:Rd):Int:=if h: ∃v,FV p a v then h.choose else 0
def names:fk Str:= ["on","back","up","down"]
def Ma (p:Int)(s:Str):Rd:=if s= "on" then(1,[]) else if s= "back" then(-1,[]) else if s= "up" then(0,[(0,1)]) else(0,[(0,p - 1)])
noncomputable def mJ (p:Int) (a:Rd) (s:Str):Bool:=decide (fv p (jn p a (Ma p s)) >fv p a)
def OC (a b:Int):fk Str:=List.replicate (a - b).natAbs (if a<=b then "on" else "back")
def Ol (p s:Int):fk Str:=if s<=p - s then List.replicate s.toNat "up" else List.replicate (p - s).toNat "down"
def zC (p:Int):Int ->Pt ->fk Str
 | _,[]=> []
 | here,z::r=>OC here z.1++Ol p z.2++zC p z.1 r
def pairsOf (p:Int)(z:Int×Int):Pt:=if z.2<=p - z.2 then List.replicate z.2.toNat (z.1,1) else List.replicate (p - z.2).toNat (z.1, -1)
def XC:Int ->Pt ->Int
 | _,[]=>0
 | here,z::r=>Vp (here - z.1)+XC z.1 r
end WQ
namespace L2
open PySem PySem.Spec PyProof.Rows
def Inv.freeze {σ:St}(I:Inv X ak σ H s)(e:H d=some (.dK kvs))(ho:s.heap.get? d=some o): Inv X ak σ (dy H d (.nk o (.dK kvs))) s:=by
 have ne: ∀ {b u},H b=some u ->u≠ .dK kvs ->b≠d:=λ{b u} h n z=>by subst z;rw[e] at h;show n (bG h).symm
 have Kf: ∀ {b},H b=none ->b≠d:=λ{b} h z=>by subst z;rw[e] at h;cases h
 exact#[I.ok,I.os,I.bare,#[I.base.keep,I.base.slot,λb u h1 h2 h3=> ?_,I.base.there,λb xs h=> ?_,λb o' u h=> ?_,λb ps h=> ?_],I.loc,I.cell,?_,λx c h=> ?_,λp hp=> ?_,λb u h=> ?_,I.len];have z:=I.base.free b u h1 h2 h3;rw[bS (Kf z)];show z;have z:=I.base.tF b xs h;rw[bS (ne z (λq=>nomatch q))];show z;have z:=I.base.qH b o' u h;rw[bS (ne z (λq=>nomatch q))];show z;let⟨more,z⟩:=I.base.tG b ps h;show#[more,by rw[bS (ne z (λq=>nomatch q))];show z];rw[bS (Kf I.free)];show I.free;rw[bS (Kf (I.jC x c h))];show I.jC x c h;let⟨a1,a2,a3⟩:=I.pin p hp;show#[a1,by rw[bS (Kf a2)];show a2,a3];have ow: ∀c,H c=some (.own b) ->dy H d (.nk o (.dK kvs)) c=some (.own b):=λc r=>by rw[bS (ne r (λq=>nomatch q))];show r
 have tu: ∀c xs,H c=some (.tup xs) ->dy H d (.nk o (.dK kvs)) c=some (.tup xs):=λc xs r=>by rw[bS (ne r (λq=>nomatch q))];show r
 by_cases hb:b=d;subst hb;rw[cr] at h;cases h;show#[ho,(I.dM b _ e).rF (λ_ _ _ h=>h) ow tu];rw[bS hb] at h;show(I.dM b u h).rF (λ_ _ _ h=>h) ow tu
def Hy {σ:St}(I:Inv X ak σ H s)(ho:o.data= .dict es ep)(e:H d=some (.nk o (.dK kvs))): ∃vs,KV kvs vs /\ s.heap.DictAt (cQ X.prog X.w) d vs ep:=by
 let⟨h0,_,_,vs,rel,o',Xm,Xn,h1,h2,h3,h4⟩:=(show fq X.prog X.w H s.heap d (.nk o (.dK kvs)) from I.dM d _ e)
 rw[h0] at h1;cases h1;rw[ho] at h3;cases h3;show#[vs,rel,o,es,h0,h2,ho,h4]
end L2
namespace WL
open PySem L2
variable {K:Ug}
theorem sk {H:Hp}: ∀ {kvs:fk (cH×W)} {vs:fk (cH×V)},KR K H kvs vs ->kvs.length=vs.length
 | _,_, .nil=>rfl
 | _,_, .cons _ t=>by rw[aP,aP,sk t]
end WL
namespace WQ
open PySem L2 WL WP
def Vh (n:Int):Pt ->Int ->Int
 | [],_=>0
 | z::r,k=>(if z.1 % n=k then z.2 else 0)+Vh n r k
def fl (p:Int)(m:Nat)(f:Pt):fk Int:=(List.range m).map λ(k:Nat)=>Vh m f k % p
end WQ
namespace L2
open PySem PySem.Spec PyProof.Rows
def FL (i:Int)(n:Nat):fk V:=(List.range n).map λ(k:Nat)=> .int (i+(k:Int))
def Fi (ta:TA):TE:=λσ H Q=>ta σ H λvs H1=>cO λ(i j:Int)=>fZ (vs= [.int i, .int j]) (-(2 ^ 62) <=i /\ i<2 ^ 62 /\ -(2 ^ 62) <=j /\ j<2 ^ 62) ((j - i).toNat<=16000000) (∀l,H1 l=none ->Q (.ref l) (dy H1 l (.lst (FL i (j - i).toNat))))
def Jq (h:ItemsOf (λj v=> ∃t,v=Value.int (i+(j:Int)*1) t) f_ n):cV (FL i n) f_.toList:=by
 let⟨hl,hv⟩:=h;have Np:f_.toList.length=n:= ⇑hl;have key: ∀ (k:Nat) (l:fk fm) (m:Nat),l.length=m ->(∀j v,l[j]? =some v -> ∃t,v=Value.int (i+((k+j:Nat):Int)) t) ->cV ((List.range' k m).map λ(k:Nat)=>V.int (i+(k:Int))) l:=by
  intro k l;induction l generalizing k with
  | nil=>intro m hm _;subst hm;show .nil
  | cons v r ih=>intro m hm hj;subst hm;rw[aP,List.range'_succ,aI];exact .cons ?_ (ih (k+1) r.length rfl λj v' e=> ?_);let⟨t,e⟩:=hj 0 v rfl;show#[t, ⇑e];let⟨t,e'⟩:=hj (j+1) v' (by rw[List.getElem?_cons_succ];show e);show#[t,by rw[e'];congr 2<;>lia]
 have:=key 0 f_.toList n Np λj v e=>by let⟨t,e'⟩:=hv j v (by rw[<- Array.getElem?_toList];show e);show#[t,by rw[e'];congr 2<;>lia]
 unfold FL;rw[List.range_eq_range'];show this
def zJ {p1 p2 F1 vO:Pos}(UR:Gl X "list")(Nl:X.mg "list" =none)(hg:Gl X "range")(hm:X.mg "range" =none)(hc:X.calm=true)(ha:PA X [a,b] ta)(hs:starEach [a,b] X.env= [(false,eval a X.env),(false,eval b X.env)]:=by rfl)(kR:starEach [b] X.env= [(false,eval b X.env)]:=by rfl)(ht:starEach [.Call (.Name "range" p2) [a,b] [] vO] X.env= [(false,eval (.Call (.Name "range" p2) [a,b] [] vO) X.env)]:=by rfl): PE X (.Call (.Name "list" p1) [.Call (.Name "range" p2) [a,b] [] vO] [] F1) (Fi ta):=by
 intro ak s σ H Q I h;exact Call_ (g_ I UR Nl boot_list (bM ?_ ht rfl));rw[ht];exact eg (Call_ (g_ I hg hm boot_range (bM (dL (ha vO ak s σ H _ I h) λus s1 ⟨vs,H1,I1,r1,q1⟩=> ?_) (by rw[hs,kR]) (by rw[kR];rfl))));let⟨i,j,e,⟨q1,q2,q3,q4⟩,hn,q⟩:=q1;subst e;cases r1 with
 | cons r rr=>
  cases rr with
  | cons r' rr=>cases rr;let⟨t,rfl⟩:=r;let⟨t',rfl⟩:=r';exact call_range_2 (Calls.spliced_nil ?_);have I2:Inv X ak σ H1 {s1 with heap:=s1.heap.push {cls:= .type "range",data:= .fields (List.toArray [.int i t, .int j t', .int 1 s1.toks])},toks:=s1.toks+1}:=I1.kept λb o e=>aq _ e;exact call_list_range (n:=(j - i).toNat) (I1.ok.hd hc) (IsRange.new ..) (small_one q1 q2 q3 q4) (by rw[rangeSize_one];split<;>lia) ∅ λh' tk QP c' kp Hm items=> ?_;have hv:=Jq items;exact#[.ref _,_,I2.laid (t':=tk) kp (ap _) (show fq X.prog X.w _ h' _ (.lst (FL i (j - i).toNat)) from#[?_,QP.toList,c',hv, ⇑Hm]),rfl,q _ (I2.dM.fresh (ap _))];unfold FL;rw[aa,bO];show aT hn (by rw[dg];decide)
end L2
namespace WL
open PySem L2
variable {K:Ug}
def EZ (a:WA):WE:=λρ M q=>a ρ M λxs M1=>cO λ(i j:Int)=>fZ (xs= [wi i,wi j]) (-(2 ^ 62) <=i /\ i<2 ^ 62 /\ -(2 ^ 62) <=j /\ j<2 ^ 62) ((j - i).toNat<=16000000) (∀l,M1 l=none ->q (wr l) (um M1 l (.lst (gg i (j - i).toNat))))
theorem FK {H:Hp}(i:Int): ∀ (l:fk Nat),c7 K H (l.map λ(k:Nat)=>wi (i+(k:Int))) (l.map λ(k:Nat)=>V.int (i+(k:Int)))
 | []=>by simp![dU,c7]
 | k::r=>by simp![aI,c7];show#[_,_,rfl,WR.v,FK i r]
instance {t:TA}{a:WA} [ia:IA K t a]:IE K (Fi t) (EZ a) where
 imp:=λρ M σ H q Q o h k=>ia.imp ρ M σ H _ _ o h λxs M1 vs H1 ⟨i,j,ex,h1,h2,h3⟩ t1 m1 r1=>by subst ex;let⟨v,u,rfl,r,r'⟩:=r1.two;cases r.eq;cases r'.eq;show#[i,j,rfl,h1,h2,λp hp=>k _ _ _ _ (h3 p (m1.fresh hp)) (t1.trans (L2.gk.ts (cB hp))) (m1.qx hp (FK i _)) WR.v]
theorem EY:EZ a ρ M q=a ρ M λxs M1=>cO λ(i j:Int)=>fZ (xs= [wi i,wi j]) (-(2 ^ 62) <=i /\ i<2 ^ 62 /\ -(2 ^ 62) <=j /\ j<2 ^ 62) ((j - i).toNat<=16000000) (rZ M1 λl=>q (wr l) (um M1 l (.lst (gg i (j - i).toNat)))):=rfl
end WL
namespace WQ
open PySem L2 WL WP
def HQ (l:fk W)(k:Int)(hk:0<=k):lG l none (some k)=l.take k.toNat:=by unfold lG;let⟨n,rfl⟩:=Int.eq_ofNat_of_zero_le hk;have e:(some ((n:Nat):Int))=some (Int.ofNat n):=rfl;rw[HT.xw,HT.Bs,List.drop_zero,Nat.sub_zero,Int.toNat_natCast];obtain h | h:=Nat.le_total n l.length;rw[Nat.min_eq_left h];rw[Nat.min_eq_right h,List.take_of_length_le (ap _),List.take_of_length_le h]
end WQ
namespace L2
open PySem PySem.Spec PyProof.Rows
theorem nX (hk:PE X k tk)(hv:PE X v tv):PE X (.Dict [some k] [v] pos) (Fj [(tk,tv)]):=JW (FZ hk hv JS) rfl rfl (by simp) (by simp)
end L2
namespace WL
open PySem L2
variable {K:Ug}
def E1 (a b:WE):WE:=λρ M q=> ∀p,M p=none ->a ρ (um M p (.dK [])) λx M1=>b ρ M1 λy M2=>M2 p=some (.dK []) /\ ∃k,x=gq k /\ q (wr p) (um M2 p (.dK [(k,y)]))
instance {tk tv:TE}{a b:WE} [ia:IE K tk a] [ib:IE K tv b]:IE K (Fj [(tk,tv)]) (E1 a b) where
 imp :=λρ M σ H q Q o h k=>λp hp=>by
  have t0:bu H (dy H p (.dK [])):=L2.gk.ts (cB hp);have m0:ij K (um M p (.dK [])) (dy H p (.dK [])):=o.hp.put t0 #[[],cr, .nil];exact ia.imp ρ _ σ _ _ _ (o.mv t0 m0) (h p (o.hp.fresh hp)) λx M1 v H1 h1 t1 m1 r1=> ?_;exact ib.imp ρ M1 σ H1 _ _ (o.mv (t0.trans t1) m1) h1 λy M2 u H2 ⟨e1,ky,e2,h2⟩ t2 m2 r2=> ?_;subst e2;let⟨ks,hk,rr⟩:=m2 p _ e1;cases rr;have ev:v=kV ky:=by
   cases ky with
   | inl i=>show r1.eq
   | inr z=>show r1.eq
  exact#[hk,[(ky,u)],by rw[ev];rfl,by simp,?_];have t3:=nK (u:= .dK (lq [] [(ky,u)])) hk;exact k _ _ _ _ h2 (((t0.trans t1).trans t2).trans t3) (m2.put t3 #[_,cr,?_]) WR.v;change KR K _ [(ky,y)] (lq [] [(ky,u)]);have em:lq [] [(ky,u)]= [(ky,u)]:=rfl;rw[em];show .cons #[rfl,r2.ts t3] .nil
theorem w_:E1 a b ρ M q=rZ M λp=>a ρ (um M p (.dK [])) λx M1=>b ρ M1 λy M2=>M2 p=some (.dK []) /\ ∃k,x=gq k /\ q (wr p) (um M2 p (.dK [(k,y)])):=rfl
end WL
namespace L2
open PySem PySem.Spec PyProof.Rows
section
variable {prog:Program}{w:World}{A:Around}{R:Result ->fo ->Prop}{I:gY}{fp wr:fk gY}{n:Nat}{P:Nat ->fm ->Prop}{St:Nat ->Heap ->Prop}{kw:fk (Str×fm)}
def GA (W:Walks prog w A.in1 I fp wr n P St)(bt:Nat ->Nat ->Bool)(Hq:CmpOf prog w A.in1 .Lt P bt)(Z:gY)(hZ:Z∉fp): ∀ (k j:Nat) (s:fo) (x:fm) (c:Nat),n - (j+1)=k ->j+1<=n ->St (j+1) s.heap ->P (argBest bt j) x ->s.heap.get? Z=some {cls:= .type "list",dict:=none,data:= .seq (List.toArray [x,x]) c,slots:= #[]} ->(∀v h' tk,P (argBest bt (n - 1)) v ->(∀b o,b∉wr ->b≠Z ->s.heap.get? b=some o ->h'.get? b=some o) ->R (.ok (.ret v)) {s with heap:=h',toks:=tk}) ->codeAny (model prog w) A (.builtin "min.loop" #[[.ref I, .none, .ref Z],kw]) R s:=by
 have hw:Z∉wr:=λh=>hZ (W.sub _ h);have nm:(toString "min" ++toString ".loop" :String)= "min.loop" :=⋯
 intro k;induction k with
 | zero=>intro j s x c hk hj f8 hP hS hR;have e0:j+1=n:= ∅;exact codeAny_builtin F.entry_min_loop ?_;rw[Around.under_plainId F.plain_min_loop _];change wpAny _ A.in1 (seqItems? (.ref Z) >>=_) _ _ s;exact ag (wpAny_seqItems hS rfl ?_);change wpAny _ A.in1 (tryCatch (pyNext (.ref I)) _ >>=_) _ _ s;exact ag (wpAny_tryCatch (W.done s _ _ (e0▸f8) λh1 tk wZ=> ?_));have Nx:=wZ Z _ hw hS;change wpAny _ A.in1 (updateSeq Z (λ_=> #[]) >>=_) _ _ _;exact ag ?_;exact wpAny_updateSeq Nx rfl (ag (wpAny_letGo (aC ?_)));show hR x _ tk (by rw[<- e0];show hP) λb o n1 n2 e=>(eZ _ _ (aW n2)).trans (wZ b o n1 e)
 | succ k ih=>
  intro j s x c hk hj f8 hP hS hR;have fU:j+1<n:= ∅;exact codeAny_builtin F.entry_min_loop ?_;rw[Around.under_plainId F.plain_min_loop _];change wpAny _ A.in1 (seqItems? (.ref Z) >>=_) _ _ s;exact ag (wpAny_seqItems hS rfl ?_);change wpAny _ A.in1 (tryCatch (pyNext (.ref I)) _ >>=_) _ _ s;exact ag (wpAny_tryCatch (W.item (j+1) s _ _ fU f8 λv h1 tk Ja KH wZ=> ?_));have Nx:=wZ Z _ hw hS;change wpAny _ A.in1 (tryCatch (holding [v,v] (richCompare .Lt v x >>=_)) _ >>=_) _ _ _;exact ag (wpAny_tryCatch (d6 (ag (Hq (j+1) (argBest bt j) v x _ _ _ Ja hP ?_))));exact ag (d6 (cT ?_));exact ag (wpAny_letGo (aC ?_));cases hb:bt (j+1) (argBest bt j) with
  | true=>simp![bZ];exact ag ?_;exact wpAny_updateSeq Nx rfl (ag (wpAny_letGo ?_));rw[nm];exact aC #[plainId_quiet F.plain_min_loop _,ih (j+1) _ v _ ∅ fU (W.frame _ _ _ KH λb _i o e=> ?_) (by simp![argBest,hb,bZ];show Ja) (Heap.get?_update_self _ Nx rfl) λv2 h2 Su DM Hj=> ?_];show(eZ _ _ (λh:Z=b=>hZ (by rw[h];show _i))).trans e;show hR v2 h2 Su DM λb o n1 n2 e=>Hj b o n1 n2 ((eZ _ _ (aW n2)).trans (wZ b o n1 e))
  | false=>simp![aB,bj];exact ag (wpAny_letGo ?_);rw[nm];exact aC #[plainId_quiet F.plain_min_loop _,ih (j+1) _ x c ∅ fU KH (by simp![argBest,hb,aB,bj];show hP) Nx λv2 h2 Su DM Hj=> ?_];show hR v2 h2 Su DM λb o n1 n2 e=>Hj b o n1 n2 (wZ b o n1 e)
def xU (W:Walks prog w A.in1 I fp wr n P St)(bt:Nat ->Nat ->Bool)(Hq:CmpOf prog w A.in1 .Lt P bt)(Z:gY)(hZ:Z∉fp)(f8:St 0 s.heap)(hS:s.heap.get? Z=some {cls:= .type "list",dict:=none,data:= .seq #[] c,slots:= #[]})(h0:n=0 -> ∀h' tk,(∀b o,b∉wr ->b≠Z ->s.heap.get? b=some o ->h'.get? b=some o) ->R (.ok (.ret d)) {s with heap:=h',toks:=tk})(hR:0<n -> ∀v h' tk,P (argBest bt (n - 1)) v ->(∀b o,b∉wr ->b≠Z ->s.heap.get? b=some o ->h'.get? b=some o) ->R (.ok (.ret v)) {s with heap:=h',toks:=tk}):codeAny (model prog w) A (.builtin "min.loop" #[[.ref I, .none, .ref Z],[(nd,d)]]) R s:=by
 have hw:Z∉wr:=λh=>hZ (W.sub _ h);have nm:(toString "min" ++toString ".loop" :String)= "min.loop" :=⋯
 exact codeAny_builtin F.entry_min_loop ?_;rw[Around.under_plainId F.plain_min_loop _];change wpAny _ A.in1 (seqItems? (.ref Z) >>=_) _ _ s;exact ag (wpAny_seqItems hS rfl ?_);change wpAny _ A.in1 (tryCatch (pyNext (.ref I)) _ >>=_) _ _ s;obtain hn | hn:=Nat.eq_zero_or_pos n;subst hn;exact ag (wpAny_tryCatch (W.done s _ _ f8 λh1 tk wZ=> ?_));exact ag (wpAny_rule ?_);show aC (h0 rfl _ tk λb o n1 n2 e=>wZ b o n1 e);exact ag (wpAny_tryCatch (W.item 0 s _ _ hn f8 λv h1 tk hP KH wZ=> ?_));have Nx:=wZ Z _ hw hS;change wpAny _ A.in1 (updateSeq Z (λ_=> (List.toArray [v,v])) >>=_) _ _ _;exact ag ?_;exact wpAny_updateSeq Nx rfl ?_;rw[nm];exact aC #[plainId_quiet F.plain_min_loop _,GA W bt Hq Z hZ _ 0 _ v _ rfl hn (W.frame _ _ _ KH λb _i o e=> ?_) hP (Heap.get?_update_self _ Nx rfl) λv2 h2 Su DM Hj=> ?_];show(eZ _ _ (λh:Z=b=>hZ (by rw[h];show _i))).trans e;show hR hn v2 h2 Su DM λb o n1 n2 e=>Hj b o n1 n2 ((eZ _ _ (aW n2)).trans (wZ b o n1 e))
def Eg (a d:fm):argsOk "min" #[[a],[("default",d)]]:=by unfold argsOk;kernel_rfl
variable {E:fm ->fo ->Prop}{s:fo}
def Eb (h:wpAny (model prog w) A.in1 (pyIter x) (λit t=>Lq λI fp wr n P St bt=>Ek (it= .ref I) (Walks prog w A.in1 I fp wr n P St) (St 0 t.heap) (∀b∈fp,b<t.heap.objs.size) (CmpOf prog w A.in1 .Lt P bt) (n=0 -> ∀h' tk,(∀b o,b∉wr ->t.heap.get? b=some o ->h'.get? b=some o) ->Q d {t with heap:=h',toks:=tk}) (0<n -> ∀v h' tk,P (argBest bt (n - 1)) v ->(∀b o,b∉wr ->t.heap.get? b=some o ->h'.get? b=some o) ->Q v {t with heap:=h',toks:=tk})) E s): wpAny (model prog w) A (call (.builtin "min") [x] [("default",d)]) Q E s:=by
 have nm:(toString "min" ++toString ".loop" :String)= "min.loop" :=⋯
 exact wpAny_call (codeAny_call_builtin F.plain_min F.entry_min ?_);simp![checkBuiltinCall,F.kind_min];have ha:=Eg x d;cases Uv:Manifest.signature? "min" with
 | none=>show absurd (show(Manifest.signature? "min").isSome=true by kernel_rfl) (by rw[Uv];decide)
 | some sig=>
  have I_:Bind.checkArgs "min" sig #[[x],[("default",d)]]=pure ():=by simpa only[argsOk,Uv] using ha
  simp![I_];exact aC ?_;change wpAny _ A.in1 (Builtin.Builtins.bindParams "min" ["key","default"] 0 #[[],[("default",d)]] >>=_) _ _ s;exact ag (wpAny_of_eq (show Builtin.Builtins.bindParams "min" ["key","default"] 0 #[[],[("default",d)]]=pure [none,some d] from rfl) ?_);exact ag (aC ?_);exact ag (b_ h (λit t h₂=> ?_) λ_ _ e=>e);let⟨I,fp,wr,n,P,St,bt,rfl,W,f8,wg,Hq,_s,hQ⟩:=h₂;exact ag (eT ?_);have hZ:t.heap.objs.size∉fp:=λhm=>bT _ (wg _ hm);rw[nm];exact aC #[plainId_quiet F.plain_min_loop _,xU W bt Hq t.heap.objs.size hZ (W.frame _ _ _ f8 λb _ o e=>aq _ e) (aQ _ rfl) (λhn h' tk hk=> ?_) λhn v h' tk hP hk=> ?_];show _s hn h' tk λb o n1 e=>hk b o n1 (a4 (aH e)) (aq _ e);show hQ hn v h' tk hP λb o n1 e=>hk b o n1 (a4 (aH e)) (aq _ e)
end
end L2
namespace WL
open PySem PySem.Spec PyProof.Rows L2
def L6 (K:Ug)(te td:TE):TE:=λσ H Q=>te σ H λx H1=>td σ H1 λd H2=>cO λ(l:gY) (ns:fk Int)=>fZ (x= .ref l) (gS K H2 l (ns.map V.int)) (ns= [] ->Q d H2) (∀m,gE ns m ->Q (.int m) H2)
def JU (hg:Gl X "min")(hm:X.mg "min" =none)(hc:X.calm=true)(ha:PE X e te)(hd:PE X ed td)(he:starEach [e] X.env= [(false,eval e X.env)]:=by rfl):PE X (.Call (.Name "min" p) [e] [#[some "default",ed,Y_]] pos) (L6 X.K te td):=by
 intro ak s σ H Q I h;exact wpAny_Call_Name_kw (g_ I hg hm Boot.«min» ?_ ⋯ ⋯);exact PyProof.Rows.callWith_kw ?_ (by rw[he];rfl) (by rw[he];rfl) rfl rfl;rw[he];exact eg (dL (ha ak s σ H _ I h) λu s1 ⟨x,H1,I1,r1,q1⟩=>Calls.spliced_nil ?_);exact kws_cons (dL (hd ak s1 σ H1 _ I1 q1) λu2 s2 ⟨d,H2,I2,r2,q2⟩=>kws_nil ?_);let⟨l,ns,rfl,hs,q0,q⟩:=q2;cases r1;change wpAny _ _ (call (.builtin "min") [.ref l] [("default",u2)]) _ _ s2;let⟨its,rv,ht,hz⟩:=I2.list hs;have hh:X.A.in1.handled=none:=I2.ok.hd hc;have dj:its.toArray.size=ns.length:=by have:=rv.length;rw[aa] at this;simpa using this.symm
 have fU:l<s2.heap.objs.size:=by let⟨_,e,_⟩:=ht.isList;show aH e
 exact Eb (wpAny_pyIter_list ht.isList ?_);have hk: ∀h':Heap,(∀b o,b∉ [s2.heap.objs.size] ->(s2.heap.push {cls:= .type "list_iterator",data:= .fields (List.toArray [.ref l, .int 0 s2.toks])}).get? b=some o ->h'.get? b=some o) -> ∀b o,s2.heap.get? b=some o ->h'.get? b=some o:=λh' hk b o e=>hk b o (λhI=>absurd (aH e) (by rw[ah.mp hI];show bT _)) (aq _ e);exact#[s2.heap.objs.size,_,_,its.toArray.size,_,_,λi j=>decide (ns.getD i 0<ns.getD j 0),rfl,Walks.list hh s2.heap.objs.size l (a4 fU) its.toArray,#[#[_,aQ _ rfl,rfl,rfl],ht.isList.push _],λb hb=> ?_,PySem.CmpOf.ints_lt (λi=>ns.getD i 0) (λi v e=>let ⟨t,h,_⟩:=l3 rv e;#[t,h]),λhn h' tk hm=> ?_,λhn v h' tk e hm=> ?_];change b< (s2.heap.push _).objs.size;rw[dF];obtain rfl | hb:=ax.mp hb;show cF _;rw[ah.mp hb];show dI fU;show#[d,H2,I2.kept (t':=tk) λb o e=>hm b o (λhI=>absurd (aH e) (by rw[ah.mp hI];show bT _)) (aq _ e),r2,q0 (di.mp ∅)];let⟨t,rfl,_⟩:=l3 rv e;rw[dj];show#[.int _,H2,I2.kept (t':=tk) λb o e=>hm b o (λhI=>absurd (aH e) (by rw[ah.mp hI];show bT _)) (aq _ e),#[t,rfl],q _ (yL (eI.mp ∅))]
def FO (K:Ug):fk V ->Hp ->VK ->Prop:=λxs H Q=>cO λ(a:gY) (ks:fk Int)=>d_ (xs= [.ref a]) (gS K H a (ks.map V.int)) (∀ (p:gY) (ns:fk Int),H p=none ->ns.Perm ks ->ns.Pairwise (· <= ·) ->Q (.ref p) (dy H p (.lst (ns.map V.int))))
def AE:gF X (.builtin "sorted") (FO X.K):=by
 intro ak s σ H xs us Q I r h;let⟨a,ks,rfl,hs,q⟩:=h;let⟨u,rfl,ru⟩:=vals1 r;cases ru;let⟨its,rv,ht,hz⟩:=I.list hs;have hI:IntsAre its ks:=oz rv;have hl:its.length=ks.length:=by have:=rv.length;rw[aa] at this;show this.symm
 rw[aa] at hz;exact Calls.call_function_entry kind_sorted plain_sorted entry_sorted (args_sorted1 _) ?_;unfold Builtin.«sorted»;exact ag (m:=checkCount "sorted" 1 1 _) (aC ?_);let⟨o,ho,hc,n,hd⟩:=ht.isList;exact ag (wpAny_collect_seq a (.inl rfl) ho hc hd (λh' Hh=> ?_) (by simp![aU];lia));simp![List.toList_toArray];exact ag (wpAny_newList ?_ (by rw[hl];show hz));have ho:(h'.push (seqObj "list" its.toArray 0)).get? h'.objs.size=some (seqObj "list" its.toArray 0):=aQ _ rfl;exact ag (d6 (wpAny_call_entry slot_list_sort #[_,ho,rfl] entry_list_sort (TS.ui (s:= {s with heap:=h'.push (seqObj "list" its.toArray 0)}) ho hI (by rw[hl];show hz) λout Kb a1 a2 a3=>#[_,rfl,?_]) (args_list_sort _)));let⟨ee,Hu⟩:=sortedHeap_at (out:=out) ho;have I':Inv X ak σ H {s with heap:=h'}:=I.kept (t':=s.toks) Hh;exact aC #[_,rfl, .ref h'.objs.size,_,I'.laid (t':=s.toks) (o:= .lst (Kb.map V.int)) (λb o hb=> ?_) (ap _) ?_,rfl,q _ Kb (I'.dM.fresh (ap _)) a2 a3];have fU:b<h'.objs.size:=aH hb;rw[sortedHeap_old (a4 fU) (by rw[dF];show dI fU)];show aq _ hb;exact#[?_,out.toList,ee,lM a1, ⇑Hu];rw[aa,a2.length_eq];show hz
variable {K:Ug}
def EV (a d:WE):WE:=λρ M q=>a ρ M λx M1=>d ρ M1 λy M2=>cO λ(l:gY) (ns:fk Int)=>fZ (x=wr l) (M2 l=some (.lst (ns.map wi))) (ns= [] ->q y M2) (∀m,gE ns m ->q (wi m) M2)
instance {t td:TE}{a d:WE} [ia:IE K t a] [id:IE K td d]:IE K (L6 K t td) (EV a d) where
 imp:=λρ M σ H q Q o h k=>ia.imp ρ M σ H _ _ o h λx M1 v H1 h1 t1 m1 r1=>id.imp ρ M1 σ H1 _ _ (o.mv t1 m1) h1 λy M2 u H2 ⟨l,ns,e,hl,q0,q1⟩ t2 m2 r2=>by subst e;cases (r1.ts t2).eq;let⟨vs,hv,rr⟩:=m2 l _ hl;cases rr.ints;show#[l,ns,rfl,gS.of hv,λe=>k _ _ _ _ (q0 e) (t1.trans t2) m2 r2,λm hm=>k _ _ _ _ (q1 m hm) (t1.trans t2) m2 WR.v]
theorem V1:EV a d ρ M q=a ρ M λx M1=>d ρ M1 λy M2=>cO λ(l:gY) (ns:fk Int)=>fZ (x=wr l) (M2 l=some (.lst (ns.map wi))) (ns= [] ->q y M2) (∀m,gE ns m ->q (wi m) M2):=rfl
def EU:yQ:=λxs M q=>cO λ(a:gY) (ks:fk Int)=>d_ (xs= [wr a]) (M a=some (.lst (ks.map wi))) (∀ (p:gY) (ns:fk Int),M p=none ->ns.Perm ks ->ns.Pairwise (· <= ·) ->q (wr p) (um M p (.lst (ns.map wi))))
instance:IC K (FO K) EU where
 imp:=by rintro xs v M H q Q m r1 ⟨a,ks,rfl,hl,h⟩ k;let⟨v,rfl,r⟩:=r1.one;cases r.eq;let⟨vs,hv,rr⟩:=m a _ hl;cases rr.ints;show#[a,ks,rfl,gS.of hv,λp ns hp h1 h2=>k _ _ _ _ (h p ns (m.fresh hp) h1 h2) (L2.gk.ts (cB hp)) (m.qx hp (c7.ofInts ns)) WR.v]
end WL
namespace WQ
open PySem L2 WL WP
def bE (s x:Int):Int:=if s=0 then x else x % s
def hI (s x:Int):Int:=if s=0 then 0 else x / s
def fE:fk Int ->Int
 | []=>0
 | a::r=>r.foldl (λm x=>if x<m then x else m) a
def uz:fk Int ->Int
 | []=>0
 | a::r=>r.foldl (λm x=>if m<x then x else m) a
def DQ (r:fk Int): ∀a,(r.foldl (λm x=>if x<m then x else m) a=a \/ r.foldl (λm x=>if x<m then x else m) a∈r) /\ r.foldl (λm x=>if x<m then x else m) a<=a /\ ∀x∈r,r.foldl (λm x=>if x<m then x else m) a<=x:=by
 induction r with
 | nil=>intro a;simp
 | cons b r ih=>intro a;let⟨h1,h2,h3⟩:=ih (if b<a then b else a);rw[List.foldl_cons];generalize List.foldl (λm x=>if x<m then x else m) (if b<a then b else a) r=z at h1 h2 h3;exact#[?_,by split at h2<;>lia,λx hx=> ?_];obtain h1 | h1:=h1;split at h1;rw[h1];show .inr aL;show .inl h1;show .inr (av _ h1);obtain rfl | hx:=ax.mp hx;split at h2<;>lia;show h3 x hx
def DS (r:fk Int): ∀a,(r.foldl (λm x=>if m<x then x else m) a=a \/ r.foldl (λm x=>if m<x then x else m) a∈r) /\ a<=r.foldl (λm x=>if m<x then x else m) a /\ ∀x∈r,x<=r.foldl (λm x=>if m<x then x else m) a:=by
 induction r with
 | nil=>intro a;simp
 | cons b r ih=>intro a;let⟨h1,h2,h3⟩:=ih (if a<b then b else a);rw[List.foldl_cons];generalize List.foldl (λm x=>if m<x then x else m) (if a<b then b else a) r=z at h1 h2 h3;exact#[?_,by split at h2<;>lia,λx hx=> ?_];obtain h1 | h1:=h1;split at h1;rw[h1];show .inr aL;show .inl h1;show .inr (av _ h1);obtain rfl | hx:=ax.mp hx;split at h2<;>lia;show h3 x hx
def fA (h:l≠ []):gE l (fE l):=by
 cases l with
 | nil=>show absurd rfl h
 | cons a r=>let⟨h1,h2,h3⟩:=DQ r a;exact#[?_,λx hx=> ?_];obtain h1 | h1:=h1;change List.foldl _ a r∈a::r;rw[h1];show aL;show av _ h1;obtain rfl | hx:=ax.mp hx;show h2;show h3 x hx
def jN (h:l≠ []):kQ l (uz l):=by
 cases l with
 | nil=>show absurd rfl h
 | cons a r=>let⟨h1,h2,h3⟩:=DS r a;exact#[?_,λx hx=> ?_];obtain h1 | h1:=h1;change List.foldl _ a r∈a::r;rw[h1];show aL;show av _ h1;obtain rfl | hx:=ax.mp hx;show h2;show h3 x hx
def kq (s f:Int)(ns:fk Int):fk Int:=(ns.filter λx=>decide (bE s x=f)).map (hI s)
def df (l:Pt):fk Int:=l.map (·.1)
def cg (s:Int)(st:Pt):Int:=fE ((df st).map (bE s))
def dN (s:Int)(st:Pt):Int:=uz (kq s (cg s st) (df st))
def qy (s:Int)(sts:fk Pt)(pat:Pt):Bool:=sts.all λst=>(kq s (cg s st) (df pat)).all λx=>decide (0<=x /\ x<dN s st)
theorem OH (ht:M t=none)(hp:um M t o1 p=none):Sm (um M p o2) (um (um M t o1) p o2):=λb o e=>by by_cases hb:b=p;subst hb;rw[au] at e ⊢;show e;rw[aJ hb] at e ⊢;have:b≠t:=cY e ht;rw[aJ this];show e
def Tu:jc:=λxs M q=>cO λ(x s:Int)=>fZ (xs= [wi x,wi s]) (0<=s) (s<2 ^ 30) (q (wi (bE s x)) M)
def Gd:jc:=λxs M q=>im λ(a:gY) (ns:fk Int) (s:Int)=>Ek (xs= [wr a,wi s]) (M a=some (.lst (ns.map wi))) (ns.length<=16000000) (0<=s) (s<2 ^ 30) (ns= [] ->q wn M) (ns≠ [] ->q (wi (fE (ns.map (bE s)))) M)
def YE:jc:=λxs M q=>kr λ(a:gY) (ns:fk Int) (s f:Int)=>l_ (xs= [wr a,wi s,wi f]) (M a=some (.lst (ns.map wi))) (ns.length<=16000000) (0<=s) (s<2 ^ 30) (∀ (p:gY) (ms:fk Int),M p=none ->ms.Perm (kq s f ns) ->ms.Pairwise (· <= ·) ->q (wr p) (um M p (.lst (ms.map wi))))
def Ts:jc:=λxs M q=>cO λ(st:Pt) (s:Int)=>l_ (xs= [wi s,bN st]) (st≠ []) (st.length<=16000000) (0<=s) (s<2 ^ 30) (q (.tup [wi (cg s st),wi (dN s st)]) M)
def YC:jc:=λxs M q=>im λ(sts:fk Pt) (pat:Pt) (s:Int)=>l_ (xs= [wi s, .tup (sts.map bN),bN pat]) (∀st∈sts,st≠ [] /\ st.length<=16000000) (pat.length<=16000000) (0<=s) (s<2 ^ 30) (q (wb (qy s sts pat)) M)
def J1:jc:=λxs M q=>cO λ(st:Pt) (s:Int)=>l_ (xs= [wi s,bN st]) (st≠ []) (st.length<=16000000) (0<=s) (s<2 ^ 30) (q (wi (cg s st)) M)
def bB (s:Int)(pat:Pt)(c:Int):fk Int:=(df pat).filter λx=>decide (bE s x=c)
def O2:jc:=λxs M q=>im λ(st:Pt) (s c:Int)=>j8 (xs= [wi s,bN st,wi c]) (st.length<=16000000) (0<=s) (s<2 ^ 30) (∀p,M p=none ->q (wr p) (um M p (.lst ((bB s st c).map wi))))
def oe (s:Int)(st:Pt):Int:=((bB s st (cg s st)).getLastD 0 - (bB s st (cg s st)).headD 0) / (if s >1 then s else 1)
def Tq:jc:=λxs M q=>cO λ(st:Pt) (s:Int)=>l_ (xs= [wi s,bN st]) (st≠ []) (st.length<=16000000) (0<=s) (s<2 ^ 30) (q (wi (oe s st)) M)
def vV (s:Int)(sts:fk Pt)(pat:Pt):Bool:=sts.all λst=>(bB s pat (cg s st)).all λx=>decide (cg s st<=x /\ x<cg s st+oe s st*(if s >1 then s else 1))
def Tt:jc:=λxs M q=>im λ(sts:fk Pt) (pat:Pt) (s:Int)=>l_ (xs= [wi s, .tup (sts.map bN),bN pat]) (∀st∈sts,st≠ [] /\ st.length<=16000000) (pat.length<=16000000) (0<=s) (s<2 ^ 30) (q (wb (vV s sts pat)) M)
def jm (h:ms≠ []):iV (ms.map wi) (-1)=some (wi (ms.getLastD 0)):=by
 have hl:0<ms.length:=eI.mpr h;have e:wW (ms.map wi).length (-1)=some (ms.length - 1):=by rw[aa];unfold wW;simp;lia
 unfold iV;rw[e];change(ms.map wi)[ms.length - 1]? =_;rw[az];have:ms[ms.length - 1]? =some (ms.getLastD 0):=by
  rw[<- List.getLast?_eq_getElem?];cases ms with
  | nil=>show absurd rfl h
  | cons a r=>simp[List.getLast?_cons]
 rw[this];rfl
structure tT (s:Int)(st:Pt)(c:Int):Prop where
 at_:c∈df st
 own:bE s c=c
 ge: ∀x∈df st,c<=bE s x
 up: ∀x∈df st,bE s x=c ->c<=x
 len:st.length<=16000000
 vI:(df st).Pairwise (· < ·)
def tT.ne (h:tT s st c):st≠ []:=by rintro rfl;show absurd h.at_ (by simp[df])
def tT.col (h:tT s st c):cg s st=c:=by
 have cD:(df st).map (bE s)≠ []:=by intro e;have:=List.mem_map_of_mem (f:=bE s) h.at_;rw[e] at this;cases this
 exact gE.uniq (fA cD) #[af.mpr #[c,h.at_,h.own],λx hx=> ?_];let⟨y,hy,rfl⟩:=af.mp hx;show h.ge y hy
def tT.head (h:tT s st c):(bB s st c).headD 0=c:=by
 have hm:c∈bB s st c:=ay.mpr #[h.at_, ⇑h.own];have hs:(bB s st c).Pairwise (· < ·):=h.vI.sublist (List.filter_sublist);cases e:bB s st c with
 | nil=>rw[e] at hm;cases hm
 | cons a r=>
  rw[e] at hm hs;have ha:a∈bB s st c:=by rw[e];show aL
  have I_:=ay.mp ha;have:=h.up a I_.1 ⇑I_.2;obtain h1 | h1:=ax.mp hm;show h1.symm;have:=(cz.mp hs).1 c h1;change a=c;lia
def lV (h:l.Pairwise (· <= ·))(hn:l≠ []):kQ l (l.getLastD 0):=by
 induction l using WP.jg with
 | h0=>show absurd rfl hn
 | h1 l a _=>
  have e:(l++ [a]).getLastD 0=a:=by simp
  rw[e];exact#[by simp,λx hx=> ?_];obtain hx | hx:=aA.mp hx;show(cR.mp h).2.2 x hx a (by simp);rw[ah.mp hx];show aY _
def pY (hs:0<s):x=bE s x+s*hI s x:=by unfold bE hI;rw[ai ∅,ai ∅];have:=Int.emod_add_mul_ediv x s;lia
def tT.size (hs:0<=s)(h:tT s st c):oe s st=dN s st:=by
 have hc:=h.col;have hh:=h.head;have hm:c∈bB s st c:=ay.mpr #[h.at_, ⇑h.own];have qW:(bB s st c).Pairwise (· <= ·):=(h.vI.sublist (List.filter_sublist)).imp λa=> ∅;have cD:bB s st c≠ []:=λe=>by rw[e] at hm;cases hm
 have hl:=lV qW cD;unfold oe dN;rw[hc,hh];have e1:kq s c (df st)=(bB s st c).map (hI s):=rfl;have ye:kq s c (df st)≠ []:=by rw[e1];simpa using cD
 exact kQ.uniq ?_ (jN ye);generalize (bB s st c).getLastD 0=z at hl;have hz:=ay.mp hl.1;have hzc:bE s z=c:= ⇑hz.2;rw[e1];obtain h0 | h0:=Int.lt_or_eq_of_le hs;have key: ∀x∈bB s st c,hI s x=(x - c) / (if s >1 then s else 1):=λx hx=>by
  have gN:=ay.mp hx;have WY:bE s x=c:= ⇑gN.2;have e:=pY (x:=x) h0;rw[WY] at e;have e2:(if s >1 then s else 1)=s:=by split<;>lia
  rw[e2,show x - c=s*hI s x by lia,Int.mul_ediv_cancel_left _ ∅]
 exact#[af.mpr #[z,hl.1,key z hl.1],λy hy=> ?_];let⟨x,hx,rfl⟩:=af.mp hy;rw[key x hx];show Int.ediv_le_ediv (by split<;>lia) (by have:=hl.2 x hx;lia);subst h0;have e3: ∀x:Int,hI 0 x=0:=λx=>rfl;have e4:z=c:=hzc;subst e4;exact#[af.mpr #[z,hl.1,by simp[hI]],λy hy=> ?_];let⟨x,hx,rfl⟩:=af.mp hy;simp[hI]
def Gv (hs:0<=s)(h: ∀st∈sts, ∃c,tT s st c):qy s sts pat=vV s sts pat:=by
 unfold qy vV;rw[Bool.eq_iff_iff,c8,c8];have one : ∀st∈sts,((kq s (cg s st) (df pat)).all λx=>decide (0<=x /\ x<dN s st))=((bB s pat (cg s st)).all λx=>decide (cg s st<=x /\ x<cg s st+oe s st*(if s >1 then s else 1))):=λst f8=>by
  let⟨c,hc⟩:=h st f8;rw[hc.size hs,hc.col];have e1:kq s c (df pat)=(bB s pat c).map (hI s):=rfl;rw[e1,List.all_map];rw[Bool.eq_iff_iff,c8,c8];have each: ∀x∈bB s pat c,(0<=hI s x /\ hI s x<dN s st)↔(c<=x /\ x<c+dN s st*(if s >1 then s else 1)):=λx hx=>by
   have gN:=ay.mp hx;have WY:bE s x=c:= ⇑gN.2;obtain h0 | h0:=Int.lt_or_eq_of_le hs;have e:=pY (x:=x) h0;rw[WY] at e;have e2:(if s >1 then s else 1)=s:=by split<;>lia
   rw[e2];generalize hI s x=y at e ⊢;generalize dN s st=z;rw[e];symm;rintro⟨a,b⟩;exact#[by have:=bV hs a;lia,?_];have:=Int.mul_lt_mul_of_pos_right b h0;rw[be s y];lia;rintro⟨a,b⟩;exact#[?_,?_];show Int.nonneg_of_mul_nonneg_right (a:=s) ∅ h0;rw[be z s] at b;show Int.lt_of_mul_lt_mul_left (a:=s) ∅ hs;subst h0;have:x=c:=WY;subst this;simp[hI];lia
  symm;intro hh x hx;have:=hh x hx;simp![Function.comp,cN] at this ⊢;show(each x hx).mp this;intro hh x hx;have:=hh x hx;simp![Function.comp,cN] at this ⊢;show(each x hx).mpr this
 symm;intro hh st f8;rw[<- one st f8];show hh st f8;intro hh st f8;rw[one st f8];show hh st f8
def mR (d:gY)(M M':Mp):Prop:= ∀b o,b≠d ->M b=some o ->M' b=some o
theorem mR.refl (d:gY)(M:Mp):mR d M M:=λ_ _ _ h=>h
theorem mR.trans {M M1 M2:Mp}(a:mR d M M1)(b:mR d M1 M2):mR d M M2:=λc o n h=>b c o n (a c o n h)
theorem mR.nb (h:NB d M M'):mR d M M':=λb o n e=>(h b n).trans e
theorem mR.sm (h:Sm M M'):mR d M M':=λb o _ e=>h b o e
theorem mR.um (h:mR d M M')(hp:M p=none):mR d M (um M' p o):=λb u n e=>by rw[aJ (cY e hp)];show h b u n e
def ko (s c:Int):Prop:=s=0 \/ (0<=c /\ c<s)
def ko.own (h:ko s c):bE s c=c:=by unfold bE;obtain h | ⟨h1,h2⟩:=h;rw[am h];rw[ai ∅];show cx h1 h2
def ko.on (h:ko s c)(k:Int):bE s (c+k*s)=c:=by have:=h.own;unfold bE at this ⊢;split;rename_i e;subst e;simp;rename_i e;rw[ai e] at this;rw[Int.add_mul_emod_self_right];show this
end WQ
namespace WL
theorem Kp {α:Type}{l:fk α}(h:l.length=1): ∃a,l= [a]:=List.length_eq_one_iff.mp h
def Y9 {l:fk α}(h:l.length=n+1):cO λa r=>l=a::r /\ r.length=n:=by
 cases l with
 | nil=>cases h
 | cons a r=>show#[a,r,rfl, ⇑h]
def Gz {α:Type}{l:fk α}(h:l.length=2): ∃a b,l= [a,b]:=by let⟨a,r,rfl,g⟩:=Y9 h;let⟨b,rfl⟩:=Kp g;show#[a,b,rfl]
end WL
namespace L2
open PySem
structure VG (K:PySem.W.Frag)(mg:Str ->Option Value)(x qual:Str)(ps:List Str)(st:Stmt)(C f:Addr)(fd:FuncData):Prop where
 at_:mg x=some (.ref C)
 mkr:Mk K C f
 cl:AS K C
 fn:EI K "__init__" qual st f fd
 bd:Binds K fd ps []
theorem ke {p pos:Pos}(M:VG X.K X.mg x qual ps st C f fd)(F:dR X.prog X.w X.K X.mg X.base iq k f fd ps sp)(hr:gR (k+1) X.A)(hg:Gl X x)(ha:PA X (e::es) t)(Hn:(x==("__debug__" :Str))=false:=by decide)(he:starEach (e::es) X.env=(false,eval e X.env)::starEach es X.env:=by rfl)(lu:(backTo pos (starEach es X.env)).any (·.1)=false:=by rfl): PE X (.Call (.Name x p) (e::es) [] pos) (Fg C sp [] E0 t):=JV M.mkr F hr hg M.at_ M.bd .nil MA ha Hn he lu
end L2
namespace WL
open PySem L2
section
variable {K:Ug}
theorem xW {H:Hp}{f:Str}{x:W}: ∀ {fs:fk (Str×W)} {ks:fk (Str×V)},KR K H fs ks ->fs.lookup f=Option.some x -> ∃v,ks.lookup f=Option.some v /\ WR K H x v
 | _,_, .nil,h=>by cases h
 | (g,y)::fs,(g',v)::ks, .cons ⟨e,r⟩ t,h=>by
  cases (show g=g' from e);rw[List.lookup_cons] at h ⊢;cases hb:f==g with
  | true=>rw[hb] at h;cases h;show#[v,rfl,r]
  | false=>rw[hb] at h;show xW t h
def kL (f:Str)(v:W):fk (Str×W) ->fk (Str×W)
 | []=> [(f,v)]
 | (g,x)::r=>if g=f then(g,v)::r else(g,x)::kL f v r
theorem BW {H:Hp}{f:Str}{x:W}{v:V}(rx:WR K H x v): ∀ {fs:fk (Str×W)} {ks:fk (Str×V)},KR K H fs ks ->KR K H (kL f x fs) (L2.gU f v ks)
 | _,_, .nil=> .cons #[rfl,rx] .nil
 | (g,y)::fs,(g',u)::ks, .cons ⟨e,r⟩ t=>by cases (show g=g' from e);unfold kL L2.gU;split;show .cons #[rfl,rx] t;show .cons #[rfl,r] (BW rx t)
theorem BX {H:Hp}: ∀ {kvs:fk (Str×W)} {vs:fk (Str×V)},KR K H kvs vs ->kvs.length=vs.length
 | _,_, .nil=>rfl
 | _,_, .cons _ t=>by rw[aP,aP,BX t]
def N_ (K:Ug)(a:WE)(f:Str):WE:=λρ M q=>a ρ M λx M1=>Lr λp C dx fs v=>l_ (x=wr p) (M1 p=some (.ins C dx fs)) (AS K C) (fi K C f) (fs.lookup f=some v) (q v M1)
instance {t:TE}{a:WE}{f:Str} [ia:IE K t a]:IE K (Oy K t f) (N_ K a f) where
 imp:=λρ M σ H q Q o h k=>ia.imp ρ M σ H _ _ o h λx M1 v H1 ⟨p,C,dx,fs,y,ex,hp,hc,hn,hl,h1⟩ t1 m1 r1=>by subst ex;let⟨ks,e,r⟩:=m1 p _ hp;let⟨u,hu,ru⟩:=xW r hl;show#[p,C,dx,ks,u,r1.eq,e,hc,hn,hu,k _ _ _ _ h1 t1 m1 ru]
def FG (K:Ug)(a b:WE)(f:Str):WS:=λD ρ M=>b ρ M λy M1=>a ρ M1 λx M2=>kr λp C dx fs=>l_ (x=wr p) (M2 p=some (.ins C dx fs)) (AS K C) (fi K C f) (fs.length<1000) (D.nx ρ (um M2 p (.ins C dx (kL f y fs))))
instance {t u:TE}{a b:WE}{f:Str} [ia:IE K t a] [ib:IE K u b]:IS K (S1 K t u f) (FG K a b f) where
 imp:=λρ M σ H D' D o h e=>ib.imp ρ M σ H _ _ o h λy M1 v1 H1 h1 t1 m1 r1=>ia.imp ρ M1 σ H1 _ _ (o.mv t1 m1) h1 λx M2 v2 H2 ⟨p,C,dx,fs,ex,hp,hc,hn,hl,h2⟩ t2 m2 r2=>by subst ex;let⟨ks,ek,r⟩:=m2 p _ hp;have ts:=Oo (u:= .ins C dx (gU f v1 ks)) ek;exact#[p,C,dx,ks,r2.eq,ek,hc,hn,by rw[<- BX r];show hl,e.nx ρ _ σ _ h2 ((t1.trans t2).trans ts) (o.mv ((t1.trans t2).trans ts) (m2.put ts #[_,cr,KR.ts ts (BW (r1.ts t2) r)]))]
def LP (C:gY)(p:jc)(a:WA):WE:=λρ M q=>a ρ M λxs M1=> ∀x dx,M1 x=none ->M1 dx=none ->dx≠x ->p (wr x::xs) (um M1 x (.ins C dx [])) λv M2=>v=wn /\ q (wr x) M2
instance {C:gY}{p:jc}{E:XK}{t:TA}{a:WA} [ia:IA K t a]:IE K (Fg C (jJ K p) [] E t) (LP C p a) where
 imp:=λρ M σ H q Q o h k=>ia.imp ρ M σ H _ _ o h λxs M1 vs H1 h1 t1 m1 r1=>λx dx hx Qn cD=>by
  have MX:dy H1 dx (.own x) x=none:=by rw[bS (aW cD)];show hx
  have ts1:bu H1 (dy H1 dx (.own x)):=L2.gk.ts (cB Qn);have Sq:bu (dy H1 dx (.own x)) (dy (dy H1 dx (.own x)) x (.ins C dx [])):=L2.gk.ts (cB MX);exact#[wr x::xs,um M1 x (.ins C dx []),λv M2=>v=wn /\ q (wr x) M2,c7.cons WR.v (by rw[List.append_nil];show r1.ts (ts1.trans Sq)),(m1.new Qn).put Sq #[[],cr, .nil],h1 x dx (m1.fresh hx) (m1.fresh Qn) cD,?_];rintro y M' u H' ⟨rfl,hq⟩ ts m' r';show#[r'.eq,k _ _ _ _ hq (t1.trans ((ts1.trans Sq).trans ts)) m' WR.v]
def G3 (o:fG MO)(k:gY ->gY ->fk (Str×W) ->Prop):Prop:=im λC dx fs=>o=some (.ins C dx fs) /\ k C dx fs
def Zj:G3 (some (.ins C dx fs)) k=k C dx fs:=by apply propext;symm;rintro⟨_,_,_,e,h⟩;cases e;show h;intro h;show#[_,_,_,rfl,h]
def X4:N_ K a f ρ M q=a ρ M λx M1=>iA x λp=>G3 (M1 p) λC dx fs=>iW (AS K C) (iW (fi K C f) (tJ (fs.lookup f) λv=>q v M1)):=by unfold N_ iA G3 iW tJ;congr 1;funext x M1;apply propext;symm;rintro⟨p,C,dx,fs,v,e1,e2,e3,e4,e5,h⟩;show#[p,e1,C,dx,fs,e2,e3,e4,v,e5,h];rintro⟨p,e1,C,dx,fs,e2,e3,e4,v,e5,h⟩;show#[p,C,dx,fs,v,e1,e2,e3,e4,e5,h]
def Wj:FG K a b f D ρ M=b ρ M λy M1=>a ρ M1 λx M2=>iA x λp=>G3 (M2 p) λC dx fs=>iW (AS K C) (iW (fi K C f) (iW (fs.length<1000) (D.nx ρ (um M2 p (.ins C dx (kL f y fs)))))):=by unfold FG iA G3 iW;congr 1;funext y M1;congr 1;funext x M2;apply propext;symm;rintro⟨p,C,dx,fs,e1,e2,e3,e4,e5,h⟩;show#[p,e1,C,dx,fs,e2,e3,e4,e5,h];rintro⟨p,e1,C,dx,fs,e2,e3,e4,e5,h⟩;show#[p,C,dx,fs,e1,e2,e3,e4,e5,h]
theorem nJ:LP C p a ρ M q=a ρ M λxs M1=> ∀x dx,M1 x=none ->M1 dx=none ->dx≠x ->HY p (wr x::xs) (um M1 x (.ins C dx [])) λv M2=>v=wn /\ q (wr x) M2:=rfl
end
end WL
namespace L2
open PySem
def MS (s:Stmt)(j:Nat):Stmt:=match s with
 | .ClassDef _ _ _ b _ _ _ _ _ _ _=>b.getD j (.Pass #[0,0,0,0])
 | _=> .Pass #[0,0,0,0]
end L2
namespace L2
open PySem PySem.Spec PyProof.Rows
def Xu (d:gY)(o:Obj)(kvs:fk (cH×V)):It:=#[λi H=>i<kvs.length /\ H d=some (.nk o (.dK kvs)),λi H x H'=>cO λp kv=>fZ (H p=none) (kvs[i]? =some kv) (H'=dy H p (.tup [kV kv.1,kv.2])) (x= .ref p),λi H=>kvs.length<=i /\ H d=some (.nk o (.dK kvs))]
theorem z8: ∀ {kvs:fk (cH×V)} {vs:fk (cH×fm)} {i:Nat} {q:cH×fm},KV kvs vs ->vs[i]? =some q -> ∃p,d_ (kvs[i]? =some p) (p.1=q.1) (RelV p.2 q.2)
 | _,_,0,_, .cons ⟨e0,r⟩ _,e=>by cases e;show#[_,rfl,e0,r]
 | _,_,i+1,q, .cons _ t,e=>by have e':_=some q:=e;rw[List.getElem?_cons_succ] at e' ⊢;show z8 t e'
def vX (h:ou k u=true):RelV (kV k) u:=by
 rcases eN h with⟨i,t,rfl,rfl⟩ | ⟨x,t,rfl,rfl⟩
 show#[t,rfl];show#[t,rfl]
def zi {P:Program}{w:World}{K:Ug}{tP:fk Expr}{x1}{pos:Pos}{d it:gY}{o:Obj}{kvs:fk (cH×V)}{es:i9 DictEntry}{ep:Nat}(ho:o.data= .dict es ep)(cD:d≠it): tS P w K (.Tuple tP x1 pos) (Xu d o kvs) [it] it (λi h=> ∃ok ov,IsItemIter h it d i kvs.length ep ok ov) where
 mem:=by simp
 obj:=λi h st b hb=>by have e:b=it:= ⇑hb;subst e;let⟨ok,ov,e⟩:=st;show#[_,e,λv z=>nomatch z]
 keep:=λi h h' ⟨ok,ov,e⟩ k=>#[ok,ov,k it (by simp) _ e]
 item:=by
  intro X hP hw hK hc i ak s σ H E I hf st hg;subst hP hw hK;let⟨hi,hH⟩:=hg;let⟨vs,rel,hd⟩:=Hy I ho hH;have hl:=rel.length;let⟨ok,ov,st⟩:=st;rw[hl] at st hi;have fp:=hf it (by simp);let⟨⟨k,x⟩,hx⟩: ∃q,vs[i]? =some q:=#[vs[i],by simp[hi]]
  let⟨p,hp,ep1,rp⟩:=z8 rel hx;exact wpAny_pyNext_items_item st hd hx λkey h' sA ZG ht hsz hk=> ?_;exact#[_,rfl,wpAny_letOwnedTupleGo_items ZG λh2 IY kR=> ?_];have Nu:s.heap.objs.size≠it:=Nat.ne_of_gt (aH st);have rk:RelV (kV p.1) key:=by rw[ep1];show vX sA
  exact#[.ref s.heap.objs.size,dy H s.heap.objs.size (.tup [kV p.1,p.2]),EN.vZ (t':=s.toks) I (λb o hb _ q=>(kR.2 b hb).trans (hk b o hb q)) fp fp #[by rw[dg];change 2<=16777216;decide,[key,x], .cons rk (.cons rp .nil),?_],rfl,#[_,p,I.dM.fresh (ap _),hp,rfl,rfl],#[key,x,by rw[hl];show IY],λb hb=> ?_];show#[_,(kR.2 _ Nu).trans ht,rfl,_,rfl,rfl];have e:b=it:=by simpa using hb
  subst e;rw[bS (aW Nu)];show fp.1
 done:=by intro X hP hw hK hc i ak s σ H E I hf st hg;subst hP hw hK;let⟨hi,hH⟩:=hg;let⟨vs,rel,hd⟩:=Hy I ho hH;have hl:=rel.length;let⟨ok,ov,st⟩:=st;rw[hl] at st hi;let⟨f0,f1,f2,f3,f4,f5⟩:=hf it (by simp);show wpAny_pyNext_items_end (I.ok.hd hc) st hd (by simp;lia) λh' eb=>#[rfl,I.turned (t':=s.toks) (λb o hb e=>eb b o hb e) f0 f1 f3 f4 f5]
 self:=λ_ _ _ _ _ st h=>let ⟨_,_,e⟩:=st;W.kcp_self e h
section
variable {X:Cx}{tP:fk Expr}{x1:_}{zl:Pos}{o:Expr}{td:TE}{j6 gJ:Pos}
def G5 (td:TE):TI:=λσ H R=>td σ H λx H1=>cO λd kvs=>d_ (x= .ref d) (H1 d=some (.dK kvs)) (∀o,R (Xu d o kvs) (dy H1 d (.nk o (.dK kvs))))
def xG (et:tg= .Tuple tP x1 zl)(ho:PE X o td)(yi:attributeBase o "items" X.env (eval o X.env)=eval o X.env:=by rfl)(yg:(j6.endLine==gJ.line)=true:=by rfl):PI X tg (.Call (.Attribute o "items" j6) [] [] gJ) (G5 td):=by
 subst et;intro ak s σ H R I h;exact wpAny_Call_method0_late yi yg (dL (ho ak s σ H _ I h) λv s1 ⟨x,H1,I1,r1,d,kvs,ex,hd,q1⟩=> ?_);subst ex;obtain rfl:v=Value.ref d:=r1;let⟨t1,t2,sys⟩:=vY I1 (.inl #[kvs, .inl hd]);exact#["dict","dict.items",PySem.F.plainAttrs_dict,PySem.F.slot_dict_items,PySem.F.type_dict_items,t1,t2,Calls.callWith_builtin rfl (PySem.evalArgs_none ?_)];let⟨z,Ha,vs,rel,dd⟩:=oP I1.dM (.inl hd);exact call_meetsIn PySem.F.slot_dict_items dd.typeIs PySem.F.entry_dict_items (PySem.F.args_dict_items_1 _) (meets_dict_items (cQ X.prog X.w) d Ha) #[#[vs,dd],?_];let⟨ob,es,ep,g1,g2,g3,g4⟩:=dd;have da:s1.heap.DictAt (cQ X.prog X.w) d vs ep:=#[ob,es,g1,g2,g3,g4]
 have hdl:d<s1.heap.objs.size:=aH g1;exact wpAny_pyIter_items (d:=d) (kvs:=vs) (ep:=ep) (knd:=cQ X.prog X.w) #[_,aQ _ rfl,rfl,rfl] (da.push _) ?_;have I2:=I1.freeze hd g1;exact#[_,[_],_,Xu d ob kvs,_,rfl,I2.kept (t':=s1.toks) λb o e=>aq _ (aq _ e),zi g3 ?_,?_,λb hb=> ?_,q1 ob];change d≠(s1.heap.push _).objs.size;rw[dF];lia;rw[rel.length];show#[_,_,aQ _ rfl];have I3:Inv X ak σ (dy H1 d (.nk ob (.dK kvs))) {s1 with heap:=s1.heap.push {cls:= .type "dict_items",data:= .fields #[.ref d]}}:=I2.kept (t':=s1.toks) λb o e=>aq _ e;have e:=ah.mp hb;subst e;show I3.wu (ap _) (I3.dM.fresh (ap _))
end
def Inv.Yh {σ:St}(I:Inv X ak σ H s)(e:H d=some (.nk o (.dK kvs)))(h0: ∀o u,X.H₀ d≠some (.nk o u)): Inv X ak σ (dy H d (.dK kvs)) s:=by
 have ne: ∀ {b u},H b=some u ->u≠ .nk o (.dK kvs) ->b≠d:=λ{b u} h n z=>by subst z;rw[e] at h;show n (bG h).symm
 have Kf: ∀ {b},H b=none ->b≠d:=λ{b} h z=>by subst z;rw[e] at h;cases h
 exact#[I.ok,I.os,I.bare,#[I.base.keep,I.base.slot,λb u h1 h2 h3=> ?_,I.base.there,λb xs h=> ?_,λb o' u h=> ?_,λb ps h=> ?_],I.loc,I.cell,?_,λx c h=> ?_,λp hp=> ?_,λb u h=> ?_,I.len];have z:=I.base.free b u h1 h2 h3;rw[bS (Kf z)];show z;have z:=I.base.tF b xs h;rw[bS (ne z (λq=>nomatch q))];show z;have z:=I.base.qH b o' u h;have nb:b≠d:=λz=>h0 o' u (z▸h);rw[bS nb];show z;let⟨more,z⟩:=I.base.tG b ps h;show#[more,by rw[bS (ne z (λq=>nomatch q))];show z];rw[bS (Kf I.free)];show I.free;rw[bS (Kf (I.jC x c h))];show I.jC x c h;let⟨a1,a2,a3⟩:=I.pin p hp;show#[a1,by rw[bS (Kf a2)];show a2,a3];have ow: ∀c,H c=some (.own b) ->dy H d (.dK kvs) c=some (.own b):=λc r=>by rw[bS (ne r (λq=>nomatch q))];show r
 have tu: ∀c xs,H c=some (.tup xs) ->dy H d (.dK kvs) c=some (.tup xs):=λc xs r=>by rw[bS (ne r (λq=>nomatch q))];show r
 by_cases hb:b=d;subst hb;rw[cr] at h;cases h;have z:=(I.dM b _ e).rF (H':=dy H b (.dK kvs)) (h':=s.heap) (λ_ _ _ h=>h) ow tu;show z.2;rw[bS hb] at h;show(I.dM b u h).rF (λ_ _ _ h=>h) ow tu
def Mi (t:TS):TS:=λD σ H=>cO λd kvs=>H d=some (.dK kvs) /\ t {D with nx:=λσ' H'=>cO λo us=>H' d=some (.nk o (.dK us)) /\ D.nx σ' (dy H' d (.dK us))} σ H
def BC {st:Stmt}(h:PS X st t):PS X st (Mi t):=by
 rintro ak s σ H D I ⟨d,kvs,hd,ht⟩;have h0: ∀o u,X.H₀ d≠some (.nk o u):=λo u e=>by have:=I.base.qH d o u e;rw[hd] at this;cases this
 exact dL (h ak s σ H _ I ht) λfl s' hs=> ?_;cases fl with
 | next=>let⟨σ',H',I',o,us,e,q⟩:=hs;show#[σ',_,I'.Yh e h0,q]
 | ret v=>show hs
 | brk=>show hs
 | cont=>show hs
end L2
namespace WL
open PySem L2
variable {K:Ug}
def Ac (a:WE):WI:=λρ M q=>a ρ M λx M1=>cO λd kvs=>d_ (x=wr d) (M1 d=some (.dK kvs)) (∀o ks,q (kvs.map λkv=> .tup [gq kv.1,kv.2]) (λM'=>M' d=some (.fz o ks kvs)) (um M1 d (.fz o ks kvs)))
theorem z_: ∀ {H:Hp} {kvs:fk (cH×W)} {vs:fk (cH×V)} {i:Nat} {q:cH×V},KR K H kvs vs ->vs[i]? =some q -> ∃p,d_ (kvs[i]? =some p) (p.1=q.1) (WR K H p.2 q.2)
 | _,_,_,0,_, .cons ⟨e0,r⟩ _,e=>by cases e;show#[_,rfl,e0,r]
 | _,_,_,i+1,q, .cons _ t,e=>by have e':_=some q:=e;rw[List.getElem?_cons_succ] at e' ⊢;show z_ t e'
def Ag:Em K H1 (Xu d o ks) (kvs.map λkv=> .tup [gq kv.1,kv.2]) (λM'=>M' d=some (.fz o ks kvs)):=by intro i M H t m hM;let⟨e1,r1⟩:=m d _ hM;have hl:=sk r1;rw[aa];exact#[λh=>#[∅,e1],λh=>#[∅,e1],λv H' hi ⟨p,kv,hp,hk,e2,e3⟩=> ?_];subst e2 e3;let⟨p2,ZD,e4,rp⟩:=z_ r1 hk;have ts:bu H (dy H p (.tup [kV kv.1,kv.2])):=L2.gk.ts (cB hp);exact#[ts,m.new hp, .tup [gq p2.1,p2.2],by rw[az,ZD];rfl,WR.MJ (jI.of cr) (c7.cons ?_ (c7.cons (rp.ts ts) c7.nil))];rw[e4];cases kv.1<;>show WR.v
instance {t:TE}{a:WE} [ia:IE K t a]:II K (G5 t) (Ac a) where
 imp:=λρ M σ H q R o h k=>ia.imp ρ M σ H _ _ o h λx M1 v H1 ⟨d,kvs,ex,hd,h1⟩ t1 m1 r1=>by subst ex;let⟨ks,e,r⟩:=m1 d _ hd;exact#[d,ks,r1.eq,e,λob=>k _ _ _ _ _ (h1 ob ks) (t1.trans (nK e)) (m1.put (nK e) #[cr,KR.ts (nK e) r]) Ag]
def Ue:Ac a ρ M q=a ρ M λx M1=>iA x λd=>kH (M1 d) λkvs=> ∀o ks,q (kvs.map λkv=> .tup [gq kv.1,kv.2]) (λM'=>M' d=some (.fz o ks kvs)) (um M1 d (.fz o ks kvs)):=by unfold Ac iA kH;congr 1;funext x M1;apply propext;symm;rintro⟨d,kvs,e1,e2,h⟩;show#[d,e1,kvs,e2,h];rintro⟨d,e1,kvs,e2,h⟩;show#[d,kvs,e1,e2,h]
def OL (t:WS):WS:=λD ρ M=>cO λd kvs=>M d=some (.dK kvs) /\ t {D with nx:=λρ' M'=>im λo ks us=>M' d=some (.fz o ks us) /\ D.nx ρ' (um M' d (.dK us))} ρ M
theorem Op (h:H a=some (.nk o (.dK xs))):bu H (dy H a u):=AY h (λ_ z=>nomatch z) λ_ _ z=>nomatch z
instance {t:TS}{a:WS} [ia:IS K t a]:IS K (Mi t) (OL a) where
 imp:=λρ M σ H D' D o ⟨d,kvs,hd,h⟩ e=>by let⟨ks,ek,r⟩:=o.hp d _ hd;exact#[d,ks,ek,ia.imp ρ M σ H _ _ o h #[?_,e.rt,e.bk,e.ct]];rintro ρ' M' σ' H' ⟨ob,us,ws,hM,hq⟩ ts ok;let⟨e1,r1⟩:=ok.hp d _ hM;have t2:=Op (u:= .dK us) e1;show#[ob,us,e1,e.nx ρ' _ σ' _ hq (ts.trans t2) (ok.mv t2 (ok.hp.put t2 #[us,cr,KR.ts t2 r1]))]
end WL
set_option maxHeartbeats 4000000
namespace DC
open PySem PySem.Spec PyProof.Rows
def Ko:typeLookup (.type "tuple") "keys" =pure none:=by rw[typeLookup_type,builtinLookup_eq_fast];kernel_rfl
theorem sG:entryFor table "dict.update.loop" =some Builtin.«dict.update.loop» :=entryFor_of_tree (by kernel_rfl)
def kA:plainId "dict.update.loop" =true:=by decide+kernel
def Ke (hx:s.heap.get? a=some #[.type "tuple",none, .seq xs k,sl])(hA:A.handled=none)(h: ∀h' tk,(∀b o,s.heap.get? b=some o ->h'.get? b=some o) ->Q none {s with heap:=h',toks:=tk}):wpAny (model prog w) A (getAttr? (.ref a) "keys") Q E s:=by
 let⟨hp,g,d,tk,os⟩:=s;have hT: ∀Q7,(#[hp,g,d,Q7,os]:fo).TypeIs (.ref a) "tuple" :=λ_=>#[_,hx,rfl]
 have f1:=sub_AttributeError;have f3:=F.slot_tuple_getattribute.lookup;have f4:=F.slot_tuple_getattribute.bind (.ref a);have f5:=am_tuple_getattr_none;unfold getAttr? getAttrBy? getAttrBy;repeat (any_goals (first | assumption | show hT _ | ((with_reducible change wpAny _ _ (call (Value.builtin "tuple.__getattribute__") _ _) _ _ _);exact call_meets F.slot_tuple_getattribute (hT _) am_entry_tuple_getattribute (F.args_tuple_getattribute_2 _ _) (meets_getattribute_miss_tuple a xs k sl "keys" _ Ko (by decide+kernel) (by size_fits)) #[hx,hA,λh' Q7 e gN=> ?_]) | wp_step))
 let⟨t',u',he⟩:=gN.there;change wpAny _ _ (getattributeRaised _ _ _ _ _ _ _) _ _ _;unfold getattributeRaised;repeat (any_goals (first | assumption | wp_step))
 show h h' _ gN.keeps
section
variable {prog:Program}{w:World}{κ:Type} [DecidableEq κ]{knd:PySem.KeyKind prog w κ}{A:Around}{E:fm ->fo ->Prop}
structure NW (knd:PySem.KeyKind prog w κ)(h:Heap)(its:Array Value)(ps:List (κ×Value)):Prop where
 len:its.size=ps.length
 at_: ∀ (i:Nat) (p:κ×Value),ps[i]? =some p -> ∃a key,its[i]? =some (.ref a) /\ knd.is p.1 key=true /\ h.IsTuple a (List.toArray [key,p.2])
theorem NW.keeps (P:NW knd h its ps)(hk: ∀b o,b≠x ->h.get? b=some o ->h'.get? b=some o)(hx: ∀o its n,h.get? x=some o ->o.data≠ .seq its n):NW knd h' its ps:=#[P.len,λi p e=>by let⟨a,key,h1,h2,o,ho,hc,n,r⟩:=P.at_ i p e;show#[a,key,h1,h2,o,hk a o (λz=>hx o _ n (z▸ho) r) ho,hc,n,r]]
def putAll (kvs:fk (κ×fm))(ps:fk (κ×fm)):fk (κ×fm):=ps.foldl (λm p=>stored m p.1 p.2) kvs
def zr (kvs:fk (κ×fm))(k:κ)(v:fm):(stored kvs k v).length<=kvs.length+1:=by unfold stored;split;simp;simp
def loop (hA:A.in1.handled=none)(hn:ps.length<=1000000): ∀ (k i:Nat) {s:fo} (it d:gY) (tk:Tok) (kvs:fk (κ×fm)),ps.length - i=k ->i<=ps.length ->kvs.length<=i ->s.heap.IsTupleIter it t i ->s.heap.IsTuple t its ->NW knd s.heap its ps ->s.heap.DictOf knd d kvs ->d≠it ->d≠t ->t≠it ->(∀h' Q7,h'.DictOf knd d (putAll kvs (ps.drop i)) ->(∀b o,b≠d ->b≠it ->s.heap.get? b=some o ->h'.get? b=some o) ->R (.ok (.ret .none)) {s with heap:=h',toks:=Q7}) ->codeAny (model prog w) A (.builtin "dict.update.loop" #[[.ref d, .ref it, .int i tk, .none],[]]) R s:=by
 intro k;induction k with
 | zero=>
  intro i s it d tk kvs hk hi hl tN ht hP hd n1 n2 n3 hR;have e:i=ps.length:=by omega
  exact codeAny_builtin sG ?_;rw[Around.under_plainId kA _];change wpAny _ A.in1 (pyNext (.ref it) >>=_) _ _ s;exact ag (wpAny_pyNext_tuple_end hA tN ht (by rw[Array.getElem?_eq_none];rw[hP.len];omega) λh' hx=> ?_);change wpAny _ A.in1 (Builtin.Dict.addKeywords d [] >>=_) _ _ _;exact ag (aC (aC ?_));have e2:ps.drop i= []:=List.drop_eq_nil_of_le (by omega);exact hR h' s.toks ?_ λb o _ n4 eb=>hx b o n4 eb;rw[e2];show hd.extBut hx n1
 | succ k ih=>
  intro i s it d tk kvs hk hi hl tN ht hP hd n1 n2 n3 hR;have fU:i<ps.length:=by omega
  let⟨p,hp⟩: ∃p,ps[i]? =some p:=#[ps[i],ae fU]
  let⟨a,key,h1,h2,h3⟩:=hP.at_ i p hp;exact codeAny_builtin sG ?_;rw[Around.under_plainId kA _];change wpAny _ A.in1 (pyNext (.ref it) >>=_) _ _ s;exact ag (wpAny_pyNext_tuple_item tN ht h1 λh' Z1 gO=> ?_);have nc: ∀o its n,s.heap.get? it=some o ->o.data≠ .seq its n:=λo its n eo z=>by let⟨o2,e2,_,c2⟩:=tN;rw[eo] at e2;cases e2;rw[z] at c2;cases c2
  have Ny:NW knd h' its ps:=hP.keeps (λb o n4 e4=>gO.extBut b o n4 e4) nc;have mq:h'.DictOf knd d kvs:=hd.extBut gO.extBut n1;have o_:h'.IsTuple t its:=by let⟨o,ho,r⟩:=ht;show#[o,gO.extBut t o n3 ho,r]
  let⟨a',Uc,Qx,Jb,h3'⟩:=Ny.at_ i p hp;let⟨oa,hoa,hca,na,hda⟩:=h3';have ea:a'=a:=by rw[h1] at Qx;cases Qx;rfl
  subst ea;have hT:(#[h',s.gens,s.drawn,s.toks,s.os]:fo).TypeIs (.ref a') "tuple" :=#[oa,hoa,hca]
  change wpAny _ A.in1 (holding [.ref a'] _ >>=_) _ _ _;exact ag (d6 (ag (wpAny_tryCatch ?_)));unfold Builtin.Dict.pairItems;exact ag (wpAny_typeOf hT ?_);rw[am (by simp)];exact ag (wpAny_seqItems hoa hda ?_);exact aC ?_;change wpAny _ A.in1 (holding [Uc,p.2] (dictSet d Uc p.2)) _ _ _;exact d6 (wpAny_dictSet_pairs Jb mq (λh2 Ry kR=> ?_) (by rw[dg];omega));exact aC #[plainId_quiet kA _,?_];have ei:(rawInt ((i:Int)+1))=Value.int ((i+1:Nat):Int) 0:=by simp[rawInt]
  rw[ei];have DM:NW knd h2 its ps:=Ny.keeps (x:=d) (λb o n4 e4=>kR.extBut b o n4 e4) (λo its n eo z=>by let⟨o2,_,_,e2,_,c2,_⟩:=mq;rw[eo] at e2;cases e2;rw[z] at c2;cases c2);exact ih (i+1) it d 0 (stored kvs p.1 p.2) (by omega) fU (by have:=zr kvs p.1 p.2;omega) ?_ ?_ DM Ry n1 n2 n3 λh3 tk3 Qp hk3=> ?_;let⟨o,ho,r⟩:=Z1;show#[o,kR.extBut it o (aW n1) ho,r];let⟨o,ho,r⟩:=o_;show#[o,kR.extBut t o (aW n2) ho,r];exact hR h3 tk3 ?_ λb o n4 n5 eb=>hk3 b o n4 n5 (kR.extBut b o n4 (gO.extBut b o n5 eb));have:ps.drop i=p::ps.drop (i+1):=by have:=dE fU;rw[this];rw[ae fU] at hp;cases hp;rfl
  rw[this];show Qp
def jE (hA:A.in1.handled=none)(hn:ps.length<=1000000)(hx:s.heap.get? t=some #[.type "tuple",none, .seq its n,sl])(hP:NW knd s.heap its ps)(h: ∀h' tk,h'.DictOf knd s.heap.objs.size (putAll [] ps) ->(∀b o,s.heap.get? b=some o ->h'.get? b=some o) ->Q (.ref s.heap.objs.size) {s with heap:=h',toks:=tk}): wpAny (model prog w) A (call (.type "dict") [.ref t]) Q E s:=by
 exact callType_codes (Q₁:=λobj s₁=>obj= .ref s.heap.objs.size /\ s₁= {s with heap:=s.heap.push {cls:= .type "dict",data:= .dict #[]}}) PySem.F.kt_called_dict (PySem.F.kt_typeCall_dict_1 _) PySem.F.entry_dict_init (PySem.kt_code_dict_new _ #[rfl,rfl]) ?_;rintro obj s₁ ⟨rfl,rfl⟩;have KU:(s.heap.push {cls:= .type "dict",data:= .dict #[]}).DictOf knd s.heap.objs.size []:=Heap.DictOf.new s.heap;have Na:(s.heap.push {cls:= .type "dict",data:= .dict #[]}).get? t=some #[.type "tuple",none, .seq its n,sl]:=aq _ hx;have fU:t<s.heap.objs.size:=aH hx;exact#[KU.typeIs,PySem.F.args_dict_init_2 _ _,?_];unfold Builtin.«dict.__init__»;exact ag ?_;unfold Builtin.Dict.selfAndRest;exact ag (wpAny_notOrdered_dict KU.typeIs ?_);change wpAny _ _ (pure (s.heap.objs.size,[Value.ref t])) _ _ _;exact aC ?_;change wpAny _ _ (Builtin.Dict.updateFrom "dict.__init__" s.heap.objs.size (.ref t) [] .none) _ _ _;unfold Builtin.Dict.updateFrom;exact ag (wpAny_typeOf (T:= "tuple") #[_,Na,rfl] ?_);rw[am ⋯];exact ag (Ke Na hA λh1 Wb wZ=> ?_);rw[am (show(none:fG fm).isNone=true from rfl)];exact ag (wpAny_rule (ag ?_));have Ut:h1.IsTuple t its:=#[_,wZ t _ Na,rfl,n,rfl]
 exact wpAny_pyIter_tuple Ut ?_;exact aC #[plainId_quiet kA _,?_];have Nv:h1.DictOf knd s.heap.objs.size []:=by let⟨o,es,ep,ho,r⟩:=KU;show#[o,es,ep,wZ _ _ ho,r]
 have W0:s.heap.objs.size<h1.objs.size:=by let⟨o,es,ep,ho,r⟩:=Nv;show aH ho
 have Ja:NW knd (h1.push {cls:= .type "tuple_iterator",data:= .fields (List.toArray [.ref t, .int 0 0])}) its ps:=#[hP.len,λi p e=>by let⟨a,key,e1,e2,o,ho,r⟩:=hP.at_ i p e;show#[a,key,e1,e2,o,aq _ (wZ a o (aq _ ho)),r]]
 have ei:(rawInt 0)=Value.int ((0:Nat):Int) 0:=rfl;rw[ei];have yc:t≠h1.objs.size:=a4 (aH (wZ t _ Na));have ht4:(h1.push {cls:= .type "tuple_iterator",data:= .fields (List.toArray [.ref t, .int 0 0])}).IsTuple t its:=let ⟨o,ho,r⟩:=Ut;#[o,aq _ ho,r]
 have tN:(h1.push {cls:= .type "tuple_iterator",data:= .fields (List.toArray [.ref t, .int 0 0])}).IsTupleIter h1.objs.size t 0:=#[_,aQ _ rfl,rfl,rfl]
 have Ry:=Nv.push {cls:= .type "tuple_iterator",data:= .fields (List.toArray [.ref t, .int 0 0])};exact loop (A:=A.in1) (knd:=knd) (ps:=ps) (its:=its) (t:=t) (s:= {s with heap:=h1.push {cls:= .type "tuple_iterator",data:= .fields (List.toArray [.ref t, .int 0 0])},toks:=Wb}) hA hn ps.length 0 h1.objs.size s.heap.objs.size 0 [] (by omega) (du _) (ap _) tN ht4 Ja Ry (a4 W0) (Nat.ne_of_gt fU) yc λh' Q7 mq w5=> ?_;exact#[rfl,h h' Q7 ?_ λb o eb=>w5 b o (a4 (aH eb)) (a4 (aH (wZ b o (aq _ eb)))) (aq _ (wZ b o (aq _ eb)))];simpa using mq
end
end DC
namespace L2
open PySem PySem.Spec PyProof.Rows
section
variable {X:Cx}{ak:fk (gY×Obj)}{σ:St}{H H':Hp}{s:fo}{h':Heap}
def Inv.more (I:Inv X ak σ H s)(k: ∀b o,s.heap.get? b=some o ->h'.get? b=some o)(hx: ∀b o,H b=some o ->H' b=some o)(hn: ∀b,b<s.heap.objs.size ->H b=none ->H' b=none)(dM:mS X.prog X.w H' h'): Inv X ak σ H' {s with heap:=h',toks:=t'}:=by exact I.call (ch:= []) (g':=s.gens) (d':=s.drawn) #[λb o q n _ _=>k b o q,λb o q n _ _=>#[o.slots,k b o q],λb o q n _=>hn b (aH q) n,λb o q _=>#[o,k b o q],λb ys q=>hx b _ q,λb o u q=>hx b _ q,λb ps q=>#[#[],by rw[hx b _ q];simp]] dM I.bare λb hb=>nomatch hb
def FR (K:Ug):fk V ->Hp ->VK ->Prop:=λxs H Q=> ∃ (a:gY) (vs:fk V) (ps:fk (cH×V)),xs= [.ref a] /\ jI K H a vs /\ ps.length<=1000000 /\ vs.length=ps.length /\ (∀ (i:Nat) p,ps[i]? =some p -> ∃b,vs[i]? =some (.ref b) /\ jI K H b [kV p.1,p.2]) /\ ∀q,H q=none ->Q (.ref q) (dy H q (.dK (ps.foldl (λm p=>gQ m p.1 p.2) [])))
theorem FX {K:Ug}{h:Heap}(tup: ∀ {b:gY} {xs:fk V},jI K H b xs -> ∃its:fk fm,cV xs its /\ h.IsTuple b its.toArray): ∀ {ps:fk (cH×V)} {vs:fk V} {its:fk fm},vs.length=ps.length ->(∀ (i:Nat) p,ps[i]? =some p -> ∃b,vs[i]? =some (.ref b) /\ jI K H b [kV p.1,p.2]) ->cV vs its ->∃qs:fk (cH×fm),KV ps qs /\ ∀ (i:Nat) q,qs[i]? =some q -> ∃a key,its[i]? =some (.ref a) /\ (cQ X.prog X.w).is q.1 key=true /\ h.IsTuple a (List.toArray [key,q.2])
 | [],vs,its,hl,_,r=>by exact#[[], .nil,λi q e=> ?_];simp at e
 | p::ps,[],its,hl,_,r=>by simp at hl
 | p :: ps,v::vs,its,hl,ha,r=>by
  cases r with
  | @cons _ u _ us r1 r2=>
   let⟨qs,hq,ZA⟩:=FX tup (ps:=ps) (vs:=vs) (its:=us) ⇑hl (λi p e=> ⇑(ha (i+1) p ⇑e)) r2;let⟨b,hb,hs⟩:=ha 0 p rfl;have uK:v= .ref b:= ⇑hb;subst uK;have eu:u=Value.ref b:=r1;subst eu;let⟨js,rj,tj⟩:=tup hs;cases rj with
   | cons k1 k2=>
    cases k2 with
    | cons k3 k4=>
     cases k4;rename_i key val;exact#[(p.1,val)::qs, .cons #[rfl,k3] hq,λi q e=> ?_];cases i with
     | zero=>simp at e;subst e;show#[b,key,rfl,ox k1,tj]
     | succ i=>simpa using ZA i q ⇑e
theorem uD: ∀ {ps:fk (cH×V)} {qs:fk (cH×fm)} {m:fk (cH×V)} {n:fk (cH×fm)},KV ps qs ->KV m n ->KV (ps.foldl (λm p=>gQ m p.1 p.2) m) (DC.putAll n qs)
 | _,_,_,_, .nil,r=>r
 | _,_,_,_, .cons ⟨e,rv⟩ t,r=>by rw[List.foldl_cons];exact uD (n:=stored _ _ _) t ?_;rw[e];show r.put _ rv
theorem uC: ∀ (ps:fk (cH×V)) (m:fk (cH×V)),(ps.foldl (λm p=>gQ m p.1 p.2) m).length<=m.length+ps.length
 | [],m=>by simp
 | p::ps,m=>by rw[List.foldl_cons,aP];have:=uC ps (gQ m p.1 p.2);have:=iN m p.1 p.2;omega
def jE (hc:X.calm=true):gF X (.type "dict") (FR X.K):=by intro ak s σ H xs us Q I r h;let⟨a,vs,ps,rfl,hq,hn,hl,pS,q⟩:=h;let⟨u,rfl,ru⟩:=vals1 r;cases ru;let⟨its,rv,⟨o,ho,hco,n,hd,hdd⟩,hz⟩:=I.Om hq;let⟨qs,hk,ZA⟩:=FX (X:=X) (h:=s.heap) (λ{b xs} hs=>by let⟨js,rj,tj,_⟩:=I.tuple hs;show#[js,rj,tj]) hl pS rv;have dj:qs.length=ps.length:=hk.length.symm;let⟨c,Xp,dat,sl⟩:=o;simp only at hco hd hdd;subst hco hd hdd;exact DC.jE (knd:=cQ X.prog X.w) (ps:=qs) (show X.A.in1.handled=none from I.ok.hd hc) (by rw[dj];show hn) ho #[by have:=rv.length;simp;omega,λi p e=> ⇑(ZA i p e)] λh' tk mq Hh=> ?_;exact#[.ref s.heap.objs.size,_,I.laid (t':=tk) Hh (ap _) (sH ?_ (beq_eq_false_iff_ne.mpr (aW (a4 I.big))) (uD hk .nil) mq),rfl,q _ (I.dM.fresh (ap _))];have:=uC ps [];rw[dg];simp at this;omega
def FP:fk V ->Hp ->VK ->Prop:=λxs H Q=> ∃d kvs,xs= [.ref d] /\ Rd H d (.dK kvs) /\ ∀l,H l=none ->Q (.ref l) (dy H l (.lst (kvs.map λkv=>kV kv.1)))
theorem ua: ∀ {kvs:fk (cH×V)} {vs:fk (cH×fm)} {f_:fk fm},KV kvs vs ->f_.length=vs.length ->(∀ (j:Nat) v,f_[j]? =some v -> ∃k x,vs[j]? =some (k,x) /\ ou k v=true) ->cV (kvs.map λkv=>kV kv.1) f_
 | _,_,[], .nil,_,_=> .nil
 | _,_,_::_, .nil,h,_=>by simp at h
 | _,_,[], .cons _ _,h,_=>by simp at h
 | _,_,u::us, .cons (a:=p) (b:=q) ⟨e,_⟩ t,h,hk=>by exact .cons ?_ (ua t ⇑h λj v ev=> ⇑(hk (j+1) v ⇑ev));let⟨k,x,e1,e2⟩:=hk 0 u rfl;simp at e1;change RelV (kV p.1) u;rw[e,e1];show vX e2
def jD (hc:X.calm=true):gF X (.type "list") FP:=by intro ak s σ H xs us Q I r h;let⟨d,kvs,rfl,hd,q⟩:=h;let⟨u,rfl,ru⟩:=vals1 r;cases ru;let⟨z,Ha,vs,rel,dd⟩:=oP I.dM hd;let⟨ep,kY⟩:=dd.dictAt;exact W.kdl_call (W.kdl_dict (knd:=cQ X.prog X.w) (kvs:=vs) (ep:=ep) Ha) (I.ok.hd hc) kY (by rw[<- rel.length];show z) λh' tk f_ c Hh hg items=> ?_;have hv:cV (kvs.map λkv=>kV kv.1) f_.toList:=ua rel (by rw[c_];show items.1) λj v e=>items.2 j v (by rw[<- Array.getElem?_toList];show e);exact#[.ref _,_,I.laid (t':=tk) Hh (ap _) (show fq X.prog X.w _ h' _ (.lst _) from#[by rw[aa];show z,f_.toList,c,hv, ⇑hg]),rfl,q _ (I.dM.fresh (ap _))]
end
section
variable {X:Cx}{o:Expr}{td:TE}{j6 gJ p1 F1:Pos}
theorem t_: ∀as:fk gY,cV (as.map V.ref) (as.map Value.ref)
 | []=> .nil
 | a::r=> .cons rfl (t_ r)
def A9 (td:TE):TE:=λσ H Q=>td σ H λx H1=>cO λd kvs=>d_ (x= .ref d) (Rd H1 d (.dK kvs)) (∀ (l:gY) (vs:fk V) (H2:Hp),H1 l=none ->gk H1 H2 ->H2 l=some (.lst vs) ->vs.length=kvs.length ->(∀ (i:Nat) kv,kvs[i]? =some kv -> ∃a,vs[i]? =some (.ref a) /\ H2 a=some (.tup [kV kv.1,kv.2])) ->(∀b u,H2 b=some u ->H1 b=some u \/ H1 b=none /\ (b=l \/ ∃xs,u= .tup xs)) ->Q (.ref l) H2)
def uv (UR:Gl X "list")(Nl:X.mg "list" =none)(hc:X.calm=true)(ho:PE X o td)(yi:attributeBase o "items" X.env (eval o X.env)=eval o X.env:=by rfl)(yg:(j6.endLine==gJ.line)=true:=by rfl) (ht:starEach [.Call (.Attribute o "items" j6) [] [] gJ] X.env= [(false,eval (.Call (.Attribute o "items" j6) [] [] gJ) X.env)]:=by rfl): PE X (.Call (.Name "list" p1) [.Call (.Attribute o "items" j6) [] [] gJ] [] F1) (A9 td):=by
 intro ak s σ H Q I h;exact Call_ (g_ I UR Nl boot_list (bM ?_ ht rfl));rw[ht];exact eg (wpAny_Call_method0_late yi yg (dL (ho ak s σ H _ I h) λv s1 ⟨x,H1,I1,r1,d,kvs,ex,hd,q1⟩=> ?_));subst ex;obtain rfl:v=Value.ref d:=r1;let⟨t1,t2,sys⟩:=vY I1 (.inl #[kvs,hd]);exact#["dict","dict.items",PySem.F.plainAttrs_dict,PySem.F.slot_dict_items,PySem.F.type_dict_items,t1,t2,Calls.callWith_builtin rfl (PySem.evalArgs_none ?_)];let⟨z,Ha,vs,rel,dd⟩:=oP I1.dM hd;exact call_meetsIn PySem.F.slot_dict_items dd.typeIs PySem.F.entry_dict_items (PySem.F.args_dict_items_1 _) (meets_dict_items (cQ X.prog X.w) d Ha) #[#[vs,dd],?_];exact Calls.spliced_nil ?_;let⟨ep,kY⟩:=dd.dictAt;exact W.kdx_call (knd:=cQ X.prog X.w) (kvs:=vs) (ep:=ep) (I1.ok.hd hc) #[_,aQ _ rfl,rfl,rfl] (kY.push _) (by rw[<- rel.length];show z) λh' tk f_ c as hk hg hl hG DL=> ?_;have hsz:(s1.heap.push {cls:= .type "dict_items",data:= .fields #[.ref d]}).objs.size=s1.heap.objs.size+1:=dF ..;generalize hL:(s1.heap.push {cls:= .type "dict_items",data:= .fields #[.ref d]}).objs.size=L at hg hG ⊢;have Xf:s1.heap.objs.size<L:=by omega
 have W7:as.length=kvs.length:=by rw[hl,rel.length]
 have UD:as.Nodup:=hG.rise.imp λh=>a4 h;let H2:Hp:=λb=>if b=L then some (.lst (as.map V.ref)) else match kvs[as.idxOf b]? with | some kv=>some (.tup [kV kv.1,kv.2]) | none=>H1 b
 have eL:H2 L=some (.lst (as.map V.ref)):=am rfl;have eA: ∀ (j:Nat) a,as[j]? =some a -> ∃kv,kvs[j]? =some kv /\ H2 a=some (.tup [kV kv.1,kv.2]):=λj a e=>by
  have hj:j<as.length:=(aj.mp e).1;let⟨kv,Ap⟩: ∃kv,kvs[j]? =some kv:=#[kvs[j],ae (by omega)]
  have ej:as.idxOf a=j:=by have:=(aj.mp e).2;rw[<- this];show UD.idxOf_getElem j hj
  exact#[kv,Ap,?_];have na:a≠L:=Nat.ne_of_gt (hG.above a (ar e));change(if a=L then _ else _)=_;rw[ai na,ej,Ap]
 have eO: ∀b,b≠L ->b∉as ->H2 b=H1 b:=λb n1 n2=>by change(if b=L then _ else _)=_;rw[ai n1,List.idxOf_eq_length n2,List.getElem?_eq_none (by omega)]
 have out: ∀b,b<s1.heap.objs.size ->b≠L /\ b∉as:=λb hb=>#[by omega,λz=>absurd (Nat.lt_trans hb (Nat.lt_trans Xf (hG.above b z))) (bT _)]
 have same:gk H1 H2:=λb u e=>by let⟨n1,n2⟩:=out b (I1.dM.lt e);rw[eO b n1 n2];show e
 have keep: ∀b ob,s1.heap.get? b=some ob ->h'.get? b=some ob:=λb ob e=>hk b ob (aq _ e);have dM:mS X.prog X.w H2 h':=λb u e=>by by_cases n1:b=L;subst n1;rw[eL] at e;cases e;show#[by rw[aa,W7];show z,as.map Value.ref,c,t_ as,by rw[<- DL];simpa using hg];by_cases n2:b∈as;let⟨j,hj⟩:=cA.mp n2;let⟨kv,Ap,e2⟩:=eA j b hj;rw[e2] at e;cases e;let⟨key,k,x,hx,sA,ht⟩:=hG.pairs j b hj;let⟨p,hp,ep1,rp⟩:=z8 rel hx;rw[Ap] at hp;cases hp;exact#[by rw[dg];change 2<=16777216;decide,[key,x], .cons (by rw[ep1];show vX sA) (.cons rp .nil),_,ht,rfl,_,rfl,rfl];rw[eO b n1 n2] at e;show(I1.dM b u e).rF (λc v _ r=>keep c v r) (λc r=>same c _ r) λc ys r=>same c _ r
 exact#[.ref L,H2,I1.more (t':=tk) keep (λb u e=>same b u e) (λb hb e=>by let⟨n1,n2⟩:=out b hb;rw[eO b n1 n2];show e) dM,rfl,q1 L (as.map V.ref) H2 (I1.dM.fresh (Nat.le_of_lt Xf)) same eL (by rw[aa,W7]) (λi kv e=> ?_) λb u e=> ?_];let⟨a,ha⟩: ∃a,as[i]? =some a:=#[as[i]'(by have:=(aj.mp e).1;omega),ae _]
 let⟨kv',h1,h2⟩:=eA i a ha;rw[e] at h1;cases h1;show#[a,by rw[az,ha];rfl,h2];by_cases n1:b=L;show .inr #[by rw[n1];show I1.dM.fresh (Nat.le_of_lt Xf), .inl n1];by_cases n2:b∈as;let⟨j,hj⟩:=cA.mp n2;let⟨kv,Ap,e2⟩:=eA j b hj;rw[e2] at e;cases e;show .inr #[I1.dM.fresh (Nat.le_of_lt (Nat.lt_trans Xf (hG.above b n2))), .inr #[_,rfl]];rw[eO b n1 n2] at e;show .inl e
def yw (i:Int)(n:Nat):fk V:=(List.range n).map λ(k:Nat)=> .int (i - (k:Int))
def Fh (ta:TA):TE:=λσ H Q=>ta σ H λvs H1=>cO λ(i j:Int)=>fZ (vs= [.int i, .int j, .int (-1)]) (AM i j (-1)) ((i - j).toNat<=16000000) (∀l,H1 l=none ->Q (.ref l) (dy H1 l (.lst (yw i (i - j).toNat))))
def CT (h:ItemsOf (λj v=> ∃t,v=Value.int (i+(j:Int)*(-1)) t) f_ n):cV (yw i n) f_.toList:=by
 let⟨hl,hv⟩:=h;have Np:f_.toList.length=n:= ⇑hl;have key: ∀ (k:Nat) (l:fk fm) (m:Nat),l.length=m ->(∀j v,l[j]? =some v -> ∃t,v=Value.int (i - ((k+j:Nat):Int)) t) ->cV ((List.range' k m).map λ(k:Nat)=>V.int (i - (k:Int))) l:=by
  intro k l;induction l generalizing k with
  | nil=>intro m hm _;subst hm;show .nil
  | cons v r ih=>intro m hm hj;subst hm;rw[aP,List.range'_succ,aI];exact .cons ?_ (ih (k+1) r.length rfl λj v' e=> ?_);let⟨t,e⟩:=hj 0 v rfl;show#[t, ⇑e];let⟨t,e'⟩:=hj (j+1) v' (by rw[List.getElem?_cons_succ];show e);show#[t,by rw[e'];congr 2<;>omega]
 have:=key 0 f_.toList n Np λj v e=>by let⟨t,e'⟩:=hv j v (by rw[<- Array.getElem?_toList];show e);show#[t,by rw[e'];congr 2<;>omega]
 unfold yw;rw[List.range_eq_range'];show this
def zI {q1 q2 F1 vO:Pos}(UR:Gl X "list")(Nl:X.mg "list" =none)(hg:Gl X "range")(hm:X.mg "range" =none)(hc:X.calm=true)(ha:PA X [a,b,c] ta)(hs:starEach [a,b,c] X.env= [(false,eval a X.env),(false,eval b X.env),(false,eval c X.env)]:=by rfl)(kR:starEach [b,c] X.env= [(false,eval b X.env),(false,eval c X.env)]:=by rfl)(ht:starEach [.Call (.Name "range" q2) [a,b,c] [] vO] X.env= [(false,eval (.Call (.Name "range" q2) [a,b,c] [] vO) X.env)]:=by rfl): PE X (.Call (.Name "list" q1) [.Call (.Name "range" q2) [a,b,c] [] vO] [] F1) (Fh ta):=by
 intro ak s σ H Q I h;exact Call_ (g_ I UR Nl boot_list (bM ?_ ht rfl));rw[ht];exact eg (Call_ (g_ I hg hm boot_range (bM (dL (ha vO ak s σ H _ I h) λus s1 ⟨vs,H1,I1,r1,q1⟩=> ?_) (by rw[hs,kR]) (by rw[kR];rfl))));let⟨i,j,e,ok,hn,q⟩:=q1;subst e;cases r1 with
 | cons r rr=>
  cases rr with
  | cons r' rr=>
   cases rr with
   | cons Tj rr=>
    cases rr;let⟨t,rfl⟩:=r;let⟨t',rfl⟩:=r';let⟨Oz,rfl⟩:=Tj;exact call_range_3 ⋯ (Calls.spliced_nil ?_);have I2:Inv X ak σ H1 {s1 with heap:=s1.heap.push {cls:= .type "range",data:= .fields (List.toArray [.int i t, .int j t', .int (-1) Oz])},toks:=s1.toks}:=I1.kept λb o e=>aq _ e;have hsz:Builtin.Range.rangeSize i j (-1)=((i - j).toNat:Int):=by have:=xy (a:=i) (b:=j);have h0:=pE (a:=i) (b:=j) (c:= -1) ⋯;unfold Iy at this;omega
    exact call_list_range (n:=(i - j).toNat) (I1.ok.hd hc) (IsRange.new ..) (xp ok) hsz (by omega) λh' tk QP c' kp Hm items=> ?_;have hv:=CT items;exact#[.ref _,_,I2.laid (t':=tk) kp (ap _) (show fq X.prog X.w _ h' _ (.lst (yw i (i - j).toNat)) from#[?_,QP.toList,c',hv, ⇑Hm]),rfl,q _ (I2.dM.fresh (ap _))];unfold yw;rw[aa,bO];show aT hn (by rw[dg];decide)
end
end L2
namespace WL
open PySem L2
variable {K:Ug}
def Oa:yQ:=λxs M q=> ∃l:fk (cH×W),d_ (xs= [.tup (l.map λp=> .tup [gq p.1,p.2])]) (l.length<=1000000) (∀p,M p=none ->q (wr p) (um M p (.dK (l.foldl (λm p=>kc m p.1 p.2) []))))
def WR.key {v:V}(h:WR K H (gq k) v):v=kV k:=by cases k<;>show h.eq
theorem xI {H:Hp}: ∀ {l:fk (cH×W)} {vs:fk V},c7 K H (l.map λp=> .tup [gq p.1,p.2]) vs -> ∃ps:fk (cH×V),d_ (KR K H l ps) (vs.length=ps.length) (∀ (i:Nat) p,ps[i]? =some p -> ∃b,vs[i]? =some (.ref b) /\ jI K H b [kV p.1,p.2])
 | [],vs,h=>by simp![dU,c7] at h;subst h;show#[[], .nil,rfl,λi p e=>by simp at e]
 | (k,x)::l,vs,h=>by
  simp![aI,c7] at h;let⟨v,t,rfl,h1,h2⟩:=h;let⟨ps,r,hl,hp⟩:=xI h2;let⟨b,us,rfl,hs,hr⟩:=h1.tup;let⟨u1,u2,rfl,g1,g2⟩:=hr.two;cases g1.key;exact#[(k,u2)::ps, .cons #[rfl,g2] r,by simp[hl],λi p e=> ?_];cases i with
  | zero=>simp at e;subst e;show#[b,rfl,hs]
  | succ i=>simpa using hp i p ⇑e
theorem BY {H:Hp}: ∀ {l:fk (cH×W)} {ps:fk (cH×V)} {m:fk (cH×W)} {n:fk (cH×V)},KR K H l ps ->KR K H m n ->KR K H (l.foldl (λm p=>kc m p.1 p.2) m) (ps.foldl (λm p=>gQ m p.1 p.2) n)
 | _,_,_,_, .nil,r=>r
 | _,_,_,_, .cons (a:=a) (b:=b) ⟨e,rv⟩ t,r=>by rw[List.foldl_cons,List.foldl_cons];exact BY t ?_;rw[e];show KR.put rv r
instance:IC K (FR K) Oa where
 imp:=by rintro xs v M H q Q m r1 ⟨l,rfl,hl,h⟩ k;let⟨v,rfl,r⟩:=r1.one;let⟨a,vs,rfl,hv,rr⟩:=r.tup;let⟨ps,hr,dj,hp⟩:=xI rr;exact#[a,vs,ps,rfl,hv,by rw[<- sk hr];show hl,dj,hp,λp hp=> ?_];have ts:=L2.gk.ts (cB (o:= .dK (ps.foldl (λm p=>gQ m p.1 p.2) [])) hp);show k _ _ _ _ (h p (m.fresh hp)) ts (m.put ts #[_,cr,KR.ts ts (BY hr .nil)]) WR.v
def N8:yQ:=λxs M q=>cO λd kvs=>d_ (xs= [wr d]) (M d=some (.dK kvs)) (∀p,M p=none ->q (wr p) (um M p (.lst (kvs.map λkv=>gq kv.1))))
theorem xX {H:Hp}: ∀ {l:fk (cH×W)} {vs:fk (cH×V)},KR K H l vs ->c7 K H (l.map λkv=>gq kv.1) (vs.map λkv=>kV kv.1)
 | _,_, .nil=>c7.nil
 | _,_, .cons (a:=a) (b:=b) ⟨e,_⟩ t=>by exact c7.cons ?_ (xX t);change WR K H (gq a.1) (kV b.1);rw[e];cases b.1<;>show WR.v
instance:IC K FP N8 where
 imp:=by rintro xs v M H q Q m r1 ⟨d,kvs,rfl,hd,h⟩ k;let⟨v,rfl,r⟩:=r1.one;cases r.eq;let⟨ks,ek,rr⟩:=m d _ hd;show#[d,ks,rfl, .inl ek,λp hp=>k _ _ _ _ (h p (m.fresh hp)) (L2.gk.ts (cB hp)) (m.qx hp (xX rr)) WR.v]
def vw (a:WE):WE:=λρ M q=>a ρ M λx M1=>cO λd kvs=>d_ (x=wr d) (M1 d=some (.dK kvs)) (∀p,M1 p=none ->q (wr p) (um M1 p (.lst (kvs.map λkv=> .tup [gq kv.1,kv.2]))))
def Q3:vw a ρ M q=a ρ M λx M1=>iA x λd=>kH (M1 d) λkvs=>rZ M1 λp=>q (wr p) (um M1 p (.lst (kvs.map λkv=> .tup [gq kv.1,kv.2]))):=by unfold vw iA kH rZ;congr 1;funext x M1;apply propext;symm;rintro⟨d,kvs,e1,e2,h⟩;show#[d,e1,kvs,e2,h];rintro⟨d,e1,kvs,e2,h⟩;show#[d,kvs,e1,e2,h]
instance {t:TE}{a:WE} [ia:IE K t a]:IE K (A9 t) (vw a) where
 imp :=λρ M σ H q Q o h k=>ia.imp ρ M σ H _ _ o h λx M1 v H1 ⟨d,kvs,ex,hd,h1⟩ t1 m1 r1=>by
  subst ex;let⟨ks,ek,rr⟩:=m1 d _ hd;exact#[d,ks,r1.eq, .inl ek,λl vs H2 hl sm el dj kY KU=> ?_];have ts:bu H1 H2:=L2.gk.ts sm;exact k _ _ _ _ (h1 l (m1.fresh hl)) (t1.trans ts) (λb x e=> ?_) WR.v;by_cases hb:b=l;subst hb;rw[au] at e;cases e;exact#[vs,el,c7.mk (by rw[dj,aa,sk rr]) λj d' v' e1 e2=> ?_];rw[az] at e1;cases e3:kvs[j]? with
  | none=>rw[e3] at e1;cases e1
  | some kv=>
   rw[e3] at e1;cases e1;let⟨WJ,e4⟩: ∃WJ,ks[j]? =some WJ:=#[ks[j]'(by rw[<- sk rr];show(aj.mp e3).1),ae _]
   let⟨p2,e5,e6,rp⟩:=z_ rr e4;rw[e3] at e5;cases e5;let⟨a2,e7,e8⟩:=kY j WJ e4;rw[e2] at e7;cases e7;exact WR.MJ (jI.of e8) (c7.cons ?_ (c7.cons (rp.ts ts) c7.nil));rw[e6];cases WJ.1<;>show WR.v
  rw[aJ hb] at e;have hm:=m1 b x e;let⟨u,hu⟩:=hm.some;show hm.mv ts (by rw[hu];show sm b u hu)
def Cs (i:Int)(n:Nat):fk W:=(List.range n).map λ(k:Nat)=>wi (i - (k:Int))
def EX (a:WA):WE:=λρ M q=>a ρ M λxs M1=>cO λ(i j:Int)=>fZ (xs= [wi i,wi j,wi (-1)]) (AM i j (-1)) ((i - j).toNat<=16000000) (∀l,M1 l=none ->q (wr l) (um M1 l (.lst (Cs i (i - j).toNat))))
theorem Cq {H:Hp}(i:Int): ∀ (l:fk Nat),c7 K H (l.map λ(k:Nat)=>wi (i - (k:Int))) (l.map λ(k:Nat)=>V.int (i - (k:Int)))
 | []=>by simp![dU,c7]
 | k::r=>by simp![aI,c7];show#[_,_,rfl,WR.v,Cq i r]
instance {t:TA}{a:WA} [ia:IA K t a]:IE K (Fh t) (EX a) where
 imp:=λρ M σ H q Q o h k=>ia.imp ρ M σ H _ _ o h λxs M1 vs H1 ⟨i,j,ex,h1,h2,h3⟩ t1 m1 r1=>by subst ex;simp![c7] at r1;let⟨v1,t2,rfl,g1,v2,t3,rfl,g2,v3,t4,rfl,g3,rfl⟩:=r1;cases g1.eq;cases g2.eq;cases g3.eq;show#[i,j,rfl,h1,h2,λp hp=>k _ _ _ _ (h3 p (m1.fresh hp)) (t1.trans (L2.gk.ts (cB hp))) (m1.qx hp (Cq i _)) WR.v]
end WL
namespace WQ
open PySem L2 WL WP
def GD (p:Int)(m:Pt):Prop:=(m.map (·.1)).Nodup /\ ∀z∈m,0<z.2 /\ z.2<p
def hU (m:Pt)(x:Int):Pt:=m.filter λq=>decide (q.1≠x)
def HG (m:Pt)(x:Int):uV (fY m) (.inl x)=fY (hU m x):=by unfold uV fY hU;rw[List.filter_map];congr 1;apply List.filter_congr;intro q _;simp
theorem dY: ∀ {m:Pt},(m.map (·.1)).Nodup -> ∀x,dq m x=look m x
 | [],_,x=>rfl
 | q ::r,h,x=>by rw[aI,bI] at h;have ih:=dY h.2 x;rw[dq,look,ih];by_cases e:q.1=x;rw[am e,am e];have:look r x=0:=fH λz hz ez=>h.1 (af.mpr #[z,hz,by rw[ez,e]]);rw[this];lia;rw[ai e,ai e];lia
def gI (h:(m.map (·.1)).Nodup)(hz:z∈m):look m z.1=z.2:=by
 induction m with
 | nil=>cases hz
 | cons q r ih=>rw[aI,bI] at h;rw[look];obtain rfl | pO:=ax.mp hz;rw[am rfl];rw[ai (λe=>h.1 (af.mpr #[z,pO,e.symm]))];show ih h.2 pO
def z4 (m:Pt)(x y:Int):look (hU m x) y=if y=x then 0 else look m y:=by
 induction m with
 | nil=>simp[hU,look]
 | cons q r ih=>unfold hU at ih ⊢;rw[List.filter_cons];by_cases e:q.1=x;simp![e,ne_eq,not_true_eq_false,decide_false,aB,bj];rw[ih,look];by_cases ey:y=x;rw[am ey,am ey];rw[ai ey,ai ey,ai (by rw[e];show aW ey)];simp![ne_eq,e,not_false_eq_true,decide_true,bZ];rw[look,look,ih];by_cases ey:q.1=y;rw[am ey,am ey,ai (by rw[<- ey];show e)];rw[ai ey,ai ey]
def GD.range (hp:0<p)(h:GD p m)(x:Int):0<=look m x /\ look m x<p:=by by_cases hx: ∃z∈m,z.1=x;let⟨z,hz,rfl⟩:=hx;rw[gI h.1 hz];have:=h.2 z hz;lia;rw[fH λz hz e=>hx #[z,hz,e]];lia
def GD.drop (h:GD p m)(x:Int):GD p (hU m x):=by exact#[h.1.sublist (List.Sublist.map _ List.filter_sublist),λz hz=>h.2 z (ay.mp hz).1]
def Kj (h:z∈mj m x v):z=(x,v) \/ z∈m:=by unfold mj at h;split at h;let⟨q,hq,e⟩:=af.mp h;split at e;rename_i e2;left;rw[<- e,e2];right;rw[<- e];show hq;obtain h | h:=aA.mp h;show .inr h;show .inl (ah.mp h)
theorem GD.put (h:GD p m)(h0:0<v)(h1:v<p):GD p (mj m x v):=#[vS h.1,λz hz=>by obtain rfl | hz:=Kj hz;show#[h0,h1];show h.2 z hz]
def K6 (h:look m x≠0):(fX (fY m) (.inl x)).isSome=true:=by
 rw[vz];rcases l7 (m:=m) (x:=x) with⟨_,e,_⟩ | ⟨q,e,_⟩
 show absurd e h;rw[e];rfl
def NZ (p n:Int):Prop:= ∀y,0<y ->y<p ->y*n % p≠0
def Me (oV:Int)(b:Pt):Pt:=b.map λz=>(z.1+oV,z.2)
theorem A0 (oV:Int): ∀ (b:Pt) (x:Int),dq (Me oV b) x=dq b (x - oV)
 | [],x=>rfl
 | z::r,x=>by change dq ((z.1+oV,z.2)::Me oV r) x=_;rw[dq,dq,A0 oV r x];by_cases e:z.1+oV=x;rw[am e,am ∅];rw[ai e,ai ∅]
def Tw:jc:=λxs M q=>Lq λ(h o:gY) (p oV n:Int) (a b:Pt)=>nH (xs= [wi p,wr h,wr o,wi oV,wi n]) (h≠o) (M h=some (.dK (fY a))) (M o=some (.dK (fY b))) (0<p) (p<1000) (GD p a) (fZ (GD p b) (NZ p n) (a.length+b.length<=16000000) (∀c,GD p c ->c.length<=a.length+b.length ->(∀x,look c x=(look a x+look b (x - oV)*n) % p) ->q wn (um M h (.dK (fY c)))))
theorem Dq (m:Pt)(x:Int):(hU m x).length<=m.length:=eY _ _
def O4 (C:gY):jc:=λxs M q=>kr λ(s dx:gY) (l r:W)=>d_ (xs= [wr s,l,r]) (M s=some (.ins C dx [])) (q wn (um M s (.ins C dx [("lamps",l),("parts",r)])))
def Gb (R C:gY):jc:=λxs M q=>Ej λ(s dx r dr:gY) (l u f g:W)=> ∃ (e:W),j8 (xs= [wr s,wr r,f,g,e]) (s≠r) (M s=some (.ins C dx [])) (M r=some (.ins R dr [("lamps",l),("parts",u)])) (q wn (um M s (.ins C dx [("lamps",l),("parts",u),("first",f),("length",g),("foot",e)])))
end WQ
namespace WL
open PySem L2
def S3:zA a b D ρ M=a ρ M λx M1=>b ρ M1 λy M2=>iA x λp=>pN y λk=>kH (M2 p) λkvs=>iW ((fX kvs k).isSome=true) (D.nx ρ (um M2 p (.dK (uV kvs k)))):=by unfold zA iA pN kH iW;congr 1;funext x M1;congr 1;funext y M2;apply propext;symm;rintro⟨p,kvs,k,e1,e2,e3,e4,h⟩;show#[p,e1,k,e3,kvs,e2,e4,h];rintro⟨p,e1,k,e3,kvs,e2,e4,h⟩;show#[p,kvs,k,e1,e2,e3,e4,h]
end WL
namespace WQ
open PySem L2 WL WP
abbrev Pq:=fk (Int×gY×Pt)
def nF (P:Pq):fk (cH×W):=P.map λt=>((Sum.inl t.1:cH),wr t.2.1)
def pf (P:Pq)(w:Int):Pt:=match P.find? (λt=>decide (t.1=w)) with
 | some t=>t.2.2
 | none=> []
def b7 (rl rp:gY)(P:Pq):fk gY:=rl::rp::P.map λt=>t.2.1
structure cZ (p:Int)(M:Mp)(rl rp:Addr)(a:Pt)(P:Pq):Prop where
 lam:M rl=some (.dK (fY a))
 par:M rp=some (.dK (nF P))
 wX: ∀t∈P,M t.2.1=some (.dK (fY t.2.2))
 ga:GD p a
 gp: ∀t∈P,GD p t.2.2
 nj:(P.map (·.1)).Nodup
 MD:(b7 rl rp P).Nodup
def fQ (M M':Mp)(L:fk gY):Prop:= ∀d o,M d=some o ->d∉L ->M' d=some o
theorem fQ.trans {M M1 M2:Mp}(h:fQ M M1 L)(h':fQ M1 M2 L')(hs: ∀x∈L',x∈L \/ M x=none):fQ M M2 L:=λd o e n=>h' d o (h d o e n) λhd=>(hs d hd).elim n λz=>by rw[e] at z;cases z
theorem fQ.sm (h:Sm M M')(L:fk gY):fQ M M' L:=λd o e _=>h d o e
theorem iD {α β:Type}{f:α ->β}: ∀ {l:fk α},(l.map f).Nodup -> ∀ {x y:α},x∈l ->y∈l ->f x=f y ->x=y
 | [],_,x,_,hx,_,_=>by cases hx
 | z ::r,h,x,y,hx,hy,e=>by rw[aI,bI] at h;obtain ex | hx:=ax.mp hx;obtain ey | hy:=ax.mp hy;rw[ex,ey];show absurd (af.mpr #[y,hy,by rw[<- e,ex]]) h.1;obtain ey | hy:=ax.mp hy;show absurd (af.mpr #[x,hx,by rw[e,ey]]) h.1;show iD h.2 hx hy e
theorem iE {P:Pq}(h:P.find? (λt=>decide (t.1=w))=some t):t∈P /\ t.1=w:=#[List.mem_of_find?_eq_some h, ⇑(List.find?_some h)]
theorem DT {P:Pq}(h:P.find? (λt=>decide (t.1=w))=none):w∉P.map (·.1):=λhm=>by let⟨t,ht,e⟩:=af.mp hm;have:=List.find?_eq_none.mp h t ht;simp[e] at this
def vy (P:Pq)(w:Int):fX (nF P) (.inl w)=(P.find? λt=>decide (t.1=w)).map λt=>wr t.2.1:=by
 induction P with
 | nil=>rfl
 | cons t r ih=>
  unfold fX nF at ih ⊢;rw[aI,dw,dw];have e:decide ((Sum.inl t.1:cH)=Sum.inl w)=decide (t.1=w):=v7 _ _;simp![e];cases decide (t.1=w) with
  | true=>rfl
  | false=>show ih
def FS (h:w∉P.map (·.1)):kc (nF P) (.inl w) (wr e)=nF (P++ [(w,e,c)]):=by
 unfold kc;have:((nF P).any λkv=>decide (kv.1=Sum.inl w))=false:=by rw[List.any_eq_false];intro kv Ap;let⟨t,ht,rfl⟩:=af.mp Ap;simp![cN,Sum.inl.injEq];show λew=>h (af.mpr #[t,ht,ew])
 rw[this];unfold nF;rw[aO];rfl
def mX (P:Pq)(w:Int)(c:Pt):Pq:=P.map λu=>if u.1=w then(u.1,u.2.1,c) else u
def JY (P:Pq)(w:Int)(c:Pt):nF (mX P w c)=nF P:=by unfold nF mX;rw[aE];apply bJ;intro t _;simp![Function.comp];split<;>rfl
def yP (P:Pq)(w:Int)(c:Pt):(mX P w c).map (λt=>t.2.1)=P.map λt=>t.2.1:=by unfold mX;rw[aE];apply bJ;intro t _;simp![Function.comp];split<;>rfl
def xZ (P:Pq)(w:Int)(c:Pt):(mX P w c).map (·.1)=P.map (·.1):=by unfold mX;rw[aE];apply bJ;intro t _;simp![Function.comp];split<;>rfl
def i0 (t:Int×gY×Pt)(P:Pq)(w:Int):pf (t::P) w=if t.1=w then t.2.2 else pf P w:=by unfold pf;rw[dw];by_cases e:t.1=w;simp[e];simp[e]
def BG (v:Int)(h:w∈P.map (·.1)):pf (mX P w c) v=if v=w then c else pf P v:=by
 induction P with
 | nil=>cases h
 | cons t r ih=>
  change pf ((if t.1=w then(t.1,t.2.1,c) else t)::mX r w c) v=_;by_cases e:t.1=w;rw [am e,i0,i0];by_cases ev:v=w;rw[am (show t.1=v by rw[ev,e]),am ev];rw [ai (show ¬t.1=v from λz=>ev (z.symm.trans e)),ai ev,ai (show ¬t.1=v from λz=>ev (z.symm.trans e))];by_cases hr:w∈r.map (·.1);rw[ih hr,ai ev];have:mX r w c=r:=by unfold mX;exact(bJ (g:=id) λu hu=> ?_).trans (List.map_id r);show ai λeu=>hr (af.mpr #[u,hu,eu])
  rw[this];rw[ai e,i0,i0];have hr:w∈r.map (·.1):=by obtain z | z:=ax.mp (show w∈t.1::r.map (·.1) from h);show absurd z.symm e;show z
  by_cases ev:t.1=v;rw[am ev,am ev,ai (λz=>e (ev.trans z))];rw[ai ev,ai ev,ih hr]
def zG (v:Int)(h:w∉P.map (·.1)):pf (P++ [(w,e,c)]) v=if v=w then c else pf P v:=by
 induction P with
 | nil=>rw[List.nil_append,i0];by_cases ev:v=w;rw[am ev.symm,am ev];rw[ai (aW ev),ai ev]
 | cons t r ih=>rw[List.cons_append,i0,i0];have hr:w∉r.map (·.1):=λz=>h (av _ z);by_cases ev:t.1=v;rw[am ev,am ev,ai (λz=>h (by rw[<- z, <- ev];show aL))];rw[ai ev,ai ev,ih hr]
def kD (h:w∉P.map (·.1)):pf P w= []:=by
 unfold pf;cases e:P.find? (λt=>decide (t.1=w)) with
 | none=>rfl
 | some t=>let⟨h1,h2⟩:=iE e;show absurd (af.mpr #[t,h1,h2]) h
def jY (h:(P.map (·.1)).Nodup)(ht:t∈P):pf P t.1=t.2.2:=by
 induction P with
 | nil=>cases ht
 | cons u r ih=>rw[aI,bI] at h;rw[i0];obtain rfl | o_:=ax.mp ht;rw[am rfl];rw[ai (λe=>h.1 (af.mpr #[t,o_,e.symm]))];show ih h.2 o_
theorem cZ.same (h:cZ p M rl rp a P)(hk: ∀d∈b7 rl rp P,M' d=M d):cZ p M' rl rp a P:=#[(hk rl (by simp[b7])).trans h.lam,(hk rp (by simp[b7])).trans h.par,λt ht=>(hk _ (by simp![b7,ax,af];show .inr (.inr #[t,ht,rfl]))).trans (h.wX t ht),h.ga,h.gp,h.nj,h.MD]
def cZ.mem (h:cZ p M rl rp a P)(hd:d∈b7 rl rp P): ∃kvs,M d=some (.dK kvs):=by simp![b7,ax,af] at hd;obtain rfl | rfl | ⟨t,ht,rfl⟩:=hd;show#[_,h.lam];show#[_,h.par];show#[_,h.wX t ht]
theorem cZ.keep (h:cZ p M rl rp a P)(hk:fQ M M' L)(hd: ∀d∈b7 rl rp P,d∉L):cZ p M' rl rp a P:=h.same λd mq=>by let⟨kvs,e⟩:=h.mem mq;rw[e];show hk d _ e (hd d mq)
def cZ.Y' (h:cZ p M rl rp a P)(gc:GD p c):cZ p (um M rl (.dK (fY c))) rl rp c P:=by have nd:=bI.mp h.MD;exact#[au,?_,λt ht=> ?_,gc,h.gp,h.nj,h.MD];rw[aJ (λe=>nd.1 (by rw[<- e];show aL))];show h.par;rw[aJ (λe=>nd.1 (by rw[<- e];show av _ (af.mpr #[t,ht,rfl])))];show h.wX t ht
def cZ.set (h:cZ p M rl rp a P)(ht:t∈P)(gc:GD p c):cZ p (um M t.2.1 (.dK (fY c))) rl rp a (mX P t.1 c):=by
 have nd:=bI.mp h.MD;have Wz:=bI.mp nd.2;have ea:b7 rl rp (mX P t.1 c)=b7 rl rp P:=by unfold b7;rw[yP]
 exact#[?_,?_,λu hu=> ?_,h.ga,λu hu=> ?_,by rw[xZ];show h.nj,by rw[ea];show h.MD];rw[aJ (λe=>nd.1 (by rw[e];show av _ (af.mpr #[t,ht,rfl])))];show h.lam;rw[aJ (λe=>Wz.1 (by rw[e];show af.mpr #[t,ht,rfl])),JY];show h.par;let⟨v,hv,rfl⟩:=af.mp hu;by_cases e:v.1=t.1;rw[am e];have:v=t:=iD h.nj hv ht e;rw[this];show au;rw[ai e,aJ (λea=> ?_)];show h.wX v hv;show e (by rw[iD Wz.2 hv ht ea]);let⟨v,hv,rfl⟩:=af.mp hu;split;show gc;show h.gp v hv
def cZ.new (h:cZ p M rl rp a P)(he:M e=none)(hw:w∉P.map (·.1))(gc:GD p c):cZ p (um (um M e (.dK (fY c))) rp (.dK (nF (P++ [(w,e,c)])))) rl rp a (P++ [(w,e,c)]):=by
 have nd:=bI.mp h.MD;have Wz:=bI.mp nd.2;have ne: ∀d∈b7 rl rp P,d≠e:=λd hd z=>by let⟨kvs,q⟩:=h.mem hd;rw[z,he] at q;cases q
 have erl:=ne rl (by simp[b7]);have erp:=ne rp (by simp[b7]);have ein: ∀t∈P,t.2.1≠e:=λt ht=>ne _ (by simp![b7,ax,af];show .inr (.inr #[t,ht,rfl]));exact#[?_,au,λu hu=> ?_,h.ga,λu hu=> ?_,?_,?_];rw[aJ (λz=>nd.1 (by rw[z];show aL)),aJ erl];show h.lam;obtain hu | hu:=aA.mp hu;rw[aJ (λz=>Wz.1 (by rw[<- z];show af.mpr #[u,hu,rfl])),aJ (ein u hu)];show h.wX u hu;rw[ah.mp hu,aJ (aW erp),au];obtain hu | hu:=aA.mp hu;show h.gp u hu;rw[ah.mp hu];show gc;rw[aO];exact List.nodup_append.mpr #[h.nj,by simp,λx hx y hy=> ?_];simp at hy;subst hy;show λz=>hw (z▸hx);have:b7 rl rp (P++ [(w,e,c)])=b7 rl rp P++ [e]:=by unfold b7;rw[aO];rfl
 rw[this];exact List.nodup_append.mpr #[h.MD,by simp,λx hx y hy=> ?_];simp at hy;subst hy;show ne x hx
def s_ (R S:gY)(M:Mp)(o ol op:gY):Prop:=(∃d,M o=some (.ins R d [("lamps",wr ol),("parts",wr op)])) \/ kr λd f g e=>M o=some (.ins S d [("lamps",wr ol),("parts",wr op),("first",f),("length",g),("foot",e)])
theorem s_.keep (h:s_ R S M o ol op)(k:fQ M M' L)(n:o∉L):s_ R S M' o ol op:=h.imp (λ⟨d,e⟩=>#[d,k _ _ e n]) λ⟨d,f,g,e',e⟩=>#[d,f,g,e',k _ _ e n]
def MC (R S:gY):jc:=λxs M q=>Ej λ(r rl rp o ol op:gY) (p s:Int)=>Ej λ(sh n:Int) (a b:Pt) (P Q:Pq) (B C:Nat)=>nH (xs= [wi p,wi s,wr r,wr o,wi sh,wi n]) (s_ R S M r rl rp) (s_ R S M o ol op) (0<p) (p<1000) (0<=s) (s<2 ^ 30) (nH (NZ p n) (cZ p M rl rp a P) (cZ p M ol op b Q) (∀x∈b7 rl rp P,x∉b7 ol op Q) (a.length+b.length<=16000000) (P.length+Q.length<=16000000) (∀t∈P,t.2.2.length<=B) (d_ (∀t∈Q,t.2.2.length<=C) (B+C<=16000000) (∀M' c P',cZ p M' rl rp c P' ->(∀x,look c x=(look a x+look b (x - s*sh)*n) % p) ->(∀w x,look (pf P' w) x=(look (pf P w) x+look (pf Q w) (x - sh)*n) % p) ->fQ M M' (b7 rl rp P) ->(∀x∈b7 rl rp P',x∈b7 rl rp P \/ M x=none) ->(∀x∈b7 rl rp P,x∈b7 rl rp P') ->c.length<=a.length+b.length ->P'.length<=P.length+Q.length ->(∀t∈P',t.2.2.length<=B+C) ->(∀w∈P'.map (·.1),w∈P.map (·.1) \/ w∈Q.map (·.1)) ->q wn M')))
def BF {Q:Pq}(hn:(Q.map (·.1)).Nodup)(h:Q[i]? =some t)(w:Int):pf (Q.take (i+1)) w=if w=t.1 then t.2.2 else pf (Q.take i) w:=by
 have Qb:t.1∉(Q.take i).map (·.1):=λhm=>by rw[List.map_take] at hm;let⟨j,hj,e⟩:=List.mem_iff_getElem.mp hm;rw[bg,aa] at hj;rw[List.getElem_take] at e;let⟨hi,e2⟩:=aj.mp h;have:=bL.mp hn j i (by simp;lia) ⇑hi ∅;apply this;rw[e];simp[e2]
 rw[bC,h];let⟨t1,t2,t3⟩:=t;show zG w Qb
theorem Fc {Q:Pq}(hn:(Q.map (·.1)).Nodup)(h:Q[i]? =some t):t.1∉(Q.take i).map (·.1):=λhm=>by rw[List.map_take] at hm;let⟨j,hj,e⟩:=List.mem_iff_getElem.mp hm;rw[bg,aa] at hj;rw[List.getElem_take] at e;let⟨hi,e2⟩:=aj.mp h;have:=bL.mp hn j i (by simp;lia) ⇑hi ∅;apply this;rw[e];simp[e2]
theorem GD.nil:GD p []:=#[List.nodup_nil,λz hz=>by cases hz]
theorem c9 (p0:0<p)(h:GD p m)(x:Int):look m x % p=look m x:=cx (h.range p0 x).1 (h.range p0 x).2
def cZ.F6 (h:cZ p M rl rp a P)(w:Int):GD p (pf P w):=by
 unfold pf;cases e:P.find? (λt=>decide (t.1=w)) with
 | none=>show GD.nil
 | some t=>show h.gp t (iE e).1
def oO (a:Int)(n:Nat):fk Int:=(List.range n).map λ(k:Nat)=>a - (k:Int)
def rA (a:Int)(n:Nat):fk Int:=(List.range n).map λ(k:Nat)=>a+(k:Int)
def rD (ns:fk Int)(len:Int):fk Int:=if len=0 \/ ns= [] then ns else oO (ns.getLastD 0) (ns.getLastD 0 - (len - 1)).toNat++rA (ns.headD 0) (0 - ns.headD 0).toNat
def YA:jc:=λxs M q=>im λ(f:gY) (ns:fk Int) (len:Int)=>Ek (xs= [wr f,wi len]) (M f=some (.lst (ns.map wi))) (0<=len) (len<4000000) (ns.length<=16000000) (∀x∈ns, -4000000<x /\ x<4000000) (∀p M',Sm M M' ->M' p=some (.lst ((rD ns len).map wi)) ->q (wr p) M')
end WQ
namespace WL
open PySem L2
def E6 (h:M x=some (.lst l)):Ot M (.v (.ref x)) k=k (!l.isEmpty):=by apply propext;symm;rintro⟨b,⟨l',h1,h2⟩ | ⟨l',h1,_⟩,z⟩;rw[h] at h1;cases h1;rw[h2] at z;show z;rw[h] at h1;cases h1;intro z;show#[_, .inl #[l,h,rfl],z]
theorem EW:EX a ρ M q=a ρ M λxs M1=>cO λ(i j:Int)=>fZ (xs= [wi i,wi j,wi (-1)]) (AM i j (-1)) ((i - j).toNat<=16000000) (rZ M1 λl=>q (wr l) (um M1 l (.lst (Cs i (i - j).toNat)))):=rfl
end WL
namespace WQ
open PySem L2 WL WP
def lW {l:fk Int}(h:l≠ []):l.getLastD 0∈l:=by
 induction l using WP.jg with
 | h0=>show absurd rfl h
 | h1 l a _=>simp
def j7 (len h:Int):Int:=if h<0 then h else h - len
structure Hs (hs:List Int)(len:Int):Prop where
 out: ∀h∈hs,h<0 \/ len<=h
 ord: ∀ (i j:Nat) h g,j<i ->hs[i]? =some h ->hs[j]? =some g ->¬(0<=g - j7 len h /\ g - j7 len h<=len)
 clo: ∀h∈hs, ∀y,j7 len h<=y ->y<=j7 len h+len ->y∈hs \/ (0<=y /\ y<len)
def lU:x∈oO a n↔a - n<x /\ x<=a:=by unfold oO;rw[af];symm;rintro⟨k,hk,rfl⟩;have:=cf.mp hk;lia;rintro⟨h1,h2⟩;show#[(a - x).toNat,cf.mpr ∅, ∅]
def i_:x∈rA a n↔a<=x /\ x<a+n:=by unfold rA;rw[af];symm;rintro⟨k,hk,rfl⟩;have:=cf.mp hk;lia;rintro⟨h1,h2⟩;show#[(x - a).toNat,cf.mpr ∅, ∅]
def yO (h:(oO a n)[i]? =some x):i<n /\ x=a - i:=by unfold oO at h;rw[az] at h;by_cases hi:i<n;rw[List.getElem?_range hi] at h;cases h;show#[hi,rfl];rw[List.getElem?_eq_none (by simp;lia)] at h;cases h
def Ia (h:(rA a n)[i]? =some x):i<n /\ x=a+i:=by unfold rA at h;rw[az] at h;by_cases hi:i<n;rw[List.getElem?_range hi] at h;cases h;show#[hi,rfl];rw[List.getElem?_eq_none (by simp;lia)] at h;cases h
def wj {l:fk Int}(h:l.Pairwise (· <= ·)): ∀x∈l,l.headD 0<=x:=by
 cases l with
 | nil=>intro x hx;cases hx
 | cons a r=>intro x hx;obtain rfl | hx:=ax.mp hx;show aY _;show(cz.mp h).1 x hx
def Fa (l0:0<=len)(hs:ns.Pairwise (· <= ·))(hn:ns.Nodup):Hs (rD ns len) len /\ ∀y∈ns,y∈rD ns len \/ (0<=y /\ y<len):=by
 unfold rD;by_cases hc:len=0 \/ ns= []
 rw [am hc];obtain hz | hz:=hc;subst hz;exact#[#[λh _=> ∅,λi j h g Qh hi hj=> ?_,λh hh y h1 h2=> .inl ?_],λy hy=> .inl hy];have cD:g≠h:=λe=>by let⟨a1,a2⟩:=aj.mp hi;let⟨b1,b2⟩:=aj.mp hj;show bL.mp hn j i b1 a1 Qh (by rw[a2,b2,e])
 unfold j7;split<;>lia;have:y=h:=by unfold j7 at h1 h2;split at h1<;>lia
 rw[this];show hh;subst hz;show#[#[(λh hh=>nomatch hh),(λi j h g _ hi _=>by simp at hi),(λh hh=>nomatch hh)],(λy hy=>nomatch hy)];rw [ai hc];have hl:0<len:=by have:=λe=>hc (.inl e);lia
 have cD:ns≠ []:=λe=>hc (.inr e);have No:=lV hs cD;have Nq:=wj hs;generalize ns.getLastD 0=b at No;generalize ns.headD 0=a at Nq;have mem: ∀x,x∈oO b (b - (len - 1)).toNat++rA a (0 - a).toNat↔(len<=x /\ x<=b) \/ (a<=x /\ x<0):=λx=>by rw[aA,lU,i_];symm<;>(intro h;lia)
 exact#[#[λh hh=> ?_,λi j h g Qh hi hj=> ?_,λh hh y h1 h2=> ?_],λy hy=> ?_];rw[mem] at hh;lia;rw [List.getElem?_append] at hi hj;unfold j7;split at hi;let⟨_,e1⟩:=yO hi;split at hj;let⟨_,e2⟩:=yO hj;have:=(lU (a:=b) (x:=h) (n:=(b - (len - 1)).toNat)).mp (ar hi);split<;>lia;rename_i q1 q2;lia;let⟨r1,e1⟩:=Ia hi;split at hj;have:=(lU (a:=b) (x:=g) (n:=(b - (len - 1)).toNat)).mp (ar hj);split<;>lia;let⟨_,e2⟩:=Ia hj;split<;>lia;rw[mem] at hh ⊢;unfold j7 at h1 h2;split at h1<;>lia;rw[mem];have:=No.2 y hy;have:=Nq y hy;lia
structure AL (s p:Int)(b:Pt)(f len foot:Int):Prop where
 ok:ko s f
 l0:0<=len
 s0:s=0 ->len=0
 ge: ∀x,look b x≠0 ->f<=bE s x
 qe: ∀x,look b x≠0 ->bE s x=f ->0<=hI s x /\ hI s x<=len
 top:look b (f+len*s)=1
 bot:look b f*foot % p=1
 ft:0<foot /\ foot<p
def yJ (x k:Int):bE s (x+k*s)=bE s x:=by unfold bE;split;rename_i e;subst e;simp;rw[Int.add_mul_emod_self_right]
def qX (h:s≠0)(x k:Int):hI s (x+k*s)=hI s x+k:=by unfold hI;rw[ai h,ai h,Int.add_mul_ediv_right _ _ h]
def jB (ok:ko s f)(h:s≠0)(k:Int):hI s (f+k*s)=k:=by
 rw[qX h];have:hI s f=0:=by unfold hI;rw[ai h];obtain z | ⟨z1,z2⟩:=ok;show absurd z h;show Int.ediv_eq_zero_of_lt z1 z2
 rw[this,bA]
def iF (s0:0<=s)(e:bE s x=f):x=f+hI s x*s:=by obtain h | h:=Int.lt_or_eq_of_le s0;have:=pY (x:=x) h;rw[e] at this;rw[be];show this;subst h;have:x=f:=e;rw[this];simp
def dH (g:Int ->Int)(js:fk (Int×Int)):Int:=js.foldr (λj r=>g j.1*j.2+r) 0
theorem cE (g:Int ->Int)(j:Int×Int)(js:fk (Int×Int)):dH g (j::js)=g j.1*j.2+dH g js:=rfl
def n9 (hp:p=2 \/ p=3 \/ p=5 \/ p=7)(hn:n % p≠0):NZ p n:=by
 intro y y0 y1 e;have e2:y*(n % p) % p=0:=by rw[bP,Int.emod_emod_of_dvd _ (Int.dvd_refl p), <- bP];show e
 have r0:=c6 n (show p≠0 by lia);have r1:=cJ n (show 0<p by lia);generalize n % p=r at hn e2 r0 r1;have key: ∀p∈([2,3,5,7]:fk Nat), ∀y∈List.range p, ∀r∈List.range p,y≠0 ->r≠0 ->y*r % p≠0:=⋯
 let⟨p',rfl⟩:=Int.eq_ofNat_of_zero_le (show 0<=p by lia);let⟨y',rfl⟩:=Int.eq_ofNat_of_zero_le (show 0<=y by lia);let⟨r',rfl⟩:=Int.eq_ofNat_of_zero_le r0;exact key p' (by simp;lia) y' (cf.mpr ∅) r' (cf.mpr ∅) ∅ ∅ ?_;have:((y'*r' % p':Nat):Int)=0:=by push_cast;show e2
 lia
structure o0 (s p f len:Int)(b a:Pt)(hs:List Int)(i:Nat)(c:Pt)(js:List (Int×Int)):Prop where
 rel: ∀x,look c x=(look a x+dH (λsh=>look b (x - s*sh)) js) % p
 clr: ∀ (j:Nat) g,j<i ->hs[j]? =some g ->look c (f+g*s)=0
 sup: ∀x,bE s x=f ->look c x≠0 ->hI s x∈hs \/ (0<=hI s x /\ hI s x<len)
 Px: ∀x,bE s x<f ->look c x=look a x
theorem o0.skip (st:o0 s p f len b a hs i c js)(hh:hs[i]? =some h)(hz:look c (f+h*s)=0):o0 s p f len b a hs (i+1) c js:=#[st.rel,λj g hj hg=>by obtain z | z:=bU j i;show st.clr j g z hg;have:j=i:= ∅;subst this;rw[hh] at hg;cases hg;show hz,st.sup,st.Px]
def gu (s x sh:Int):bE s (x - s*sh)=bE s x:=by have:=yJ (s:=s) x (-sh);rw[show x+ -sh*s=x - s*sh by rw[Int.neg_mul,be s sh];lia] at this;show this
def lv (hs:s≠0)(x sh:Int):hI s (x - s*sh)=hI s x - sh:=by have:=qX hs x (-sh);rw[show x+ -sh*s=x - s*sh by rw[Int.neg_mul,be s sh];lia] at this;rw[this];lia
def o0.step (F:AL s p b f len foot)(H:Hs hs len)(s0:0<=s)(p0:0<p)(An:s=0 -> ∀h∈hs,h=0)(gc:GD p c)(Xi:GD p c')(st:o0 s p f len b a hs i c js)(hh:hs[i]? =some h)(hn:n=if h<0 then -(look c (f+h*s))*foot else -(look c (f+h*s)))(e: ∀x,look c' x=(look c x+look b (x - s*j7 len h)*n) % p):o0 s p f len b a hs (i+1) c' ((j7 len h,n)::js):=by
 have hm:=ar hh;have quiet: ∀x,look b (x - s*j7 len h)=0 ->look c' x=look c x:=λx hx=>by rw[e,hx,bi,a6,c9 p0 gc]
 have here:look c' (f+h*s)=0:=by
  rw[e,hn];by_cases kS:h<0;rw[am kS];have e1:f+h*s - s*j7 len h=f:=by unfold j7;rw[am kS,be s h];lia
  rw[e1];generalize look c (f+h*s)=v;have e2:v+look b f*(-v*foot)=v - v*(look b f*foot):=by rw[Int.neg_mul,Int.mul_neg, <- eB,be (look b f) v,eB];lia
  rw[e2,Int.sub_emod,bP,F.bot];rw[d7,Int.emod_emod_of_dvd _ (Int.dvd_refl p),Int.sub_self];rfl;rw[ai kS];have e1:f+h*s - s*j7 len h=f+len*s:=by unfold j7;rw[ai kS,be s (h - len),Int.sub_mul];lia
  rw[e1,F.top,eQ];rw[show look c (f+h*s)+ -look c (f+h*s)=0 by lia];rfl
 exact#[λx=> ?_,λj g hj hg=> ?_,λx hx cD=> ?_,λx hx=> ?_];rw[e,st.rel,dJ,cE,Int.add_assoc,Int.add_comm (dH _ js)];obtain z | z:=bU j i;rw [quiet];show st.clr j g z hg;by_cases cD:look b (f+g*s - s*j7 len h)=0;show cD;exfalso;have tO:bE s (f+g*s - s*j7 len h)=f:=by rw[gu,F.ok.on]
 have hr:=F.qe _ cD tO;by_cases wY:s=0;have g0:=An wY g (ar hg);have h0:=An wY h hm;have:=H.ord i j h g z hh hg;have l0:=F.s0 wY;subst l0;rw[g0,h0] at this;show this (by unfold j7;simp);rw[lv wY,jB F.ok wY] at hr;show H.ord i j h g z hh hg hr;have:j=i:= ∅;subst this;rw[hh] at hg;cases hg;show here;by_cases hb:look b (x - s*j7 len h)=0;rw[quiet x hb] at cD;show st.sup x hx cD;have tO:bE s (x - s*j7 len h)=f:=by rw[gu];show hx
 have hr:=F.qe _ hb tO;by_cases wY:s=0;have h0:=An wY h hm;have:hI s x=0:=by unfold hI;rw[am wY]
 left;rw[this, <- h0];show hm;rw[lv wY] at hr;show H.clo h hm _ ∅ ∅;rw [quiet x];show st.Px x hx;by_cases hb:look b (x - s*j7 len h)=0;show hb;have:=F.ge _ hb;rw[gu] at this;lia
theorem o0.low (st:o0 s p f len b a hs hs.length c js)(s0:0<=s): ∀x,bE s x=f ->look c x≠0 ->0<=hI s x /\ hI s x<len:=λx hx cD=>by obtain z | z:=st.sup x hx cD;exfalso;let⟨j,hj⟩:=cA.mp z;have:=st.clr j _ (aj.mp hj).1 hj;rw[<- iF s0 hx] at this;show cD this;show z
def Wt (Z:Int)(m:Pt):Prop:= ∀x,look m x≠0 -> -Z<=x /\ x<=Z
def Wt.len (g:GD p m)(h:Wt Z m)(z0:0<=Z):m.length<=(2*Z+1).toNat:=by
 have:=fM (l:=rA (-Z) (2*Z+1).toNat) g.1 λk hk=>by
  let⟨z,hz,rfl⟩:=af.mp hk;have cD:look m z.1≠0:=by rw[gI g.1 hz];have:=g.2 z hz;lia
  have:=h z.1 cD;show i_.mpr ∅
 rw[aa] at this;unfold rA at this;rw[aa,bO] at this;show this
def l5 (hn:ns.Nodup)(s0:0<=s):(kq s f ns).Nodup:=by unfold kq;have h2:(ns.filter λx=>decide (bE s x=f)).Nodup:=hn.sublist List.filter_sublist;exact List.Pairwise.map _ (R:=λx y=>x≠y /\ bE s x=f /\ bE s y=f) (λx y h e=> ?_) ?_;show h.1 (by rw[iF s0 h.2.1,iF s0 h.2.2,e]);exact List.Pairwise.imp_of_mem (λ{x y} hx hy h=>#[h,?_,?_]) h2;simpa using(ay.mp hx).2;simpa using(ay.mp hy).2
def Ft (s p f len foot:Int)(b:Pt)(g:Int ->Int)(h:Int):Int ->Int:=if g (f+h*s)=0 then g else λx=>(g x+look b (x - s*j7 len h)*(if h<0 then -(g (f+h*s))*foot else -(g (f+h*s)))) % p
def AB (s p f len foot:Int)(b:Pt)(hs:fk Int)(g:Int ->Int):Int ->Int:=hs.foldl (Ft s p f len foot b) g
def vd {hs:fk Int}(e:hs[i]? =some h):AB s p f len foot b (hs.take (i+1)) g=Ft s p f len foot b (AB s p f len foot b (hs.take i) g) h:=by unfold AB;rw[bC,e,List.foldl_append];rfl
def LJ (h: ∀t∈P,Wt B t.2.2)(w:Int):Wt B (pf P w):=by
 unfold pf;cases e:P.find? (λu=>decide (u.1=w)) with
 | none=>intro x hx;show absurd rfl hx
 | some u=>show h u (iE e).1
theorem Wt.up (h:Wt Z m)(l:Z<=Z'):Wt Z' m:=λx hx=>by have:=h x hx;lia
def YF (R S:gY):jc:=λxs M q=>Ej λ(r rl rp o ds ol op:gY) (p:Int)=>Ej λ(s f len foot:Int) (a b:Pt) (P Q:Pq)=>kr λ(B C Z D:Int)=>nH (xs= [wi p,wi s,wr r,wr o]) (s_ R S M r rl rp) (M o=some (.ins S ds [("lamps",wr ol),("parts",wr op),("first",wi f),("length",wi len),("foot",wi foot)])) (p=2 \/ p=3 \/ p=5 \/ p=7) (0<=s) (s<=8) (len<3000000) (nH (AL s p b f len foot) (cZ p M rl rp a P) (cZ p M ol op b Q) (∀x∈b7 rl rp P,x∉b7 ol op Q) (Wt Z a) (Wt D b) (0<=Z) (nH (Z<=1000000) (0<=D) (D<=1000000) (∀t∈P,Wt B t.2.2) (∀t∈Q,Wt C t.2.2) (0<=B) (B<=1000000) (fZ (0<=C) (C<=1000000) (P.length+Q.length<=1000) (∀M' c P' js,cZ p M' rl rp c P' ->(∀x,look c x=(look a x+dH (λsh=>look b (x - s*sh)) js) % p) ->(∀w x,look (pf P' w) x=(look (pf P w) x+dH (λsh=>look (pf Q w) (x - sh)) js) % p) ->(s=0 -> ∀j∈js,j.1=0) ->(∀x,bE s x=f ->look c x≠0 ->0<=hI s x /\ hI s x<len) ->(∀x,bE s x<f ->look c x=look a x) ->Wt (Z+D+s) c ->fQ M M' (b7 rl rp P) ->(∀x∈b7 rl rp P',x∈b7 rl rp P \/ M x=none) ->(∀x∈b7 rl rp P,x∈b7 rl rp P') ->(∀t∈P',Wt (max B (C+Z+1)) t.2.2) ->(∀w∈P'.map (·.1),w∈P.map (·.1) \/ w∈Q.map (·.1)) ->(∃ms:fk Int,fZ (ms.Perm (kq s f (df a))) (ms.Pairwise (· <= ·)) (look c=AB s p f len foot b (rD ms len) (look a)) (∀j∈js, ∃h∈rD ms len,j.1=j7 len h)) ->(∀j∈js, -Z - 1<=j.1 /\ j.1<=Z) ->q wn M'))))
def GR {P P' Q:Pq}(hn:(P'.map (·.1)).Nodup)(h: ∀w∈P'.map (·.1),w∈P.map (·.1) \/ w∈Q.map (·.1)):P'.length<=P.length+Q.length:=by have:=fM (l:=P.map (·.1)++Q.map (·.1)) hn λk hk=>aA.mpr (h k hk);rw[aa,aR,aa,aa] at this;show this
def oo (a:Pt):(fY a).map (λkv=>gq kv.1)=(df a).map wi:=by unfold fY df;rw[aE,aE];rfl
def NA {s f x Z:Int}(s0:0<=s)(s8:s<=8)(h: -Z<=x /\ x<=Z)(z0:0<=Z): -Z - 1<=hI s x /\ hI s x<=Z:=by
 unfold hI;split;lia;rename_i hs;have W0:1<=s:= ∅;have h1:=Int.emod_add_mul_ediv x s;have h2:=c6 x hs;have h3:=cJ x (show 0<s by lia);generalize x / s=y at h1;generalize x % s=m at h1 h2 h3;symm;obtain q | q:=cS y (-Z - 1);have:s*y<=s*(-Z - 2):=a7 ∅ ∅;have e:s*(-Z - 2)= -(s*Z) - 2*s:=by rw[Int.mul_sub,Int.mul_neg];lia
 have:Z<=s*Z:=by have:=aS W0 z0;lia
 lia;show q;obtain q | q:=cS Z y;have:s*(Z+1) <=s*y:=a7 ∅ ∅;have e:s*(Z+1)=s*Z+s:=by rw[Int.mul_add];lia
 have:Z<=s*Z:=by have:=aS W0 z0;lia
 lia;show q
def Fb (l0:0<=len)(hh:h∈rD ns len):(h<0 -> ∃m∈ns,m<=h) /\ (0<=h -> ∃m∈ns,h<=m):=by
 unfold rD at hh;by_cases hc:len=0 \/ ns= []
 rw[am hc] at hh;show#[λ_=>#[h,hh,aY _],λ_=>#[h,hh,aY _]];rw[ai hc,aA,lU,i_] at hh;have cD:ns≠ []:=λe=>hc (.inr e);have hl:0<len:=by have:=λe=>hc (.inl e);lia
 have h1:ns.getLastD 0∈ns:=lW cD;have h2:ns.headD 0∈ns:=by cases ns with | nil=>show absurd rfl cD | cons x r=>show aL
 show#[λz=>#[_,h2, ∅],λz=>#[_,h1, ∅]]
def Jw (l0:0<=len)(z0:0<=Z)(hb: ∀x∈ns, -Z - 1<=x /\ x<=Z)(hn:ns.length<=n):(rD ns len).length<=max n (2*Z+2).toNat:=by
 unfold rD;by_cases hc:len=0 \/ ns= []
 rw[am hc];lia;rw[ai hc,aR];have cD:ns≠ []:=λe=>hc (.inr e);have hl:0<len:=by have:=λe=>hc (.inl e);lia
 have h1:ns.getLastD 0∈ns:=lW cD;have h2:ns.headD 0∈ns:=by cases ns with | nil=>show absurd rfl cD | cons x r=>show aL
 have b1:=hb _ h1;have b2:=hb _ h2;unfold oO rA;rw[aa,aa,bO,bO];lia
def At (s0:0<s):x - s<s*hI s x /\ s*hI s x<=x:=by unfold hI;rw[ai ∅];have h1:=Int.emod_add_mul_ediv x s;have h2:=c6 x (show s≠0 by lia);have h3:=cJ x s0;show#[∅, ∅]
def cU (h:look m x≠0):x∈df m:=by
 rcases l7 (m:=m) (x:=x) with⟨h1,h2,_⟩ | ⟨q,h1,h2⟩
 show absurd h2 h;have h3:=List.find?_some h1;have h4:=List.mem_of_find?_eq_some h1;exact af.mpr #[q,h4,?_];first | show of_decide_eq_true h3 | show beq_iff_eq.mp h3 | simpa using h3
def d8 (ga:GD p a)(h:x∈df a):0<look a x /\ look a x<p:=by let⟨z,hz,rfl⟩:=af.mp h;rw[gI ga.1 hz];show ga.2 z hz
def wM (s0:0<=s)(hh:h∈kq s f (df a)):f+h*s∈df a /\ bE s (f+h*s)=f:=by let⟨x,hx,e⟩:=af.mp hh;have h1:=(ay.mp hx).1;have h2:bE s x=f:= ⇑((ay.mp hx).2);have h3:=iF s0 h2;rw[e] at h3;rw[<- h3];show#[h1,h2]
theorem jZ (h:x∈df a)(e:bE s x=f):hI s x∈kq s f (df a):=af.mpr #[x,ay.mpr #[h, ⇑e],rfl]
def wG (s0:0<=s):ko s (bE s x):=by unfold ko bE;by_cases h:s=0;show .inl h;rw[ai h];show .inr #[c6 _ h,cJ _ ∅]
structure Mn (s f m t:Int)(a:Pt):Prop where
 mn:gE ((df a).map (bE s)) f
 lo:m∈kq s f (df a)
 hi:t∈kq s f (df a)
 bd: ∀h∈kq s f (df a),m<=h /\ h<=t
def Mn.ok (h:Mn s f m t a)(s0:0<=s):ko s f:=by let⟨x,_,e⟩:=af.mp h.mn.1;rw[<- e];show wG s0
def xk {f t m s:Int}:f+(t - m)*s+s*m=f+t*s:=by rw[Int.sub_mul,be s m];lia
def CY (p1:1<p)(s0:0<=s)(ga:GD p a)(N:Mn s f m t a)(yc:tn*look a (f+t*s) % p=1)(e: ∀x,look b x=look a (x+s*m)*tn % p)(UT:foot*look b f % p=1)(f0:0<foot)(f1:foot<p):AL s p b f (t - m) foot:=by
 have lit: ∀x,look b x≠0 ->x+s*m∈df a:=λx hx=>cU λz=>hx (by rw[e,z,bi];rfl);have col: ∀x,bE s (x+s*m)=bE s x:=λx=>by rw[be];show yJ x m
 exact#[N.ok s0,by have:=N.bd _ N.lo;lia,λz=> ?_,λx hx=> ?_,λx hx hc=> ?_,?_,by rw[be];show UT,f0,f1];let⟨x,_,e1⟩:=af.mp N.lo;let⟨y,_,e2⟩:=af.mp N.hi;rw[<- e1, <- e2];unfold hI;rw[am z,am z];rfl;rw[<- col x];show N.mn.2 _ (af.mpr #[_,lit x hx,rfl]);have h1:=N.bd _ (jZ (lit x hx) ((col x).trans hc));by_cases z:s=0;have h2:=N.bd _ N.lo;unfold hI;rw[am z];lia;rw[be,qX z] at h1;lia;rw[e,xk,be];show yc
def zt (s0:0<=s)(p0:0<p)(ga:GD p a)(N:Mn s f m t a)(nz:NZ p tn)(e: ∀x,look b x=look a (x+s*m)*tn % p):0<look b f /\ look b f<p:=by have h1:=d8 ga (wM s0 N.lo).1;have h2:=nz _ h1.1 h1.2;rw[e,be s m];have h3:=c6 (look a (f+m*s)*tn) (show p≠0 by lia);have h4:=cJ (look a (f+m*s)*tn) p0;lia
def TZ {a:Pt}(cD:a≠ [])(cC:ms.Perm (kq s (fE ((df a).map (bE s))) (df a)))(iZ:ms.Pairwise (· <= ·)): ms≠ [] /\ Mn s (fE ((df a).map (bE s))) (ms.headD 0) (ms.getLastD 0) a:=by
 have lu:df a≠ []:=λe=>cD (List.map_eq_nil_iff.mp e);have mn:=fA (l:=(df a).map (bE s)) (λe=>lu (List.map_eq_nil_iff.mp e));let⟨x,hx,e⟩:=af.mp mn.1;have pc:ms≠ []:=λz=>by have:=cC.mem_iff.mpr (jZ hx e);rw[z] at this;cases this
 have hl:=lV iZ pc;exact#[pc,mn,cC.mem_iff.mp ?_,cC.mem_iff.mp (lW pc),λh hh=>#[wj iZ h (cC.mem_iff.mpr hh),hl.2 h (cC.mem_iff.mpr hh)]];cases ms with | nil=>show absurd rfl pc | cons x r=>show aL
def O1 (R S:gY):jc:=λxs M q=>Ej λ(r dr rl rp:gY) (p s:Int) (a:Pt) (P:Pq)=>cO λ(B:Nat) (D:Int)=>nH (xs= [wi p,wi s,wr r]) (M r=some (.ins R dr [("lamps",wr rl),("parts",wr rp)])) (p=2 \/ p=3 \/ p=5 \/ p=7) (0<=s) (s<=8) (cZ p M rl rp a P) (a≠ []) (Ek (Wt D a) (0<=D) (D<=2000000) (∀t∈P,t.2.2.length<=B) (B<=8000000) (P.length<=1000) (∀M' o ds ol op b Q f m t foot tn,M' o=some (.ins S ds [("lamps",wr ol),("parts",wr op),("first",wi f),("length",wi (t - m)),("foot",wi foot)]) ->cZ p M' ol op b Q ->AL s p b f (t - m) foot ->Mn s f m t a ->0<tn ->tn<p ->tn*look a (f+t*s) % p=1 ->(∀x,look b x=look a (x+s*m)*tn % p) ->(∀w x,look (pf Q w) x=look (pf P w) (x+m)*tn % p) ->Sm M M' ->(∀x∈o::b7 ol op Q,M x=none) ->(∀t∈Q,t.2.2.length<=B) ->(∀w∈Q.map (·.1),w∈P.map (·.1)) ->q (wr o) M'))
end WQ
namespace WL
open PySem L2
theorem Mc (h:WQ.mR p M M'):WQ.mR p M (um M' p o):=λb u n e=>by rw[aJ n];show h b u n e
def AD {α β:Type}{l:fk α}{fW:α ->W}(gW:β ->W)(R:α ->fk W ->Prop)(n:Nat){M1:Mp}(hz:l.length*n<sizeLine)(kf: ∀p M,M1 p=none ->WQ.mR p M1 M ->keep M)(hs: ∀a∈l, ∀p M ys,M1 p=none ->WQ.mR p M1 M ->M p=some (.lst ys) -> ∀ (B:eE ->fk W ->(Mp ->Prop) ->Mp ->Prop) (N0:Mp ->Prop),(∀ρ2 gM (bs:fk β) (eW:β ->W) M4,WQ.mR p M M4 ->M4 p=some (.lst ys) ->R a (bs.map eW) ->bs.length<=n ->(∀M',WQ.mR p M4 M' ->gM M') ->(∀b∈bs, ∀M',WQ.mR p M4 M' -> ∀N:fG W ->Mp ->Prop,N (some (eW b)) M' ->g2 (gW b) ρ2 M' λρ3 M5=>c2 ρ3 M5 λb M6=>iU b (el ρ3 M6 λz M7=>N (some z) M7) (N none M6)) ->B ρ2 (bs.map gW) gM M4) ->g (fW a) (mx own fr ρ) M λρ2 M2=>c ρ2 M2 λb M3=>iU b (ya ρ2 M3 λwT gM M4=>B ρ2 wT gM M4) (N0 M3))(hq: ∀p M (yss:fk (fk W)),M1 p=none ->WQ.mR p M1 M ->M p=some (.lst yss.flatten) ->yss.length=l.length ->(∀ (i:Nat) a zs,l[i]? =some a ->yss[i]? =some zs ->R a zs) ->q (wr p) M): wE (l.map fW) keep own fr g c ya g2 c2 el ρ M1 q:=by
 intro p hp;exact#[λi ys M=>WQ.mR p M1 M /\ M p=some (.lst ys) /\ ∃yss:fk (fk W),fZ (yss.length=i) (ys=yss.flatten) (ys.length<=i*n) (∀ (j:Nat) a zs,l[j]? =some a ->yss[j]? =some zs ->R a zs),#[Mc (WQ.mR.refl p M1),au,[],rfl,rfl,du _,λj a zs _ h=>by simp at h],?_,?_,?_];rintro i ys M hi ⟨h1,h2,_⟩;show#[kf p M hp h1,h2];rintro i x ys M hx ⟨h1,h2,yss,h3,h4,h5,h6⟩;let⟨a,ha,rfl⟩:=jy hx;have DG:=(aj.mp ha).1;have ik:(i+1)*n<=l.length*n:=dv _ DG;have K3:(i+1)*n=i*n+n:=by rw[Nat.add_mul,Nat.one_mul]
 exact hs a (ar ha) p M ys hp h1 h2 (λρ2 wT gM M4=>PN wT gM g2 c2 el ρ2 p ys M4 _) (λM3=>_) ?_;intro ρ2 gM bs eW M4 k1 k2 k3 k4 k5 k6;exact#[λj zs M'=>WQ.mR p M4 M' /\ M' p=some (.lst zs) /\ zs=ys++(bs.take j).map eW,#[WQ.mR.refl p M4,k2,by simp],?_,?_,?_];rintro j zs M' hj ⟨z1,z2,rfl⟩;exact#[k5 M' z1,z2,?_];rw[aR,aa,bg];lia;rintro j y zs M' hy ⟨z1,z2,rfl⟩;let⟨b,hb,rfl⟩:=jy hy;have e2:bs.take (j+1)=bs.take j++ [b]:=by rw[bC,hb];rfl
 exact k6 b (ar hb) M' z1 (λo M5=>match o with
 | some z=>M5 p=some (.lst (ys++(bs.take j).map eW)) /\ (WQ.mR p M4 (um M5 p (.lst (ys++(bs.take j).map eW++ [z]))) /\ um M5 p (.lst (ys++(bs.take j).map eW++ [z])) p=some (.lst (ys++(bs.take j).map eW++ [z])) /\ ys++(bs.take j).map eW++ [z]=ys++(bs.take (j+1)).map eW)
 | none=>WQ.mR p M4 M5 /\ M5 p=some (.lst (ys++(bs.take j).map eW)) /\ ys++(bs.take j).map eW=ys++(bs.take (j+1)).map eW) ?_
 show#[z2,Mc z1,au,by rw[e2,aO];simp];rintro zs M' ⟨z1,z2,rfl⟩;rw[aa,bQ] at*;exact#[h1.trans (k1.trans z1),z2,yss++ [bs.map eW],by simp[h3],by rw[h4];simp,?_,λj a' zs' I_ Rk=> ?_];rw[aR,aa];lia;rw [List.getElem?_append] at Rk;split at Rk;show h6 j a' zs' I_ Rk;rename_i hj;have jK:j=i:=by let⟨q1,_⟩:=aj.mp Rk;simp at q1;lia
 subst jK;rw[ha] at I_;cases I_;rw[h3,Nat.sub_self] at Rk;cases Rk;show k3;rintro ys M ⟨h1,h2,yss,h3,h4,h5,h6⟩;rw[aa] at h3;show hq p M yss hp h1 (h4▸h2) h3 h6
end WL
namespace WQ
open PySem L2 WL WP
abbrev h_:=Int×Int×Int
def jv (t:h_):W:= .tup [wi t.1,wi t.2.1,wi t.2.2]
def gd (p n:Int)(P:Pq):fk h_:=P.flatMap λt=>t.2.2.map λz=>(t.1,z.1,z.2*n % p)
def To:jc:=λxs M q=>Lq λ(rl rp:gY) (p n:Int) (a:Pt) (P:Pq) (B:Nat)=>nH (xs= [wi p,wr rp,wi n]) (0<p) (p<1000) (-1000<n) (n<1000) (cZ p M rl rp a P) (P.length<=1000) (fZ (∀t∈P,t.2.2.length<=B) (B<=16000000) (P.length*B<=16000000) (∀t M' (tl:fk h_),Sm M M' ->M t=none ->M' t=some (.lst (tl.map jv)) ->tl.Perm (gd p n P) ->q (wr t) M'))
def E8 (g:(m.map (·.1)).Nodup){yY:fk Int}(h:yY.Perm (df m)):(yY.map λsh=>((w,sh,look m sh*n % p):h_)).Perm (m.map λz=>(w,z.1,z.2*n % p)):=by
 have h1:=h.map λsh=>((w,sh,look m sh*n % p):h_)
 have e:(df m).map (λsh=>((w,sh,look m sh*n % p):h_))=m.map λz=>(w,z.1,z.2*n % p):=by unfold df;rw[aE];apply bJ;intro z hz;simp![Function.comp];rw[gI g hz]
 rw[e] at h1;show h1
theorem ud {p n:Int}{P:Pq}(hg: ∀w,((pf P w).map (·.1)).Nodup): ∀ {ws:fk Int} {yss:fk (fk W)},yss.length=ws.length ->(∀ (i:Nat) a zs,ws[i]? =some a ->yss[i]? =some zs -> ∃yY:fk Int,yY.Perm (df (pf P a)) /\ zs=yY.map λsh=>jv (a,sh,look (pf P a) sh*n % p)) ->∃tl:fk h_,yss.flatten=tl.map jv /\ tl.Perm (ws.flatMap λw=>(pf P w).map λz=>(w,z.1,z.2*n % p))
 | [],[],_,_=>#[[],rfl, .nil]
 | [],_::_,h,_=>by cases h
 | _::_,[],h,_=>by cases h
 | w::ws,zs::yss,h,hR=>by let⟨yY,h1,e1⟩:=hR 0 w zs rfl rfl;let⟨tl,e2,h2⟩:=ud hg (ws:=ws) (yss:=yss) ⇑h λi a z ha hz=>hR (i+1) a z ⇑ha ⇑hz;exact#[(yY.map λsh=>((w,sh,look (pf P w) sh*n % p):h_))++tl,?_,?_];rw[List.flatten_cons,e2,e1,aO,aE];rfl;rw[List.flatMap_cons];show(E8 (hg w) h1).append h2
def CW (nd:(P.map (·.1)).Nodup)(hg: ∀w,((pf P w).map (·.1)).Nodup){ws:fk Int}(cC:ws.Perm (P.map (·.1))){yss:fk (fk W)}(dj:yss.length=ws.length)(hR: ∀ (i:Nat) a zs,ws[i]? =some a ->yss[i]? =some zs -> ∃yY:fk Int,yY.Perm (df (pf P a)) /\ zs=yY.map λsh=>jv (a,sh,look (pf P a) sh*n % p)): ∃tl:fk h_,yss.flatten=tl.map jv /\ tl.Perm (gd p n P):=by
 let⟨tl,e,h⟩:=ud hg dj hR;exact#[tl,e,h.trans ?_];have h2:=cC.flatMap_right λw=>(pf P w).map λz=>((w,z.1,z.2*n % p):h_)
 exact h2.trans (List.Perm.of_eq ?_);unfold gd;rw[List.flatMap_def,List.flatMap_def,aE];congr 1;apply bJ;intro t ht;simp![Function.comp];rw[jY nd ht]
theorem oT (G:Int ->Int)(x:Int): ∀d:Pt,dH G d=G x*dq d x+dH G (hU d x)
 | []=>by simp[dH,dq,hU]
 | z ::r=>by
  have ih:=oT G x r;rw[cE,ih];unfold hU;rw[List.filter_cons];by_cases e:z.1=x;rw[ai ⇑e];have:dq (z::r) x=z.2+dq r x:=by change(if z.1=x then z.2 else 0)+dq r x=_;rw[am e]
  rw[this,e,Int.mul_add];show(Int.add_assoc _ _ _).symm;rw[am ⇑e,cE];have:dq (z::r) x=dq r x:=by change(if z.1=x then z.2 else 0)+dq r x=_;rw[ai e,bA]
  rw[this];show Int.add_left_comm _ _ _
theorem lN (x y:Int): ∀d:Pt,dq (hU d x) y=if y=x then 0 else dq d y
 | []=>by simp[hU,dq]
 | z ::r=>by have ih:=lN x y r;have e1:dq (z::r) y=(if z.1=y then z.2 else 0)+dq r y:=rfl;unfold hU at ih ⊢;rw[List.filter_cons];by_cases e:z.1=x;rw[ai ⇑e,ih,e1];by_cases ey:y=x;rw[am ey,am ey];rw[ai ey,ai ey,ai (λq=>ey (by rw[<- q,e])),bA];rw[am ⇑e];change(if z.1=y then z.2 else 0)+_=_;rw[ih,e1];by_cases ey:y=x;rw[am ey,am ey,ai (λq=>e (by rw[q,ey]))];rfl;rw[ai ey,ai ey]
theorem lH {p:Int}(G:Int ->Int): ∀ (n:Nat) (d:Pt),d.length<=n ->(∀x,dq d x % p=0) ->dH G d % p=0
 | n,[],_,_=>Int.zero_emod _
 | 0,_::_,h,_=>by simp at h
 | n +1,z::r,h,ht=>by
  rw[oT G z.1];have hl:(hU (z::r) z.1).length<=n:=by unfold hU;rw[List.filter_cons,ai (by simp)];have:=eY (λq:Int×Int=>decide (q.1≠z.1)) r;simp![aP] at h;lia
  have ih:=lH G n _ hl λx=>by rw[lN];split;rfl;show ht x
  rw[aX,ih,bP,ht,cb];simp
theorem oU (G:Int ->Int)(b:Pt): ∀a:Pt,dH G (a++b)=dH G a+dH G b
 | []=>by change dH G b=0+_;rw[bA]
 | z::r=>by rw[List.cons_append,cE,cE,oU G b r,Int.add_assoc]
theorem sP (G:Int ->Int)(k:Int): ∀a:Pt,dH G (tm k a)=dH G a*k
 | []=>by change(0:Int)=0*k;simp
 | z::r=>by have:tm k (z::r)=(z.1,z.2*k)::tm k r:=rfl;rw[this,cE,cE,sP G k r,eR,eB]
def rc (G:Int ->Int)(h: ∀x,dq a x % p=dq b x % p):dH G a % p=dH G b % p:=by
 have h1:=lH (p:=p) G _ (a++tm (-1) b) (ap _) λx=>by rw[iz,rB,Int.mul_neg,d7, <- Int.sub_eq_add_neg];show cK.mp (h x)
 rw[oU,sP,Int.mul_neg,d7, <- Int.sub_eq_add_neg] at h1;show cK.mpr h1
theorem wD (x:Int): ∀js:Pt,dH (λsh=>if x - sh=0 then 1 else 0) js=dq js x
 | []=>rfl
 | z::r=>by rw[cE,wD x r];change _=(if z.1=x then z.2 else 0)+dq r x;by_cases e:z.1=x;rw[am e,am ∅,eQ];rw[ai e,ai ∅,bi]
def CH (js:Pt):dH (λ_=>0) js=0:=by
 induction js with
 | nil=>rfl
 | cons z r ih=>rw[cE,ih,bi];rfl
def ku (s:Int)(sts:fk Pt)(P:Pq)(x:Int):Nat ->Int
 | 0=>0
 | n+1=>ku s sts P x n+dH (λsh=>look (sts.getD n []) (x - s*sh)) (pf P n)
theorem xg {s p:Int}{sts:fk Pt}{P P':Pq}(hP: ∀w,((pf P w).map (·.1)).Nodup)(Ny: ∀w,((pf P' w).map (·.1)).Nodup)(x:Int): ∀n:Nat,(∀w:Nat,w<n -> ∀y,look (pf P' w) y % p=look (pf P w) y % p) ->ku s sts P' x n % p=ku s sts P x n % p
 | 0,_=>rfl
 | n+1,h=>by have ih:=xg (s:=s) (sts:=sts) (p:=p) hP Ny x n λw hw=>h w ∅;rw[ku,ku,aX,ih,rc (p:=p) _ (a:=pf P' n) (b:=pf P n) λy=>by rw[dY (Ny n),dY (hP n)];show h n ∅ y, <- aX]
theorem Kh: ∀ {a b:fk Int},a.Pairwise (· <= ·) ->b.Pairwise (· <= ·) ->a.Perm b ->a=b:=λ{a b} ha hb h=>List.Perm.eq_of_pairwise (le:=(· <= ·)) (λx y _ _ h1 h2=> ∅) ha hb h
structure Sr (s p:Int)(st:Pt)(c len D:Int):Prop where
 pat:cW p st
 ok:ko s c
 l0:0<=len
 s0:s=0 ->len=0
 ge: ∀x∈df st,c<=bE s x
 qe: ∀x∈df st,bE s x=c ->0<=hI s x /\ hI s x<=len
 bot:c∈df st
 top:look st (c+len*s)=1
 wt:Wt D st
def As (ok:ko s c):hI s c=0:=by unfold hI;obtain h | h:=ok;rw[am h];rw[ai ∅];show Int.ediv_eq_zero_of_lt h.1 h.2
theorem Sr.E7 (h:Sr s p st c len D):c+len*s∈df st:=cU (by rw[h.top];decide)
def Sr.A3 (h:Sr s p st c len D):hI s (c+len*s)=len:=by by_cases z:s=0;rw[h.s0 z];unfold hI;rw[am z];show jB h.ok z len
def Sr.uniq (h:Sr s p st c len D)(h':Sr s p st c' xT D'):c=c' /\ len=xT:=by
 have e:c=c':=by have h1:=h.ge c' h'.bot;have h2:=h'.ge c h.bot;rw[h'.ok.own] at h1;rw[h.ok.own] at h2;lia
 subst e;have h1:=h'.qe _ h.E7 (h.ok.on len);have h2:=h.qe _ h'.E7 (h.ok.on xT);rw[h.A3] at h1;rw[h'.A3] at h2;show#[rfl, ∅]
def Sr.mn (h:Sr s p st c len D)(s0:0<=s)(N:Mn s f m t st):f=c /\ m=0 /\ t=len:=by
 have e:f=c:=gE.uniq N.mn #[af.mpr #[c,h.bot,h.ok.own],λx hx=>by let⟨y,hy,rfl⟩:=af.mp hx;show h.ge y hy];subst e;have b1:=N.bd _ (jZ h.bot h.ok.own);have b2:=N.bd _ (jZ h.E7 (h.ok.on len));rw[As h.ok] at b1;rw[h.A3] at b2;have sT: ∀y∈kq s f (df st),0<=y /\ y<=len:=λy hy=>by let⟨x,hx,e⟩:=af.mp hy;have:=h.qe x (ay.mp hx).1 ⇑((ay.mp hx).2);rw[e] at this;show this
 have b3:=sT _ N.lo;have b4:=sT _ N.hi;show#[rfl, ∅, ∅]
def abP (s p:Int)(st:Pt)(g g':Int ->Int):Prop:=Lq λ(a b:Pt) (f len D foot:Int) (ms:fk Int)=>nH (GD p a) (look a=g) (look b=look st) (Sr s p st f len D) (0<foot) (foot<p) (foot*look st f % p=1) (d_ (ms.Perm (kq s f (df a))) (ms.Pairwise (· <= ·)) (g'=AB s p f len foot b (rD ms len) g))
def TkI (s p:Int)(sts:fk Pt)(g0:Int ->Int):Nat ->(Int ->Int) ->Prop
 | 0,g=>g=g0
 | i+1,g'=> ∃g,TkI s p sts g0 i g /\ abP s p (sts.getD i []) g g'
structure qK (s p:Int)(sts:List Pt)(D:Int):Prop where
 each: ∀ (i:Nat) st,sts[i]? =some st ->cO λc len=>Sr s p st c len D /\ len<3000000
 vI: ∀ (i j:Nat) st bD c len c' xT,i<j ->sts[i]? =some st ->sts[j]? =some bD ->Sr s p st c len D ->Sr s p bD c' xT D ->c<c'
structure jH (s p:Int)(sts:List Pt)(D Y:Int)(pat e9:Pt)(P:Pq)(n:Nat):Prop where
 chain:TkI s p sts (look pat) n (look e9)
 low: ∀ (i:Nat) st c len,i<n ->sts[i]? =some st ->Sr s p st c len D -> ∀x,bE s x=c ->look e9 x≠0 ->0<=hI s x /\ hI s x<len
 rel: ∀x,look e9 x=(look pat x+ku s sts P x n) % p
 keys: ∀w∈P.map (·.1),0<=w /\ w< (n:Int)
 rE:s=0 -> ∀w x,look (pf P w) x≠0 ->x=0
 Ez: ∀w x,look (pf P w) x≠0 -> -Y - 1<=x /\ x<=Y
 nd:(P.map (·.1)).Nodup
 gp: ∀t∈P,GD p t.2.2
def O0:jc:=λxs M q=>Lq λ(p s D Z Zm:Int) (sts:fk Pt) (pat:Pt)=>nH (xs= [wi p,wi s, .tup (sts.map bN),bN pat]) (p=2 \/ p=3 \/ p=5 \/ p=7) (0<=s) (s<=8) (qK s p sts D) (cW p pat) (Wt Z pat) (Ek (0<=Z) (0<=D) (D<=400000) (Z+sts.length*(D+s) <=Zm) (Zm<=400000) (sts.length<=13) (∀t M' e9 (tl:fk h_) P,cW p e9 ->Wt Zm e9 ->jH s p sts D Zm pat e9 P sts.length ->tl.Perm (gd p (-1) P) ->Sm M M' ->M t=none ->M' t=some (.lst (tl.map jv)) ->q (.tup [bN e9,wr t]) M'))
def FT (h:x∉m.map (·.1)):mj m x v=m++ [(x,v)]:=by unfold mj;rw[ai (λe=>h (oW.mp e))]
def FY (m:Pt):fk (cH×W):=m.map λz=>((Sum.inl z.1:cH),wi z.2)
def wy (m:Pt)(nd:(m.map (·.1)).Nodup):(FY m).foldl (λm p=>kc m p.1 p.2) []=fY m:=by
 have key: ∀ (b a:Pt),((a++b).map (·.1)).Nodup ->(FY b).foldl (λm p=>kc m p.1 p.2) (fY a)=fY (a++b):=by
  intro b;induction b with
  | nil=>intro a _;rw[List.append_nil];rfl
  | cons z r ih=>
   intro a h;have hx:z.1∉a.map (·.1):=λhm=>by rw[aO,aI] at h;show(List.nodup_append.mp h).2.2 _ hm _ aL rfl
   change(FY r).foldl _ (kc (fY a) (.inl z.1) (wi z.2))=_;rw[qS,FT hx,ih (a++ [z]) (by rw[cu];show h),cu];rfl
 show key m [] nd
def vR (m:Pt):bN m= .tup ((FY m).map λp=> .tup [gq p.1,p.2]):=by unfold bN FY;rw[aE];rfl
theorem ff (h:cW p m):GD p m:=#[(cG.mpr h.2).imp λh e=>by rw[e] at h;show absurd h (Int.lt_irrefl _),h.1]
theorem fI {g:Int ->Int}: ∀ {js:Pt},(∀j∈js,g j.1=0) ->dH g js=0
 | [],_=>rfl
 | z::r,h=>by rw[cE,h z aL,bi,fI (js:=r) λj hj=>h j (av _ hj)];rfl
theorem jH.ext (h:jH s p sts D Y pat a P n)(e:look b=look a):jH s p sts D Y pat b P n:=#[by rw[e];show h.chain,by rw[e];show h.low,by rw[e];show h.rel,h.keys,h.rE,h.Ez,h.nd,h.gp]
def BH (gp: ∀t∈P,GD p t.2.2)(w:Int):((pf P w).map (·.1)).Nodup:=by
 unfold pf;cases e:P.find? (λt=>decide (t.1=w)) with
 | none=>show List.nodup_nil
 | some t=>show(gp t (iE e).1).1
def DW {p a b b' c c':Int}(h1:b' % p=b % p)(h2:c' % p=c % p):(a+b+c) % p=(a+(b'+c')) % p:=by
 have h3:(b+c) % p=(b'+c') % p:=by rw[aX, <- h1, <- h2, <- aX]
 rw[Int.add_assoc,aX,h3, <- aX]
def jH.step {js:Pt}(tk:jH s p sts D Y pat c P i)(p0:0<p)(s0:0<=s)(fP:qK s p sts D)(f8:sts[i]? =some st)(sr:Sr s p st cl len D)(eb:look b=look st)(f0:0<foot)(f1:foot<p)(hf:foot*look st cl % p=1)(gc:GD p c)(ME:(P'.map (·.1)).Nodup)(_F: ∀t∈P',GD p t.2.2)(ec: ∀x,look c' x=(look c x+dH (λsh=>look b (x - s*sh)) js) % p)(ep: ∀w x,look (pf P' w) x=(look (pf P w) x+dH (λsh=>look (pf Q w) (x - sh)) js) % p)(eq: ∀w x,look (pf Q w) x=if w=(i:Int) /\ x=0 then 1 else 0)(ej:s=0 -> ∀j∈js,j.1=0)(tQ: ∀x,bE s x=cl ->look c' x≠0 ->0<=hI s x /\ hI s x<len)(mN: ∀x,bE s x<cl ->look c' x=look c x)(EC: ∀w∈P'.map (·.1),w∈P.map (·.1) \/ w=(i:Int))(y3: ∃ms:fk Int,d_ (ms.Perm (kq s cl (df c))) (ms.Pairwise (· <= ·)) (look c'=AB s p cl len foot b (rD ms len) (look c)))(IV: ∀j∈js, -Y - 1<=j.1 /\ j.1<=Y):jH s p sts D Y pat c' P' (i+1):=by
 have K4:sts.getD i []=st:=by rw[a9,f8];rfl
 let⟨ms,m1,m2,m3⟩:=y3;have Qb:(i:Int)∉P.map (·.1):=λh=>by have:=(tk.keys _ h).2;lia
 have q0: ∀w,w≠(i:Int) -> ∀x,dH (λsh=>look (pf Q w) (x - sh)) js=0:=λw hw x=>fI λj _=>by rw[eq,ai (λz=>hw z.1)]
 exact#[#[look c,tk.chain,#[c,b,cl,len,D,foot,ms,gc,rfl,by rw[K4];show eb,by rw[K4];show sr,f0,f1,by rw[K4];show hf,m1,m2,m3]],λj bD c2 Gz hj oC SS x hx cD=> ?_,λx=> ?_,λw hw=> ?_,λhs w x cD=> ?_,λw x cD=> ?_,ME,_F];obtain z | z:=bU j i;have fU:=fP.vI j i bD st c2 Gz cl len z oC f8 SS sr;rw[mN x ∅] at cD;show tk.low j bD c2 Gz z oC SS x hx cD;have:j=i:= ∅;subst this;rw[f8] at oC;cases oC;let⟨rfl,rfl⟩:=sr.uniq SS;show tQ x hx cD;rw [ec,tk.rel,dJ];have h1:=xg (s:=s) (p:=p) (sts:=sts) (BH tk.gp) (BH _F) x i λw hw y=>by rw[ep,q0 w ∅,a6,cc]
 have h2:=rc (p:=p) (λsh=>look st (x - s*sh)) (a:=pf P' i) (b:=js) λy=>by
  rw[dY (BH _F i),ep,kD Qb];have:dH (λsh=>look (pf Q i) (y - sh)) js=dH (λsh=>if y - sh=0 then 1 else 0) js:=by congr 1;funext sh;rw[eq];by_cases z:y - sh=0;rw[am #[rfl,z],am z];rw[ai (λq=>z q.2),ai z]
  rw[this,wD];change(0+_) % p % p=_;rw[bA,cc]
 rw[ku,K4,eb];show DW h1 h2;obtain z | z:=EC w hw;have:=tk.keys w z;push_cast;lia;rw[z];push_cast;lia;by_cases z:x=0;show z;exfalso;exact cD ?_;rw[ep];have h1:look (pf P w) x=0:=by by_cases y:look (pf P w) x=0;show y;show absurd (tk.rE hs w x y) z
 rw[h1,fI λj hj=>by rw[eq,ej hs j hj,ai (λq=>z (by have:=q.2;lia))]];rfl;by_cases h1:look (pf P w) x=0;by_cases z: -Y - 1<=x /\ x<=Y;show z;exfalso;exact cD ?_;rw[ep,h1,fI λj hj=>by rw[eq,ai (λq=>z (by have:=IV j hj;have:=q.2;lia))]];rfl;show tk.Ez w x h1
def jH.len (h:jH s p sts D Y pat a P n):P.length<=n:=by have:=fM (l:=rA 0 n) h.nd λk hk=>i_.mpr (by have:=h.keys k hk;lia);rw[aa] at this;unfold rA at this;rw[aa,bO] at this;show this
def J9 {Q:Pq}(nd:(Q.map (·.1)).Nodup)(h: ∀w∈Q.map (·.1),w∈ [i]):Q.length<=1:=by have:=fM (l:= [i]) nd h;rw[aa] at this;show this
def Tv:jc:=λxs M q=>Lr λ(a:gY) (p s n:Int) (tl:fk h_)=>l_ (xs= [wi p,wi s,wi n,wr a]) (M a=some (.lst (tl.map jv))) (∀t∈tl,0<=t.1 /\ t.1<n) (∀t∈tl,0<t.2.2 /\ t.2.2<p) (s=0 -> ∀t∈tl,t.2.1=0) (q (wb true) M)
def putL (s:Int)(sts:fk Pt)(tl:fk h_):Pt:=tl.flatMap λt=>(sts.getD t.1.toNat []).map λz=>(z.1+t.2.1*s,z.2*t.2.2)
theorem kh {α β:Type}{f:α ->fk β}{L:Nat}: ∀ {l:fk α},(∀a∈l,(f a).length<=L) ->(l.flatMap f).length<=l.length*L
 | [],_=>du _
 | a::r,h=>by have h1:=h a aL;have h2:=kh (l:=r) λb hb=>h b (av _ hb);rw[List.flatMap_cons,aR,aP,Nat.add_mul,Nat.one_mul];lia
def yj {sts:fk Pt}{w:Int}(h0:0<=w)(h1:w<sts.length):sts.getD w.toNat []∈sts:=by rw[a9,ae (show w.toNat<sts.length by lia)];show cq _
def C6 {tl:fk h_}(h:tl[i]? =some t):putL s sts (tl.take (i+1))=putL s sts (tl.take i)++(sts.getD t.1.toNat []).map λz=>(z.1+t.2.1*s,z.2*t.2.2):=by unfold putL;rw[bC,h,List.flatMap_append];simp
def Sr.qZ (h:Sr s p st c len D):cg s st=c:=by
 have cD:(df st).map (bE s)≠ []:=by intro e;have:=List.mem_map_of_mem (f:=bE s) h.bot;rw[e] at this;cases this
 show gE.uniq (fA cD) #[af.mpr #[c,h.bot,h.ok.own],λx hx=>by let⟨y,hy,rfl⟩:=af.mp hx;show h.ge y hy]
def Sr.nO (h:Sr s p st c len D):dN s st=len:=by
 unfold dN;rw[h.qZ];have hm:len∈kq s c (df st):=by have:=jZ h.E7 (h.ok.on len);rw[h.A3] at this;show this
 have cD:kq s c (df st)≠ []:=λe=>by rw[e] at hm;cases hm
 exact kQ.uniq (jN cD) #[hm,λy hy=> ?_];let⟨x,hx,e⟩:=af.mp hy;have:=h.qe x (ay.mp hx).1 ⇑((ay.mp hx).2);rw[e] at this;show this.2
def xf (h:t∈gd p n P): ∃u∈P, ∃z∈u.2.2,t=(u.1,z.1,z.2*n % p):=by unfold gd at h;let⟨u,hu,h⟩:=List.mem_flatMap.mp h;let⟨z,hz,e⟩:=af.mp h;show#[u,hu,z,hz,e.symm]
structure Tl (s p Y:Int)(n:Nat)(tl:List h_):Prop where
 key: ∀t∈tl,0<=t.1 /\ t.1< (n:Int)
 val: ∀t∈tl,0<t.2.2 /\ t.2.2<p
 rE:s=0 -> ∀t∈tl,t.2.1=0
 Ez: ∀t∈tl, -Y - 1<=t.2.1 /\ t.2.1<=Y
 len:tl.length<=n*(2*Y+2).toNat
def jH.tl (h:jH s p sts D Y pat a P n)(hp:p=2 \/ p=3 \/ p=5 \/ p=7)(Y0:0<=Y){tl:fk h_}(cC:tl.Perm (gd p (-1) P)):Tl s p Y n tl:=by
 have nz:NZ p (-1):=n9 hp (by obtain rfl | rfl | rfl | rfl:=hp <;>decide);have lk: ∀u∈P, ∀z∈u.2.2,look (pf P u.1) z.1≠0:=λu hu z hz=>by rw[jY h.nd hu,gI (h.gp u hu).1 hz];have:=(h.gp u hu).2 z hz;lia
 have mm: ∀t∈tl, ∃u∈P, ∃z∈u.2.2,t=(u.1,z.1,z.2* -1 % p):=λt ht=>xf (cC.mem_iff.mp ht);exact#[λt ht=> ?_,λt ht=> ?_,λhs t ht=> ?_,λt ht=> ?_,?_];let⟨u,hu,z,hz,rfl⟩:=mm t ht;show h.keys u.1 (af.mpr #[u,hu,rfl]);let⟨u,hu,z,hz,rfl⟩:=mm t ht;have h1:=(h.gp u hu).2 z hz;have h2:=nz z.2 h1.1 h1.2;have h3:=c6 (z.2* -1) (show p≠0 by lia);have h4:=cJ (z.2* -1) (show 0<p by lia);change 0<z.2* -1 % p /\ z.2* -1 % p<p;lia;let⟨u,hu,z,hz,rfl⟩:=mm t ht;show h.rE hs u.1 z.1 (lk u hu z hz);let⟨u,hu,z,hz,rfl⟩:=mm t ht;show h.Ez u.1 z.1 (lk u hu z hz);rw[cC.length_eq];unfold gd;exact aT (kh (L:=(2*Y+2).toNat) λu hu=> ?_) (dv _ h.len);rw[aa];have:=fM (l:=rA (-Y - 1) (2*Y+2).toNat) (h.gp u hu).1 λk hk=>by let⟨z,hz,rfl⟩:=af.mp hk;have:=h.Ez u.1 z.1 (lk u hu z hz);show i_.mpr ∅
 rw[aa] at this;unfold rA at this;rw[aa,bO] at this;show this
theorem A4 {s x:Int}{sts:fk Pt}{t:Int×gY×Pt}{r:Pq}(h:t.1∉r.map (·.1))(t0:0<=t.1): ∀n:Nat,ku s sts (t::r) x n=ku s sts r x n+if t.1< (n:Int) then dH (λsh=>look (sts.getD t.1.toNat []) (x - s*sh)) t.2.2 else 0
 | 0=>by rw[ai (by simp;lia)];rfl
 | n +1=>by
  rw[ku,ku,A4 h t0 n,i0];by_cases e:t.1=(n:Int)
  have e2:t.1.toNat=n:= ∅;rw[am e,ai ∅,am (by push_cast;lia), <- e,kD h,e2];change _+0+_=_+0+_;lia;rw[ai e];by_cases z:t.1< (n:Int);rw[am z,am (by push_cast;lia)];lia;rw[ai z,ai (by push_cast;lia)];lia
theorem E_ {s x:Int}{sts:fk Pt}: ∀n:Nat,ku s sts [] x n=0
 | 0=>rfl
 | n+1=>by rw[ku,E_ n];rfl
theorem zn {s x:Int}{sts:fk Pt}{n:Nat}: ∀ {P:Pq},(P.map (·.1)).Nodup ->(∀w∈P.map (·.1),0<=w /\ w< (n:Int)) ->ku s sts P x n=(P.map λt=>dH (λsh=>look (sts.getD t.1.toNat []) (x - s*sh)) t.2.2).sum
 | [],_,_=>E_ n
 | t::r,nd,hk=>by rw[aI,bI] at nd;have ht:=hk t.1 (by simp);rw[A4 nd.1 ht.1,am ht.2,zn nd.2 λw hw=>hk w (by rw[aI];show av _ hw),aI,eh,Int.add_comm]
theorem uc (k v x:Int): ∀st:Pt,dq (st.map λz=>(z.1+k,z.2*v)) x=dq st (x - k)*v
 | []=>by change(0:Int)=0*v;simp
 | z::r=>by rw[aI];change(if z.1+k=x then z.2*v else 0)+dq (r.map λz=>(z.1+k,z.2*v)) x=((if z.1=x - k then z.2 else 0)+dq r (x - k))*v;rw[uc k v x r,eR];by_cases e:z.1+k=x;rw[am e,am ∅];rw[ai e,ai ∅,bi]
def gU (s x:Int)(sts:fk Pt)(t:h_):Int:=dq (sts.getD t.1.toNat []) (x - t.2.1*s)*t.2.2
theorem rC (s x:Int)(sts:fk Pt): ∀tl:fk h_,dq (putL s sts tl) x=(tl.map (gU s x sts)).sum
 | []=>rfl
 | t::r=>by have ih:=rC s x sts r;unfold putL at ih ⊢;rw[List.flatMap_cons,iz,uc,ih,aI,eh];rfl
def xj {α:Type}{f:α ->Int}{a b:fk α}(h:a.Perm b):(a.map f).sum=(b.map f).sum:=by
 induction h with
 | nil=>rfl
 | cons x _ ih=>rw[aI,aI,eh,eh,ih]
 | swap x y l=>simp![aI,eh];lia
 | trans _ _ h1 h2=>show h1.trans h2
theorem Bz {p:Int}(F:Int ->Int): ∀m:Pt,((m.map λz=>F z.1*(z.2* -1 % p)).sum+dH F m) % p=0
 | []=>by simp[dH]
 | z::r=>by have ih:=Bz (p:=p) F r;rw[aI,eh,cE];have e:F z.1*(z.2* -1 % p)+(r.map λz=>F z.1*(z.2* -1 % p)).sum+(F z.1*z.2+dH F r)=(F z.1*(z.2* -1 % p)+F z.1*z.2)+((r.map λz=>F z.1*(z.2* -1 % p)).sum+dH F r):= ∅;rw[e,aX,ih,a6,cc, <- Int.mul_add,bP,dJ];have e2:z.2* -1+z.2=0:= ∅;rw[e2,Int.zero_emod,cb,Int.zero_emod]
theorem By {s p x:Int}{sts:fk Pt}(hn: ∀i:Nat,((sts.getD i []).map (·.1)).Nodup): ∀P:Pq,(((gd p (-1) P).map (gU s x sts)).sum+(P.map λt=>dH (λsh=>look (sts.getD t.1.toNat []) (x - s*sh)) t.2.2).sum) % p=0
 | []=>by simp[gd]
 | t ::r=>by
  have ih:=By (s:=s) (p:=p) (x:=x) hn r;have h1:=Bz (p:=p) (λsh=>look (sts.getD t.1.toNat []) (x - s*sh)) t.2.2;have e1:((t.2.2.map λz=>((t.1,z.1,z.2* -1 % p):h_)).map (gU s x sts))=t.2.2.map λz=>(λsh=>look (sts.getD t.1.toNat []) (x - s*sh)) z.1*(z.2* -1 % p):=by rw[aE];apply bJ;intro z _;simp![Function.comp,gU];rw[dY (hn _),be z.1 s]
  unfold gd at ih ⊢;rw[List.flatMap_cons,aO,List.sum_append,e1,aI,eh];generalize (t.2.2.map λz=>(λsh=>look (sts.getD t.1.toNat []) (x - s*sh)) z.1*(z.2* -1 % p)).sum=u1 at h1 ⊢;generalize dH (λsh=>look (sts.getD t.1.toNat []) (x - s*sh)) t.2.2=u2 at h1 ⊢;generalize (List.map (gU s x sts) _).sum=u3 at ih ⊢;generalize (r.map λt=>dH (λsh=>look (sts.getD t.1.toNat []) (x - s*sh)) t.2.2).sum=u4 at ih ⊢;have e:u1+u3+(u2+u4)=(u1+u2)+(u3+u4):= ∅;rw[e,aX,h1,ih];rfl
def jH.back {pat e9:Pt}(h:jH s p sts D Y pat e9 P n)(p0:0<p)(gp:GD p pat)(hn: ∀i:Nat,((sts.getD i []).map (·.1)).Nodup){tl:fk h_}(cC:tl.Perm (gd p (-1) P))(x:Int): (look e9 x+dq (putL s sts tl) x) % p=look pat x:=by have h1:=By (s:=s) (p:=p) (x:=x) hn P;rw[rC,xj cC,h.rel,zn h.nd h.keys,dJ];generalize (List.map (gU s x sts) (gd p (-1) P)).sum=u at h1 ⊢;generalize (P.map λt=>dH (λsh=>look (sts.getD t.1.toNat []) (x - s*sh)) t.2.2).sum=v at h1 ⊢;have e:look pat x+v+u=look pat x+(u+v):= ∅;rw[e,aX,h1,a6,cc,c9 p0 gp]
end WQ
namespace L2
open PySem
def Ey:Nat ->(fk fm ->Prop) ->Prop
 | 0,p=>p []
 | n+1,p=> ∀v,Ey n λus=>p (v::us)
theorem Ey.to: ∀ {n:Nat} {p:fk fm ->Prop},Ey n p -> ∀us,us.length=n ->p us
 | 0,_,h,[],_=>h
 | _+1,_,h,v::us,e=>Ey.to (h v) us (Nat.succ.inj e)
theorem cI {kV lB pm cdv ct:fm}(X:K.In h)(G:h.Ns mainGlobals mg)(a:W.nsIn K mainGlobals x=some (some (.ref f)))(l:K.lookup f=some #[oc,od, .func (W.fnOf x x (hV st) (fV st) (bn st) .none kV lB pm an cdv ct),EA])(c:W.codeIn K cdv x=true)(k:W.keepIn K (.ref f)=true)(b: ∀ (kV lB pm:fm) (an:fG gY) (cdv ct:fm),Ey ps.length λus=>bindArgs (W.fnOf x x (hV st) (fV st) (bn st) .none kV lB pm an cdv ct) #[us,[]]=pure (ps.zip us):=by(repeat intro _);rfl): jU K mg x ps st f (W.fnOf x x (hV st) (fV st) (bn st) .none kV lB pm an cdv ct):=#[W.mg_of X G a,wq l c k,(wq (st:=st) l c k).binds λkV lB pm an cdv ct us e=>(b kV lB pm an cdv ct).to us e]
theorem HV {kV lB pm cdv ct:fm}(X:K.In h)(G:h.Ns mainGlobals mg)(a:W.nsIn K mainGlobals x=some (some (.ref C)))(g:W.findIn K (.ref C) "__init__" =some (some (.ref f)))(l:K.lookup f=some #[oc,od, .func (W.fnOf "__init__" q (hV st) (fV st) (bn st) .none kV lB pm an cdv ct),EA])(c:W.codeIn K cdv q=true)(k:W.keepIn K (.ref f)=true)(h1:W.makesIn K C=true)(h2:W.isFn K (.ref f)=true)(h3:W.keepIn K (.ref C)=true)(h4:W.plainGet K C Str.empty=true)(h5:W.hasDictIn K C=true)(h6:W.plainOver K C=true)(h7:W.findIn K (.ref C) "__setattr__" =some (some (.builtin "object.__setattr__")))(b: ∀ (kV lB pm:fm) (an:fG gY) (cdv ct:fm),Ey ps.length λus=>bindArgs (W.fnOf "__init__" q (hV st) (fV st) (bn st) .none kV lB pm an cdv ct) #[us,[]]=pure (ps.zip us):=by(repeat intro _);rfl): VG K mg x q ps st C f (W.fnOf "__init__" q (hV st) (fV st) (bn st) .none kV lB pm an cdv ct):=#[W.mg_of X G a,#[h1,g,h2,h3],#[h4,h5,h6,h7],wq l c k,(wq (st:=st) l c k).binds λkV lB pm an cdv ct us e=>(b kV lB pm an cdv ct).to us e]
theorem r8 (_:VG K mg x q ps st C f fd)(a:Str)(e:W.findIn K (.ref C) a=some none):fi K C a:=e
def PD {l:W.OpenLaw}(T:jU K mg "law" [p] st f fd)(hfa:mg "law" =some (.ref fa))(hb: ∀ (kV lB pm:fm) (an:fG gY) (cdv ct v:fm),bindArgs (W.fnOf "law" "law" (hV st) (fV st) (bn st) .none kV lB pm an cdv ct) #[[v],[]]=pure [(p,v)])(ok: ∀base,dR l.prog w K mg base iq kd f fd [p] (WQ.xn K)): ∃fd:FuncData,(∀ (s:fo) (v:fm),BindsTo s fd #[[v],[]] [(p,v)]) /\ ∀base:Heap,K.In base ->base.Ns mainGlobals mg ->dR l.prog w K mg base iq kd fa fd [p] (WQ.xn K):=by have e:=hfa.symm.trans T.at_;cases e;let⟨oc,od,kV,lB,pm,an,cdv,ct,EA,rfl,lk,DJ⟩:=T.fn.ex;show#[_,λs v=> .of_eq (hb kV lB pm an cdv ct v),λbase _ _=>ok base]
end L2
namespace WQ
open PySem L2 WL WP
theorem kI {p:Int}(G:Int ->Int): ∀ (n:Nat) (d:Pt),d.length<=n ->(∀x,G x*dq d x % p=0) ->dH G d % p=0
 | n,[],_,_=>Int.zero_emod _
 | 0,_::_,h,_=>by simp at h
 | n +1,z::r,h,ht=>by
  rw[oT G z.1];have hl:(hU (z::r) z.1).length<=n:=by unfold hU;rw[List.filter_cons,ai (by simp)];have:=eY (λq:Int×Int=>decide (q.1≠z.1)) r;simp![aP] at h;lia
  have ih:=kI G n _ hl λx=>by rw[lN];split;rw[cb];rfl;show ht x
  rw[aX,ih,ht];rfl
theorem ve (v:Int): ∀js:Pt,dH (λ_=>v) js=v*dH (λ_=>1) js
 | []=>by change(0:Int)=v*0;simp
 | z::r=>by rw[cE,cE,ve v r,Int.mul_add,eQ]
def kt (h:dq d x≠0):x∈d.map (·.1):=by exact ao λhn=>h (A1 λq hq e=>hn (af.mpr #[q,hq,e]))
def nr (G:Int ->Int)(d:Pt)(m:Int)(h: ∀y,y≠m ->G y*dq d y % p=0):dH G d % p=G m*dq d m % p:=by rw[oT G m,aX,kI (p:=p) G _ (hU d m) (ap _) λx=>by rw[lN];split;rw[cb];rfl;rename_i e;show h x e];rw[a6,cc]
def Sr.out (h:Sr s p st c len D)(hs:s≠0)(hk:¬(0<=k /\ k<=len)):look st (c+k*s)=0:=by exact ao λhn=>hk ?_;have:=h.qe _ (cU hn) (h.ok.on k);rwa [jB h.ok hs] at this
def CJ {st js:Pt}(hp:p=2 \/ p=3 \/ p=5 \/ p=7)(s0:0<=s)(sr:Sr s p st c len D)(low: ∀x,bE s x=c ->dH (λsh=>look st (x - s*sh)) js % p≠0 ->0<=hI s x /\ hI s x<len)(x:Int):dH (λsh=>look st (x - s*sh)) js % p=0:=by
 have p0:0<p:= ∅;by_cases z:s=0;have e: ∀x,dH (λsh=>look st (x - s*sh)) js=look st x*dH (λ_=>1) js:=λx=>by rw[<- ve];congr 1;funext sh;rw[z,bi,Int.sub_zero]
 have ht:=sr.top;rw[z,cb,a6] at ht;have h0:dH (λ_=>1) js % p=0:=by exact ao λhn=> ?_;have:=low c sr.ok.own (by rw[e,ht,eQ];show hn);have:=sr.s0 z;lia
 rw[e,bP,h0,cb];rfl;have C0:0<s:= ∅;have hmul: ∀a b:Int,c+a*s - s*b=c+(a - b)*s:=λa b=>by rw[Int.sub_mul,be s b];lia
 suffices wo: ∀y,dq js y % p=0 by show lH _ _ _ (ap _) wo
 intro y;exact ao λhy=> ?_;have cD:(js.map (·.1)).filter (λy=>decide (dq js y % p≠0))≠ []:=λe=>by have:y∈(js.map (·.1)).filter (λy=>decide (dq js y % p≠0)):=ay.mpr #[kt λe0=>hy (by rw[e0];rfl),bH hy];rw[e] at this;cases this
 let⟨ma,mb⟩:=jN cD;let⟨la,lb⟩:=fA cD;generalize uz _=m at ma mb;generalize fE _=k at la lb;have hm:dq js m % p≠0:= ⇑((ay.mp ma).2);have hk:dq js k % p≠0:= ⇑((ay.mp la).2);have wX: ∀y,dq js y % p≠0 ->k<=y /\ y<=m:=λy h=>by have:y∈(js.map (·.1)).filter (λy=>decide (dq js y % p≠0)):=ay.mpr #[kt λe0=>h (by rw[e0];rfl),bH h];show#[lb y this,mb y this]
 have out: ∀y,¬(k<=y /\ y<=m) ->dq js y % p=0:=λy h=>ao λh2=>h (wX y h2);have h1:=low (c+(len+m)*s) (sr.ok.on _) (by rw[nr _ js m λy ne=> ?_,hmul,show len+m - m=len by lia,sr.top,eQ];show hm;rw[hmul];obtain h | h:=cS m y;rw[bP,out y ∅,cb];rfl;rw[sr.out z ∅,bi];rfl);rw[jB sr.ok z] at h1;have hc:=d8 (ff sr.pat) sr.bot;have h2:=low (c+k*s) (sr.ok.on _) (by rw[nr _ js k λy ne=> ?_,hmul,Int.sub_self,bi,a6];show n9 hp hk _ hc.1 hc.2;rw[hmul];obtain h | h:=cS y k;rw[bP,out y ∅,cb];rfl;rw[sr.out z ∅,bi];rfl);rw[jB sr.ok z] at h2;have:=(wX k hk).2;lia
def gz (s:Int)(sts:fk Pt)(J:Nat ->Pt)(x:Int):Nat ->Int
 | 0=>0
 | n+1=>gz s sts J x n+dH (λsh=>look (sts.getD n []) (x - s*sh)) (J n)
theorem A5 (s:Int)(sts:fk Pt)(P:Pq)(x:Int): ∀n,ku s sts P x n=gz s sts (λi=>pf P i) x n
 | 0=>rfl
 | n+1=>by rw[ku,gz,A5 s sts P x n]
theorem vC (s:Int)(sts:fk Pt)(J J':Nat ->Pt)(x:Int): ∀n,gz s sts (λi=>J i++J' i) x n=gz s sts J x n+gz s sts J' x n
 | 0=>rfl
 | n+1=>by rw[gz,gz,gz,vC s sts J J' x n,oU];lia
theorem rJ (s:Int)(sts:fk Pt)(J:Nat ->Pt)(k x:Int): ∀n,gz s sts (λi=>tm k (J i)) x n=gz s sts J x n*k
 | 0=>by change(0:Int)=0*k;simp
 | n+1=>by rw[gz,gz,rJ s sts J k x n,sP,eR]
theorem vB (s:Int)(sts:fk Pt)(x:Int): ∀n,gz s sts (λ_=> []) x n=0
 | 0=>rfl
 | n+1=>by rw[gz,vB s sts x n];rfl
theorem px {s p:Int}{sts:fk Pt}{J:Nat ->Pt}{x:Int}{i:Nat}: ∀n,i<n ->(∀j,j<n ->j≠i ->dH (λsh=>look (sts.getD j []) (x - s*sh)) (J j) % p=0) ->gz s sts J x n % p=dH (λsh=>look (sts.getD i []) (x - s*sh)) (J i) % p
 | 0,h,_=>absurd h (Nat.not_lt_zero _)
 | n + 1,h,hj=>by
  rw[gz];by_cases e:i=n;subst e;have: ∀m,m<=i ->gz s sts J x m % p=0:=λm=>by
   induction m with
   | zero=>intro _;show Int.zero_emod _
   | succ m ih=>intro hm;rw[gz,aX,ih ∅,hj m ∅ ∅];rfl
  rw[aX,this i (ap _),bA,cc];rw[aX,px n ∅ (λj h1 h2=>hj j ∅ h2),hj n ∅ (λq=>e q.symm),a6,cc]
def abN (s p:Int)(sts:fk Pt)(D:Int)(g:Int ->Int):Prop:= ∀ (i:Nat) st c len,sts[i]? =some st ->Sr s p st c len D -> ∀x,bE s x=c ->g x % p≠0 ->0<=hI s x /\ hI s x<len
def Be (hp:p=2 \/ p=3 \/ p=5 \/ p=7)(s0:0<=s)(fP:qK s p sts D)(e: ∀x,g x % p=gz s sts J x sts.length % p)(low:abN s p sts D g)(x:Int):gz s sts J x sts.length % p=0:=by
 have get: ∀i st,sts[i]? =some st ->sts.getD i []=st:=λi st h=>by rw[a9,h];rfl
 have key : ∀ (i:Nat),i<sts.length -> ∀x,dH (λsh=>look (sts.getD i []) (x - s*sh)) (J i) % p=0:=λi=>by
  induction i using Nat.strongRecOn with
  | ind i ih=>intro hi x;let⟨c,len,sr,_⟩:=fP.each i _ (ae hi);rw[get i _ (ae hi)];exact CJ hp s0 sr (λx hx cD=> ?_) x;exact low i _ c len (ae hi) sr x hx ?_;rw[e,px (i:=i) _ hi λj hj Qh=> ?_,get i _ (ae hi)];show cD;obtain h | h:=bU j i;show ih j h hj x;let⟨c2,Gz,sr2,_⟩:=fP.each j _ (ae hj);have fU:=fP.vI i j _ _ c len c2 Gz ∅ (ae hi) (ae hj) sr sr2;rw[get j _ (ae hj)];rw[fI λk _=> ?_];rfl;exact ao λhn=> ?_;have:=sr2.ge _ (cU hn);rw[gu,hx] at this;lia
 have: ∀m,m<=sts.length ->gz s sts J x m % p=0:=λm=>by
  induction m with
  | zero=>intro _;show Int.zero_emod _
  | succ m ih=>intro hm;rw[gz,aX,ih ∅,key m ∅];rfl
 show this _ (ap _)
def QR (s p:Int)(sts:fk Pt)(D:Int)(r:Pt):Prop:= ∀ (i:Nat) st c len,sts[i]? =some st ->Sr s p st c len D -> ∀x,bE s x=c ->look r x≠0 ->0<=hI s x /\ hI s x<len
def xz {f:Int ->Int}(hp:p=2 \/ p=3 \/ p=5 \/ p=7)(s0:0<=s)(fP:qK s p sts D)(h:cW p r)(h':cW p r')(l:QR s p sts D r)(l':QR s p sts D r')(e: ∀x,look r x % p=(f x+gz s sts J x sts.length) % p)(e': ∀x,look r' x % p=(f x+gz s sts J' x sts.length) % p):r=r':=by
 have p0:0<p:= ∅;exact n6 h h' λx=> ?_;have k: ∀x,(look r x - look r' x) % p=gz s sts (λi=>J i++tm (-1) (J' i)) x sts.length % p:=λx=>by rw[vC,rJ,Int.sub_emod,e,e', <- Int.sub_emod];congr 1;lia
 have hz:=Be hp s0 fP k (λi st c len hi sr x hx cD=>by by_cases z:look r x=0;by_cases z':look r' x=0;exact absurd ?_ cD;change(look r x - look r' x) % p=0;rw[z,z'];rfl;show l' i st c len hi sr x hx z';show l i st c len hi sr x hx z) x;rw[<- k x] at hz;have a:=jz p0 h x;have b:=jz p0 h' x;have:=Int.emod_emod_of_dvd;obtain q | q:=cS (look r x) (look r' x);have h2:(look r x - look r' x+p) % p=0:=by rw[Int.add_emod_right];show hz
 rw[cx ∅ ∅] at h2;lia;rw[cx ∅ ∅] at hz;lia
theorem jH.lowP (h:jH s p sts D Y pat r P sts.length):QR s p sts D r:=λi st c len hi=>h.low i st c len (aj.mp hi).1 hi
def jH.eqv (h:jH s p sts D Y pat r P sts.length)(x:Int):look r x % p=(look pat x+gz s sts (λi=>pf P i) x sts.length) % p:=by rw[h.rel,A5,cc]
def og (p0:0<p)(ha:cW p a)(hb:cW p b)(y n x:Int):look (kM p (a++zW y n b)) x=(look a x+look b (x - y)*n) % p:=by rw[jA p0,iz,Po,rB,zm,xc ha.2,xc hb.2]
def CQ (p0:0<p)(ha:cW p a)(hb:cW p b)(h:look (kM p (a++zW y n b)) x≠0):look a x≠0 \/ look b (x - y)≠0:=by by_cases z:look a x=0;exact .inr λz'=>h ?_;rw[og p0 ha hb,z,z',bi];rfl;show .inl z
def O3:jc:=λxs M q=>Lq λ(p s D Z Zm:Int) (sts:fk Pt) (pat:Pt)=>nH (xs= [wi p,wi s, .tup (sts.map bN),bN pat]) (p=2 \/ p=3 \/ p=5 \/ p=7) (0<=s) (s<=8) (qK s p sts D) (cW p pat) (Wt Z pat) (Ek (0<=Z) (0<=D) (D<=400000) (Z+sts.length*(D+s) <=Zm) (Zm<=400000) (sts.length<=13) (∀e9 P,cW p e9 ->Wt Zm e9 ->jH s p sts D Zm pat e9 P sts.length ->q (bN e9) M))
def fu (s p:Int)(sts:fk Pt)(f:Int ->Int):Prop:= ∃J:Nat ->Pt, ∀x,f x % p=gz s sts J x sts.length % p
theorem fu.ext (h:fu s p sts f)(e: ∀x,g x % p=f x % p):fu s p sts g:=h.elim λJ hJ=>#[J,λx=>(e x).trans (hJ x)]
theorem fu.zero:fu s p sts λ_=>0:=#[λ_=> [],λx=>by rw[vB]]
def fu.add (h:fu s p sts f)(h':fu s p sts g):fu s p sts λx=>f x+g x:=by let⟨J,hJ⟩:=h;let⟨J',Xg⟩:=h';show#[λi=>J i++J' i,λx=>by rw[vC,aX,hJ,Xg, <- aX]]
def fu.mul (h:fu s p sts f)(k:Int):fu s p sts λx=>f x*k:=by let⟨J,hJ⟩:=h;show#[λi=>tm k (J i),λx=>by rw[rJ,bP,hJ, <- bP]]
theorem wB (G:Int ->Int)(k:Int): ∀js:Pt,dH (λsh=>G (sh+k)) js=dH G (mv k js)
 | []=>rfl
 | z::r=>by have:mv k (z::r)=(z.1+k,z.2)::mv k r:=rfl;rw[this,cE,cE,wB G k r]
theorem Fx (s:Int)(sts:fk Pt)(J:Nat ->Pt)(k x:Int): ∀n,gz s sts (λi=>mv k (J i)) x n=gz s sts J (x - s*k) n
 | 0=>rfl
 | n+1=>by rw[gz,gz,Fx s sts J k x n, <- wB];congr 2;funext sh;rw[Int.mul_add];congr 1;lia
def fu.shift (h:fu s p sts f)(k:Int):fu s p sts λx=>f (x - s*k):=by let⟨J,hJ⟩:=h;show#[λi=>mv k (J i),λx=>by rw[Fx,hJ]]
theorem fu.dH {s p:Int}{sts:fk Pt}{f:Int ->Int}(h:fu s p sts f): ∀js:Pt,fu s p sts λx=>dH (λsh=>f (x - s*sh)) js
 | []=>fu.zero
 | z::r=>((h.shift z.1).mul z.2).add (fu.dH h r)
theorem rK (s:Int)(sts:fk Pt)(k:Nat)(v:Pt)(x:Int): ∀n,gz s sts (λi=>if i=k then v else []) x n=if k<n then dH (λsh=>look (sts.getD k []) (x - s*sh)) v else 0
 | 0=>rfl
 | n +1=>by rw[gz,rK s sts k v x n];by_cases e:n=k;subst e;rw[am rfl,ai (bT _),am (cF _),bA];rw[ai e];by_cases h:k<n;rw[am h,am ∅];change _+0=_;rw[a6];rw[ai h,ai ∅];rfl
def fu.of (h:st∈sts):fu s p sts (look st):=by let⟨i,hi⟩:=cA.mp h;have hl:=(aj.mp hi).1;exact#[λj=>if j=i then [(0,1)] else [],λx=> ?_];rw[rK,am hl,a9,hi];change _=(look st (x - s*0)*1+0) % p;rw[cb,Int.sub_zero,d7,a6]
theorem fu.gz {s p:Int}{sts:fk Pt}{sts':fk Pt}(h: ∀st∈sts,fu s p sts' (look st))(J:Nat ->Pt): ∀n,n<=sts.length ->fu s p sts' λx=>gz s sts J x n
 | 0,_=>fu.zero
 | n+1,hn=>by
  have hm:sts.getD n []∈sts:=by rw[a9,ae ∅];show cq _
  show(fu.gz h J n ∅).add ((h _ hm).dH (J n))
def fu.trans (hf:fu s p sts f)(h: ∀st∈sts,fu s p sts' (look st)):fu s p sts' f:=by let⟨J,hJ⟩:=hf;show(fu.gz h J _ (ap _)).ext hJ
theorem nM (s:Int)(A B:fk Pt)(J:Nat ->Pt)(x:Int): ∀n,gz s (A++B) J x (A.length+n)=gz s A J x A.length+gz s B (λi=>J (A.length+i)) x n
 | 0 =>by
  have: ∀n,n<=A.length ->gz s (A++B) J x n=gz s A J x n:=λn=>by
   induction n with
   | zero=>intro _;rfl
   | succ n ih=>
    intro h;rw[gz,gz,ih ∅];have e:(A++B).getD n []=A.getD n []:=by rw[a9,a9,bo ∅]
    rw[e]
  rw[Nat.add_zero,this _ (ap _)];change _=_+0;rw[a6]
 | n +1=>by
  have e:(A++B).getD (A.length+n) []=B.getD n []:=by rw[a9,a9,a5 ∅,Nat.add_sub_cancel_left]
  rw[<- Nat.add_assoc,gz,nM s A B J x n,gz,e,Int.add_assoc]
def AJ (p:Nat):Nat ->fk (fk Int)
 | 0=> [[]]
 | n+1=>(List.range p).flatMap λa:Nat=>(AJ p n).map λv=>(a:Int)::v
theorem lK {p:Nat}: ∀ {n:Nat} {v:fk Int},v∈AJ p n↔v.length=n /\ ∀a∈v,0<=a /\ a<p
 | 0,v=>by change v∈ [[]]↔_;rw[ah];symm;rintro rfl;show#[rfl,λa h=>by cases h];rintro⟨h,_⟩;show di.mp h
 | n + 1,v=>by
  change v∈(List.range p).flatMap _↔_;rw[List.mem_flatMap];symm;rintro⟨a,ha,hv⟩;let⟨u,hu,rfl⟩:=af.mp hv;let⟨h1,h2⟩:=lK.mp hu;have:=cf.mp ha;exact#[by rw[aP,h1],λb hb=> ?_];obtain rfl | hb:=ax.mp hb;show#[∅, ∅];show h2 b hb;rintro⟨h1,h2⟩;cases v with
  | nil=>cases h1
  | cons a u=>have ha:=h2 a aL;exact#[a.toNat,cf.mpr ∅,af.mpr #[u,lK.mpr #[Nat.succ.inj h1,λb hb=>h2 b (av _ hb)],?_]];rw[show((a.toNat:Nat):Int)=a by lia]
theorem sV (p:Nat): ∀n,(AJ p n).length=p ^ n
 | 0=>rfl
 | n +1=>by
  change((List.range p).flatMap _).length=_;rw[List.length_flatMap];have:((List.range p).map λa:Nat=>((AJ p n).map λv=>(a:Int)::v).length)=List.replicate p (p ^ n):=by exact List.eq_replicate_iff.mpr #[by simp,λb hb=> ?_];let⟨a,_,rfl⟩:=af.mp hb;rw[aa,sV p n]
  rw[this,List.sum_replicate_nat,Nat.pow_succ,Nat.mul_comm]
theorem CP (p:Nat): ∀n,(AJ p n).Nodup
 | 0=>by change([[]]:fk (fk Int)).Nodup;simp
 | n +1=>by change((List.range p).flatMap _).Nodup;rw[List.Nodup,List.pairwise_flatMap];exact#[λa _=> ?_,?_];rw[cG];show(CP p n).imp λh e=>h (List.cons.inj e).2;exact List.Pairwise.imp_of_mem (R:=(· ≠ ·)) (λ{a b} _ _ h=> ?_) List.nodup_range;intro v h1 v' h2 ev;let⟨u1,_,e1⟩:=af.mp h1;let⟨u2,_,e2⟩:=af.mp h2;rw[<- ev, <- e1] at e2;show h (by have:=(List.cons.inj e2).1;lia)
def Gn {α:Type} [DecidableEq α]{ks:fk α}: ∀ {l:fk α},ks.Nodup ->(∀k∈ks,k∈l) ->ks.length<=l.length:=by
 induction ks with
 | nil=>intro l _ _;simp
 | cons k r ih=>
  intro l hn hs;rw[bI] at hn;have hk:k∈l:=hs k (by simp);have:=ih (l:=l.erase k) hn.2 λz hz=>by have Zn:z≠k:=λe=>hn.1 (e▸hz);show(List.mem_erase_of_ne Zn).mpr (hs z (by simp[hz]))
  rw[List.length_erase_of_mem hk] at this;have:0<l.length:=List.length_pos_of_mem hk;rw[aP];lia
def lc:fk Int ->fk (Int ->Int) ->Int ->Int
 | v::vs,g::gs,x=>v*g x+lc vs gs x
 | _,_,_=>0
def PB (x:Int): ∀ (gs:fk (Int ->Int)) (v u:fk Int),v.length=gs.length ->u.length=gs.length ->lc (List.zipWith (· - ·) v u) gs x=lc v gs x - lc u gs x:=by
 intro gs;induction gs with
 | nil=>intro v u h1 h2;cases di.mp h1;cases di.mp h2;rfl
 | cons g gs ih=>
  intro v u h1 h2;cases v with
  | nil=>cases h1
  | cons a v=>
   cases u with
   | nil=>cases h2
   | cons b u=>change(a - b)*g x+lc (List.zipWith (· - ·) v u) gs x=a*g x+lc v gs x - (b*g x+lc u gs x);rw[ih v u (Nat.succ.inj h1) (Nat.succ.inj h2),Int.sub_mul];lia
def EJ: ∀ {v u:fk Int},v.length=u.length ->(∀a∈List.zipWith (· - ·) v u,a % p=0) ->(∀a∈v,0<=a /\ a<p) ->(∀a∈u,0<=a /\ a<p) ->v=u:=by
 intro v;induction v with
 | nil=>intro u h _ _ _;show(di.mp h.symm).symm
 | cons a v ih=>
  intro u h hz hv hu;cases u with
  | nil=>cases h
  | cons b u=>
   have h1:=hz (a - b) aL;have h2:=ih (Nat.succ.inj h) (λc hc=>hz c (av _ hc)) (λc hc=>hv c (av _ hc)) (λc hc=>hu c (av _ hc));have ha:=hv a aL;have hb:=hu b aL;have e:a=b:=by have:=cK.mpr h1;rwa [cx ha.1 ha.2,cx hb.1 hb.2] at this
   rw[e,h2]
def QI {p:Nat}(p2:2<=p){X:fk Int}(h: ∀v:fk Int,v.length=gs.length ->(∀x∈X,lc v gs x % (p:Int)=0) -> ∀a∈v,a % (p:Int)=0):gs.length<=X.length:=by
 have p0:(0:Int) <p:= ∅;have key:((AJ p gs.length).map λv=>X.map λx=>lc v gs x % (p:Int)).Nodup:=by rw[List.Nodup,cG];exact List.Pairwise.imp_of_mem (λ{v u} hv hu cD e=>cD ?_) (CP p gs.length);let⟨v1,v2⟩:=lK.mp hv;let⟨u1,u2⟩:=lK.mp hu;exact EJ (p:=p) (v1.trans u1.symm) (h _ (by rw[List.length_zipWith,v1,u1,Nat.min_self]) λx hx=> ?_) v2 u2;rw[PB x gs v u v1 u1];show cK.mp (List.map_inj_left.mp e x hx)
 have:=Gn (l:=AJ p X.length) key λk hk=>by let⟨v,_,rfl⟩:=af.mp hk;exact lK.mpr #[by rw[aa],λa ha=> ?_];let⟨x,_,rfl⟩:=af.mp ha;show#[c6 _ ∅,cJ _ p0]
 rw[aa,sV,sV] at this;show(Nat.pow_le_pow_iff_right ∅).mp this
def NG (s:Int)(b:Pt):Int ->Nat ->fk (Int ->Int)
 | _,0=> []
 | lo,n+1=>(λx=>look b (x - s*lo))::NG s b (lo+1) n
def C8:Int ->fk Int ->Pt
 | _,[]=> []
 | lo,a::v=>(lo,a)::C8 (lo+1) v
theorem q_ (s:Int)(b:Pt): ∀ (n:Nat) (lo:Int),(NG s b lo n).length=n
 | 0,_=>rfl
 | n+1,lo=>by change(NG s b (lo+1) n).length+1=_;rw[q_ s b n]
theorem GC (s:Int)(b:Pt)(x:Int): ∀ (v:fk Int) (n:Nat) (lo:Int),v.length=n ->lc v (NG s b lo n) x=dH (λsh=>look b (x - s*sh)) (C8 lo v)
 | [],_,lo,rfl=>rfl
 | a::v,_,lo,rfl=>by change a*look b (x - s*lo)+lc v (NG s b (lo+1) v.length) x=_;rw[GC s b x v _ (lo+1) rfl];have e:C8 lo (a::v)=(lo,a)::C8 (lo+1) v:=rfl;rw[e,cE,be]
theorem vN: ∀ (v:fk Int) (lo:Int), ∀z∈C8 lo v,lo<=z.1 /\ z.1<lo+v.length
 | [],_,z,h=>by cases h
 | a::v,lo,z,h=>by rw[aP];obtain rfl | h:=ax.mp h;show#[aY _,by change lo<lo+_;push_cast;lia];have:=vN v (lo+1) z h;push_cast;lia
theorem xF {p:Int}: ∀ (v:fk Int) (lo:Int),(∀y,dq (C8 lo v) y % p=0) -> ∀a∈v,a % p=0
 | [],_,_,a,h=>by cases h
 | b ::v,lo,ht,a,h=>by
  have e: ∀y,dq (C8 lo (b::v)) y=(if lo=y then b else 0)+dq (C8 (lo+1) v) y:=λy=>rfl;have h0:dq (C8 (lo+1) v) lo=0:=A1 λq hq e=>by have:=vN v (lo+1) q hq;lia
  obtain rfl | h:=ax.mp h;have:=ht lo;rwa [e,am rfl,h0,a6] at this;exact xF v (lo+1) (λy=> ?_) a h;by_cases z:lo=y;rw[<- z,h0];rfl;have:=ht y;rwa [e,ai z,bA] at this
theorem GG (x:Int): ∀ (v1:fk Int) (g1:fk (Int ->Int)) (v2:fk Int) (g2:fk (Int ->Int)),v1.length=g1.length ->lc (v1++v2) (g1++g2) x=lc v1 g1 x+lc v2 g2 x
 | [],[],v2,g2,_=>by change lc v2 g2 x=0+_;rw[bA]
 | a::v1,g::g1,v2,g2,h=>by change a*g x+lc (v1++v2) (g1++g2) x=a*g x+lc v1 g1 x+_;rw[GG x v1 g1 v2 g2 (Nat.succ.inj h),Int.add_assoc]
def NR (s:Int)(G:fk (Pt×Int×Nat)):fk (Int ->Int):=G.flatMap λg=>NG s g.1 g.2.1 g.2.2
theorem CF (s:Int): ∀G:fk (Pt×Int×Nat),(NR s G).length=(G.map λg=>g.2.2).sum
 | []=>rfl
 | g::G=>by change(NG s g.1 g.2.1 g.2.2++NR s G).length=_;rw[aR,q_,CF s G];rfl
theorem GF {p:Int}(s:Int): ∀ (G:fk (Pt×Int×Nat)) (v:fk Int),v.length=(NR s G).length -> ∃J:Nat ->Pt,d_ (∀x,lc v (NR s G) x=gz s (G.map (·.1)) J x G.length) (∀i g,G[i]? =some g -> ∀z∈J i,g.2.1<=z.1 /\ z.1<g.2.1+g.2.2) ((∀i,i<G.length -> ∀y,dq (J i) y % p=0) -> ∀a∈v,a % p=0)
 | [],v,h=>by cases di.mp h;show#[λ_=> [],λx=>rfl,λi g h=>by simp at h,λ_ a h=>by cases h]
 | g ::G,v,h=>by
  have e:NR s (g::G)=NG s g.1 g.2.1 g.2.2++NR s G:=rfl;rw[e,aR,q_] at h;let⟨J,h1,h2,h3⟩:=GF (p:=p) s G (v.drop g.2.2) (by rw[List.length_drop,h];lia);have l1:(v.take g.2.2).length=g.2.2:=by rw[bg,h];lia
  exact#[λi=>match i with | 0=>C8 g.2.1 (v.take g.2.2) | i+1=>J i,λx=> ?_,λi u hu z hz=> ?_,λhz a ha=> ?_];have hc:=nM s [g.1] (G.map (·.1)) (λi=>match i with | 0=>C8 g.2.1 (v.take g.2.2) | i+1=>J i) x G.length;have e3:(λi=>(λi:Nat=>match i with | 0=>C8 g.2.1 (v.take g.2.2) | i+1=>J i) ([g.1].length+i))=J:=by funext i;change(match 1+i with | 0=>_ | i+1=>J i)=_;rw[Nat.add_comm]
  rw[e3] at hc;rw[e, <- bm g.2.2 v,GG x _ _ _ _ (by rw[l1,q_]),bm,GC s g.1 x _ _ _ l1,h1 x,aP,Nat.add_comm];change _=gz s ([g.1]++G.map (·.1)) _ x ([g.1].length+G.length);rw[hc];change _=0+dH (λsh=>look ([g.1].getD 0 []) (x - s*sh)) (C8 g.2.1 (v.take g.2.2))+_;rw[bA];rfl;cases i with
  | zero=>cases (show g=u from by simpa using hu);have:=vN _ _ z hz;rw[l1] at this;show this
  | succ i=>show h2 i u ⇑hu z hz
  rw[<- bm g.2.2 v] at ha;obtain ha | ha:=aA.mp ha;show xF _ _ (hz 0 (Nat.succ_pos _)) a ha;show h3 (λi hi=>hz (i+1) (by rw[aP];lia)) a ha
def vq (s p:Int)(bs:fk Pt):Prop:= ∀J:Nat ->Pt,(∀x,gz s bs J x bs.length % p=0) -> ∀i,i<bs.length -> ∀y,dq (J i) y % p=0
def qJ (s p:Int)(sts:fk Pt)(D:Int):Prop:= ∀ (i j:Nat) st bD c len,i<j ->sts[i]? =some st ->sts[j]? =some bD ->Sr s p bD c len D -> ∀x,bE s x=c ->look st x≠0 ->0<=hI s x /\ hI s x<len
def iK {sts:fk Pt}(h:sts[i]? =some st):sts.getD i []=st:=by rw[a9,h];rfl
theorem Bg {s:Int}{bs:fk Pt}{J:Nat ->Pt}{x:Int}: ∀n,(∀i,i<n -> ∀z∈J i,look (bs.getD i []) (x - s*z.1)=0) ->gz s bs J x n=0
 | 0,_=>rfl
 | n+1,h=>by rw[gz,Bg n λi hi=>h i ∅,fI λz hz=>h n ∅ z hz];rfl
def sO {w h an:Nat}(hp:p=2 \/ p=3 \/ p=5 \/ p=7)(s0:0<s)(fP:qK s p sts D)(trim:an=0 \/ qJ s p sts D)(Hr:bs.length=sts.length)(ind:vq s p bs)(ik: ∀b∈bs,fu s p sts (look b))(hw: ∀b∈bs, ∀x,look b x≠0 -> -(w:Int) <=hI s x /\ hI s x<=w)(ht:t∈sts)(hh:2*w<=h)(_z: ∀st∈sts,dN s st<=Lm)(hLh:Lm<=h)(a0:0<=alo)(a1:alo+an+Lm<=h)(out: ∀js:Pt,(∀z∈js,alo<=z.1 /\ z.1<alo+an) ->(∀x,¬(0<=hI s x /\ hI s x<h) ->dH (λsh=>look t (x - s*sh)) js % p=0) -> ∀y,dq js y % p=0): sts.length*(h - 2*w)+an+(sts.map λst=>(dN s st).toNat).sum<=sts.length*h:=by
 have p0:0<p:= ∅;have sn:s≠0:= ∅;have mV: ∀ (i:Nat) st,sts[i]? =some st ->Sr s p st (cg s st) (dN s st) D:=λi st hi=>by let⟨c,len,sr,_⟩:=fP.each i st hi;rw[sr.qZ,sr.nO];show sr
 let G:fk (Pt×Int×Nat):=bs.map (λb=>(b,(w:Int),h - 2*w))++((t,alo,an)::sts.map λst=>([(cg s st,1)],0,(dN s st).toNat))
 let X:fk Int:=sts.flatMap λst=>(List.range h).map λη:Nat=>cg s st+(η:Int)*s
 have hX:X.length=sts.length*h:=by change(sts.flatMap _).length=_;rw[List.length_flatMap];have:(sts.map λst=>((List.range h).map λη:Nat=>cg s st+(η:Int)*s).length)=List.replicate sts.length h:=List.eq_replicate_iff.mpr #[by simp,λb hb=>by let⟨a,_,rfl⟩:=af.mp hb;simp];rw[this,List.sum_replicate_nat]
 have hG:(NR s G).length=sts.length*(h - 2*w)+an+(sts.map λst=>(dN s st).toNat).sum:=by rw[CF];change((bs.map (λb=>(b,(w:Int),h - 2*w))++((t,alo,an)::sts.map λst=>([(cg s st,1)],0,(dN s st).toNat))).map λg:Pt×Int×Nat=>g.2.2).sum=_;rw[aO,List.sum_append,aI,eh,aE,aE];have:(bs.map ((λg:Pt×Int×Nat=>g.2.2) ∘ λb=>(b,(w:Int),h - 2*w)))=List.replicate bs.length (h - 2*w):=List.eq_replicate_iff.mpr #[by simp,λb hb=>by let⟨a,_,rfl⟩:=af.mp hb;rfl];rw[this,List.sum_replicate_nat,Hr,Nat.add_assoc];rfl
 rw[<- hG, <- hX];let⟨P,hP⟩: ∃P:Nat,(P:Int)=p:=#[p.toNat, ∅]
 exact QI (p:=P) ∅ λv hv hz=> ?_;rw[hP] at hz ⊢;let⟨J,e1,e2,e3⟩:=GF (p:=p) s G v hv;have GB:G.map (·.1)=bs++(t::sts.map λst=> [(cg s st,1)]):=by change(bs.map (λb=>(b,(w:Int),h - 2*w))++((t,alo,an)::sts.map λst=>([(cg s st,1)],0,(dN s st).toNat))).map (·.1)=_;rw[aO,aI,aE,aE];congr 1;show List.map_id _
 have GL:G.length=bs.length+(1+sts.length):=by change(bs.map (λb=>(b,(w:Int),h - 2*w))++((t,alo,an)::sts.map λst=>([(cg s st,1)],0,(dN s st).toNat))).length=_;rw[aR,aa,aP,aa];lia
 let C:Int ->Int:=λx=>gz s (sts.map λst=> [(cg s st,1)]) (λi=>J (bs.length+(1+i))) x sts.length
 let B:Int ->Int:=λx=>dH (λsh=>look t (x - s*sh)) (J bs.length)
 let U:Int ->Int:=λx=>gz s bs J x bs.length
 have eJ: ∀x,lc v (NR s G) x=U x+(B x+C x):=λx=>by rw[e1,GB,GL,nM];have:=nM s [t] (sts.map λst=> [(cg s st,1)]) (λi=>J (bs.length+i)) x sts.length;change U x+gz s ([t]++sts.map λst=> [(cg s st,1)]) (λi=>J (bs.length+i)) x ([t].length+sts.length)=_;rw[this];change U x+(0+dH (λsh=>look t (x - s*sh)) (J (bs.length+0))+C x)=_;rw[bA,Nat.add_zero]
 have kU: ∀i,i<bs.length -> ∀z∈J i,(w:Int) <=z.1 /\ z.1< (w:Int)+((h - 2*w:Nat):Int):=λi hi z pO=>by have:=e2 i (bs[i],(w:Int),h - 2*w) (by change(bs.map _++_)[i]? =_;rw[bo ⇑hi,az,ae hi];rfl) z pO;show this
 have kB: ∀z∈J bs.length,alo<=z.1 /\ z.1<alo+an:=λz pO=>by have:=e2 bs.length (t,alo,an) (by change(bs.map _++_)[bs.length]? =_;rw[a5 (by simp)];simp) z pO;show this
 have kC: ∀i st,sts[i]? =some st -> ∀z∈J (bs.length+(1+i)),0<=z.1 /\ z.1<dN s st:=λi st hi z pO=>by have:=e2 (bs.length+(1+i)) ([(cg s st,1)],0,(dN s st).toNat) (by change(bs.map _++_)[_]? =_;rw[a5 (by simp),aa,Nat.add_sub_cancel_left,Nat.add_comm,List.getElem?_cons_succ,az,hi];rfl) z pO;have h2:=(mV i st hi).l0;exact#[this.1,?_];have h3:=this.2;simp![bA] at h3;lia
 have zU: ∀x,¬(0<=hI s x /\ hI s x<h) ->U x=0:=λx hx=>Bg _ λi hi z pO=>ao λcD=>hx (by
  have hb:bs.getD i []∈bs:=by rw[iK (ae hi)];show cq _
  have h1:=hw _ hb _ cD;rw[lv sn] at h1;have h2:=kU i hi z pO;lia)
 have single: ∀ (c x:Int),look [(c,1)] x≠0 ->x=c:=λc x cD=>ao λhn=>cD (fH λq hq e=>hn (by rw[ah.mp hq] at e;show e.symm));have atC: ∀x i st,sts[i]? =some st ->bE s x=cg s st ->C x % p=dH (λsh=>look [(cg s st,1)] (x - s*sh)) (J (bs.length+(1+i))) % p:=λx i st hi hx=>by
  have hl:=(aj.mp hi).1;have h1:=px (s:=s) (p:=p) (sts:=sts.map λst=> [(cg s st,1)]) (J:=λi=>J (bs.length+(1+i))) (x:=x) (i:=i) sts.length hl λj hj Qh=>by
   have jK:sts[j]? =some sts[j]:=ae hj;rw[iK (st:= [(cg s sts[j],1)]) (by rw[az,jK];rfl)];rw[fI λz pO=>ao λcD=> ?_];rfl;have h2:=single _ _ cD;have h3:bE s (x - s*z.1)=cg s sts[j]:=by rw[h2];show(mV j _ jK).ok.own
   rw[gu,hx] at h3;obtain q | q:=bU i j;have:=fP.vI i j st _ _ _ _ _ q hi jK (mV i st hi) (mV j _ jK);lia;have:=fP.vI j i _ st _ _ _ _ ∅ jK hi (mV j _ jK) (mV i st hi);lia
  have e4:(sts.map λst=> [(cg s st,(1:Int))]).getD i []= [(cg s st,1)]:=iK (by rw[az,hi];rfl);rw[e4] at h1;show h1
 have dlt: ∀ (c x:Int) (js:Pt),dH (λsh=>look [(c,1)] (x - s*sh)) js=dH (λsh=>if x - s*sh=c then 1 else 0) js:=λc x js=>by congr 1;funext sh;by_cases e:x - s*sh=c;rw[am e,e];show am rfl;rw[ai e];show fH λq hq e'=>e (by rw[ah.mp hq] at e';show e'.symm)
 have Vo : ∀i st,sts[i]? =some st -> ∀x,bE s x=cg s st ->(U x+B x+C x) % p=0:=λi st hi x hx=>by
  by_cases hr:0<=hI s x /\ hI s x<h;have:x∈X:=List.mem_flatMap.mpr #[st,ar hi,af.mpr #[(hI s x).toNat,cf.mpr ∅,by rw[show(((hI s x).toNat:Nat):Int)=hI s x by lia];show(iF ∅ hx).symm]];have:=hz x this;rwa [eJ, <- Int.add_assoc] at this;have hb:B x=0:=fI λz pO=>ao λcD=>hr (by
    have h2:=kB z pO;let⟨k,hk⟩:=cA.mp ht;have hc:bE s (x - s*z.1)=cg s st:=by rw[gu];show hx
    have h3:0<=hI s (x - s*z.1) /\ hI s (x - s*z.1) <=Lm:=by obtain an0 | trim:=trim;exfalso;lia;obtain q | q | q:=Nat.lt_trichotomy k i;have:=trim k i t st _ _ q hk hi (mV i st hi) _ hc cD;have:=_z st (ar hi);lia;subst q;rw[hk] at hi;cases hi;have:=(mV k t hk).qe _ (cU cD) hc;have:=_z t ht;lia;have h5:=fP.vI i k st t _ _ _ _ q hi hk (mV i st hi) (mV k t hk);have:=(mV k t hk).ge _ (cU cD);lia
    rw[lv sn] at h3;lia)
  have hc:C x % p=0:=by
   rw[atC x i st hi hx,fI λz pO=>ao λcD=>hr ?_];rfl;have h2:=single _ _ cD;have h3:hI s (x - s*z.1)=0:=by rw[h2];show As (mV i st hi).ok
   rw[lv sn] at h3;have:=kC i st hi z pO;have:=_z st (ar hi);lia
  rw[zU x hr,hb,aX,hc];rfl
 have hUB:fu s p sts λx=>U x+B x:=(fu.gz ik J _ (ap _)).add ((fu.of ht).dH _);have hzero: ∀x,(U x+B x) % p=0:=by
  let⟨J',Xg⟩:=hUB;intro x;rw[Xg];exact Be hp ∅ fP Xg (λi st c len hi sr x hx cD=> ?_) x;have e5:=sr.uniq (mV i st hi);rw[e5.1] at hx;have h0:=Vo i st hi x hx;have Rz:C x % p≠0:=λe=>cD (by rw[aX,e,a6,cc] at h0;show h0);rw[atC x i st hi hx,dlt] at Rz;have: ∃z∈J (bs.length+(1+i)),x - s*z.1=cg s st:=ao λhn=>Rz (by rw[fI λz pO=>ai λe=>hn #[z,pO,e]];rfl);let⟨z,Rl,MW⟩:=this;have h3:hI s (x - s*z.1)=0:=by rw[MW];show As (mV i st hi).ok
  rw[lv sn] at h3;have:=kC i st hi z Rl;rw[e5.2];show#[∅, ∅]
 have hB0: ∀y,dq (J bs.length) y % p=0:=out _ kB λx hx=>by have h1:=hzero x;rw[zU x hx,bA] at h1;show h1
 have hBx: ∀x,B x % p=0:=λx=>lH _ _ _ (ap _) hB0;have hU0:=ind J λx=>by have h1:=hzero x;rw[aX,hBx,a6,cc] at h1;show h1
 exact e3 λi hi y=> ?_;rw[GL] at hi;obtain q | q | q:=Nat.lt_trichotomy i bs.length;show hU0 i q y;rw[q];show hB0 y;let⟨k,rfl⟩: ∃k,i=bs.length+(1+k):=#[i - bs.length - 1, ∅]
 have hk:sts[k]? =some sts[k]:=ae ∅;have hx:bE s (cg s sts[k]+y*s)=cg s sts[k]:=(mV k _ hk).ok.on y;have h0:=Vo k _ hk _ hx;rw[aX,hzero,bA,cc,atC _ k _ hk hx,dlt] at h0;have e6:(λsh=>if cg s sts[k]+y*s - s*sh=cg s sts[k] then(1:Int) else 0)=λsh=>if y - sh=0 then 1 else 0:=by
  funext sh;have e7:cg s sts[k]+y*s - s*sh=cg s sts[k]+(y - sh)*s:=by rw[Int.sub_mul,be s sh];lia
  by_cases z:y - sh=0;rw[am z,e7,z,am ∅];rw[ai z,e7,ai];intro e8;have:(y - sh)*s=0:= ∅;obtain h9 | h9:=Int.mul_eq_zero.mp this;show z h9;show sn h9
 rw[e6,wD] at h0;show h0
def qK.of (fP:qK s p sts D)(h:st∈sts):Sr s p st (cg s st) (dN s st) D:=by let⟨i,hi⟩:=cA.mp h;let⟨c,len,sr,_⟩:=fP.each i st hi;rw[sr.qZ,sr.nO];show sr
theorem zq {α:Type}{f:α ->Nat}: ∀ {l:fk α} {a:α},a∈l ->f a<=(l.map f).sum
 | b::l,a,h=>by rw[aI,eh];obtain rfl | h:=ax.mp h;lia;have:=zq (f:=f) h;lia
def r9 (hh:2*w<=h)(e:m*(h - 2*w)+a<=m*h):a<=2*m*w:=by
 have:m*(h - 2*w)+m*(2*w)=m*h:=by rw[<- Nat.mul_add];congr 1;lia
 have e2:m*(2*w)=2*m*w:=by rw[Nat.mul_left_comm,Nat.mul_assoc]
 lia
def BP {w:Nat}(hp:p=2 \/ p=3 \/ p=5 \/ p=7)(s0:0<s)(fP:qK s p sts D)(Hr:bs.length=sts.length)(ind:vq s p bs)(ik: ∀b∈bs,fu s p sts (look b))(hw: ∀b∈bs, ∀x,look b x≠0 -> -(w:Int) <=hI s x /\ hI s x<=w): (sts.map λst=>(dN s st).toNat).sum<=2*sts.length*w:=by
 cases hs:sts with
 | nil=>show du _
 | cons t r=>
  rw[<- hs];have ht:t∈sts:=by rw[hs];show aL
  have hL: ∀st∈sts,dN s st<=(((sts.map λst=>(dN s st).toNat).sum:Nat):Int):=λst h=>by have:=zq (f:=λst=>(dN s st).toNat) h;have:=(fP.of h).l0;lia
  have:=sO (t:=t) (w:=w) (h:=2*w+(sts.map λst=>(dN s st).toNat).sum) (an:=0) (alo:=0) (Lm:=(((sts.map λst=>(dN s st).toNat).sum:Nat):Int)) hp s0 fP (.inl rfl) Hr ind ik hw ht ∅ hL (by push_cast;lia) (aY _) (by push_cast;lia) λjs hk _ y=>by
   have:js= []:=by
    cases js with
    | nil=>rfl
    | cons z r=>have:=hk z aL;simp at this;lia
   rw[this];rfl
  rw[Nat.add_zero] at this;show r9 ∅ this
def FN {w:Nat}(hp:p=2 \/ p=3 \/ p=5 \/ p=7)(s0:0<s)(fP:qK s p sts D)(trim:qJ s p sts D)(Hr:bs.length=sts.length)(ind:vq s p bs)(ik: ∀b∈bs,fu s p sts (look b))(hw: ∀b∈bs, ∀x,look b x≠0 -> -(w:Int) <=hI s x /\ hI s x<=w)(ht:t∈sts)(hx:look t x≠0): -((2*sts.length*w:Nat):Int) <=hI s x /\ hI s x<=((2*sts.length*w:Nat):Int):=by
 have sn:s≠0:= ∅;have p0:0<p:= ∅;have hL: ∀st∈sts,dN s st<=(((sts.map λst=>(dN s st).toNat).sum:Nat):Int):=λst h=>by have:=zq (f:=λst=>(dN s st).toNat) h;have:=(fP.of h).l0;lia
 have gt:=ff (fP.of ht).pat;have cD:kq s (bE s x) (df t)≠ []:=λe=>by have:=jZ (cU hx) (rfl:bE s x=bE s x);rw[e] at this;cases this
 let⟨ma,mb⟩:=jN cD;let⟨la,lb⟩:=fA cD;generalize uz _=H at ma mb;generalize fE _=B at la lb;have hxH:=mb _ (jZ (cU hx) rfl);have hxB:=lb _ (jZ (cU hx) rfl);let⟨mh,mc⟩:=wM ∅ ma;let⟨lh,lc'⟩:=wM ∅ la;have J_:ko s (bE s x):=wG ∅;have J5: ∀k,H<k ->look t (bE s x+k*s)=0:=λk hk=>ao λhn=>by have:=mb _ (jZ (cU hn) (J_.on k));rw[jB J_ sn] at this;lia
 have YG: ∀k,k<B ->look t (bE s x+k*s)=0:=λk hk=>ao λhn=>by have:=lb _ (jZ (cU hn) (J_.on k));rw[jB J_ sn] at this;lia
 have hmul: ∀a b:Int,bE s x+a*s - s*b=bE s x+(a - b)*s:=λa b=>by rw[Int.sub_mul,be s b];lia
 have S:=BP hp s0 fP Hr ind ik hw;have xo: ∀js:Pt,(∃y,dq js y % p≠0) ->(js.map (·.1)).filter (λy=>decide (dq js y % p≠0))≠ []:=λjs ⟨y,hy⟩ e=>by have:y∈(js.map (·.1)).filter (λy=>decide (dq js y % p≠0)):=ay.mpr #[kt λe0=>hy (by rw[e0];rfl),bH hy];rw[e] at this;cases this
 have GS: ∀ (js:Pt) y,dq js y % p≠0 ->y∈(js.map (·.1)).filter (λy=>decide (dq js y % p≠0)):=λjs y hy=>ay.mpr #[kt λe0=>hy (by rw[e0];rfl),bH hy];generalize hΛ:(sts.map λst=>(dN s st).toNat).sum=Λ at hL S;symm;obtain hb | hb:=cS B 0;have :=sO (t:=t) (w:=w) (h:=(-B).toNat+Λ+2*w) (an:=(-B).toNat) (alo:=0) (Lm:=(Λ:Int)) hp s0 fP (.inr trim) Hr ind ik hw ht ∅ hL (by push_cast;lia) (aY _) (by push_cast;lia) λjs hk hz y=>by
  exact ao λhy=> ?_;let⟨k1,k2⟩:=fA (xo js #[y,hy]);generalize fE _=k at k1 k2;have ZZ:dq js k % p≠0:= ⇑((ay.mp k1).2);let⟨z,Rl,MW⟩:=af.mp (ay.mp k1).1;have ZX:=hk z Rl;rw[MW] at ZX;have h1:=hz (bE s x+(B+k)*s) (by rw[jB J_ sn];lia);rw[nr _ js k λy' ne=> ?_,hmul,show B+k - k=B by lia] at h1;have hv:=d8 gt lh;show n9 hp ZZ _ hv.1 hv.2 h1;rw[hmul];obtain h | h:=cS y' k;have:dq js y' % p=0:=ao λh2=>by have:=k2 _ (GS js y' h2);lia
  rw[bP,this,cb];rfl;rw[YG _ ∅,bi];rfl
 rw[hΛ,Nat.add_assoc] at this;have:=r9 ∅ this;lia;lia;obtain hb | hb:=cS (Λ:Int) H;have :=sO (t:=t) (w:=w) (h:=H.toNat+2*w) (an:=(H - Λ).toNat) (alo:=2*w) (Lm:=(Λ:Int)) hp s0 fP (.inr trim) Hr ind ik hw ht ∅ hL (by push_cast;lia) ∅ (by push_cast;lia) λjs hk hz y=>by
  exact ao λhy=> ?_;let⟨k1,k2⟩:=jN (xo js #[y,hy]);generalize uz _=k at k1 k2;have ZZ:dq js k % p≠0:= ⇑((ay.mp k1).2);let⟨z,Rl,MW⟩:=af.mp (ay.mp k1).1;have ZX:=hk z Rl;rw[MW] at ZX;have h1:=hz (bE s x+(H+k)*s) (by rw[jB J_ sn];push_cast;lia);rw[nr _ js k λy' ne=> ?_,hmul,show H+k - k=H by lia] at h1;have hv:=d8 gt mh;show n9 hp ZZ _ hv.1 hv.2 h1;rw[hmul];obtain h | h:=cS k y';have:dq js y' % p=0:=ao λh2=>by have:=k2 _ (GS js y' h2);lia
  rw[bP,this,cb];rfl;rw[J5 _ ∅,bi];rfl
 rw[hΛ,Nat.add_assoc] at this;have:=r9 ∅ this;lia;lia
def HA (hp:p=2 \/ p=3 \/ p=5 \/ p=7)(s0:0<=s)(fP:qK s p sts D)(h:fu s p sts A)(hz: ∀x,bE s x<c ->A x % p=0)(hx: ∃x,bE s x=c /\ A x % p≠0):c∈sts.map (cg s):=by
 let⟨J,hJ⟩:=h;let⟨x0,hx0,cD⟩:=hx;exact ao λhc=>cD ?_;have get: ∀i st,sts[i]? =some st ->sts.getD i []=st:=λi st h=>iK h;have sr: ∀i (hi:i<sts.length),Sr s p sts[i] (cg s sts[i]) (dN s sts[i]) D:=λi hi=>fP.of (cq _);have later: ∀i j (hi:i<sts.length) (hj:j<sts.length),i<j -> ∀x,bE s x<=cg s sts[i] ->dH (λsh=>look sts[j] (x - s*sh)) (J j)=0:=λi j hi hj iJ x hx=>fI λz _=>ao λhn=>by have h1:=(sr j hj).ge _ (cU hn);rw[gu] at h1;have:=fP.vI i j _ _ _ _ _ _ iJ (ae hi) (ae hj) (sr i hi) (sr j hj);lia
 have key: ∀ (i:Nat) (hi:i<sts.length),cg s sts[i] <c -> ∀x,dH (λsh=>look sts[i] (x - s*sh)) (J i) % p=0:=λi=>by
  induction i using Nat.strongRecOn with
  | ind i ih=>intro hi fU x;exact CJ hp s0 (sr i hi) (λx hx hn=> ?_) x;exfalso;exact hn ?_;have h1:=hz x ∅;rw[hJ,px (i:=i) _ hi λj hj Qh=> ?_,get i _ (ae hi)] at h1;show h1;rw[get j _ (ae hj)];obtain q | q:=bU j i;have:=fP.vI j i _ _ _ _ _ _ q (ae hj) (ae hi) (sr j hj) (sr i hi);show ih j q hj ∅ x;rw[later i j hi hj ∅ x ∅];rfl
 rw[hJ];have : ∀ m,m<=sts.length ->gz s sts J x0 m % p=0:=λm=>by
  induction m with
  | zero=>intro _;show Int.zero_emod _
  | succ m ih=>
   intro hm;have KZ:m<sts.length:= ∅;rw[gz,aX,ih ∅,get m _ (ae KZ)];have h2:dH (λsh=>look sts[m] (x0 - s*sh)) (J m) % p=0:=by obtain q | q | q:=Int.lt_trichotomy (cg s sts[m]) c;show key m KZ q x0;show absurd (af.mpr #[_,cq KZ,q]) hc;rw[fI λz _=>ao λhn=>by have h1:=(sr m KZ).ge _ (cU hn);rw[gu] at h1;lia];rfl
   rw[h2];rfl
 show this _ (ap _)
theorem rb (F G:Int ->Int): ∀js:Pt,dH (λt=>F t+G t) js=dH F js+dH G js
 | []=>rfl
 | z::r=>by rw[cE,cE,cE,rb F G r,eR];lia
theorem CG (F:Int ->Int)(k:Int): ∀js:Pt,dH (λt=>F t*k) js=dH F js*k
 | []=>by change(0:Int)=0*k;simp
 | z::r=>by rw[cE,cE,CG F k r,eR];congr 1;rw[eB,eB,be k]
theorem yH (f:Int ->Int)(s x:Int)(q:Pt): ∀a:Pt,dH (λsh=>dH (λt=>f (x - s*sh - s*t)) q) a=dH (λt=>dH (λsh=>f (x - s*t - s*sh)) a) q
 | []=>by rw[show(λt:Int=>dH (λsh=>f (x - s*t - s*sh)) [])=λ_=>0 from rfl,CH];rfl
 | z::r=>by have e:(λt=>dH (λsh=>f (x - s*t - s*sh)) (z::r))=λt=>f (x - s*t - s*z.1)*z.2+dH (λsh=>f (x - s*t - s*sh)) r:=rfl;rw[cE,yH f s x q r,e,rb,CG];congr 2;congr 1;funext t;congr 1;lia
theorem CI {p:Int}{F G:Int ->Int}(h: ∀t,F t % p=G t % p): ∀js:Pt,dH F js % p=dH G js % p
 | []=>rfl
 | z::r=>by rw[cE,cE,aX,CI h r,bP,h, <- bP, <- aX]
def Am (hp:p=2 \/ p=3 \/ p=5 \/ p=7)(s0:0<s)(fP:qK s p sts D)(Jz:qK s p sts' D')(ind:vq s p bs)(ik: ∀b∈bs,fu s p sts (look b))(dj:sts.length<sts'.length)(hq: ∀st∈sts', ∃q:Pt,fu s p sts λx=>look st x - dH (λsh=>look P (x - s*sh)) q):vq s p (bs++ [P]):=by
 have sn:s≠0:= ∅;intro J hJ;have qW: ∀x,(gz s bs J x bs.length+dH (λsh=>look P (x - s*sh)) (J bs.length)) % p=0:=λx=>by
  have h1:=hJ x;rw[aR,db,nM s bs [P] J x 1] at h1;have e:gz s [P] (λi=>J (bs.length+i)) x 1=dH (λsh=>look P (x - s*sh)) (J bs.length):=by change 0+dH (λsh=>look ([P].getD 0 []) (x - s*sh)) (J (bs.length+0))=_;rw[bA];rfl
  rw[e] at h1;show h1
 have a0 : ∀ y,dq (J bs.length) y % p=0:=by
  intro y;exact ao λhy=> ?_;have hP:fu s p sts λx=>dH (λsh=>look P (x - s*sh)) (J bs.length):=by exact((fu.gz ik J _ (ap _)).mul (-1)).ext λx=> ?_;have h1:=qW x;exact cK.mpr ?_;rw[<- h1];congr 1;lia
  have hA: ∀st∈sts',fu s p sts λx=>dH (λsh=>look st (x - s*sh)) (J bs.length):=λst f8=>by let⟨q,hq⟩:=hq st f8;exact((hq.dH (J bs.length)).add (hP.dH q)).ext λx=> ?_;rw[<- yH (look P) s x q (J bs.length), <- rb];congr 2;funext sh;lia
  have cD:((J bs.length).map (·.1)).filter (λy=>decide (dq (J bs.length) y % p≠0))≠ []:=λe=>by have:y∈((J bs.length).map (·.1)).filter (λy=>decide (dq (J bs.length) y % p≠0)):=ay.mpr #[kt λe0=>hy (by rw[e0];rfl),bH hy];rw[e] at this;cases this
  let⟨k1,k2⟩:=jN cD;generalize uz _=m at k1 k2;have hm:dq (J bs.length) m % p≠0:= ⇑((ay.mp k1).2);have UZ: ∀c∈sts'.map (cg s),c∈sts.map (cg s):=λc hc=>by
   let⟨st,f8,rfl⟩:=af.mp hc;have sr:=Jz.of f8;have hmul: ∀a b:Int,cg s st+a*s - s*b=cg s st+(a - b)*s:=λa b=>by rw[Int.sub_mul,be s b];lia
   exact HA hp ∅ fP (hA st f8) (λx hx=> ?_) #[cg s st+(dN s st+m)*s,sr.ok.on _,?_];rw[fI λz _=>ao λhn=>by have h1:=sr.ge _ (cU hn);rw[gu] at h1;lia];rfl;rw [nr _ (J bs.length) m λy' ne=> ?_,hmul,show dN s st+m - m=dN s st by lia,sr.top,eQ];show hm;rw [hmul];obtain h | h:=cS m y';have:dq (J bs.length) y' % p=0:=ao λh2=>by have:=k2 y' (ay.mpr #[kt λe0=>h2 (by rw[e0];rfl),bH h2]);lia
   rw[bP,this,cb];rfl;rw[sr.out sn ∅,bi];rfl
  have nd:(sts'.map (cg s)).Nodup:=by rw[List.Nodup,cG,bL];intro i j hi hj iJ e;have:=Jz.vI i j _ _ _ _ _ _ iJ (ae hi) (ae hj) (Jz.of (cq _)) (Jz.of (cq _));lia
  have:=fM nd UZ;rw[aa,aa] at this;lia
 intro i hi y;rw[aR,db] at hi;obtain q | q:=bU i bs.length;exact ind J (λx=> ?_) i q y;have h1:=qW x;rw[aX,lH _ _ _ (ap _) a0,a6,cc] at h1;show h1;rw[show i=bs.length by lia];show a0 y
def o9 (s Z l h:Int)(a:Pt):Prop:=(∀x,look a x≠0 -> -l<=hI s x /\ hI s x<=h) /\ (s=0 ->Wt Z a)
def pj (s l h:Int)(P:Pq):Prop:= ∀w x,look (pf P w) x≠0 -> -l<=x /\ x<=h
theorem o9.up (x:o9 s Z l h a)(hl:l<=l')(hh:h<=h'):o9 s Z l' h' a:=#[λy hy=>by have:=x.1 y hy;lia,x.2]
theorem pj.up (x:pj s l h P)(hl:l<=l')(hh:h<=h'):pj s l' h' P:=λw y hy=>by have:=x w y hy;lia
theorem l6 (x:Int):hI 0 x=0:=am rfl
theorem o9.wt (x:o9 s Z l h a)(s0:0<=s)(s8:s<=8)(z0:0<=Z)(hl:l<=E)(hh:h<=E)(e0:0<=E):Wt (Z+8*(E+1)) a:=λy hy=>by by_cases z:s=0;have:=x.2 z y hy;lia;have h1:=x.1 y hy;have h2:=At (s:=s) (x:=y) ∅;have h3:=a7 (show hI s y<=E by lia) s0;have h4:=a7 (show -E<=hI s y by lia) s0;have h5:=aS s8 e0;rw[Int.mul_neg] at h4;lia
theorem pj.wt (x:pj s l h P)(nd:(P.map (·.1)).Nodup)(hl:l<=E)(hh:h<=E): ∀t∈P,Wt E t.2.2:=λt ht y hy=>by rw[<- jY nd ht] at hy;have:=x t.1 y hy;lia
def o9.cut {js:Pt}(ha:o9 s Z l h a)(RD:o9 s Z lb hb b)(ec: ∀x,look c x=(look a x+dH (λsh=>look b (x - s*sh)) js) % p)(hj: ∀j∈js, -jl<=j.1 /\ j.1<=jh)(IX:s=0 -> ∀j∈js,j.1=0)(hl:l<=l')(Np:lb+jl<=l')(hh:h<=h')(hh2:hb+jh<=h'):o9 s Z l' h' c:=by
 have one: ∀x,look c x≠0 ->look a x≠0 \/ ∃j∈js,look b (x - s*j.1)≠0:=λx hx=>by by_cases z:look a x=0;exact .inr (ao λhn=>hx ?_);rw[ec,z,fI λj jK=>ao λhq=>hn #[j,jK,hq]];rfl;show .inl z
 exact#[λx hx=> ?_,λz x hx=> ?_];obtain q | ⟨j,jK,q⟩:=one x hx;have:=ha.1 x q;lia;have h1:=RD.1 _ q;have h2:=hj j jK;by_cases z:s=0;have h3:=IX z j jK;rw[z,l6] at h1 ⊢;lia;rw[lv z] at h1;lia;obtain q | ⟨j,jK,q⟩:=one x hx;show ha.2 z x q;have:=RD.2 z _ q;rw[z,bi,Int.sub_zero] at this;show this
theorem pj.cut {js:Pt}(ha:pj s l h P)(RD:pj s lb hb Q)(ec: ∀w x,look (pf P' w) x=(look (pf P w) x+dH (λsh=>look (pf Q w) (x - sh)) js) % p)(hj: ∀j∈js, -jl<=j.1 /\ j.1<=jh)(hl:l<=l')(Np:lb+jl<=l')(hh:h<=h')(hh2:hb+jh<=h'):pj s l' h' P':=λw x hx=>by by_cases z:look (pf P w) x=0;have: ∃j∈js,look (pf Q w) (x - j.1)≠0:=ao λhn=>hx (by rw[ec,z,fI λj jK=>ao λhq=>hn #[j,jK,hq]];rfl);let⟨j,jK,q⟩:=this;have h1:=RD w _ q;have h2:=hj j jK;lia;have:=ha w x z;lia
def o9.stood (ha:o9 s Z l h a)(eb: ∀x,look b x=look a (x+s*m)*tn % p)(hm:s=0 ->m=0):o9 s Z (l+m) (h - m) b:=by have one: ∀x,look b x≠0 ->look a (x+s*m)≠0:=λx hx e=>hx (by rw[eb,e,bi];rfl);exact#[λx hx=> ?_,λz x hx=> ?_];have h1:=ha.1 _ (one x hx);by_cases z:s=0;have h2:=hm z;rw[z,l6] at h1 ⊢;lia;rw[be,qX z] at h1;lia;have:=ha.2 z _ (one x hx);rw[z,bi,a6] at this;show this
theorem pj.stood (ha:pj s l h P)(eb: ∀w x,look (pf Q w) x=look (pf P w) (x+m)*tn % p):pj s (l+m) (h - m) Q:=λw x hx=>by have:=ha w (x+m) (λe=>hx (by rw[eb,e,bi];rfl));lia
theorem zo {f len bl bh:Int}{js:Pt}(l0:0<=len)(hs:ms.Pairwise (· <= ·))(hn:ms.Nodup)(hm: ∀m∈ms,bl<=m /\ m<=bh)(hj: ∀j∈js, ∃h∈rD ms len,j.1=j7 len h): ∀j∈js,(bl<=j.1 /\ j.1<0) \/ (0<=j.1 /\ j.1<=bh - len):=λj jK=>by let⟨h,hh,e⟩:=hj j jK;have H:=(Fa l0 hs hn).1.out h hh;have B:=Fb l0 hh;rw[e];unfold j7;split;rename_i z;let⟨m,h1,h2⟩:=B.1 z;have:=hm m h1;show .inl #[∅,z];rename_i z;let⟨m,h1,h2⟩:=B.2 ∅;have:=hm m h1;show .inr #[∅, ∅]
structure oX (s p:Int)(aV:List Pt)(b:Pt)(Q:Pq):Prop where
 is: ∀x,look b x % p=ku s aV Q x aV.length % p
 key: ∀w∈Q.map (·.1),0<=w /\ w< (aV.length:Int)
def Cc (q js:Pt):Pt:=js.flatMap λj=>tm j.2 (mv j.1 q)
theorem A2 (q:Pt)(y:Int): ∀js:Pt,dq (Cc q js) y=dH (λsh=>dq q (y - sh)) js
 | []=>rfl
 | j::r=>by change dq (tm j.2 (mv j.1 q)++Cc q r) y=_;rw[iz,A2 q y r,cE,rB,zm]
theorem CK (G:Int ->Int)(q:Pt): ∀js:Pt,dH G (Cc q js)=dH (λj=>dH (λsh=>G (sh+j)) q) js
 | []=>rfl
 | j::r=>by change dH G (tm j.2 (mv j.1 q)++Cc q r)=_;rw[oU,CK G q r,cE,sP, <- wB]
theorem A6 {s p:Int}{aV:fk Pt}{P P' Q:Pq}{js:Pt}(nP: ∀w,((pf P w).map (·.1)).Nodup)(WB: ∀w,((pf P' w).map (·.1)).Nodup)(nQ: ∀w,((pf Q w).map (·.1)).Nodup) (ep: ∀w x,look (pf P' w) x=(look (pf P w) x+dH (λsh=>look (pf Q w) (x - sh)) js) % p) (x:Int): ∀n,ku s aV P' x n % p=(ku s aV P x n+dH (λsh=>ku s aV Q (x - s*sh) n) js) % p
 | 0=>by change(0:Int) % p=(0+dH (λ_=>0) js) % p;rw[CH];rfl
 | n +1=>by
  have h1:=rc (p:=p) (λsh=>look (aV.getD n []) (x - s*sh)) (a:=pf P' n) (b:=pf P n++Cc (pf Q n) js) λy=>by rw[iz,A2,dY (WB n),dY (nP n),ep,cc];congr 2;congr 1;funext sh;rw[dY (nQ n)]
  rw[oU,CK] at h1;have e:(λsh=>ku s aV Q (x - s*sh) (n+1))=λsh=>ku s aV Q (x - s*sh) n+dH (λt=>look (aV.getD n []) (x - s*sh - s*t)) (pf Q n):=rfl;have e2:(λj=>dH (λsh=>look (aV.getD n []) (x - s*(sh+j))) (pf Q n))=λsh=>dH (λt=>look (aV.getD n []) (x - s*sh - s*t)) (pf Q n):=by funext j;congr 1;funext sh;congr 1;rw[Int.mul_add];lia
  rw[e2] at h1;rw[ku,ku,e,rb,aX,A6 nP WB nQ ep x n,h1, <- aX];congr 1;lia
theorem uf {s p m tn:Int}{aV:fk Pt}{P Q:Pq}(nP: ∀w,((pf P w).map (·.1)).Nodup)(nQ: ∀w,((pf Q w).map (·.1)).Nodup)(ep: ∀w x,look (pf Q w) x=look (pf P w) (x+m)*tn % p)(x:Int): ∀n,ku s aV Q x n % p=ku s aV P (x+s*m) n*tn % p
 | 0=>by change(0:Int) % p=0*tn % p;rw[bi]
 | n +1=>by
  have h1:=rc (p:=p) (λsh=>look (aV.getD n []) (x - s*sh)) (a:=pf Q n) (b:=tm tn (mv (-m) (pf P n))) λy=>by rw[rB,zm,dY (nQ n),dY (nP n),ep,cc,Int.sub_neg]
  rw[sP, <- wB] at h1;have e2:(λsh=>look (aV.getD n []) (x - s*(sh+ -m)))=λsh=>look (aV.getD n []) (x+s*m - s*sh):=by funext sh;congr 1;rw[Int.mul_add,Int.mul_neg];lia
  rw[e2] at h1;rw[ku,ku,eR,aX,uf nP nQ ep x n,h1, <- aX]
theorem oX.cut {js:Pt}(ha:oX s p aV a P)(hb:oX s p aV b Q)(nP: ∀w,((pf P w).map (·.1)).Nodup)(WB: ∀w,((pf P' w).map (·.1)).Nodup)(nQ: ∀w,((pf Q w).map (·.1)).Nodup)(ec: ∀x,look c x=(look a x+dH (λsh=>look b (x - s*sh)) js) % p)(ep: ∀w x,look (pf P' w) x=(look (pf P w) x+dH (λsh=>look (pf Q w) (x - sh)) js) % p)(hk: ∀w∈P'.map (·.1),w∈P.map (·.1) \/ w∈Q.map (·.1)):oX s p aV c P':=#[λx=>by rw[ec,cc,A6 nP WB nQ ep,aX,ha.is,CI (λsh=>hb.is (x - s*sh)) js, <- aX],λw hw=>(hk w hw).elim (ha.key w) (hb.key w)]
theorem oX.stood (ha:oX s p aV a P)(nP: ∀w,((pf P w).map (·.1)).Nodup)(nQ: ∀w,((pf Q w).map (·.1)).Nodup)(eb: ∀x,look b x=look a (x+s*m)*tn % p)(ep: ∀w x,look (pf Q w) x=look (pf P w) (x+m)*tn % p)(hk: ∀w∈Q.map (·.1),w∈P.map (·.1)):oX s p aV b Q:=#[λx=>by rw[eb,cc,uf nP nQ ep,bP,ha.is, <- bP],λw hw=>ha.key w (hk w hw)]
def fu.back {js:Pt}(hc:fu s p G (look c))(hb:fu s p G (look b))(ec: ∀x,look c x=(look a x+WQ.dH (λsh=>look b (x - s*sh)) js) % p):fu s p G (look a):=by exact(hc.add ((hb.dH js).mul (-1))).ext λx=> ?_;rw[ec,dJ];congr 1;lia
def fu.AX (hp:p=2 \/ p=3 \/ p=5 \/ p=7)(t0:0<tn)(t1:tn<p)(hb:fu s p G (look b))(eb: ∀x,look b x=look a (x+s*m)*tn % p):fu s p G (look a):=by
 let⟨u,hu⟩: ∃u:Int,tn*u % p=1:=by obtain rfl | rfl | rfl | rfl:=hp;show#[1,by rw[show tn=1 by lia];rfl];have:tn=1 \/ tn=2:= ∅;obtain rfl | rfl:=this;show#[1,rfl];show#[2,rfl];have:tn=1 \/ tn=2 \/ tn=3 \/ tn=4:= ∅;obtain rfl | rfl | rfl | rfl:=this;show#[1,rfl];show#[3,rfl];show#[2,rfl];show#[4,rfl];have:tn=1 \/ tn=2 \/ tn=3 \/ tn=4 \/ tn=5 \/ tn=6:= ∅;obtain rfl | rfl | rfl | rfl | rfl | rfl:=this;show#[1,rfl];show#[4,rfl];show#[5,rfl];show#[2,rfl];show#[3,rfl];show#[6,rfl]
 exact((hb.shift m).mul u).ext λx=> ?_;rw[eb,bP,cc, <- bP,show x - s*m+s*m=x by lia,eB,bP,hu,d7,cc]
structure fO where
 c:Int
 o:Addr
 ds:Addr
 ol:Addr
 op:Addr
 len:Int
 foot:Int
 b:Pt
 Q:Pq
def fO.adr (t:fO):fk gY:=b7 t.ol t.op t.Q
def mo (L:fk fO):fk (cH×W):=L.map λt=>((Sum.inl t.c:cH),wr t.o)
structure vp (S:Addr)(s p:Int)(M:Mp)(t:fO):Prop where
 ins:M t.o=some (.ins S t.ds [("lamps",wr t.ol),("parts",wr t.op),("first",wi t.c),("length",wi t.len),("foot",wi t.foot)])
 row:cZ p M t.ol t.op t.b t.Q
 k7:AL s p t.b t.c t.len t.foot
structure nE (S:Addr)(s p:Int)(M:Mp)(hd:Addr)(L:List fO):Prop where
 uX:M hd=some (.dK (mo L))
 each: ∀t∈L,vp S s p M t
 nd:(L.map (·.c)).Nodup
 pe:L.Pairwise λt u=> ∀x∈t.adr,x∉u.adr
 uI: ∀t∈L,hd∉t.adr
def iL (L:fk fO)(t:fO):fk fO:=L.map λu=>if u.c=t.c then t else u
def zf (L:fk fO)(c:Int):fX (mo L) (.inl c)=(L.find? λt=>decide (t.c=c)).map λt=>wr t.o:=by
 have:mo L=nF (L.map λt=>(t.c,t.o,[])):=by unfold mo nF;rw[aE];rfl
 rw[this,vy,List.find?_map];cases e:L.find? (λt=>decide (t.c=c)) with
 | none=>rw[show((λt:Int×gY×Pt=>decide (t.1=c)) ∘ λt:fO=>(t.c,t.o,[]))=λt=>decide (t.c=c) from rfl,e];rfl
 | some t=>rw[show((λt:Int×gY×Pt=>decide (t.1=c)) ∘ λt:fO=>(t.c,t.o,[]))=λt=>decide (t.c=c) from rfl,e];rfl
theorem mW {L:fk fO}(h:L.find? (λt=>decide (t.c=c))=some t):t∈L /\ t.c=c:=#[List.mem_of_find?_eq_some h, ⇑(List.find?_some h)]
theorem rM {L:fk fO}(h:L.find? (λt=>decide (t.c=c))=none):c∉L.map (·.c):=λhm=>by let⟨t,ht,e⟩:=af.mp hm;have:=List.find?_eq_none.mp h t ht;simp[e] at this
def uj {L:fk fO}(nd:(L.map (·.c)).Nodup)(h:t∈L):L.find? (λu=>decide (u.c=t.c))=some t:=by
 cases e:L.find? (λu=>decide (u.c=t.c)) with
 | none=>show absurd (af.mpr #[t,h,rfl]) (rM e)
 | some u=>let⟨h1,h2⟩:=mW e;rw[iD nd h1 h h2]
def JP (hc:t.c=c)(h:c∉L.map (·.c)):kc (mo L) (.inl c) (wr t.o)=mo (L++ [t]):=by
 have e1:mo L=nF (L.map λt=>(t.c,t.o,[])):=by unfold mo nF;rw[aE];rfl
 rw[e1,FS (c:= []) (by rw[aE];show h)];unfold mo nF;rw[aO,aO,aE, <- hc];rfl
def JO (h:t.c∈L.map (·.c)):kc (mo L) (.inl t.c) (wr t.o)=mo (iL L t):=by
 unfold kc mo iL;have e:((L.map λt=>((Sum.inl t.c:cH),wr t.o)).any λq=>decide (q.1= .inl t.c))=true:=by rw[List.any_eq_true];let⟨u,hu,e⟩:=af.mp h;show#[_,af.mpr #[u,hu,rfl],by simp[e]]
 rw[am e,aE,aE];exact bJ λu _=> ?_;change(if(Sum.inl u.c:cH)= .inl t.c then((Sum.inl u.c:cH),wr t.o) else((Sum.inl u.c:cH),wr u.o))=((Sum.inl (if u.c=t.c then t else u).c:cH),wr (if u.c=t.c then t else u).o)
 by_cases z:u.c=t.c;rw[am (by rw[z]),am z,z];rw[ai (λq=>z (Sum.inl.inj q)),ai z]
def oq (L:fk fO)(t:fO):(iL L t).map (·.c)=L.map (·.c):=by unfold iL;rw[aE];exact bJ λu _=> ?_;change(if u.c=t.c then t else u).c=u.c;by_cases z:u.c=t.c;rw[am z,z];rw[ai z]
def fN (h:u∈iL L t):u=t \/ (u∈L /\ u.c≠t.c):=by let⟨v,hv,e⟩:=af.mp h;by_cases z:v.c=t.c;rw[am z] at e;show .inl e.symm;rw[ai z] at e;subst e;show .inr #[hv,z]
theorem vp.keep (h:vp S s p M t)(k:fQ M M' F)(ho:t.o∉F)(ha: ∀x∈t.adr,x∉F):vp S s p M' t:=#[k _ _ h.ins ho,h.row.keep k ha,h.k7]
theorem vp.nd (h:vp S s p M t)(w:Int):((pf t.Q w).map (·.1)).Nodup:=(h.row.F6 w).1
theorem cZ.OV (h:cZ p M rl rp a P)(w:Int):((pf P w).map (·.1)).Nodup:=(h.F6 w).1
def wx (h:nE S s p M hd L)(ht:t∈L)(hu:u∈L)(ne:t.c≠u.c): ∀x∈t.adr,x∉u.adr:=by
 have sym: ∀ {L:fk fO},L.Pairwise (λt u=> ∀x∈t.adr,x∉u.adr) ->t∈L ->u∈L ->t≠u -> ∀x∈t.adr,x∉u.adr:=λ{L}=>by
  induction L with
  | nil=>intro _ h;cases h
  | cons v r ih=>intro hp h1 h2 h3;let⟨q1,q2⟩:=cz.mp hp;obtain e1 | k1:=ax.mp h1;obtain e2 | k2:=ax.mp h2;show absurd (e1.trans e2.symm) h3;rw[e1];show q1 u k2;obtain e2 | k2:=ax.mp h2;rw[e2];show λx hx gN=>q1 t k1 x gN hx;show ih q2 k1 k2 h3
 show sym h.pe ht hu λe=>ne (by rw[e])
def EH (s c:Int):Int:=if s=0 then 0 else c
def tI (s Z c:Int):Nat:=if s=0 then(Z - c+1).toNat else(s - c).toNat
def yl (hd:gY)(L:fk fO)(rl rp:gY)(P:Pq):fk gY:=hd::(L.flatMap (·.adr)++b7 rl rp P)
structure Tin (R S:Addr)(s p:Int)(M:Mp)(hd r dr rl rp:Addr)(aV:List Pt)(a:Pt)(P:Pq)(L:List fO):Prop where
 ins:M r=some (.ins R dr [("lamps",wr rl),("parts",wr rp)])
 held:nE S s p M hd L
 row:cZ p M rl rp a P
 pe: ∀t∈L, ∀x∈b7 rl rp P,x∉t.adr
 uI:hd∉b7 rl rp P
 md:oX s p aV a P
 uA: ∀t∈L,oX s p aV t.b t.Q
def oX.len (h:oX s p aV b Q)(nd:(Q.map (·.1)).Nodup):Q.length<=aV.length:=by have:=fM (l:=rA 0 aV.length) nd λk hk=>i_.mpr (by have:=h.key k hk;lia);rw[aa] at this;unfold rA at this;rw[aa,bO] at this;show this
structure qM (s Z E EP:Int)(t:fO):Prop where
 bx:o9 s Z E E t.b
 len:t.len<=E
 bp:pj s EP EP t.Q
def JZ (R S:gY):jc:=λxs M q=>Ej λ(hd r dr rl rp:gY) (p s Z:Int)=>Lq λ(K w KP:Int) (aV:fk Pt) (a:Pt) (P:Pq) (L:fk fO)=>nH (xs= [wi p,wi s,wr hd,wr r]) (p=2 \/ p=3 \/ p=5 \/ p=7) (0<=s) (s<=8) (Tin R S s p M hd r dr rl rp aV a P L) (0<=Z) (0<=K) (nH (0<=w) (0<=KP) (s=0 ->K=0 /\ w=0) (Z+8*(2*(w+16*K)+2*K+2) <=400000) (KP+10*(w+18*K) <=900000) (aV.length<=100) (L.length<=1000) (fZ (o9 s Z w w a) (pj s KP KP P) (∀t∈L,qM s Z K KP t) (∀M' L',nE S s p M' hd L' ->fQ M M' (yl hd L rl rp P) ->(∀t∈L', ∀x∈t.adr,x∈yl hd L rl rp P \/ M x=none) ->(∀f,fu s p (L.map (·.b)++ [a]) f ->fu s p (L'.map (·.b)) f) ->(∀t∈L',oX s p aV t.b t.Q) ->(∀t∈L',qM s Z (2*(w+2*K*s)) (KP+(s+1)*(w+2*K*s+2*K)) t) ->L'.length<=L.length+1 ->(∀c∈L.map (·.c),c∈L'.map (·.c)) ->q wn M')))
section
variable {s Z K w KP c c2 dr:Int}{a c1:Pt}{P P1:Pq}{L:fk fO}{t:fO}
def eA (s K w c:Int):Int:=w+2*K*EH s c
def eP (s K w KP c:Int):Int:=KP+EH s c*(w+2*K*s+2*K)
structure sY (s Z K w KP:Int):Prop where
 s0:0<=s
 k0:0<=K
 w0:0<=w
 Ub:0<=KP
 wY:s=0 ->K=0 /\ w=0
theorem sY.E0 (h:sY s Z K w KP):0<=2*K*s:=bV (by have:=h.k0;lia) h.s0
def sY.step (h:sY s Z K w KP)(hc:c<c2):eA s K w c+2*K<=eA s K w c2:=by unfold eA EH;by_cases z:s=0;have:=h.wY z;rw[am z,am z];lia;rw[ai z,ai z];have:=a7 (show c+1<=c2 by lia) (show 0<=2*K by have:=h.k0;lia);rw[Int.mul_add,d7] at this;lia
def sY.top (h:sY s Z K w KP)(hc:s≠0 ->c+1<=s):eA s K w c+2*K<=w+2*K*s:=by unfold eA EH;by_cases z:s=0;have:=h.wY z;rw[am z,z];lia;rw[ai z];have:=a7 (hc z) (show 0<=2*K by have:=h.k0;lia);rw[Int.mul_add,d7] at this;lia
def sY.low (h:sY s Z K w KP)(hc:s≠0 ->0<=c):w<=eA s K w c:=by unfold eA EH;by_cases z:s=0;rw[am z];lia;rw[ai z];have:=bV (show 0<=2*K by have:=h.k0;lia) (hc z);lia
def sY.SN (h:sY s Z K w KP)(hc:c<c2):eP s K w KP c+(w+2*K*s)+2*K<=eP s K w KP c2:=by unfold eP EH;by_cases z:s=0;have:=h.wY z;rw[am z,am z,z];lia;rw[ai z,ai z];have h0:=h.E0;have:=aS (show c+1<=c2 by lia) (show 0<=w+2*K*s+2*K by have:=h.k0;have:=h.w0;lia);rw[eR,eQ] at this;lia
def sY.Yg (h:sY s Z K w KP)(hc:s≠0 ->c+1<=s):eP s K w KP c+(w+2*K*s)+2*K<=KP+s*(w+2*K*s+2*K):=by unfold eP EH;by_cases z:s=0;have:=h.wY z;rw[am z,z];lia;rw[ai z];have h0:=h.E0;have:=aS (hc z) (show 0<=w+2*K*s+2*K by have:=h.k0;have:=h.w0;lia);rw[eR,eQ] at this;lia
def sY.lowP (h:sY s Z K w KP)(hc:s≠0 ->0<=c):KP<=eP s K w KP c:=by unfold eP EH;by_cases z:s=0;rw[am z];lia;rw[ai z];have h0:=h.E0;have:=bV (hc z) (show 0<=w+2*K*s+2*K by have:=h.k0;have:=h.w0;lia);lia
def sY.KY (h:sY s Z K w KP):K<=w+2*K*s:=by by_cases z:s=0;have:=h.wY z;rw[z];lia;have:=a7 (show 1<=s by have:=h.s0;lia) (show 0<=2*K by have:=h.k0;lia);have:=h.w0;have:=h.k0;lia
def sY.Vy (h:sY s Z K w KP):KP<=KP+s*(w+2*K*s+2*K):=by have h0:=h.E0;have:=bV h.s0 (show 0<=w+2*K*s+2*K by have:=h.k0;have:=h.w0;lia);lia
theorem qM.up {E EP E' EP':Int}(h:qM s Z E EP t)(h1:E<=E')(h2:EP<=EP'):qM s Z E' EP' t:=#[h.bx.up h1 h1,by have:=h.len;lia,h.bp.up h2 h2]
structure Vs (s Z K w KP c:Int)(a:Pt)(P:Pq)(L:List fO):Prop where
 bx:o9 s Z (eA s K w c) (eA s K w c) a
 bp:pj s (eP s K w KP c) (eP s K w KP c) P
 ge: ∀u∈L,c<=u.c ->qM s Z K KP u
 lt: ∀u∈L,u.c<c ->qM s Z (w+2*K*s) (KP+s*(w+2*K*s+2*K)) u
structure Lx (s Z K w KP c dr:Int)(a:Pt)(P:Pq)(L:List fO)(t:fO):Prop where
 mem:t∈L
 at_:t.c=c
 shr:t.len<dr
 dk:dr<=K
 col: ∀x,bE s x=c ->look a x≠0 ->0<=hI s x /\ hI s x<=dr
 bx:o9 s Z (eA s K w c+2*K - dr) (eA s K w c+2*K - dr) a
 bt:o9 s Z (eA s K w c+2*K - t.len) (eA s K w c+2*K - dr) t.b
 bp:pj s (eP s K w KP c+(w+2*K*s)+2*K - dr) (eP s K w KP c+(w+2*K*s)+2*K - dr) P
 bq:pj s (eP s K w KP c+(w+2*K*s)+2*K - t.len) (eP s K w KP c+(w+2*K*s)+2*K - dr) t.Q
 gt: ∀u∈L,c<u.c ->qM s Z K KP u
 lt: ∀u∈L,u.c<c ->qM s Z (w+2*K*s) (KP+s*(w+2*K*s+2*K)) u
structure AR (s Z K w KP c:Int)(c1:Pt)(P1:Pq)(t:fO)(la lp:Int):Prop where
 bx:o9 s Z la la c1
 bp:pj s lp lp P1
 low: ∀x,bE s x=c ->look c1 x≠0 ->0<=hI s x /\ hI s x<t.len
variable {p:Int}{js:Pt}{ms:fk Int}
def Vs.cut (h:sY s Z K w KP)(ph:Vs s Z K w KP c a P L)(uJ:s≠0 ->0<=c)(EF:s≠0 ->c+1<=s)(ht:t∈L)(e:t.c=c)(l0:0<=t.len)(ga:GD p a) (pc:ms.Perm (kq s c (df a))) (Nc:ms.Pairwise (· <= ·)) (ED: ∀j∈js, ∃h∈rD ms t.len,j.1=j7 t.len h) (ej:s=0 -> ∀j∈js,j.1=0) (ec: ∀x,look c1 x=(look a x+dH (λsh=>look t.b (x - s*sh)) js) % p) (ep: ∀w x,look (pf P1 w) x=(look (pf P w) x+dH (λsh=>look (pf t.Q w) (x - sh)) js) % p) (low: ∀x,bE s x=c ->look c1 x≠0 ->0<=hI s x /\ hI s x<t.len): AR s Z K w KP c c1 P1 t (eA s K w c+K) (eP s K w KP c+eA s K w c):=by
 have f:=ph.ge t ht ∅;have hw:=h.low uJ;have hk:=h.lowP uJ;have w0:=h.w0;have k0:=h.k0;have hj:=zo (f:=c) (bl:= -(eA s K w c)) (bh:=eA s K w c) l0 Nc (pc.nodup_iff.mpr (l5 ga.1 h.s0)) (λm hm=>by let⟨x,hx,e1⟩:=af.mp (pc.mem_iff.mp hm);have:=ph.bx.1 x (by have:=d8 ga (ay.mp hx).1;lia);lia) ED;have IW: ∀j∈js, -(eA s K w c) <=j.1 /\ j.1<=eA s K w c:=λj jK=>by have:=hj j jK;lia
 show#[ph.bx.cut f.bx ec IW ej ∅ ∅ ∅ ∅,ph.bp.cut f.bp ep IW ∅ ∅ ∅ ∅,low]
def Lx.cut (h:sY s Z K w KP)(ph:Lx s Z K w KP c dr a P L t)(l0:0<=t.len)(ga:GD p a) (pc:ms.Perm (kq s c (df a))) (Nc:ms.Pairwise (· <= ·)) (ED: ∀j∈js, ∃h∈rD ms t.len,j.1=j7 t.len h) (ej:s=0 -> ∀j∈js,j.1=0) (ec: ∀x,look c1 x=(look a x+dH (λsh=>look t.b (x - s*sh)) js) % p) (ep: ∀w x,look (pf P1 w) x=(look (pf P w) x+dH (λsh=>look (pf t.Q w) (x - sh)) js) % p) (low: ∀x,bE s x=c ->look c1 x≠0 ->0<=hI s x /\ hI s x<t.len): AR s Z K w KP c c1 P1 t (eA s K w c+2*K - t.len) (eP s K w KP c+(w+2*K*s)+2*K - t.len):=by
 have q:=ph.shr;have hj:=zo (f:=c) (bl:=0) (bh:=dr) l0 Nc (pc.nodup_iff.mpr (l5 ga.1 h.s0)) (λm hm=>by let⟨x,hx,e1⟩:=af.mp (pc.mem_iff.mp hm);have:=ph.col x ⇑((ay.mp hx).2) (by have:=d8 ga (ay.mp hx).1;lia);lia) ED;have IW: ∀j∈js, -0<=j.1 /\ j.1<=dr - t.len:=λj jK=>by have:=hj j jK;lia
 show#[ph.bx.cut ph.bt ec IW ej ∅ ∅ ∅ ∅,ph.bp.cut ph.bq ep IW ∅ ∅ ∅ ∅,low]
def AR.on (h:sY s Z K w KP)(d:AR s Z K w KP c c1 P1 t la lp)(K2:la<=eA s K w c+2*K)(ZQ:lp<=eP s K w KP c+(w+2*K*s)+2*K)(hc:c<c2)(EE: ∀u∈L,c<u.c ->qM s Z K KP u)(fU: ∀u∈L,u.c<c ->qM s Z (w+2*K*s) (KP+s*(w+2*K*s+2*K)) u)(kY: ∀u∈L,u.c=c ->qM s Z (w+2*K*s) (KP+s*(w+2*K*s+2*K)) u):Vs s Z K w KP c2 c1 P1 L:=by have h1:=h.step hc;have h2:=h.SN hc;exact#[d.bx.up ∅ ∅,d.bp.up ∅ ∅,λu hu W6=>EE u hu ∅,λu hu W6=> ?_];obtain q | q | q:=Int.lt_trichotomy u.c c;show fU u hu q;show kY u hu q;show(EE u hu q).up h.KY h.Vy
def AR.turn (d:AR s Z K w KP c c1 P1 t la lp)(K2:la<=eA s K w c+2*K - t.len)(ZQ:lp<=eP s K w KP c+(w+2*K*s)+2*K - t.len)(tk:t.len<=K)(N:Mn s c m tt c1)(ga:GD p c1)(dj:t'.len=tt - m)(RB:t'.c=c)(k7:AL s p t.b c t.len t.foot)(ZP:s=0 ->m=0)(RC:o9 s Z (eA s K w c+2*K - t.len) (eA s K w c+2*K - t.len) t.b)(hbq:pj s (eP s K w KP c+(w+2*K*s)+2*K - t.len) (eP s K w KP c+(w+2*K*s)+2*K - t.len) t.Q)(eb: ∀x,look t'.b x=look c1 (x+s*m)*tn % p)(eq: ∀w x,look (pf t'.Q w) x=look (pf P1 w) (x+m)*tn % p)(EE: ∀u∈L,c<u.c ->qM s Z K KP u)(fU: ∀u∈L,u.c<c ->qM s Z (w+2*K*s) (KP+s*(w+2*K*s+2*K)) u)(DF:t'∈iL L t'):Lx s Z K w KP c t.len t.b t.Q (iL L t') t':=by
 have hb: ∀h∈kq s c (df c1),0<=h /\ h<t.len:=λh hh=>by let⟨x,hx,e1⟩:=af.mp hh;have:=d.low x ⇑((ay.mp hx).2) (by have:=d8 ga (ay.mp hx).1;lia);lia
 have h1:=hb _ N.lo;have h2:=hb _ N.hi;have h3:=N.bd _ N.lo;have b1:=d.bx.stood eb ZP;have b2:=d.bp.stood (s:=s) eq;exact#[DF,RB, ∅,tk,λx hx cD=>k7.qe x cD hx,RC,b1.up ∅ ∅,hbq,b2.up ∅ ∅,λu hu qe=> ?_,λu hu hl=> ?_];obtain e | ⟨e,_⟩:=fN hu;rw[e,RB] at qe;lia;show EE u e qe;obtain e | ⟨e,_⟩:=fN hu;rw[e,RB] at hl;lia;show fU u e hl
end
structure TC (R S:Addr)(s p:Int)(aV:List Pt)(M0:Mp)(F0:List Addr)(G0:List Pt)(L0:List fO)(hd:Addr)(M:Mp)(r dr rl rp:Addr)(a:Pt)(P:Pq)(L:List fO):Prop where
 kW:Tin R S s p M hd r dr rl rp aV a P L
 kp:fQ M0 M F0
 fr: ∀t∈L, ∀x∈t.adr,x∈F0 \/ M0 x=none
 U8: ∀x∈b7 rl rp P,x∈F0 \/ M0 x=none
 sp: ∀f,fu s p G0 f ->fu s p (L.map (·.b)++ [a]) f
 len:L.length=L0.length
 key:L.map (·.c)=L0.map (·.c)
def fQ.free (k:fQ M0 M F)(h:M x=none):x∈F \/ M0 x=none:=by
 cases e:M0 x with
 | none=>show .inr rfl
 | some u=>exact .inl (ao λhn=> ?_);rw[k x u e hn] at h;cases h
theorem wA (row:cZ p M rl rp a P)(h:M x=some (.ins C d fs)):x∉b7 rl rp P:=λhx=>by let⟨kvs,e⟩:=row.mem hx;rw[h] at e;cases e
def TC.cut {M0 M M2:Mp}{js:Pt}(tc:TC R S s p aV M0 F0 G0 L0 hd M r dr rl rp a P L)(ht:t∈L)(mf:cZ p M2 rl rp c1 P1)(ec: ∀x,look c1 x=(look a x+dH (λsh=>look t.b (x - s*sh)) js) % p)(ep: ∀w x,look (pf P1 w) x=(look (pf P w) x+dH (λsh=>look (pf t.Q w) (x - sh)) js) % p)(kp:fQ M M2 (b7 rl rp P))(fr: ∀x∈b7 rl rp P1,x∈b7 rl rp P \/ M x=none)(hk: ∀w∈P1.map (·.1),w∈P.map (·.1) \/ w∈t.Q.map (·.1)): TC R S s p aV M0 F0 G0 L0 hd M2 r dr rl rp c1 P1 L:=by let⟨ins,gA,row,pe,uI,md,uA⟩:=tc.kW;have st:=gA.each t ht;exact#[#[kp _ _ ins (wA row ins),#[kp _ _ gA.uX uI,λu hu=>(gA.each u hu).keep kp (wA row (gA.each u hu).ins) (λx hx gN=>pe u hu x gN hx),gA.nd,gA.pe,gA.uI],mf,λu hu x hx gN=> ?_,λhx=> ?_,md.cut (uA t ht) row.OV mf.OV st.nd ec ep hk,uA],tc.kp.trans kp tc.U8,tc.fr,λx hx=> ?_,λf hf=> ?_,tc.len,tc.key];obtain z | z:=fr x hx;show pe u hu x z gN;let⟨kvs,e⟩:=(gA.each u hu).row.mem gN;rw[z] at e;cases e;obtain z | z:=fr hd hx;show uI z;rw[gA.uX] at z;cases z;obtain z | z:=fr x hx;show tc.U8 x z;show tc.kp.free z;exact(tc.sp f hf).trans λb hb=> ?_;obtain hb | hb:=aA.mp hb;show fu.of (aA.mpr (.inl hb));rw[ah.mp hb];show fu.back (fu.of (aA.mpr (.inr (ah.mpr rfl)))) (fu.of (aA.mpr (.inl (af.mpr #[t,ht,rfl])))) ec
def TC.sm {M0 M M2:Mp}(tc:TC R S s p aV M0 F0 G0 L0 hd M r dr rl rp a P L)(sm:Sm M M2):TC R S s p aV M0 F0 G0 L0 hd M2 r dr rl rp a P L:=by let⟨i1,i2,i3,i4,i5,i6,i7⟩:=tc.kW;show#[#[sm _ _ i1,#[sm _ _ i2.uX,λt ht=>(i2.each t ht).keep (fQ.sm sm []) (λh=>by cases h) (λ_ _ h=>by cases h),i2.nd,i2.pe,i2.uI],i3.keep (fQ.sm sm []) (λ_ _ h=>by cases h),i4,i5,i6,i7],tc.kp.trans (fQ.sm sm []) (λ_ h=>by cases h),tc.fr,tc.U8,tc.sp,tc.len,tc.key]
def nR (h:t'.c∈L.map (·.c)):t'∈iL L t':=by let⟨u,hu,e⟩:=af.mp h;show af.mpr #[u,hu,am e]
theorem lO (h:u∈L)(ne:u.c≠t'.c):u∈iL L t':=af.mpr #[u,h,ai ne]
def FD (nd:(L.map (·.c)).Nodup)(h:L.Pairwise λt u=> ∀x∈t.adr,x∉u.adr)(hf: ∀u∈L, ∀x∈t'.adr,x∉u.adr):(iL L t').Pairwise λt u=> ∀x∈t.adr,x∉u.adr:=by unfold iL;rw[cG];have ME:L.Pairwise λa b=>a.c≠b.c:=cG.mp nd;exact(List.pairwise_and_iff.mpr #[h,ME] |>.imp_of_mem λ{u v} hu hv q=> ?_);by_cases z:u.c=t'.c;rw[am z];by_cases y:v.c=t'.c;show absurd (z.trans y.symm) q.2;rw[ai y];show hf v hv;rw[ai z];by_cases y:v.c=t'.c;rw[am y];show λx hx gN=>hf u hu x gN hx;rw[ai y];show q.1
def TC.turn (hp:p=2 \/ p=3 \/ p=5 \/ p=7)(tc:TC R S s p aV M0 F0 G0 L0 hd M r dr rl rp a P L)(Rx:hd∈F0)(ht:t∈L)(hc:t'.c=t.c)(sm:Sm M M3)(ins:M3 t'.o=some (.ins S t'.ds [("lamps",wr t'.ol),("parts",wr t'.op),("first",wi t'.c),("length",wi t'.len),("foot",wi t'.foot)]))(C3:cZ p M3 t'.ol t'.op t'.b t'.Q)(k7:AL s p t'.b t'.c t'.len t'.foot)(t0:0<tn)(t1:tn<p)(eb: ∀x,look t'.b x=look a (x+s*m)*tn % p)(eq: ∀w x,look (pf t'.Q w) x=look (pf P w) (x+m)*tn % p)(fr: ∀x∈t'.o::t'.adr,M x=none)(hk: ∀w∈t'.Q.map (·.1),w∈P.map (·.1))(hD:D=mo (iL L t'))(pQ:um M3 hd (.dK D) r'=none): TC R S s p aV M0 F0 G0 L0 hd (um (um M3 hd (.dK D)) r' (.ins R dx [("lamps",wr t.ol),("parts",wr t.op)])) r' dx t.ol t.op t.b t.Q (iL L t'):=by
 subst hD;let⟨_,gA,row,pe,uI,md,uA⟩:=tc.kW;have W_:hd≠r':=cY au pQ;have KI:M3 r'=none:=by rw[aJ (aW W_)] at pQ;show pQ
 have Qp:=sm _ _ gA.uX;have Rg:fQ M (um (um M3 hd (.dK (mo (iL L t')))) r' (.ins R dx [("lamps",wr t.ol),("parts",wr t.op)])) [hd]:=λd o e nd=>by have e3:=sm _ _ e;rw[aJ (cY e3 KI),aJ (λz=>nd (ah.mpr z))];show e3
 have Rh: ∀ {d o},M3 d=some o ->d≠hd ->um (um M3 hd (.dK (mo (iL L t')))) r' (.ins R dx [("lamps",wr t.ol),("parts",wr t.op)]) d=some o:=λe ne=>by rw[aJ (cY e KI),aJ ne];show e
 have QC: ∀x∈t'.o::t'.adr,x≠hd:=λx hx e=>by have:=fr x hx;rw[e,gA.uX] at this;cases this
 have st:=gA.each t ht;have Pk: ∀ {x C d fs},M x=some (.ins C d fs) ->x∉ [hd]:=λe hx=>by rw[ah.mp hx,gA.uX] at e;cases e
 have ik:t'.c∈L.map (·.c):=by rw[hc];show af.mpr #[t,ht,rfl]
 have abA: ∀u∈L,u.c=t'.c ->u=t:=λu hu e=>iD gA.nd hu ht (e.trans hc);have Xj: ∀u∈L, ∀x∈t'.adr,x∉u.adr:=λu hu x hx gN=>by let⟨kvs,e⟩:=(gA.each u hu).row.mem gN;rw[fr x (av _ hx)] at e;cases e
 exact#[#[au,#[by rw[aJ W_];show au,λu hu=> ?_,by rw[oq];show gA.nd,FD gA.nd gA.pe Xj,λu hu hx=> ?_],st.row.keep Rg λx hx gN=>gA.uI t ht (by rw[ah.mp gN] at hx;show hx),λu hu x hx gN=> ?_,gA.uI t ht,uA t ht,λu hu=> ?_],tc.kp.trans Rg λx hx=> .inl (by rw[ah.mp hx];show Rx),λu hu x hx=> ?_,tc.fr t ht,λf hf=> ?_,by unfold iL;rw[aa];show tc.len,by rw[oq];show tc.key];obtain e | ⟨e,_⟩:=fN hu;rw[e];exact#[Rh ins (QC _ aL),C3.same λd mq=> ?_,k7];let⟨kvs,e2⟩:=C3.mem mq;rw[Rh e2 (QC d (av _ mq)),e2];show(gA.each u e).keep Rg (Pk (gA.each u e).ins) λx hx gN=>gA.uI u e (by rw[ah.mp gN] at hx;show hx);obtain e | ⟨e,_⟩:=fN hu;rw[e] at hx;show QC hd (av _ hx) rfl;show gA.uI u e hx;obtain e | ⟨e,ne⟩:=fN hu;rw[e] at gN;show Xj t ht x gN hx;show wx gA ht e (λz=>ne (by rw[hc,z])) x hx gN;obtain e | ⟨e,_⟩:=fN hu;rw[e];show md.stood row.OV C3.OV eb eq hk;show uA u e;obtain e | ⟨e,_⟩:=fN hu;rw[e] at hx;show tc.kp.free (fr x (av _ hx));show tc.fr u e x hx;exact(tc.sp f hf).trans λb hb=> ?_;have uK:fu s p ((iL L t').map (·.b)++ [t.b]) (look t'.b):=fu.of (aA.mpr (.inl (af.mpr #[t',nR ik,rfl])));obtain hb | hb:=aA.mp hb;let⟨u,hu,rfl⟩:=af.mp hb;by_cases z:u.c=t'.c;rw[abA u hu z];show fu.of (aA.mpr (.inr (ah.mpr rfl)));show fu.of (aA.mpr (.inl (af.mpr #[u,lO hu z,rfl])));rw[ah.mp hb];show fu.AX hp t0 t1 uK eb
def TC.new (hp:p=2 \/ p=3 \/ p=5 \/ p=7)(tc:TC R S s p aV M0 F0 G0 L0 hd M r dr rl rp a P L)(Rx:hd∈F0)(hc:t'.c∉L.map (·.c))(sm:Sm M M3)(ins:M3 t'.o=some (.ins S t'.ds [("lamps",wr t'.ol),("parts",wr t'.op),("first",wi t'.c),("length",wi t'.len),("foot",wi t'.foot)]))(C3:cZ p M3 t'.ol t'.op t'.b t'.Q)(k7:AL s p t'.b t'.c t'.len t'.foot)(t0:0<tn)(t1:tn<p)(eb: ∀x,look t'.b x=look a (x+s*m)*tn % p)(eq: ∀w x,look (pf t'.Q w) x=look (pf P w) (x+m)*tn % p)(fr: ∀x∈t'.o::t'.adr,M x=none)(hk: ∀w∈t'.Q.map (·.1),w∈P.map (·.1))(hD:D=mo (L++ [t'])): nE S s p (um M3 hd (.dK D)) hd (L++ [t']) /\ fQ M0 (um M3 hd (.dK D)) F0 /\ (∀u∈L++ [t'], ∀x∈u.adr,x∈F0 \/ M0 x=none) /\ (∀f,fu s p G0 f ->fu s p ((L++ [t']).map (·.b)) f) /\ (∀u∈L++ [t'],oX s p aV u.b u.Q):=by
 subst hD;let⟨_,gA,row,pe,uI,md,uA⟩:=tc.kW;have Rg:fQ M (um M3 hd (.dK (mo (L++ [t'])))) [hd]:=λd o e nd=>by rw[aJ (λz=>nd (ah.mpr z))];show sm _ _ e
 have QC: ∀x∈t'.o::t'.adr,x≠hd:=λx hx e=>by have:=fr x hx;rw[e,gA.uX] at this;cases this
 have Pk: ∀ {x C d fs},M x=some (.ins C d fs) ->x∉ [hd]:=λe hx=>by rw[ah.mp hx,gA.uX] at e;cases e
 have Xj: ∀u∈L, ∀x∈t'.adr,x∉u.adr:=λu hu x hx gN=>by let⟨kvs,e⟩:=(gA.each u hu).row.mem gN;rw[fr x (av _ hx)] at e;cases e
 have one: ∀u∈L++ [t'],u∈L \/ u=t':=λu hu=>(aA.mp hu).imp id ah.mp;exact#[#[au,λu hu=> ?_,?_,?_,λu hu hx=> ?_],tc.kp.trans Rg λx hx=> .inl (by rw[ah.mp hx];show Rx),λu hu x hx=> ?_,λf hf=> ?_,λu hu=> ?_];obtain e | e:=one u hu;show(gA.each u e).keep Rg (Pk (gA.each u e).ins) λx hx gN=>gA.uI u e (by rw[ah.mp gN] at hx;show hx);rw[e];exact#[by rw[aJ (QC _ aL)];show ins,C3.same λd mq=> ?_,k7];rw[aJ (QC d (av _ mq))];rw[aO];show List.nodup_append.mpr #[gA.nd,by simp,λx hx y hy e=>hc (by rw[List.map_singleton] at hy;rw[<- ah.mp hy, <- e];show hx)];exact cR.mpr #[gA.pe,List.pairwise_singleton _ _,λu hu v hv x hx gN=> ?_];rw[ah.mp hv] at gN;show Xj u hu x gN hx;obtain e | e:=one u hu;show gA.uI u e hx;rw[e] at hx;show QC hd (av _ hx) rfl;obtain e | e:=one u hu;show tc.fr u e x hx;rw[e] at hx;show tc.kp.free (fr x (av _ hx));exact(tc.sp f hf).trans λb hb=> ?_;rw[aO];obtain hb | hb:=aA.mp hb;show fu.of (aA.mpr (.inl hb));rw[ah.mp hb];show fu.AX hp t0 t1 (fu.of (aA.mpr (.inr (ah.mpr rfl)))) eb;obtain e | e:=one u hu;show uA u e;rw[e];show md.stood row.OV C3.OV eb eq hk
def fW (s:Int)(a:Pt):W:=if df a= [] then wn else wi (fE ((df a).map (bE s)))
def mz (s Z K c:Int)(q:Nat):Nat:=tI s Z c*(K.toNat+2)+q
def Ph (s Z K w KP:Int)(m:Nat)(a:Pt)(P:Pq)(L:fk fO):Prop:=(df a= [] -> ∀u∈L,qM s Z (w+2*K*s) (KP+s*(w+2*K*s+2*K)) u) /\ (df a≠ [] -> ∃c,c=fE ((df a).map (bE s)) /\ ((Vs s Z K w KP c a P L /\ m=mz s Z K c (K.toNat+1)) \/ cO λt dr=>Lx s Z K w KP c dr a P L t /\ m=mz s Z K c t.len.toNat))
def JI (h:c<c2)(h1:s≠0 ->c+1<=s)(h2:s=0 ->c<=Z):tI s Z c2<tI s Z c:=by unfold tI;by_cases z:s=0;have:=h2 z;rw[am z,am z];lia;have:=h1 z;rw[ai z,ai z];lia
def TV (h:tI s Z c2<tI s Z c)(hq:q2<=K.toNat+1):mz s Z K c2 q2<mz s Z K c q:=by unfold mz;have:=dv (K.toNat+2) (show tI s Z c2+1<=tI s Z c from h);rw[Nat.add_mul,Nat.one_mul] at this;lia
theorem Lo {L:fk fO}(h:sY s Z K w KP)(EE: ∀u∈L,c<u.c ->qM s Z K KP u)(fU: ∀u∈L,u.c<c ->qM s Z (w+2*K*s) (KP+s*(w+2*K*s+2*K)) u)(kY: ∀u∈L,u.c=c ->qM s Z (w+2*K*s) (KP+s*(w+2*K*s+2*K)) u): ∀u∈L,qM s Z (w+2*K*s) (KP+s*(w+2*K*s+2*K)) u:=λu hu=>by obtain q | q | q:=Int.lt_trichotomy u.c c;show fU u hu q;show kY u hu q;show(EE u hu q).up h.KY h.Vy
theorem JT (h:df a= []):a= []:=List.map_eq_nil_iff.mp h
theorem AL.lit (h:AL s p b f len foot)(hp:1<p):look b f≠0:=λe=>by have:=h.bot;rw[e,bi,Int.zero_emod] at this;cases this
def QE (h:AL s p b f len foot)(hp:1<p)(g:GD p b):fW s b=wi f /\ df b≠ [] /\ f=fE ((df b).map (bE s)):=by
 have hm:=cU (h.lit hp);have cD:df b≠ []:=λe=>by rw[e] at hm;cases hm
 have e:f=fE ((df b).map (bE s)):=gE.uniq #[af.mpr #[f,hm,h.ok.own],λx hx=>by let⟨y,hy,rfl⟩:=af.mp hx;show h.ge y (by have:=d8 g hy;lia)] (fA ⇑cD);show#[by rw[e];show ai cD,cD,e]
def G_ (bx:o9 s Z l h a)(g:GD p a)(hm:m∈kq s f (df a)): -l<=m /\ m<=h:=by let⟨x,hx,e⟩:=af.mp hm;rw[<- e];show bx.1 x (by have:=d8 g (ay.mp hx).1;lia)
def MZ (hm:m∈kq s f (df a))(z:s=0):m=0:=by let⟨x,hx,e⟩:=af.mp hm;rw[<- e,z];show l6 x
def sC (hu:M u=some (.lst ((df a).map wi)))(hl:(df a).length<=16000000)(s0:0<=s)(s8:s<=8)(h:F (fW s a) M):HY Gd [wr u,wi s] M F:=by unfold fW at h;show#[u,df a,s,rfl,hu,hl,s0, ∅,λe=>by rwa [am e] at h,λe=>by rwa [ai e] at h]
def fO.EL (u:fO)(b:Pt)(Q:Pq):fO:=#[u.c,u.o,u.ds,u.ol,u.op,u.len,u.foot,b,Q]
structure LL (S:Addr)(s p:Int)(aV:List Pt)(M0:Mp)(L0:List fO)(hd:Addr)(M:Mp)(L:List fO):Prop where
 held:nE S s p M hd L
 uA: ∀t∈L,oX s p aV t.b t.Q
 kp:fQ M0 M (L0.flatMap (·.adr))
 fr: ∀t∈L, ∀x∈t.adr,x∈L0.flatMap (·.adr) \/ M0 x=none
 sp: ∀f,fu s p (L0.map (·.b)) f ->fu s p (L.map (·.b)) f
 key:L.map (·.c)=L0.map (·.c)
 ln: ∀t∈L, ∀u∈L0,t.c=u.c ->t.len=u.len
section
variable {S:gY}{s p:Int}{aV:fk Pt}{M0 M M2:Mp}{L0 L:fk fO}{hd:gY}{c1:Pt}{P1:Pq}{js:Pt}{u t:fO}
def AL.abE (h:AL s p b f len foot)(hf:f<fc)(e: ∀x,bE s x<fc ->look c1 x=look b x):AL s p c1 f len foot:=by have at_: ∀k,look c1 (f+k*s)=look b (f+k*s):=λk=>e _ (by rw[h.ok.on];show hf);exact#[h.ok,h.l0,h.s0,λx hx=> ?_,λx hx hc=> ?_,by rw[at_];show h.top,?_,h.ft];obtain q | q:=cS (bE s x) fc;show h.ge x (by rw[<- e x q];show hx);lia;show h.qe x (by rw[<- e x ∅];show hx) hc;have:=at_ 0;rw[bi,a6] at this;rw[this];show h.bot
def Ho (hu:u∈L)(nd:(L.map (·.c)).Nodup)(hc:u'.c=u.c)(ho:u'.o=u.o):mo (iL L u')=mo L:=by
 unfold mo iL;rw[aE];exact bJ λv hv=> ?_;change((Sum.inl (if v.c=u'.c then u' else v).c:cH),wr (if v.c=u'.c then u' else v).o)=((Sum.inl v.c:cH),wr v.o)
 by_cases z:v.c=u'.c;rw[am z];have:v=u:=iD nd hv hu (z.trans hc);rw[this,hc,ho];rw[ai z]
def LL.cut (ll:LL S s p aV M0 L0 hd M L)(hu:u∈L)(ht:t∈L)(fU:u.c<t.c)(mf:cZ p M2 u.ol u.op c1 P1)(ec: ∀x,look c1 x=(look u.b x+dH (λsh=>look t.b (x - s*sh)) js) % p) (ep: ∀w x,look (pf P1 w) x=(look (pf u.Q w) x+dH (λsh=>look (pf t.Q w) (x - sh)) js) % p) (el: ∀x,bE s x<t.c ->look c1 x=look u.b x) (kp:fQ M M2 u.adr) (fr: ∀x∈b7 u.ol u.op P1,x∈u.adr \/ M x=none) (hk: ∀w∈P1.map (·.1),w∈u.Q.map (·.1) \/ w∈t.Q.map (·.1)): LL S s p aV M0 L0 hd M2 (iL L (u.EL c1 P1)):=by
 let⟨gA,uA,Ub,Aw,sp,key,ln⟩:=ll;have su:=gA.each u hu;have st:=gA.each t ht;have ik:u.c∈L.map (·.c):=af.mpr #[u,hu,rfl];have TR: ∀v∈L,v.c≠u.c -> ∀x∈b7 u.ol u.op P1,x∉v.adr:=λv hv ne x hx gN=>by obtain z | z:=fr x hx;show wx gA hu hv (aW ne) x z gN;let⟨kvs,e⟩:=(gA.each v hv).row.mem gN;rw[z] at e;cases e
 exact#[#[by rw[Ho (u':=u.EL c1 P1) hu gA.nd rfl rfl];show kp _ _ gA.uX (gA.uI u hu),λv hv=> ?_,by rw[oq];show gA.nd,?_,λv hv hx=> ?_],λv hv=> ?_,Ub.trans kp λx hx=>Aw u hu x hx,λv hv x hx=> ?_,λf hf=> ?_,by rw[oq];show key,λv hv w hw e=> ?_];obtain e | ⟨e,ne⟩:=fN hv;rw[e];show#[kp _ _ su.ins (wA su.row su.ins),mf,su.k7.abE fU el];show(gA.each v e).keep kp (wA su.row (gA.each v e).ins) λx hx gN=>wx gA e hu ne x hx gN;unfold iL;rw[cG];have ME:L.Pairwise λa b=>a.c≠b.c:=cG.mp gA.nd;exact(List.pairwise_and_iff.mpr #[gA.pe,ME] |>.imp_of_mem λ{v w} hv hw q=> ?_);by_cases z:v.c=u.c;rw[am (show v.c=(u.EL c1 P1).c from z)];by_cases y:w.c=u.c;show absurd (z.trans y.symm) q.2;rw[ai (show ¬w.c=(u.EL c1 P1).c from y)];show TR w hw y;rw[ai (show ¬v.c=(u.EL c1 P1).c from z)];by_cases y:w.c=u.c;rw[am (show w.c=(u.EL c1 P1).c from y)];show λx hx gN=>TR v hv z x gN hx;rw[ai (show ¬w.c=(u.EL c1 P1).c from y)];show q.1;obtain e | ⟨e,_⟩:=fN hv;rw[e] at hx;obtain z | z:=fr hd hx;show gA.uI u hu z;rw[gA.uX] at z;cases z;show gA.uI v e hx;obtain e | ⟨e,_⟩:=fN hv;rw[e];show(uA u hu).cut (uA t ht) su.nd mf.OV st.nd ec ep hk;show uA v e;obtain e | ⟨e,_⟩:=fN hv;rw[e] at hx;obtain z | z:=fr x hx;show Aw u hu x z;show Ub.free z;show Aw v e x hx;exact(sp f hf).trans λb hb=> ?_;let⟨v,hv,rfl⟩:=af.mp hb;have h1:fu s p ((iL L (u.EL c1 P1)).map (·.b)) (look c1):=fu.of (af.mpr #[_,nR ik,rfl]);have h2:fu s p ((iL L (u.EL c1 P1)).map (·.b)) (look t.b):=fu.of (af.mpr #[t,lO ht (show t.c≠u.c by lia),rfl]);by_cases z:v.c=u.c;rw[iD gA.nd hv hu z];show fu.back h1 h2 ec;show fu.of (af.mpr #[v,lO hv z,rfl]);obtain e2 | ⟨e2,_⟩:=fN hv;rw[e2] at e ⊢;show ln u hu w hw e;show ln v e2 w hw e
def LG (s c E:Int)(b:Pt):Prop:= ∀x,bE s x=c ->look b x≠0 -> -E<=hI s x /\ hI s x<=E
def lL (s c len:Int)(b:Pt):Prop:= ∀x,bE s x=c ->look b x≠0 ->0<=hI s x /\ hI s x<len
theorem LG.cut (ha:LG s c E a)(hb:lL s c lt b)(ec: ∀x,look c1 x=(look a x+dH (λsh=>look b (x - s*sh)) js) % p)(hj: ∀j∈js, -jl<=j.1 /\ j.1<=jh)(IX:s=0 -> ∀j∈js,j.1=0)(h1:E<=E')(h2:jl<=E')(h3:lt+jh<=E'):LG s c E' c1:=λx hx cD=>by by_cases z:look a x=0;let⟨j,jK,q⟩: ∃j∈js,look b (x - s*j.1)≠0:=ao λhn=>cD (by rw[ec,z,fI λj jK=>ao λhq=>hn #[j,jK,hq]];rfl);have h4:=hb (x - s*j.1) (by rw[gu];show hx) q;have h5:=hj j jK;by_cases y:s=0;have h6:=IX y j jK;rw[y,l6] at h4 ⊢;lia;rw[lv y] at h4;lia;have:=ha x hx z;lia
end
def gZ (L:fk fO)(c:Int):Int:=match L.find? (λt=>decide (t.c=c)) with
 | some t=>t.len
 | none=>0
def BO (nd:(L.map (·.c)).Nodup)(h:t∈L):gZ L t.c=t.len:=by unfold gZ;rw[uj nd h]
def kx (l:fk Int):Int:=l.foldr (· + ·) 0
def nN (h: ∀x∈l,0<=x): ∀k,0<=kx (l.take k) /\ kx (l.take k) <=kx l:=by
 induction l with
 | nil=>intro k;simp[kx]
 | cons a r ih=>
  intro k;cases k with
  | zero=>
   have:=(ih (λx hx=>h x (av _ hx)) r.length)
   rw[bQ] at this;have:=h a aL;change 0<=(0:Int) /\ (0:Int) <=a+kx r;lia
  | succ k=>have:=ih (λx hx=>h x (av _ hx)) k;have:=h a aL;change 0<=a+kx (r.take k) /\ a+kx (r.take k) <=a+kx r;lia
def Fz (l:fk Int)(a:Int):kx (l++ [a])=kx l+a:=by
 induction l with
 | nil=>change a+0=0+a;lia
 | cons b r ih=>change b+kx (r++ [a])=b+kx r+a;rw[ih];lia
def FA (h: ∀x∈l,0<=x)(k:Nat):kx (l.drop k) <=kx l:=by
 induction l generalizing k with
 | nil=>simp
 | cons a r ih=>
  cases k with
  | zero=>show aY _
  | succ k=>have:=ih (λx hx=>h x (av _ hx)) k;have:=h a aL;change kx (r.drop k) <=a+kx r;lia
def xq (h:a.Perm b):kx a=kx b:=by
 induction h with
 | nil=>rfl
 | cons x _ ih=>change x+_=x+_;rw[show List.foldr (· + ·) 0 _=kx _ from rfl,ih];rfl
 | swap x y l=>change y+(x+kx l)=x+(y+kx l);lia
 | trans _ _ h1 h2=>show h1.trans h2
def Gw {L:fk fO}(nd:(L.map (·.c)).Nodup):(L.map (·.c)).map (gZ L)=L.map (·.len):=by rw[aE];show bJ λt ht=>BO nd ht
def LL.sm {M0 M M2:Mp}(h:LL S s p aV M0 L0 hd M L)(sm:Sm M M2):LL S s p aV M0 L0 hd M2 L:=by let⟨i2,i3,i4,i5,i6,i7,i8⟩:=h;show#[#[sm _ _ i2.uX,λt ht=>(i2.each t ht).keep (fQ.sm sm []) (λh=>by cases h) (λ_ _ h=>by cases h),i2.nd,i2.pe,i2.uI],i3,i4.trans (fQ.sm sm []) (λ_ h=>by cases h),i5,i6,i7,i8]
theorem LL.init (h:nE S s p M hd L)(md: ∀t∈L,oX s p aV t.b t.Q):LL S s p aV M L hd M L:=#[h,md,λd o e _=>e,λt ht x hx=> .inl (List.mem_flatMap.mpr #[t,ht,hx]),λf hf=>hf,rfl,λt ht u hu e=>by rw[iD h.nd ht hu e]]
def LL.gZ (h:LL S s p aV M0 L0 hd M L)(nd:(L0.map (·.c)).Nodup)(ht:t∈L):t.len=gZ L0 t.c:=by
 have:t.c∈L0.map (·.c):=by rw[<- h.key];show af.mpr #[t,ht,rfl]
 let⟨u,hu,e⟩:=af.mp this;rw[<- e,BO nd hu];show h.ln t ht u hu e.symm
def LL.get {S:gY}{s p:Int}{aV:fk Pt}{M0 M:Mp}{L0 L:fk fO}{hd:gY}(h:LL S s p aV M0 L0 hd M L){c:Int}(hc:c∈L0.map (·.c)): ∃t∈L,t.c=c:=by rw[<- h.key] at hc;show af.mp hc
def ze (nd:(L.map (·.c)).Nodup)(h:t∈L):fX (mo L) (.inl t.c)=some (wr t.o):=by rw[zf,uj nd h];rfl
def yG (l:fk W)(k:Nat):lG l (some ((k:Nat):Int)) none=l.drop k:=by unfold lG;rw[HT.xw,HT.Bs];obtain h | h:=Nat.le_total k l.length;rw[Nat.min_eq_left h,List.take_of_length_le (by rw[List.length_drop];show ap _)];rw[Nat.min_eq_right h,List.drop_length,List.take_nil,List.drop_of_length_le h]
def jf {cs:fk Int}(h:cs.Pairwise (· < ·)){i j:Nat}(hi:cs[i]? =some a)(hj:cs[j]? =some b)(iJ:i<j):a<b:=by let⟨g1,g2⟩:=aj.mp hi;let⟨g3,g4⟩:=aj.mp hj;rw[<- g2, <- g4];show bL.mp h i j g1 g3 iJ
def DD {cs:fk Int}(h:cs.Pairwise (· < ·)){i j:Nat}(hi:cs[i]? =some a)(hj:cs[j]? =some b)(Hv:a<b):i<j:=by obtain q | q | q:=Nat.lt_trichotomy i j;show q;subst q;rw[hi] at hj;cases hj;lia;have:=jf h hj hi q;lia
def J0 (R S:gY):jc:=λxs M q=>Ej λ(hd:gY) (p s Z E EP Λ:Int) (aV:fk Pt)=> ∃ (L:fk fO),nH (xs= [wi p,wi s,wr hd]) (p=2 \/ p=3 \/ p=5 \/ p=7) (0<=s) (s<=8) (nE S s p M hd L) (∀t∈L,oX s p aV t.b t.Q) (∀t∈L,qM s Z E EP t) (nH (0<=Z) (0<=E) (0<=EP) (aV.length<=100) (L.length<=13) (kx (L.map (·.len)) <=Λ) (Z+8*(E+14*(E+Λ)+1) <=1000000) (EP+14*(E+Λ) <=1000000 /\ ∀M' L',LL S s p aV M L hd M' L' ->(∀t∈L', ∀u∈L',t.c<u.c ->lL s u.c u.len t.b) ->(∀t∈L',o9 s Z (E+L.length*(E+Λ)) (E+L.length*(E+Λ)) t.b /\ pj s (EP+L.length*(E+Λ)) (EP+L.length*(E+Λ)) t.Q) ->q wn M'))
def gL (p0:0<p)(g:GD p b)(x:Int):look (kM p b) x=look b x:=by rw[jA p0,dY g.1,c9 p0 g]
def Bc {t:fO}(hp:1<p)(g:GD p t.b)(h:AL s p t.b t.c t.len t.foot)(w:Wt D t.b):Sr s p (kM p t.b) t.c t.len D:=by have p0:0<p:= ∅;have e:=gL p0 g;have gn:=ff (iH p0 t.b);exact#[iH p0 _,h.ok,h.l0,h.s0,λx hx=>h.ge x ?_,λx hx hc=>h.qe x ?_ hc,cU (by rw[e];show h.lit hp),by rw[e];show h.top,λx hx=>w x (by rw[<- e];show hx)];have:=d8 gn hx;rw[e] at this;lia;have:=d8 gn hx;rw[e] at this;lia
structure Ord (L Ls:List fO):Prop where
 perm:Ls.Perm L
 vI:Ls.Pairwise λa b=>a.c<b.c
def rS (L:fk fO)(nd:(L.map (·.c)).Nodup): ∃Ls,Ord L Ls:=by exact#[L.mergeSort λa b=>decide (a.c<=b.c),List.mergeSort_perm _ _,?_];have h1:=List.pairwise_mergeSort (le:=λa b:fO=>decide (a.c<=b.c)) (λa b c h1 h2=>by simp![cN] at*;lia) (λa b=>by simp![Bool.or_eq_true,cN];lia) L;have h2:((L.mergeSort λa b=>decide (a.c<=b.c)).map (·.c)).Nodup:=((List.mergeSort_perm L _).map (·.c)).nodup_iff.mpr nd;have h3:=cG.mp h2;show(List.pairwise_and_iff.mpr #[h1,h3]).imp λh=>by have:=h.1;simp![cN] at this;have:=h.2;lia
section
variable {S:gY}{s p D:Int}{M:Mp}{hd:gY}{L Ls:fk fO}
def gf (p:Int)(Ls:fk fO):fk Pt:=Ls.map λt=>kM p t.b
def rH (hp:1<p)(h:nE S s p M hd L)(o:Ord L Ls)(w: ∀t∈L,Wt D t.b)(hl: ∀t∈L,t.len<3000000):qK s p (gf p Ls) D:=by
 have sr: ∀t∈Ls,Sr s p (kM p t.b) t.c t.len D:=λt ht=>Bc hp (h.each t (o.perm.mem_iff.mp ht)).row.ga (h.each t (o.perm.mem_iff.mp ht)).k7 (w t (o.perm.mem_iff.mp ht));have get: ∀ {i st},(gf p Ls)[i]? =some st -> ∃t:fO,Ls[i]? =some t /\ st=kM p t.b:=λ{i st} e=>by
  unfold gf at e;rw[az] at e;cases e2:Ls[i]? with
  | none=>rw[e2] at e;cases e
  | some t=>rw[e2] at e;cases e;show#[t,e2,rfl]
 exact#[λi st hi=> ?_,λi j st bD c len c' xT iJ hi hj h1 h2=> ?_];let⟨t,ht,rfl⟩:=get hi;show#[_,_,sr t (ar ht),hl t (o.perm.mem_iff.mp (ar ht))];let⟨t,ht,rfl⟩:=get hi;let⟨t',o_,rfl⟩:=get hj;rw[(h1.uniq (sr t (ar ht))).1,(h2.uniq (sr t' (ar o_))).1];let⟨g1,g2⟩:=aj.mp ht;let⟨g3,g4⟩:=aj.mp o_;rw[<- g2, <- g4];show bL.mp o.vI i j g1 g3 iJ
def AZ (hp:1<p)(h:nE S s p M hd L)(o:Ord L Ls)(w: ∀t∈L,Wt D t.b)(low: ∀t∈L, ∀u∈L,t.c<u.c ->lL s u.c u.len t.b):qJ s p (gf p Ls) D:=by
 intro i j st bD c len iJ hi hj SS x hx cD;unfold gf at hi hj;rw[az] at hi hj;cases e1:Ls[i]? with
 | none=>rw[e1] at hi;cases hi
 | some t=>
  cases e2:Ls[j]? with
  | none=>rw[e2] at hj;cases hj
  | some t'=>
   rw[e1] at hi;rw[e2] at hj;cases hi;cases hj;have m1:=o.perm.mem_iff.mp (ar e1);have m2:=o.perm.mem_iff.mp (ar e2);have e3:=SS.uniq (Bc hp (h.each t' m2).row.ga (h.each t' m2).k7 (w t' m2));have fU:t.c<t'.c:=by let⟨g1,g2⟩:=aj.mp e1;let⟨g3,g4⟩:=aj.mp e2;rw[<- g2, <- g4];show bL.mp o.vI i j g1 g3 iJ
   rw[e3.2];show low t m1 t' m2 fU x (by rw[hx,e3.1]) (by rw[<- gL ∅ (h.each t m1).row.ga];show cD)
theorem oA (p0:0<p)(h:nE S s p M hd L)(o:Ord L Ls)(hf:fu s p (L.map (·.b)) f):fu s p (gf p Ls) f:=hf.trans λb hb=>by let⟨t,ht,rfl⟩:=af.mp hb;exact(fu.of (af.mpr #[t,o.perm.mem_iff.mpr ht,rfl])).ext λx=> ?_;rw[gL p0 (h.each t ht).row.ga]
structure LH (s p w:Int)(aV bs:List Pt)(L:List fO):Prop where
 len:bs.length=L.length
 ind:s≠0 ->vq s p bs
 of: ∀b∈bs,b∈aV
def JJ {w:Nat}(hp:p=2 \/ p=3 \/ p=5 \/ p=7)(s0:0<s)(h:nE S s p M hd L)(hw: ∀t∈L,Wt D t.b)(hl: ∀t∈L,t.len<3000000)(low: ∀t∈L, ∀u∈L,t.c<u.c ->lL s u.c u.len t.b)(B:LH s p w aV bs L)(ik: ∀b∈bs,fu s p (L.map (·.b)) (look b))(hb: ∀b∈bs, ∀x,look b x≠0 -> -(w:Int) <=hI s x /\ hI s x<=w)(ht:t∈L)(hx:look t.b x≠0): -((2*L.length*w:Nat):Int) <=hI s x /\ hI s x<=((2*L.length*w:Nat):Int):=by
 let⟨Ls,o⟩:=rS L h.nd;have e:(gf p Ls).length=L.length:=by unfold gf;rw[aa];show o.perm.length_eq
 have:=FN hp s0 (rH ∅ h o hw hl) (AZ ∅ h o hw low) (by rw[B.len,e]) (B.ind ∅) (λb uK=>oA ∅ h o (ik b uK)) hb (t:=kM p t.b) (af.mpr #[t,o.perm.mem_iff.mpr ht,rfl]) (x:=x) (by rw[gL ∅ (h.each t ht).row.ga];show hx);rw[e] at this;show this
def OI (h: ∀x∈l,0<=x):kx l=(((l.map Int.toNat).sum:Nat):Int):=by
 induction l with
 | nil=>rfl
 | cons a r ih=>
  change a+kx r=_
  rw[ih λx hx=>h x (av _ hx),aI,eh]
  have:=h a aL
  push_cast;lia
def Gy {w:Nat}(hp:p=2 \/ p=3 \/ p=5 \/ p=7)(s0:0<s)(h:nE S s p M hd L)(hw: ∀t∈L,Wt D t.b)(hl: ∀t∈L,t.len<3000000)(B:LH s p w aV bs L)(ik: ∀b∈bs,fu s p (L.map (·.b)) (look b))(hb: ∀b∈bs, ∀x,look b x≠0 -> -(w:Int) <=hI s x /\ hI s x<=w):kx (L.map (·.len)) <=((2*L.length*w:Nat):Int):=by
 let⟨Ls,o⟩:=rS L h.nd;have e:(gf p Ls).length=L.length:=by unfold gf;rw[aa];show o.perm.length_eq
 have:=BP hp s0 (rH ∅ h o hw hl) (by rw[B.len,e]) (B.ind ∅) (λb uK=>oA ∅ h o (ik b uK)) hb;rw[e] at this;rw[<- xq (o.perm.map (·.len)),OI λx hx=>by let⟨t,ht,rfl⟩:=af.mp hx;show((h.each t (o.perm.mem_iff.mp ht)).k7).l0];have e2:((gf p Ls).map λst=>(dN s st).toNat)=(Ls.map (·.len)).map Int.toNat:=by unfold gf;rw[aE,aE];exact bJ λt ht=> ?_;have m:=o.perm.mem_iff.mp ht;change(dN s (kM p t.b)).toNat=t.len.toNat;rw[(Bc ∅ (h.each t m).row.ga (h.each t m).k7 (hw t m)).nO]
 rw[e2] at this;show Int.ofNat_le.mpr this
def J8 {w:Nat}(ht:t∈L)(h0: ∀u∈L,0<=u.len):t.len<=kx (L.map (·.len)):=by
 induction L with
 | nil=>cases ht
 | cons a r ih=>
  change t.len<=a.len+kx (r.map (·.len));have h1:=(nN (l:=r.map (·.len)) (λx hx=>by let⟨u,hu,rfl⟩:=af.mp hx;show h0 u (av _ hu)) 0)
  have h2:=h0 a aL;obtain rfl | ht:=ax.mp ht;change t.len<=_;have:0<=kx (r.map (·.len)):=by simp[kx] at h1;show h1
  lia;have:=ih ht λu hu=>h0 u (av _ hu);lia
end
def Ua:Nat ->Int
 | 0=>0
 | i+1=>Ua i+(9*(332+272*(i:Int))+((i:Int)+1)*(256+544*(i:Int)))
theorem PF: ∀i:Nat,i<=8 ->0<=Ua i /\ Ua i<=193056:=⋯
def vW (s:Int)(i:Nat):Int:=if s=0 then 0 else Ua i
def Aa (s:Int)(i:Nat)(h:i<=8):0<=vW s i /\ vW s i<=193056:=by unfold vW;have:=PF i h;split<;>lia
structure Xx (S:Addr)(s p Z:Int)(w:Nat)(aV:List Pt)(i:Nat)(M:Mp)(hd:Addr)(L:List fO)(bs:List Pt):Prop where
 held:nE S s p M hd L
 md: ∀t∈L,oX s p (aV.take i) t.b t.Q
 low: ∀t∈L, ∀u∈L,t.c<u.c ->lL s u.c u.len t.b
 sp: ∀pt∈aV.take i,fu s p (L.map (·.b)) (look pt)
 base:LH s p w (aV.take i) bs L
 bz:s=0 -> ∀t∈L,Wt Z t.b
 bp: ∀t∈L,pj s (vW s i) (vW s i) t.Q
 fin: ∀t∈L,Wt 1000000 t.b /\ t.len<3000000
 len:L.length<=i
structure Ii (s p Z:Int)(w:Nat)(aV:List Pt):Prop where
 pat: ∀pt∈aV,cW p pt /\ o9 s Z w w pt
 len:aV.length<=8
 hp:p=2 \/ p=3 \/ p=5 \/ p=7
 s0:0<=s
 s8:s<=8
 z0:0<=Z
 z1:Z<=10000
 We:s=0 ->w=0
 zd:w<=60
 sw:s*w<=68
def wF (h:nE S s p M hd L)(s0:0<s):(L.length:Int) <=s:=by
 have:=fM (l:=rA 0 s.toNat) h.nd λc hc=>by let⟨t,ht,rfl⟩:=af.mp hc;obtain z | z:=(h.each t ht).k7.ok;lia;show i_.mpr ∅
 rw[aa] at this;unfold rA at this;rw[aa,bO] at this;lia
def MG (P:Ii s p Z w aV){m:Nat}(hm:s≠0 ->(m:Int) <=s):(m:Int)*w<=68:=by by_cases z:s=0;rw[P.We z];simp;have:=aS (hm z) (show 0<=(w:Int) by lia);have:=P.sw;lia
theorem Xx.mJ (P:Ii s p Z w aV)(h:Xx S s p Z w aV i M hd L bs): ∀t∈L,qM s Z (2*((L.length:Int)*w)) (vW s i) t:=λt ht=>by
 have UL: ∀u∈L,0<=u.len:=λu hu=>(h.held.each u hu).k7.l0;by_cases z:s=0;have e:=P.We z;rw[e];exact#[#[λx _=>by rw[z,l6];simp,λ_=>h.bz z t ht],by rw[(h.held.each t ht).k7.s0 z];simp,h.bp t ht];have s1:0<s:=by have:=P.s0;lia
 have hb: ∀b∈bs,b∈aV:=λb hb=>List.mem_of_mem_take (h.base.of b hb);have hw: ∀b∈bs, ∀x,look b x≠0 -> -(w:Int) <=hI s x /\ hI s x<=w:=λb uK x hx=>(P.pat b (hb b uK)).2.1 x hx;have ik: ∀b∈bs,fu s p (L.map (·.b)) (look b):=λb uK=>h.sp b (h.base.of b uK);have h1:=λ{x} hx=>JJ (D:=1000000) P.hp s1 h.held (λt ht=>(h.fin t ht).1) (λt ht=>(h.fin t ht).2) h.low h.base ik hw ht (x:=x) hx;have h2:=Gy (D:=1000000) P.hp s1 h.held (λt ht=>(h.fin t ht).1) (λt ht=>(h.fin t ht).2) h.base ik hw;have h3:=J8 (w:=w) ht UL;have e:((2*L.length*w:Nat):Int)=2*((L.length:Int)*w):=by push_cast;rw[eB]
 rw[e] at h2;exact#[#[λx hx=>by have:=h1 hx;rw[e] at this;show this,λq=>absurd q z], ∅,h.bp t ht]
def jj {l:fk Pt}(h:n<k):(l.take k).getD n []=l.getD n []:=by rw[a9,a9,List.getElem?_take_of_lt h]
def oX.more {aV:fk Pt}(h:oX s p (aV.take i) b Q)(hi:i<aV.length):oX s p (aV.take (i+1)) b Q:=by
 have l1:(aV.take i).length=i:=by rw[bg];lia
 have l2:(aV.take (i+1)).length=i+1:=by rw[bg];lia
 exact#[λx=> ?_,λw hw=>by have:=h.key w hw;rw[l1] at this;rw[l2];push_cast;lia];rw[h.is,l1,l2];have ZL:pf Q (i:Int)= []:=kD λhm=>by have:=h.key _ hm;rw[l1] at this;lia
 have: ∀n,n<=i ->ku s (aV.take i) Q x n=ku s (aV.take (i+1)) Q x n:=λn=>by
  induction n with
  | zero=>intro _;rfl
  | succ n ih=>intro hn;rw[ku,ku,ih ∅,jj ∅,jj ∅]
 rw[ku,ZL,this i (ap _)];change _=(_+0) % p;rw[a6]
def oX.first {aV:fk Pt}(p0:0<p)(hi:aV[i]? =some pt):oX s p (aV.take (i+1)) pt [((i:Int),q,[(0,1)])]:=by
 have hl:=(aj.mp hi).1;have l2:(aV.take (i+1)).length=i+1:=by rw[bg];lia
 refine#[λx=> ?_,λw hw=>by rw[List.map_singleton,ah] at hw;rw[l2,hw];push_cast;lia];rw[l2,ku];have h0: ∀n,n<=i ->ku s (aV.take (i+1)) [((i:Int),q,[(0,1)])] x n=0:=λn=>by
  induction n with
  | zero=>intro _;rfl
  | succ n ih=>
   intro hn;have:pf [((i:Int),q,[((0:Int),(1:Int))])] (n:Int)= []:=kD λhm=>by rw[List.map_singleton,ah] at hm;have:(n:Int)=i:=hm;lia
   rw[ku,ih ∅,this];rfl
 have e:pf [((i:Int),q,[((0:Int),(1:Int))])] (i:Int)= [(0,1)]:=by simp[pf]
 rw[h0 i (ap _),e,jj (cF _),iK hi];change _=(0+(look pt (x - s*0)*1+0)) % p;rw[cb,Int.sub_zero,d7,a6,bA]
def Ef {M1:Mp}(P:Ii s p Z w aV)(h:Xx S s p Z w aV i M hd L bs)(hi:aV[i]? =some pt)(oF:nE S s p M1 hd L1)(Ax: ∀t∈L1,Wt 1000000 t.b /\ t.len<3000000)(WF: ∀t∈L1,oX s p (aV.take (i+1)) t.b t.Q)(dj:L1.length<=L.length+1)(sA: ∀c∈L.map (·.c),c∈L1.map (·.c)): ∃bs1,LH s p w (aV.take (i+1)) bs1 L1:=by
 have hl:=(aj.mp hi).1;have EE:=fM h.held.nd sA;rw[aa,aa] at EE;have oB: ∀b∈aV.take i,b∈aV.take (i+1):=λb hb=>by rw[bC];show aA.mpr (.inl hb)
 have pR:pt∈aV.take (i+1):=by rw[bC,hi];show aA.mpr (.inr (ah.mpr rfl))
 have p0:0<p:=by have:=P.hp;lia
 have p1:1<p:=by have:=P.hp;lia
 by_cases e:L1.length=L.length;show#[bs,by rw[e];show h.base.len,h.base.ind,λb hb=>oB b (h.base.of b hb)];exact#[bs++ [pt],by rw[aR,db,h.base.len];lia,λz=> ?_,λb hb=> ?_];have s1:0<s:=by have:=P.s0;lia
 let⟨Ls,o⟩:=rS L h.held.nd;let⟨Ls1,o1⟩:=rS L1 oF.nd;have e1:(gf p Ls).length=L.length:=by unfold gf;rw[aa];show o.perm.length_eq
 have e2:(gf p Ls1).length=L1.length:=by unfold gf;rw[aa];show o1.perm.length_eq
 exact Am P.hp s1 (rH p1 h.held o (λt ht=>(h.fin t ht).1) λt ht=>(h.fin t ht).2) (rH p1 oF o1 (λt ht=>(Ax t ht).1) λt ht=>(Ax t ht).2) (h.base.ind z) (λb hb=>oA p0 h.held o (h.sp b (h.base.of b hb))) (by rw[e1,e2];lia) λst f8=> ?_;let⟨t,ht,rfl⟩:=af.mp f8;have qB:=o1.perm.mem_iff.mp ht;have m:=WF t qB;have l2:(aV.take (i+1)).length=i+1:=by rw[bg];lia
 exact#[pf t.Q i,(fu.gz (sts:=aV.take i) (sts':=gf p Ls) (λb hb=>oA p0 h.held o (h.sp b hb)) (λn=>pf t.Q n) i (by rw[bg];lia)).ext λx=> ?_];rw[gL p0 (oF.each t qB).row.ga,Int.sub_emod,m.is,l2,ku,jj (cF _),iK hi, <- Int.sub_emod];have: ∀n,n<=i ->ku s (aV.take (i+1)) t.Q x n=gz s (aV.take i) (λn=>pf t.Q n) x n:=λn=>by
  induction n with
  | zero=>intro _;rfl
  | succ n ih=>intro hn;rw[ku,gz,ih ∅,jj ∅,jj ∅]
 rw[this i (ap _)];congr 1;lia;obtain hb | hb:=aA.mp hb;show oB b (h.base.of b hb);rw[ah.mp hb];show pR
structure Bui (s p Z:Int)(w:Nat)(aV sts:List Pt)(Ps:List Pq):Prop where
 fP:qK s p sts 1000000
 trim:qJ s p sts 1000000
 sp: ∀pt∈aV,fu s p sts (look pt)
 len:Ps.length=sts.length
 HB:sts.length<=aV.length
 md: ∀ (k:Nat) st P,sts[k]? =some st ->Ps[k]? =some P ->oX s p aV st P /\ (P.map (·.1)).Nodup /\ (∀t∈P,GD p t.2.2) /\ pj s (vW s aV.length) (vW s aV.length) P
 bx: ∀st∈sts,o9 s Z (2*((sts.length:Int)*w)) (2*((sts.length:Int)*w)) st /\ dN s st<=2*((sts.length:Int)*w)
 cols:s≠0 ->(sts.length:Int) <=s
def O8:jc:=λxs M q=>XE6 λ(u:gY) (p s Z:Int) (w:Nat) (aV:fk Pt)=>fZ (xs= [wi p,wi s,wr u]) (M u=some (.lst (aV.map bN))) (Ii s p Z w aV) (∀ (M':Mp) (v:gY) (as:fk gY) (sts:fk Pt) (Ps:fk Pq),Bui s p Z w aV sts Ps ->Sm M M' ->M v=none ->M' v=some (.lst (as.map wr)) ->as.length=sts.length ->(∀ (k:Nat) a P,as[k]? =some a ->Ps[k]? =some P -> ∃tl:fk h_,tl.Perm (gd p 1 P) /\ M' a=some (.lst (tl.map jv))) ->q (.tup [.tup (sts.map bN),wr v]) M')
theorem Bj (h:Sm M0 M)(k:fQ M M' F)(hf: ∀x∈F,M0 x=none):Sm M0 M':=λd o e=>k d o (h d o e) λhx=>by rw[hf d hx] at e;cases e
end WQ
namespace L2
open PySem
def BI (hK:X.K=K)(he:PE X e ta)(hb:attributeBase e f X.env (eval e X.env)=eval e X.env):PE X (.Attribute e f pos) (Oy K ta f):=by subst hK;show e_ he hb
def Td (K:Ug):R2:=λx y H Q=>JK K x y H Q \/ FQ K x y H Q
theorem KC:Lz X (Td X.K):=cj.or dP
end L2
namespace WL
open PySem L2
section
variable {K:Ug}
def R8:wN:=λx y M q=>Jn x y M q \/ Jm x y M q
instance:IR K (Td K) R8 where
 imp:=by rintro x y v u M H q Q m r1 r2 (h | h) k;show .inl ((inferInstance:IR K (JK K) Jn).imp _ _ _ _ _ _ _ _ m r1 r2 h k);show .inr ((inferInstance:IR K (FQ K) Jm).imp _ _ _ _ _ _ _ _ m r1 r2 h k)
end
end WL
namespace WQ
open PySem L2 WL WP
def Ex (M:Mp)(bw:W)(sts:fk Pt):Prop:=bw= .tup (sts.map bN) \/ ∃b,bw=wr b /\ M b=some (.lst (sts.map bN))
theorem Ex.sm (h:Ex M bw sts)(s:Sm M M'):Ex M' bw sts:=h.imp id λ⟨b,e,hb⟩=>#[b,e,s _ _ hb]
def Ex.ix (h:Ex M bw sts)(kY:iV (sts.map bN) i=some u)(k:q u M):R8 bw (wi i) M q:=by obtain rfl | ⟨b,rfl,hb⟩:=h;show .inr #[_,i,u,rfl,rfl,kY,k];show .inl #[b,_,i,u,rfl,rfl,hb,kY,k]
def Tr:jc:=λxs M q=>Lq λ(a:gY) (bw:W) (p s:Int) (L:Nat) (sts:fk Pt) (tl:fk h_)=>nH (xs= [wi p,wi s,bw,wr a]) (Ex M bw sts) (M a=some (.lst (tl.map jv))) (0<p) (0<=s) (s<=8) (∀t∈tl,0<=t.1 /\ t.1<sts.length /\ t.2.1.natAbs<=1000000 /\ 0<=t.2.2 /\ t.2.2<1000) (fZ (∀st∈sts,st.length<=L /\ ∀z∈st,0<=z.2 /\ z.2<1000) (L<=16000000) (tl.length*L<=16000000) (q (bN (kM p (putL s sts tl))) M))
def De:jc:=λxs M q=>kr λ(d l:gY) (p most:Int)=>Ek (xs= [wr d,wi p,wi most]) (Dr M d l) (2<=p) (p<=7) (0<=most) (most<=60) (∀ (u:gY) (aV:fk Pt) (M':Mp),(∀pt∈aV,cW p pt /\ Wt 6 pt /\ pt.length<=4) ->(aV.length:Int) <=most ->M u=none ->M' u=some (.lst (aV.map bN)) ->Dr M' d l ->mR d M M' ->q (wr u) M')
section
variable {s p D:Int}{sts:fk Pt}{st:Pt}{c len:Int}
theorem vP (h:cW p st):(df st).Pairwise (· < ·):=cG.mpr h.2
def Sr.wH (h:Sr s p st c len D)(s0:0<=s)(hx:x∈df st)(e:bE s x=c):c<=x /\ x<=c+len*s:=by have h1:=h.qe x hx e;have h2:=iF s0 e;have h3:=bV h1.1 s0;have h4:=aS h1.2 s0;lia
theorem Sr.zu (h:Sr s p st c len D)(s0:0<=s)(hl:st.length<=16000000):tT s st c:=#[h.bot,h.ok.own,h.ge,λx hx e=>(h.wH s0 hx e).1,hl,vP h.pat]
def Sr.Bd (h:Sr s p st c len D)(s0:0<=s)(hl:st.length<=16000000):bB s st c≠ [] /\ (bB s st c).headD 0=c /\ (bB s st c).getLastD 0=c+len*s:=by
 have ok:=h.zu s0 hl;have hm:c∈bB s st c:=ay.mpr #[h.bot, ⇑h.ok.own];have Nm:c+len*s∈bB s st c:=ay.mpr #[h.E7, ⇑(h.ok.on len)];have cD:bB s st c≠ []:=λe=>by rw[e] at hm;cases hm
 have qW:(bB s st c).Pairwise (· <= ·):=((vP h.pat).sublist List.filter_sublist).imp λa=> ∅;have hl:=lV qW cD;exact#[cD,ok.head,?_];have h1:=hl.2 _ Nm;have h2:=ay.mp hl.1;have h3:=(h.wH s0 h2.1 ⇑h2.2).2;lia
def O9:jc:=λxs M q=>kr λ(p s D:Int) (sts:fk Pt)=>nH (xs= [wi p,wi s, .tup (sts.map bN)]) (0<=s) (s<=8) (1<p) (qK s p sts D) (∀st∈sts,st.length<=16000000) (sts.length<=1000) (q (wb true) M)
def OZ:jc:=λxs M q=>kr λ(p s D:Int) (sts:fk Pt)=>nH (xs= [wi s, .tup (sts.map bN)]) (0<=s) (s<=8) (qK s p sts D) (qJ s p sts D) (∀st∈sts,st.length<=16000000) (sts.length<=1000) (q (wb true) M)
def BV (s0:0<=s)(gr:GD p r)(h: ∀st∈sts,Sr s p st (cg s st) (dN s st) D /\ st.length<=16000000 /\ lL s (cg s st) (dN s st) r):vV s sts r=true /\ qy s sts r=true:=by
 have hb:qy s sts r=true:=by unfold qy;rw[c8];intro st f8;let⟨sr,_,hl⟩:=h st f8;rw[c8];intro y hy;let⟨x,hx,e⟩:=af.mp hy;have h1:=d8 gr (ay.mp hx).1;have h2:=hl x ⇑((ay.mp hx).2) ∅;rw[e] at h2;show bH h2
 show#[by rw[<- Gv s0 λst f8=>#[_,(h st f8).1.zu s0 (h st f8).2.1]];show hb,hb]
theorem qJ.low (fP:qK s p sts D)(tr:qJ s p sts D)(hk:sts[k]? =some st): ∀bD∈sts.drop (k+1),lL s (cg s bD) (dN s bD) st:=λbD h'=>by let⟨j,hj⟩:=cA.mp h';rw[d5] at hj;show tr k (k+1+j) st bD _ _ ∅ hk hj (fP.of (ar hj))
def vc (l:fk W)(k:Nat):lG l (some ((k:Int)+1)) none=l.drop (k+1):=by rw[show(k:Int)+1=((k+1:Nat):Int) by push_cast;rfl];show yG l (k+1)
end
def qV (h: ∃y,dq js y % p≠0):cO λm k=>d_ (dq js m % p≠0) (dq js k % p≠0) (∀y,dq js y % p≠0 ->k<=y /\ y<=m):=by
 let⟨y,hy⟩:=h;have wX: ∀y,dq js y % p≠0 ->y∈(js.map (·.1)).filter (λy=>decide (dq js y % p≠0)):=λy hy=>ay.mpr #[kt λe0=>hy (by rw[e0];rfl),bH hy];have cD:(js.map (·.1)).filter (λy=>decide (dq js y % p≠0))≠ []:=λe=>by have:=wX y hy;rw[e] at this;cases this
 let⟨ma,mb⟩:=jN cD;let⟨la,lb⟩:=fA cD;show#[_,_, ⇑((ay.mp ma).2), ⇑((ay.mp la).2),λy hy=>#[lb y (wX y hy),mb y (wX y hy)]]
def C1 {f:Int ->Int}(hp:p=2 \/ p=3 \/ p=5 \/ p=7)(s0:0<s)(fP:qK s p sts D)(tr:qJ s p sts D)(e: ∀x,f x % p=gz s sts J x sts.length % p)(hf: ∀x,f x % p≠0 -> -w<=hI s x /\ hI s x<=w): ∀i,i<sts.length -> ∀y,dq (J i) y % p≠0 -> -w<=y /\ y<=w:=by
 have sn:s≠0:= ∅;have sr: ∀i (hi:i<sts.length),Sr s p sts[i] (cg s sts[i]) (dN s sts[i]) D:=λi hi=>fP.of (cq _);have hmul: ∀c a b:Int,c+a*s - s*b=c+(a - b)*s:=λc a b=>by rw[Int.sub_mul,be s b];lia
 have later: ∀i j (hi:i<sts.length) (hj:j<sts.length),i<j -> ∀k,dH (λsh=>look sts[j] (cg s sts[i]+k*s - s*sh)) (J j)=0:=λi j hi hj iJ k=>fI λz _=>ao λhn=>by have h1:=(sr j hj).ge _ (cU hn);rw[hmul,(sr i hi).ok.on] at h1;have:=fP.vI i j _ _ _ _ _ _ iJ (ae hi) (ae hj) (sr i hi) (sr j hj);lia
 have up : ∀ T:Nat, ∀i,i<sts.length -> ∀y,dq (J i) y % p≠0 ->(∀j,j<sts.length -> ∀z,dq (J j) z % p≠0 ->z<=y) ->y<=w:=λ_ i hi y hy KW=>by
  have h1 :=hf (cg s sts[i]+(dN s sts[i]+y)*s) (by
   rw[e,px (i:=i) _ hi λj hj Qh=> ?_,iK (ae hi),nr _ (J i) y λy' ne=> ?_,hmul,show dN s sts[i]+y - y=dN s sts[i] by lia,(sr i hi).top,eQ];show hy;rw[hmul];obtain h | h:=cS y y';have:dq (J i) y' % p=0:=ao λh2=>by have:=KW i hi y' h2;lia
   rw[bP,this,cb];rfl;rw[(sr i hi).out sn ∅,bi];rfl;rw [iK (ae hj)];obtain q | q:=bU j i;exact kI _ _ _ (ap _) λz=> ?_;by_cases hz:dq (J j) z % p=0;rw[bP,hz,cb];rfl;have MW:=KW j hj z hz;rw[hmul];have:look sts[j] (cg s sts[i]+(dN s sts[i]+y - z)*s)=0:=ao λhn=>by have:=tr j i _ _ _ _ q (ae hj) (ae hi) (sr i hi) _ ((sr i hi).ok.on _) hn;rw[jB (sr i hi).ok sn] at this;lia
   rw[this,bi];rfl;rw[later i j hi hj ∅];rfl)
  rw[jB (sr i hi).ok sn] at h1;have:=(sr i hi).l0;lia
 have dn : ∀ i,i<sts.length -> ∀y,dq (J i) y % p≠0 ->(∀j,j<sts.length -> ∀z,dq (J j) z % p≠0 ->y<=z /\ (j<i ->y<z)) -> -w<=y:=λi hi y hy sx=>by
  have hc:=d8 (ff (sr i hi).pat) (sr i hi).bot;have h1 :=hf (cg s sts[i]+y*s) (by
   rw[e,px (i:=i) _ hi λj hj Qh=> ?_,iK (ae hi),nr _ (J i) y λy' ne=> ?_,hmul,Int.sub_self,bi,a6];show n9 hp hy _ hc.1 hc.2;rw[hmul];obtain h | h:=cS y' y;have:dq (J i) y' % p=0:=ao λh2=>by have:=(sx i hi y' h2).1;lia
   rw[bP,this,cb];rfl;rw[(sr i hi).out sn ∅,bi];rfl;rw [iK (ae hj)];obtain q | q:=bU j i;exact kI _ _ _ (ap _) λz=> ?_;by_cases hz:dq (J j) z % p=0;rw[bP,hz,cb];rfl;have MW:=(sx j hj z hz).2 q;rw[hmul];have:look sts[j] (cg s sts[i]+(y - z)*s)=0:=ao λhn=>by have:=tr j i _ _ _ _ q (ae hj) (ae hi) (sr i hi) _ ((sr i hi).ok.on _) hn;rw[jB (sr i hi).ok sn] at this;lia
   rw[this,bi];rfl;rw[later i j hi hj ∅];rfl)
  rw[jB (sr i hi).ok sn] at h1;show h1.1
 have great : ∀n,n<=sts.length ->(∃i,i<n /\ ∃y,dq (J i) y % p≠0) ->cO λi y=>d_ (i<n) (dq (J i) y % p≠0) (∀j,j<n -> ∀z,dq (J j) z % p≠0 ->z<=y):=λn=>by
  induction n with
  | zero=>rintro _ ⟨i,h,_⟩;show absurd h (Nat.not_lt_zero i)
  | succ n ih =>rintro hn ⟨i,hi,y,hy⟩;by_cases h1: ∃i,i<n /\ ∃y,dq (J i) y % p≠0;obtain ⟨i1,y1,a1,a2,a3⟩:=ih ∅ h1;by_cases h2: ∃y,dq (J n) y % p≠0;let⟨m,k,b1,b2,b3⟩:=qV h2;obtain q | q:=cS y1 m;show#[n,m,cF n,b1,λj hj z hz=>by obtain r | r:=bU j n;have:=a3 j r z hz;lia;have:j=n:= ∅;subst this;show(b3 z hz).2];show#[i1,y1, ∅,a2,λj hj z hz=>by obtain r | r:=bU j n;show a3 j r z hz;have:j=n:= ∅;subst this;have:=(b3 z hz).2;lia];show#[i1,y1, ∅,a2,λj hj z hz=>by obtain r | r:=bU j n;show a3 j r z hz;have:j=n:= ∅;subst this;show absurd #[z,hz] h2];have ik:i=n:=ao λq=>h1 #[i, ∅,y,hy];subst ik;let⟨m,k,b1,b2,b3⟩:=qV #[y,hy];show#[i,m,cF i,b1,λj hj z hz=>by obtain r | r:=bU j i;show absurd #[j,r,z,hz] h1;have:j=i:= ∅;subst this;show(b3 z hz).2]
 have least : ∀n,n<=sts.length ->(∃i,i<n /\ ∃y,dq (J i) y % p≠0) ->cO λi y=>d_ (i<n) (dq (J i) y % p≠0) (∀j,j<n -> ∀z,dq (J j) z % p≠0 ->y<=z /\ (j<i ->y<z)):=λn=>by
  induction n with
  | zero=>rintro _ ⟨i,h,_⟩;show absurd h (Nat.not_lt_zero i)
  | succ n ih =>rintro hn ⟨i,hi,y,hy⟩;by_cases h1: ∃i,i<n /\ ∃y,dq (J i) y % p≠0;obtain ⟨i1,y1,a1,a2,a3⟩:=ih ∅ h1;by_cases h2: ∃y,dq (J n) y % p≠0;let⟨m,k,b1,b2,b3⟩:=qV h2;obtain q | q:=cS k y1;show#[n,k,cF n,b2,λj hj z hz=>by obtain r | r:=bU j n;have:=(a3 j r z hz).1;show#[∅,λ_=> ∅];have:j=n:= ∅;subst this;show#[(b3 z hz).1,λh=>absurd h (bT _)]];show#[i1,y1, ∅,a2,λj hj z hz=>by obtain r | r:=bU j n;show a3 j r z hz;have:j=n:= ∅;subst this;have:=(b3 z hz).1;show#[∅,λh=> ∅]];show#[i1,y1, ∅,a2,λj hj z hz=>by obtain r | r:=bU j n;show a3 j r z hz;have:j=n:= ∅;subst this;show absurd #[z,hz] h2];have ik:i=n:=ao λq=>h1 #[i, ∅,y,hy];subst ik;let⟨m,k,b1,b2,b3⟩:=qV #[y,hy];show#[i,k,cF i,b2,λj hj z hz=>by obtain r | r:=bU j i;show absurd #[j,r,z,hz] h1;have:j=i:= ∅;subst this;show#[(b3 z hz).1,λh=>absurd h (bT _)]]
 intro i hi y hy;let⟨i1,y1,a1,a2,a3⟩:=great sts.length (ap _) #[i,hi,y,hy];let⟨i2,y2,b1,b2,b3⟩:=least sts.length (ap _) #[i,hi,y,hy];have c1:=up 0 i1 a1 y1 a2 a3;have c2:=dn i2 b1 y2 b2 b3;have:=a3 i hi y hy;have:=(b3 i hi y hy).1;lia
def jH.Vf {pat e9:Pt}(hp:p=2 \/ p=3 \/ p=5 \/ p=7)(s0:0<=s)(fP:qK s p sts D)(hr:cW p e9)(tk:jH s p sts D Y pat e9 P sts.length)(ik:fu s p sts (look pat)):e9= []:=by let⟨J,hJ⟩:=ik;exact xz (f:=look pat) (J':=λi=>tm (-1) (J i)) hp s0 fP hr cW.nil tk.lowP (λi st c len _ _ x _ h=>absurd rfl h) tk.eqv λx=> ?_;rw[rJ,aX,hJ, <- aX];change(0:Int) % p=_;congr 1;lia
theorem jH.near (hp:p=2 \/ p=3 \/ p=5 \/ p=7)(s0:0<=s)(w0:0<=w)(fP:qK s p sts D)(tr:qJ s p sts D)(ml:cW p pat)(tk:jH s p sts D Y pat [] P sts.length)(hw:s≠0 -> ∀x,look pat x≠0 -> -w<=hI s x /\ hI s x<=w): ∀u∈P,Wt w u.2.2:=λu hu y hy=>by
 have p0:0<p:= ∅;have Hf:look (pf P u.1) y≠0:=by rw[jY tk.nd hu];show hy
 by_cases z:s=0;have:=tk.rE z u.1 y Hf;lia;have hk:=tk.keys u.1 (af.mpr #[u,hu,rfl]);have hi:((u.1.toNat:Nat):Int)=u.1:= ∅;exact C1 (f:=look pat) (J:=λi=>tm (-1) (pf P i)) hp ∅ fP tr (λx=> ?_) (λx hx=>hw z x λe=>hx (by rw[e];rfl)) u.1.toNat ∅ y ?_;have h1:=tk.eqv x;rw[rJ];have h2:(look pat x+gz s sts (λi=>pf P i) x sts.length) % p=0:=h1.symm.trans rfl;exact cK.mpr ?_;rw[<- h2];congr 1;lia;rw[rB,hi,dY (BH tk.gp _)];have hg:GD p (pf P u.1):=by rw[jY tk.nd hu];show tk.gp u hu
 have h3:=hg.range p0 y;rw[be];intro e;have h4:=n9 (p:=p) hp (n:= -1) (by obtain rfl | rfl | rfl | rfl:=hp <;>decide) (look (pf P u.1) y) ∅ h3.2;rw[be] at h4;show h4 e
def CV (h: ∀u∈P,u.2.2.length<=L):(gd p n P).length<=P.length*L:=by unfold gd;show kh λu hu=>by rw[aa];show h u hu
def Yz:jc:=λxs M q=>Ej λ(p s D Z Zm w:Int) (Lb:Nat) (sts:fk Pt)=> ∃ (pat:Pt),nH (xs= [wi p,wi s, .tup (sts.map bN),bN pat]) (p=2 \/ p=3 \/ p=5 \/ p=7) (0<=s) (s<=8) (qK s p sts D) (qJ s p sts D) (cW p pat) (nH (Wt Z pat) (0<=Z) (0<=D) (D<=400000) (Z+sts.length*(D+s) <=Zm) (Zm<=400000) (sts.length<=13) (Ek (fu s p sts (look pat)) (0<=w) (s≠0 -> ∀x,look pat x≠0 -> -w<=hI s x /\ hI s x<=w) (∀st∈sts,st.length<=Lb) (Lb<=16000000) (sts.length*(2*w+1).toNat*Lb<=16000000) (q (wb true) M)))
section
variable {s p D c len Z:Int}{st a r:Pt}
def Df (sx KW len:Int):Nat:=(KW - len+1).toNat+(-sx).toNat
def yW (s c lo hi:Int)(a:Pt):Prop:= ∀x,bE s x=c ->look a x≠0 ->lo<=hI s x /\ hI s x<=hi
def Kk (hp:p=2 \/ p=3 \/ p=5 \/ p=7)(s0:0<=s)(sr:Sr s p st c len D)(ha:cW p a)(cw:yW s c lo hi a)(hz:s=0 ->h=0)(hh:hi=h)(hl:len<=h)(sy:lo<=0)(er: ∀x,look r x=(look a x+look st (x - (h - len)*s)* -(look a (c+h*s))) % p):yW s c lo (if s=0 then -1 else h - 1) r /\ (s=0 -> ∀x,bE s x=c ->look r x=0):=by
 have p0:0<p:= ∅;have Ez:=jz p0 ha;have key:look r (c+h*s)=0:=by rw[er,show c+h*s - (h - len)*s=c+len*s by rw[Int.sub_mul];lia,sr.top,eQ];rw[show look a (c+h*s)+ -look a (c+h*s)=0 by lia];rfl
 by_cases z:s=0;have all: ∀x,bE s x=c ->look r x=0:=λx hx=>by
   have:x=c+h*s:=by rw[z,cb,a6];unfold bE at hx;rw[am z] at hx;show hx
   rw[this];show key
 show#[λx hx cD=>absurd (all x hx) cD,λ_=>all];exact#[λx hx cD=> ?_,λq=>absurd q z];rw[ai z];have ex:=iF s0 hx;by_cases e:hI s x=h;exfalso;rw[e] at ex;rw[ex] at cD;show cD key;by_cases q:look a x=0;have hb:look st (x - (h - len)*s)≠0:=λe0=>cD (by rw[er,q,e0,bi];rfl);have e3:x - (h - len)*s=c+(hI s x - (h - len))*s:=by rw[Int.sub_mul];lia
 have h1:=sr.qe _ (cU hb) (by rw[e3];show sr.ok.on _);rw[e3,jB sr.ok z] at h1;lia;have:=cw x hx q;lia
def Kl (hp:p=2 \/ p=3 \/ p=5 \/ p=7)(s0:0<s)(sr:Sr s p st c len D)(ha:cW p a)(cw:yW s c h hi a)(hh:h<0)(Qi:hi<len)(yc:tn*look st c % p=1)(er: ∀x,look r x=(look a x+look st (x - h*s)*(-(look a (c+h*s))*tn)) % p):yW s c (h+1) (max hi (len - 1)) r:=by
 have p0:0<p:= ∅;have z:s≠0:= ∅;have key:look r (c+h*s)=0:=by
  rw[er,show c+h*s - h*s=c by lia];have e1:look st c*(-look a (c+h*s)*tn)= -look a (c+h*s)*(tn*look st c):=by rw[be (look st c),eB]
  rw[e1,aX,bP,yc,d7,cc, <- aX];rw[show look a (c+h*s)+ -look a (c+h*s)=0 by lia];rfl
 intro x hx cD;have ex:=iF ∅ hx;by_cases e:hI s x=h;exfalso;rw[e] at ex;rw[ex] at cD;show cD key;by_cases q:look a x=0;have hb:look st (x - h*s)≠0:=λe0=>cD (by rw[er,q,e0,bi];rfl);have e3:x - h*s=c+(hI s x - h)*s:=by rw[Int.sub_mul];lia
 have h1:=sr.qe _ (cU hb) (by rw[e3];show sr.ok.on _);rw[e3,jB sr.ok z] at h1;lia;have:=cw x hx q;lia
structure NX (s p:Int)(st a0 r:Pt)(c:Int):Prop where
 pat:cW p r
 eqv: ∃js:Pt, ∀x,look r x % p=(look a0 x+dH (λsh=>look st (x - s*sh)) js) % p
 EH: ∀x,bE s x<c ->look r x=look a0 x
theorem NX.init (h:cW p a):NX s p st a a c:=#[h,#[[],λx=>by change _=(_+0) % p;rw[a6]],λ_ _=>rfl]
def NX.step {pat r':Pt}(hp:0<p)(s0:0<=s)(sr:Sr s p st c len D)(h:NX s p st pat r c)(hy:y=k*s)(e:r'=kM p (r++zW y v st)):NX s p st pat r' c:=by
 have el: ∀x,look r' x=(look r x+look st (x - y)*v) % p:=λx=>by rw[e];show og hp h.pat sr.pat y v x
 let⟨js,ED⟩:=h.eqv;exact#[by rw[e];show iH hp _,#[(k,v)::js,λx=> ?_],λx hx=> ?_];rw[el,cc,cE,aX,ED, <- aX,hy,be k s];congr 1;lia;have:look st (x - y)=0:=ao λhn=>by have h1:=sr.ge _ (cU hn);rw[hy,be,gu] at h1;lia
 rw[el,this,bi,a6,h.EH x hx];have:=jz hp h.pat x;rw[h.EH x hx] at this;show cx this.1 this.2
end
def Sr.Pz (sr:Sr s p st c len D)(s0:0<=s)(d0:0<=D):len<=2*D /\ -D<=c /\ c+len*s<=D:=by have h1:=sr.wt c (by have:=d8 (ff sr.pat) sr.bot;lia);have h2:=sr.wt (c+len*s) (by rw[sr.top];decide);exact#[?_,h1.1,h2.2];by_cases z:s=0;rw[sr.s0 z];lia;have:=a7 (show 1<=s by lia) sr.l0;lia
def Fw (hr:cW p r)(cD:bB s r c≠ []):(∀x,bE s x=c ->look r x≠0 ->(bB s r c).headD 0<=x /\ x<=(bB s r c).getLastD 0) /\ (bE s ((bB s r c).headD 0)=c /\ look r ((bB s r c).headD 0)≠0) /\ bE s ((bB s r c).getLastD 0)=c /\ look r ((bB s r c).getLastD 0)≠0:=by
 have qW:(bB s r c).Pairwise (· <= ·):=((vP hr).sublist List.filter_sublist).imp λa=> ∅;have hl:=lV qW cD;have hh:=wj qW;have hm:(bB s r c).headD 0∈bB s r c:=by
  cases e:bB s r c with
  | nil=>show absurd e cD
  | cons a t=>show aL
 have lit: ∀x∈bB s r c,bE s x=c /\ look r x≠0:=λx hx=>by have h:=ay.mp hx;show#[⇑h.2,by have:=d8 (ff hr) h.1;lia]
 exact#[λx hx pT=> ?_,lit _ hm,lit _ hl.1];have:x∈bB s r c:=ay.mpr #[cU pT, ⇑hx];show#[hh x this,hl.2 x this]
def PM (hp:p=2 \/ p=3 \/ p=5 \/ p=7)(v0:0<v)(v1:v<p): ∃a:Nat,a< (p - 1).toNat /\ (1+(a:Int))*v % p=1:=by obtain rfl | rfl | rfl | rfl:=hp;have:v=1:= ∅;subst this;show#[0,⋯,rfl];have:v=1 \/ v=2:= ∅;obtain rfl | rfl:=this;show#[0,⋯,rfl];show#[1,⋯,rfl];have:v=1 \/ v=2 \/ v=3 \/ v=4:= ∅;obtain rfl | rfl | rfl | rfl:=this;show#[0,⋯,rfl];show#[2,⋯,rfl];show#[1,⋯,rfl];show#[3,⋯,rfl];have:v=1 \/ v=2 \/ v=3 \/ v=4 \/ v=5 \/ v=6:= ∅;obtain rfl | rfl | rfl | rfl | rfl | rfl:=this;show#[0,⋯,rfl];show#[3,⋯,rfl];show#[4,⋯,rfl];show#[1,⋯,rfl];show#[2,⋯,rfl];show#[5,⋯,rfl]
def O5:jc:=λxs M q=>Ej λ(p s D c len Z:Int) (st pat:Pt)=>nH (xs= [wi p,wi s,bN st,bN pat]) (p=2 \/ p=3 \/ p=5 \/ p=7) (0<=s) (s<=8) (Sr s p st c len D) (cW p pat) (Wt Z pat) (j8 (0<=Z) (0<=D) (Z<=600000) (D<=600000) (∀r M',NX s p st pat r c ->lL s c len r ->Wt (Z+3*D) r ->Sm M M' ->q (bN r) M))
def O6:jc:=λxs M q=>XE6 λ(p s D Z:Int) (sts:fk Pt) (pat:Pt)=>nH (xs= [wi p,wi s, .tup (sts.map bN),bN pat]) (p=2 \/ p=3 \/ p=5 \/ p=7) (0<=s) (s<=8) (qK s p sts D) (cW p pat) (Wt Z pat) (l_ (0<=Z) (0<=D) (D<=600000) (Z+3*(sts.length*D) <=600000) (fu s p sts (look pat)) (q (bN []) M))
end WQ
namespace WL
open PySem L2
def Mv:R2:=λx y H Q=>cO λc d=>d_ (x= .bl c) (y= .bl d) (Q (.bl (c !=d)) H)
def RX:wN:=λx y M q=>cO λc d=>d_ (x=wb c) (y=wb d) (q (wb (c !=d)) M)
instance {K:Ug}:IR K Mv RX where
 imp:=by rintro x y v u M H q Q m r1 r2 ⟨c,d,rfl,rfl,h⟩ k;show#[c,d,r1.eq,r2.eq,k _ M _ H h (bu.refl H) m WR.v]
def Gf:pi X (compareOp .IsNot) Mv:=by intro ak s σ H x y v u Q I rx ry h;let⟨c,d,rfl,rfl,q⟩:=h;cases rx;cases ry;show PyProof.Rows.isnot_bool (dC I q rfl)
end WL
namespace WQ
open PySem L2 WL WP
theorem Bt {p:Int}(F:Int ->Int): ∀m:Pt,(∀z∈m,0<z.2 /\ z.2<p) ->(m.map λz=>F z.1*(z.2*1 % p)).sum=dH F m
 | [],_=>by simp[dH]
 | z::r,h=>by have hz:=h z (.head _);rw[aI,eh,cE,Bt F r λy hy=>h y (.tail _ hy),d7,cx ∅ hz.2]
theorem BA {s p x:Int}{sts:fk Pt}(hn: ∀i:Nat,((sts.getD i []).map (·.1)).Nodup): ∀P:Pq,(∀t∈P,GD p t.2.2) ->((gd p 1 P).map (gU s x sts)).sum=(P.map λt=>dH (λsh=>look (sts.getD t.1.toNat []) (x - s*sh)) t.2.2).sum
 | [],_=>by simp[gd]
 | t ::r,h=>by
  have ih:=BA (s:=s) (p:=p) (x:=x) hn r λy hy=>h y (.tail _ hy);have e1:((t.2.2.map λz=>((t.1,z.1,z.2*1 % p):h_)).map (gU s x sts))=t.2.2.map λz=>(λsh=>look (sts.getD t.1.toNat []) (x - s*sh)) z.1*(z.2*1 % p):=by rw[aE];apply bJ;intro z _;simp![Function.comp,gU];rw[dY (hn _),be z.1 s]
  unfold gd at ih ⊢;rw[List.flatMap_cons,aO,List.sum_append,e1,aI,eh,ih];show congrArg (· +_) (Bt (λsh=>look (sts.getD t.1.toNat []) (x - s*sh)) t.2.2 λz hz=>by have:=(h t (.head _)).2 z hz;lia)
def oX.put (m:oX s p aV st P)(p0:0<p)(ip:cW p st)(nd:(P.map (·.1)).Nodup)(gp: ∀t∈P,GD p t.2.2)(hn: ∀i:Nat,((aV.getD i []).map (·.1)).Nodup)(cC:tl.Perm (gd p 1 P)):kM p (putL s aV tl)=st:=by exact n6 (iH p0 _) ip λx=> ?_;rw[jA p0,rC,xj cC,BA hn P gp, <- zn nd m.key, <- m.is,c9 p0 (ff ip)]
def oX.tl {tl:fk h_}(m:oX s p aV st P)(hp:p=2 \/ p=3 \/ p=5 \/ p=7)(nd:(P.map (·.1)).Nodup)(gp: ∀t∈P,GD p t.2.2)(bx:pj s k k P)(k0:0<=k)(ks:s=0 ->k=0)(cC:tl.Perm (gd p 1 P)):Tl s p k aV.length tl:=by
 have lk: ∀u∈P, ∀z∈u.2.2,look (pf P u.1) z.1≠0:=λu hu z hz=>by rw[jY nd hu,gI (gp u hu).1 hz];have:=(gp u hu).2 z hz;lia
 have mm: ∀t∈tl, ∃u∈P, ∃z∈u.2.2,t=(u.1,z.1,z.2*1 % p):=λt ht=>xf (cC.mem_iff.mp ht);have RE:P.length<=aV.length:=by have:=fM (l:=rA 0 aV.length) nd λk hk=>i_.mpr (by have:=m.key k hk;lia);rw[aa] at this;unfold rA at this;rw[aa,bO] at this;show this
 exact#[λt ht=> ?_,λt ht=> ?_,λhs t ht=> ?_,λt ht=> ?_,?_];let⟨u,hu,z,hz,rfl⟩:=mm t ht;show m.key u.1 (af.mpr #[u,hu,rfl]);let⟨u,hu,z,hz,rfl⟩:=mm t ht;have h1:=(gp u hu).2 z hz;change 0<z.2*1 % p /\ z.2*1 % p<p;rw[d7,cx ∅ ∅];lia;let⟨u,hu,z,hz,rfl⟩:=mm t ht;have h1:=bx u.1 z.1 (lk u hu z hz);have:=ks hs;change z.1=0;lia;let⟨u,hu,z,hz,rfl⟩:=mm t ht;have h1:=bx u.1 z.1 (lk u hu z hz);change -k - 1<=z.1 /\ z.1<=k;lia;rw[cC.length_eq];unfold gd;exact aT (kh (L:=(2*k+2).toNat) λu hu=> ?_) (dv _ RE);rw[aa];have:=fM (l:=rA (-k - 1) (2*k+2).toNat) (gp u hu).1 λi hk=>by let⟨z,hz,rfl⟩:=af.mp hk;have:=bx u.1 z.1 (lk u hu z hz);show i_.mpr ∅
 rw[aa] at this;unfold rA at this;rw[aa,bO] at this;show this
def lpk (k:Int):fk Int ->Pt
 | []=> []
 | v::r=>(k,v)::lpk (k+1) r
def lp (l:fk Int):Pt:=lpk 0 l
end WQ
set_option synthInstance.maxSize 100000
set_option synthInstance.maxHeartbeats 0
open PySem L2 WL WP WQ EN PyProof.Rows
local macro_rules | `(tactic| simp? [$xs,*]) => do let a <- ("Y6 abD YI abI Zf Zg ab5 Yu Yf Zb XQ XO XN XM XJ XI XH XG XF XE VW VU VT VS VR VQ VP VO VN VM VL VJ VI VH acf abT abQ ace abV acd abW abU VX X8 abS XW V8 XU V0 Sc XX V5 XR XY X2 X1 Q0 Zi VZ abR XS abX V7 X0 XZ X9 V2 Q2 Q1 N6 X3 abY Q5 X5 RS V3 V4 Q4 Sa Wh Wm Wl Yo Wg abZ Yq Ye S2 Yp SX V9 Ya V' X' X_ VY WW Ze YK WV WU V6 XD Sb KA XT R_ JA JB X4 Wj Zj Ue Q3 V1 S3".splitOn " ").toArray.mapM λs => `(Lean.Parser.Tactic.simpLemma| ↓ $(Lean.mkIdent s.toName):term); let b <- ("MP Kw MN IK Kv Ky IN Kx GQ IL MM Ks ML IF Kr Du B0 Ds Ab BZ ID GO IB EB GN Ku IJ Kt GP IH sl2 sl3 sl4 sl0 List.map_cons List.map_nil List.length_cons List.length_nil Nat.zero_add List.cons_append List.nil_append List.set_cons_zero List.set_cons_succ au ub vm aca ab' ab9 ab3 ab2 ab1 Bool.not_true Bool.not_false List.getElem?_cons_zero List.getElem?_cons_succ Option.join_some and_self and_true true_and Option.getD_some Option.getD_none V_ mx".splitOn " ").toArray.mapM λs => `(Lean.Parser.Tactic.simpLemma| $(Lean.mkIdent s.toName):term); `(tactic| try simp only [$a,*, $b,*, Nat.reduceAdd, Nat.reduceSub, List.reduceReplicate, $xs,*])
local macro_rules | `(tactic| dsimp? [$xs,*]) => `(tactic| (simp? [↓fw, $xs,*]; repeat (with_reducible refine j5 ?_; simp? [↓fw, $xs,*])))
local macro_rules | `(tactic| trivial) => `(tactic| first | exact Or.inl rfl | exact Or.inr rfl)
local macro_rules | `(tactic| right) => `(tactic| decide +kernel)
local macro_rules | `(tactic| left) => `(tactic| (intro _ _ _ h; (repeat (cases h; rename_i h)); subst_vars; rfl))
set_option hygiene false
local macro_rules | `(tactic| exists $a, $n, $c) => `(tactic| (have nd : List.Nodup ($n : List Str) := (by decide +kernel); refine okS (N := $n) $a ⟨rfl, rfl, rfl, nd, rfl, by decide +kernel, by decide +kernel⟩ (by left) λcdv A' outer s H E hr => ?_; refine ⟨_, $c, ?_⟩; (try dsimp only [sL]); refine ⟨_, inferInstance, ?_⟩))
set_option hygiene true
namespace jd
open PySem L2 WL WP WQ EN PyProof.Rows
def top (i:Nat):Stmt:=PySem.Challenge.pw_duskround_k21_stairs_made_of_patterns.main.body.getD i (.Pass #[0,0,0,0])
abbrev zx:Stmt:=top 1
abbrev ur:Stmt:=top 3
abbrev Mh:Stmt:=MS (top 5) 0
abbrev Br:Stmt:=MS (top 6) 0
abbrev xv:Stmt:=top 7
abbrev jo:Stmt:=top 8
abbrev lQ:Stmt:=top 9
abbrev mY:Stmt:=top 10
abbrev Bp:Stmt:=top 11
abbrev mC:Stmt:=top 12
abbrev p_:Stmt:=top 13
abbrev jM:Stmt:=top 14
abbrev Mg:Stmt:=top 15
abbrev Bo:Stmt:=top 16
abbrev kz:Stmt:=top 17
abbrev Bn:Stmt:=top 18
abbrev uo:Stmt:=top 19
abbrev ul:Stmt:=top 20
abbrev uq:Stmt:=top 21
abbrev qQ:Stmt:=top 22
abbrev pD:Stmt:=top 24
abbrev xr:Stmt:=top 25
abbrev Mf:Stmt:=top 26
abbrev rP:Stmt:=top 27
abbrev p9:Stmt:=top 28
abbrev gT:Stmt:=top 29
abbrev vG:Stmt:=top 30
abbrev rQ:Stmt:=top 31
abbrev pC:Stmt:=top 32
abbrev pA:Stmt:=top 33
abbrev xt:Stmt:=top 34
abbrev FF:Stmt:=top 35
abbrev Bq:Stmt:=top 36
abbrev k9:Stmt:=top 37
abbrev k_:Stmt:=top 38
abbrev nS:Stmt:=top 39
abbrev iR:Stmt:=top 40
abbrev jX:Stmt:=top 41
abbrev jW:Stmt:=top 42
abbrev k8:Stmt:=top 43
abbrev pB:Stmt:=top 44
abbrev xu:Stmt:=top 45
abbrev rO:Stmt:=top 46
set_option genInjectivity false in
set_option genSizeOf false in
structure Adr where
 HC:Addr
 HL:FuncData
 uS:Addr
 va:FuncData
 NL:Addr
 NQ:FuncData
 Ck:Addr
 CD:FuncData
 yq:Addr
 yE:FuncData
 lA:Addr
 lF:FuncData
 uT:Addr
 vb:FuncData
 sD:Addr
 sI:FuncData
 NH:Addr
 NM:FuncData
 mM:Addr
 mQ:FuncData
 qg:Addr
 qj:FuncData
 jO:Addr
 jR:FuncData
 NK:Addr
 NP:FuncData
 Ce:Addr
 Cz:FuncData
 oK:Addr
 oR:FuncData
 Cd:Addr
 Cy:FuncData
 uM:Addr
 uZ:FuncData
 uL:Addr
 uY:FuncData
 uN:Addr
 u5:FuncData
 Cj:Addr
 CC:FuncData
 uR:Addr
 u_:FuncData
 yn:Addr
 yB:FuncData
 NJ:Addr
 NO:FuncData
 ym:Addr
 yA:FuncData
 qf:Addr
 qi:FuncData
 jP:Addr
 jS:FuncData
 Cg:Addr
 CA:FuncData
 sE:Addr
 sJ:FuncData
 uQ:Addr
 u9:FuncData
 uO:Addr
 u6:FuncData
 yo:Addr
 yC:FuncData
 HD:Addr
 HM:FuncData
 Ci:Addr
 CB:FuncData
 ly:Addr
 lD:FuncData
 lz:Addr
 lE:FuncData
 oM:Addr
 oS:FuncData
 kO:Addr
 kP:FuncData
 mL:Addr
 mP:FuncData
 mK:Addr
 mO:FuncData
 lx:Addr
 lC:FuncData
 uP:Addr
 u8:FuncData
 yp:Addr
 yD:FuncData
 NI:Addr
 NN:FuncData
 eC:Addr
 d9:Addr
structure jT (K:PySem.W.Frag)(mg:Str ->Option Value)(A:Adr):Prop where
 NV:mg "abs" =none
 yM:mg "all" =none
 Vm:mg "any" =none
 QO:mg "bool" =none
 AI:mg "dict" =none
 qm:mg "enumerate" =none
 Vl:mg "int" =none
 eD:mg "isinstance" =none
 iw:mg "len" =none
 hW:mg "list" =none
 H0:mg "max" =none
 NU:mg "min" =none
 gw:mg "range" =none
 jF:mg "sorted" =none
 ja:mg "tuple" =none
 tidy:jU K mg "tidy" ["p","pairs"] zx A.HC A.HL
 inverse:jU K mg "inverse" ["p","setting"] ur A.uS A.va
 Row:VG K mg "Row" "Row.__init__" ["self","lamps","parts"] Mh A.eC A.NL A.NQ
 Stair:VG K mg "Stair" "Stair.__init__" ["self","row","first","length","foot"] Br A.d9 A.Ck A.CD
 column:jU K mg "column" ["place","stride"] xv A.yq A.yE
 first_column:jU K mg "first_column" ["places","stride"] jo A.lA A.lF
 heights:jU K mg "heights" ["places","stride","first"] lQ A.uT A.vb
 measured:jU K mg "measured" ["stride","stair"] mY A.sD A.sI
 low:jU K mg "low" ["stride","stairs","pattern"] Bp A.NH A.NM
 add_shifted:jU K mg "add_shifted" ["p","held","others","by","n"] mC A.mM A.mQ
 add_moved:jU K mg "add_moved" ["p","stride","row","other","shift","n"] p_ A.qg A.qj
 too_high_or_low:jU K mg "too_high_or_low" ["found","length"] jM A.jO A.jR
 cut:jU K mg "cut" ["p","stride","row","stair"] Mg A.NK A.NP
 stood:jU K mg "stood" ["p","stride","row"] Bo A.Ce A.Cz
 told_parts:jU K mg "told_parts" ["p","parts","n"] kz A.oK A.oR
 taken:jU K mg "taken" ["p","stride","stairs","pattern"] Bn A.Cd A.Cy
 rest_of:jU K mg "rest_of" ["p","stride","stairs","pattern"] uo A.uM A.uZ
 take_in:jU K mg "take_in" ["p","stride","held","row"] ul A.uL A.uY
 lie_low:jU K mg "lie_low" ["p","stride","held"] uq A.uN A.u5
 built:jU K mg "built" ["p","stride","patterns"] qQ A.Cj A.CC
 BU:jU K mg "_law_begin" ["_law_script"] pD A.uR A.u_
 iT:jU K mg "_law_take" ["_law_draw","_law_many"] xr A.yn A.yB
 l_p:jU K mg "_law_p" ["_law_draw"] Mf A.NJ A.NO
 vU:jU K mg "_law_tidy" ["_law_p_here","_law_pairs"] rP A.ym A.yA
 pL:jU K mg "_law_pattern" ["_law_draw","_law_p_here","_law_most","_law_far"] p9 A.qf A.qi
 kN:jU K mg "_law_draw_patterns" ["_law_draw","_law_p_here","_law_most"] gT A.jP A.jS
 GI:jU K mg "_law_sum" ["_law_p_here","_law_one","_law_other","_law_by","_law_many"] vG A.Cg A.CA
 sj:jU K mg "_law_column" ["_law_place","_law_stride"] rQ A.sE A.sJ
 lY:jU K mg "_law_first" ["_law_stride","_law_pattern_here"] pC A.uQ A.u9
 lX:jU K mg "_law_spots" ["_law_stride","_law_pattern_here","_law_at_here"] pA A.uO A.u6
 z7:jU K mg "_law_size" ["_law_stride","_law_stair"] xt A.yo A.yC
 GK:jU K mg "_law_at" ["_law_pattern_here","_law_place"] FF A.HD A.HM
 BS:jU K mg "_law_int" ["_law_thing"] Bq A.Ci A.CB
 oi:jU K mg "_law_is_pattern" ["_law_p_here","_law_thing"] k9 A.ly A.lD
 om:jU K mg "_law_are_stairs" ["_law_p_here","_law_stride","_law_thing"] k_ A.lz A.lE
 si:jU K mg "_law_lies_low" ["_law_stride","_law_stairs","_law_pattern_here"] nS A.oM A.oS
 mH:jU K mg "_law_trim_stairs" ["_law_stride","_law_stairs"] iR A.kO A.kP
 ls:jU K mg "_law_are_parts" ["_law_p_here","_law_stride","_law_many","_law_thing"] jX A.mL A.mP
 lr:jU K mg "_law_put_parts" ["_law_p_here","_law_stride","_law_bases","_law_parts"] jW A.mK A.mO
 oh:jU K mg "_law_taken_down" ["_law_p_here","_law_stride","_law_stairs","_law_pattern_here"] k8 A.lx A.lC
 BR:jU K mg "_law_lower" ["_law_p_here","_law_stride","_law_stair","_law_pattern_here"] pB A.uP A.u8
 GJ:jU K mg "_law_rest" ["_law_p_here","_law_stride","_law_stairs","_law_pattern_here"] xu A.yp A.yD
 law:jU K mg "law" ["_law_script"] rO A.NI A.NN
 n_Row_lamps:fi K A.eC "lamps"
 n_Row_parts:fi K A.eC "parts"
 n_Stair_first:fi K A.d9 "first"
 n_Stair_foot:fi K A.d9 "foot"
 n_Stair_lamps:fi K A.d9 "lamps"
 n_Stair_length:fi K A.d9 "length"
 n_Stair_parts:fi K A.d9 "parts"
theorem rN:jV ["_law_script"] ["_law_script"] (bn pD):=#[rfl,rfl,rfl,by right,rfl,by right,by right]
theorem FE:jV ["_law_script","_law_draw","_law_p_here","_law_stride","_law_patterns","_law_handed","_law_found","_law_stairs","_law_k"] ["_law_script"] (bn rO):=#[rfl,rfl,rfl,by right,rfl,by right,by right]
def Dh {K:Ug}(T:jT K mg A):dR P w K mg base iq 1 A.yq A.yE ["place","stride"] (jJ K Tu):=by
 exists T.column.fn,["place","stride"],(aD (dS (bK iX (pv 1) aF (bW _)) (aK (bF (pv 0))) cy) (aK (bF (bR gX (pv 0) (pv 1)))))
 rintro vs M q ⟨x,s,rfl,s0,s1,k⟩;dsimp? [];exact dQ (λh=> ?_) λh=> ?_;dsimp? [];rw[bE,am h] at k;show no k;have h0:0<s:= ∅;dsimp? [h0];rw[bE,ai h] at k;show no k
def qb {K:Ug}(T:jT K mg A):dR P w K mg base iq 1 A.sE A.sJ ["_law_place","_law_stride"] (jJ K Tu):=by
 exists T.sj.fn,["_law_place","_law_stride"],(aD (dS (bK iX (pv 1) aF (bW _)) (aK (bF (pv 0))) cy) (aK (bF (bR gX (pv 0) (pv 1)))))
 rintro vs M q ⟨x,s,rfl,s0,s1,k⟩;dsimp? [];exact dQ (λh=> ?_) λh=> ?_;dsimp? [];rw[bE,am h] at k;show no k;have h0:0<s:= ∅;dsimp? [h0];rw[bE,ai h] at k;show no k
def gG {K:Ug}(T:jT K mg A):dR P w K mg base iq 2 A.lA A.lF ["places","stride"] (jJ K Gd):=by
 exists T.first_column.fn,["places","stride"],(aK (bF (JU (by rfl) T.NU rfl (fb rfl (dD.of (sc:=bn jo) (N:= ["places","stride"]) (own:= ["place"]) (fr:= [1]) (N':= ["place","stride"])) (eU (pv 0)) (λ_ _ _ _=>(bf (i:=0) (by change(["place","stride"]:fk Str).Nodup;decide+kernel) rfl (by trivial))) dZ (λ_ _ _ _=>fB) (λ_ _ _ _=>(aM T.column (Dh T) hr (ab (pv 0) (ab (pv 1) aw))))) F8)))
 rintro vs M q ⟨a,ns,s,rfl,ha,hl,s0,s1,k0,k1⟩;dsimp? [EV,ha];exact gj (λx:Int=>wi (bE s x)) (big ∅) (λM6 s6=>s6 _ _ ha) ?_ λt ht=> ?_;intro x hx M3 N s3 hN;dsimp? [];exact#[x,s,rfl,s0,s1,?_];dsimp? [];show hN;dsimp? [];exact#[t,ns.map (bE s),rfl,by rw[au,aE];rfl,λe=> ?_,λm hm=> ?_];dsimp? [];show#[M,ce ht,k0 ⇑e];dsimp? [];have cD:ns≠ []:=by rintro rfl;show absurd hm.1 (by simp)
 rw[gE.uniq hm (fA ⇑cD)];show#[M,ce ht,k1 cD]
def kE {K:Ug}(T:jT K mg A):dR P w K mg base iq 1 A.uT A.vb ["places","stride","first"] (jJ K YE):=by
 exists T.heights.fn,["places","stride","first"],(aD (dS (bK iX (pv 1) aF (bW _)) (aK (bF (fb rfl (dD.of (sc:=bn lQ) (N:= ["places","stride","first"]) (own:= ["place"]) (fr:= [2]) (N':= ["place","first"])) (eU (pv 0)) (λ_ _ _ _=>(bf (i:=0) (by change(["place","first"]:fk Str).Nodup;decide+kernel) rfl (by trivial))) dZ (λ_ _ _ _=>(lS (bK iX (pv 0) (pv 1) (bW _)))) (λ_ _ _ _=>aF)))) cy) (aK (bF (br AE (by rfl) T.jF Boot.«sorted» (ab (fb rfl (dD.of (sc:=bn lQ) (N:= ["places","stride","first"]) (own:= ["place"]) (fr:= [1,2]) (N':= ["place","stride","first"])) (eU (pv 0)) (λ_ _ _ _=>(bf (i:=0) (by change(["place","stride","first"]:fk Str).Nodup;decide+kernel) rfl (by trivial))) dZ (λ_ _ _ _=>(lS (bK iX (bR gX (pv 0) (pv 1)) (pv 2) (bW _)))) (λ_ _ _ _=>(bR qT (pv 0) (pv 1)))) aw)))))
 rintro vs M q ⟨a,ns,s,f,rfl,ha,hl,s0,s1,k⟩;dsimp? [];exact dQ (λh=> ?_) λh=> ?_;subst h;dsimp? [ha];exact lI (λx:Int=>decide (x=f)) (λx:Int=>wi 0) (big ∅) (λM6 s6=>s6 _ _ ha) ?_ λt ht=> ?_;intro x hx M3 N s3 hN;dsimp? [];exact dQ (λh=> ?_) λh=> ?_;dsimp? [];simpa only[h,decide_true,bZ] using hN;dsimp? [];simpa only[h,decide_false,aB,bj] using hN;dsimp? [];have e:(ns.filter λx=>decide (x=f)).map (λ_=>wi 0)=(kq 0 f ns).map wi:=by unfold kq;rw[aE];rfl
 rw[e];exact no (k t _ ht (List.Perm.refl _) ?_);unfold kq;rw[cG];show List.pairwise_of_forall λ_ _=>aY _;have h0:0<s:= ∅;have cd: ∀x,wS x s=True:=λx=>by simp[wS];lia
 dsimp? [ha,h0,cd];exact lI (λx:Int=>decide (x % s=f)) (λx:Int=>wi (x / s)) (big ∅) (λM6 s6=>s6 _ _ ha) ?_ λt ht=> ?_;intro x hx M3 N s3 hN;dsimp? [h0];exact dQ (λh=> ?_) λh=> ?_;dsimp? [h0,cd];simpa only[h,decide_true,bZ] using hN;dsimp? [];simpa only[h,decide_false,aB,bj] using hN;dsimp? [EU];have e:(ns.filter λx=>decide (x % s=f)).map (λx=>wi (x / s))=(kq s f ns).map wi:=by unfold kq bE hI;rw[aE];simp![h,bj];rfl
 exact#[t,kq s f ns,rfl,by rw[au,e],λp ms hp h1 h2=> ?_];dsimp? [];show#[_,OH ht hp,k p ms (by rw[aJ (λz=>by rw[z,au] at hp;cases hp)] at hp;show hp) h1 h2]
def rX {K:Ug}(T:jT K mg A):dR P w K mg base iq 1 A.NL A.NQ ["self","lamps","parts"] (jJ K (O4 A.eC)):=by
 have cl:=a8 T.Row.cl;have n1:=a8 T.n_Row_lamps;have n2:=a8 T.n_Row_parts;exists T.Row.fn,["self","lamps","parts"],(aD (m7 (pv 0) (pv 1) rfl) (aK (m7 (pv 0) (pv 2) rfl)))
 rintro vs M q ⟨s,dx,l,r,rfl,hs,k⟩;have e1:kL "lamps" l []= [(("lamps" :Str),l)]:=rfl;have e2:kL "parts" r [(("lamps" :Str),l)]= [(("lamps" :Str),l),(("parts" :Str),r)]:=rfl;dsimp? [hs,cl,n1,n2,e1,e2,Nat.reduceLT];show no k
def Gi {K:Ug}(T:jT K mg A):dR P w K mg base iq 1 A.Ck A.CD ["self","row","first","length","foot"] (jJ K (Gb A.eC A.d9)):=by
 have cl:=a8 T.Row.cl;have cl2:=a8 T.Stair.cl;have n1:=a8 T.n_Row_lamps;have n2:=a8 T.n_Row_parts;have m1:=a8 T.n_Stair_lamps;have m2:=a8 T.n_Stair_parts;have m3:=a8 T.n_Stair_first;have m4:=a8 T.n_Stair_length;have m5:=a8 T.n_Stair_foot;exists T.Stair.fn,["self","row","first","length","foot"],(aD (m7 (pv 0) (e_ (pv 1) rfl) rfl) (aD (m7 (pv 0) (e_ (pv 1) rfl) rfl) (aD (m7 (pv 0) (pv 2) rfl) (aD (m7 (pv 0) (pv 3) rfl) (aK (m7 (pv 0) (pv 4) rfl))))))
 rintro vs M q ⟨s,dx,r,dr,l,u,f,g,e,rfl,hsr,hs,hr,k⟩;have f1: [(("lamps" :Str),l),(("parts" :Str),u)].lookup ("lamps" :Str)=some l:=rfl;have f2: [(("lamps" :Str),l),(("parts" :Str),u)].lookup ("parts" :Str)=some u:=rfl;have e1:kL "lamps" l []= [(("lamps" :Str),l)]:=rfl;have e2:kL "parts" u [(("lamps" :Str),l)]= [(("lamps" :Str),l),(("parts" :Str),u)]:=rfl;have e3:kL "first" f [(("lamps" :Str),l),(("parts" :Str),u)]= [(("lamps" :Str),l),(("parts" :Str),u),(("first" :Str),f)]:=rfl;have e4:kL "length" g [(("lamps" :Str),l),(("parts" :Str),u),(("first" :Str),f)]= [(("lamps" :Str),l),(("parts" :Str),u),(("first" :Str),f),(("length" :Str),g)]:=rfl;have e5:kL "foot" e [(("lamps" :Str),l),(("parts" :Str),u),(("first" :Str),f),(("length" :Str),g)]= [(("lamps" :Str),l),(("parts" :Str),u),(("first" :Str),f),(("length" :Str),g),(("foot" :Str),e)]:=rfl;dsimp? [hs,hr,cl,cl2,n1,n2,m1,m2,m3,m4,m5,f1,f2,e1,e2,e3,e4,e5,aJ (aW hsr),Nat.reduceLT];show no k
def lm {K:Ug}(T:jT K mg A):dR P w K mg base iq 1 A.mM A.mQ ["p","held","others","by","n"] (jJ K Tw):=by
 exists T.add_shifted.fn,["p","held","others","by","n","key","setting","now"],(aK (BC (fD bv rfl (xG rfl (pv 2)) (gH (n:=2) rfl (ci (bf (i:=5) nd rfl (by trivial)) (ci (bf (i:=6) nd rfl (by trivial)) fT))) (aD (b8 (i:=7) nd rfl (by trivial) (bR gX (bR fg (nY (f' hr) (pv 1) (bR fg (pv 5) (pv 3)) aF #[by rfl,by rfl,by rfl,by rfl]) (bR f7 (pv 6) (pv 4))) (pv 0))) (aK (dS (bK mE (pv 7) aF (bW _)) (aK (nU (f' hr) (pv 1) (bR fg (pv 5) (pv 3)) (pv 7) rfl)) (aK (JR (pv 1) (bR fg (pv 5) (pv 3))))))))))
 rintro vs M q ⟨h,o,p,oV,n,a,b,rfl,W9,hh,ho,p0,p1,ga,gb,nz,hl,k⟩;exact#[o,_,ho,?_];dsimp? [ho];intro ob ks;have Ap:(fY b).map (λkv=>W.tup [gq kv.1,kv.2])=b.map dh:=by unfold fY;rw[aE];rfl
 rw[Ap];exact gx (λi ρ M'=>kr λ(o1 o2 o3:fG W) (c:Pt)=>Ek (ρ= [some (wi p),some (wr h),some (wr o),some (wi oV),some (wi n),o1,o2,o3]) (M' h=some (.dK (fY c))) (M' o=some (.fz ob ks (fY b))) (∀d,d≠h ->d≠o ->M' d=M d) (GD p c) (c.length<=a.length+i) (∀x,look c x=(look a x+dq (Me oV (b.take i)) x*n) % p)) #[none,none,none,a,rfl,by rw[aJ W9];show hh,au,λd _ h2=>aJ h2,ga,ap _,λx=>by have:=ga.range p0 x;simp[Me,dq];show(cx this.1 this.2).symm] ?_ ?_ ?_;rintro i ρ M' _ ⟨o1,o2,o3,c,rfl,_,h2,_⟩;show h2;rintro i x ρ M' hx ⟨o1,o2,o3,c,rfl,h1,h2,h3,gc,pd,Hf⟩ N hN;let⟨z,hz,rfl⟩:=pairs_at hx;have DG:=(aj.mp hz).1;have hzr:=gb.2 z (ar hz);have cm:iP z.2 n=True:=a8 (.inl #[∅, ∅]);have hs:((fY c).length<sizeLine)=True:=by rw[fY,aa];show a8 (AH ∅)
 have Ma: ∀x,(look a x+dq (Me oV (b.take (i+1))) x*n) % p=if x=z.1+oV then(look c (z.1+oV)+z.2*n) % p else look c x:=λx=>by
  have e:Me oV (b.take (i+1))=Me oV (b.take i)++ [(z.1+oV,z.2)]:=by rw[bC,hz];unfold Me;rw[aO];rfl
  rw[e,nL];by_cases ex:x=z.1+oV;subst ex;rw[am rfl,am rfl,Hf,dJ,eR,Int.add_assoc];rw[ai ex,ai (λq=>ex q.symm),Hf,a6]
 dsimp? [dh,h1,qY,cm,p0];exact Aj (λcD=> ?_) λhe=> ?_;have h0:=c6 (look c (z.1+oV)+z.2*n) (show p≠0 by lia);have hp:=cJ (look c (z.1+oV)+z.2*n) p0;dsimp? [h1,hs,qS];exact hN _ _ #[_,_,_,mj c (z.1+oV) ((look c (z.1+oV)+z.2*n) % p),rfl,au,by rw[aJ (aW W9)];show h2,λd d1 d2=>by rw[aJ d1];show h3 d d1 d2,gc.put ∅ hp,aT sf ∅,λx=> ?_];rw[Ma,pK];have Z8:((fX (fY c) (Sum.inl (z.1+oV))).isSome=true)=True:=a8 (K6 λe0=>by rw[e0,bA] at he;show nz z.2 hzr.1 hzr.2 he);dsimp? [h1,Z8,HG];exact hN _ _ #[_,_,_,hU c (z.1+oV),rfl,au,by rw[aJ (aW W9)];show h2,λd d1 d2=>by rw[aJ d1];show h3 d d1 d2,gc.drop _,aT (Dq _ _) ∅,λx=> ?_];rw[Ma,z4,he];rintro ρ M' ⟨o1,o2,o3,c,rfl,h1,h2,h3,gc,pd,Hf⟩;rw[aa] at pd Hf;rw[bQ] at Hf;exact#[ob,ks,fY b,h2,um M h (.dK (fY c)),λd u e=> ?_,k c gc pd λx=> ?_];by_cases d1:d=h;subst d1;rw[au] at e;rw[aJ W9,h1];show e;rw[aJ d1] at e;by_cases d2:d=o;subst d2;rw[au, <- ho];show e;rw[aJ d2,h3 d d1 d2];show e;rw[Hf,A0,dY gb.1]
end jd
open PySem L2 WL WP WQ EN PyProof.Rows
namespace jd
open PySem L2 WL WP WQ EN PyProof.Rows
def kF {K:Ug}(T:jT K mg A):dR P w K mg base iq 2 A.qg A.qj ["p","stride","row","other","shift","n"] (jJ K (MC A.eC A.d9)):=by
 exists T.add_moved.fn,["p","stride","row","other","shift","n","which","settings"],(aD (gl (aM T.add_shifted (lm T) hr (ab (pv 0) (ab (e_ (pv 2) rfl) (ab (e_ (pv 3) rfl) (ab (bR f7 (pv 1) (pv 4)) (ab (pv 5) aw))))))) (aK (BC (fD bv rfl (xG rfl (e_ (pv 3) rfl)) (gH (n:=2) rfl (ci (bf (i:=6) nd rfl (by trivial)) (ci (bf (i:=7) nd rfl (by trivial)) fT))) (aK (gl (aM T.add_shifted (lm T) hr (ab (pv 0) (ab (F9 (e_ (pv 2) rfl) (pv 6) ju #[by rfl,by rfl,by rfl,by rfl]) (ab (pv 7) (ab (pv 4) (ab (pv 5) aw))))))))))))
 rintro vs M q ⟨r,rl,rp,o,ol,op,p,s,sh,n,a,b,P,Q,B,C,rfl,KL,Nh,p0,p1,s0,s1,nz,jp,iM,pe,Hv,hPQ,hB,hC,hBC,k⟩;let⟨Cr,dr,Aw,v_,y8,BM,Pm,DU,RG⟩:im λCr dr Aw=>l_ (M r=some (.ins Cr dr Aw)) (AS K Cr=True) (fi K Cr "lamps" =True) (fi K Cr "parts" =True) (Aw.lookup ("lamps" :Str)=some (wr rl)) (Aw.lookup ("parts" :Str)=some (wr rp)):=by
  rcases KL with⟨d,e⟩ | ⟨d,f,g,e',e⟩
  show#[_,_,_,e,a8 T.Row.cl,a8 T.n_Row_lamps,a8 T.n_Row_parts,rfl,rfl];show#[_,_,_,e,a8 T.Stair.cl,a8 T.n_Stair_lamps,a8 T.n_Stair_parts,rfl,rfl]
 let⟨Co,dO,fs,ho,clO,nO1,nO2,fO1,fO2⟩:im λCo dO fs=>l_ (M o=some (.ins Co dO fs)) (AS K Co=True) (fi K Co "lamps" =True) (fi K Co "parts" =True) (fs.lookup ("lamps" :Str)=some (wr ol)) (fs.lookup ("parts" :Str)=some (wr op)):=by
  rcases Nh with⟨d,e⟩ | ⟨d,f,g,e',e⟩
  show#[_,_,_,e,a8 T.Row.cl,a8 T.n_Row_lamps,a8 T.n_Row_parts,rfl,rfl];show#[_,_,_,e,a8 T.Stair.cl,a8 T.n_Stair_lamps,a8 T.n_Stair_parts,rfl,rfl]
 have cm:iP s sh=True:=a8 (.inl #[∅, ∅]);have zT: ∀ {x C' d' DO},M x=some (.ins C' d' DO) ->x∉b7 rl rp P:=λ{x C' d' DO} e hx=>by let⟨kvs,e2⟩:=jp.mem hx;rw[e] at e2;cases e2
 have acj: ∀ {x C' d' DO},M x=some (.ins C' d' DO) ->x∉b7 ol op Q:=λ{x C' d' DO} e hx=>by let⟨kvs,e2⟩:=iM.mem hx;rw[e] at e2;cases e2
 have Rc:rl∈b7 rl rp P:=by simp[b7]
 have mrp:rp∈b7 rl rp P:=by simp[b7]
 have mol:ol∈b7 ol op Q:=by simp[b7]
 have WD:op∈b7 ol op Q:=by simp[b7]
 have min: ∀t∈Q,t.2.1∈b7 ol op Q:=λt ht=>by simp![b7,ax,af];show .inr (.inr #[t,ht,rfl])
 have ndQ:=bI.mp (bI.mp iM.MD).2;dsimp? [v_,ho,y8,BM,Pm,clO,nO1,nO2,DU,RG,fO1,fO2,cm];exact#[rl,ol,p,s*sh,n,a,b,rfl,λe=>pe rl Rc (by rw[e];show mol),jp.lam,iM.lam,p0,p1,jp.ga,iM.ga,nz,Hv,λc gc pd Hf=> ?_];simp? [↓fw];exact j5 ?_;have OP:=jp.Y' gc;have ho1:um M rl (.dK (fY c)) o=some (.ins Co dO fs):=by rw[aJ (λe=>zT ho (by rw[e];show Rc))];show ho
 have B9:um M rl (.dK (fY c)) r=some (.ins Cr dr Aw):=by rw[aJ (λe=>zT v_ (by rw[e];show Rc))];show v_
 have DE:um M rl (.dK (fY c)) op=some (.dK (nF Q)):=by rw[aJ (λe=>pe rl Rc (by rw[<- e];show WD))];show iM.par
 exact#[op,nF Q,DE,?_];dsimp? [ho1,clO,nO2,fO2,DE];intro ob ks;have Ap:(nF Q).map (λkv=>W.tup [gq kv.1,kv.2])=Q.map λt=>W.tup [wi t.1,wr t.2.1]:=by unfold nF;rw[aE];rfl
 rw[Ap];generalize Qw:um M rl (.dK (fY c))=M1 at OP ho1 B9 DE;have Za:fQ M M1 (b7 rl rp P):=λd u e nd=>by rw[<- Qw,aJ (λz=>nd (by rw[z];show Rc))];show e
 have Xl: ∀x,M1 x=none ->M x=none:=λx e=>by
  cases e2:M x with
  | none=>rfl
  | some u=>by_cases hx:x=rl;(· subst hx;rw[OP.lam] at e;cases e);(· rw[<- Qw,aJ hx,e2] at e;cases e)
 exact gx (λi ρ M'=>im λ(o1 o2:fG W) (P':Pq)=>nH (ρ= [some (wi p),some (wi s),some (wr r),some (wr o),some (wi sh),some (wi n),o1,o2]) (M' op=some (.fz ob ks (nF Q))) (cZ p M' rl rp c P') (fQ M1 M' (op::b7 rl rp P)) (∀x∈b7 rl rp P',x∈b7 rl rp P \/ M1 x=none) (∀x∈b7 rl rp P,x∈b7 rl rp P') (∀w x,look (pf P' w) x=(look (pf P w) x+look (pf (Q.take i) w) (x - sh)*n) % p) (fZ (∀w,w∉(Q.take i).map (·.1) ->pf P' w=pf P w) (P'.length<=P.length+i) (∀t∈P',t.2.2.length<=B+C) (∀w∈P'.map (·.1),w∈P.map (·.1) \/ w∈Q.map (·.1)))) #[none,none,P,rfl,au,OP.same λd hd=>aJ (λz=>pe d hd (by rw[z];show WD)),λd u e nd=>by rw[aJ (λz=>nd (by rw[z];show aL))];show e,λx hx=> .inl hx,λx hx=>hx,λw x=>by change _=(look (pf P w) x+0*n) % p;rw[bi,a6,c9 p0 (jp.F6 w)],λw _=>rfl,ap _,λt ht=>aT (hB t ht) (Nat.le_add_right _ _),λw hw=> .inl hw] ?_ ?_ ?_;rintro i ρ M' _ ⟨o1,o2,P',rfl,h2,_⟩;show h2;rintro i x ρ M' hx ⟨o1,o2,P',rfl,h2,row,kp,fr,oB,B_,Rm,ZS,ik,EC⟩ N hN;let⟨t,hz,rfl⟩: ∃t,Q[i]? =some t /\ x=W.tup [wi t.1,wr t.2.1]:=by
  rw[az] at hx;cases e:Q[i]? with
  | none=>rw[e] at hx;cases hx
  | some q=>rw[e] at hx;cases hx;show#[q,rfl,rfl]
 have DG:=(aj.mp hz).1;have M_:=ar hz;have hwi:=Rm t.1 (Fc iM.nj hz);have KJ:M' r=some (.ins Cr dr Aw):=kp r _ B9 (λhm=>by obtain z | z:=ax.mp hm;rw[z,DE] at B9;cases B9;show zT v_ z);have kW:t.2.1∉b7 rl rp P:=λz=>pe _ z (min t M_);have ZB:M' t.2.1=some (.dK (fY t.2.2)):=kp _ _ (by rw[<- Qw,aJ (λz=>kW (by rw[z];show Rc))];show iM.wX t M_) (λhm=>by obtain z | z:=ax.mp hm;show ndQ.1 (by rw[<- z];show af.mpr #[t,M_,rfl]);show kW z);have Sv:t.2.1∉b7 rl rp P':=λz=>by obtain z | z:=fr _ z;show kW z;have:=iM.wX t M_;rw[Xl _ z] at this;cases this
 have hs:((nF P').length<sizeLine)=True:=by rw[nF,aa];show a8 (AH ∅)
 have hrp:=row.par;dsimp? [KJ,y8,Pm,RG,hrp];intro e he;have YQ:rp≠e:=cY row.par he;have YR:t.2.1≠e:=cY ZB he;dsimp? [aJ YQ,hrp,hs,vy];have YT:op∉b7 rl rp P:=λz=>pe _ z WD;have Kd:op∉b7 rl rp P':=λz=>by obtain z | z:=fr _ z;show YT z;rw[DE] at z;cases z
 have Kc:op≠e:=cY h2 he;have hBw:(pf P t.1).length<=B:=by
  unfold pf;cases e2:P.find? (λu=>decide (u.1=t.1)) with
  | none=>show du _
  | some u=>show hB u (iE e2).1
 have htC:=hC t M_;have Wb: ∀w,w∉(Q.take (i+1)).map (·.1) ->w≠t.1 /\ w∉(Q.take i).map (·.1):=λw hw=>by rw[bC,hz,aO] at hw;show#[λz=>hw (aA.mpr (.inr (by rw[z];show ah.mpr rfl))),λz=>hw (aA.mpr (.inl z))]
 have dne: ∀ {d u},M1 d=some u ->d≠e ->d∉op::b7 rl rp P ->M' d=some u:=λh1 _ h3=>kp _ _ h1 h3;have M1e:M1 e=none:=by
  cases e2:M1 e with
  | none=>rfl
  | some u=>exfalso;by_cases hm:e∈op::b7 rl rp P;obtain z | z:=ax.mp hm;show Kc z.symm;let⟨kvs,q2⟩:=row.mem (oB e z);rw[he] at q2;cases q2;rw[kp e u e2 hm] at he;cases he
 cases hf:P'.find? (λu=>decide (u.1=t.1)) with
 | some u=>
  let⟨hu,hw⟩:=iE hf;have eu:u.2.2=pf P t.1:=by rw[<- hwi, <- hw];show(jY row.nj hu).symm
  have une:u.2.1≠e:=cY (row.wX u hu) he;have Of:u.2.1∈b7 rl rp P':=by simp![b7,ax,af];show .inr (.inr #[u,hu,rfl])
  rw[Option.map_some,JA];exact#[u.2.1,t.2.1,p,sh,n,u.2.2,t.2.2,rfl,λz=>Sv (by rw[<- z];show Of),by rw[aJ une];show row.wX u hu,by rw[aJ YR];show ZB,p0,p1,row.gp u hu,iM.gp t M_,nz,by rw[eu];lia,λc' Xi qD Qf=> ?_];have DX:b7 rl rp (mX P' u.1 c')=b7 rl rp P':=by unfold b7;rw[yP]
  have Sl:u.1∈P'.map (·.1):=af.mpr #[u,hu,rfl];exact hN _ _ #[_,_,mX P' u.1 c',rfl,by rw[aJ (λz=>Kd (by rw[z];show Of)),aJ Kc];show h2,(row.set hu Xi).same λd hd=> ?_,λd o' e1 nd=> ?_,by rw[DX];show fr,by rw[DX];show oB,λw' x=> ?_,λw' IP=> ?_,by unfold mX;rw[aa];lia,λv hv=> ?_,by rw[xZ];show EC];rw[DX] at hd;by_cases z:d=u.2.1;rw[z,au,au];let⟨kvs,q2⟩:=row.mem hd;rw[aJ z,aJ z,aJ (cY q2 he)];have n1:d≠e:=λz=>by rw[z,M1e] at e1;cases e1
  have n2:d≠u.2.1:=λz=>by obtain q2 | q2:=fr _ Of;show nd (av _ (by rw[z];show q2));rw[z,q2] at e1;cases e1
  rw[aJ n2,aJ n1];show kp d o' e1 nd;rw[BG w' Sl,BF iM.nj hz,hw];by_cases z:w'=t.1;rw[am z,am z,Qf,eu,z];rw[ai z,ai z];show B_ w' x;let⟨z1,z2⟩:=Wb w' IP;rw[BG w' Sl,hw,ai z1];show Rm w' z2;let⟨v',sv,rfl⟩:=af.mp hv;split;change c'.length<=B+C;rw[eu] at qD;lia;show ik v' sv
 | none=>
  have KS:=DT hf;have Yx:pf P t.1= []:=by rw[<- hwi];show kD KS
  rw[Option.map_none,JB,FS (c:= []) KS];exact#[e,t.2.1,p,sh,n,[],t.2.2,rfl,aW YR,by rw[aJ (aW YQ),au];rfl,by rw[aJ (λz=>Sv (by rw[z];simp[b7])),aJ YR];show ZB,p0,p1,GD.nil,iM.gp t M_,nz,by simp![List.length_nil];lia,λc' Xi qD Qf=> ?_];have epd:nF (P'++ [(t.1,e,[])])=nF (P'++ [(t.1,e,c')]):=by unfold nF;rw[aO,aO];rfl
  have DX:b7 rl rp (P'++ [(t.1,e,c')])=b7 rl rp P'++ [e]:=by unfold b7;rw[aO];rfl
  exact hN _ _ #[_,_,P'++ [(t.1,e,c')],rfl,by rw[aJ Kc,aJ (λz=>Kd (by rw[z];simp[b7])),aJ Kc];show h2,(row.new he KS Xi).same λd hd=> ?_,λd o' e1 nd=> ?_,λx hx=> ?_,λx hx=>by rw[DX];show aA.mpr (.inl (oB x hx)),λw' x=> ?_,λw' IP=> ?_,by rw[aR,db];lia,λv hv=> ?_,λw' IP=> ?_];by_cases z:d=e;rw[z,au,aJ (aW YQ),au];rw[aJ z];by_cases z2:d=rp;rw[z2,au,au,epd];rw[aJ z2,aJ z2,aJ z,aJ z];have n1:d≠e:=λz=>by rw[z,M1e] at e1;cases e1
  have n2:d≠rp:=λz=>nd (av _ (by rw[z];show mrp));rw[aJ n1,aJ n2,aJ n1];show kp d o' e1 nd;rw[DX] at hx;obtain hx | hx:=aA.mp hx;show fr x hx;rw[ah.mp hx];show .inr M1e;rw[zG w' KS,BF iM.nj hz];by_cases z:w'=t.1;rw[am z,am z,Qf,z,Yx];rw[ai z,ai z];show B_ w' x;let⟨z1,z2⟩:=Wb w' IP;rw[zG w' KS,ai z1];show Rm w' z2;obtain hv | hv:=aA.mp hv;show ik v hv;rw[ah.mp hv];change c'.length<=B+C;simp![List.length_nil] at qD;lia;rw[aO] at IP;obtain IP | IP:=aA.mp IP;show EC w' IP;rw[ah.mp IP];show .inr (af.mpr #[t,M_,rfl])
 rintro ρ M' ⟨o1,o2,P',rfl,h2,row,kp,fr,oB,B_,Rm,ZS,ik,EC⟩;rw[aa] at ZS B_ Rm;rw[bQ] at B_ Rm;have YT:op∉b7 rl rp P:=λz=>pe _ z WD;have Kd:op∉b7 rl rp P':=λz=>by obtain z | z:=fr _ z;show YT z;rw[DE] at z;cases z
 exact#[ob,ks,nF Q,h2,no (k _ c P' (row.same λd hd=>aJ (λz=>Kd (by rw[<- z];show hd))) Hf B_ (λd u e nd=> ?_) (λx hx=>(fr x hx).imp id (Xl x)) oB pd ZS ik EC)];by_cases hd:d=op;subst hd;rw[au, <- iM.par];show e;rw[aJ hd];show kp d u (Za d u e nd) λhm=>(ax.mp hm).elim hd nd
def nh {K:Ug}(T:jT K mg A):dR P w K mg base iq 1 A.jO A.jR ["found","length"] (jJ K YA):=by
 exists T.too_high_or_low.fn,["found","length"],(aD (dS (iu (bK iX (pv 1) aF (bW _)) (iB (fC (C7 (pv 0))))).pt (aK (bF (pv 0))) cy) (aK (bF (bR Gg (zI (by rfl) T.hW (by rfl) T.gw rfl (ab (ca cj (pv 0) (gV fR aF) (λ_ _=>rfl)) (ab (bR iS (pv 1) aF) (ab (gV fR aF) aw)))) (zJ (by rfl) T.hW (by rfl) T.gw rfl (ab (ca cj (pv 0) aF (λ_ _=>rfl)) (ab aF aw)))))))
 rintro vs M q ⟨f,ns,len,rfl,hf,l0,l1,hn,hb,k⟩;by_cases hl:len=0;have e:rD ns len=ns:=am (.inl hl);rw[e] at k;dsimp? [hl,decide_true];show no (k f M (Sm.refl M) hf);have qD:decide (len=0)=false:=cM hl;have htr: ∀ {k:Bool ->Prop},Ot M (.v (.ref f)) k=k (!(ns.map wi).isEmpty):=E6 hf;by_cases cD:ns= []
 have e:rD ns len=ns:=am (.inr cD);rw[e] at k;subst cD;dsimp? [qD,htr,dU,List.isEmpty_nil,cP,Bool.not_false];show no (k f M (Sm.refl M) hf);have hie:(ns.map wi).isEmpty=false:=by cases ns with | nil=>show absurd rfl cD | cons a r=>rfl
 have h1:iV (ns.map wi) (-1)=some (wi (ns.getLastD 0)):=jm cD;have h0:iV (ns.map wi) 0=some (wi (ns.headD 0)):=by
  cases ns with
  | nil=>show absurd rfl cD
  | cons a r=>show vm
 have Hr: -4000000<ns.getLastD 0 /\ ns.getLastD 0<4000000:=hb _ (lW cD);have hbh: -4000000<ns.headD 0 /\ ns.headD 0<4000000:=by
  exact hb _ ?_;cases ns with
  | nil=>show absurd rfl cD
  | cons a r=>show aL
 dsimp? [qD,htr,hie,Bool.not_false,hf,h1,h0,EW];exact#[ns.getLastD 0,len - 1,rfl,#[⋯,⋯, ∅, ∅], ∅,λu hu=> ?_];have nu:f≠u:=cY hf hu;dsimp? [aJ nu,hf,h0,EY];exact#[ns.headD 0,0,rfl,#[∅, ∅, ∅, ∅], ∅,λv hv=> ?_];have YM:u≠v:=cY au hv;dsimp? [aJ YM];have e:rD ns len=oO (ns.getLastD 0) (ns.getLastD 0 - (len - 1)).toNat++rA (ns.headD 0) (0 - ns.headD 0).toNat:=ai (by rintro(z | z);(· show hl z);(· show cD z));exact#[big (by unfold Cs gg;rw[aa,aa,bO,bO];lia),λp hp=>no (k p _ (((ce hu).trans (ce hv)).trans (ce hp)) ?_)];rw[au,e,aO];unfold Cs gg oO rA;rw[aE,aE];rfl
def zS {K:Ug}(T:jT K mg A):dR P w K mg base iq 3 A.NK A.NP ["p","stride","row","stair"] (jJ K (YF A.eC A.d9)):=by
 have Je:=a8 T.Stair.cl;have nS3:=a8 T.n_Stair_first;have YY:=a8 T.n_Stair_length;have nS5:=a8 T.n_Stair_foot;exists T.cut.fn,["p","stride","row","stair","found","height","setting"],(aD (b8 (i:=4) nd rfl (by trivial) (aM T.heights (kE T) hr (ab (eV (jD rfl) (by rfl) T.hW Boot.«list» (ab (e_ (pv 2) rfl) aw)) (ab (pv 1) (ab (e_ (pv 3) rfl) aw))))) (aK (fD bv rfl (eU (aM T.too_high_or_low (nh T) hr (ab (pv 4) (ab (e_ (pv 3) rfl) aw)))) (bf (i:=5) nd rfl (by trivial)) (aD (b8 (i:=6) nd rfl (by trivial) (nY (f' hr) (e_ (pv 2) rfl) (bR fg (e_ (pv 3) rfl) (bR f7 (pv 5) (pv 1))) aF #[by rfl,by rfl,by rfl,by rfl])) (aD (dS (bK iX (pv 6) aF (bW _)) (aK xE) cy) (aK (dS (bK lg (pv 5) aF (bW _)) (aK (gl (aM T.add_moved (kF T) hr (ab (pv 0) (ab (pv 1) (ab (pv 2) (ab (pv 3) (ab (pv 5) (ab (bR f7 (gV fR (pv 6)) (e_ (pv 3) rfl)) aw))))))))) (aK (gl (aM T.add_moved (kF T) hr (ab (pv 0) (ab (pv 1) (ab (pv 2) (ab (pv 3) (ab (bR iS (pv 5) (e_ (pv 3) rfl)) (ab (gV fR (pv 6)) aw))))))))))))))))
 rintro vs M q ⟨r,rl,rp,o,ds,ol,op,p,s,f,len,foot,a,b,P,Q,B,C,Z,D,rfl,KL,Nh,hp,s0,s8,Kp,F,jp,iM,pe,wa,QZ,z0,z1,d0,d1,hB,hC,b0,b1,c0,c1,hPQ,k⟩;let⟨Cr,dr,Aw,v_,y8,BM,Pm,DU,RG⟩:im λCr dr Aw=>l_ (M r=some (.ins Cr dr Aw)) (AS K Cr=True) (fi K Cr "lamps" =True) (fi K Cr "parts" =True) (Aw.lookup ("lamps" :Str)=some (wr rl)) (Aw.lookup ("parts" :Str)=some (wr rp)):=by
  rcases KL with⟨d,e⟩ | ⟨d,f,g,e',e⟩
  show#[_,_,_,e,a8 T.Row.cl,a8 T.n_Row_lamps,a8 T.n_Row_parts,rfl,rfl];show#[_,_,_,e,a8 T.Stair.cl,a8 T.n_Stair_lamps,a8 T.n_Stair_parts,rfl,rfl]
 have p0:0<p:= ∅;have fS3: [(("lamps" :Str),wr ol),(("parts" :Str),wr op),(("first" :Str),wi f),(("length" :Str),wi len),(("foot" :Str),wi foot)].lookup ("first" :Str)=some (wi f):=rfl;have fS4: [(("lamps" :Str),wr ol),(("parts" :Str),wr op),(("first" :Str),wi f),(("length" :Str),wi len),(("foot" :Str),wi foot)].lookup ("length" :Str)=some (wi len):=rfl;have fS5: [(("lamps" :Str),wr ol),(("parts" :Str),wr op),(("first" :Str),wi f),(("length" :Str),wi len),(("foot" :Str),wi foot)].lookup ("foot" :Str)=some (wi foot):=rfl;have K2:=wa.len jp.ga z0;have lu:(df a).length<=16000000:=by unfold df;rw[aa];lia
 have tM:=jp.lam;dsimp? [v_,y8,BM,DU];exact#[rl,fY a,rfl,tM,λu hu=> ?_];rw[oo];have YS:o≠u:=cY Nh hu;dsimp? [aJ YS,Nh,Je,nS3,fS3];exact#[u,df a,s,f,rfl,au,lu,s0, ∅,λv ms hv cC iZ=> ?_];have nov:o≠v:=cY (by rw[aJ YS];show Nh) hv;dsimp? [aJ YS,aJ nov,Nh,Je,YY,fS4];have hpa: ∀x∈df a, -Z<=x /\ x<=Z:=λx hx=>by let⟨z,hz,rfl⟩:=af.mp hx;show wa z.1 (by rw[gI jp.ga.1 hz];have:=jp.ga.2 z hz;lia)
 have pc: ∀m∈ms, ∃x,d_ (-Z<=x) (x<=Z) (m=hI s x):=λm hm=>by let⟨x,hx,e⟩:=af.mp (cC.mem_iff.mp hm);have:=hpa x (ay.mp hx).1;show#[x,this.1,this.2,e.symm]
 have Rr: ∀m∈ms, -Z - 1<=m /\ m<=Z:=λm hm=>by let⟨x,h1,h2,rfl⟩:=pc m hm;show NA (f:=f) s0 s8 #[h1,h2] z0
 have Nl:ms.length<=(2*Z+1).toNat:=by rw[cC.length_eq];exact aT ?_ (aT (Nat.le_of_eq (aa (as:=a) (λz=>z.1))) K2);unfold kq;rw[aa];show eY _ _
 exact#[v,ms,len,rfl,au,F.l0, ∅, ∅,λx hx=>by have:=Rr x hx;lia,λt M1 sm Qw=> ?_];let⟨HS,UY⟩:=Fa F.l0 iZ (cC.nodup_iff.mpr (l5 jp.ga.1 s0));have dj:(rD ms len).length<=(2*Z+2).toNat:=aT (Jw F.l0 z0 Rr Nl) ∅;have I0:=λh (hh:h∈rD ms len)=>Fb F.l0 hh;have An:s=0 -> ∀h∈rD ms len,h=0:=λe h hh=>by have l0:=F.s0 e;have e2:rD ms len=ms:=am (.inl l0);rw[e2] at hh;let⟨x,_,_,rfl⟩:=pc h hh;unfold hI;rw[am e]
 let⟨hs,ehs⟩: ∃hs,hs=rD ms len:=#[_,rfl]
 rw[<- ehs] at Qw HS UY dj I0 An;dsimp? [Qw];have Md:Sm M M1:=((ce hu).trans (ce hv)).trans sm;exact gx (λi ρ M'=>Lr λ(o5 o6:fG W) (c:Pt) (P':Pq) (js:fk (Int×Int))=>nH (ρ= [some (wi p),some (wi s),some (wr r),some (wr o),some (wr v),o5,o6]) (M' t=some (.lst (hs.map wi))) (cZ p M' rl rp c P') (o0 s p f len b a hs i c js) (∀w x,look (pf P' w) x=(look (pf P w) x+dH (λsh=>look (pf Q w) (x - sh)) js) % p) (s=0 -> ∀j∈js,j.1=0) (Wt (Z+D+s) c) (nH (fQ M M' (b7 rl rp P)) (∀x∈b7 rl rp P',x∈b7 rl rp P \/ M x=none) (∀x∈b7 rl rp P,x∈b7 rl rp P') (∀t∈P',Wt (max B (C+Z+1)) t.2.2) (∀w∈P'.map (·.1),w∈P.map (·.1) \/ w∈Q.map (·.1)) (look c=AB s p f len foot b (hs.take i) (look a)) (∀j∈js, -Z - 1<=j.1 /\ j.1<=Z) (∀j∈js, ∃h∈hs,j.1=j7 len h))) #[none,none,a,P,[],rfl,Qw,jp.keep (fQ.sm Md []) (λd _ h=>by cases h),#[λx=> ?i1,λj g hj _=>absurd hj (Nat.not_lt_zero j),λx hx cD=> ?i2,λx _=>rfl],λw x=> ?i3,(λ_ j hj=>by cases hj),λx hx=> ?i4,fQ.sm Md _,λx hx=> .inl hx,λx hx=>hx,λt ht=>(hB t ht).up ∅,λw hw=> .inl hw,rfl,(λj h=>by cases h),(λj h=>by cases h)] ?_ ?_ ?_;case i1=>change _=(look a x+0) % p;rw[a6,c9 p0 jp.ga]
 case i2=>
  exact UY _ (cC.mem_iff.mpr (af.mpr #[x,ay.mpr #[?_, ⇑hx],rfl]))
  show cU cD
 case i3=>change _=(look (pf P w) x+0) % p;rw[a6,c9 p0 (jp.F6 w)]
 case i4=>have:=wa x hx;lia
 rintro i ρ M' _ ⟨o5,o6,c,P',js,rfl,h2,_⟩;show h2;rintro i x ρ M' hx ⟨o5,o6,c,P',js,rfl,h2,row,cst,B_,IX,wc,kp,fr,oB,ik,EC,y3,IV,W8⟩ N hN;let⟨h,hz,rfl⟩: ∃h,hs[i]? =some h /\ x=wi h:=by
  rw[az] at hx;cases e:hs[i]? with
  | none=>rw[e] at hx;cases hx
  | some q=>rw[e] at hx;cases hx;show#[q,rfl,rfl]
 have hm:=ar hz;have DG:=(aj.mp hz).1;have zT: ∀ {x C' d' DO},M x=some (.ins C' d' DO) ->x∉b7 rl rp P:=λ{x C' d' DO} e hx=>by let⟨kvs,e2⟩:=jp.mem hx;rw[e] at e2;cases e2
 have KJ:=kp r _ v_ (zT v_);have W3:=kp o _ Nh (zT Nh);have hlm:=row.lam;have hh1: -4000000<h /\ h<4000000:=by obtain z | z:=cS h 0;let⟨m,h3,h4⟩:=(I0 h hm).1 z;have:=Rr m h3;lia;let⟨m,h3,h4⟩:=(I0 h hm).2 z;have:=Rr m h3;lia
 have cm:iP h s=True:=a8 (.inr #[∅, ∅]);dsimp? [KJ,W3,y8,Je,BM,nS3,YY,nS5,DU,fS3,fS4,fS5,hlm,cm,qY];exact dQ (λe0=>hN _ _ #[_,_,c,P',js,rfl,h2,row,cst.skip hz e0,B_,IX,wc,kp,fr,oB,ik,EC,by rw[vd hz, <- y3];show(am e0).symm,IV,W8]) λe0=> ?_;have hl:=row.ga.range p0 (f+h*s);have Qk:=F.ft;have UC:NZ p (-look c (f+h*s)):=n9 hp λe=>e0 (by have:=Int.emod_emod_of_dvd (-look c (f+h*s)) (Int.dvd_refl p);have h3:(-look c (f+h*s)) % p=0:=e;have:=Int.dvd_of_emod_eq_zero h3;have h4:=Int.dvd_neg.mp this;have h5:=Int.emod_eq_zero_of_dvd h4;rw[cx hl.1 hl.2] at h5;show h5);have ZK:NZ p (-look c (f+h*s)*foot):=n9 hp λe=>UC foot Qk.1 Qk.2 (by rw[be];show e);have S8:=iM.keep kp λd hd mq=>pe d mq hd;have abC: ∀x∈b7 rl rp P',x∉b7 ol op Q:=λx hx gN=>by obtain z | z:=fr x hx;show pe x z gN;let⟨kvs,e⟩:=iM.mem gN;rw[z] at e;cases e
 have pd:=wc.len row.ga ∅;have Hr:=QZ.len iM.ga d0;have W7:=GR row.nj EC;have K3: ∀t∈P',t.2.2.length<=(2*max B (C+Z+1)+1).toNat:=λt ht=>(ik t ht).len (row.gp t ht) ∅;have hC': ∀t∈Q,t.2.2.length<=(2*C+1).toNat:=λt ht=>(hC t ht).len (iM.gp t ht) c0;have Zk:s_ A.eC A.d9 M' r rl rp:=KL.keep kp (zT v_);have Ym: -Z - 1<=j7 len h /\ j7 len h<=Z:=by have l0:=F.l0;unfold j7;split;rename_i kS;let⟨m,h3,h4⟩:=(I0 h hm).1 kS;have:=Rr m h3;lia;rename_i kS;let⟨m,h3,h4⟩:=(I0 h hm).2 ∅;have:=Rr m h3;have:=HS.out h hm;lia
 have shb: -(Z+s) <=s*j7 len h /\ s*j7 len h<=Z+s:=by obtain z | z:=Int.lt_or_eq_of_le s0;unfold j7;split;rename_i kS;let⟨m,h3,h4⟩:=(I0 h hm).1 kS;let⟨x,h5,h6,rfl⟩:=pc m h3;have h7:=At (x:=x) z;have h8:=a7 h4 s0;have h9:s*h<=0:=Int.mul_nonpos_of_nonneg_of_nonpos s0 ∅;lia;rename_i kS;let⟨m,h3,h4⟩:=(I0 h hm).2 ∅;let⟨x,h5,h6,rfl⟩:=pc m h3;have h7:=At (x:=x) z;have h8:=a7 h4 s0;have hol:=HS.out h hm;have h9:0<=s*(h - len):=bV s0 ∅;have Xh:s*(h - len) <=s*h:=a7 (by have:=F.l0;lia) s0;lia;rw[<- z,bi];lia
 have fin: ∀n,(n=if h<0 then -(look c (f+h*s))*foot else -(look c (f+h*s))) ->NZ p n ->MC A.eC A.d9 [wi p,wi s,wr r,wr o,wi (j7 len h),wi n] M' λ_ M2=>N [some (wi p),some (wi s),some (wr r),some (wr o),some (wr v),some (wi h),some (wi (look c (f+h*s)))] M2:=λn hn nz=>by
  exact#[r,rl,rp,o,ol,op,p,s,j7 len h,n,c,b,P',Q,_,_,rfl,Zk, .inr #[_,_,_,_,W3],p0, ∅,s0, ∅,nz,row,S8,abC, ∅, ∅,K3,hC', ∅,λM2 c' P2 mf ec ep Kq Ld OB _ _ UP Hg=>hN _ _ #[_,_,c',P2,(j7 len h,n)::js,rfl,?_,mf,cst.step F HS s0 p0 An row.ga mf.ga hz hn ec,λw x=> ?_,λe j hj=> ?_,λx hx=> ?_,kp.trans Kq fr,λx hx=> ?_,λx hx=>OB x (oB x hx),λt ht=> ?_,λw hw=> ?_,?_,λj hj=> ?_,λj hj=> ?_]];show Kq t _ h2 λhx=>by let⟨kvs,e⟩:=row.mem hx;rw[h2] at e;cases e
  rw[ep,B_,dJ,cE,Int.add_assoc,Int.add_comm (dH _ js)];obtain rfl | hj:=ax.mp hj;have e1:=An e h hm;have e2:=F.s0 e;change j7 len h=0;rw[e1,e2];rfl;show IX e j hj;rw[ec] at hx;by_cases hc:look c x=0;have hb:look b (x - s*j7 len h)≠0:=λe=>hx (by rw[hc,e,bi];rfl);have:=QZ _ hb;lia;show wc x hc;obtain z | z:=Ld x hx;show fr x z;cases e:M x with
  | none=>show .inr rfl
  | some u=>by_cases gN:x∈b7 rl rp P;show .inl gN;rw[kp x _ e gN] at z;cases z
  intro x hx;rw[<- jY mf.nj ht,ep] at hx;by_cases hc:look (pf P' t.1) x=0;have hb:look (pf Q t.1) (x - j7 len h)≠0:=λe=>hx (by rw[hc,e,bi];rfl);have:=LJ hC t.1 _ hb;lia;show LJ ik t.1 x hc;obtain z | z:=Hg w hw;show EC w z;show .inr z;rw[vd hz, <- y3];unfold Ft;rw[ai e0, <- hn];show funext ec;obtain rfl | hj:=ax.mp hj;show Ym;show IV j hj;obtain rfl | hj:=ax.mp hj;show#[h,hm,rfl];show W8 j hj
 dsimp? [];exact dQ (λkS=> ?_) λkS=> ?_;have QM:iP (-look c (f+h*s)) foot=True:=a8 (.inr #[∅, ∅]);dsimp? [W3,Je,nS5,fS5,QM];have:=fin _ rfl (by rw[am kS];show ZK);rw[am kS,show j7 len h=h from am kS] at this;show this;dsimp? [W3,Je,YY,fS4];have:=fin _ rfl (by rw[ai kS];show UC);rw[ai kS,show j7 len h=h - len from ai kS] at this;show this;rintro ρ M' ⟨o5,o6,c,P',js,rfl,h2,row,cst,B_,IX,wc,kp,fr,oB,ik,EC,y3,IV,W8⟩;rw[aa] at cst y3;rw[bQ] at y3;show no (k M' c P' js row cst.rel B_ IX (cst.low s0) cst.Px wc kp fr oB ik EC #[ms,cC,iZ,by rw[y3,ehs],by rw[<- ehs];show W8] IV)
def rW {K:Ug}(T:jT K mg A):dR P w K mg base iq 1 A.uS A.va ["p","setting"] (jJ K Gc):=by
 exists T.inverse.fn,["p","setting","found","at"],(aD (b8 (i:=2) nd rfl (by trivial) aF) (aD (fD bv rfl (gm (by rfl) T.gw (ab (bR iS (pv 0) aF) aw)) (bf (i:=3) nd rfl (by trivial)) (aK (b8 (i:=2) nd rfl (by trivial) (bR gX (bR f7 (pv 2) (pv 1)) (pv 0))))) (aK (bF (pv 2)))))
 rintro vs M q ⟨p,s,rfl,hp,s0,s1,k⟩;have ZF:(0<p)=True:=a8 ∅;have cm: ∀x,iP x s=True:=λx=>a8 (.inr #[∅, ∅]);simp? [↓fw];exact j5 ?_; simp? [↓fw];exact#[#[∅, ∅],gx (λi ρ M'=> ∃o:fG W,ρ= [some (wi p),some (wi s),some (wi (pw p s i)),o] /\ M'=M) #[none,rfl,rfl] (λ_ _ _ _ _=>trivial) ?_ ?_];rintro i x ρ M' hx ⟨o,rfl,rfl⟩ N hN;let⟨hi,rfl⟩:=kb hx;simp? [↓fw,cm,ZF];show hN _ _ #[_,rfl,rfl];rintro ρ M' ⟨o,rfl,rfl⟩;rw[je];dsimp only;exact j5 ?_; simp? [↓fw];let⟨h1,h2,h3⟩:=OS p s hp s0 s1;show no (k _ h1 h2 h3)
def rT {K:Ug}(T:jT K mg A):dR P w K mg base iq 4 A.Ce A.Cz ["p","stride","row"] (jJ K (O1 A.eC A.d9)):=by
 have y8:=a8 T.Row.cl;have BM:=a8 T.n_Row_lamps;exists T.stood.fn,["p","stride","row","first","found","turn","upright"],(aD (b8 (i:=3) nd rfl (by trivial) (aM T.first_column (gG T) hr (ab (eV (jD rfl) (by rfl) T.hW Boot.«list» (ab (e_ (pv 2) rfl) aw)) (ab (pv 1) aw)))) (aD (b8 (i:=4) nd rfl (by trivial) (aM T.heights (kE T) hr (ab (eV (jD rfl) (by rfl) T.hW Boot.«list» (ab (e_ (pv 2) rfl) aw)) (ab (pv 1) (ab (pv 3) aw))))) (aD (b8 (i:=5) nd rfl (by trivial) (aM T.inverse (rW T) hr (ab (pv 0) (ab (f9 (f' hr) (e_ (pv 2) rfl) (bR fg (pv 3) (bR f7 (ca cj (pv 4) (gV fR aF) (λ_ _=>rfl)) (pv 1))) (λ_ _=>rfl)) aw)))) (aD (b8 (i:=6) nd rfl (by trivial) (ke T.Row (rX T) (hr.mono ⋯) (by rfl) (ab ju (ab ju aw)))) (aD (gl (aM T.add_moved (kF T) hr (ab (pv 0) (ab (pv 1) (ab (pv 6) (ab (pv 2) (ab (gV fR (ca cj (pv 4) aF (λ_ _=>rfl))) (ab (pv 5) aw)))))))) (aK (bF (ke T.Stair (Gi T) (hr.mono ⋯) (by rfl) (ab (pv 6) (ab (pv 3) (ab (bR iS (ca cj (pv 4) (gV fR aF) (λ_ _=>rfl)) (ca cj (pv 4) aF (λ_ _=>rfl))) (ab (aM T.inverse (rW T) hr (ab (pv 0) (ab (f9 (f' hr) (e_ (pv 6) rfl) (pv 3) (λ_ _=>rfl)) aw))) aw))))))))))))
 rintro vs M q ⟨r,dr,rl,rp,p,s,a,P,B,D,rfl,v_,hp,s0,s8,jp,cD,wa,d0,d1,hB,hBl,RE,k⟩;have p0:0<p:= ∅;have DU: [(("lamps" :Str),wr rl),(("parts" :Str),wr rp)].lookup ("lamps" :Str)=some (wr rl):=rfl;have K2:=wa.len jp.ga d0;have lu:(df a).length<=16000000:=by unfold df;rw[aa];lia
 have tM:=jp.lam;dsimp? [v_,y8,BM,DU];exact#[rl,fY a,rfl,tM,λu hu=> ?_];rw[oo];exact#[u,df a,s,rfl,au,lu,s0, ∅,λe=>absurd (List.map_eq_nil_iff.mp e) cD,λ_=> ?_];have mm:=λms=>TZ (s:=s) (a:=a) (ms:=ms) cD;generalize fE ((df a).map (bE s))=f at mm ⊢;have YO:r≠u:=cY v_ hu;have nlu:rl≠u:=cY tM hu;dsimp? [aJ YO,aJ nlu,v_,y8,BM,DU];exact#[rl,fY a,rfl,by rw[aJ nlu];show tM,λu2 hu2=> ?_];rw[oo];exact#[u2,df a,s,f,rfl,au,lu,s0, ∅,λv ms hv cC iZ=> ?_];let⟨pc,mn⟩:=mm ms cC iZ;have h1:iV (ms.map wi) (-1)=some (wi (ms.getLastD 0)):=jm pc;have h0:iV (ms.map wi) 0=some (wi (ms.headD 0)):=by
  cases ms with
  | nil=>show absurd rfl pc
  | cons a r=>show vm
 generalize ms.getLastD 0=tp at mn h1;generalize ms.headD 0=m at mn h0;have py:Sm M (um (um (um M u (.lst ((df a).map wi))) u2 (.lst ((df a).map wi))) v (.lst (ms.map wi))):=((ce hu).trans (ce hu2)).trans (ce hv);have Up:um (um (um M u (.lst ((df a).map wi))) u2 (.lst ((df a).map wi))) v (.lst (ms.map wi)) v=some (.lst (ms.map wi)):=au;generalize um (um (um M u (.lst ((df a).map wi))) u2 (.lst ((df a).map wi))) v (.lst (ms.map wi))=M1 at py Up ⊢;have B9:=py _ _ v_;have UK:=py _ _ tM;have cm:iP tp s=True:=a8 (.inr #[∅, ∅]);have v9:=wM s0 mn.hi;have KG:=rm (m:=a) v9.1;have Qg:=d8 jp.ga v9.1;dsimp? [Up,h1,B9,y8,BM,DU,UK,cm,KG];exact#[p,_,rfl,hp,Qg.1,Qg.2,λtn Ou Jv yc=> ?_];dsimp? [];intro e1 Qm e2 IY x dx hx Qn UU;exact#[x,dx,wr e1,wr e2,rfl,au,rfl,?_];have Bk:Sm M1 (um (um (um M1 e1 (.dK [])) e2 (.dK [])) x (.ins A.eC dx [("lamps",wr e1),("parts",wr e2)])):=((ce Qm).trans (ce IY)).trans (ce hx);dsimp? [];have MX:um (um (um M1 e1 (.dK [])) e2 (.dK [])) x (.ins A.eC dx [("lamps",wr e1),("parts",wr e2)]) x=some (.ins A.eC dx [("lamps",wr e1),("parts",wr e2)]):=au;have uy:e1≠e2:=cY au IY;have MF:e1≠x:=cY (by rw[aJ uy];show au) hx;have Iz:e2≠x:=cY au hx;have hf1:M1 e2=none:=by rw[aJ (aW uy)] at IY;show IY
 have hf2:M1 x=none:=by rw[aJ (aW Iz),aJ (aW MF)] at hx;show hx
 have zD:cZ p (um (um (um M1 e1 (.dK [])) e2 (.dK [])) x (.ins A.eC dx [("lamps",wr e1),("parts",wr e2)])) e1 e2 [] []:=#[by rw[aJ MF,aJ uy];show au,by rw[aJ Iz];show au,(λt ht=>by cases ht),GD.nil,(λt ht=>by cases ht),List.nodup_nil,by simp[b7,uy]]
 generalize um (um (um M1 e1 (.dK [])) e2 (.dK [])) x (.ins A.eC dx [("lamps",wr e1),("parts",wr e2)])=M2 at Bk MX zD ⊢;have Uo:=Bk _ _ Up;have KJ:=Bk _ _ B9;have Ld: ∀d,d∈x::b7 e1 e2 [] ->M1 d=none:=λd hd=>by simp![b7,ax,dU,List.not_mem_nil,or_false] at hd;obtain rfl | rfl | rfl:=hd;show hf2;show Qm;show hf1
 have frM: ∀d,M1 d=none ->M d=none:=λd hd=>by
  cases e:M d with
  | none=>rfl
  | some o=>rw[py _ _ e] at hd;cases hd
 have S9:cZ p M2 rl rp a P:=jp.keep (fQ.sm (py.trans Bk) []) (λd _ h=>by cases h);have nz:NZ p tn:=n9 hp (by rw[cx ∅ Jv];lia);dsimp? [Uo,h0];exact#[x,e1,e2,r,rl,rp,p,s, -m,tn,[],a,[],P,0,B,rfl, .inl #[_,MX], .inl #[_,KJ],p0, ∅,s0, ∅,nz,zD,S9,?_,by change 0+a.length<=_;lia,by change 0+P.length<=_;lia,(λt ht=>by cases ht),hB, ∅,λM3 b Q qt eb eq Rh Hz aci Hr _ Z5 ZV=> ?_];intro d hd mq;let⟨kvs,e⟩:=jp.mem mq;rw[frM d (Ld d (av _ hd))] at e;cases e;have QG: ∀x,look b x=look a (x+s*m)*tn % p:=λx=>by rw[eb];change(0+_) % p=_;rw[bA,Int.mul_neg,Int.sub_neg]
 have Qk:=zt s0 p0 jp.ga mn nz QG;have Um:=rm (m:=b) (cU (m:=b) (x:=f) ∅);have nvr: ∀ {d kvs},M2 d=some (.lst kvs) ->d∉b7 e1 e2 []:=λ{d kvs} e hd=>by let⟨kvs,e2⟩:=zD.mem hd;rw[e] at e2;cases e2
 have YW: ∀ {d C' d' DO},M2 d=some (.ins C' d' DO) ->d∉b7 e1 e2 []:=λ{d C' d' DO} e hd=>by let⟨kvs,e2⟩:=zD.mem hd;rw[e] at e2;cases e2
 have hv3:=Rh _ _ Uo (nvr Uo);have Zq:=Rh _ _ MX (YW MX);have UI:=qt.lam;have fX1: [(("lamps" :Str),wr e1),(("parts" :Str),wr e2)].lookup ("lamps" :Str)=some (wr e1):=rfl;dsimp? [];rw[nJ];dsimp? [hv3,h0,h1,Zq,y8,BM,fX1,UI,Um];exact#[p,_,rfl,hp,Qk.1,Qk.2,λfoot f0 f1 hfo=> ?_];dsimp? [];intro o ds ho Ru Rv;have nxo:x≠o:=cY Zq ho;exact#[o,ds,x,dx,wr e1,wr e2,wi f,wi (tp - m),wi foot,rfl,aW nxo,au,by rw[aJ nxo];show Zq,rfl,no ?_];have abw: ∀d,M2 d=none ->M d=none:=λd hd=>by
  cases e:M d with
  | none=>rfl
  | some o=>rw[Bk _ _ (py _ _ e)] at hd;cases hd
 have yX:Sm M M3:=λd u e=>Rh _ _ (Bk _ _ (py _ _ e)) λhd=>by rw[frM d (Ld d (av _ hd))] at e;cases e
 have La: ∀d,M3 d=none ->M d=none:=λd hd=>by
  cases e:M d with
  | none=>rfl
  | some o=>rw[yX _ _ e] at hd;cases hd
 exact k _ o ds e1 e2 b Q f m tp foot tn au (qt.same λd hd=> ?_) (CY ∅ s0 jp.ga mn yc QG hfo f0 f1) mn Ou Jv yc QG (λw x=> ?_) (λd u e=> ?_) (λd hd=> ?_) (λt ht=>aT (Z5 t ht) ∅) λw hw=>(ZV w hw).elim (λz=>by cases z) id;have Rv:d≠o:=λz=>by let⟨kvs,e⟩:=qt.mem hd;rw[z,ho] at e;cases e
 rw[aJ Rv,aJ Rv];rw[eq];change(0+_) % p=_;rw[bA,Int.sub_neg];have Rv:d≠o:=λz=>by rw[z,La o ho] at e;cases e
 rw[aJ Rv,aJ Rv];show yX _ _ e;obtain rfl | hd:=ax.mp hd;show La _ ho;obtain z | z:=Hz d hd;show frM d (Ld d (av _ z));show abw d z
def mF {K:Ug}(T:jT K mg A):dR P w K mg base iq 1 A.oK A.oR ["p","parts","n"] (jJ K To):=by
 exists T.told_parts.fn,["p","parts","n"],(aK (bF (F' (n1:=1) rfl (dD.of (sc:=bn kz) (N:= ["p","parts","n"]) (own:= ["which","shift"]) (fr:= [0,2,1]) (N':= ["which","shift","p","n","parts"])) (eU (br (gv rfl) (by rfl) T.jF Boot.«sorted» (ab (pv 1) aw))) (λ_ _ _ _=>(bf (i:=0) (by change(["which","shift","p","n","parts"]:fk Str).Nodup;decide+kernel) rfl (by trivial))) ⋯ (xY (by change _<_;decide)) (λ_ _ _ _=>fB) (λ_ _ _ _=>(F3 (K:=K) rfl (br (gv rfl) (by rfl) T.jF Boot.«sorted» (ab (f9 (f' hr) (pv 4) (pv 0) (λ_ _=>rfl)) aw)))) (λ_ _ _ _=>(bf (i:=1) (by change(["which","shift","p","n","parts"]:fk Str).Nodup;decide+kernel) rfl (by trivial))) (xY (by change _<=_ /\ _<_;decide)) (λ_ _ _ _=>fB) (λ_ _ _ _=>(iC (ab (pv 0) (ab (pv 1) (ab (bR gX (bR f7 (f9 (f' hr) (f9 (f' hr) (pv 4) (pv 0) (λ_ _=>rfl)) (pv 1) (λ_ _=>rfl)) (pv 3)) (pv 2)) aw))))))))
 rintro vs M q ⟨rl,rp,p,n,a,P,B,rfl,p0,p1,n0,n1,row,RE,hB,hB9,hPB,k⟩;have Hc:=row.par;dsimp? [Hc];exact#[rp,nF P,P.map (·.1),rfl,Hc,by unfold nF;rw[aE,aE];rfl,big (by rw[aa];lia),λu ws hu cC iZ=> ?_];dsimp? [au];have Ul:ws.length=P.length:=by rw[cC.length_eq,aa]
 have SU:=ce (o:= .lst (ws.map wi)) hu;exact AD (λx:Int=>wi x) (λw zs=> ∃yY:fk Int,yY.Perm (df (pf P w)) /\ zs=yY.map λsh=>jv (w,sh,look (pf P w) sh*n % p)) B (AH (by rw[Ul];lia)) (λp' M' h1 h2=>h2 u _ (cY au h1) au) ?_ ?_;intro w hw p' M' ys Nd sm G8 B' N0 hB';let⟨t,ht,rfl⟩:=af.mp (cC.mem_iff.mp hw);have B_:pf P t.1=t.2.2:=jY row.nj ht;have hM: ∀d o,M d=some o ->M' d=some o:=λd o e=>sm d o (λz=>by rw[z] at e;rw[SU _ _ e] at Nd;cases Nd) (SU _ _ e);have UA:=hM _ _ Hc;have UQ:=hM _ _ (row.wX t ht);have KG:fX (nF P) (Sum.inl t.1)=some (wr t.2.1):=by
  rw[vy];cases e:P.find? (λu=>decide (u.1=t.1)) with
  | none=>show absurd (List.find?_eq_none.mp e t ht) (by simp)
  | some u=>have h1:=iE e;have h2:u=t:=iD row.nj h1.1 ht h1.2;rw[h2];rfl
 dsimp? [UA,KG,UQ];exact#[t.2.1,fY t.2.2,df t.2.2,rfl,UQ,by unfold fY df;rw[aE,aE];rfl,big (by unfold df;rw[aa];have:=hB t ht;lia),λv yY hv wd Zv=> ?_];dsimp? [au];exact hB' _ _ yY (λsh=>jv (t.1,sh,look (pf P t.1) sh*n % p)) _ (mR.sm (ce hv)) (by rw[aJ (cY G8 hv)];show G8) #[yY,by rw[B_];show wd,rfl] ?_ (λM5 h5=>h5 v _ (aW (cY G8 hv)) au) ?_;rw[wd.length_eq];unfold df;rw[aa];show hB t ht;intro sh WZ M5 sm5 N hN;have np: ∀ {d o},M d=some o ->d≠p':=λ{d o} e z=>by rw[z] at e;rw[SU _ _ e] at Nd;cases Nd
 have hM5: ∀d o,M d=some o ->M5 d=some o:=λd o e=>sm5 d o (np e) (ce hv _ _ (hM d o e));have Uz:=hM5 _ _ Hc;have Z3:=hM5 _ _ (row.wX t ht);have Qg:=d8 (row.gp t ht) (wd.mem_iff.mp WZ);have G9:=rm (m:=t.2.2) (wd.mem_iff.mp WZ);have cm:iP (look t.2.2 sh) n=True:=a8 (.inr #[∅, ∅]);dsimp? [Uz,KG,Z3,G9,cm,p0];rw[B_] at hN;show hN;intro t M' yss ht sm Xe dj hR;let⟨tl,e,hp⟩:=CW row.nj (λw=>(row.F6 w).1) cC dj hR;have Hx:M t=none:=by
  cases e:M t with
  | none=>rfl
  | some o=>rw[SU _ _ e] at ht;cases ht
 show no (k t M' tl (λd o e=>sm d o (λz=>by rw[z,Hx] at e;cases e) (SU _ _ e)) Hx (by rw[Xe,e]) hp)
def zR {K:Ug}(T:jT K mg A):dR P w K mg base iq 1 A.uR A.u_ ["_law_script"] (Bh K):=by
 exact T.BU.fn.ok rN (λvs H Q E h=> ?_) (λcdv A' outer s H vs Q E hr h=> ?_);let⟨a,ns,rfl,_⟩:=h;rfl;let⟨a,ns,rfl,hs,k⟩:=h;have nd:=rN.nd;exact#[_,(aK (bF (zH (ab (eV nA (by rfl) T.hW Boot.«list» (ab (lf vE (pv 0) nW (nV aF)) aw)) (ab aF (ab aF (ab aF aw))))))),?_];have ec: ∃ms:fk Int,sN (ns.map V.int) none (some 63)=ms.map V.int:=by exact#[(ns.drop (HT.f6 (ns.map V.int).length 0 none)).take (HT.f6 (ns.map V.int).length (ns.map V.int).length (some 63) - HT.f6 (ns.map V.int).length 0 none),?_];unfold sN;rw[List.map_take,List.map_drop]
 let⟨ms,em⟩:=ec;exact#[_,rfl,_,rfl,_,_,rfl,hs,λp hp=>#[_,_,rfl, .inl (gS.of cr),λl hl=>#[by change 4<=sizeLine;decide,λd hd=> ?_]]];have gA:l≠d:=λe=>by rw[e,cr] at hd;cases hd
 exact k d l ms _ gA.symm cr ?_;rw[bS gA,cr,em]
def fL {K:Ug}(T:jT K mg A):dR P w K mg base iq 1 A.yn A.yB ["_law_draw","_law_many"] (jJ K Tp):=by
 exists T.iT.fn,["_law_draw","_law_many","_law_number","_law_got"],(aD (dS (pF (bK lg (ca cj (pv 0) aF (λ_ _=>rfl)) (pv 1) (bW _)) (lR (bK lg (ca cj (pv 0) aF (λ_ _=>rfl)) (br dz (by rfl) T.iw Boot.«len» (ab (ca cj (pv 0) aF (λ_ _=>rfl)) aw)) (bW _)))).pt (aD (b8 (i:=2) nd rfl (by trivial) (ca cj (ca cj (pv 0) aF (λ_ _=>rfl)) (ca cj (pv 0) aF (λ_ _=>rfl)) (λ_ _=>rfl))) (aD (m8 (bR fg (ca cj (pv 0) aF (λ_ _=>rfl)) aF) (pG (pv 0) aF ka)) (aD (m8 aF (pG (pv 0) aF ka)) (aK (dS (bK qa (br vf (by rfl) T.NV Boot.«abs» (ab (pv 2) aw)) (bR O_ aF aF) (bW _)) (aK (m8 (br vf (by rfl) T.NV Boot.«abs» (ab (pv 2) aw)) (pG (pv 0) aF ka))) (aK (m8 (bR gX (bR fg (bR fg (bR f7 (ca cj (pv 0) aF (λ_ _=>rfl)) aF) (bR f7 (bR gX (pv 2) aF) aF)) aF) aF) (pG (pv 0) aF ka)))))))) cy) (aD (dS (bK qa (ca cj (pv 0) aF (λ_ _=>rfl)) (pv 1) (bW _)) (aD (b8 (i:=3) nd rfl (by trivial) (bR gX (ca cj (pv 0) aF (λ_ _=>rfl)) (pv 1))) (aD (m8 (bR qT (ca cj (pv 0) aF (λ_ _=>rfl)) (pv 1)) (pG (pv 0) aF ka)) (aK (bF (pv 3))))) cy) (aD (m8 (bR gX (bR fg (bR f7 (ca cj (pv 0) aF (λ_ _=>rfl)) aF) aF) aF) (pG (pv 0) aF ka)) (aK (bF (bR gX (bR qT (ca cj (pv 0) aF (λ_ _=>rfl)) aF) (pv 1)))))))
 rintro vs M q ⟨d,l,n,rfl,⟨ns,i,c,sd,hd,hl,hi,cD⟩,n0,n1,k⟩;exact v8 (λρ M'=>Lr λ(o1 o2:fG W) (i' c' s':Int)=>fZ (ρ= [some (wr d),some (wi n),o1,o2]) (M' d=some (.lst [wr l,wi i',wi c',wi s'])) (NB d M M') (0<=i')) ?_ λN hN=> ?_;rintro ρ M' ⟨o1,o2,i',c',s',rfl,h,nb,nG⟩;have fin: ∀ (r c' s':Int),0<=r ->r<n -> ∃M0,Sm M0 (um M' d (.lst [wr l,wi i',wi c',wi s'])) /\ q (wi r) M0:=λr c' s' h0 h1=>no (k r _ h0 h1 #[ns,i',c',s',au,by rw[aJ (aW cD),nb l (aW cD)];show hl,nG,cD] (nb.trans NB.put));have cm3: ∀x,iP x 16807=True:=λx=>by simp[iP]
 have cd1: ∀x,wS x n=True:=λx=>by simp[wS,n0,n1]
 have cd2: ∀x,wS x 64=True:=λx=>by simp[wS]
 have z2:((0:Int) <2147483647)=True:=⋯
 simp? [↓de,h,n0,cm3,cd1,cd2,z2];show dQ (λ_=>fin _ _ _ (c6 _ ∅) (cJ _ n0)) λ_=>fin _ _ _ (c6 _ ∅) (cJ _ n0);have nx: ∀ (o1 o2:fG W) (i' c' s':Int),0<=i' ->N [some (wr d),some (wi n),o1,o2] (um M d (.lst [wr l,wi i',wi c',wi s'])):=λ_ _ _ _ _ h=>hN _ _ #[_,_,_,_,_,rfl,au,NB.put,h];have Wv: ∀ (o1 o2:fG W),N [some (wr d),some (wi n),o1,o2] M:=λ_ _=>hN _ _ #[_,_,_,_,_,rfl,hd,NB.refl d M,hi];have cp:QX 10 18=True:=by simp[QX]
 have cm: ∀x,iP x 48271=True:=λx=>by simp[iP]
 have QM: ∀x,iP x 69621=True:=λx=>by simp[iP]
 have z1:((0:Int) <2147483629)=True:=⋯
 have z2:((0:Int) <2147483647)=True:=⋯
 by_cases fU:i<ns.length;have hx:iV (ns.map wi) i=some (wi (ns[i.toNat]'∅)):=Ln hi (by rw[az,ae ∅];rfl);simp? [↓de,hd,hl,hx,aa,cp,cm,QM,z1,z2];show dQ (λ_=>dQ (λ_=>dQ (λ_=>nx _ _ _ _ _ ∅) λ_=>nx _ _ _ _ _ ∅) λ_=>Wv _ _) λ_=>Wv _ _;simp? [↓de,hd,hl,fU,aa,decide_false];show dQ (λ_=>Wv _ _) λ_=>Wv _ _
def Pd {K:Ug}(T:jT K mg A):dR P w K mg base iq 2 A.NJ A.NO ["_law_draw"] (jJ K pP):=by
 exists T.l_p.fn,["_law_draw"],(aK (bF (ca dP (iC (ab aF (ab aF (ab aF (ab aF aw))))) (aM T.iT (fL T) hr (ab (pv 0) (ab aF aw))) (λ_ _=>rfl))))
 rintro vs M q ⟨d,l,rfl,hD,k⟩;simp? [↓de];exact#[d,l,4,rfl,hD,⋯,⋯,λr M1 r0 r1 D1 b1=> ?_];have hr4:r=0 \/ r=1 \/ r=2 \/ r=3:=by omega
 obtain rfl | rfl | rfl | rfl:=hr4 <;> simp? [↓de];show no (k 2 _ ⋯ D1 b1);show no (k 3 _ ⋯ D1 b1);show no (k 5 _ ⋯ D1 b1);show no (k 7 _ ⋯ D1 b1)
def rV {K:Ug}(T:jT K mg A):dR P w K mg base iq 1 A.Ci A.CB ["_law_thing"] (jJ K YD):=by
 exists T.BS.fn,["_law_thing"],(aK (bF (OY (br gD (by rfl) T.eD Boot.«isinstance» (ab (pv 0) (ab (iG (by rfl) T.Vl Boot.«int» (show RelV (.ty "int") _ from rfl)) aw))) (F7 (OX (br gD (by rfl) T.eD Boot.«isinstance» (ab (pv 0) (ab (iG (by rfl) T.QO Boot.«bool» (show RelV (.ty "bool") _ from rfl)) aw))))))))
 rintro vs M q ⟨i,rfl,k⟩;simp? [↓de];show no k
def BJ {K:Ug}(T:jT K mg A):dR P w K mg base iq 1 A.HC A.HL ["p","pairs"] (jJ K MB):=by
 exists T.tidy.fn,["p","pairs","turned","place","setting"],(aD (b8 (i:=2) nd rfl (by trivial) ju) (aD (fD bv rfl (eU (pv 1)) (gH (n:=2) rfl (ci (bf (i:=3) nd rfl (by trivial)) (ci (bf (i:=4) nd rfl (by trivial)) fT))) (aK (nU (f' hr) (pv 2) (pv 3) (bR gX (bR fg (nY (f' hr) (pv 2) (pv 3) aF #[by rfl,by rfl,by rfl,by rfl]) (pv 4)) (pv 0)) rfl))) (aK (bF (eV lJ (by rfl) T.ja Boot.«tuple» (ab (fb rfl (dD.of (sc:=bn zx) (N:= ["p","pairs","turned","place","setting"]) (own:= ["place"]) (fr:= [2]) (N':= ["place","turned"])) (eU (br (gv rfl) (by rfl) T.jF Boot.«sorted» (ab (pv 2) aw))) (λ_ _ _ _=>(bf (i:=0) (by change(["place","turned"]:fk Str).Nodup;decide+kernel) rfl (by trivial))) dZ (λ_ _ _ _=>(lS (bK mE (f9 (f' hr) (pv 1) (pv 0) (λ_ _=>rfl)) aF (bW _)))) (λ_ _ _ _=>(iC (ab (pv 0) (ab (f9 (f' hr) (pv 1) (pv 0) (λ_ _=>rfl)) aw))))) aw))))))
 rintro vs M q ⟨a,p,ps,rfl,ha,p0,U6,_h,k⟩;simp? [↓de];intro d hd;have Gq:a≠d:=cY ha hd;simp? [↓de,aJ Gq,ha];exact gx (λi ρ M'=>im λ(o1 o2:fG W) (m:Pt)=>l_ (ρ= [some (wi p),some (wr a),some (wr d),o1,o2]) (M'=um M d (.dK (fY m))) ((m.map (·.1)).Nodup) (m.length<=i) (∀x,look m x=dq (ps.take i) x % p) (∀k∈m.map (·.1), ∃q∈ps,q.1=k)) #[none,none,[],rfl,rfl,List.nodup_nil,ap _,λx=>by simp[look,dq],by simp] ?_ ?_ ?_;rintro i ρ M' _ ⟨o1,o2,m,rfl,rfl,_⟩;rw[aJ Gq];show ha;rintro i x ρ M' hx ⟨o1,o2,m,rfl,rfl,hn,hl,ht,ik⟩ N hN;let⟨z,hz,rfl⟩:=pairs_at hx;have DG:=(aj.mp hz).1;have hs:((fY m).length<sizeLine)=True:=by rw[fY,aa];show a8 (AH (by omega))
 simp? [↓de,dh,qY,p0,hs,qS];exact hN _ _ #[_,_,_,rfl,rfl,vS hn,aT sf (by omega),λx=> ?_,λk hk=>(xR hk).elim (λe=>#[z,ar hz,e.symm]) (ik k)];rw[pK,bC,hz];change _=dq (ps.take i++ [z]) x % p;rw[nL];by_cases hx:x=z.1;subst hx;rw[am rfl,am rfl,ht,dJ];rw[ai hx,ai (aW hx),a6];show ht x;rintro ρ M' ⟨o1,o2,m,rfl,rfl,hn,hl,ht,ik⟩;rw[aa] at hl ht;rw[bQ] at ht;simp? [↓de];exact#[d,fY m,m.map (·.1),rfl,au,xV m,(by rw[aa];show big (by omega)),λsp ns qW cC iZ=> ?_];have Qo:d≠sp:=cY au qW;have Nj:ns.length<=16000000:=by rw[cC.length_eq,aa];omega
 simp? [↓de];exact nv (λx=>match x with | .v (.int n)=>if look m n=0 then none else some (dh (n,look m n)) | _=>none) (by rw[aa];show big Nj) (λM3 s3=>s3 _ _ au) ?_ λt Zu=> ?_;intro i x hx M3 N s3 hN;let⟨n,Qd,rfl⟩:=oy hx;have _d:M3 d=some (.dK (fY m)):=s3 _ _ (by rw[aJ Qo,au]);have KS:n∈m.map (·.1):=cC.mem_iff.mp (ar Qd);simp? [↓de,_d,rm KS];exact Aj (λh=> ?_) λh=> ?_;simp![h,bj] at hN;show hN;simp![h,bZ] at hN;show hN;simp? [↓de];exact#[M,((Sm.um (Sm.refl M) hd).trans (ce qW)).trans (ce Zu),?_];have e:(ns.map wi).filterMap (λx=>match x with | .v (.int n)=>if look m n=0 then none else some (dh (n,look m n)) | _=>none)=(kM p ps).map dh:=by rw[<- Bm p0 hn ht cC iZ,List.filterMap_map];unfold Q_;rw[List.map_filterMap];congr 1;funext n;simp![Function.comp];split<;>rfl
 rw[e];show k
def pI {K:Ug}(T:jT K mg A):dR P w K mg base iq 1 A.ym A.yA ["_law_p_here","_law_pairs"] (jJ K MB):=by
 exists T.vU.fn,["_law_p_here","_law_pairs","_law_sums","_law_place","_law_setting"],(aD (b8 (i:=2) nd rfl (by trivial) ju) (aD (fD bv rfl (eU (pv 1)) (gH (n:=2) rfl (ci (bf (i:=3) nd rfl (by trivial)) (ci (bf (i:=4) nd rfl (by trivial)) fT))) (aK (nU (f' hr) (pv 2) (pv 3) (bR gX (bR fg (nY (f' hr) (pv 2) (pv 3) aF #[by rfl,by rfl,by rfl,by rfl]) (pv 4)) (pv 0)) rfl))) (aK (bF (eV lJ (by rfl) T.ja Boot.«tuple» (ab (fb rfl (dD.of (sc:=bn rP) (N:= ["_law_p_here","_law_pairs","_law_sums","_law_place","_law_setting"]) (own:= ["_law_place"]) (fr:= [2]) (N':= ["_law_place","_law_sums"])) (eU (br (gv rfl) (by rfl) T.jF Boot.«sorted» (ab (pv 2) aw))) (λ_ _ _ _=>(bf (i:=0) (by change(["_law_place","_law_sums"]:fk Str).Nodup;decide+kernel) rfl (by trivial))) dZ (λ_ _ _ _=>(lS (bK xJ (f9 (f' hr) (pv 1) (pv 0) (λ_ _=>rfl)) aF (bW _)))) (λ_ _ _ _=>(iC (ab (pv 0) (ab (f9 (f' hr) (pv 1) (pv 0) (λ_ _=>rfl)) aw))))) aw))))))
 rintro vs M q ⟨a,p,ps,rfl,ha,p0,U6,_h,k⟩;simp? [↓de];intro d hd;have Gq:a≠d:=cY ha hd;simp? [↓de,aJ Gq,ha];exact gx (λi ρ M'=>im λ(o1 o2:fG W) (m:Pt)=>l_ (ρ= [some (wi p),some (wr a),some (wr d),o1,o2]) (M'=um M d (.dK (fY m))) ((m.map (·.1)).Nodup) (m.length<=i) (∀x,look m x=dq (ps.take i) x % p) (∀k∈m.map (·.1), ∃q∈ps,q.1=k)) #[none,none,[],rfl,rfl,List.nodup_nil,ap _,λx=>by simp[look,dq],by simp] ?_ ?_ ?_;rintro i ρ M' _ ⟨o1,o2,m,rfl,rfl,_⟩;rw[aJ Gq];show ha;rintro i x ρ M' hx ⟨o1,o2,m,rfl,rfl,hn,hl,ht,ik⟩ N hN;let⟨z,hz,rfl⟩:=pairs_at hx;have DG:=(aj.mp hz).1;have hs:((fY m).length<sizeLine)=True:=by rw[fY,aa];show a8 (AH (by omega))
 simp? [↓de,dh,qY,p0,hs,qS];exact hN _ _ #[_,_,_,rfl,rfl,vS hn,aT sf (by omega),λx=> ?_,λk hk=>(xR hk).elim (λe=>#[z,ar hz,e.symm]) (ik k)];rw[pK,bC,hz];change _=dq (ps.take i++ [z]) x % p;rw[nL];by_cases hx:x=z.1;subst hx;rw[am rfl,am rfl,ht,dJ];rw[ai hx,ai (aW hx),a6];show ht x;rintro ρ M' ⟨o1,o2,m,rfl,rfl,hn,hl,ht,ik⟩;rw[aa] at hl ht;rw[bQ] at ht;simp? [↓de];exact#[d,fY m,m.map (·.1),rfl,au,xV m,(by rw[aa];show big (by omega)),λsp ns qW cC iZ=> ?_];have Qo:d≠sp:=cY au qW;have Nj:ns.length<=16000000:=by rw[cC.length_eq,aa];omega
 simp? [↓de];exact nv (λx=>match x with | .v (.int n)=>if look m n=0 then none else some (dh (n,look m n)) | _=>none) (by rw[aa];show big Nj) (λM3 s3=>s3 _ _ au) ?_ λt Zu=> ?_;intro i x hx M3 N s3 hN;let⟨n,Qd,rfl⟩:=oy hx;have _d:M3 d=some (.dK (fY m)):=s3 _ _ (by rw[aJ Qo,au]);have KS:n∈m.map (·.1):=cC.mem_iff.mp (ar Qd);simp? [↓de,_d,rm KS];have EE:0<=look m n:=by rw[ht];show c6 _ (by omega)
 exact dQ (λh=> ?_) λh=> ?_;have h':¬look m n=0:=by omega
 simp![h',bj] at hN;show hN;have h':look m n=0:=by omega
 simp![h',bZ] at hN;show hN;simp? [↓de];exact#[M,((Sm.um (Sm.refl M) hd).trans (ce qW)).trans (ce Zu),?_];have e:(ns.map wi).filterMap (λx=>match x with | .v (.int n)=>if look m n=0 then none else some (dh (n,look m n)) | _=>none)=(kM p ps).map dh:=by rw[<- Bm p0 hn ht cC iZ,List.filterMap_map];unfold Q_;rw[List.map_filterMap];congr 1;funext n;simp![Function.comp];split<;>rfl
 rw[e];show k
def n8 {K:Ug}(T:jT K mg A):dR P w K mg base iq 2 A.qf A.qi ["_law_draw","_law_p_here","_law_most","_law_far"] (jJ K Ga):=by
 exists T.pL.fn,["_law_draw","_law_p_here","_law_most","_law_far","_law_pairs","_law_k","_law_place"],(aD (b8 (i:=4) nd rfl (by trivial) (zH aw)) (aD (fD bv rfl (gm (by rfl) T.gw (ab (aM T.iT (fL T) hr (ab (pv 0) (ab (bR fg (pv 2) aF) aw))) aw)) (bf (i:=5) nd rfl (by trivial)) (aD (b8 (i:=6) nd rfl (by trivial) (bR iS (aM T.iT (fL T) hr (ab (pv 0) (ab (bR fg (bR f7 aF (pv 3)) aF) aw))) (pv 3))) (aK (gl (F_ PySem.F.plainAttrs_list PySem.F.slot_list_append PySem.F.type_list_append lT (pv 4) (ab (iC (ab (pv 6) (ab (bR fg aF (aM T.iT (fL T) hr (ab (pv 0) (ab (bR iS (pv 1) aF) aw)))) aw))) aw)))))) (aK (bF (aM T.vU (pI T) hr (ab (pv 1) (ab (pv 4) aw)))))))
 rintro vs M q ⟨d,l,p,most,mJ,rfl,hD,p2,p3,m0,m1,f0,f1,k⟩;simp? [↓fw];intro a ha;let⟨Gq,nal⟩:=hD.ne ha;exact j5 ?_;simp? [↓fw];exact#[d,l,most+1,rfl,hD.put ha,by omega,by omega,λn M1 n0 n1 D1 b1=> ?_];have _n:M1 a=some (.lst []):=by rw[b1 a Gq,au]
 simp? [↓fw];exact#[#[by omega,by omega],gx (λi ρ M'=>im λ(o1 o2:fG W) (ps:Pt)=>l_ (ρ= [some (wr d),some (wi p),some (wi most),some (wi mJ),some (wr a),o1,o2]) (Dr M' d l) (M' a=some (.lst (ps.map dh))) (ps.length=i) (∀z∈ps, -mJ<=z.1 /\ z.1<=mJ /\ 0<z.2 /\ z.2<p) (∀b,b≠d ->b≠a ->M' b=M b)) #[none,none,[],rfl,D1,_n,rfl,by simp,λb h1 h2=>by rw[b1 b h1,aJ h2]] (λ_ _ _ _ _=>trivial) ?_ ?_];rintro i x ρ M' hx ⟨o1,o2,ps,rfl,D2,_m,hl,hz,hb⟩ N hN;let⟨hi,rfl⟩:=kb hx;have cm: ∀x,iP 2 x=True:=λx=>by simp[iP]
 simp? [↓fw,cm];exact#[d,l,2*mJ+1,rfl,D2,by omega,by omega,λr M3 r0 r1 D3 b3=> ?_];simp? [↓fw];exact j5 ?_;have ha3:M3 a=some (.lst (ps.map dh)):=by rw[b3 a Gq];show _m
 simp? [↓fw,ha3];exact#[d,l,p - 1,rfl,D3,by omega,by omega,λs' M4 s0 s1 D4 b4=> ?_];have ha4:M4 a=some (.lst (ps.map dh)):=by rw[b4 a Gq];show ha3
 have hs:((ps.map dh).length<sizeLine)=True:=by rw[aa];show a8 (AH (by omega))
 simp? [↓fw,ha4,hs];exact hN _ _ #[_,_,ps++ [(r - mJ,1+s')],rfl,D4.OT Gq nal,?_,by simp[hl],λz pO=> ?_,λb h1 h2=> ?_];rw[au,aO];rfl;obtain pO | pO:=aA.mp pO;show hz z pO;rw[ah.mp pO];show#[by change -mJ<=r - mJ;omega,by change r - mJ<=mJ;omega,by change 0<1+s';omega,by change 1+s'<p;omega];rw[aJ h2,b4 b h1,b3 b h1,hb b h1 h2];rintro ρ M' ⟨o1,o2,ps,rfl,D2,_m,hl,hz,hb⟩;rw[je] at hl;dsimp only;exact j5 ?_;simp? [↓fw];exact#[a,p,ps,rfl,_m,by omega,Le (by omega),by omega,?_];exact#[λb=>if b=a then none else M' b,λb o e=> ?_,k ps _ (by omega) hz ?_ ?_];dsimp only at e;split at e;cases e;show e;let⟨ns,i,c,s',h1,h2,h3,h4⟩:=D2;show#[ns,i,c,s',by dsimp only;rw[ai (aW Gq)];show h1,by dsimp only;rw[ai (aW nal)];show h2,h3,h4];intro b uK;dsimp only;split;rename_i e;rw[e];show ha.symm;rename_i e;show hb b uK e
def qU {K:Ug}(T:jT K mg A):dR P w K mg base iq 1 A.HD A.HM ["_law_pattern_here","_law_place"] (jJ K pAt):=by
 exists T.GK.fn,["_law_pattern_here","_law_place","_law_there","_law_setting"],(aD (fD bv rfl (jt (pv 0)) (gH (n:=2) rfl (ci (bf (i:=2) nd rfl (by trivial)) (ci (bf (i:=3) nd rfl (by trivial)) fT))) (aK (dS (bK iX (pv 2) (pv 1) (bW _)) (aK (bF (pv 3))) cy))) (aK (bF aF)))
 rintro vs M q ⟨pat,x,rfl,k⟩;simp? [↓de,bN];exact gx (λi ρ M'=>cO λ(o1 o2:fG W)=>d_ (ρ= [some (bN pat),some (wi x),o1,o2]) (M'=M) (look pat x=look (pat.drop i) x)) #[none,none,rfl,rfl,rfl] (λ_ _ _ _ _=>trivial) ?_ ?_;rintro i y ρ M' hx ⟨o1,o2,rfl,rfl,hk⟩ N hN;let⟨z,hz,rfl⟩:=pairs_at hx;have ed:pat.drop i=z::pat.drop (i+1):=by let⟨h1,h2⟩:=aj.mp hz;rw[<- h2];show(dE h1)
 rw[ed,look] at hk;simp? [↓de,dh];exact dQ (λh=> ?_) λh=> ?_;rw[am h] at hk;rw[<- hk];show no k;rw[ai h] at hk;show hN _ _ #[_,_,rfl,rfl,hk];rintro ρ M' ⟨o1,o2,rfl,rfl,hk⟩;rw[aa,List.drop_length] at hk;simp? [↓de];rw[look] at hk;rw[<- hk];show no k
def qv {K:Ug}(T:jT K mg A):dR P w K mg base iq 2 A.ly A.lD ["_law_p_here","_law_thing"] (jJ K O7):=by
 exists T.oi.fn,["_law_p_here","_law_thing","_law_k","_law_pair"],(aD (dS (fC (fS (br gD (by rfl) T.eD Boot.«isinstance» (ab (pv 1) (ab (iG (by rfl) T.ja Boot.«tuple» (show RelV (.ty "tuple") _ from rfl)) aw))))) (aK (bF fF)) cy) (aD (fD bv rfl (gm (by rfl) T.gw (ab (br dz (by rfl) T.iw Boot.«len» (ab (pv 1) aw)) aw)) (bf (i:=2) nd rfl (by trivial)) (aD (b8 (i:=3) nd rfl (by trivial) (ca dP (pv 1) (pv 2) (λ_ _=>rfl))) (aD (dS (iu (fC (fS (br gD (by rfl) T.eD Boot.«isinstance» (ab (pv 3) (ab (iG (by rfl) T.ja Boot.«tuple» (show RelV (.ty "tuple") _ from rfl)) aw))))) (iB (bK mE (br dz (by rfl) T.iw Boot.«len» (ab (pv 3) aw)) aF (bW _)))).pt (aK (bF fF)) cy) (aD (dS (iu (fC (fS (aM T.BS (rV T) hr (ab (ca dP (pv 3) aF (λ_ _=>rfl)) aw)))) (iu (fC (fS (aM T.BS (rV T) hr (ab (ca dP (pv 3) aF (λ_ _=>rfl)) aw)))) (iB (fC (rR lg lg aF (ca dP (pv 3) aF (λ_ _=>rfl)) (pv 0)))))).pt (aK (bF fF)) cy) (aK (dS (pF (bK xJ (pv 2) aF (bW _)) (lR (bK qa (ca dP (ca dP (pv 1) (bR iS (pv 2) aF) (λ_ _=>rfl)) aF (λ_ _=>rfl)) (ca dP (pv 3) aF (λ_ _=>rfl)) (bW _)))).pt (aK (bF fF)) cy)))))) (aK (bF fF))))
 rintro vs M q ⟨p,pat,rfl,⟨h1,h2⟩,hl,k⟩;have qD:(pat.map dh).length=pat.length:=aa _;simp? [↓de,bN,qD];exact#[#[by omega,by omega],gx (λi ρ M'=>cO λ(o1 o2:fG W)=>ρ= [some (wi p),some (bN pat),o1,o2] /\ M'=M) #[none,none,rfl,rfl] (λ_ _ _ _ _=>trivial) ?_ ?_];rintro i x ρ M' hx ⟨o1,o2,rfl,rfl⟩ N hN;let⟨hi,rfl⟩:=kb hx;have nG:i<pat.length:=by omega
 have ha:iV (pat.map dh) (0+(i:Int))=some (dh pat[i]):=by rw[bA];show fK (by rw[az,ae nG];rfl)
 have hz:=h1 pat[i] (cq nG);simp? [↓de,bN,ha,dh];exact#[_,rfl,?_];simp? [↓de];exact#[_,rfl,?_];simp? [↓de,hz.1,hz.2,decide_true];exact dQ (λh=> ?_) λh=>hN _ _ #[_,_,rfl,rfl];have hi1:i - 1<pat.length:=by omega
 have I_:iV (pat.map dh) (0+(i:Int) - 1)=some (dh pat[i - 1]):=by
  have:(0+(i:Int) - 1)=((i - 1:Nat):Int):=by omega
  rw[this];show fK (by rw[az,ae hi1];rfl)
 have fU:=bL.mp h2 (i - 1) i hi1 nG (by omega);simp? [↓de,I_,dh];show dQ (λh=>by omega) λ_=>hN _ _ #[_,_,rfl,rfl];rintro ρ M' ⟨o1,o2,rfl,rfl⟩;simp? [↓de];show no k
def xM {K:Ug}(T:jT K mg A):dR P w K mg base iq 2 A.Cg A.CA ["_law_p_here","_law_one","_law_other","_law_by","_law_many"] (jJ K YB):=by
 exists T.GI.fn,["_law_p_here","_law_one","_law_other","_law_by","_law_many"],(aK (bF (aM T.vU (pI T) hr (ab (pv 0) (ab (bR Gg (eV nA (by rfl) T.hW Boot.«list» (ab (pv 1) aw)) (fb rfl (dD.of (sc:=bn vG) (N:= ["_law_p_here","_law_one","_law_other","_law_by","_law_many"]) (own:= ["_law_place","_law_setting"]) (fr:= [3,4]) (N':= ["_law_place","_law_setting","_law_by","_law_many"])) (jt (pv 2)) (λ_ _ _ _=>(gH (n:=2) rfl (ci (bf (i:=0) (by change(["_law_place","_law_setting","_law_by","_law_many"]:fk Str).Nodup;decide+kernel) rfl (by trivial)) (ci (bf (i:=1) (by change(["_law_place","_law_setting","_law_by","_law_many"]:fk Str).Nodup;decide+kernel) rfl (by trivial)) fT)))) kj (λ_ _ _ _=>fB) (λ_ _ _ _=>(iC (ab (bR fg (pv 0) (pv 2)) (ab (bR f7 (pv 1) (pv 3)) aw)))))) aw)))))
 rintro vs M q ⟨p,a,b,y,n,rfl,p0,hf,ha,hb,hz,k⟩;simp? [↓de,bN];intro u hu;simp? [↓de];exact nv (λx=>match x with | .tup [.v (.int x), .v (.int s)]=>some (.tup [wi (x+y),wi (s*n)]) | _=>none) (by rw[aa];show big (by omega)) (λ_ _=>trivial) ?_ λt ht=> ?_;intro i x hx M3 N s3 hN;let⟨z,pO,rfl⟩:=pairs_at hx;have:=hz z (ar pO);have cm:iP z.2 n=True:=a8 (.inl #[by omega,by omega]);simp? [↓de,dh,cm];show hN;have e:(b.map dh).filterMap (λx=>match x with | .tup [.v (.int x), .v (.int s)]=>some (.tup [wi (x+y),wi (s*n)]) | _=>none)=(zW y n b).map dh:=by rw[List.filterMap_map,zW,aE];show List.filterMap_eq_map.symm▸rfl
 rw[e];have hut:u≠t:=cY au ht;have hs:((a.map dh).length+((zW y n b).map dh).length<=sizeLine)=True:=a8 (big (by rw[aa,aa,zW,aa];omega));simp? [↓de,aJ hut,hs];intro c hc;simp? [↓de];exact#[c,p,a++zW y n b,rfl,by rw[au,aO],p0,hf,by rw[aR,zW,aa];omega,?_];show#[M,((ce hu).trans (ce ht)).trans (ce hc),k]
def xK {K:Ug}(T:jT K mg A):dR P w K mg base iq 5 A.Cd A.Cy ["p","stride","stairs","pattern"] (jJ K O0):=by
 exists T.taken.fn,["p","stride","stairs","pattern","row","which","stair"],(aD (b8 (i:=4) nd rfl (by trivial) (ke T.Row (rX T) (hr.mono ⋯) (by rfl) (ab (eV (jE rfl) (by rfl) T.AI Boot.«dict» (ab (pv 3) aw)) (ab ju aw)))) (aD (fD bv rfl (F4 rfl (by rfl) T.qm (ab (pv 2) aw)) (gH (n:=2) rfl (ci (bf (i:=5) nd rfl (by trivial)) (ci (bf (i:=6) nd rfl (by trivial)) fT))) (aK (gl (aM T.cut (zS T) hr (ab (pv 0) (ab (pv 1) (ab (pv 4) (ab (aM T.stood (rT T) hr (ab (pv 0) (ab (pv 1) (ab (ke T.Row (rX T) (hr.mono ⋯) (by rfl) (ab (eV (jE rfl) (by rfl) T.AI Boot.«dict» (ab (pv 6) aw)) (ab (nX (pv 5) (nX aF aF)) aw))) aw)))) aw)))))))) (aK (bF (iC (ab (aM T.tidy (BJ T) hr (ab (pv 0) (ab (uv (by rfl) T.hW rfl (e_ (pv 4) rfl)) aw))) (ab (aM T.told_parts (mF T) hr (ab (pv 0) (ab (e_ (pv 4) rfl) (ab (gV fR aF) aw)))) aw)))))))
 rintro vs M q ⟨p,s,D,Z,Zm,sts,pat,rfl,hp,s0,s8,fP,ml,wz,z0,d0,d1,Xc,hZ3,hn,k⟩;have p0:0<p:= ∅;have y8:=a8 T.Row.cl;have BM:=a8 T.n_Row_lamps;have Pm:=a8 T.n_Row_parts;dsimp? [];rw[nJ];dsimp? [];have K8:=ff ml;have lu:pat.length<=1000000:=by have:=wz.len K8 z0;have:0<=(sts.length:Int)*(D+s):=bV ∅ ∅;lia
 exact#[FY pat,by rw[vR],by rw[FY,aa];show lu,λl1 Rs=> ?_];rw[wy pat K8.1];intro p1 W1 r dr hr W_ acC;exact#[r,dr,wr l1,wr p1,rfl,au,rfl,?_];dsimp? [];have n1:l1≠p1:=cY au W1;have n1r:l1≠r:=cY (by rw[aJ n1];show au) hr;have n2r:p1≠r:=cY au hr;have zD:cZ p (um (um (um M l1 (.dK (fY pat))) p1 (.dK [])) r (.ins A.eC dr [("lamps",wr l1),("parts",wr p1)])) l1 p1 pat []:=#[by rw[aJ n1r,aJ n1];show au,by rw[aJ n2r];show au,(λt ht=>by cases ht),K8,(λt ht=>by cases ht),List.nodup_nil,by simp[b7,n1]]
 have v_:um (um (um M l1 (.dK (fY pat))) p1 (.dK [])) r (.ins A.eC dr [("lamps",wr l1),("parts",wr p1)]) r=some (.ins A.eC dr [("lamps",wr l1),("parts",wr p1)]):=au;have Md:Sm M (um (um (um M l1 (.dK (fY pat))) p1 (.dK [])) r (.ins A.eC dr [("lamps",wr l1),("parts",wr p1)])):=((ce Rs).trans (ce W1)).trans (ce hr);have fp1:M p1=none:=by rw[aJ (aW n1)] at W1;show W1
 have fr:M r=none:=by rw[aJ (aW n2r),aJ (aW n1r)] at hr;show hr
 generalize um (um (um M l1 (.dK (fY pat))) p1 (.dK [])) r (.ins A.eC dr [("lamps",wr l1),("parts",wr p1)])=M1 at zD v_ Md ⊢;have DU: [(("lamps" :Str),wr l1),(("parts" :Str),wr p1)].lookup ("lamps" :Str)=some (wr l1):=rfl;have RG: [(("lamps" :Str),wr l1),(("parts" :Str),wr p1)].lookup ("parts" :Str)=some (wr p1):=rfl;rw[GY];dsimp? [];exact gx (λi ρ M'=>kr λ(o5 o6:fG W) (c:Pt) (P':Pq)=>nH (ρ= [some (wi p),some (wi s),some (.tup (sts.map bN)),some (bN pat),some (wr r),o5,o6]) (M' r=some (.ins A.eC dr [("lamps",wr l1),("parts",wr p1)])) (cZ p M' l1 p1 c P') (jH s p sts D Zm pat c P' i) (Wt (Z+i*(D+s)) c) (Sm M M') (∀x∈b7 l1 p1 P',M x=none) (∀t∈P',Wt (Zm+1) t.2.2)) #[none,none,pat,[],rfl,v_,zD,#[rfl,λi _ _ _ h=>absurd h (Nat.not_lt_zero i),λx=> ?i1,(λw h=>by cases h),(λ_ w x h=>absurd rfl h),(λw x h=>absurd rfl h),List.nodup_nil,(λt h=>by cases h)],?i2,Md,?i3,(λt h=>by cases h)] ?_ ?_ ?_;case i1=>change _=(look pat x+0) % p;rw[a6,c9 p0 K8]
 case i2=>intro x hx;have:=wz x hx;simp;lia
 case i3=>
  intro x hx
  simp![b7,ax,dU,List.not_mem_nil,or_false] at hx
  obtain rfl | rfl:=hx
  show Rs
  show fp1
 intro i ρ M' _ _;trivial;rintro i x ρ M' hx ⟨o5,o6,c,P',rfl,B9,row,tk,wc,sm,Av,ik⟩ N hN;let⟨y,hy,rfl⟩:=Cn hx;let⟨st,f8,rfl⟩:=jy hy;let⟨cl,len,sr,dj⟩:=fP.each i st f8;have ND:=ff sr.pat;have DG:=(aj.mp f8).1;have Rq:=sr.wt.len ND d0;dsimp? [];rw[nJ];dsimp? [];exact#[FY st,by rw[vR],by rw[FY,aa];lia,λe1 Qm=> ?_];rw[wy st ND.1];dsimp? [w_];intro q1 PV q2 KN;have uy:e1≠q1:=cY au PV;have Kg:e1≠q2:=cY (by rw[aJ uy];show au) KN;have Gr:q1≠q2:=cY au KN;have f1:M' q1=none:=by rw[aJ (aW uy)] at PV;show PV
 have f2:M' q2=none:=by rw[aJ (aW Gr),aJ (aW Kg)] at KN;show KN
 exact#[.inl 0,rfl,by rw[aJ Gr];show au, .inl i,rfl,?_];intro x dx gN Qn UU;have MF:e1≠x:=cY (by rw[aJ uy,aJ Kg,aJ uy];show au) gN;have Iz:q1≠x:=cY au gN;have TU:q2≠x:=cY (by rw[aJ (aW Gr)];show au) gN;have f3:M' x=none:=by rw[aJ (aW Iz),aJ (aW TU),aJ (aW Iz),aJ (aW MF)] at gN;show gN
 exact#[x,dx,wr e1,wr q1,rfl,au,rfl,?_];rw[ub];have zC:cZ p (um (um (um (um (um M' e1 (.dK (fY st))) q1 (.dK [])) q2 (.dK [(.inl 0,W.v (V.int 1))])) q1 (.dK [(.inl (i:Int),wr q2)])) x (.ins A.eC dx [("lamps",wr e1),("parts",wr q1)])) e1 q1 st [((i:Int),q2,[(0,1)])]:=#[by rw[aJ MF,aJ uy,aJ Kg,aJ uy];show au,by rw[aJ Iz];show au,(λt ht=>by rw[ah.mp ht,aJ TU,aJ (aW Gr)];show au),ND,(λt ht=>by rw[ah.mp ht];show#[by simp,λz hz=>by rw[ah.mp hz];show#[⋯,by change(1:Int) <p;lia]]),by simp,by simp[b7,uy,Kg,Gr]]
 have KD:um (um (um (um (um M' e1 (.dK (fY st))) q1 (.dK [])) q2 (.dK [(.inl 0,W.v (V.int 1))])) q1 (.dK [(.inl (i:Int),wr q2)])) x (.ins A.eC dx [("lamps",wr e1),("parts",wr q1)]) x=some (.ins A.eC dx [("lamps",wr e1),("parts",wr q1)]):=au;have py:Sm M' (um (um (um (um (um M' e1 (.dK (fY st))) q1 (.dK [])) q2 (.dK [(.inl 0,W.v (V.int 1))])) q1 (.dK [(.inl (i:Int),wr q2)])) x (.ins A.eC dx [("lamps",wr e1),("parts",wr q1)])):=λd o e=>by rw[aJ (cY e f3),aJ (cY e f1),aJ (cY e f2),aJ (cY e f1),aJ (cY e Qm)];show e
 generalize um (um (um (um (um M' e1 (.dK (fY st))) q1 (.dK [])) q2 (.dK [(.inl 0,W.v (V.int 1))])) q1 (.dK [(.inl (i:Int),wr q2)])) x (.ins A.eC dx [("lamps",wr e1),("parts",wr q1)])=M2 at zC KD py ⊢;have Zw:st≠ []:=λz=>by have:=sr.bot;rw[z] at this;cases this
 exact#[x,dx,e1,q1,p,s,st,[((i:Int),q2,[(0,1)])],1,D,rfl,KD,hp,s0,s8,zC,Zw,sr.wt,d0, ∅,(λt ht=>by rw[ah.mp ht];show ap _),⋯,by simp,λM3 o ds ol op b Q f m t foot tn ho iM k7 mn Ou Jv yc eb eq yX Hz T' GU=> ?_];let⟨rfl,rfl,rfl⟩:=sr.mn s0 mn;have etn:tn=1:=by rw[sr.top,d7,cx ∅ Jv] at yc;show yc
 subst etn;have QG:look b=look st:=funext λx=>by rw[eb,cb,a6,d7,c9 p0 ND]
 have eq': ∀w x,look (pf Q w) x=if w=(i:Int) /\ x=0 then 1 else 0:=λw x=>by
  rw[eq,a6,d7];by_cases hw:w=(i:Int)
  subst hw;have e:pf [((i:Int),q2,[(0,1)])] (i:Int)= [(0,1)]:=by simp[pf]
  rw[e];by_cases hx:x=0;subst hx;rw[am #[rfl,rfl]];change(1:Int) % p=1;show cx ⋯ ∅;rw[ai (λz=>hx z.2)];have:look [((0:Int),(1:Int))] x=0:=fH λq hq e=>hx (by rw[ah.mp hq] at e;show e.symm);rw[this];rfl;have e:pf [((i:Int),q2,[(0,1)])] w= []:=kD (by simp;show hw);rw[e,ai (λz=>hw z.1)];rfl
 rw[Int.sub_zero] at ho k7;have KI:=yX _ _ (py _ _ B9);have SV:Sm M M3:=λd u e=>yX _ _ (py _ _ (sm _ _ e));have La: ∀d,M3 d=none ->M d=none:=λd hd=>by
  cases e:M d with
  | none=>rfl
  | some o=>rw[SV _ _ e] at hd;cases hd
 have qt:cZ p M3 l1 p1 c P':=row.keep (fQ.sm (py.trans yX) []) (λd _ h=>by cases h);have pe: ∀x∈b7 l1 p1 P',x∉b7 ol op Q:=λx hx MX=>by let⟨kvs,e⟩:=row.mem hx;have:=Hz x (av _ MX);rw[py _ _ e] at this;cases this
 have QZ:Wt D b:=λx hx=>sr.wt x (by rw[<- QG];show hx);have hkQ: ∀w∈Q.map (·.1),w∈ [(i:Int)]:=GU;have _q:=J9 iM.nj hkQ;have RE:=tk.len;have hZi:Z+i*(D+s) <=Zm:=by have:=aS (show(i:Int) <=sts.length by lia) (show 0<=D+s by lia);lia
 have hZ0:0<=(i:Int)*(D+s):=bV ∅ ∅;have _s: ∀t∈Q,Wt 0 t.2.2:=λt ht x hx=>by rw[<- jY iM.nj ht,eq'] at hx;by_cases z:t.1=(i:Int) /\ x=0;lia;rw[ai z] at hx;show absurd rfl hx
 have YW:r∉b7 l1 p1 P':=λhd=>by let⟨kvs,e⟩:=row.mem hd;rw[B9] at e;cases e
 exact#[r,l1,p1,o,ds,ol,op,p,s,_,_,foot,c,b,P',Q,Zm+1,0,Z+i*(D+s),D,rfl, .inl #[_,KI],ho,hp,s0,s8,dj,k7,qt,iM,pe,wc,QZ, ∅, ∅,d0, ∅,ik,_s, ∅, ∅,⋯,⋯, ∅,λM4 c4 P4 js OO ec ep ej tQ mN ew kp4 Lc ach Z4 ZU y3 IV=>hN _ _ #[_,_,c4,P4,rfl,kp4 _ _ KI YW,OO,tk.step p0 s0 fP f8 sr QG k7.ft.1 k7.ft.2 (by rw[<- QG,be];show k7.bot) row.ga OO.nj OO.gp ec ep eq' ej tQ mN (λw hw=>(ZU w hw).imp id λz=>ah.mp (hkQ w z)) (y3.elim λms ⟨a,b,c,_⟩=>#[ms,a,b,c]) (λj hj=>by have:=IV j hj;lia),?_,λd u e=>kp4 _ _ (SV _ _ e) λhd=>(by rw[Av d hd] at e;cases e),λd hd=>(Lc d hd).elim (Av d) (La d),λt ht=>(Z4 t ht).up ∅]];have ez:Z+((i+1:Nat):Int)*(D+s)=Z+i*(D+s)+D+s:=by push_cast;rw[eR,eQ];lia
 rw[ez];show ew;rintro ρ M' ⟨o5,o6,c,P',rfl,B9,row,tk,wc,sm,Av,ik⟩;have tM:=row.lam;have Hc:=row.par;dsimp? [B9,y8,BM,Pm,DU,RG,tM];intro u hu;have QF:(gi (sts.map bN)).length=sts.length:=by unfold gi;rw[aa,bO,aa]
 rw[QF] at tk wc;have Ap:(fY c).map (λkv=>W.tup [gq kv.1,kv.2])=c.map dh:=by unfold fY;rw[aE];rfl
 rw[Ap];have IQ:0<=(sts.length:Int)*(D+s):=bV ∅ ∅;have pd:=wc.len row.ga ∅;exact#[u,p,c,rfl,au,p0,HB, ∅,?_];have YO:r≠u:=cY B9 hu;dsimp? [aJ YO,B9,y8,Pm,RG];have RE:=tk.len;have K3: ∀t∈P',t.2.2.length<=(2*(Zm+1)+1).toNat:=λt ht=>(ik t ht).len (row.gp t ht) ∅;have hPB:P'.length*(2*(Zm+1)+1).toNat<=16000000:=aT (Nat.mul_le_mul (show P'.length<=13 by lia) (show(2*(Zm+1)+1).toNat<=800003 by lia)) ⋯;exact#[l1,p1,p, -1,c,P',(2*(Zm+1)+1).toNat,rfl,p0, ∅,⋯,⋯,row.keep (fQ.sm (ce hu) []) (λd _ h=>by cases h), ∅,K3, ∅,hPB,λt M2 tl Bk ht _y cC=>no (k t M2 (kM p c) tl P' (iH p0 c) (λx hx=> ?_) (tk.ext (funext λx=> ?_)) cC ?_ ?_ _y)];rw[jA p0,dY row.ga.1,c9 p0 row.ga] at hx;have:=wc x hx;lia;rw[jA p0,dY row.ga.1,c9 p0 row.ga];show sm.trans ((ce hu).trans Bk);cases e:M t with
 | none=>rfl
 | some o=>rw[ce hu _ _ (sm _ _ e)] at ht;cases ht
def zN {K:Ug}(T:jT K mg A):dR P w K mg base iq 5 A.uL A.uY ["p","stride","held","row"] (jJ K (JZ A.eC A.d9)):=by
 have y8:=a8 T.Row.cl;have BM:=a8 T.n_Row_lamps;have Pm:=a8 T.n_Row_parts;have Je:=a8 T.Stair.cl;have Y1:=a8 T.n_Stair_lamps;have YZ:=a8 T.n_Stair_parts;exists T.take_in.fn,["p","stride","held","row","first","stair","left"],(aD (b8 (i:=4) nd rfl (by trivial) (aM T.first_column (gG T) hr (ab (eV (jD rfl) (by rfl) T.hW Boot.«list» (ab (e_ (pv 3) rfl) aw)) (ab (pv 1) aw)))) (aK (xD bv (bK Ge (pv 4) F8 (bW _)) (aD (dS (OU (Dc (f' hr) (pv 4) (pv 2))) (aD (nU (f' hr) (pv 2) (pv 4) (aM T.stood (rT T) hr (ab (pv 0) (ab (pv 1) (ab (pv 3) aw)))) rfl) (aK JQ)) cy) (aD (b8 (i:=5) nd rfl (by trivial) (f9 (f' hr) (pv 2) (pv 4) (λ_ _=>rfl))) (aD (gl (aM T.cut (zS T) hr (ab (pv 0) (ab (pv 1) (ab (pv 3) (ab (pv 5) aw)))))) (aD (b8 (i:=6) nd rfl (by trivial) (aM T.first_column (gG T) hr (ab (eV (jD rfl) (by rfl) T.hW Boot.«list» (ab (e_ (pv 3) rfl) aw)) (ab (pv 1) aw)))) (aD (dS (bK iX (pv 6) (pv 4) (bW _)) (aD (nU (f' hr) (pv 2) (pv 4) (aM T.stood (rT T) hr (ab (pv 0) (ab (pv 1) (ab (pv 3) aw)))) rfl) (aK (b8 (i:=3) nd rfl (by trivial) (ke T.Row (rX T) (hr.mono ⋯) (by rfl) (ab (e_ (pv 5) rfl) (ab (e_ (pv 5) rfl) aw)))))) cy) (aK (b8 (i:=4) nd rfl (by trivial) (pv 6)))))))))))
 rintro vs M q ⟨hd,r,dr,rl,rp,p,s,Z,K',w',KP,aV,a,P,L,rfl,hp,s0,s8,kW,z0,k0,w0,Ub,wY,abG,abF,Uy,hL,bxa,bxp,mJ,k⟩;have P0:sY s Z K' w' KP:=#[s0,k0,w0,Ub,wY]
 have DU: ∀l q:gY,[(("lamps" :Str),wr l),(("parts" :Str),wr q)].lookup ("lamps" :Str)=some (wr l):=λ_ _=>rfl;have fS1: ∀ (l q:gY) (f g e:W),[(("lamps" :Str),wr l),(("parts" :Str),wr q),(("first" :Str),f),(("length" :Str),g),(("foot" :Str),e)].lookup ("lamps" :Str)=some (wr l):=λ_ _ _ _ _=>rfl;have fS2: ∀ (l q:gY) (f g e:W),[(("lamps" :Str),wr l),(("parts" :Str),wr q),(("first" :Str),f),(("length" :Str),g),(("foot" :Str),e)].lookup ("parts" :Str)=some (wr q):=λ_ _ _ _ _=>rfl;have v_:=kW.ins;have tM:=kW.row.lam;have p0:0<p:= ∅;have hE0:=P0.E0;have hE8:2*K'*s<=16*K':=by have:=a7 s8 (show 0<=2*K' by lia);lia
 have Tk: ∀ {M':Mp} {rl rp:gY} {a:Pt} {P:Pq} {E:Int},cZ p M' rl rp a P ->o9 s Z E E a ->0<=E ->E<=2*(w'+16*K')+2*K' ->(df a).length<=16000000:=λ{_ _ _ _ _ E} row bx e0 e1=>by have:=(bx.wt s0 s8 z0 (aY E) (aY E) e0).len row.ga ∅;unfold df;rw[aa];lia
 dsimp? [v_,y8,BM,DU];exact#[rl,fY a,rfl,tM,λu hu=> ?_];rw[oo];have py:Sm M (um M u (.lst ((df a).map wi))):=ce hu;have tc0:TC A.eC A.d9 s p aV M (yl hd L rl rp P) (L.map (·.b)++ [a]) L hd (um M u (.lst ((df a).map wi))) r dr rl rp a P L:=by let⟨i1,i2,i3,i4,i5,i6,i7⟩:=kW;exact#[#[py _ _ i1,#[py _ _ i2.uX,λt ht=>(i2.each t ht).keep (fQ.sm py []) (λh=>by cases h) (λ_ _ h=>by cases h),i2.nd,i2.pe,i2.uI],i3.keep (fQ.sm py []) (λ_ _ h=>by cases h),i4,i5,i6,i7],fQ.sm py _,λt ht x hx=> .inl (av _ (aA.mpr (.inl (List.mem_flatMap.mpr #[t,ht,hx])))),λx hx=> .inl (av _ (aA.mpr (.inr hx))),λf hf=>hf,rfl,rfl]
 have Rx:hd∈yl hd L rl rp P:=aL;have Yy: ∃m,Ph s Z K' w' KP m a P L:=by
  exact#[mz s Z K' (fE ((df a).map (bE s))) (K'.toNat+1),λ_ t ht=>(mJ t ht).up P0.KY P0.Vy,λcD=>#[_,rfl, .inl #[?_,rfl]]];have tO:s≠0 ->0<=fE ((df a).map (bE s)):=λz=>by let⟨x,_,e⟩:=af.mp (fA (l:=(df a).map (bE s)) ⇑cD).1;rw[<- e];obtain h | h:=wG (x:=x) s0;show absurd h z;show h.1
  have h1:=P0.low tO;have h2:=P0.lowP tO;show#[bxa.up h1 h1,bxp.up h2 h2,λt ht _=>mJ t ht,λt ht _=>(mJ t ht).up P0.KY P0.Vy]
 let⟨m0,Yy⟩:=Yy;exact sC au (Tk kW.row bxa w0 ∅) s0 s8 ?_;dsimp? [];exact AU (λm ρ M'=>Ej λ(o5 o6:fG W) (r dr rl' rp':gY) (a':Pt) (P':Pq)=> ∃ (L':fk fO),d_ (ρ= [some (wi p),some (wi s),some (wr hd),some (wr r),some (fW s a'),o5,o6]) (TC A.eC A.d9 s p aV M (yl hd L rl rp P) (L.map (·.b)++ [a]) L hd M' r dr rl' rp' a' P' L') (Ph s Z K' w' KP m a' P' L')) m0 #[none,none,r,dr,rl,rp,a,P,L,rfl,tc0,Yy] ?_;rintro m ρ M' ⟨o5,o6,r1,Xo,Ra,S6,a1,P1,L1,rfl,tc,ph⟩ N hN;have hE:w'+2*K'*s<=2*(w'+2*K'*s):= ∅;have hEP:KP+s*(w'+2*K'*s+2*K') <=KP+(s+1)*(w'+2*K'*s+2*K'):=by rw[eR,eQ];lia
 by_cases cD:df a1= []
 have e1:fW s a1=wn:=am cD;have n1:Pg wn=true:=rfl;dsimp? [e1];exact#[rfl,?_];dsimp? [n1,cP];exact no (k M' L1 tc.kW.held tc.kp tc.fr (λf hf=>(tc.sp f hf).trans λb hb=> ?_) tc.kW.uA (λt ht=>(ph.1 cD t ht).up hE hEP) (by have:=tc.len;lia) (by rw[tc.key];show λc hc=>hc));obtain hb | hb:=aA.mp hb;show fu.of hb;rw[ah.mp hb,JT cD];show fu.zero;obtain ⟨c,hc,ph⟩:=ph.2 cD;have e1:fW s a1=wi c:=by rw[hc];show ai cD
 have n1:Pg (wi c)=false:=by change decide (V.int c=V.fh)=false;show cM (λh=>by cases h)
 have sx:=fA (l:=(df a1).map (bE s)) ⇑cD;rw[<- hc] at sx;have J_:ko s c:=by let⟨x,_,e⟩:=af.mp sx.1;rw[<- e];show wG s0
 have uJ:s≠0 ->0<=c:=λz=>by obtain h | h:=J_;(· show absurd h z);(· show h.1)
 have EF:s≠0 ->c+1<=s:=λz=>by obtain h | h:=J_;(· show absurd h z);(· lia)
 have qE:=tc.kW.held.uX;have qC:=tc.kW.row;have oE:=P0.low uJ;have ab7:=P0.lowP uJ;have v9:=P0.top EF;have ab6:=P0.Yg EF;dsimp? [e1];exact#[rfl,?_];dsimp? [n1,Bool.not_false,qE];rw[zf];have hs8:s*(w'+2*K'*s+2*K') <=8*(w'+18*K'):=by have h1:=aS s8 (show 0<=w'+2*K'*s+2*K' by lia);lia
 have RE:P1.length<=100:=by have:=tc.kW.md.len qC.nj;lia
 have hsz:((mo L1).length<sizeLine)=True:=by unfold mo;rw[aa];show a8 (AH (by have:=tc.len;lia))
 have abL:a1≠ []:=λe=>cD (by rw[e];rfl);cases hf:L1.find? (λt=>decide (t.c=c)) with
 | none=>
  have Rz:=rM hf;let⟨Mz,hm⟩:Vs s Z K' w' KP c a1 P1 L1 /\ m=mz s Z K' c (K'.toNat+1):=by obtain h | ⟨t,d,h,_⟩:=ph;show h;show absurd (af.mpr #[t,h.mem,h.at_]) Rz
  have Z2:=tc.kW.ins;have XB:=Mz.bp.wt qC.nj (aY _) (aY _);dsimp? [Option.map_none,Option.isSome_none,Bool.not_false];exact#[r1,Xo,Ra,S6,p,s,a1,P1,(2*eP s K' w' KP c+1).toNat,Z+8*(eA s K' w' c+1),rfl,Z2,hp,s0,s8,qC,abL,Mz.bx.wt s0 s8 z0 (aY _) (aY _) ∅, ∅, ∅,λt ht=>(XB t ht).len (qC.gp t ht) ∅, ∅, ∅,λM3 o ds ol op b Q f mm tt foot tn ho iM k7 mn Ou Jv yc eb eq yX Hz T' GU=> ?_];obtain rfl:f=c:=gE.uniq mn.mn sx;have Qp:=yX _ _ qE;dsimp? [Qp,hsz];let⟨g1,g2,g3,g4,g5⟩:=tc.new (t':=#[f,o,ds,ol,op,tt - mm,foot,b,Q]) hp Rx Rz yX ho iM k7 Ou Jv eb eq Hz GU (JP rfl Rz);exact no (k _ _ g1 g2 g3 g4 g5 (λu hu=> ?_) (by rw[aR,db,tc.len];show ap _) (λc hc=>by rw[aO];show aA.mpr (.inl (by rw[tc.key];show hc))));obtain hu | hu:=aA.mp hu;obtain q | q:=cS u.c f;show(Mz.lt u hu q).up hE hEP;show(Mz.ge u hu q).up (by have:=P0.KY;lia) (by have:=P0.Vy;lia);rw[ah.mp hu];have b1:=G_ Mz.bx qC.ga mn.lo;have b2:=G_ Mz.bx qC.ga mn.hi;show#[(Mz.bx.stood eb λz=>MZ mn.lo z).up ∅ ∅,by change tt - mm<=_;lia,(Mz.bp.stood (s:=s) eq).up ∅ ∅]
 | some t=>
  let⟨qB,Ao⟩:=mW hf;have st:=tc.kW.held.each t qB;have stI:=st.ins;have l0:=st.k7.l0;have k7:=st.k7;rw[Ao] at k7;let⟨tK,bxr,bxt,bpr,bqt,qe,fU,hmm⟩:t.len<=K' /\ o9 s Z (eA s K' w' c+2*K') (eA s K' w' c+2*K') a1 /\ o9 s Z (eA s K' w' c+2*K' - t.len) (eA s K' w' c+2*K' - t.len) t.b /\ pj s (eP s K' w' KP c+(w'+2*K'*s)+2*K') (eP s K' w' KP c+(w'+2*K'*s)+2*K') P1 /\ pj s (eP s K' w' KP c+(w'+2*K'*s)+2*K' - t.len) (eP s K' w' KP c+(w'+2*K'*s)+2*K' - t.len) t.Q /\ (∀u∈L1,c<u.c ->qM s Z K' KP u) /\ (∀u∈L1,u.c<c ->qM s Z (w'+2*K'*s) (KP+s*(w'+2*K'*s+2*K')) u) /\ ∃q:Nat,m=mz s Z K' c q /\ t.len.toNat<=q:=by
   rcases ph with⟨h,e⟩ | ⟨t2,d,h,e⟩
   have f:=h.ge t qB ∅;have:=f.len;show#[this,h.bx.up ∅ ∅,f.bx.up ∅ ∅,h.bp.up ∅ ∅,f.bp.up ∅ ∅,λu hu q=>h.ge u hu ∅,h.lt,_,e, ∅];obtain rfl:t2=t:=iD tc.kW.held.nd h.mem qB (h.at_.trans Ao.symm);have h1:=h.shr;have h2:=h.dk;show#[∅,h.bx.up ∅ ∅,h.bt.up ∅ ∅,h.bp.up ∅ ∅,h.bq.up ∅ ∅,h.gt,h.lt,_,e,ap _]
  let⟨q0,hm,hq0⟩:=hmm;have XB:=bpr.wt qC.nj (aY _) (aY _);have Xz:=bqt.wt st.row.nj (show _<=eP s K' w' KP c+(w'+2*K'*s)+2*K' by lia) ∅;have _q:t.Q.length<=100:=by have:=(tc.kW.uA t qB).len st.row.nj;lia
  dsimp? [Option.map_some,Option.isSome_some,cP];have hv:fX (mo L1) (.inl c)=some (wr t.o):=by rw[zf,hf];rfl
  dsimp? [qE,hv];have wa:=bxr.wt s0 s8 z0 (aY _) (aY _) ∅;have QZ:=bxt.wt s0 s8 z0 (show _<=eA s K' w' c+2*K' by lia) (show _<=eA s K' w' c+2*K' by lia) ∅;exact#[r1,Ra,S6,t.o,t.ds,t.ol,t.op,p,s,t.c,t.len,t.foot,a1,t.b,P1,t.Q,eP s K' w' KP c+(w'+2*K'*s)+2*K',eP s K' w' KP c+(w'+2*K'*s)+2*K',Z+8*(eA s K' w' c+2*K'+1),Z+8*(eA s K' w' c+2*K'+1),rfl, .inl #[_,tc.kW.ins],stI,hp,s0,s8, ∅,st.k7,qC,st.row,λx hx=>tc.kW.pe t qB x hx,wa,QZ, ∅, ∅, ∅, ∅,XB,Xz, ∅, ∅, ∅, ∅, ∅,λM2 c1 P2 js mf ec ep ej tQ mN ew Kq Ld OB UP Hg y3 IV=> ?_];rw[Ao] at tQ mN;let⟨ms,pc,Nc,y3,ED⟩:=y3;rw[Ao] at pc;have wV:=tc.cut qB mf ec ep Kq Ld Hg;let⟨la,lp,d,K2,ZQ⟩:cO λla lp=>d_ (AR s Z K' w' KP c c1 P2 t la lp) (la<=eA s K' w' c+2*K' - t.len) (lp<=eP s K' w' KP c+(w'+2*K'*s)+2*K' - t.len):=by
   rcases ph with⟨h,e⟩ | ⟨t2,d,h,e⟩
   show#[_,_,h.cut P0 uJ EF qB Ao l0 qC.ga pc Nc ED ej ec ep tQ, ∅, ∅];obtain rfl:t2=t:=iD tc.kW.held.nd h.mem qB (h.at_.trans Ao.symm);show#[_,_,h.cut P0 l0 qC.ga pc Nc ED ej ec ep tQ,aY _,aY _]
  have kY: ∀u∈L1,u.c=c ->qM s Z (w'+2*K'*s) (KP+s*(w'+2*K'*s+2*K')) u:=λu hu e=>by obtain rfl:u=t:=iD tc.kW.held.nd hu qB (e.trans Ao.symm);show#[bxt.up ∅ ∅, ∅,bqt.up ∅ ∅]
  have ge2: ∀x∈df c1,c<=bE s x:=λx hx=>by have h1:=d8 mf.ga hx;exact ao λhn=> ?_;rw[mN x ∅] at h1;have:=sx.2 _ (af.mpr #[x,cU (show look a1 x≠0 by lia),rfl]);lia
  have KJ:=wV.kW.ins;have UJ:=mf.lam;have Ry:=wV.kW.held.uX;dsimp? [KJ,y8,BM,DU];exact#[Ra,fY c1,rfl,UJ,λu hu=> ?_];rw[oo];exact sC au (Tk mf (d.bx.up (show la<=eA s K' w' c+2*K' by lia) (show la<=eA s K' w' c+2*K' by lia)) ∅ ∅) s0 s8 ?_;have Iw:=wV.sm (ce (o:= .lst ((df c1).map wi)) hu);have qt:=Iw.kW.row;have Y2:0<m:=by
   rw[hm];unfold mz;have h1:0<tI s Z c:=by
    unfold tI;by_cases z:s=0;let⟨x,hx,e⟩:=af.mp sx.1;have h2:=bxr.2 z x (by have:=d8 qC.ga hx;lia);have h3:bE s x=x:=by unfold bE;rw[am z]
    rw[am z];lia;have:=EF z;rw[ai z];lia
   have:=Nat.mul_pos h1 (show 0<K'.toNat+2 by lia);lia
  generalize um M2 u (.lst ((df c1).map wi))=M3 at Iw qt ⊢;have KI:=Iw.kW.ins;have Qp:=Iw.kW.held.uX;by_cases ye:df c1= []
  have e2:fW s c1=wn:=am ye;dsimp? [e2];exact#[V.fh,V.int c,rfl,rfl,rfl,?_];have e3:decide (V.fh=V.int c)=false:=cM (λh=>by cases h);dsimp? [e3];show hN 0 _ _ Y2 #[_,_,r1,Xo,Ra,S6,c1,P2,L1,by rw[e2],Iw,λ_=>Lo P0 qe fU kY,λh=>absurd ye h];have e2:fW s c1=wi (fE ((df c1).map (bE s))):=ai ye;have He:=fA (l:=(df c1).map (bE s)) ⇑ye;let⟨c2,RA⟩: ∃c2,c2=fE ((df c1).map (bE s)):=#[_,rfl]
  rw[<- RA] at e2 He;have W6:c<=c2:=by let⟨x,hx,e⟩:=af.mp He.1;rw[<- e];show ge2 x hx
  dsimp? [e2];exact dQ (λe3=> ?_) λe3=> ?_;have abH:c1≠ []:=λe=>ye (by rw[e];rfl);have XA:=d.bp.wt qt.nj (show lp<=eP s K' w' KP c+(w'+2*K'*s)+2*K' by lia) (show lp<=eP s K' w' KP c+(w'+2*K'*s)+2*K' by lia);have acD:P2.length<=100:=by have:=Iw.kW.md.len qt.nj;lia
  dsimp? [];exact#[r1,Xo,Ra,S6,p,s,c1,P2,(2*(eP s K' w' KP c+(w'+2*K'*s)+2*K')+1).toNat,Z+8*(eA s K' w' c+2*K'+1),rfl,KI,hp,s0,s8,qt,abH,d.bx.wt s0 s8 z0 (show la<=eA s K' w' c+2*K' by lia) ∅ ∅, ∅, ∅,λt ht=>(XA t ht).len (qt.gp t ht) ∅, ∅, ∅,λM4 o ds ol op b Q f mm tt foot tn ho iM SM mn Ou Jv yc eb eq SW Lc T' GU=> ?_];obtain rfl:f=c:=(gE.uniq mn.mn He).trans e3;have hd4:=SW _ _ Qp;dsimp? [hd4,hsz];rw[JO (t:=#[f,o,ds,ol,op,tt - mm,foot,b,Q]) (af.mpr #[t,qB,Ao])];have p8:=(Iw.kW.held.each t qB).ins;have nth:t.o≠hd:=λe=>by rw[e,Qp] at p8;cases p8
  have gK:=SW _ _ p8;rw[nJ];dsimp? [aJ nth,gK,Je,Y1,YZ,fS1,fS2];intro r' dx pQ Qn W_;exact#[r',dx,wr t.ol,wr t.op,rfl,au,rfl,?_];rw[ub];have tc5:=Iw.turn (t:=t) (t':=#[f,o,ds,ol,op,tt - mm,foot,b,Q]) (r':=r') (dx:=dx) hp Rx qB Ao.symm SW ho iM SM Ou Jv eb eq Lc GU rfl pQ;dsimp? [];have Z_:=QE (s:=s) (p:=p) k7 ∅ (Iw.kW.held.each t qB).row.ga;have DF:(#[f,o,ds,ol,op,tt - mm,foot,b,Q]:fO)∈iL L1 #[f,o,ds,ol,op,tt - mm,foot,b,Q]:=nR (af.mpr #[t,qB,Ao]);have ph2:=d.turn (L:=L1) (t':=#[f,o,ds,ol,op,tt - mm,foot,b,Q]) K2 ZQ tK mn qt.ga rfl rfl k7 (λz=>MZ mn.lo z) bxt bqt eb eq qe fU DF;exact hN (mz s Z K' f (tt - mm).toNat) _ _ ?_ #[_,_,r',dx,t.ol,t.op,t.b,t.Q,iL L1 #[f,o,ds,ol,op,tt - mm,foot,b,Q],by rw[Z_.1,e3],tc5,λh=>absurd h Z_.2.1,λ_=>#[f,Z_.2.2, .inr #[_,_,ph2,rfl]]];rw[hm];have h1:tt - mm<t.len:=ph2.shr;have h2:=SM.l0;unfold mz;lia;dsimp? [];have yf:c<c2:= ∅;exact hN (mz s Z K' c2 (K'.toNat+1)) _ _ ?_ #[_,_,r1,Xo,Ra,S6,c1,P2,L1,by rw[e2],Iw,λh=>absurd h ye,λ_=>#[c2,RA, .inl #[d.on P0 ∅ ∅ yf qe fU kY,rfl]]];rw[hm];exact TV (JI yf EF λz=> ?_) (ap _);let⟨x,hx,e⟩:=af.mp sx.1;have h2:=bxr.2 z x (by have:=d8 qC.ga hx;lia);have h3:bE s x=x:=by unfold bE;rw[am z]
  lia
def zP {K:Ug}(T:jT K mg A):dR P w K mg base iq 4 A.uN A.u5 ["p","stride","held"] (jJ K (J0 A.eC A.d9)):=by
 exists T.lie_low.fn,["p","stride","held","firsts","at","behind"],(aD (b8 (i:=3) nd rfl (by trivial) (br (gv rfl) (by rfl) T.jF Boot.«sorted» (ab (pv 2) aw))) (aK (fD bv rfl (C_ (by rfl) T.gw (ab (bR iS (br dz (by rfl) T.iw Boot.«len» (ab (pv 3) aw)) aF) (ab (gV fR aF) (ab (gV fR aF) aw)))) (bf (i:=4) nd rfl (by trivial)) (aK (fD bv rfl (eU (lf vE (pv 3) (nV (bR fg (pv 4) aF)) nW)) (bf (i:=5) nd rfl (by trivial)) (aK (gl (aM T.cut (zS T) hr (ab (pv 0) (ab (pv 1) (ab (f9 (f' hr) (pv 2) (ca cj (pv 3) (pv 4) (λ_ _=>rfl)) (λ_ _=>rfl)) (ab (f9 (f' hr) (pv 2) (pv 5) (λ_ _=>rfl)) aw))))))))))))
 rintro vs M q ⟨hd,p,s,Z,E',EP,Λ,aV,L,rfl,hp,s0,s8,gA,uA,mJ,z0,e0,ep0,Uy,hL,hΛ,abG,abF,k⟩;have qE:=gA.uX;dsimp? [qE];exact#[hd,mo L,L.map (·.c),rfl,qE,by unfold mo;rw[aE,aE];rfl,big (by rw[aa];lia),λu cs hu cC iZ=> ?_];have pd:cs.length=L.length:=by rw[cC.length_eq,aa]
 have fU:=ug iZ (cC.nodup_iff.mpr gA.nd);have py:Sm M (um M u (.lst (cs.map wi))):=ce hu;have ll0:LL A.d9 s p aV M L hd (um M u (.lst (cs.map wi))) L:=(LL.init gA uA).sm py;have K1: ∀c,0<=gZ L c:=λc=>by
  unfold gZ;cases e:L.find? (λt=>decide (t.c=c)) with
  | none=>show aY _
  | some t=>show((gA.each t (mW e).1).k7).l0
 have K0: ∀l:fk Int, ∀x∈l.map (gZ L),0<=x:=λl x hx=>by let⟨c,_,rfl⟩:=af.mp hx;show K1 c
 have acn:kx (cs.map (gZ L)) <=Λ:=by rw[xq (cC.map (gZ L)),Gw gA.nd];show hΛ
 have hΛ0:0<=Λ:=by have:=nN (K0 cs) 0;lia
 have e0Λ:0<=E'+Λ:= ∅;have Vw: ∀i:Nat,i<=13 ->0<=(i:Int)*(E'+Λ) /\ (i:Int)*(E'+Λ) <=13*(E'+Λ):=λi hi=>#[bV ∅ e0Λ,aS ∅ e0Λ]
 have Vu: ∀i:Nat,((i+1:Nat):Int)*(E'+Λ)=i*(E'+Λ)+(E'+Λ):=λi=>by push_cast;rw[eR,eQ]
 have sA: ∀ {c:Int},c∈cs ->c∈L.map (·.c):=λh=>cC.mem_iff.mp h;have Hi: ∀ {c:Int},c∈L.map (·.c) -> ∃j,cs[j]? =some c:=λh=>cA.mp (cC.mem_iff.mpr h);dsimp? [au,aa,KA];exact#[(cs.length:Int) - 1, -1, -1,rfl,#[⋯,⋯, ∅,⋯],?_];rw[xy];exact gx (λi ρ M'=>im λ(o4 o5:fG W) (L':fk fO)=>fZ (ρ= [some (wi p),some (wi s),some (wr hd),some (wr u),o4,o5]) (M' u=some (.lst (cs.map wi))) (LL A.d9 s p aV M L hd M' L') (∀t∈L', ∀j:Nat,cs[j]? =some t.c ->(j+i<cs.length ->qM s Z E' EP t) /\ (cs.length<=j+i ->o9 s Z (E'+i*(E'+Λ)) (E'+i*(E'+Λ)) t.b /\ pj s (EP+i*(E'+Λ)) (EP+i*(E'+Λ)) t.Q /\ ∀v∈L',t.c<v.c ->lL s v.c v.len t.b))) #[none,none,L,rfl,au,ll0,λt ht j hj=>#[λ_=>mJ t ht,λh=>by have:=(aj.mp hj).1;lia]] (λ_ _ _ _ _=>trivial) ?_ ?_;rintro i x ρ M' hx ⟨o4,o5,L',rfl,sB,ll,NC⟩ N hN;let⟨hi,rfl⟩:=step_at hx;let⟨j0,IX⟩: ∃j0:Nat,(j0:Int)=(cs.length:Int) - 1+(i:Int)* -1:=#[cs.length - 1 - i, ∅]
 rw[<- IX];have hj1:j0+i+1=cs.length:= ∅;let⟨c0,uJ⟩: ∃c0,cs[j0]? =some c0:=#[_,ae ∅]
 have HF:lG (cs.map wi) (some ((j0:Int)+1)) none=(cs.drop (j0+1)).map wi:=by rw[show(j0:Int)+1=((j0+1:Nat):Int) by push_cast;rfl,yG,List.map_drop]
 let⟨u0,hu0,Uq⟩:=ll.get (sA (ar uJ));have QD:=(NC u0 hu0 j0 (by rw[Uq];show uJ)).1 ∅;have Ni:=Vw i ∅;have Ni1:=Vu i;dsimp? [sB];intro v hv;rw[HF];dsimp? [];have YM:u≠v:=cY sB hv;have Mb:Sm M' (um M' v (.lst ((cs.drop (j0+1)).map wi))):=ce hv;exact gx (λk ρ M2=>im λ(o5:fG W) (L1:fk fO) (uu:fO)=>nH (ρ= [some (wi p),some (wi s),some (wr hd),some (wr u),some (wi j0),o5]) (M2 u=some (.lst (cs.map wi))) (M2 v=some (.lst ((cs.drop (j0+1)).map wi))) (LL A.d9 s p aV M L hd M2 L1) (uu∈L1) (uu.c=c0) (∀t∈L1,t.c≠c0 ->t∈L') (j8 (∀t∈L',t.c≠c0 ->t∈L1) (∀ (q:Nat) d,q<k ->(cs.drop (j0+1))[q]? =some d ->lL s d (gZ L d) uu.b) (∀ (q:Nat) d,k<=q ->(cs.drop (j0+1))[q]? =some d ->LG s d (E'+kx (((cs.drop (j0+1)).take k).map (gZ L))+gZ L d) uu.b) (o9 s Z (E'+i*(E'+Λ)+(E'+Λ)) (E'+i*(E'+Λ)+(E'+Λ)) uu.b) (pj s (EP+i*(E'+Λ)+(E'+Λ)) (EP+i*(E'+Λ)+(E'+Λ)) uu.Q))) #[_,L',u0,rfl,by rw[aJ YM];show sB,au,ll.sm Mb,hu0,Uq,λt ht _=>ht,λt ht _=>ht,λq d h=>absurd h (Nat.not_lt_zero q),λq d _ mq x hx cD=> ?_,QD.bx.up ∅ ∅,QD.bp.up ∅ ∅] ?_ ?_ ?_;have h1:=QD.bx.1 x cD;have h2:=K1 d;change -(E'+0+gZ L d) <=_ /\ _<=E'+0+gZ L d;lia;rintro k ρ M2 _ ⟨o5,L1,uu,rfl,h1,h2,_⟩;show h2;rintro k x ρ M2 hx ⟨o5,L1,uu,rfl,h1,h2,yZ,MY,Ro,Rp,Nr,oE,tO,Qq,Xb⟩ N2 Qt;let⟨d,UV,rfl⟩:=oy hx;have Rw:cs[j0+1+k]? =some d:=by rw[d5] at UV;show UV
 have acz:=(aj.mp Rw).1;have DJ:c0<d:=jf fU uJ Rw ∅;let⟨t,qB,Ao⟩:=yZ.get (sA (ar Rw));have Zt:=Rp t qB ∅;have Us:=(NC t Zt (j0+1+k) (by rw[Ao];show Rw)).2 ∅;have su:=yZ.held.each uu MY;have st:=yZ.held.each t qB;have Nv:=yZ.held.uX;have Ht:iV (cs.map wi) (j0:Int)=some (wi c0):=fK (by rw[az,uJ];rfl);have Up:fX (mo L1) (.inl c0)=some (wr uu.o):=by rw[<- Ro];show ze yZ.held.nd MY
 have Uo:fX (mo L1) (.inl d)=some (wr t.o):=by rw[<- Ao];show ze yZ.held.nd qB
 have tln:t.len=gZ L d:=by rw[<- Ao];show yZ.gZ gA.nd qB
 have hS:=nN (K0 (cs.drop (j0+1))) (k+1);have hSk:kx (((cs.drop (j0+1)).take (k+1)).map (gZ L))=kx (((cs.drop (j0+1)).take k).map (gZ L))+gZ L d:=by rw[bC,UV];change kx (((cs.drop (j0+1)).take k++ [d]).map (gZ L))=_;rw[aO];show Fz _ _
 have hS0:=nN (K0 (cs.drop (j0+1))) k;rw[<- List.map_take] at hS hS0;have hSd:kx ((cs.drop (j0+1)).map (gZ L)) <=Λ:=by have:=FA (K0 cs) (j0+1);rw[<- List.map_drop] at this;lia
 have acx:=K1 d;generalize hSS:kx (((cs.drop (j0+1)).take k).map (gZ L))=Sk at hSk hS0 tO;have hQ1:uu.Q.length<=100:=by have:=(yZ.uA uu MY).len su.row.nj;lia
 have hQ2:t.Q.length<=100:=by have:=(yZ.uA t qB).len st.row.nj;lia
 dsimp? [h1,Ht,Nv,Up,Uo];exact#[uu.o,uu.ol,uu.op,t.o,t.ds,t.ol,t.op,p,s,t.c,t.len,t.foot,uu.b,t.b,uu.Q,t.Q,EP+i*(E'+Λ)+(E'+Λ),EP+i*(E'+Λ)+(E'+Λ),Z+8*(E'+i*(E'+Λ)+(E'+Λ)+1),Z+8*(E'+i*(E'+Λ)+(E'+Λ)+1),rfl, .inr #[_,_,_,_,su.ins],st.ins,hp,s0,s8, ∅,st.k7,su.row,st.row,wx yZ.held MY qB ∅,Qq.wt s0 s8 z0 (aY _) (aY _) ∅,Us.1.wt s0 s8 z0 ∅ ∅ ∅, ∅, ∅, ∅, ∅,Xb.wt su.row.nj (aY _) (aY _),Us.2.1.wt st.row.nj ∅ ∅, ∅, ∅, ∅, ∅, ∅,λM3 c1 P2 js mf ec ep ej tQ mN ew Kq Ld OB UP Hg y3 IV=> ?_];let⟨ms,pc,Nc,y3,ED⟩:=y3;have ll2:=yZ.cut MY qB ∅ mf ec ep mN Kq Ld Hg;rw[Ao] at tQ mN pc;have U0:=tO k d (ap _) UV;have hj:=zo (f:=d) (bl:= -(E'+Sk+gZ L d)) (bh:=E'+Sk+gZ L d) st.k7.l0 Nc (pc.nodup_iff.mpr (l5 su.row.ga.1 s0)) (λm hm=>by let⟨x,hx,e1⟩:=af.mp (pc.mem_iff.mp hm);have:=U0 x ⇑((ay.mp hx).2) (by have:=d8 su.row.ga (ay.mp hx).1;lia);lia) ED;have IW: ∀j∈js, -(E'+Sk+gZ L d) <=j.1 /\ j.1<=E'+Sk:=λj jK=>by have:=hj j jK;lia
 have nl: ∀ {y:gY} {l:fk W},M2 y=some (.lst l) ->M3 y=some (.lst l):=λe=>Kq _ _ e λhx=>by let⟨kvs,e2⟩:=su.row.mem hx;rw[e] at e2;cases e2
 have ik:uu.c∈L1.map (·.c):=af.mpr #[uu,MY,rfl];exact Qt _ _ #[_,iL L1 (uu.EL c1 P2),uu.EL c1 P2,rfl,nl h1,nl h2,ll2,nR ik,Ro,λt' o_ ne=> ?_,λt' o_ ne=>lO (Nr t' o_ ne) (λz=>ne (z.trans Ro)),λq d' hq mq x hx cD=> ?_,λq d' hq mq=> ?_,Qq.cut Us.1 ec IW ej ∅ ∅ ∅ ∅,Xb.cut Us.2.1 ep IW ∅ ∅ ∅ ∅];obtain e | ⟨e,_⟩:=fN o_;show absurd (by rw[e];show Ro) ne;show Rp t' e ne;obtain z | z:=bU q k;have h3:d'<d:=jf fU (by rw[d5] at mq;show mq) Rw ∅;have pT:look c1 x≠0:=cD;rw[mN x ∅] at pT;show oE q d' z mq x hx pT;have:q=k:= ∅;subst this;rw[UV] at mq;cases mq;rw[<- tln];show tQ x hx cD;have UX:cs[j0+1+q]? =some d':=by rw[d5] at mq;show mq
 have h3:d<d':=jf fU Rw UX ∅;let⟨v',sv,hvc⟩:=ll.get (sA (ar UX));have h4:=Us.2.2 v' sv ∅;rw[hvc,show v'.len=gZ L d' by rw[<- hvc];show ll.gZ gA.nd sv] at h4;have:=K1 d';rw[hSk];show(tO q d' ∅ mq).cut h4 ec IW ej ∅ ∅ ∅;rintro ρ M2 ⟨o5,L1,uu,rfl,h1,h2,yZ,MY,Ro,Rp,Nr,oE,_,Qq,Xb⟩;rw[aa] at oE;exact hN _ _ #[_,_,L1,rfl,h1,yZ,λt ht j hj=>#[λh=> ?_,λh=> ?_]];have ne:t.c≠c0:=λe=>by rw[e] at hj;have:=jf fU hj uJ ∅;lia
 show(NC t (Rp t ht ne) j hj).1 ∅;rw[Ni1];by_cases e:t.c=c0;have:t=uu:=iD yZ.held.nd ht MY (e.trans Ro.symm);subst this;exact#[Qq.up ∅ ∅,Xb.up ∅ ∅,λv' sv UF=> ?_];let⟨j',jK⟩:=Hi (show v'.c∈L.map (·.c) by rw[<- yZ.key];show af.mpr #[v',sv,rfl]);have h4:=DD fU uJ jK ∅;have h5:=(aj.mp jK).1;rw[yZ.gZ gA.nd sv];show oE (j' - (j0+1)) v'.c (by rw[List.length_drop];lia) (by rw[d5,show j0+1+(j' - (j0+1))=j' by lia];show jK);have IW:j≠j0:=λz=>e (by rw[z,uJ] at hj;cases hj;rfl);have h4:=(NC t (Rp t ht e) j hj).2 ∅;exact#[h4.1.up ∅ ∅,h4.2.1.up ∅ ∅,λv' sv UF=> ?_];have qe:=jf fU uJ hj ∅;show h4.2.2 v' (Rp v' sv ∅) UF;rintro ρ M' ⟨o4,o5,L',rfl,sB,ll,NC⟩;rw[xm,show((cs.length:Int) - 1 - -1).toNat=cs.length by lia] at NC;exact no (k M' L' ll (λt ht v hv h=> ?_) λt ht=> ?_);let⟨j,hj⟩:=Hi (show t.c∈L.map (·.c) by rw[<- ll.key];show af.mpr #[t,ht,rfl]);show((NC t ht j hj).2 ∅).2.2 v hv h;let⟨j,hj⟩:=Hi (show t.c∈L.map (·.c) by rw[<- ll.key];show af.mpr #[t,ht,rfl]);have:=(NC t ht j hj).2 ∅;rw[pd] at this;show#[this.1,this.2.1]
def Gh {K:Ug}(T:jT K mg A):dR P w K mg base iq 6 A.Cj A.CC ["p","stride","patterns"] (jJ K O8):=by
 have Je:=a8 T.Stair.cl;have Y1:=a8 T.n_Stair_lamps;have YZ:=a8 T.n_Stair_parts;exists T.built.fn,["p","stride","patterns","held","which","pattern","firsts","stairs"],(aD (b8 (i:=3) nd rfl (by trivial) ju) (aD (fD bv rfl (F5 rfl (by rfl) T.qm (ab (pv 2) aw)) (gH (n:=2) rfl (ci (bf (i:=4) nd rfl (by trivial)) (ci (bf (i:=5) nd rfl (by trivial)) fT))) (aD (gl (aM T.take_in (zN T) hr (ab (pv 0) (ab (pv 1) (ab (pv 3) (ab (ke T.Row (rX T) (hr.mono ⋯) (by rfl) (ab (eV (jE rfl) (by rfl) T.AI Boot.«dict» (ab (pv 5) aw)) (ab (nX (pv 4) (nX aF aF)) aw))) aw)))))) (aK (gl (aM T.lie_low (zP T) hr (ab (pv 0) (ab (pv 1) (ab (pv 3) aw)))))))) (aD (b8 (i:=6) nd rfl (by trivial) (br (gv rfl) (by rfl) T.jF Boot.«sorted» (ab (pv 3) aw))) (aD (b8 (i:=7) nd rfl (by trivial) (eV lJ (by rfl) T.ja Boot.«tuple» (ab (fb rfl (dD.of (sc:=bn qQ) (N:= ["p","stride","patterns","held","which","pattern","firsts","stairs"]) (own:= ["first"]) (fr:= [0,3]) (N':= ["first","p","held"])) (eU (pv 6)) (λ_ _ _ _=>(bf (i:=0) (by change(["first","p","held"]:fk Str).Nodup;decide+kernel) rfl (by trivial))) dZ (λ_ _ _ _=>fB) (λ_ _ _ _=>(aM T.tidy (BJ T) hr (ab (pv 1) (ab (uv (by rfl) T.hW rfl (BI (K:=K) rfl (f9 (f' hr) (pv 2) (pv 0) (λ_ _=>rfl)) rfl)) aw))))) aw))) (aK (bF (iC (ab (pv 7) (ab (fb rfl (dD.of (sc:=bn qQ) (N:= ["p","stride","patterns","held","which","pattern","firsts","stairs"]) (own:= ["first"]) (fr:= [0,3]) (N':= ["first","p","held"])) (eU (pv 6)) (λ_ _ _ _=>(bf (i:=0) (by change(["first","p","held"]:fk Str).Nodup;decide+kernel) rfl (by trivial))) dZ (λ_ _ _ _=>fB) (λ_ _ _ _=>(aM T.told_parts (mF T) hr (ab (pv 1) (ab (BI (K:=K) rfl (f9 (f' hr) (pv 2) (pv 0) (λ_ _=>rfl)) rfl) (ab aF aw)))))) aw)))))))))
 rintro vs M q ⟨u,p,s,Z,w',aV,rfl,hu,PP,k⟩;have hp:=PP.hp;have p0:0<p:= ∅;have s0:=PP.s0;have s8:=PP.s8;have hp8:=PP.len;have ack:=PP.zd;have Rl:=PP.z1;have An:=PP.z0;dsimp? [];intro hd W';have nuh:u≠hd:=cY hu W';dsimp? [aJ nuh,hu,GZ];rw[show MO.dK []=MO.dK (mo []) from rfl];exact gx (λi ρ M'=>kr λ(o4 o5:fG W) (L:fk fO) (bs:fk Pt)=>fZ (ρ= [some (wi p),some (wi s),some (wr u),some (wr hd),o4,o5,none,none]) (Xx A.d9 s p Z w' aV i M' hd L bs) (Sm M M') (∀t∈L, ∀x∈t.adr,M x=none)) #[none,none,[],[],rfl,#[#[au,(λt h=>by cases h),List.nodup_nil,List.Pairwise.nil,(λt h=>by cases h)],(λt h=>by cases h),(λt h=>by cases h),(λt h=>by cases h),#[rfl,λ_ J _ i hi=>absurd hi (Nat.not_lt_zero i),(λt h=>by cases h)],(λ_ t h=>by cases h),(λt h=>by cases h),(λt h=>by cases h),ap _],ce W',(λt h=>by cases h)] ?_ ?_ ?_;rintro i ρ M' _ ⟨o4,o5,L,bs,rfl,_,sm,_⟩;show sm _ _ hu;rintro i x ρ M' hx ⟨o4,o5,L,bs,rfl,B,sm,frL⟩ N hN;let⟨y,hy,rfl⟩:=Cn hx;let⟨st,f8,rfl⟩:=jy hy;let⟨ml,Qq⟩:=PP.pat st (ar f8);have ND:=ff ml;have DG:=(aj.mp f8).1;have Rq:=(Qq.wt s0 s8 An (aY _) (aY _) ∅).len ND ∅;have qE:=B.held.uX;dsimp? [];rw[nJ];dsimp? [];exact#[FY st,by rw[vR],by rw[FY,aa];lia,λe1 Qm=> ?_];rw[wy st ND.1];dsimp? [w_];intro q1 PV q2 KN;have uy:e1≠q1:=cY au PV;have Kg:e1≠q2:=cY (by rw[aJ uy];show au) KN;have Gr:q1≠q2:=cY au KN;have f1:M' q1=none:=by rw[aJ (aW uy)] at PV;show PV
 have f2:M' q2=none:=by rw[aJ (aW Gr),aJ (aW Kg)] at KN;show KN
 exact#[.inl 0,rfl,by rw[aJ Gr];show au, .inl i,rfl,?_];intro x dx gN Qn UU;have MF:e1≠x:=cY (by rw[aJ uy,aJ Kg,aJ uy];show au) gN;have Iz:q1≠x:=cY au gN;have TU:q2≠x:=cY (by rw[aJ (aW Gr)];show au) gN;have f3:M' x=none:=by rw[aJ (aW Iz),aJ (aW TU),aJ (aW Iz),aJ (aW MF)] at gN;show gN
 exact#[x,dx,wr e1,wr q1,rfl,au,rfl,?_];rw[ub];have zC:cZ p (um (um (um (um (um M' e1 (.dK (fY st))) q1 (.dK [])) q2 (.dK [(.inl 0,W.v (V.int 1))])) q1 (.dK [(.inl (i:Int),wr q2)])) x (.ins A.eC dx [("lamps",wr e1),("parts",wr q1)])) e1 q1 st [((i:Int),q2,[(0,1)])]:=#[by rw[aJ MF,aJ uy,aJ Kg,aJ uy];show au,by rw[aJ Iz];show au,(λt ht=>by rw[ah.mp ht,aJ TU,aJ (aW Gr)];show au),ND,(λt ht=>by rw[ah.mp ht];show#[by simp,λz hz=>by rw[ah.mp hz];show#[⋯,by change(1:Int) <p;lia]]),by simp,by simp[b7,uy,Kg,Gr]]
 have KD:um (um (um (um (um M' e1 (.dK (fY st))) q1 (.dK [])) q2 (.dK [(.inl 0,W.v (V.int 1))])) q1 (.dK [(.inl (i:Int),wr q2)])) x (.ins A.eC dx [("lamps",wr e1),("parts",wr q1)]) x=some (.ins A.eC dx [("lamps",wr e1),("parts",wr q1)]):=au;have py:Sm M' (um (um (um (um (um M' e1 (.dK (fY st))) q1 (.dK [])) q2 (.dK [(.inl 0,W.v (V.int 1))])) q1 (.dK [(.inl (i:Int),wr q2)])) x (.ins A.eC dx [("lamps",wr e1),("parts",wr q1)])):=λd o e=>by rw[aJ (cY e f3),aJ (cY e f1),aJ (cY e f2),aJ (cY e f1),aJ (cY e Qm)];show e
 generalize um (um (um (um (um M' e1 (.dK (fY st))) q1 (.dK [])) q2 (.dK [(.inl 0,W.v (V.int 1))])) q1 (.dK [(.inl (i:Int),wr q2)])) x (.ins A.eC dx [("lamps",wr e1),("parts",wr q1)])=M2 at zC KD py ⊢;have Xk: ∀y∈b7 e1 q1 [((i:Int),q2,[((0:Int),(1:Int))])],M' y=none:=λy hy=>by simp![b7,ax,aI,dU,List.not_mem_nil,or_false] at hy;obtain rfl | rfl | rfl:=hy;show Qm;show f1;show f2
 have frN: ∀ {y},M' y=none ->M y=none:=λ{y} e=>by
  cases e2:M y with
  | none=>rfl
  | some o=>rw[sm _ _ e2] at e;cases e
 let⟨mI,Qe⟩: ∃mI:Int,mI=(L.length:Int)*w':=#[_,rfl]
 have acu:=B.len;have pc:s≠0 ->(L.length:Int) <=s:=λz=>wF B.held ∅;have acv:mI<=68:=by rw[Qe];show MG PP pc
 have ZP:0<=mI:=by rw[Qe];show bV ∅ ∅
 have mJ:=B.mJ PP;rw[<- Qe] at mJ;have Hh:=Aa s i ∅;have l2:(aV.take (i+1)).length=i+1:=by rw[bg];lia
 have acr:mI*s<=68*i:=by
  rw[Qe,eB];have h1:(w':Int)*s<=68:=by rw[be];show PP.sw
  have h2:=a7 h1 (show 0<=(L.length:Int) by lia);have h3:=aS (show(L.length:Int) <=i by lia) (show(0:Int) <=68 by decide);lia
 have acs:0<=mI*s:=bV ZP s0;have eK:2*(2*mI)*s=4*(mI*s):=by rw[<- eB];show eB _ _ _
 have uH:=B.held;have kW:Tin A.eC A.d9 s p M2 hd x dx e1 q1 (aV.take (i+1)) st [((i:Int),q2,[(0,1)])] L:=by exact#[KD,#[py _ _ uH.uX,λt ht=>(uH.each t ht).keep (fQ.sm py []) (λh=>by cases h) (λ_ _ h=>by cases h),uH.nd,uH.pe,uH.uI],zC,λt ht y hy Uk=> ?_,λhy=> ?_,oX.first p0 f8,λt ht=>(B.md t ht).more DG];let⟨kvs,e⟩:=(uH.each t ht).row.mem Uk;rw[Xk y hy] at e;cases e;have:=Xk hd hy;rw[qE] at this;cases this
 have bp0:pj s (vW s i) (vW s i) [((i:Int),q2,[((0:Int),(1:Int))])]:=λw y hy=>by
  by_cases z:w=(i:Int)
  have e:pf [((i:Int),q2,[((0:Int),(1:Int))])] w= [(0,1)]:=by rw[z];simp[pf]
  rw[e] at hy;have:y=0:=ao λhn=>hy (fH λq hq e=>hn (by rw[ah.mp hq] at e;show e.symm));lia;have:pf [((i:Int),q2,[((0:Int),(1:Int))])] w= []:=kD λhm=>by rw[List.map_singleton,ah] at hm;show z hm
  rw[this] at hy;show absurd rfl hy
 exact#[hd,x,dx,e1,q1,p,s,Z,2*mI,w',vW s i,aV.take (i+1),st,[((i:Int),q2,[(0,1)])],L,rfl,hp,s0,s8,kW,An, ∅, ∅,Hh.1,λz=> ?_, ∅, ∅, ∅, ∅,Qq,bp0,mJ,λM3 L1 oF Za Xl OG WF Lf Kp Kz=> ?_];have e:=PP.We z;rw[e] at Qe;show#[by rw[Qe];simp,by rw[e];rfl];rw[eK] at Lf;have hs9:(s+1)*(w'+4*(mI*s)+2*(2*mI)) <=9*(332+272*i):=by have h1:=aS (show s+1<=9 by lia) (show 0<=w'+4*(mI*s)+2*(2*mI) by lia);lia
 have aco:0<=(s+1)*(w'+4*(mI*s)+2*(2*mI)):=bV ∅ ∅;have Ax: ∀t∈L1,Wt 1000000 t.b /\ t.len<3000000:=λt ht=>#[((Lf t ht).bx.wt s0 s8 An (aY _) (aY _) ∅).up ∅,by have:=(Lf t ht).len;lia]
 let⟨bs1,vk⟩:=Ef PP B f8 oF Ax WF Kp Kz;have ZO:s≠0 ->(L1.length:Int) <=s:=λz=>wF oF ∅;have Nb: ∀pt∈aV.take (i+1),fu s p (L1.map (·.b)) (look pt):=λpt pR=>by exact OG _ ?_;rw[bC,f8] at pR;obtain h | h:=aA.mp pR;show(B.sp pt h).trans λb hb=>fu.of (aA.mpr (.inl hb));rw[ah.mp h];show fu.of (aA.mpr (.inr (ah.mpr rfl)))
 let⟨nI,W4⟩: ∃nI:Int,nI=(L1.length:Int)*w':=#[_,rfl]
 have acq:nI<=68:=by rw[W4];show MG PP ZO
 have hn0:0<=nI:=by rw[W4];show bV ∅ ∅
 have hΛ:kx (L1.map (·.len)) <=2*nI:=by
  by_cases z:s=0;have:L1.map (·.len)=List.replicate L1.length 0:=List.eq_replicate_iff.mpr #[by simp,λb hb=>by let⟨t,ht,rfl⟩:=af.mp hb;show((oF.each t ht).k7).s0 z];rw[this];have: ∀n:Nat,kx (List.replicate n 0)=0:=λn=>by induction n with | zero=>rfl | succ n ih=>rw[List.replicate_succ];change 0+kx _=0;rw[ih];rfl
  rw[this];lia;have:=Gy (D:=1000000) hp ∅ oF (λt ht=>(Ax t ht).1) (λt ht=>(Ax t ht).2) vk (λb hb=>Nb b (vk.of b hb)) (λb hb y hy=>(PP.pat b (List.mem_of_mem_take (vk.of b hb))).2.1 y hy);rw[show((2*L1.length*w':Nat):Int)=2*nI by rw[W4];push_cast;rw[eB]] at this;show this
 dsimp? [];exact#[hd,p,s,Z,2*(w'+4*(mI*s)),vW s i+(s+1)*(w'+4*(mI*s)+2*(2*mI)),2*nI,aV.take (i+1),L1,rfl,hp,s0,s8,oF,WF,Lf,An, ∅, ∅, ∅, ∅,hΛ, ∅, ∅,λM4 L2 ll Py bx2=> ?_];have Nn:L2.length=L1.length:=by have:=congrArg List.length ll.key;rwa [aa,aa] at this
 have hgr:(L1.length:Int)*(2*(w'+4*(mI*s))+2*nI) <=(i+1)*(256+544*i):=by have h1:=aS (show(L1.length:Int) <=i+1 by lia) (show 0<=2*(w'+4*(mI*s))+2*nI by lia);have h2:=a7 (show 2*(w'+4*(mI*s))+2*nI<=256+544*i by lia) (show 0<=(i:Int)+1 by lia);lia
 have acB:0<=(L1.length:Int)*(2*(w'+4*(mI*s))+2*nI):=bV ∅ ∅;have acA:(L1.length:Int)*(2*(w'+4*(mI*s))+2*nI) <=8*(256+544*7):=by have h1:=Int.mul_le_mul (show(L1.length:Int) <=8 by lia) (show 2*(w'+4*(mI*s))+2*nI<=256+544*7 by lia) ∅ ⋯;show h1
 have ekp:vW s i+((s+1)*(w'+4*(mI*s)+2*(2*mI))+(L1.length:Int)*(2*(w'+4*(mI*s))+2*nI)) <=vW s (i+1):=by
  by_cases z:s=0;have ew:=PP.We z;have em:mI=0:=by rw[Qe,ew];simp
  have en:nI=0:=by rw[W4,ew];simp
  rw[vW,vW,am z,am z,em,en,ew];simp;rw[vW,vW,ai z,ai z,Ua];lia
 have yX:Sm M M3:=Bj (sm.trans py) Za λy hy=>by obtain e | e:=ax.mp hy;rw[e];show W';obtain e | e:=aA.mp e;let⟨t,ht,e⟩:=List.mem_flatMap.mp e;show frL t ht y e;show frN (Xk y e)
 have Hz: ∀t∈L1, ∀y∈t.adr,M y=none:=λt ht y hy=>by
  obtain e | e:=Xl t ht y hy;obtain e | e:=ax.mp e;rw[e];show W';obtain e | e:=aA.mp e;let⟨t,ht,e⟩:=List.mem_flatMap.mp e;show frL t ht y e;show frN (Xk y e);cases e2:M y with
  | none=>rfl
  | some o=>rw[(sm.trans py) _ _ e2] at e;cases e
 have SW:Sm M M4:=Bj yX ll.kp λy hy=>by let⟨t,ht,e⟩:=List.mem_flatMap.mp hy;show Hz t ht y e
 exact hN _ _ #[_,_,L2,bs1,rfl,#[ll.held,ll.uA,Py,λpt pR=>ll.sp _ (Nb pt pR),#[by rw[vk.len,Nn],vk.ind,vk.of],λz t ht=>(bx2 t ht).1.2 z,λt ht=>(bx2 t ht).2.up ∅ ∅,λt ht=>#[((bx2 t ht).1.wt s0 s8 An (aY _) (aY _) ∅).up ∅,?_],by rw[Nn];lia],SW,λt ht y hy=> ?_];let⟨v,hv,e⟩:=af.mp (show t.c∈L1.map (·.c) by rw[<- ll.key];show af.mpr #[t,ht,rfl]);rw[ll.ln t ht v hv e.symm];show(Ax v hv).2;obtain e | e:=ll.fr t ht y hy;let⟨v,hv,e⟩:=List.mem_flatMap.mp e;show Hz v hv y e;cases e2:M y with
 | none=>rfl
 | some o=>rw[yX _ _ e2] at e;cases e
 rintro ρ M' ⟨o4,o5,L,bs,rfl,B,sm,frL⟩;have QF:(gi (aV.map bN)).length=aV.length:=by unfold gi;rw[aa,bO,aa]
 rw[QF] at B;let⟨Ls,o⟩:=rS L B.held.nd;have _A:Ls.length=L.length:=o.perm.length_eq;have hL8:=B.len;have qE:=B.held.uX;have fS1: ∀ (l q:gY) (f g e:W),[(("lamps" :Str),wr l),(("parts" :Str),wr q),(("first" :Str),f),(("length" :Str),g),(("foot" :Str),e)].lookup ("lamps" :Str)=some (wr l):=λ_ _ _ _ _=>rfl;have fS2: ∀ (l q:gY) (f g e:W),[(("lamps" :Str),wr l),(("parts" :Str),wr q),(("first" :Str),f),(("length" :Str),g),(("foot" :Str),e)].lookup ("parts" :Str)=some (wr q):=λ_ _ _ _ _=>rfl;dsimp? [qE];exact#[hd,mo L,L.map (·.c),rfl,qE,by unfold mo;rw[aE,aE];rfl,big (by rw[aa];lia),λv cs hv cC iZ=> ?_];have ecs:cs=Ls.map (·.c):=Kh iZ (cG.mpr (o.vI.imp λh=> ∅)) (cC.trans (o.perm.map (·.c)).symm);have eW1:cs.map wi=Ls.map λt=>wi t.c:=by rw[ecs,aE];rfl
 have Mb:Sm M' (um M' v (.lst (cs.map wi))):=ce hv;have Nz:um M' v (.lst (cs.map wi)) v=some (.lst (Ls.map λt=>wi t.c)):=by rw[au,eW1]
 generalize um M' v (.lst (cs.map wi))=M1 at Mb Nz ⊢;have mem: ∀ {t},t∈Ls ->t∈L:=λh=>o.perm.mem_iff.mp h;have at1: ∀ {M3},Sm M1 M3 -> ∀t∈Ls,M3 hd=some (.dK (mo L)) /\ fX (mo L) (.inl t.c)=some (wr t.o) /\ M3 t.o=some (.ins A.d9 t.ds [("lamps",wr t.ol),("parts",wr t.op),("first",wi t.c),("length",wi t.len),("foot",wi t.foot)]) /\ cZ p M3 t.ol t.op t.b t.Q:=λ{M3} yX t ht=>by have st:=B.held.each t (mem ht);show#[yX _ _ (Mb _ _ qE),ze B.held.nd (mem ht),yX _ _ (Mb _ _ st.ins),st.row.keep (fQ.sm (Mb.trans yX) []) (λ_ _ h=>by cases h)]
 dsimp? [Nz];exact HR (λt:fO=>bN (kM p t.b)) (big ∅) (λM3 s3=>s3 _ _ Nz) ?_ λc1 M2 EF Bk _y=> ?_;intro t ht M3 N s3 hN;let⟨g1,g2,g3,g4⟩:=at1 s3 t ht;have g5:=g4.lam;dsimp? [g1,g2,g3,Je,Y1,fS1,g5];intro y hy;have Ap:(fY t.b).map (λkv=>W.tup [gq kv.1,kv.2])=t.b.map dh:=by unfold fY;rw[aE];rfl
 rw[Ap];have Hr:=(B.fin t (mem ht)).1.len g4.ga ⋯;exact#[y,p,t.b,rfl,au,p0,HB, ∅,?_];dsimp? [];show hN _ (ce hy);have Qv:=Bk _ _ Nz;have Hh:=Aa s aV.length hp8;dsimp? [_y,Qv];exact AC (by rw[aa];show big ∅) λr hr=> ?_;have nrv:v≠r:=cY Qv hr;have U8: ∀ {y o},M2 y=some o ->y≠r:=λe=>cY e hr;exact#[λi ys M3=> ∃as:fk gY,j8 (ys=as.map wr) (as.length=i) (∀ (k:Nat) a,as[k]? =some a ->a≠r /\ cO λ(t:fO) (tl:fk h_)=>d_ (Ls[k]? =some t) (tl.Perm (gd p 1 t.Q)) (M3 a=some (.lst (tl.map jv)))) (M3 r=some (.lst ys)) (Sm M2 M3),#[[],rfl,rfl,(λk a h=>by simp at h),au,ce hr],?_,?_,?_];rintro i ys M3 hi ⟨as,rfl,hl,_,h3,s3⟩;show#[s3 _ _ Qv,h3,by rw[aa];lia];rintro i x ys M3 hx ⟨as,rfl,hl,has,h3,s3⟩ N hN;let⟨t,ht,rfl⟩: ∃t,Ls[i]? =some t /\ x=wi t.c:=by
  rw[az] at hx;cases e:Ls[i]? with
  | none=>rw[e] at hx;cases hx
  | some q=>rw[e] at hx;cases hx;show#[q,rfl,rfl]
 have B8:=ar ht;let⟨g1,g2,g3,g4⟩:=at1 (Bk.trans s3) t B8;have Xz:=(B.bp t (mem B8)).wt g4.nj (aY _) (aY _);have _q:t.Q.length<=8:=by have:=(B.md t (mem B8)).len g4.nj;rw[bg] at this;lia
 have dj: ∀z∈t.Q,z.2.2.length<=400000:=λz hz=>by have:=(Xz z hz).len (g4.gp z hz) Hh.1;lia
 simp? [↓fw,g1,g2,g3,Je,YZ,fS2];exact#[t.ol,t.op,p,1,t.b,t.Q,400000,rfl,p0, ∅,⋯,⋯,g4, ∅,dj,⋯,aT (dv _ _q) ⋯,λa M4 tl s4 ha hM4 cC=> ?_];have nar:a≠r:=aW (cY h3 ha);simp? [↓fw];exact#[s4 _ _ h3,hN _ _ #[as++ [a],by rw[aO];rfl,by rw[aR,hl];rfl,λk b hb=> ?_,au,λy o' e=>by rw[aJ (U8 e)];show s4 _ _ (s3 _ _ e)]];rw[List.getElem?_append] at hb;split at hb;let⟨h5,t',E9,h6,h7,h8⟩:=has k b hb;show#[h5,t',E9,h6,h7,by rw[aJ h5];show s4 _ _ h8];rename_i hk;have UO:k=i:=by let⟨q1,_⟩:=aj.mp hb;simp at q1;lia
 subst UO;rw[hl,Nat.sub_self] at hb;cases hb;show#[nar,t,tl,ht,cC,by rw[aJ nar];show hM4];rintro ys M3 ⟨as,rfl,hl,has,h3,s3⟩;rw[aa] at hl;have mJ:=B.mJ PP;have fin:=B.fin;have smM:Sm M M3:=((sm.trans Mb).trans Bk).trans s3;have TY:M r=none:=by
  cases e:M r with
  | none=>rfl
  | some o=>rw[((sm.trans Mb).trans Bk) _ _ e] at hr;cases hr
 have Vc:(gf p Ls).length=L.length:=by unfold gf;rw[aa];show _A
 have fP:=rH ∅ B.held o (λt ht=>(fin t ht).1) λt ht=>(fin t ht).2;have etk:aV.take aV.length=aV:=bQ;exact no ?_;have e7:(Ls.map λt=>bN (kM p t.b))=(gf p Ls).map bN:=by unfold gf;rw[aE];rfl
 rw[e7];exact k M3 r as (gf p Ls) (Ls.map (·.Q)) #[fP,AZ ∅ B.held o (λt ht=>(fin t ht).1) B.low,λpt pR=>oA p0 B.held o (B.sp pt (by rw[etk];show pR)),by rw[aa,Vc,_A],by rw[Vc];show B.len,λk st P hk hP=> ?_,λst f8=> ?_,λz=>by rw[Vc];show wF B.held ∅] smM TY h3 (by rw[hl,Vc,_A]) λk a P ha hP=> ?_;unfold gf at hk;rw[az] at hk hP;cases e:Ls[k]? with
 | none=>rw[e] at hk;cases hk
 | some t=>rw[e] at hk hP;cases hk;cases hP;have B8:=mem (ar e);have row:=(B.held.each t B8).row;have m:=B.md t B8;rw[etk] at m;show#[#[λx=>by rw[gL p0 row.ga];show m.is x,m.key],row.nj,row.gp,B.bp t B8]
 let⟨t,ht,rfl⟩:=af.mp f8;have B8:=mem ht;have row:=(B.held.each t B8).row;have sr:=Bc ∅ row.ga (B.held.each t B8).k7 (fin t B8).1;rw[sr.nO,Vc];exact#[#[λx hx=>(mJ t B8).bx.1 x (by rw[<- gL p0 row.ga];show hx),λz x hx=>(mJ t B8).bx.2 z x (by rw[<- gL p0 row.ga];show hx)],(mJ t B8).len];let⟨_,t,tl,h6,h7,h8⟩:=has k a ha;rw[az,h6] at hP;cases hP;show#[tl,h7,h8]
def zO {K:Ug}(T:jT K mg A):dR P w K mg base iq 6 A.uM A.uZ ["p","stride","stairs","pattern"] (jJ K O3):=by
 exists T.rest_of.fn,["p","stride","stairs","pattern"],(aK (bF (ca dP (aM T.taken (xK T) hr (ab (pv 0) (ab (pv 1) (ab (pv 2) (ab (pv 3) aw))))) aF (λ_ _=>rfl))))
 rintro vs M q ⟨p,s,D,Z,Zm,sts,pat,rfl,hp,s0,s8,fP,ml,wz,z0,d0,d1,Xc,hZ3,hn,k⟩;dsimp? [];exact#[p,s,D,Z,Zm,sts,pat,rfl,hp,s0,s8,fP,ml,wz,z0,d0,d1,Xc,hZ3,hn,λt M' e9 tl P hr wr tk _ sm _ _=> ?_];dsimp? [];show#[M,sm,k e9 P hr wr tk]
def xL {K:Ug}(T:jT K mg A):dR P w K mg base iq 3 A.sD A.sI ["stride","stair"] (jJ K Ts):=by
 exists T.measured.fn,["stride","stair","places","first"],(aD (mZ (i:=2) rfl nd rfl (Or.inl rfl) (dD.of (sc:=bn mY) (N:= ["stride","stair","places","first"]) (own:= ["place","setting"]) (fr:= []) (N':= ["place","setting"])) (jt (pv 1)) (λ_ _ _ _=>(gH (n:=2) rfl (ci (bf (i:=0) (by change(["place","setting"]:fk Str).Nodup;decide+kernel) rfl (by trivial)) (ci (bf (i:=1) (by change(["place","setting"]:fk Str).Nodup;decide+kernel) rfl (by trivial)) fT)))) kj (λ_ _ _ _=>fB) (λ_ _ _ _=>(pv 0)) rfl) (aD (b8 (i:=3) nd rfl (by trivial) (aM T.first_column (gG T) hr (ab (pv 2) (ab (pv 0) aw)))) (aK (bF (iC (ab (pv 3) (ab (ca cj (aM T.heights (kE T) hr (ab (pv 2) (ab (pv 0) (ab (pv 3) aw)))) (gV fR aF) (λ_ _=>rfl)) aw)))))))
 rintro vs M q ⟨st,s,rfl,cD,hl,s0,s1,k⟩;dsimp? [bN];exact gj (λz:Int×Int=>wi z.1) (big ∅) (λ_ _=>trivial) ?_ λt ht=> ?_;intro z hz M3 N s3 hN;dsimp? [dh];show hN;have e1:st.map (λz=>wi z.1)=(df st).map wi:=by unfold df;rw[aE];rfl
 have PY:df st≠ []:=by unfold df;simpa using cD
 have lu:(df st).length<=16000000:=by unfold df;rw[aa];show hl
 rw[e1];dsimp? [];exact#[t,df st,s,rfl,au,lu,s0,s1,λe=>absurd e PY,λ_=> ?_];dsimp? [];exact#[t,df st,s,fE ((df st).map (bE s)),rfl,au,lu,s0,s1,λp ms hp h1 h2=> ?_];have hf:gE ((df st).map (bE s)) (fE ((df st).map (bE s))):=fA ⇑PY;have hh:kq s (fE ((df st).map (bE s))) (df st)≠ []:=by let⟨x,hx,e⟩:=af.mp hf.1;have:hI s x∈kq s (fE ((df st).map (bE s))) (df st):=af.mpr #[x,ay.mpr #[hx, ⇑e],rfl];intro e2;rw[e2] at this;cases this
 have W5:ms≠ []:=λe=>by rw[e] at h1;show hh (List.Perm.nil_eq h1).symm
 have K2:iV (ms.map wi) (-1)=some (wi (ms.getLastD 0)):=jm W5;have Nm:kQ (kq s (fE ((df st).map (bE s))) (df st)) (ms.getLastD 0):=by let⟨a,b⟩:=lV h2 W5;show#[h1.mem_iff.mp a,λx hx=>b x (h1.mem_iff.mpr hx)]
 have e3:ms.getLastD 0=dN s st:=kQ.uniq Nm (jN hh);rw[e3] at K2;dsimp? [au,K2];show#[M,(ce ht).trans (ce hp),k]
def Pb {K:Ug}(T:jT K mg A):dR P w K mg base iq 4 A.NH A.NM ["stride","stairs","pattern"] (jJ K YC):=by
 exists T.low.fn,["stride","stairs","pattern","lit","stair","first","length"],(aD (mZ (i:=3) rfl nd rfl (Or.inl rfl) (dD.of (sc:=bn Bp) (N:= ["stride","stairs","pattern","lit","stair","first","length"]) (own:= ["place","setting"]) (fr:= []) (N':= ["place","setting"])) (jt (pv 2)) (λ_ _ _ _=>(gH (n:=2) rfl (ci (bf (i:=0) (by change(["place","setting"]:fk Str).Nodup;decide+kernel) rfl (by trivial)) (ci (bf (i:=1) (by change(["place","setting"]:fk Str).Nodup;decide+kernel) rfl (by trivial)) fT)))) kj (λ_ _ _ _=>fB) (λ_ _ _ _=>(pv 0)) rfl) (aD (fD bv rfl (jt (pv 1)) (bf (i:=4) nd rfl (by trivial)) (aD (m8 (aM T.measured (xL T) hr (ab (pv 0) (ab (pv 4) aw))) (gH (n:=2) rfl (ci (bf (i:=5) nd rfl (by trivial)) (ci (bf (i:=6) nd rfl (by trivial)) fT)))) (aK (dS (fS (br (Ed rfl) (by rfl) T.Vm Boot.«any» (ab (fb rfl (dD.of (sc:=bn Bp) (N:= ["stride","stairs","pattern","lit","stair","first","length"]) (own:= ["height"]) (fr:= [6]) (N':= ["height","length"])) (eU (aM T.heights (kE T) hr (ab (pv 3) (ab (pv 0) (ab (pv 5) aw))))) (λ_ _ _ _=>(bf (i:=0) (by change(["height","length"]:fk Str).Nodup;decide+kernel) rfl (by trivial))) dZ (λ_ _ _ _=>fB) (λ_ _ _ _=>(Tn (nZ lg (pv 0) aF (bW _)) (F7 (nZ qa (pv 0) (pv 1) (bW _)))))) aw))) (aK (bF fF)) cy)))) (aK (bF fF))))
 rintro vs M q ⟨sts,pat,s,rfl,f8,lu,s0,s1,k⟩;dsimp? [bN];exact gj (λz:Int×Int=>wi z.1) (big ∅) (λ_ _=>trivial) ?_ λt ht=> ?_;intro z hz M3 N s3 hN;dsimp? [dh];show hN;have e1:pat.map (λz=>wi z.1)=(df pat).map wi:=by unfold df;rw[aE];rfl
 have Ux:(df pat).length<=16000000:=by unfold df;rw[aa];show lu
 rw[e1];dsimp? [];exact gx (λi ρ M'=>im λ(o1 o2 o3:fG W)=>fZ (ρ= [some (wi s),some (.tup (sts.map bN)),some (bN pat),some (wr t),o1,o2,o3]) (Sm M M') (M' t=some (.lst ((df pat).map wi))) (qy s (sts.take i) pat=true)) #[none,none,none,rfl,ce ht,au,rfl] (λ_ _ _ _ _=>trivial) ?_ ?_;rintro i x ρ M' hx ⟨o1,o2,o3,rfl,sM,Hx,sy⟩ N hN;let⟨st,hz,rfl⟩: ∃st,sts[i]? =some st /\ x=bN st:=by
  rw[az] at hx;cases e:sts[i]? with
  | none=>rw[e] at hx;cases hx
  | some q=>rw[e] at hx;cases hx;show#[q,rfl,rfl]
 let⟨h1,h2⟩:=f8 st (ar hz);dsimp? [];exact#[st,s,rfl,h1,h2,s0,s1,?_];dsimp? [];exact#[t,df pat,s,cg s st,rfl,Hx,Ux,s0,s1,λp ms hp g1 g2=> ?_];have Nl:ms.length<=16000000:=by rw[g1.length_eq,kq,aa];show aT (eY _ _) Ux
 dsimp? [au];exact gj (λx:Int=>wb (decide (¬(0<=x /\ x<dN s st)))) (big ∅) (λM6 s6=>s6 _ _ au) ?_ λu hu=> ?_;intro x hx M3 N s3 hN;dsimp? [];exact dQ (λh=> ?_) λh=> ?_;rwa [show decide (¬(0<=x /\ x<dN s st))=true from bH ∅] at hN;rwa [show decide (¬(0<=x /\ x<dN s st))=decide (dN s st<=x) from decide_eq_decide.mpr ∅] at hN;have hb:(kq s (cg s st) (df pat)).all (λx=>decide (0<=x /\ x<dN s st))= !((ms.map λx=>decide (¬(0<=x /\ x<dN s st))).any id):=by rw[List.any_map, <- g1.all_eq];rw[Bool.eq_iff_iff,c8,Bool.not_eq_true',List.any_eq_false];exact forall_congr' λx=>forall_congr' λ_=> ?_;simp
 have yd:qy s (sts.take (i+1)) pat=(kq s (cg s st) (df pat)).all (λx=>decide (0<=x /\ x<dN s st)):=by rw[bC,hz];change qy s (sts.take i++ [st]) pat=_;unfold qy at sy ⊢;rw[List.all_append,sy];simp
 exact#[u,ms.map λx=>decide (¬(0<=x /\ x<dN s st)),rfl,by rw[au,aE];rfl,?_];rw[hb] at yd;dsimp? [];generalize (ms.map λx=>decide (¬(0<=x /\ x<dN s st))).any id=bb at yd ⊢;have sU:Sm M' (um (um M' p (.lst (ms.map wi))) u (.lst (ms.map λx=>wb (decide (¬(0<=x /\ x<dN s st)))))):=(ce hp).trans (ce hu);cases bb with
 | true=>
  have:qy s sts pat=false:=by have e:sts=sts.take (i+1)++sts.drop (i+1):=(bm _ _).symm;rw[e];unfold qy at yd ⊢;rw[List.all_append,yd];rfl
  rw[this] at k;show#[M,sM.trans sU,k]
 | false=>show hN _ _ #[_,_,_,rfl,sM.trans sU,sU _ _ Hx,yd]
 rintro ρ M' ⟨o1,o2,o3,rfl,sM,Hx,sy⟩;rw[aa,bQ] at sy;dsimp? [];rw[sy] at k;show#[M,sM,k]
def lj {K:Ug}(T:jT K mg A):dR P w K mg base iq 2 A.mL A.mP ["_law_p_here","_law_stride","_law_many","_law_thing"] (jJ K Tv):=by
 exists T.ls.fn,["_law_p_here","_law_stride","_law_many","_law_thing","_law_part"],(aD (dS (fC (fS (br gD (by rfl) T.eD Boot.«isinstance» (ab (pv 3) (ab (iG (by rfl) T.hW Boot.«list» (show RelV (.ty "list") _ from rfl)) aw))))) (aK (bF fF)) cy) (aD (fD bv rfl (eU (pv 3)) (bf (i:=4) nd rfl (by trivial)) (aD (dS (iu (fC (fS (br gD (by rfl) T.eD Boot.«isinstance» (ab (pv 4) (ab (iG (by rfl) T.ja Boot.«tuple» (show RelV (.ty "tuple") _ from rfl)) aw))))) (iu (bK mE (br dz (by rfl) T.iw Boot.«len» (ab (pv 4) aw)) aF (bW _)) (iB (fC (fS (br (kl rfl) (by rfl) T.yM Boot.«all» (ab (fb rfl (dD.of (sc:=bn jX) (N:= ["_law_p_here","_law_stride","_law_many","_law_thing","_law_part"]) (own:= ["_law_number"]) (fr:= []) (N':= ["_law_number"])) (jt (pv 4)) (λ_ _ _ _=>(bf (i:=0) (by change(["_law_number"]:fk Str).Nodup;decide+kernel) rfl (by trivial))) dZ (λ_ _ _ _=>fB) (λ_ _ _ _=>(aM T.BS (rV T) hr (ab (pv 0) aw)))) aw))))))).pt (aK (bF fF)) cy) (aK (dS (iu (fC (rR Tz lg aF (ca dP (pv 4) aF (λ_ _=>rfl)) (pv 2))) (iu (fC (rR lg lg aF (ca dP (pv 4) aF (λ_ _=>rfl)) (pv 0))) (iB (pF (bK iX (pv 1) aF (bW _)) (lR (bK mE (ca dP (pv 4) aF (λ_ _=>rfl)) aF (bW _)))).pt))).pt (aK (bF fF)) cy)))) (aK (bF fF))))
 rintro vs M q ⟨a,p,s,n,tl,rfl,ha,h1,h2,h3,k⟩;dsimp? [ha];exact gx (λi ρ M'=> ∃o4:fG W,ρ= [some (wi p),some (wi s),some (wi n),some (wr a),o4] /\ Sm M M') #[none,rfl,Sm.refl M] (λi ρ M' _ ⟨_,_,sm⟩=>sm _ _ ha) ?_ ?_;rintro i x ρ M' hx ⟨o4,rfl,sm⟩ N hN;let⟨t,ht,rfl⟩:=jy hx;have hm:=ar ht;have e3:decide (((3:Nat):Int)=3)=true:=⋯
 have d1:decide (0<=t.1)=true:=bH (h1 t hm).1;have d2:decide (t.1<n)=true:=bH (h1 t hm).2;have d3:decide (0<t.2.2)=true:=bH (h2 t hm).1;have d4:decide (t.2.2<p)=true:=bH (h2 t hm).2;dsimp? [jv,e3,cP];change sR ([t.1,t.2.1,t.2.2].map wi) _ _ _ _ _ _ _ _ _;exact gj (λ_=>wb true) (big (by simp)) (λ_ _=>trivial) ?_ λu hu=> ?_;intro z _ M3 N3 s3 EG;dsimp? [];exact#[z,rfl,?_];dsimp? [];show EG;dsimp? [];exact rf (bs:= [true,true,true]) au ?_;have abB: [true,true,true].all id=true:=rfl;have a0:iV [wi t.1,wi t.2.1,wi t.2.2] 0=some (wi t.1):=rfl;have a1:iV [wi t.1,wi t.2.1,wi t.2.2] 1=some (wi t.2.1):=rfl;have a2:iV [wi t.1,wi t.2.1,wi t.2.2] 2=some (wi t.2.2):=rfl;dsimp? [abB,cP,a0,a1,a2,d1,d2,d3,d4];have fin:=hN [some (wi p),some (wi s),some (wi n),some (wr a),some (W.tup [wi t.1,wi t.2.1,wi t.2.2])] (um M' u (.lst [wb true,wb true,wb true])) #[_,rfl,sm.trans (ce hu)];exact dQ (λhs=>Aj (λcD=>absurd (h3 hs t hm) cD) λ_=>fin) λ_=>fin;rintro ρ M' ⟨o4,rfl,sm⟩;dsimp? [];show#[M,sm,k]
def li {K:Ug}(T:jT K mg A):dR P w K mg base iq 2 A.mK A.mO ["_law_p_here","_law_stride","_law_bases","_law_parts"] (jJ K Tr):=by
 exists T.lr.fn,["_law_p_here","_law_stride","_law_bases","_law_parts","_law_pairs","_law_which","_law_shift","_law_setting"],(aD (b8 (i:=4) nd rfl (by trivial) (zH aw)) (aD (fD bv rfl (eU (pv 3)) (gH (n:=3) rfl (ci (bf (i:=5) nd rfl (by trivial)) (ci (bf (i:=6) nd rfl (by trivial)) (ci (bf (i:=7) nd rfl (by trivial)) fT)))) (aK (gl (F_ PySem.F.plainAttrs_list PySem.F.slot_list_extend PySem.F.type_list_extend Dk (pv 4) (ab (fb rfl (dD.of (sc:=bn jW) (N:= ["_law_p_here","_law_stride","_law_bases","_law_parts","_law_pairs","_law_which","_law_shift","_law_setting"]) (own:= ["_law_place","_law_more"]) (fr:= [7,6,1]) (N':= ["_law_place","_law_more","_law_setting","_law_shift","_law_stride"])) (jt (ca KC (pv 2) (pv 5) (λ_ _=>rfl))) (λ_ _ _ _=>(gH (n:=2) rfl (ci (bf (i:=0) (by change(["_law_place","_law_more","_law_setting","_law_shift","_law_stride"]:fk Str).Nodup;decide+kernel) rfl (by trivial)) (ci (bf (i:=1) (by change(["_law_place","_law_more","_law_setting","_law_shift","_law_stride"]:fk Str).Nodup;decide+kernel) rfl (by trivial)) fT)))) kj (λ_ _ _ _=>fB) (λ_ _ _ _=>(iC (ab (bR fg (pv 0) (bR f7 (pv 3) (pv 4))) (ab (bR f7 (pv 1) (pv 2)) aw))))) aw))))) (aK (bF (aM T.vU (pI T) hr (ab (pv 0) (ab (pv 4) aw)))))))
 rintro vs M q ⟨a,bw,p,s,L,sts,tl,rfl,hbw,ha,p0,s0,s8,hk,hb,hL1,I0,k⟩;dsimp? [ha];intro u hu;have nau:a≠u:=cY ha hu;have _n:um M u (.lst []) a=some (.lst (tl.map jv)):=by rw[aJ nau];show ha
 dsimp? [_n];have lu: ∀l:fk h_,(∀t∈l,t∈tl) ->(putL s sts l).length<=l.length*L:=λl hl=>kh λt ht=>by rw[aa];show(hb _ (yj (hk t (hl t ht)).1 (hk t (hl t ht)).2.1)).1
 exact gx (λi ρ M'=>im λ(o5 o6 o7:fG W)=>d_ (ρ= [some (wi p),some (wi s),some bw,some (wr a),some (wr u),o5,o6,o7]) (Sm M M') (M' u=some (.lst ((putL s sts (tl.take i)).map dh)))) #[none,none,none,rfl,ce hu,au] (λi ρ M' _ ⟨_,_,_,_,sm,_⟩=>sm _ _ ha) ?_ ?_;rintro i x ρ M' hx ⟨o5,o6,o7,rfl,sm,sB⟩ N hN;let⟨t,ht,rfl⟩:=jy hx;have hm:=ar ht;have hkt:=hk t hm;have DG:=(aj.mp ht).1;have kY:iV (sts.map bN) t.1=some (bN (sts.getD t.1.toNat [])):=by have e:((t.1.toNat:Nat):Int)=t.1:= ∅;rw[<- e];exact fK ?_;rw[az,ae (show t.1.toNat<sts.length by lia),a9,e,ae (show t.1.toNat<sts.length by lia)];rfl
 have RC:=hb _ (yj hkt.1 hkt.2.1);have ept:=C6 (s:=s) (sts:=sts) ht;generalize sts.getD t.1.toNat []=st at kY RC ept;have cm:iP t.2.1 s=True:=a8 (.inr #[∅, ∅]);dsimp? [jv,sB];exact(hbw.sm sm).ix kY ?_;dsimp? [bN];exact gj (λz=>dh (z.1+t.2.1*s,z.2*t.2.2)) (big (by have:=RC.1;lia)) (λ_ _=>trivial) ?_ λe he=> ?_;intro z hz M3 N3 s3 EG;have MW:=RC.2 z hz;have QM:iP z.2 t.2.2=True:=a8 (.inr #[∅, ∅]);dsimp? [dh,cm,QM];show EG;have nue:u≠e:=cY sB he;have Ur:=lu (tl.take i) λt ht=>List.mem_of_mem_take ht;rw[bg] at Ur;have W5:(i+1)*L<=16000000:=aT (dv _ DG) I0;rw[Nat.add_mul,Nat.one_mul] at W5;rw[Nat.min_eq_left ∅] at Ur;exact#[u,e,_,_,rfl,rfl,by rw[aJ nue];show sB,au,?_,hN _ _ #[_,_,_,rfl,λd o e'=> ?_,?_]];rw[aa,aa];have:=RC.1;rw[dg];lia;rw[aJ (cY e' hu),aJ (cY (sm _ _ e') he)];show sm _ _ e';rw[au,ept,aO,aE];rfl;rintro ρ M' ⟨o5,o6,o7,rfl,sm,sB⟩;rw[aa,bQ] at sB;dsimp? [];exact#[u,p,putL s sts tl,rfl,sB,p0,HB,?_,?_];show aT (lu tl λ_ h=>h) I0;dsimp? [];show#[M,sm,k]
def ni {K:Ug}(T:jT K mg A):dR P w K mg base iq 3 A.jP A.jS ["_law_draw","_law_p_here","_law_most"] (jJ K De):=by
 exists T.kN.fn,["_law_draw","_law_p_here","_law_most"],(aK (bF (fb rfl (dD.of (sc:=bn gT) (N:= ["_law_draw","_law_p_here","_law_most"]) (own:= ["_law_k"]) (fr:= [0,1]) (N':= ["_law_k","_law_draw","_law_p_here"])) (gm (by rfl) T.gw (ab (aM T.iT (fL T) hr (ab (pv 0) (ab (bR fg (pv 2) aF) aw))) aw)) (λ_ _ _ _=>(bf (i:=0) (by change(["_law_k","_law_draw","_law_p_here"]:fk Str).Nodup;decide+kernel) rfl (by trivial))) dZ (λ_ _ _ _=>fB) (λ_ _ _ _=>(aM T.pL (n8 T) hr (ab (pv 1) (ab (pv 2) (ab aF (ab aF aw)))))))))
 rintro vs M q ⟨d,l,p,most,rfl,hD,p2,p7,m0,m1,k⟩;dsimp? [];exact#[d,l,most+1,rfl,hD, ∅, ∅,λn M1 n0 n1 D1 b1=> ?_];dsimp? [];exact#[#[∅, ∅],AC (by rw[je];show big ∅) λt ht=> ?_];let⟨Pe,Ww⟩:=D1.ne ht;have Zs:M t=none:=by
  cases e2:M t with
  | none=>rfl
  | some o=>rw[b1 t Pe,e2] at ht;cases ht
 exact#[λi ys M'=> ∃aV:fk Pt,l_ (ys=aV.map bN) (aV.length=i) (∀pt∈aV,cW p pt /\ Wt 6 pt /\ pt.length<=4) (Dr M' d l) (M' t=some (.lst ys)) (mR d M M'),#[[],rfl,rfl,by simp,D1.put ht,au,(mR.nb b1).um Zs],?_,?_,?_];rintro i ys M' hi ⟨aV,rfl,hl,_,_,hM,_⟩;show#[trivial,hM,by rw[aa];lia];rintro i x ys M' hx ⟨aV,rfl,hl,hk,D5,hM,s5⟩ N2 Qt;simp? [↓fw];exact#[d,l,p,4,6,rfl,D5,p2, ∅,⋯,⋯,⋯,⋯,λps M6 lu pS D6 b6=> ?_];simp? [↓fw];exact#[by rw[b6 t Pe];show hM,Qt _ _ #[aV++ [kM p ps],by rw[aO];rfl,by simp[hl],λpt pR=> ?_,D6.OT Pe Ww,au,(s5.trans (mR.nb b6)).um Zs]];obtain h | h:=aA.mp pR;show hk pt h;rw[ah.mp h];exact#[iH ∅ ps,λx hx=> ?_,aT (BK _ _) ∅];let⟨z,hz,e⟩:=af.mp (cU hx);let⟨y,hy,e2⟩:=Gj hz;have:=pS y hy;lia;rintro ys M' ⟨aV,rfl,hl,hk,D5,hM,s5⟩;rw[je] at hl;show no (k t aV M' hk ∅ Zs hM D5 s5)
def jx {K:Ug}(T:jT K mg A):dR P w K mg base iq 2 A.uQ A.u9 ["_law_stride","_law_pattern_here"] (jJ K J1):=by
 exists T.lY.fn,["_law_stride","_law_pattern_here"],(aK (bF (br (Ea rfl) (by rfl) T.NU Boot.«min» (ab (fb rfl (dD.of (sc:=bn pC) (N:= ["_law_stride","_law_pattern_here"]) (own:= ["_law_place","_law_setting"]) (fr:= [0]) (N':= ["_law_place","_law_setting","_law_stride"])) (jt (pv 1)) (λ_ _ _ _=>(gH (n:=2) rfl (ci (bf (i:=0) (by change(["_law_place","_law_setting","_law_stride"]:fk Str).Nodup;decide+kernel) rfl (by trivial)) (ci (bf (i:=1) (by change(["_law_place","_law_setting","_law_stride"]:fk Str).Nodup;decide+kernel) rfl (by trivial)) fT)))) kj (λ_ _ _ _=>fB) (λ_ _ _ _=>(aM T.sj (qb T) hr (ab (pv 0) (ab (pv 2) aw))))) aw))))
 rintro vs M q ⟨st,s,rfl,cD,hl,s0,s1,k⟩;dsimp? [bN];exact gj (λz:Int×Int=>wi (bE s z.1)) (big (by omega)) (λ_ _=>trivial) ?_ λt ht=> ?_;intro z hz M3 N s3 hN;dsimp? [dh];exact#[z.1,s,rfl,s0,s1,?_];dsimp? [];show hN;have e1:st.map (λz=>wi (bE s z.1))=((df st).map (bE s)).map wi:=by unfold df;rw[aE,aE];rfl
 have PY:(df st).map (bE s)≠ []:=by unfold df;simpa using cD
 rw[e1];dsimp? [];exact#[t,(df st).map (bE s),rfl,au,PY,λm hm=> ?_];dsimp? [];rw[gE.uniq hm (fA PY)];show#[M,ce ht,k]
def jw {K:Ug}(T:jT K mg A):dR P w K mg base iq 2 A.uO A.u6 ["_law_stride","_law_pattern_here","_law_at_here"] (jJ K O2):=by
 exists T.lX.fn,["_law_stride","_law_pattern_here","_law_at_here"],(aK (bF (fb rfl (dD.of (sc:=bn pA) (N:= ["_law_stride","_law_pattern_here","_law_at_here"]) (own:= ["_law_place","_law_setting"]) (fr:= [2,0]) (N':= ["_law_place","_law_setting","_law_at_here","_law_stride"])) (jt (pv 1)) (λ_ _ _ _=>(gH (n:=2) rfl (ci (bf (i:=0) (by change(["_law_place","_law_setting","_law_at_here","_law_stride"]:fk Str).Nodup;decide+kernel) rfl (by trivial)) (ci (bf (i:=1) (by change(["_law_place","_law_setting","_law_at_here","_law_stride"]:fk Str).Nodup;decide+kernel) rfl (by trivial)) fT)))) kj (λ_ _ _ _=>(lS (bK iX (aM T.sj (qb T) hr (ab (pv 0) (ab (pv 3) aw))) (pv 2) (bW _)))) (λ_ _ _ _=>(pv 0)))))
 rintro vs M q ⟨st,s,c,rfl,hl,s0,s1,k⟩;dsimp? [bN];exact lI (λz:Int×Int=>decide (bE s z.1=c)) (λz:Int×Int=>wi z.1) (big (by omega)) (λ_ _=>trivial) ?_ λt ht=> ?_;intro z hz M3 N s3 hN;dsimp? [dh];exact#[z.1,s,rfl,s0,s1,?_];dsimp? [];exact dQ (λh=> ?_) λh=> ?_;dsimp? [];simpa only[h,decide_true,bZ] using hN;dsimp? [];simpa only[h,decide_false,aB,bj] using hN;have e1:(st.filter λz=>decide (bE s z.1=c)).map (λz=>wi z.1)=(bB s st c).map wi:=by unfold bB df;rw[List.filter_map,aE];rfl
 rw[e1];dsimp? [];show no (k t ht)
def uw {K:Ug}(T:jT K mg A):dR P w K mg base iq 3 A.yo A.yC ["_law_stride","_law_stair"] (jJ K Tq):=by
 exists T.z7.fn,["_law_stride","_law_stair","_law_spots_here"],(aD (b8 (i:=2) nd rfl (by trivial) (aM T.lX (jw T) hr (ab (pv 0) (ab (pv 1) (ab (aM T.lY (jx T) hr (ab (pv 0) (ab (pv 1) aw))) aw))))) (aK (bF (bR qT (bR iS (ca cj (pv 2) (gV fR aF) (λ_ _=>rfl)) (ca cj (pv 2) aF (λ_ _=>rfl))) (br (ny rfl) (by rfl) T.H0 Boot.«max» (ab aF (ab (pv 0) aw)))))))
 rintro vs M q ⟨st,s,rfl,cD,hl,s0,s1,k⟩;dsimp? [];exact#[st,s,rfl,cD,hl,s0,s1,?_];dsimp? [];exact#[st,s,cg s st,rfl,hl,s0,s1,λt ht=> ?_];have PY:(df st).map (bE s)≠ []:=by unfold df;simpa using cD
 have hn:bB s st (cg s st)≠ []:=by let⟨x,hx,e⟩:=af.mp (fA PY).1;have:x∈bB s st (cg s st):=ay.mpr #[hx,bH e];intro e2;rw[e2] at this;cases this
 have h1:iV ((bB s st (cg s st)).map wi) (-1)=some (wi ((bB s st (cg s st)).getLastD 0)):=jm hn;have h0:iV ((bB s st (cg s st)).map wi) 0=some (wi ((bB s st (cg s st)).headD 0)):=by
  cases e:bB s st (cg s st) with
  | nil=>show absurd e hn
  | cons a r=>show vm
 have cd: ∀x,wS x (if s >1 then s else 1)=True:=λx=>by simp![wS];split<;>simp<;>omega
 dsimp? [au,h1,h0,cd];show#[M,ce ht,k]
def tL {K:Ug}(T:jT K mg A):dR P w K mg base iq 4 A.oM A.oS ["_law_stride","_law_stairs","_law_pattern_here"] (jJ K Tt):=by
 exists T.si.fn,["_law_stride","_law_stairs","_law_pattern_here","_law_stair","_law_at_here","_law_size_here","_law_place"],(aD (fD bv rfl (jt (pv 1)) (bf (i:=3) nd rfl (by trivial)) (aD (b8 (i:=4) nd rfl (by trivial) (aM T.lY (jx T) hr (ab (pv 0) (ab (pv 3) aw)))) (aD (b8 (i:=5) nd rfl (by trivial) (aM T.z7 (uw T) hr (ab (pv 0) (ab (pv 3) aw)))) (aK (fD bv rfl (eU (aM T.lX (jw T) hr (ab (pv 0) (ab (pv 2) (ab (pv 4) aw))))) (bf (i:=6) nd rfl (by trivial)) (aK (dS (iu (bK lg (pv 6) (pv 4) (bW _)) (iB (bK qa (pv 6) (bR fg (pv 4) (bR f7 (pv 5) (br (ny rfl) (by rfl) T.H0 Boot.«max» (ab aF (ab (pv 0) aw))))) (bW _)))).pt (aK (bF fF)) cy))))))) (aK (bF fF)))
 rintro vs M q ⟨sts,pat,s,rfl,f8,lu,s0,s1,k⟩;dsimp? [];exact gx (λi ρ M'=>kr λ(o1 o2 o3 o4:fG W)=>d_ (ρ= [some (wi s),some (.tup (sts.map bN)),some (bN pat),o1,o2,o3,o4]) (Sm M M') (vV s (sts.take i) pat=true)) #[none,none,none,none,rfl,Sm.refl M,rfl] (λ_ _ _ _ _=>trivial) ?_ ?_;rintro i x ρ M' hx ⟨o1,o2,o3,o4,rfl,sM,sy⟩ N hN;let⟨st,hz,rfl⟩: ∃st,sts[i]? =some st /\ x=bN st:=by
  rw[az] at hx;cases e:sts[i]? with
  | none=>rw[e] at hx;cases hx
  | some q=>rw[e] at hx;cases hx;show#[q,rfl,rfl]
 let⟨h1,h2⟩:=f8 st (ar hz);dsimp? [];exact#[st,s,rfl,h1,h2,s0,s1,?_];dsimp? [];exact#[st,s,rfl,h1,h2,s0,s1,?_];dsimp? [];exact#[pat,s,cg s st,rfl,lu,s0,s1,λt ht=> ?_];dsimp? [au];have cm: ∀x,iP x (if s >1 then s else 1)=True:=λx=>by simp![iP];split<;>simp<;>omega
 exact gx (λj ρ M2=> ∃o4:fG W,d_ (ρ= [some (wi s),some (.tup (sts.map bN)),some (bN pat),some (bN st),some (wi (cg s st)),some (wi (oe s st)),o4]) (M2=um M' t (.lst ((bB s pat (cg s st)).map wi))) (((bB s pat (cg s st)).take j).all (λx=>decide (cg s st<=x /\ x<cg s st+oe s st*(if s >1 then s else 1)))=true)) #[_,rfl,rfl,rfl] ?_ ?_ ?_;rintro j ρ M2 _ ⟨o4,rfl,rfl,_⟩;show au;rintro j x ρ M2 hx ⟨o4,rfl,rfl,hj⟩ N2 Qt;let⟨y,hy,rfl⟩:=oy hx;have bad:¬(cg s st<=y /\ y<cg s st+oe s st*(if s >1 then s else 1)) ->vV s sts pat=false:=λhb=>by have hm:=ar hz;have Uk:=ar hy;unfold vV;rw[List.all_eq_false];exact#[st,hm,?_];intro wo;have:=c8.mp wo y Uk;show hb ⇑this
 dsimp? [cm];exact dQ (λh=> ?_) λh=> ?_;rw[bad (by omega)] at k;dsimp? [];show#[M,sM.trans (ce ht),k];dsimp? [cm];exact dQ (λh'=> ?_) λh'=> ?_;rw[bad (by omega)] at k;dsimp? [];show#[M,sM.trans (ce ht),k];exact Qt _ _ #[_,rfl,rfl,?_];rw[bC,hy,List.all_append,hj];change(true && (decide (_ /\ _) && true))=true;rw[bH (by omega)];rfl;rintro ρ M2 ⟨o4,rfl,rfl,hj⟩;rw[aa,bQ] at hj;exact hN _ _ #[_,_,_,_,rfl,sM.trans (ce ht),?_];rw[bC,hz];change vV s (sts.take i++ [st]) pat=true;unfold vV at sy ⊢;rw[List.all_append,sy,List.all_cons,hj];rfl;rintro ρ M' ⟨o1,o2,o3,o4,rfl,sM,sy⟩;rw[aa,bQ] at sy;dsimp? [];rw[sy] at k;show#[M,sM,k]
def pH {K:Ug}(T:jT K mg A):dR P w K mg base iq 5 A.kO A.kP ["_law_stride","_law_stairs"] (jJ K OZ):=by
 exists T.mH.fn,["_law_stride","_law_stairs"],(aK (bF (br (kl rfl) (by rfl) T.yM Boot.«all» (ab (fb rfl (dD.of (sc:=bn iR) (N:= ["_law_stride","_law_stairs"]) (own:= ["_law_k"]) (fr:= [0,1]) (N':= ["_law_k","_law_stride","_law_stairs"])) (gm (by rfl) T.gw (ab (br dz (by rfl) T.iw Boot.«len» (ab (pv 1) aw)) aw)) (λ_ _ _ _=>(bf (i:=0) (by change(["_law_k","_law_stride","_law_stairs"]:fk Str).Nodup;decide+kernel) rfl (by trivial))) dZ (λ_ _ _ _=>fB) (λ_ _ _ _=>(aM T.si (tL T) hr (ab (pv 1) (ab (lf (show Vr _ (OR K) from Bl) (pv 2) (nV (bR fg (pv 0) aF)) nW) (ab (ca (show Lz _ (FQ K) from dP) (pv 2) (pv 0) (λ_ _=>rfl)) aw)))))) aw))))
 rintro vs M q ⟨p,s,D,sts,rfl,s0,s8,fP,tr,hl,hn,k⟩;dsimp? [aa];exact#[#[∅, ∅],?_];rw[ut];exact gj (λ_:Nat=>wb true) (big (by rw[bO];lia)) (λ_ _=>trivial) ?_ λt ht=> ?_;intro i hi M3 N s3 hN;have DG:=cf.mp hi;let⟨st,f8⟩: ∃st,sts[i]? =some st:=#[_,ae ∅]
 have kY:iV (sts.map bN) (0+(i:Int))=some (bN st):=by rw[bA];show fK (by rw[az,f8];rfl)
 have HF:lG (sts.map bN) (some (0+(i:Int)+1)) none=(sts.drop (i+1)).map bN:=by rw[bA,vc,List.map_drop]
 have Hb: ∀bD∈sts.drop (i+1),bD∈sts:=λbD h=>List.mem_of_mem_drop h;have hm:=ar f8;have oE:=(BV (sts:=sts.drop (i+1)) (D:=D) (p:=p) s0 (ff (fP.of hm).pat) λbD h=>#[fP.of (Hb bD h),hl bD (Hb bD h),tr.low fP f8 bD h]).1;dsimp? [kY,HF];exact#[sts.drop (i+1),st,s,rfl,λbD h=>#[((fP.of (Hb bD h)).zu s0 (hl bD (Hb bD h))).ne,hl bD (Hb bD h)],hl st hm,s0, ∅,?_];rw[oE];dsimp? [];show hN;dsimp? [];exact rf (bs:=(List.range ((sts.length:Int) - 0).toNat).map λ_=>true) ?_ ?_;rw[au,aE];rfl;have:((List.range ((sts.length:Int) - 0).toNat).map λ_=>true).all id=true:=by rw[c8];intro b hb;let⟨_,_,rfl⟩:=af.mp hb;rfl
 rw[this];dsimp? [];show#[M,ce ht,k]
def qw {K:Ug}(T:jT K mg A):dR P w K mg base iq 4 A.lz A.lE ["_law_p_here","_law_stride","_law_thing"] (jJ K O9):=by
 exists T.om.fn,["_law_p_here","_law_stride","_law_thing","_law_k","_law_at_here","_law_spots_here"],(aD (dS (fC (fS (br gD (by rfl) T.eD Boot.«isinstance» (ab (pv 2) (ab (iG (by rfl) T.ja Boot.«tuple» (show RelV (.ty "tuple") _ from rfl)) aw))))) (aK (bF fF)) cy) (aD (fD bv rfl (gm (by rfl) T.gw (ab (br dz (by rfl) T.iw Boot.«len» (ab (pv 2) aw)) aw)) (bf (i:=3) nd rfl (by trivial)) (aD (dS (iu (fC (fS (aM T.oi (qv T) hr (ab (pv 0) (ab (ca dP (pv 2) (pv 3) (λ_ _=>rfl)) aw))))) (iB (bK iX (br dz (by rfl) T.iw Boot.«len» (ab (ca dP (pv 2) (pv 3) (λ_ _=>rfl)) aw)) aF (bW _)))).pt (aK (bF fF)) cy) (aD (b8 (i:=4) nd rfl (by trivial) (aM T.lY (jx T) hr (ab (pv 1) (ab (ca dP (pv 2) (pv 3) (λ_ _=>rfl)) aw)))) (aD (b8 (i:=5) nd rfl (by trivial) (aM T.lX (jw T) hr (ab (pv 1) (ab (ca dP (pv 2) (pv 3) (λ_ _=>rfl)) (ab (pv 4) aw))))) (aD (dS (iu (bK mE (ca cj (pv 5) aF (λ_ _=>rfl)) (pv 4) (bW _)) (iB (bK mE (aM T.GK (qU T) hr (ab (ca dP (pv 2) (pv 3) (λ_ _=>rfl)) (ab (ca cj (pv 5) (gV fR aF) (λ_ _=>rfl)) aw))) aF (bW _)))).pt (aK (bF fF)) cy) (aK (dS (pF (bK xJ (pv 3) aF (bW _)) (lR (bK qa (aM T.lY (jx T) hr (ab (pv 1) (ab (ca dP (pv 2) (bR iS (pv 3) aF) (λ_ _=>rfl)) aw))) (pv 4) (bW _)))).pt (aK (bF fF)) cy))))))) (aK (bF fF))))
 rintro vs M q ⟨p,s,D,sts,rfl,s0,s8,p1,fP,hl,hn,k⟩;dsimp? [cP,aa];exact#[#[∅, ∅],gx (λi ρ M'=>im λ(o3 o4 o5:fG W)=>ρ= [some (wi p),some (wi s),some (.tup (sts.map bN)),o3,o4,o5] /\ Sm M M') #[none,none,none,rfl,Sm.refl M] (λ_ _ _ _ _=>trivial) ?_ ?_];rintro i x ρ M' hx ⟨o3,o4,o5,rfl,sm⟩ N hN;let⟨hi,rfl⟩:=kb hx;let⟨st,f8⟩: ∃st,sts[i]? =some st:=#[_,ae ∅]
 have kY:iV (sts.map bN) (0+(i:Int))=some (bN st):=by rw[bA];show fK (by rw[az,f8];rfl)
 have hm:=ar f8;have sr:=fP.of hm;have UG:=hl st hm;have ok:=sr.zu s0 UG;have cD:=ok.ne;let⟨n1,n2,n3⟩:=sr.Bd s0 UG;have dj:¬(((st.map dh).length:Nat):Int)=0:=by rw[aa];have:=eI.mpr cD;lia
 have hd0:decide ((((st.map dh).length:Nat):Int)=0)=false:=cM dj;dsimp? [kY];exact#[p,st,rfl,sr.pat,UG,?_];dsimp? [kY,cP,bN,hd0];exact#[st,s,rfl,cD,UG,s0, ∅,?_];dsimp? [kY];exact#[st,s,cg s st,rfl,UG,s0, ∅,λt ht=> ?_];have h0:iV ((bB s st (cg s st)).map wi) 0=some (wi (cg s st)):=by
  cases e:bB s st (cg s st) with
  | nil=>show absurd e n1
  | cons a r=>rw[e] at n2;rw[<- n2];show vm
 have h1:iV ((bB s st (cg s st)).map wi) (-1)=some (wi (cg s st+dN s st*s)):=by rw[<- n3];show jm n1
 dsimp? [au,h0,h1,kY];simp![decide_true,cP];dsimp? [];exact#[st,cg s st+dN s st*s,rfl,?_];rw[sr.top];dsimp? [];simp![decide_true,cP];dsimp? [];have smN:Sm M (um M' t (.lst ((bB s st (cg s st)).map wi))):=sm.trans (ce ht);exact dQ (λPX=> ?_) λPX=> ?_;let⟨i',rfl⟩: ∃i',i=i'+1:=#[i - 1, ∅]
 let⟨bD,oC⟩: ∃bD,sts[i']? =some bD:=#[_,ae ∅]
 have Hu:iV (sts.map bN) (0+((i'+1:Nat):Int) - 1)=some (bN bD):=by rw[show 0+((i'+1:Nat):Int) - 1=(i':Int) by push_cast;lia];show fK (by rw[az,oC];rfl)
 have KZ:=ar oC;have fU:=fP.vI i' (i'+1) bD st _ _ _ _ ∅ oC f8 (fP.of KZ) sr;dsimp? [Hu];exact#[bD,s,rfl,((fP.of KZ).zu s0 (hl bD KZ)).ne,hl bD KZ,s0, ∅,?_];have Nv:decide (cg s st<=cg s bD)=false:=cM ∅;dsimp? [Nv];show hN _ _ #[_,_,_,rfl,smN];dsimp? [];show hN _ _ #[_,_,_,rfl,smN];rintro ρ M' ⟨o3,o4,o5,rfl,sm⟩;dsimp? [];show#[M,sm,k]
def qu {K:Ug}(T:jT K mg A):dR P w K mg base iq 6 A.lx A.lC ["_law_p_here","_law_stride","_law_stairs","_law_pattern_here"] (jJ K Yz):=by
 exists T.oh.fn,["_law_p_here","_law_stride","_law_stairs","_law_pattern_here","_law_told"],(aD (b8 (i:=4) nd rfl (by trivial) (aM T.taken (xK T) hr (ab (pv 0) (ab (pv 1) (ab (pv 2) (ab (pv 3) aw)))))) (aD (dS (iu (fC (fS (br gD (by rfl) T.eD Boot.«isinstance» (ab (pv 4) (ab (iG (by rfl) T.ja Boot.«tuple» (show RelV (.ty "tuple") _ from rfl)) aw))))) (iu (bK mE (br dz (by rfl) T.iw Boot.«len» (ab (pv 4) aw)) aF (bW _)) (iB (bK (zK hr.Q6) (ca dP (pv 4) aF (λ_ _=>rfl)) (iC aw) (bW _))))).pt (aK (bF fF)) cy) (aD (dS (fC (fS (aM T.ls (lj T) hr (ab (pv 0) (ab (pv 1) (ab (br dz (by rfl) T.iw Boot.«len» (ab (pv 2) aw)) (ab (ca dP (pv 4) aF (λ_ _=>rfl)) aw))))))) (aK (bF fF)) cy) (aK (bF (nZ (zL hr.Q6) (aM T.lr (li T) hr (ab (pv 0) (ab (pv 1) (ab (pv 2) (ab (ca dP (pv 4) aF (λ_ _=>rfl)) aw))))) (pv 3) (bW _)))))))
 rintro vs M q ⟨p,s,D,Z,Zm,w',Lb,sts,pat,rfl,hp,s0,s8,fP,tr,ml,wz,z0,d0,d1,Xc,hZ4,hn,ik,w0,hw,hLb,_C,U1,k⟩;have p0:0<p:= ∅;dsimp? [];exact#[p,s,D,Z,Zm,sts,pat,rfl,hp,s0,s8,fP,ml,wz,z0,d0,d1,Xc,hZ4,hn,λt M' e9 tl P hr wr tk cC sm ht Xe=> ?_];obtain rfl:=tk.Vf hp s0 fP hr ik;have e2:decide (((2:Nat):Int)=2)=true:=⋯
 have _o:0<=Zm:=by have:=bV (show 0<=(sts.length:Int) by lia) (show 0<=D+s by lia);lia
 have TL:=tk.tl hp _o cC;have near:=tk.near hp s0 w0 fP tr ml hw;have htl:tl.length<=sts.length*(2*w'+1).toNat:=by rw[cC.length_eq];exact aT (CV λu hu=>(near u hu).len (tk.gp u hu) w0) (dv _ tk.len)
 dsimp? [e2,cP];rw[show W.tup []=bN [] from rfl];exact Gp rfl ?_;dsimp? [aa];exact#[t,p,s,sts.length,tl,rfl,Xe,TL.key,TL.val,TL.rE,?_];dsimp? [cP];have hSt: ∀st∈sts,cW p st:=λst gO=>(fP.of gO).pat;have _B:tl.length*Lb<=16000000:=aT (dv _ htl) U1;exact#[t, .tup (sts.map bN),p,s,Lb,sts,tl,rfl, .inl rfl,Xe,p0,s0,s8,λu hu=>#[(TL.key u hu).1,(TL.key u hu).2,by have:=TL.Ez u hu;lia,by have:=TL.val u hu;lia,by have:=TL.val u hu;lia],λst gO=>#[hLb st gO,λz hz=>by have:=(hSt st gO).1 z hz;lia],_C,_B,?_];have abz:kM p (putL s sts tl)=pat:=n6 (iH p0 _) ml λx=>by
  have UD: ∀i:Nat,((sts.getD i []).map (·.1)).Nodup:=λi=>by
   rw[a9];cases e:sts[i]? with
   | none=>show List.nodup_nil
   | some st=>show(ff (hSt st (ar e))).1
  have hb:=tk.back p0 (ff ml) UD cC x;rw[jA p0, <- hb];change _=(0+_) % p;rw[bA]
 rw[abz];dsimp? [];exact Ay rfl ?_;dsimp? [];show#[M,sm,k]
def zQ {K:Ug}(T:jT K mg A):dR P w K mg base iq 4 A.uP A.u8 ["_law_p_here","_law_stride","_law_stair","_law_pattern_here"] (jJ K O5):=by
 exists T.BR.fn,["_law_p_here","_law_stride","_law_stair","_law_pattern_here","_law_at_here","_law_top","_law_turn","_law_spots_here"],(aD (b8 (i:=4) nd rfl (by trivial) (aM T.lY (jx T) hr (ab (pv 1) (ab (pv 2) aw)))) (aD (b8 (i:=5) nd rfl (by trivial) (bR fg (pv 4) (bR f7 (aM T.z7 (uw T) hr (ab (pv 1) (ab (pv 2) aw))) (br (ny rfl) (by rfl) T.H0 Boot.«max» (ab aF (ab (pv 1) aw)))))) (aD (b8 (i:=6) nd rfl (by trivial) (ca cj (fb rfl (dD.of (sc:=bn pB) (N:= ["_law_p_here","_law_stride","_law_stair","_law_pattern_here","_law_at_here","_law_top","_law_turn","_law_spots_here"]) (own:= ["_law_k"]) (fr:= [0,2,4]) (N':= ["_law_k","_law_p_here","_law_stair","_law_at_here"])) (Db (by rfl) T.gw (ab aF (ab (pv 0) aw))) (λ_ _ _ _=>(bf (i:=0) (by change(["_law_k","_law_p_here","_law_stair","_law_at_here"]:fk Str).Nodup;decide+kernel) rfl (by trivial))) dZ (λ_ _ _ _=>(lS (bK iX (bR gX (bR f7 (pv 0) (aM T.GK (qU T) hr (ab (pv 2) (ab (pv 3) aw)))) (pv 1)) aF (bW _)))) (λ_ _ _ _=>(pv 0))) aF (λ_ _=>rfl))) (aD (b8 (i:=7) nd rfl (by trivial) (aM T.lX (jw T) hr (ab (pv 1) (ab (pv 3) (ab (pv 4) aw))))) (aD (xD bv (pF (bK xJ (br dz (by rfl) T.iw Boot.«len» (ab (pv 7) aw)) aF (bW _)) (lR (iu (bK qa (ca cj (pv 7) (gV fR aF) (λ_ _=>rfl)) (pv 5) (bW _)) (iB (bK lg (ca cj (pv 7) aF (λ_ _=>rfl)) (pv 4) (bW _)))).pt)).pt (aD (dS (bK qa (ca cj (pv 7) (gV fR aF) (λ_ _=>rfl)) (pv 5) (bW _)) (aK (b8 (i:=3) nd rfl (by trivial) (aM T.GI (xM T) hr (ab (pv 0) (ab (pv 3) (ab (pv 2) (ab (bR iS (ca cj (pv 7) (gV fR aF) (λ_ _=>rfl)) (pv 5)) (ab (gV fR (aM T.GK (qU T) hr (ab (pv 3) (ab (ca cj (pv 7) (gV fR aF) (λ_ _=>rfl)) aw)))) aw)))))))) (aK (b8 (i:=3) nd rfl (by trivial) (aM T.GI (xM T) hr (ab (pv 0) (ab (pv 3) (ab (pv 2) (ab (bR iS (ca cj (pv 7) aF (λ_ _=>rfl)) (pv 4)) (ab (bR f7 (gV fR (aM T.GK (qU T) hr (ab (pv 3) (ab (ca cj (pv 7) aF (λ_ _=>rfl)) aw)))) (pv 6)) aw))))))))) (aK (b8 (i:=7) nd rfl (by trivial) (aM T.lX (jw T) hr (ab (pv 1) (ab (pv 3) (ab (pv 4) aw)))))))) (aK (bF (pv 3))))))))
 rintro vs M q ⟨p,s,D,c,len,Z,st,pat,rfl,hp,s0,s8,sr,ml,wz,z0,d0,z1,d1,k⟩;have p0:0<p:= ∅;have Rq:st.length<=16000000:=by have:=sr.wt.len (ff sr.pat) d0;lia
 have ok:=sr.zu s0 Rq;have efc:cg s st=c:=sr.qZ;have els:oe s st=len:=by rw[ok.size s0];show sr.nO
 dsimp? [];exact#[st,s,rfl,ok.ne,Rq,s0, ∅,?_];rw[efc];dsimp? [];exact#[st,s,rfl,ok.ne,Rq,s0, ∅,?_];rw[els];have hmx:len*(if s >1 then s else 1)=len*s:=by by_cases z:s >1;rw[am z];rw[ai z];by_cases y:s=0;rw[sr.s0 y];simp;rw[show s=1 by lia]
 obtain⟨Np,hcD,htD⟩:=sr.Pz s0 d0;have l0:=sr.l0;have cm: ∀y:Int,iP len y=True:=λy=>a8 (.inl #[∅, ∅]);dsimp? [cm,hmx];have hv:=d8 (ff sr.pat) sr.bot;exact#[∅,?_];rw[ut];exact lI (λa:Nat=>decide ((1+(a:Int))*look st c % p=1)) (λa:Nat=>wi (1+(a:Int))) (big (by rw[bO];lia)) (λ_ _=>trivial) ?_ λu hu=> ?_;intro a ha M3 N s3 hN;have hal:=cf.mp ha;have QM:iP (1+(a:Int)) (look st c)=True:=a8 (.inr #[∅, ∅]);dsimp? [];exact#[st,c,rfl,?_];dsimp? [QM,p0];exact dQ (λh=> ?_) λh=> ?_;dsimp? [];simpa only[h,decide_true,bZ] using hN;dsimp? [];simpa only[h,decide_false,aB,bj] using hN;let⟨tn,yc,kY⟩: ∃tn:Int,(tn*look st c % p=1 /\ 0<tn /\ tn<p) /\ iV (((List.range (p - 1).toNat).filter λa:Nat=>decide ((1+(a:Int))*look st c % p=1)).map λa:Nat=>wi (1+(a:Int))) 0=some (wi tn):=by
  let⟨a,h1,h2⟩:=PM hp hv.1 hv.2;cases e:(List.range (p - 1).toNat).filter λa:Nat=>decide ((1+(a:Int))*look st c % p=1) with
  | nil=>have:a∈(List.range (p - 1).toNat).filter λa:Nat=>decide ((1+(a:Int))*look st c % p=1):=ay.mpr #[cf.mpr h1,bH h2];rw[e] at this;cases this
  | cons b t=>
   have:b∈(List.range (p - 1).toNat).filter λa:Nat=>decide ((1+(a:Int))*look st c % p=1):=by rw[e];show aL
   show#[1+(b:Int),#[⇑((ay.mp this).2), ∅,by have:=cf.mp (ay.mp this).1;lia],vm]
 let⟨yc,Ou,Jv⟩:=yc;dsimp? [au,kY];have lu:pat.length<=16000000:=by have:=wz.len (ff ml) z0;lia
 exact#[pat,s,c,rfl,lu,s0, ∅,λt ht=> ?_];have Md:Sm M (um (um M u (.lst (((List.range (p - 1).toNat).filter λa:Nat=>decide ((1+(a:Int))*look st c % p=1)).map λa:Nat=>wi (1+(a:Int))))) t (.lst ((bB s pat c).map wi))):=(ce hu).trans (ce ht);have hM0:um (um M u (.lst (((List.range (p - 1).toNat).filter λa:Nat=>decide ((1+(a:Int))*look st c % p=1)).map λa:Nat=>wi (1+(a:Int))))) t (.lst ((bB s pat c).map wi)) t=some (.lst ((bB s pat c).map wi)):=au;generalize um (um M u (.lst (((List.range (p - 1).toNat).filter λa:Nat=>decide ((1+(a:Int))*look st c % p=1)).map λa:Nat=>wi (1+(a:Int))))) t (.lst ((bB s pat c).map wi))=M0 at Md hM0 ⊢;dsimp? [];have cw0:yW s c (-Z - 1) (max Z (len - 1)) pat:=λx hx cD=>by have:=NA (f:=c) s0 s8 (wz x cD) z0;lia
 exact AU (λm ρ M'=>kr λ(t:gY) (r:Pt) (lo hi:Int)=>nH (ρ= [some (wi p),some (wi s),some (bN st),some (bN r),some (wi c),some (wi (c+len*s)),some (wi tn),some (wr t)]) (M' t=some (.lst ((bB s r c).map wi))) (Sm M M') (NX s p st pat r c) (yW s c lo hi r) (lo<=0) (∀x,bE s x=c ->look r x≠0 -> -(Z+D) <=x /\ x<=Z+D) (Wt (Z+3*D) r /\ m=Df lo hi len)) (Df (-Z - 1) (max Z (len - 1)) len) #[t,pat, -Z - 1,max Z (len - 1),rfl,hM0,Md,NX.init ml,cw0, ∅,λx _ cD=>by have:=wz x cD;lia,wz.up ∅,rfl] ?_;rintro m ρ M' ⟨t',r,lo,hi,rfl,Hx,sm,lw,cw,sy,cp,QY,rfl⟩ N hN;have hrl:r.length<=16000000:=by have:=QY.len (ff lw.pat) ∅;lia
 by_cases cD:bB s r c= []
 have e0:decide (0< (([]:fk W).length:Int))=false:=⋯
 rw[cD] at Hx;dsimp? [Hx,dU,e0];exact#[M,sm,k r M' lw (λx hx h=> ?_) QY sm];have:x∈bB s r c:=ay.mpr #[cU h, ⇑hx];rw[cD] at this;cases this;let⟨OG,⟨uJ,UL⟩,EF,Rs⟩:=Fw lw.pat cD;have Qs:iV ((bB s r c).map wi) (-1)=some (wi ((bB s r c).getLastD 0)):=jm cD;have Ht:iV ((bB s r c).map wi) 0=some (wi ((bB s r c).headD 0)):=by
  cases e:bB s r c with
  | nil=>show absurd e cD
  | cons a b=>show vm
 have PX:decide (0< ((((bB s r c).map wi).length:Nat):Int))=true:=bH (by rw[aa];have:=eI.mpr cD;lia);generalize (bB s r c).getLastD 0=x1 at OG EF Rs Qs;generalize (bB s r c).headD 0=x0 at OG uJ UL Ht;have ex1:=iF s0 EF;have ex0:=iF s0 uJ;have h1:=cw x1 EF Rs;have h0:=cw x0 uJ UL;have rg:=jz p0 lw.pat;have b1:=cp x1 EF Rs;have b0:=cp x0 uJ UL;dsimp? [Hx,PX,Qs];have hz: ∀x,s=0 ->hI s x=0:=λx z=>by rw[z];show l6 x
 have acw:0<=len*s:=bV l0 s0;have Ss:c+len*s<=x1 ->len<=hI s x1:=λh=>by by_cases z:s=0;rw[hz x1 z,sr.s0 z];show aY _;exact ao λhn=> ?_;have:=Int.mul_lt_mul_of_pos_right (show hI s x1<len by lia) (show 0<s by lia);lia
 have stl:st.length<=8000000:=by have:=sr.wt.len (ff sr.pat) d0;lia
 have rl8:r.length<=8000000:=by have:=QY.len (ff lw.pat) ∅;lia
 have stv: ∀z∈st,0<=z.2 /\ z.2<1000:=λz pO=>by have:=sr.pat.1 z pO;lia
 exact dQ (λv9=> ?_) λv9=> ?_;have hh:=Ss v9;rw[bH v9];dsimp? [];exact#[r,x1,rfl,?_];dsimp? [];exact#[p,r,st,x1 - (c+len*s), -look r x1,rfl,p0,HB,rl8,stl,stv,?_];dsimp? [];have ey:x1 - (c+len*s)=(hI s x1 - len)*s:=by rw[Int.sub_mul];lia
 let⟨r',Lg⟩: ∃r',r'=kM p (r++zW (x1 - (c+len*s)) (-look r x1) st):=#[_,rfl]
 rw[<- Lg];have el: ∀x,look r' x=(look r x+look st (x - (hI s x1 - len)*s)* -(look r (c+hI s x1*s))) % p:=λx=>by rw[Lg,og p0 lw.pat sr.pat,ey, <- ex1]
 have cwh:yW s c lo (hI s x1) r:=λx hx pT=>by exact#[(cw x hx pT).1,?_];by_cases z:s=0;rw[hz x z,hz x1 z];show aY _;exact ao λhn=> ?_;have h2:=Int.mul_lt_mul_of_pos_right (show hI s x1<hI s x by lia) (show 0<s by lia);have h3:=iF s0 hx;have h4:=(OG x hx pT).2;lia
 let⟨cw2,cz2⟩:=Kk hp s0 sr lw.pat cwh (λz=>hz x1 z) rfl hh sy el;have Gx: ∀x,look r' x≠0 ->look r x≠0 \/ look st (x - (x1 - (c+len*s)))≠0:=λx hx=>by rw[Lg] at hx;show CQ p0 lw.pat sr.pat hx
 have w2:Wt (Z+3*D) r':=λx hx=>by obtain h | h:=Gx x hx;show QY x h;have:=sr.wt _ h;lia
 have T8:=lw.step p0 s0 sr ey Lg;have PU:r'.length<=16000000:=by have:=w2.len (ff T8.pat) ∅;lia
 exact#[r',s,c,rfl,PU,s0, ∅,λt2 Na=> ?_];exact hN (Df lo (if s=0 then -1 else hI s x1 - 1) len) _ _ ?_ #[t2,r',lo,_,rfl,au,sm.trans (ce Na),T8,cw2,sy,λx hx pT=> ?_,w2,rfl];unfold Df;have:=sr.l0;split<;>lia;obtain h | h:=Gx x pT;show cp x hx h;have h5:=sr.wH s0 (cU h) (by rw[ey,be,gu];show hx);lia;dsimp? [Ht];exact dQ (λ_g=> ?_) λ_g=> ?_;have C0:0<s:=by obtain z | z:=Int.lt_or_eq_of_le s0;show z;rw[<- z,cb,a6] at ex0;lia
 have hb0:hI s x0<0:=by exact ao λhn=> ?_;have:=bV (show 0<=hI s x0 by lia) s0;lia
 have cm3:iP (-look r x0) tn=True:=a8 (.inr #[∅, ∅]);have Nv:decide (c+len*s<=x1)=false:=cM v9;dsimp? [Hx,Qs,Nv,Ht];exact#[r,x0,rfl,?_];dsimp? [cm3];exact#[p,r,st,x0 - c, -look r x0*tn,rfl,p0,HB,rl8,stl,stv,?_];dsimp? [];have ey:x0 - c=hI s x0*s:= ∅;let⟨r',Lg⟩: ∃r',r'=kM p (r++zW (x0 - c) (-look r x0*tn) st):=#[_,rfl]
 rw[<- Lg];have el: ∀x,look r' x=(look r x+look st (x - hI s x0*s)*(-(look r (c+hI s x0*s))*tn)) % p:=λx=>by rw[Lg,og p0 lw.pat sr.pat,ey, <- ex0]
 have cwh:yW s c (hI s x0) (len - 1) r:=λx hx pT=>by have h3:=iF s0 hx;have h4:=OG x hx pT;symm;exact ao λhn=> ?_;have h2:=Int.mul_lt_mul_of_pos_right (show hI s x<hI s x0 by lia) C0;lia;exact ao λhn=> ?_;have h2:=aS (show len<=hI s x by lia) s0;lia
 have cw2:=Kl hp C0 sr lw.pat cwh hb0 ∅ yc el;have Gx: ∀x,look r' x≠0 ->look r x≠0 \/ look st (x - (x0 - c))≠0:=λx hx=>by rw[Lg] at hx;show CQ p0 lw.pat sr.pat hx
 have w2:Wt (Z+3*D) r':=λx hx=>by obtain h | h:=Gx x hx;show QY x h;have:=sr.wt _ h;lia
 have T8:=lw.step p0 s0 sr ey Lg;have PU:r'.length<=16000000:=by have:=w2.len (ff T8.pat) ∅;lia
 exact#[r',s,c,rfl,PU,s0, ∅,λt2 Na=> ?_];exact hN (Df (hI s x0+1) (max (len - 1) (len - 1)) len) _ _ ?_ #[t2,r',_,_,rfl,au,sm.trans (ce Na),T8,cw2, ∅,λx hx pT=> ?_,w2,rfl];unfold Df;have:=sr.l0;lia;obtain h | h:=Gx x pT;show cp x hx h;have h5:=sr.wH s0 (cU h) (by rw[ey,be,gu];show hx);lia;dsimp? [];exact#[M,sm,k r M' lw (λx hx h=> ?_) QY sm];have h3:=iF s0 hx;have h4:=OG x hx h;by_cases z:s=0;exfalso;rw[z,cb,a6] at h3;rw[z,cb,a6] at v9;lia;symm;exact ao λhn=> ?_;have h2:=Int.mul_lt_mul_of_pos_right (show hI s x<0 by lia) (show 0<s by lia);lia;exact ao λhn=> ?_;have h2:=aS (show len<=hI s x by lia) s0;lia
def Dg {K:Ug}(T:jT K mg A):dR P w K mg base iq 5 A.yp A.yD ["_law_p_here","_law_stride","_law_stairs","_law_pattern_here"] (jJ K O6):=by
 exists T.GJ.fn,["_law_p_here","_law_stride","_law_stairs","_law_pattern_here","_law_stair"],(aD (fD bv rfl (jt (pv 2)) (bf (i:=4) nd rfl (by trivial)) (aK (b8 (i:=3) nd rfl (by trivial) (aM T.BR (zQ T) hr (ab (pv 0) (ab (pv 1) (ab (pv 4) (ab (pv 3) aw)))))))) (aK (bF (pv 3))))
 rintro vs M q ⟨p,s,D,Z,sts,pat,rfl,hp,s0,s8,fP,ml,wz,z0,d0,d1,U1,ik,k⟩;have p0:0<p:= ∅;dsimp? [];exact gx (λi ρ M'=>cO λ(o4:fG W) (r:Pt)=>l_ (ρ= [some (wi p),some (wi s),some (.tup (sts.map bN)),some (bN r),o4]) (Sm M M') (cW p r) (fu s p sts (look r)) (Wt (Z+3*(i*D)) r) (∀ (j:Nat) st,j<i ->sts[j]? =some st ->lL s (cg s st) (dN s st) r)) #[none,pat,rfl,Sm.refl M,ml,ik,wz.up (by simp),λj st h=>absurd h (Nat.not_lt_zero j)] (λ_ _ _ _ _=>trivial) ?_ ?_;rintro i x ρ M' hx ⟨o4,r,rfl,sm,hr,Zz,wr',oE⟩ N hN;let⟨st,f8,rfl⟩:=jy hx;have hm:=ar f8;have sr:=fP.of hm;have DG:=(aj.mp f8).1;have hiD:=aS (show(i:Int) <=sts.length by lia) d0;have hi0:=bV (show 0<=(i:Int) by lia) d0;dsimp? [];exact#[p,s,D,cg s st,dN s st,Z+3*(i*D),st,r,rfl,hp,s0,s8,sr,hr,wr', ∅,d0, ∅,d1,λr' M2 lw Py w2 Bk=> ?_];dsimp? [];exact hN _ _ #[_,r',rfl,sm,lw.pat,?_,w2.up (by push_cast;rw[eR,eQ];lia),λj bD hj oC=> ?_];let⟨js,ED⟩:=lw.eqv;show(Zz.add ((fu.of hm).dH js)).ext ED;obtain z | z:=bU j i;intro x hx cD;have fU:=fP.vI j i bD st _ _ _ _ z oC f8 (fP.of (ar oC)) sr;rw[lw.EH x ∅] at cD;show oE j bD z oC x hx cD;have:j=i:= ∅;subst this;rw[f8] at oC;cases oC;show Py;rintro ρ M' ⟨o4,r,rfl,sm,hr,Zz,wr',oE⟩;rw[aa] at oE;have er:r= []:=by
  let⟨J,hJ⟩:=Zz;exact xz (f:=λ_=>0) (J':=λ_=> []) hp s0 fP hr cW.nil (λi st c len hi sr x hx cD=> ?_) (λi st c len _ _ x _ h=>absurd rfl h) (λx=>by rw[bA];show hJ x) λx=>by rw[vB];rfl
  have e:=sr.uniq (fP.of (ar hi));have:=oE i st (aj.mp hi).1 hi x (by rw[hx,e.1]) cD;rw[e.2];show this
 subst er;dsimp? [];show#[M,sm,k]
def zd (s:Int):Nat:=if s=0 then 0 else((59+s) / s).toNat
def Vk (s0:0<=s)(s8:s<=8)(h:Wt 60 a):o9 s 60 (zd s) (zd s) a:=by exact#[λx hx=> ?_,λ_=>h];have h1:=h x hx;have:s=0 \/ s=1 \/ s=2 \/ s=3 \/ s=4 \/ s=5 \/ s=6 \/ s=7 \/ s=8:= ∅;obtain rfl | rfl | rfl | rfl | rfl | rfl | rfl | rfl | rfl:=this <;>simp[hI,zd] <;>lia
def Ob (s0:0<=s)(s8:s<=8):zd s<=60 /\ s*zd s<=68 /\ (s=0 ->zd s=0):=by have:s=0 \/ s=1 \/ s=2 \/ s=3 \/ s=4 \/ s=5 \/ s=6 \/ s=7 \/ s=8:= ∅;obtain rfl | rfl | rfl | rfl | rfl | rfl | rfl | rfl | rfl:=this <;>decide
def HJ (l:fk Pt):uW (.lst (l.map Dd)) <=50:=by rw[uW];have:=yu (n:=2) (g:=Dd) (λa=>by unfold Dd;rw[uW];have:=nq a;lia) l;lia
theorem OF (h:qK s p sts D)(hw: ∀st∈sts,Wt D' st)(l:D'<=D):qK s p sts D':=#[λi st hi=>by let⟨c,len,sr,hl⟩:=h.each i st hi;show#[c,len, {sr with wt:=hw st (ar hi)},hl],λi j st bD c len c' xT iJ hi hj a b=>h.vI i j st bD c len c' xT iJ hi hj {a with wt:=a.wt.up l} {b with wt:=b.wt.up l}]
theorem Ju (h:qJ s p sts D)(l:D'<=D):qJ s p sts D':=λi j st bD c len iJ hi hj a=>h i j st bD c len iJ hi hj {a with wt:=a.wt.up l}
def Pc {K:Ug}(T:jT K mg A):dR P w K mg base iq 8 A.NI A.NN ["_law_script"] (xn K):=by
 exact TF T.law.fn FE ⋯ λcdv A' outer s H E hr=> ?_;have nd:=FE.nd;exact#[_,(aD (b8 (i:=1) nd rfl (by trivial) (aM T.BU (zR T) hr (ab (pv 0) aw))) (aD (b8 (i:=2) nd rfl (by trivial) (aM T.l_p (Pd T) hr (ab (pv 1) aw))) (aD (b8 (i:=3) nd rfl (by trivial) (aM T.iT (fL T) hr (ab (pv 1) (ab aF aw)))) (aD (dS (bK iX (aM T.iT (fL T) hr (ab (pv 1) (ab aF aw))) aF (bW _)) (aK (b8 (i:=3) nd rfl (by trivial) (bR fg aF (aM T.iT (fL T) hr (ab (pv 1) (ab aF aw)))))) cy) (aD (b8 (i:=4) nd rfl (by trivial) (aM T.kN (ni T) hr (ab (pv 1) (ab (pv 2) (ab aF aw))))) (aD (dS (bK iX (aM T.iT (fL T) hr (ab (pv 1) (ab aF aw))) aF (bW _)) (aK (mZ (i:=4) rfl nd rfl (Or.inl rfl) (dD.of (sc:=bn rO) (N:= ["_law_script","_law_draw","_law_p_here","_law_stride","_law_patterns","_law_handed","_law_found","_law_stairs","_law_k"]) (own:= ["_law_k"]) (fr:= [1,2]) (N':= ["_law_k","_law_draw","_law_p_here"])) (gm (by rfl) T.gw (ab (aM T.iT (fL T) hr (ab (pv 1) (ab aF aw))) aw)) (λ_ _ _ _=>(bf (i:=0) (by change(["_law_k","_law_draw","_law_p_here"]:fk Str).Nodup;decide+kernel) rfl (by trivial))) dZ (λ_ _ _ _=>fB) (λ_ _ _ _=>(aM T.pL (n8 T) hr (ab (pv 1) (ab (pv 2) (ab aF (ab aF aw)))))) rfl)) cy) (aD (dS (pF (bK xJ (br dz (by rfl) T.iw Boot.«len» (ab (pv 4) aw)) aF (bW _)) (lR (bK iX (aM T.iT (fL T) hr (ab (pv 1) (ab aF aw))) aF (bW _)))).pt (aK (gl (F_ PySem.F.plainAttrs_list PySem.F.slot_list_append PySem.F.type_list_append lT (pv 4) (ab (ca cj (pv 4) aF (λ_ _=>rfl)) aw)))) cy) (aD (b8 (i:=5) nd rfl (by trivial) (eV nA (by rfl) T.hW Boot.«list» (ab (pv 4) aw))) (aD (b8 (i:=6) nd rfl (by trivial) (aM T.built (Gh T) hr (ab (pv 2) (ab (pv 3) (ab (pv 5) aw))))) (aD (dS (iu (bK (zK hr.Q6) (pv 5) (pv 4) (bW _)) (iu (fC (fS (br gD (by rfl) T.eD Boot.«isinstance» (ab (pv 6) (ab (iG (by rfl) T.ja Boot.«tuple» (show RelV (.ty "tuple") _ from rfl)) aw))))) (iB (bK mE (br dz (by rfl) T.iw Boot.«len» (ab (pv 6) aw)) aF (bW _))))).pt (aK (bF fF)) cy) (aD (b8 (i:=7) nd rfl (by trivial) (ca dP (pv 6) aF (λ_ _=>rfl))) (aD (dS (iu (fC (fS (aM T.om (qw T) hr (ab (pv 2) (ab (pv 3) (ab (pv 7) aw)))))) (iB (fC (fS (aM T.mH (pH T) hr (ab (pv 3) (ab (pv 7) aw))))))).pt (aK (bF fF)) cy) (aD (dS (iu (fC (fS (br gD (by rfl) T.eD Boot.«isinstance» (ab (ca dP (pv 6) aF (λ_ _=>rfl)) (ab (iG (by rfl) T.hW Boot.«list» (show RelV (.ty "list") _ from rfl)) aw))))) (iB (bK mE (br dz (by rfl) T.iw Boot.«len» (ab (ca dP (pv 6) aF (λ_ _=>rfl)) aw)) (br dz (by rfl) T.iw Boot.«len» (ab (pv 7) aw)) (bW _)))).pt (aK (bF fF)) cy) (aD (fD bv rfl (gm (by rfl) T.gw (ab (br dz (by rfl) T.iw Boot.«len» (ab (pv 7) aw)) aw)) (bf (i:=8) nd rfl (by trivial)) (aD (dS (fC (fS (aM T.ls (lj T) hr (ab (pv 2) (ab (pv 3) (ab (br dz (by rfl) T.iw Boot.«len» (ab (pv 4) aw)) (ab (ca cj (ca dP (pv 6) aF (λ_ _=>rfl)) (pv 8) (λ_ _=>rfl)) aw))))))) (aK (bF fF)) cy) (aK (dS (bK (zK hr.Q6) (aM T.lr (li T) hr (ab (pv 2) (ab (pv 3) (ab (pv 4) (ab (ca cj (ca dP (pv 6) aF (λ_ _=>rfl)) (pv 8) (λ_ _=>rfl)) aw))))) (ca dP (pv 7) (pv 8) (λ_ _=>rfl)) (bW _)) (aK (bF fF)) cy)))) (aD (fD bv rfl (gm (by rfl) T.gw (ab (br dz (by rfl) T.iw Boot.«len» (ab (pv 7) aw)) aw)) (bf (i:=8) nd rfl (by trivial)) (aK (dS (bK Gf (aM T.low (Pb T) hr (ab (pv 3) (ab (lf Bl (pv 7) (nV (bR fg (pv 8) aF)) nW) (ab (ca dP (pv 7) (pv 8) (λ_ _=>rfl)) aw)))) fF (bW _)) (aK (bF fF)) cy))) (aD (dS (fC (fS (br (kl rfl) (by rfl) T.yM Boot.«all» (ab (fb rfl (dD.of (sc:=bn rO) (N:= ["_law_script","_law_draw","_law_p_here","_law_stride","_law_patterns","_law_handed","_law_found","_law_stairs","_law_k"]) (own:= ["_law_pattern_here"]) (fr:= [2,3,7]) (N':= ["_law_pattern_here","_law_p_here","_law_stride","_law_stairs"])) (eU (pv 4)) (λ_ _ _ _=>(bf (i:=0) (by change(["_law_pattern_here","_law_p_here","_law_stride","_law_stairs"]:fk Str).Nodup;decide+kernel) rfl (by trivial))) dZ (λ_ _ _ _=>fB) (λ_ _ _ _=>(nZ (show pi _ _ (JN K) from zL (by show hr.Q6)) (aM T.rest_of (zO T) hr (ab (pv 1) (ab (pv 2) (ab (pv 3) (ab (pv 0) aw))))) (iC aw) (bW _)))) aw)))) (aK (bF fF)) cy) (aD (dS (fC (fS (br (kl rfl) (by rfl) T.yM Boot.«all» (ab (fb rfl (dD.of (sc:=bn rO) (N:= ["_law_script","_law_draw","_law_p_here","_law_stride","_law_patterns","_law_handed","_law_found","_law_stairs","_law_k"]) (own:= ["_law_pattern_here"]) (fr:= [2,3,7]) (N':= ["_law_pattern_here","_law_p_here","_law_stride","_law_stairs"])) (eU (lf vE (pv 4) nW (nV aF))) (λ_ _ _ _=>(bf (i:=0) (by change(["_law_pattern_here","_law_p_here","_law_stride","_law_stairs"]:fk Str).Nodup;decide+kernel) rfl (by trivial))) dZ (λ_ _ _ _=>fB) (λ_ _ _ _=>(aM T.oh (qu T) hr (ab (pv 1) (ab (pv 2) (ab (pv 3) (ab (pv 0) aw))))))) aw)))) (aK (bF fF)) cy) (aK (bF (br (kl rfl) (by rfl) T.yM Boot.«all» (ab (fb rfl (dD.of (sc:=bn rO) (N:= ["_law_script","_law_draw","_law_p_here","_law_stride","_law_patterns","_law_handed","_law_found","_law_stairs","_law_k"]) (own:= ["_law_pattern_here"]) (fr:= [2,3,7]) (N':= ["_law_pattern_here","_law_p_here","_law_stride","_law_stairs"])) (eU (pv 4)) (λ_ _ _ _=>(bf (i:=0) (by change(["_law_pattern_here","_law_p_here","_law_stride","_law_stairs"]:fk Str).Nodup;decide+kernel) rfl (by trivial))) dZ (λ_ _ _ _=>fB) (λ_ _ _ _=>(nZ (show pi _ _ (JN K) from zL (by show hr.Q6)) (aM T.GJ (Dg T) hr (ab (pv 1) (ab (pv 2) (ab (pv 3) (ab (pv 0) aw))))) (iC aw) (bW _)))) aw))))))))))))))))))))),?_];try dsimp only[sL]
 exact#[_,inferInstance,?_];intro d l M hD;dsimp? [];exact#[d,l,rfl,hD,λp M1 hp D1 _=> ?_];have p0:0<p:= ∅;have p7:p<=7:= ∅;have p2:2<=p:= ∅;dsimp? [];exact#[d,l,5,rfl,D1,⋯,⋯,λs M2 s0 s1 D2 _=> ?_];simp? [↓fw];exact j5 (v8 (λρ M'=> ∃s:Int,fZ (ρ= [none,some (wr d),some (wi p),some (wi s),none,none,none,none,none]) (0<=s) (s<=8) (Dr M' d l)) ?_ λN hN=> ?_);rotate_left;dsimp? [];exact#[d,l,6,rfl,D2,⋯,⋯,λg M3 g0 g1 D3 _=> ?_];dsimp? [];exact dQ (λh=> ?_) λh=>hN _ _ #[s,rfl,s0, ∅,D3];dsimp? [];exact#[d,l,4,rfl,D3,⋯,⋯,λg M3 g0 g1 D3 _=> ?_];dsimp? [];show hN _ _ #[5+g,rfl, ∅, ∅,D3];clear s0 s1 D2;rintro ρ M3 ⟨s,rfl,s0,s8,D3⟩;dsimp? [];exact#[d,l,p,4,rfl,D3,p2,p7,⋯,⋯,λu aV M4 pS hn hu sB D4 _=> ?_];simp? [↓fw];let⟨TJ,nul⟩:=D3.ne hu;exact j5 (v8 (λρ M'=>im λ(o:fG W) (u:gY) (aV:fk Pt)=>Ek (ρ= [none,some (wr d),some (wi p),some (wi s),some (wr u),none,none,none,o]) (∀pt∈aV,cW p pt /\ Wt 60 pt /\ pt.length<=4) (aV.length<=7) (M' u=some (.lst (aV.map bN))) (Dr M' d l) (u≠d) (u≠l)) ?_ λN hN=> ?_);rotate_left;dsimp? [];exact#[d,l,5,rfl,D4,⋯,⋯,λg M5 g0 g1 D5 b5=> ?_];dsimp? [];exact dQ (λh=> ?_) λh=> ?_;dsimp? [];exact#[d,l,8,rfl,D5,⋯,⋯,λg M6 g0 g1 D6 _=> ?_];dsimp? [];exact#[#[∅, ∅],AC (by rw[je];show big ∅) λt ht=> ?_];let⟨Pe,Ww⟩:=D6.ne ht;exact#[λi ys M'=> ∃aV:fk Pt,j8 (ys=aV.map bN) (aV.length=i) (∀pt∈aV,cW p pt /\ Wt 60 pt /\ pt.length<=4) (Dr M' d l) (M' t=some (.lst ys)),#[[],rfl,rfl,by simp,D6.put ht,au],?_,?_,?_];rintro i ys M' hi ⟨aV,rfl,hl,_,_,hM⟩;show#[trivial,hM,by rw[aa];lia];rintro i x ys M' hx ⟨aV,rfl,hl,hk,D5,hM⟩ N2 Qt;simp? [↓fw];exact#[d,l,p,4,60,rfl,D5,p2, ∅,⋯,⋯,⋯,⋯,λps M6 lu pS D6 b6=> ?_];simp? [↓fw];exact#[by rw[b6 t Pe];show hM,Qt _ _ #[aV++ [kM p ps],by rw[aO];rfl,by simp[hl],λpt pR=> ?_,D6.OT Pe Ww,au]];obtain h | h:=aA.mp pR;show hk pt h;rw[ah.mp h];exact#[iH ∅ ps,λx hx=> ?_,aT (BK _ _) ∅];let⟨z,hz,e⟩:=af.mp (cU hx);let⟨y,hy,e2⟩:=Gj hz;have:=pS y hy;lia;rintro ys M' ⟨aV,rfl,hl,hk,D5,hM⟩;rw[je] at hl;show hN _ _ #[_,t,aV,rfl,hk, ∅,hM,D5,Pe,Ww];show hN _ _ #[none,u,aV,rfl,λpt pR=>#[(pS pt pR).1,λx hx=>by have:=(pS pt pR).2.1 x hx;lia,(pS pt pR).2.2], ∅,by rw[b5 u TJ];show sB,D5,TJ,nul];clear pS hn hu sB D4 TJ nul u aV;rintro ρ M5 ⟨o,u,aV,rfl,pS,hn,sB,D5,TJ,nul⟩;exact j5 (v8 (λρ M'=> ∃ (aV:fk Pt),fZ (ρ= [none,some (wr d),some (wi p),some (wi s),some (wr u),none,none,none,o]) (∀pt∈aV,cW p pt /\ Wt 60 pt /\ pt.length<=4) (aV.length<=8) (M' u=some (.lst (aV.map bN)))) ?_ λN hN=> ?_);rotate_left;dsimp? [sB];exact dQ (λh=> ?_) λh=>hN _ _ #[aV,rfl,pS, ∅,sB];exact#[d,l,4,rfl,D5,⋯,⋯,λg M6 g0 g1 D6 b6=> ?_];have U5:=(b6 u TJ).trans sB;dsimp? [];exact dQ (λh'=> ?_) λh=>hN _ _ #[aV,rfl,pS, ∅,U5];let⟨pt,e9,e⟩: ∃pt e9,aV=pt::e9:=by
  cases aV with
  | nil=>rw[dU,List.length_nil] at h;lia
  | cons a b=>show#[a,b,rfl]
 have kY:iV (aV.map bN) 0=some (bN pt):=fK (j:=0) (by rw[e];rfl);dsimp? [U5,kY];exact#[by rw[aa];show big ∅,hN _ _ #[aV++ [pt],rfl,λx hx=> ?_,by rw[aR,db];lia,by rw[au,aO];rfl]];obtain h | h:=aA.mp hx;show pS x h;rw[ah.mp h];show pS pt (by rw[e];show .head _);clear pS hn sB D5 aV;rintro ρ M6 ⟨aV,rfl,pS,hn,sB⟩;dsimp? [sB];intro t ht;dsimp? [];have pz:=Ob s0 s8;have hP:Ii s p 60 (zd s) aV:=#[λpt h=>#[(pS pt h).1,Vk s0 s8 (pS pt h).2.1],hn,hp,s0,s8,⋯,⋯,pz.2.2,pz.1,pz.2.1]
 exact#[t,p,s,60,zd s,aV,rfl,au,hP,λM7 v as sts Ps Lj sm7 hv Nz dj P8=> ?_];have ntu:u≠t:=λe=>by rw[<- e,sB] at ht;cases ht
 have _x:=sm7 t _ au;have Ar:=sm7 u _ (by rw[aJ ntu];show sB);dsimp? [];exact Pl (DR.list l8 _x) (DR.list l8 Ar) (HJ aV) rfl ?_;dsimp? [];change iU false _ _;dsimp? [];have hn8:sts.length<=8:=aT Lj.HB hn;have hE:2*((sts.length:Int)*zd s) <=960:=by have h:=Nat.mul_le_mul hn8 pz.1;have e:(sts.length:Int)*zd s=((sts.length*zd s:Nat):Int):=(Int.natCast_mul _ _).symm;rw[e];lia
 have hw: ∀st∈sts,Wt 7748 st:=λst h=>((Lj.bx st h).1.wt s0 s8 ⋯ hE hE ⋯).up ⋯;have fP:=OF Lj.fP hw ⋯;have trim:=Ju Lj.trim (show(7748:Int) <=1000000 by decide);have hL: ∀st∈sts,st.length<=15497:=λst h=>(hw st h).len (ff (fP.of h).pat) ⋯;have DN: ∀st∈sts,st.length<=16000000:=λst h=>aT (hL st h) ⋯;exact#[p,s,7748,sts,rfl,s0,s8, ∅,fP,DN, ∅,?_];dsimp? [];exact#[p,s,7748,sts,rfl,s0,s8,fP,trim,DN, ∅,?_];dsimp? [Nz];rw[show(!decide (((as.map wr).length:Int)=((sts.map bN).length:Int)))=false by rw[aa,aa,dj];simp];dsimp? [];have UD: ∀i:Nat,((aV.getD i []).map (·.1)).Nodup:=λi=>by
  rw[a9];cases e:aV[i]? with
  | none=>show List.nodup_nil
  | some q=>show(ff (pS q (ar e)).1).1
 have hk:=Aa s _ hn;exact#[#[∅,by rw[aa];lia],gx (λi ρ M'=> ∃o:fG W,ρ= [none,some (wr d),some (wi p),some (wi s),some (wr u),some (wr t),some (.tup [.tup (sts.map bN),wr v]),some (.tup (sts.map bN)),o] /\ M'=M7) #[_,rfl,rfl] (λ_ _ _ _ _=>trivial) ?_ ?_];rintro i x ρ M' hx ⟨o,rfl,rfl⟩ N hN;let⟨hi,rfl⟩:=kb hx;dsimp? [Ar,Nz];have nG:i<sts.length:=by rw[aa] at hi;lia
 let⟨a,ha⟩: ∃a,as[i]? =some a:=#[_,ae ∅]
 let⟨st,f8⟩: ∃st,sts[i]? =some st:=#[_,ae nG]
 let⟨P',Ny⟩: ∃P',Ps[i]? =some P':=#[_,ae (by rw[Lj.len];lia)]
 let⟨tl,cC,hMa⟩:=P8 i a P' ha Ny;let⟨md,ME,gp,bx⟩:=Lj.md i st P' f8 Ny;have E9:=md.tl hp ME gp bx hk.1 (λz=>am z) cC;have kY:iV (as.map wr) (0+(i:Int))=some (wr a):=by rw[bA];show fK (by rw[az,ha];rfl)
 have _k:iV (sts.map bN) (0+(i:Int))=some (bN st):=by rw[bA];show fK (by rw[az,f8];rfl)
 dsimp? [kY];exact#[a,p,s,_,tl,rfl,hMa,by rw[aa];show E9.key,E9.val,E9.rE,?_];dsimp? [Nz,kY];have h1:=Nat.mul_le_mul hn (show(2*vW s aV.length+2).toNat<=386114 by lia);exact#[a,wr u,p,s,4,aV,tl,rfl, .inr #[u,rfl,Ar],hMa,p0,s0,s8,λt ht=>#[(E9.key t ht).1,(E9.key t ht).2,by have:=E9.Ez t ht;lia,by have:=E9.val t ht;lia,by have:=E9.val t ht;lia],λst h=>#[(pS st h).2.2,λz hz=>by have:=(pS st h).1.1 z hz;lia],⋯,by have:=E9.len;lia,?_];dsimp? [_k];exact Gp (md.put p0 (fP.of (ar f8)).pat ME gp UD cC) ?_;dsimp? [];show hN _ _ #[_,rfl,rfl];rintro ρ M' ⟨o,rfl,rfl⟩;dsimp? [];exact#[#[∅,by rw[aa];lia],gx (λi ρ Mx=> ∃o:fG W,ρ= [none,some (wr d),some (wi p),some (wi s),some (wr u),some (wr t),some (.tup [.tup (sts.map bN),wr v]),some (.tup (sts.map bN)),o] /\ Mx=M') #[_,rfl,rfl] (λ_ _ _ _ _=>trivial) ?_ ?_];rintro i x ρ M' hx ⟨o,rfl,rfl⟩ N hN;let⟨hi,rfl⟩:=kb hx;have nG:i<sts.length:=by rw[aa] at hi;lia
 let⟨st,f8⟩: ∃st,sts[i]? =some st:=#[_,ae nG]
 have kY:iV (sts.map bN) (0+(i:Int))=some (bN st):=by rw[bA];show fK (by rw[az,f8];rfl)
 have HF:lG (sts.map bN) (some (0+(i:Int)+1)) none=(sts.drop (i+1)).map bN:=by rw[bA,vc,List.map_drop]
 have Hb: ∀bD∈sts.drop (i+1),bD∈sts:=λbD h=>List.mem_of_mem_drop h;have hm:=ar f8;have oE:=(BV (sts:=sts.drop (i+1)) (D:=7748) (p:=p) s0 (ff (fP.of hm).pat) λbD h=>#[fP.of (Hb bD h),DN bD (Hb bD h),trim.low fP f8 bD h]).2;dsimp? [kY,HF];exact#[sts.drop (i+1),st,s,rfl,λbD h=>#[((fP.of (Hb bD h)).zu s0 (DN bD (Hb bD h))).ne,DN bD (Hb bD h)],DN st hm,s0, ∅,?_];rw[oE];exact#[true,true,rfl,rfl,?_];dsimp? [];show hN _ _ #[_,rfl,rfl];rintro ρ M' ⟨o,rfl,rfl⟩;dsimp? [Ar];have hz:aV.length<=sizeLine:=big ∅;have Rq:=aS (show(sts.length:Int) <=8 by lia) (show 0<=7748+s by lia);exact gj (λ_:Pt=>wb true) hz (λM s=>s _ _ Ar) ?_ λr hr=> ?_;intro pt pR M3 N s3 hN;dsimp? [];exact#[p,s,7748,60,62108,sts,pt,rfl,hp,s0,s8,fP,(pS pt pR).1,(pS pt pR).2.1,⋯,⋯,⋯, ∅,⋯, ∅,λe9 P h1 h2 tk=> ?_];dsimp? [];exact Ay (b:= []) (tk.Vf hp s0 fP h1 (Lj.sp pt pR)) ?_;dsimp? [];show hN;have QH: ∀l:fk Pt,((l.map λ_=>true).all id)=true:=λl=>by rw[c8];intro b hb;let⟨_,_,rfl⟩:=af.mp hb;rfl
 exact rf (bs:=aV.map λ_=>true) (by rw[au,aE];rfl) ?_;rw[QH];have K7:um M' r (.lst (aV.map λ_=>wb true)) u=some (.lst (aV.map bN)):=by rw[aJ (cY Ar hr)];show Ar
 generalize um M' r (.lst (aV.map λ_=>wb true))=M8 at K7 ⊢;dsimp? [K7];intro r2 KJ;rw[show lG (aV.map bN) none (some 3)=(aV.take 3).map bN by rw[HQ _ _ ⋯,List.map_take];rfl];have Ut: ∀pt∈aV.take 3,pt∈aV:=λpt h=>List.mem_of_mem_take h;have U4:um M8 r2 (.lst ((aV.take 3).map bN)) u=some (.lst (aV.map bN)):=by rw[aJ (cY K7 KJ)];show K7
 exact gj (λ_:Pt=>wb true) (aT (by rw[bg];lia) hz) (λM s=>s _ _ au) ?_ λr3 KI=> ?_;intro pt pR M3 N s3 hN;have ZC:=pS pt (Ut pt pR);dsimp? [];exact#[p,s,7748,60,62108,zd s,15497,sts,pt,rfl,hp,s0,s8,fP,trim,ZC.1,ZC.2.1,⋯,⋯,⋯, ∅,⋯, ∅,Lj.sp pt (Ut pt pR), ∅,λ_ x hx=>(Vk s0 s8 ZC.2.1).1 x hx,hL,⋯,aT (dv _ (Nat.mul_le_mul hn8 (show(2*(zd s:Int)+1).toNat<=121 by lia))) ⋯,?_];dsimp? [];show hN;exact rf (bs:=(aV.take 3).map λ_=>true) (by rw[au,aE];rfl) ?_;rw[QH];have Hw:um (um M8 r2 (.lst ((aV.take 3).map bN))) r3 (.lst ((aV.take 3).map λ_=>wb true)) u=some (.lst (aV.map bN)):=by rw[aJ (cY U4 KI)];show U4
 generalize um (um M8 r2 (.lst ((aV.take 3).map bN))) r3 (.lst ((aV.take 3).map λ_=>wb true))=M10 at Hw ⊢;dsimp? [Hw];exact gj (λ_:Pt=>wb true) hz (λM s=>s _ _ Hw) ?_ λr4 hr4=> ?_;intro pt pR M3 N s3 hN;dsimp? [];exact#[p,s,7748,60,sts,pt,rfl,hp,s0,s8,fP,(pS pt pR).1,(pS pt pR).2.1,⋯,⋯,⋯, ∅,Lj.sp pt pR,?_];dsimp? [];exact Ay (a:= []) (b:= []) rfl ?_;dsimp? [];show hN;exact rf (bs:=aV.map λ_=>true) (by rw[au,aE];rfl) ?_;rw[QH]
end jd
namespace jd
open PySem L2 WL WQ PyProof.Rows
theorem walk {l:W.OpenLaw}{d:DefRec}{K:Params ->Ug}(hn:l.most=some 63)(UW:d.params.defaults= [])(hY: ∀ (w:World) (h:Heap),YP w h ->(K w.params).In h)(nm:d.name= "law")(F: ∀ (w:World) (mg:Str ->fG fm) (h:Heap),(K w.params).In h ->h.Ns mainGlobals mg -> ∃A,jT (K w.params) mg A): W.WalkO q uB XP YP l.row.toRowW d [] (λf vs=>PySem.call f vs):=L2.Jk (n:=63) (k:=8) (x:= "_law_script") (CX:=λ_=>iq) (sp:=λw=>xn (K w.params)) hn ⋯ UW #[rfl,⋯,⋯] hY (λw mg fa h X G e=>(F w mg h X G).elim λ_ T=>PD T.law (nm▸e) (λ_ _ _ _ _ _ _=>rfl) λ_=>Pc T) (λ_ _ a ns hl _ hS=>#[a,ns,rfl,hS,λ_=>rfl]) λ_ _ _ _ _ z=>z
end jd
end
def PySem.W.Fast.tw4366721917064549250:Nat:=0
def PySem.W.Fast.tw3527303529718959351:Nat:=0
def PySem.W.Fast.tw9932036387950402289:Nat:=0
def PySem.W.Fast.tw7793688953661646803:Nat:=0
def PySem.W.Fast.tw1073942345956840062:Nat:=0
def PySem.W.Fast.tw8962929842874928826:Nat:=0
def PySem.W.Fast.tw7469427342338727158:Nat:=0
def PySem.W.Fast.tw17484025930839890238:Nat:=0
def PySem.W.Fast.tw9622760743685321900:Nat:=0
def PySem.W.Fast.tw5647400763420982484:Nat:=0
def PySem.W.Fast.tw11173010072439518339:Nat:=0
def PySem.W.Fast.tw15731126199722672287:Nat:=0
def PySem.W.Fast.tw15164517817586393930:Nat:=0
def PySem.W.Fast.tw1625104593376595309:Nat:=0
def PySem.W.Fast.tw1557846609002723921:Nat:=0
def PySem.W.Fast.tw14883948089474715113:Nat:=0
def PySem.W.Fast.tw9048187396559287602:Nat:=0
def PySem.W.Fast.tw2103432010648201444:Nat:=0
def PySem.W.Fast.tw5897973865309301564:Nat:=0
def PySem.W.Fast.tw12740369148665774337:Nat:=0
def PySem.W.Fast.tw1618723894136319744:Nat:=0
def PySem.W.Fast.tw11152092087651340769:Nat:=0
def PySem.W.Fast.tw15741269098340074616:Nat:=0
def PySem.W.Fast.tw11069683623859833337:Nat:=0
def PySem.W.Fast.tw7968755146530716159:Nat:=0
def PySem.W.Fast.tw13446922769550481780:Nat:=0
def PySem.W.Fast.tw6650891315149523930:Nat:=0
def PySem.W.Fast.tw1730907230255695372:Nat:=0
def PySem.W.Fast.tw17044236850469052967:Nat:=0
def PySem.W.Fast.tw16794631320769007651:Nat:=0
def PySem.W.Fast.tw12497828065886251652:Nat:=0
def PySem.W.Fast.tw8132093044143480590:Nat:=0
def PySem.W.Fast.tw7308406137904216446:Nat:=0
def PySem.W.Fast.tw17489894905369770672:Nat:=0
def PySem.W.Fast.tw11735206539156591559:Nat:=0
def PySem.W.Fast.tw12557146081521415092:Nat:=0
def PySem.W.Fast.tw18028569254593159:Nat:=0
def PySem.W.Fast.tw13133960437813180548:Nat:=0
def PySem.W.Fast.tw1285528071177656721:Nat:=0
def PySem.W.Fast.tw6717600417386532699:Nat:=0
def PySem.W.Fast.tw1271067937136740480:Nat:=0
def PySem.W.Fast.tw10135963911691059138:Nat:=0
def PySem.W.Fast.tw17813401990866132432:Nat:=0
def PySem.W.Fast.tw7086779952406521954:Nat:=0
def PySem.W.Fast.tw8284034778273298504:Nat:=0
def PySem.W.Fast.tw6590023053391493996:Nat:=0
def PySem.W.Fast.tw5328270854963896520:Nat:=0
def PySem.W.Fast.tw12773822033139213440:Nat:=0
def PySem.W.Fast.tw9552442794599930531:Nat:=0
def PySem.W.Fast.tw9406330442271468023:Nat:=0
def PySem.W.Fast.tw7770089911249472761:Nat:=0
def PySem.W.Fast.tw14579085141585567558:Nat:=0
def PySem.W.Fast.tw6979757196302124359:Nat:=0
def PySem.W.Fast.tw4098119017479691520:Nat:=0
def PySem.W.Fast.tw2267224188949234239:Nat:=0
def PySem.W.Fast.tw15326303579786796363:Nat:=0
def PySem.W.Fast.tw16705046260859487468:Nat:=0
def PySem.W.Fast.tw9955298914543657261:Nat:=0
def PySem.W.Fast.tw17235971830446069301:Nat:=0
def PySem.W.Fast.tw18188984425498499422:Nat:=0
def PySem.W.Fast.tw17345362019158802145:Nat:=0
def PySem.W.Fast.tw15725363426123076940:Nat:=0
def PySem.W.Fast.tw1156072901376423631:Nat:=0
def PySem.W.Fast.tw4349614753717089225:Nat:=0
def PySem.W.Fast.tw8549225577096859379:Nat:=0
def PySem.W.Fast.tw8838112237340347186:Nat:=0
def PySem.W.Fast.tw12480462214694680592:Nat:=0
def PySem.W.Fast.tw6311487842985303490:Nat:=0
def PySem.W.Fast.tw3660638573065560372:Nat:=0
def PySem.W.Fast.tw6464180334806759483:Nat:=0
def PySem.W.Fast.tw15441368320196781082:Nat:=0
def PySem.W.Fast.tw12396880886679072966:Nat:=0
def PySem.W.Fast.tw16407614936583877892:Nat:=0
def PySem.W.Fast.tw6118011329229918784:Nat:=0
def PySem.W.Fast.tw613191529569088183:Nat:=0
def PySem.W.Fast.tw15923529926606396553:Nat:=0
def PySem.W.Fast.tw5275451119072330227:Nat:=0
def PySem.W.Fast.tw7525752035962374168:Nat:=0
def PySem.W.Fast.tw1812368813499971935:Nat:=0
def PySem.W.Fast.tw14129900395571547937:Nat:=0
def PySem.W.Fast.tw982839267484744519:Nat:=0
def PySem.W.Fast.tw17794755650026913022:Nat:=0
def PySem.W.Fast.tw7045554015713261441:Nat:=0
def PySem.W.Fast.tw7976379872935954262:Nat:=0
open PySem PySem.W PyProof.Rows L2
set_option maxRecDepth 100000 in
set_option maxHeartbeats 0 in
theorem PySem.Challenge.cw_duskround_k21_stairs_made_of_patterns_holds : PySem.Challenge.rw_duskround_k21_stairs_made_of_patterns.Holds := by
 w_on;o_law;k_head;(case hw=>w_witness2)
 k_fill
 refine jd.walk (l:=PySem.Challenge.rw_duskround_k21_stairs_made_of_patterns) rfl rfl (λw h Y=>PySem.W.kIn_of Y) rfl λw mg h X G=> ?_
 have' QT:=cI (x:= "tidy") (ps:= ["p","pairs"]) (st:=jd.zx) X G ?g16 ?g17 ?g18 ?g19;(case g16 | g17 | g18 | g19=>k_is);have' Ev:=cI (x:= "inverse") (ps:= ["p","setting"]) (st:=jd.ur) X G ?g20 ?g21 ?g22 ?g23;(case g20 | g21 | g22 | g23=>k_is);have' Ir:=HV (x:= "Row") (ps:= ["self","lamps","parts"]) (st:=jd.Mh) X G ?g24 ?g25 ?g26 ?g27 ?g28 ?g29 ?g30 ?g31 ?g32 ?g33 ?g34 ?g35;(case g24 | g25 | g26 | g27 | g28 | g29 | g30 | g31 | g32 | g33 | g34 | g35=>k_is);have' me:=HV (x:= "Stair") (ps:= ["self","row","first","length","foot"]) (st:=jd.Br) X G ?g36 ?g37 ?g38 ?g39 ?g40 ?g41 ?g42 ?g43 ?g44 ?g45 ?g46 ?g47;(case g36 | g37 | g38 | g39 | g40 | g41 | g42 | g43 | g44 | g45 | g46 | g47=>k_is);have' Iq:=cI (x:= "column") (ps:= ["place","stride"]) (st:=jd.xv) X G ?g48 ?g49 ?g50 ?g51;(case g48 | g49 | g50 | g51=>k_is);have' tz:=cI (x:= "first_column") (ps:= ["places","stride"]) (st:=jd.jo) X G ?g52 ?g53 ?g54 ?g55;(case g52 | g53 | g54 | g55=>k_is);have' Ew:=cI (x:= "heights") (ps:= ["places","stride","first"]) (st:=jd.lQ) X G ?g56 ?g57 ?g58 ?g59;(case g56 | g57 | g58 | g59=>k_is);have' AN:=cI (x:= "measured") (ps:= ["stride","stair"]) (st:=jd.mY) X G ?g60 ?g61 ?g62 ?g63;(case g60 | g61 | g62 | g63=>k_is);have' VB:=cI (x:= "low") (ps:= ["stride","stairs","pattern"]) (st:=jd.Bp) X G ?g64 ?g65 ?g66 ?g67;(case g64 | g65 | g66 | g67=>k_is);have' t7:=cI (x:= "add_shifted") (ps:= ["p","held","others","by","n"]) (st:=jd.mC) X G ?g68 ?g69 ?g70 ?g71;(case g68 | g69 | g70 | g71=>k_is);have' yU:=cI (x:= "add_moved") (ps:= ["p","stride","row","other","shift","n"]) (st:=jd.p_) X G ?g72 ?g73 ?g74 ?g75;(case g72 | g73 | g74 | g75=>k_is);have' oY:=cI (x:= "too_high_or_low") (ps:= ["found","length"]) (st:=jd.jM) X G ?g76 ?g77 ?g78 ?g79;(case g76 | g77 | g78 | g79=>k_is);have' VE:=cI (x:= "cut") (ps:= ["p","stride","row","stair"]) (st:=jd.Mg) X G ?g80 ?g81 ?g82 ?g83;(case g80 | g81 | g82 | g83=>k_is);have' LB:=cI (x:= "stood") (ps:= ["p","stride","row"]) (st:=jd.Bo) X G ?g84 ?g85 ?g86 ?g87;(case g84 | g85 | g86 | g87=>k_is);have' wP:=cI (x:= "told_parts") (ps:= ["p","parts","n"]) (st:=jd.kz) X G ?g88 ?g89 ?g90 ?g91;(case g88 | g89 | g90 | g91=>k_is);have' LA:=cI (x:= "taken") (ps:= ["p","stride","stairs","pattern"]) (st:=jd.Bn) X G ?g92 ?g93 ?g94 ?g95;(case g92 | g93 | g94 | g95=>k_is);have' Eo:=cI (x:= "rest_of") (ps:= ["p","stride","stairs","pattern"]) (st:=jd.uo) X G ?g96 ?g97 ?g98 ?g99;(case g96 | g97 | g98 | g99=>k_is);have' En:=cI (x:= "take_in") (ps:= ["p","stride","held","row"]) (st:=jd.ul) X G ?g100 ?g101 ?g102 ?g103;(case g100 | g101 | g102 | g103=>k_is);have' Ep:=cI (x:= "lie_low") (ps:= ["p","stride","held"]) (st:=jd.uq) X G ?g104 ?g105 ?g106 ?g107;(case g104 | g105 | g106 | g107=>k_is);have' LF:=cI (x:= "built") (ps:= ["p","stride","patterns"]) (st:=jd.qQ) X G ?g108 ?g109 ?g110 ?g111;(case g108 | g109 | g110 | g111=>k_is);have' Eu:=cI (x:= "_law_begin") (ps:= ["_law_script"]) (st:=jd.pD) X G ?g112 ?g113 ?g114 ?g115;(case g112 | g113 | g114 | g115=>k_is);have' Im:=cI (x:= "_law_take") (ps:= ["_law_draw","_law_many"]) (st:=jd.xr) X G ?g116 ?g117 ?g118 ?g119;(case g116 | g117 | g118 | g119=>k_is);have' VD:=cI (x:= "_law_p") (ps:= ["_law_draw"]) (st:=jd.Mf) X G ?g120 ?g121 ?g122 ?g123;(case g120 | g121 | g122 | g123=>k_is);have' Il:=cI (x:= "_law_tidy") (ps:= ["_law_p_here","_law_pairs"]) (st:=jd.rP) X G ?g124 ?g125 ?g126 ?g127;(case g124 | g125 | g126 | g127=>k_is);have' yT:=cI (x:= "_law_pattern") (ps:= ["_law_draw","_law_p_here","_law_most","_law_far"]) (st:=jd.p9) X G ?g128 ?g129 ?g130 ?g131;(case g128 | g129 | g130 | g131=>k_is);have' oZ:=cI (x:= "_law_draw_patterns") (ps:= ["_law_draw","_law_p_here","_law_most"]) (st:=jd.gT) X G ?g132 ?g133 ?g134 ?g135;(case g132 | g133 | g134 | g135=>k_is);have' LC:=cI (x:= "_law_sum") (ps:= ["_law_p_here","_law_one","_law_other","_law_by","_law_many"]) (st:=jd.vG) X G ?g136 ?g137 ?g138 ?g139;(case g136 | g137 | g138 | g139=>k_is);have' AO:=cI (x:= "_law_column") (ps:= ["_law_place","_law_stride"]) (st:=jd.rQ) X G ?g140 ?g141 ?g142 ?g143;(case g140 | g141 | g142 | g143=>k_is);have' Et:=cI (x:= "_law_first") (ps:= ["_law_stride","_law_pattern_here"]) (st:=jd.pC) X G ?g144 ?g145 ?g146 ?g147;(case g144 | g145 | g146 | g147=>k_is);have' Er:=cI (x:= "_law_spots") (ps:= ["_law_stride","_law_pattern_here","_law_at_here"]) (st:=jd.pA) X G ?g148 ?g149 ?g150 ?g151;(case g148 | g149 | g150 | g151=>k_is);have' Io:=cI (x:= "_law_size") (ps:= ["_law_stride","_law_stair"]) (st:=jd.xt) X G ?g152 ?g153 ?g154 ?g155;(case g152 | g153 | g154 | g155=>k_is);have' QU:=cI (x:= "_law_at") (ps:= ["_law_pattern_here","_law_place"]) (st:=jd.FF) X G ?g156 ?g157 ?g158 ?g159;(case g156 | g157 | g158 | g159=>k_is);have' LD:=cI (x:= "_law_int") (ps:= ["_law_thing"]) (st:=jd.Bq) X G ?g160 ?g161 ?g162 ?g163;(case g160 | g161 | g162 | g163=>k_is);have' tq:=cI (x:= "_law_is_pattern") (ps:= ["_law_p_here","_law_thing"]) (st:=jd.k9) X G ?g164 ?g165 ?g166 ?g167;(case g164 | g165 | g166 | g167=>k_is);have' tw:=cI (x:= "_law_are_stairs") (ps:= ["_law_p_here","_law_stride","_law_thing"]) (st:=jd.k_) X G ?g168 ?g169 ?g170 ?g171;(case g168 | g169 | g170 | g171=>k_is);have' wQ:=cI (x:= "_law_lies_low") (ps:= ["_law_stride","_law_stairs","_law_pattern_here"]) (st:=jd.nS) X G ?g172 ?g173 ?g174 ?g175;(case g172 | g173 | g174 | g175=>k_is);have' qO:=cI (x:= "_law_trim_stairs") (ps:= ["_law_stride","_law_stairs"]) (st:=jd.iR) X G ?g176 ?g177 ?g178 ?g179;(case g176 | g177 | g178 | g179=>k_is);have' tZ:=cI (x:= "_law_are_parts") (ps:= ["_law_p_here","_law_stride","_law_many","_law_thing"]) (st:=jd.jX) X G ?g180 ?g181 ?g182 ?g183;(case g180 | g181 | g182 | g183=>k_is);have' tY:=cI (x:= "_law_put_parts") (ps:= ["_law_p_here","_law_stride","_law_bases","_law_parts"]) (st:=jd.jW) X G ?g184 ?g185 ?g186 ?g187;(case g184 | g185 | g186 | g187=>k_is);have' tf:=cI (x:= "_law_taken_down") (ps:= ["_law_p_here","_law_stride","_law_stairs","_law_pattern_here"]) (st:=jd.k8) X G ?g188 ?g189 ?g190 ?g191;(case g188 | g189 | g190 | g191=>k_is);have' Es:=cI (x:= "_law_lower") (ps:= ["_law_p_here","_law_stride","_law_stair","_law_pattern_here"]) (st:=jd.pB) X G ?g192 ?g193 ?g194 ?g195;(case g192 | g193 | g194 | g195=>k_is);have' Ip:=cI (x:= "_law_rest") (ps:= ["_law_p_here","_law_stride","_law_stairs","_law_pattern_here"]) (st:=jd.xu) X G ?g196 ?g197 ?g198 ?g199;(case g196 | g197 | g198 | g199=>k_is);have' VC:=cI (x:= "law") (ps:= ["_law_script"]) (st:=jd.rO) X G ?g200 ?g201 ?g202 ?g203;(case g200 | g201 | g202 | g203=>k_is);have' yS:=r8 Ir "lamps" ?n_Row_lamps;(case n_Row_lamps=>k_is);have' yR:=r8 Ir "parts" ?n_Row_parts;(case n_Row_parts=>k_is);have' tW:=r8 me "first" ?n_Stair_first;(case n_Stair_first=>k_is);have' wO:=r8 me "foot" ?n_Stair_foot;(case n_Stair_foot=>k_is);have' tV:=r8 me "lamps" ?n_Stair_lamps;(case n_Stair_lamps=>k_is);have' sZ:=r8 me "length" ?n_Stair_length;(case n_Stair_length=>k_is);have' tU:=r8 me "parts" ?n_Stair_parts;(case n_Stair_parts=>k_is)
 refine' ⟨⟨_,_,_,_,_,_,_,_,_,_,_,_,_,_,_,_,_,_,_,_,_,_,_,_,_,_,_,_,_,_,_,_,_,_,_,_,_,_,_,_,_,_,_,_,_,_,_,_,_,_,_,_,_,_,_,_,_,_,_,_,_,_,_,_,_,_,_,_,_,_,_,_,_,_,_,_,_,_,_,_,_,_,_,_,_,_,_,_⟩,bX X G ?g1,bX X G ?g2,bX X G ?g3,bX X G ?g4,bX X G ?g5,bX X G ?g6,bX X G ?g7,bX X G ?g8,bX X G ?g9,bX X G ?g10,bX X G ?g11,bX X G ?g12,bX X G ?g13,bX X G ?g14,bX X G ?g15,QT,Ev,Ir,me,Iq,tz,Ew,AN,VB,t7,yU,oY,VE,LB,wP,LA,Eo,En,Ep,LF,Eu,Im,VD,Il,yT,oZ,LC,AO,Et,Er,Io,QU,LD,tq,tw,wQ,qO,tZ,tY,tf,Es,Ip,VC,yS,yR,tW,wO,tV,sZ,tU⟩
 (case g1 | g2 | g3 | g4 | g5 | g6 | g7 | g8 | g9 | g10 | g11 | g12 | g13 | g14 | g15=>k_is)
