import PyProof.Rows.All
import Wide.All
import OpenK.AllK
import Wide.FinOn
import Lean
import PyProof.EqAt
import PyProof.EqKinds
import PyProof.TupleCall
import PyProof.NeKinds
import PyProof.SumAny
import PyProof.ConsumeS
import PyProof.WalkInts
import PyProof.Draws
import PyProof.EnumMake
import PyProof.Rows.Range3
import PyProof.MeetsStr
import KE.KDictLaws
import PyProof.Rows.CallKwBuiltin
import PyProof.DictItems
import KE.KPairComp
import PyProof.AttrMissHeap
import KE.KDictOf
import KE.KItemsList
import KE.KTryMore
import PyProof.StrBlockG
import PyProof.StrWalks
import PyProof.Rows.SortStr
import PyProof.Rows.SortKeyStr
import KE.KIntText
import PyProof.Rows.StrItems
import KE.KUnpackStar
import PyProof.ZipIter
import PyProof.Rows.StrLawsPart
import PyProof.StrLawsNeg
import PyProof.Rows.StrFirst
import PySem.Challenge.RW_duskround_k48_questions_refused
set_option linter.all false
set_option genSizeOf false
set_option genInjectivity false
abbrev cz:=@List
abbrev cG:=@PySem.Value
abbrev cL:=@PySem.Shared
abbrev cT:=@Option
abbrev dw:=@PySem.Addr
abbrev eI:=@PyProof.Rows.Keyed
abbrev ft:=@Array
abbrev gg:=@PySem.W.Frag
abbrev gA:=@PySem.Program
abbrev gB:=@PySem.World
abbrev gC:=@PySem.Heap
abbrev gM:=@PyProof.Rows.SortSt
abbrev gN:=@PySem.FuncData
abbrev hV:=@PySem.Around
def af:=@PySem.wpAny_bind
def ah:=@if_neg
def ai:=@PySem.Heap.get?_push_of_some
def aj:=@if_pos
def ak:=@Nat.le_refl
def ao:=@List.length_map
def ar:=@eq_true
def au:=@PyProof.Rows.wpS_bind
def av:=@Bool.false_eq_true
def aw:=@List.getElem?_eq_getElem
def ax:=@PySem.Heap.lt_size
def az:=@List.map_cons
def aA:=@PyProof.Rows.wpS_pure
def aB:=@List.getElem?_eq_some_iff
def aC:=@PySem.wpAny_pure
def aF:=@List.size_toArray
def aG:=@List.getElem?_map
def aH:=@Nat.le_trans
def aI:=@List.length_cons
def aJ:=@PySem.Heap.get?_push_size
def aK:=@List.mem_singleton
def aL:=@List.mem_cons
def aM:=@List.mem_append_right
def aN:=@Nat.ne_of_lt
def aO:=@List.getElem?_append_right
def aQ:=@Bool.false_ne_true
def aU:=@List.getElem?_append_left
def aV:=@List.length_append
def aW:=@Option.some.inj
def aY:=@List.mem_of_getElem?
def a4:=@Nat.lt_of_lt_of_le
def a9:=@PySem.wpAny_mono
def bg:=@decide_eq_false
def bh:=@List.mem_append
def bp:=@if_false
def br:=@List.take_append_drop
def bw:=@List.map_map
def bz:=@List.append_assoc
def bA:=@List.map_append
def bB:=@Array.toList_append
def bD:=@Ne.symm
def bI:=@PySem.W.mg_none_of
def bJ:=@if_true
def bL:=@List.map_nil
def bM:=@List.length_take
def bS:=@PyProof.Rows.wpS_forRange
def bT:=@Array.length_toList
def bY:=@PySem.sizeLine_eq
def b_:=@decide_eq_true
def cb:=@List.pairwise_cons
def cc:=@List.mem_cons_of_mem
def ce:=@Nat.lt_irrefl
def cf:=@Bool.not_true
def cF:=@Bool.not_false
def cH:=@List.find?_cons
def cI:=@List.append_nil
def cN:=@Nat.zero_le
def cO:=@List.pairwise_append
def cP:=@List.getElem?_replicate
def cU:=@PySem.mem_of_lookup
def cY:=@List.nodup_cons
def cZ:=@List.drop_eq_getElem_cons
def c4:=@PySem.wpAny_truthy_bool
def c7:=@List.perm_append_comm
inductive bX {T0 T1:Type}(P:T0 ->T1 ->Prop):Prop | mk (x0:T0) (x1:T1) (h:P x0 x1):bX P
inductive dY {T0 T1 T2:Type}(P:T0 ->T1 ->T2 ->Prop):Prop | mk (x0:T0) (x1:T1) (x2:T2) (h:P x0 x1 x2):dY P
inductive gs {T0 T1 T2 T3:Type}(P:T0 ->T1 ->T2 ->T3 ->Prop):Prop | mk (x0:T0) (x1:T1) (x2:T2) (x3:T3) (h:P x0 x1 x2 x3):gs P
inductive rN {T0 T1 T2 T3 T4:Type}(P:T0 ->T1 ->T2 ->T3 ->T4 ->Prop):Prop | mk (x0:T0) (x1:T1) (x2:T2) (x3:T3) (x4:T4) (h:P x0 x1 x2 x3 x4):rN P
inductive PK {T0 T1 T2 T3 T4 T5:Type}(P:T0 ->T1 ->T2 ->T3 ->T4 ->T5 ->Prop):Prop | mk (x0:T0) (x1:T1) (x2:T2) (x3:T3) (x4:T4) (x5:T5) (h:P x0 x1 x2 x3 x4 x5):PK P
inductive XE7 {T0 T1 T2 T3 T4 T5 T6:Type}(P:T0 ->T1 ->T2 ->T3 ->T4 ->T5 ->T6 ->Prop):Prop | mk (x0:T0) (x1:T1) (x2:T2) (x3:T3) (x4:T4) (x5:T5) (x6:T6) (h:P x0 x1 x2 x3 x4 x5 x6):XE7 P
inductive Up {T0 T1 T2 T3 T4 T5 T6 T7:Type}(P:T0 ->T1 ->T2 ->T3 ->T4 ->T5 ->T6 ->T7 ->Prop):Prop | mk (x0:T0) (x1:T1) (x2:T2) (x3:T3) (x4:T4) (x5:T5) (x6:T6) (x7:T7) (h:P x0 x1 x2 x3 x4 x5 x6 x7):Up P
inductive cg (P0 P1 P2:Prop):Prop | mk (Tu:P0) (Pf:P1) (Pe:P2):cg P0 P1 P2
inductive eZ (P0 P1 P2 P3:Prop):Prop | mk (Tu:P0) (Pf:P1) (Pe:P2) (VW:P3):eZ P0 P1 P2 P3
inductive d9 (P0 P1 P2 P3 P4:Prop):Prop | mk (Tu:P0) (Pf:P1) (Pe:P2) (VW:P3) (YY:P4):d9 P0 P1 P2 P3 P4
inductive oq (P0 P1 P2 P3 P4 P5:Prop):Prop | mk (Tu:P0) (Pf:P1) (Pe:P2) (VW:P3) (YY:P4) (hP5:P5):oq P0 P1 P2 P3 P4 P5
inductive PL (P0 P1 P2 P3 P4 P5 P6:Prop):Prop | mk (Tu:P0) (Pf:P1) (Pe:P2) (VW:P3) (YY:P4) (hP5:P5) (hP6:P6):PL P0 P1 P2 P3 P4 P5 P6
inductive MJ (P0 P1 P2 P3 P4 P5 P6 P7:Prop):Prop | mk (Tu:P0) (Pf:P1) (Pe:P2) (VW:P3) (YY:P4) (hP5:P5) (hP6:P6) (hP7:P7):MJ P0 P1 P2 P3 P4 P5 P6 P7
set_option Elab.async false
set_option maxRecDepth 100000
set_option genSizeOf false
set_option genInjectivity false
local macro_rules | `(∅) => `(by lia)
local macro_rules | `(⇑$x) => `(by simpa using $x)
set_option compiler.extract_closed false
noncomputable section
local macro_rules|`(⋯)=>`(by decide)
local macro_rules|`(tactic|symm)=>`(tactic|constructor)
local macro_rules|`(tactic|exact $e)=>`(tactic|refine $e)
local macro_rules|`(tactic|show $e)=>`(tactic|refine $e)
local macro_rules|`(def $i $s:optDeclSig:=by $v)=>do let d:=Lean.mkNode ``Lean.Parser.Command.declSig #[s.raw[0],s.raw[1][0]];`(theorem $i $(⟨d⟩):declSig:=by $v)|`(def $i $s:optDeclSig $v:declVal)=>`(noncomputable def $i $s:optDeclSig $v:declVal)|`(abbrev $i $s:optDeclSig $v:declVal)=>`(noncomputable abbrev $i $s:optDeclSig $v:declVal)
local macro_rules|`(tactic|let $p:term$[:$t]?:=$e)=>do let r:=p.raw.rewriteBottomUp (λs=>let k:=s.getKind;if s.isIdent then Lean.mkNode `Lean.Parser.Tactic.rcasesPat.one #[s] else if k==`Lean.Parser.Term.hole then Lean.mkNode `Lean.Parser.Tactic.rcasesPat.ignore s.getArgs else if k==`Lean.Parser.Term.anonymousCtor then Lean.mkNode `Lean.Parser.Tactic.rcasesPat.tuple (s.getArgs.modify 1 λa=>.node .none `null (a.getArgs.map λq=>if q.isAtom then q else Lean.mkNode `Lean.Parser.Tactic.rcasesPatLo #[Lean.mkNode `Lean.Parser.Tactic.rcasesPatMed #[Lean.mkNullNode #[q]],Lean.mkNullNode])) else s);`(tactic|obtain $(⟨Lean.mkNode `Lean.Parser.Tactic.rcasesPatMed #[Lean.mkNullNode #[r]]⟩):rcasesPatMed$[:$t]?:=$e)
local macro_rules|`(tactic|simp![$x,*]$[$l]?)=>`(tactic|simp only[$x,*]$[$l]?)
local macro_rules|`(#[$x,$y])=>`(⟨$x,$y⟩)|`(#[$x,$y,$z,*])=>`(⟨$x,$y,$z,*⟩)
namespace TS
open PySem PyProof.Rows
def LE (less:eI ->eI ->Bool)(x y:eI):Prop:=less y x=false
structure Ord (less:Keyed ->Keyed ->Bool):Prop where
 Um: ∀x y,less x y=true ->less y x=false
 trans: ∀x y z,LE less x y ->LE less y z ->LE less x z
section
variable {less:eI ->eI ->Bool}
def Ord.refl (O:Ord less)(x:eI):LE less x x:=by
 unfold LE;cases h:less x x with
 | false=>rfl
 | true=>show(O.Um x x h).symm.trans h▸rfl
theorem Ord.le (O:Ord less){x y:eI}(h:less x y=true):LE less x y:=O.Um x y h
def Ord.SK (O:Ord less){x y z:eI}(h:LE less x y)(h':less y z=true):less x z=true:=by
 cases e:less x z with
 | true=>rfl
 | false=>have:=O.trans z x y e h;unfold LE at this;rw[h'] at this;cases this
end
def bV (xs:ft eI)(i:Nat):eI:=(xs[i]?).getD (.none, .none)
def He {xs:ft eI}{i:Nat}(h:i<xs.size):xs[i]? =some (bV xs i):=by unfold bV;rw[getElem?_pos xs i h];rfl
def ip {xs ys:ft eI}{i j:Nat}(h:xs[i]? =ys[j]?):bV xs i=bV ys j:=by unfold bV;rw[h]
def vX {xs:ft eI}{i:Nat}(h:i<xs.size):bV xs i∈xs.toList:=by unfold bV;rw[getElem?_pos xs i h];simp
def Sg (less:eI ->eI ->Bool)(xs:ft eI)(lo hi:Nat):Prop:= ∀i j,lo<=i ->i<=j ->j<hi ->LE less (bV xs i) (bV xs j)
def Ng (less:eI ->eI ->Bool)(xs:ft eI)(lo hi:Nat):Prop:= ∀i j,lo<=i ->i<=j ->j<hi ->LE less (bV xs j) (bV xs i)
structure SB (kd:SortKind)(a₀:Array Keyed)(st:SortSt):Prop where
 perm:(arrOf st).Perm a₀
 kd:kindOf st=kd
 fl:failedOf st=none
theorem SB.size {kd:SortKind}{a₀:ft eI}{st:gM}(h:SB kd a₀ st):(arrOf st).size=a₀.size:=h.perm.size_eq
theorem SB.mem {kd:SortKind}{a₀:ft eI}{st:gM}(h:SB kd a₀ st){i:Nat}(hi:i<a₀.size):bV (arrOf st) i∈a₀.toList:=(Array.perm_iff_toList_perm.mp h.perm).mem_iff.mp (vX (by rw[h.size];show hi))
theorem SB.arr {kd:SortKind}{a₀:ft eI}{st:gM}(h:SB kd a₀ st){xs:ft eI}(hp:xs.Perm (arrOf st)):SB kd a₀ (setArr st xs):=#[hp.trans h.perm,h.kd,h.fl]
def gt (prog:gA)(w:gB)(A:hV)(E:cG ->cL ->Prop)(s:cL)(kd:SortKind)(a₀:ft eI)(less:eI ->eI ->Bool):Prop:=∀ (x y:eI) (st:gM) (Q:cT Bool ->gM ->Prop),x∈a₀.toList ->y∈a₀.toList ->kindOf st=kd ->Q (some (less x y)) st ->wpS (model prog w) A E s (lt' x y) Q st
section
variable {prog:gA}{w:gB}{A:hV}{E:cG ->cL ->Prop}{s:cL}{kd:SortKind}{a₀:ft eI}{less:eI ->eI ->Bool}
def wp_elem {xs:ft eI}{i:Nat}{Q:eI ->gM ->Prop}{st:gM}(hi:i<xs.size)(h:Q (bV xs i) st):wpS (model prog w) A E s (elem' xs i) Q st:=by rw[elem'_eq,He hi];show aA h
def wp_lt (L:gt prog w A E s kd a₀ less){st:gM}{i j:Nat}{Q:cT Bool ->gM ->Prop}(B:SB kd a₀ st)(hi:i<a₀.size)(hj:j<a₀.size) (h:Q (some (less (bV (arrOf st) i) (bV (arrOf st) j))) st):wpS (model prog w) A E s (ltAt' i j) Q st:=by rw[ltAt'_eq];exact au (wpS_get ?_);show au (wp_elem (by rw[B.size];show hi) (au (wp_elem (by rw[B.size];show hj) (L _ _ _ _ (B.mem hi) (B.mem hj) B.kd h))))
def wp_rev {st:gM}{i j:Nat}{Q:Unit ->gM ->Prop}(h:Q () (setArr st (mirror (arrOf st) i j ((j - i) / 2)))):wpS (model prog w) A E s (reverseSlice' i j) Q st:=by rw[reverseSlice'_eq];show wpS_modify h
def dy {xs:ft eI}{i j:Nat}(hj:j<=xs.size)(k:Nat):bV (mirror xs i j ((j - i) / 2)) k=if i<=k /\ k<j then bV xs (i+j - 1 - k) else bV xs k:=by have e:=getElem?_mirror_all (i:=i) hj k;by_cases c:i<=k /\ k<j;rw[aj c] at e ⊢;show ip e;rw[ah c] at e ⊢;show ip e
def lz {xs:ft eI}{HF d:Nat}(hs:HF<xs.size)(hd:d<=HF)(k:Nat):bV (bubble xs HF d) k=if k=HF - d then bV xs HF else if HF - d<k /\ k<=HF then bV xs (k - 1) else bV xs k:=by have e:=getElem?_bubble hs d hd k;by_cases c:k=HF - d;rw[aj c] at e ⊢;show ip e;rw[ah c] at e ⊢;by_cases c':HF - d<k /\ k<=HF;rw[aj c'] at e ⊢;show ip e;rw[ah c'] at e ⊢;show ip e
def Hf (lo a cX:Nat):StateT gM Sem AscSt:=forIn [a:cX] ((none,a):AscSt) λ_ c=>do
 let x <- ltAt' (lo+c.snd) (lo+c.snd - 1)
 match x with
 | some b=>if b=true then pure (ForInStep.done (none,c.snd)) else pure (ForInStep.yield (none,c.snd+1))
 | _=>pure (ForInStep.done (some none,c.snd))
def wK (lo n cX:Nat):StateT gM Sem (cT Nat):=do
 reverseSlice' lo (lo+n)
 let c <- Hf lo n cX
 match c.fst with
 | some r=>pure r
 | none=>pure (some c.snd)
def Br (lo n cX:Nat):StateT gM Sem DescSt:=forIn [n:cX] ((none,n,0):DescSt) λ_ c=>do
 let x <- ltAt' (lo+c.snd.fst) (lo+c.snd.fst - 1)
 match x with
 | some b=>
  if b=true then
   if c.snd.snd >0 then do
    reverseSlice' (lo+c.snd.fst - (c.snd.snd+1)) (lo+c.snd.fst)
    pure (ForInStep.yield (none,c.snd.fst+1,0))
   else pure (ForInStep.yield (none,c.snd.fst+1,0))
  else do
   let y <- ltAt' (lo+c.snd.fst - 1) (lo+c.snd.fst)
   match y with
   | some d=>
    if d=true then pure (ForInStep.done (none,c.snd.fst,c.snd.snd))
    else pure (ForInStep.yield (none,c.snd.fst+1,c.snd.snd+1))
   | _=>pure (ForInStep.done (some none,c.snd.fst,c.snd.snd))
 | _=>pure (ForInStep.done (some none,c.snd.fst,c.snd.snd))
def xi (lo n cX:Nat):StateT gM Sem (cT Nat):=do
 liftM (rule "list.sort.descending-run")
 let c <- Br lo (n+1) cX
 match c.fst with
 | some r=>pure r
 | none=>
  if c.snd.snd >0 then do
   reverseSlice' (lo+c.snd.fst - (c.snd.snd+1)) (lo+c.snd.fst)
   wK lo c.snd.fst cX
  else wK lo c.snd.fst cX
theorem IV (lo cX:Nat):countRun' lo cX=(do
  let c <- Hf lo 1 cX
  match c.fst with
  | some r=>pure r
  | none =>
   if(c.snd==cX)=true then pure (some c.snd)
   else if c.snd >1 then do
    let x <- ltAt' lo (lo+c.snd - 1)
    match x with
    | some b=>if b=true then pure (some c.snd) else do
     reverseSlice' lo (lo+c.snd)
     xi lo c.snd cX
    | _=>pure none
   else xi lo c.snd cX):=by
 rw[countRun'_eq]
 dsimp only
 unfold xi wK Br Hf
 congr 1
 funext c
 let⟨r,n⟩:=c
 cases r with
 | some r=>rfl
 | none =>
  dsimp only;split;rfl;split;congr 1;funext x;cases x with
  | none=>rfl
  | some b=>
   dsimp only;split;rfl;congr 1;funext _r;congr 1;funext _u;congr 1;congr 1;funext s2;let⟨r2,n2,q2⟩:=s2;cases r2 with
   | some r2=>rfl
   | none=>dsimp only;split;congr 1;funext _v;congr 1;funext _w;congr 1;funext s3;let⟨r3,n3⟩:=s3;cases r3<;>rfl;congr 1;funext _w;congr 1;funext s3;let⟨r3,n3⟩:=s3;cases r3<;>rfl
  congr 1;funext _u;congr 1;congr 1;funext s2;let⟨r2,n2,q2⟩:=s2;cases r2 with
  | some r2=>rfl
  | none=>dsimp only;split;congr 1;funext _v;congr 1;funext _w;congr 1;funext s3;let⟨r3,n3⟩:=s3;cases r3<;>rfl;congr 1;funext _w;congr 1;funext s3;let⟨r3,n3⟩:=s3;cases r3<;>rfl
def pR (lo hi:Nat)(xs ys:ft eI):Prop:= ∀k,k<lo \/ hi<=k ->bV ys k=bV xs k
theorem pR.refl {lo hi:Nat}{xs:ft eI}:pR lo hi xs xs:=λ_ _=>rfl
theorem pR.trans {lo hi:Nat}{xs ys zs:ft eI}(a:pR lo hi xs ys)(b:pR lo hi ys zs):pR lo hi xs zs:=λk h=>(b k h).trans (a k h)
def wp_ascL (O:Ord less)(L:gt prog w A E s kd a₀ less){st:gM}{lo a cX:Nat}{Q:AscSt ->gM ->Prop}(hn:lo+cX<=a₀.size)(ha:1<=a)(han:a<=cX)(B:SB kd a₀ st) (hs:Sg less (arrOf st) lo (lo+a)) (h: ∀n,a<=n ->n<=cX ->Sg less (arrOf st) lo (lo+n) ->(n=cX \/ less (bV (arrOf st) (lo+n)) (bV (arrOf st) (lo+n - 1))=true) ->Q (none,n) st): wpS (model prog w) A E s (Hf lo a cX) Q st:=by
 unfold Hf;exact bS (I:=λx c bt=>bt=st /\ c=(none,x) /\ Sg less (arrOf st) lo (lo+x)) ?step ?fin #[rfl,rfl,hs];case fin=>
  rintro c bt ⟨rfl,rfl,fo⟩
  rw[show max a cX=cX by lia] at fo ⊢
  show h cX han (ak _) fo (.inl rfl)
 case step=>
  rintro x c bt YV hxn ⟨rfl,rfl,fo⟩
  dsimp only
  exact au (wp_lt L B ∅ ∅ ?_)
  cases e:less (bV (arrOf bt) (lo+x)) (bV (arrOf bt) (lo+x - 1)) with
  | true=>simp![bJ];show aA (h x YV ∅ fo (.inr e))
  | false=>simp![av,bp];exact aA #[rfl,rfl,λi j hi iL hj=> ?_];by_cases c:j<lo+x;show fo i j hi iL c;have:j=lo+x:= ∅;subst this;by_cases c2:i=lo+x;subst c2;show O.refl _;show O.trans _ _ _ (fo i (lo+x - 1) hi ∅ ∅) e
def wp_tailL (O:Ord less)(L:gt prog w A E s kd a₀ less){st:gM}{lo n cX:Nat}{Q:cT Nat ->gM ->Prop}(hn:lo+cX<=a₀.size)(h1:1<=n)(wu:n<=cX)(B:SB kd a₀ st) (hs:Ng less (arrOf st) lo (lo+n)) (h: ∀m bt,SB kd a₀ bt ->1<=m ->m<=cX ->Sg less (arrOf bt) lo (lo+m) ->pendingOf bt=pendingOf st ->pR lo (lo+cX) (arrOf st) (arrOf bt) ->Q (some m) bt): wpS (model prog w) A E s (wK lo n cX) Q st:=by
 unfold wK;have hsz:lo+n<=(arrOf st).size:=by rw[B.size];lia
 exact au (wp_rev ?_);have B':SB kd a₀ (setArr st (mirror (arrOf st) lo (lo+n) ((lo+n - lo) / 2))):=B.arr (mirror_perm _ _ _ _);exact au (wp_ascL O L hn h1 wu B' ?_ λm hm1 VQ hsm _=>aA (h m _ B' ∅ VQ hsm rfl ?_));intro i j hi iL hj;change LE less (bV (mirror (arrOf st) lo (lo+n) ((lo+n - lo) / 2)) i) (bV (mirror (arrOf st) lo (lo+n) ((lo+n - lo) / 2)) j);rw[dy hsz,dy hsz,aj ∅,aj ∅];show hs _ _ ∅ ∅ ∅;intro k hk;change bV (mirror (arrOf st) lo (lo+n) ((lo+n - lo) / 2)) k=_;rw[dy hsz,ah ∅]
def nW (O:Ord less){xs:ft eI}{lo i m:Nat}(hj:m<=xs.size)(hli:lo<=i)(hs:Ng less xs lo m)(he: ∀k,i<=k ->k<m ->LE less (bV xs k) (bV xs (m - 1))):Ng less (mirror xs i m ((m - i) / 2)) lo m:=by intro a b ha Gr hb;rw[dy hj,dy hj];by_cases c1:i<=a;rw[aj ∅,aj ∅];exact O.trans _ _ _ (he (i+m - 1 - b) ∅ ∅) (hs _ _ ∅ ∅ ∅);rw[ah (show ¬(i<=a /\ a<m) by lia)];by_cases c2:i<=b;rw[aj ∅];show hs _ _ ∅ ∅ ∅;rw[ah ∅];show hs _ _ ∅ ∅ ∅
theorem ll {xs:ft eI}{lo hi i j:Nat}(hj:j<=xs.size)(h1:lo<=i)(h2:j<=hi):pR lo hi xs (mirror xs i j ((j - i) / 2)):=λk hk=>by rw[dy hj,ah ∅]
def wp_descL (O:Ord less)(L:gt prog w A E s kd a₀ less){st:gM}{lo n cX:Nat}{Q:DescSt ->gM ->Prop}(hn:lo+cX<=a₀.size)(h1:1<=n)(wu:n<=cX)(B:SB kd a₀ st) (hs:Ng less (arrOf st) lo (lo+n)) (h: ∀m tX bt,SB kd a₀ bt ->n<=m ->m<=cX ->Ng less (arrOf bt) lo (lo+m) ->tX+1<=m ->(∀i,lo+m - (tX+1) <=i ->i<lo+m ->LE less (bV (arrOf bt) i) (bV (arrOf bt) (lo+m - 1))) ->pendingOf bt=pendingOf st ->pR lo (lo+cX) (arrOf st) (arrOf bt) ->Q (none,m,tX) bt): wpS (model prog w) A E s (Br lo n cX) Q st:=by
 unfold Br;exact bS (I:=λx c bt=> ∃tX,PL (c=(none,x,tX)) (SB kd a₀ bt) (Ng less (arrOf bt) lo (lo+x)) (tX+1<=x) (∀i,lo+x - (tX+1) <=i ->i<lo+x ->LE less (bV (arrOf bt) i) (bV (arrOf bt) (lo+x - 1))) (pendingOf bt=pendingOf st) (pR lo (lo+cX) (arrOf st) (arrOf bt))) ?step ?fin #[0,rfl,B,hs, ∅,λi h1 h2=>by rw[show i=lo+n - 1 by lia];show O.refl _,rfl,pR.refl];case fin=>
  rintro c bt ⟨tX,rfl,B',fo,hq,he,hp,ho⟩
  rw[show max n cX=cX by lia] at fo hq he ⊢
  show h cX tX bt B' wu (ak _) fo hq he hp ho
 case step =>
  rintro x c bt YV hxn ⟨tX,rfl,B',fo,hq,he,hp,ho⟩
  dsimp only
  have hsz:lo+x<=(arrOf bt).size:=by rw[B'.size];lia
  exact au (wp_lt L B' ∅ ∅ ?_)
  cases e:less (bV (arrOf bt) (lo+x)) (bV (arrOf bt) (lo+x - 1)) with
  | true =>simp![bJ];by_cases Gg:tX >0;rw [aj Gg];exact au (wp_rev (aA #[0,rfl,B'.arr (mirror_perm _ _ _ _),?_, ∅,λi h1 h2=>by rw[show i=lo+(x+1) - 1 by lia];show O.refl _,hp,ho.trans (ll hsz ∅ ∅)]));have hm:=nW O (i:=lo+x - (tX+1)) hsz ∅ fo he;intro i j hi iL hj;by_cases c:j<lo+x;show hm i j hi iL c;have:j=lo+x:= ∅;subst this;by_cases c2:i=lo+x;subst c2;show O.refl _;exact O.trans _ _ _ ?_ (hm i (lo+x - 1) hi ∅ ∅);change LE less (bV (mirror (arrOf bt) (lo+x - (tX+1)) (lo+x) ((lo+x - (lo+x - (tX+1))) / 2)) (lo+x)) (bV (mirror (arrOf bt) (lo+x - (tX+1)) (lo+x) ((lo+x - (lo+x - (tX+1))) / 2)) (lo+x - 1));rw[dy hsz,dy hsz,ah ∅,aj ∅];show O.trans _ _ _ (O.le e) (fo _ _ ∅ ∅ ∅);rw[ah Gg];exact aA #[0,rfl,B',λi j hi iL hj=> ?_, ∅,λi h1 h2=>by rw[show i=lo+(x+1) - 1 by lia];show O.refl _,hp,ho];by_cases c:j<lo+x;show fo i j hi iL c;have:j=lo+x:= ∅;subst this;by_cases c2:i=lo+x;subst c2;show O.refl _;show O.trans _ _ _ (O.le e) (fo i (lo+x - 1) hi ∅ ∅)
  | false =>
   simp![av,bp];exact au (wp_lt L B' ∅ ∅ ?_);cases e2:less (bV (arrOf bt) (lo+x - 1)) (bV (arrOf bt) (lo+x)) with
   | true=>simp![bJ];show aA (h x tX bt B' YV ∅ fo hq he hp ho)
   | false=>simp![av,bp];exact aA #[tX+1,rfl,B',λi j hi iL hj=> ?_, ∅,λi h1 h2=> ?_,hp,ho];by_cases c:j<lo+x;show fo i j hi iL c;have:j=lo+x:= ∅;subst this;by_cases c2:i=lo+x;subst c2;show O.refl _;show O.trans _ _ _ e2 (fo i (lo+x - 1) hi ∅ ∅);rw[show lo+(x+1) - 1=lo+x by lia];by_cases c:i=lo+x;subst c;show O.refl _;show O.trans _ _ _ (he i ∅ ∅) e
def wp_partL (O:Ord less)(L:gt prog w A E s kd a₀ less){st:gM}{lo n cX:Nat}{Q:cT Nat ->gM ->Prop}(hn:lo+cX<=a₀.size)(wu:n+1<=cX)(B:SB kd a₀ st) (hs:Ng less (arrOf st) lo (lo+(n+1))) (h: ∀m bt,SB kd a₀ bt ->1<=m ->m<=cX ->Sg less (arrOf bt) lo (lo+m) ->pendingOf bt=pendingOf st ->pR lo (lo+cX) (arrOf st) (arrOf bt) ->Q (some m) bt): wpS (model prog w) A E s (xi lo n cX) Q st:=by
 unfold xi;exact au (wpS_lift (wpAny_rule #[rfl,?_]));exact au (wp_descL O L hn ∅ wu B hs λm tX bt B' hm1 VQ fo hq he hp ho=> ?_);dsimp only;have hsz:lo+m<=(arrOf bt).size:=by rw[B'.size];lia
 by_cases Gg:tX >0;rw[aj Gg];exact au (wp_rev (wp_tailL O L hn ∅ VQ (B'.arr (mirror_perm _ _ _ _)) (nW O hsz ∅ fo he) λm2 kr b1 b2 b3 b4 b5 b6=>h m2 kr b1 b2 b3 b4 (b5.trans hp) (ho.trans ((ll hsz ∅ ∅).trans b6))));rw[ah Gg];show wp_tailL O L hn ∅ VQ B' fo λm2 kr b1 b2 b3 b4 b5 b6=>h m2 kr b1 b2 b3 b4 (b5.trans hp) (ho.trans b6)
def wp_run (O:Ord less)(L:gt prog w A E s kd a₀ less){st:gM}{lo cX:Nat}{Q:cT Nat ->gM ->Prop}(hn:lo+cX<=a₀.size)(h1:1<=cX)(B:SB kd a₀ st) (h: ∀m bt,SB kd a₀ bt ->1<=m ->m<=cX ->Sg less (arrOf bt) lo (lo+m) ->pendingOf bt=pendingOf st ->pR lo (lo+cX) (arrOf st) (arrOf bt) ->Q (some m) bt): wpS (model prog w) A E s (countRun' lo cX) Q st:=by
 rw[IV];exact au (wp_ascL O L hn (ak 1) h1 B (λi j hi iL hj=>by rw[show i=j by lia];show O.refl _) λn OZ OY S9 hor=> ?_);dsimp only;by_cases wu:n=cX;rw[aj ⇑wu];show aA (h n st B OZ OY S9 rfl pR.refl);rw [ah ⇑wu];have gP:=hor.resolve_left wu;have hsz:lo+n<=(arrOf st).size:=by rw[B.size];lia
 by_cases hgt:n >1;rw [aj hgt];exact au (wp_lt L B ∅ ∅ ?_);cases e:less (bV (arrOf st) lo) (bV (arrOf st) (lo+n - 1)) with
 | true=>simp![bJ];show aA (h n st B OZ OY S9 rfl pR.refl)
 | false=>simp![av,bp];have hng:Ng less (arrOf st) lo (lo+n):=λi j hi iL hj=>O.trans _ _ _ (O.trans _ _ _ (S9 j (lo+n - 1) ∅ ∅ ∅) e) (S9 lo i (ak _) hi ∅);exact au (wp_rev (wp_partL O L hn ∅ (B.arr (mirror_perm _ _ _ _)) ?_ λm2 kr b1 b2 b3 b4 b5 b6=>h m2 kr b1 b2 b3 b4 b5 ((ll hsz ∅ ∅).trans b6)));have hm:=nW O (i:=lo) hsz (ak _) hng λk _ _=>S9 k (lo+n - 1) ∅ ∅ ∅;intro i j hi iL hj;by_cases c:j<lo+n;show hm i j hi iL c;have:j=lo+n:= ∅;subst this;by_cases c2:i=lo+n;subst c2;show O.refl _;exact O.trans _ _ _ ?_ (hm i (lo+n - 1) hi ∅ ∅);change LE less (bV (mirror (arrOf st) lo (lo+n) ((lo+n - lo) / 2)) (lo+n)) (bV (mirror (arrOf st) lo (lo+n) ((lo+n - lo) / 2)) (lo+n - 1));rw[dy hsz,dy hsz,ah ∅,aj ∅];show O.trans _ _ _ (O.le gP) (hng _ _ ∅ ∅ ∅)
 rw[ah hgt];have Yy:n=1:= ∅;subst Yy;exact wp_partL O L hn ∅ B (λi j hi iL hj=> ?_) h;by_cases c:i=j;subst c;show O.refl _;rw[show i=lo+1 - 1 by lia,show j=lo+1 by lia];show O.le gP
def wp_bin (O:Ord less)(L:gt prog w A E s kd a₀ less){st:gM}{lo n ok:Nat}{Q:Bool ->gM ->Prop}(hn:lo+n<=a₀.size)(b0:ok<=n)(B:SB kd a₀ st)(hs:Sg less (arrOf st) lo (lo+ok)) (h: ∀bt,SB kd a₀ bt ->Sg less (arrOf bt) lo (lo+n) ->pendingOf bt=pendingOf st ->pR lo (lo+n) (arrOf st) (arrOf bt) ->Q true bt):wpS (model prog w) A E s (binarySort' lo n ok) Q st:=by
 rw[binarySort'_eq];exact au (wpS_mono (bS (I:=λk c bt=>c=(none,()) /\ SB kd a₀ bt /\ Sg less (arrOf bt) lo (lo+min k n) /\ pendingOf bt=pendingOf st /\ pR lo (lo+n) (arrOf st) (arrOf bt)) (Q:=λc bt=>c=(none,()) /\ SB kd a₀ bt /\ Sg less (arrOf bt) lo (lo+n) /\ pendingOf bt=pendingOf st /\ pR lo (lo+n) (arrOf st) (arrOf bt)) ?step ?fin ?init) ?post);case post=>
  rintro c bt ⟨rfl,B',fo,hp,ho⟩
  show aA (h bt B' fo hp ho)
 case init=>
  exact#[rfl,B,λi j hi iL hj=> ?_,rfl,pR.refl]
  by_cases c:ok=0
  rw[show i=j by lia];show O.refl _
  show hs i j hi iL ∅
 case fin=>
  rintro c bt ⟨hc,B',fo,hp,ho⟩
  exact#[hc,B',?_,hp,ho]
  rwa [show min (max (max ok 1) n) n=n by lia] at fo
 case step=>
  rintro k c bt hak hkn ⟨rfl,B',fo,hp,ho⟩
  rw[show min k n=k by lia] at fo
  have hk:lo+k<a₀.size:= ∅
  exact au (wpS_mono (bS (I:=λx c eM=>eM=bt /\ bX λl r=>oq (c=(none,l,r)) (l<=r) (r<=k) (r - l<=k - x) (∀i,i<l ->LE less (bV (arrOf bt) (lo+i)) (bV (arrOf bt) (lo+k))) (∀i,r<=i ->i<k ->LE less (bV (arrOf bt) (lo+k)) (bV (arrOf bt) (lo+i)))) (Q:=λc eM=>eM=bt /\ bX λl r=>eZ (c=(none,l,r)) (l<=k) (∀i,i<l ->LE less (bV (arrOf bt) (lo+i)) (bV (arrOf bt) (lo+k))) (∀i,l<=i ->i<k ->LE less (bV (arrOf bt) (lo+k)) (bV (arrOf bt) (lo+i)))) ?istep ?ifin ?iinit) ?ipost)
  case iinit=>show#[rfl,0,k,rfl, ∅, ∅, ∅,λi hi=> ∅,λi h1 h2=> ∅]
  case ifin=>
   rintro c eM ⟨rfl,l,r,rfl,YA,Yn,hm,O1,Qv⟩
   have:l=r:= ∅
   subst this
   show#[rfl,l,l,rfl,Yn,O1,Qv]
  case istep=>
   rintro x c eM _ hxk ⟨rfl,l,r,rfl,YA,Yn,hm,O1,Qv⟩
   dsimp only
   by_cases hge:l≥r
   rw[aj hge]
   have:l=r:= ∅
   subst this
   show aA #[rfl,l,l,rfl,Yn,O1,Qv]
   rw[ah hge]
   exact au (wp_lt L B' hk ∅ ?_)
   cases e:less (bV (arrOf eM) (lo+k)) (bV (arrOf eM) (lo+(l+r) / 2)) with
   | true=>simp![bJ];exact aA #[rfl,l,(l+r) / 2,rfl, ∅, ∅, ∅,O1,λi h1 h2=> ?_];show O.trans _ _ _ (O.le e) (fo _ _ ∅ ∅ ∅)
   | false=>simp![av,bp];exact aA #[rfl,(l+r) / 2+1,r,rfl, ∅, ∅, ∅,λi h1=> ?_,Qv];show O.trans _ _ _ (fo (lo+i) (lo+(l+r) / 2) ∅ ∅ ∅) e
  case ipost=>
   rintro c eM ⟨rfl,l,r,rfl,hlk,O1,Qv⟩
   change wpS _ _ _ _ (do moveDown' (lo+k) (lo+l);pure (ForInStep.yield (none,()))) _ _
   rw[moveDown'_eq]
   have YG:lo+k< (arrOf eM).size:=by rw[B'.size];show hk
   exact au (wpS_modify (aA #[rfl,B'.arr (bubble_perm _ _ _),?_,hp,ho.trans λj hj=> ?_]))
   .rw[show min (k+1) n=k+1 by lia];intro i j hi iL hj;change LE less (bV (bubble (arrOf eM) (lo+k) (lo+k - (lo+l))) i) (bV (bubble (arrOf eM) (lo+k) (lo+k - (lo+l))) j);rw[lz YG ∅,lz YG ∅,show lo+k - (lo+k - (lo+l))=lo+l by lia];have YB: ∀i,lo<=i ->i<lo+l ->LE less (bV (arrOf eM) i) (bV (arrOf eM) (lo+k)):=λi h1 h2=>by have:=O1 (i - lo) ∅;rwa [show lo+(i - lo)=i by lia] at this
    have YJ: ∀i,lo+l<=i ->i<lo+k ->LE less (bV (arrOf eM) (lo+k)) (bV (arrOf eM) i):=λi h1 h2=>by have:=Qv (i - lo) ∅ ∅;rwa [show lo+(i - lo)=i by lia] at this
    repeat' split
    all_goals first
    | (exfalso;lia)
    | show O.refl _
    | show YB _ ∅ ∅
    | show YJ _ ∅ ∅
    | show fo _ _ ∅ ∅ ∅
   change bV (bubble (arrOf eM) (lo+k) (lo+k - (lo+l))) j=_
   rw[lz YG ∅,ah ∅,ah ∅]
end
def Kl:Bool ->eI ->ft eI ->Nat ->Nat ->Nat ->StateT gM Sem (cT Nat):=sortPriv% PySem.Builtin.gallop
def X1:ft eI ->ft eI ->StateT gM Sem (ft eI):=sortPriv% PySem.Builtin.mergeLo
def X2:ft eI ->ft eI ->StateT gM Sem (ft eI):=sortPriv% PySem.Builtin.mergeHi
abbrev cw (st:gM)(g:Nat):gM:=SortSt.mk' (kindOf st) (arrOf st) (pendingOf st) g (failedOf st)
def bey (left:Bool)(key:eI)(arr:ft eI)(base i:Nat):StateT gM Sem (cT Bool):=do
 let x <- elem' arr (base+i)
 if left then lt' x key else return(<- lt' key x).map (!·)
section
variable {prog:gA}{w:gB}{A:hV}{E:cG ->cL ->Prop}{s:cL}{kd:SortKind}{a₀:ft eI}{less:eI ->eI ->Bool}
def wp_gal0 {st:gM}{left:Bool}{key:eI}{arr:ft eI}{base n d7:Nat}{Q:cT Nat ->gM ->Prop}(Bf:Nat ->Bool)(hh:d7<n) (hb: ∀i,i<n -> ∀Q':cT Bool ->gM ->Prop,Q' (some (Bf i)) st ->wpS (model prog w) A E s (bey left key arr base i) Q' st) (mono: ∀i j,i<=j ->j<n ->Bf j=true ->Bf i=true) (h: ∀k,k<=n ->(∀i,i<k ->Bf i=true) ->(∀i,k<=i ->i<n ->Bf i=false) ->Q (some k) st): wpS (model prog w) A E s (Kl left key arr base n d7) Q st:=by
 have AS: ∀i j,i<=j ->j<n ->Bf i=false ->Bf j=false:=λi j iL hj e=>by
  cases e2:Bf j with
  | false=>rfl
  | true=>rw[mono i j iL hj e2] at e;cases e
 exact au (hb d7 hh _ ?_);dsimp only;cases hB:Bf d7 with
 | true =>
  simp![bJ];exact au (wpS_mono (bS (I:=λi c bt=>bt=st /\ bX λla f=>d9 (c=(none,la,f)) (i+1<=f) (la<f) (d7+la<n) (Bf (d7+la)=true)) (Q:=λc bt=>bt=st /\ bX λla f=>d9 (c=(none,la,f)) (la<f) (d7+la<n) (Bf (d7+la)=true) (n - d7<=f \/ (d7+f<n /\ Bf (d7+f)=false))) ?_ ?_ #[rfl,0,1,rfl,by omega,by omega,by omega,hB]) ?_);rintro i c bt _ hi ⟨rfl,la,f,rfl,h1,h2,h3,h4⟩;dsimp only;by_cases c1:f≥n - d7;rw[aj c1];show aA #[rfl,la,f,rfl,h2,h3,h4, .inl c1];rw[ah c1];exact au (hb _ (by omega) _ ?_);cases e:Bf (d7+f) with
  | true=>simp![cf,av,bp];show aA #[rfl,f,2*f+1,rfl,by omega,by omega,by omega,e]
  | false=>simp![cF,bJ];show aA #[rfl,la,f,rfl,h2,h3,h4, .inr #[by omega,e]]
  rintro c bt ⟨rfl,la,f,rfl,h1,h2,h3,h4⟩;show#[rfl,la,f,rfl,h2,h3,h4, .inl (by omega)];rintro c bt ⟨rfl,la,f,rfl,h2,h3,h4,h5⟩;dsimp only;exact au (wpS_mono (bS (I:=λi c eM=>eM=bt /\ bX λlo hi=>oq (c=(none,lo,hi)) (lo<=hi) (hi<=n) (hi - lo<=n - i) (∀i,i<lo ->Bf i=true) (∀i,hi<=i ->i<n ->Bf i=false)) (Q:=λc eM=>eM=bt /\ bX λlo hi=>eZ (c=(none,lo,hi)) (hi<=n) (∀i,i<hi ->Bf i=true) (∀i,hi<=i ->i<n ->Bf i=false)) ?_ ?_ #[rfl,_,_,rfl,by omega,by omega,by omega,λi hi=>mono i (d7+la) (by omega) h3 h4,λi hi HS=> ?_]) ?_);rintro i c eM _ hi ⟨rfl,lo,sy,rfl,g1,g2,g3,g4,g5⟩;dsimp only;by_cases c1:lo≥sy;rw[aj c1];have:lo=sy:=by omega
  subst this;show aA #[rfl,_,_,rfl,g2,g4,g5];rw[ah c1];exact au (hb _ (by omega) _ ?_);cases e:Bf (lo+(sy - lo) / 2) with
  | true=>simp![bJ];show aA #[rfl,_,_,rfl,by omega,g2,by omega,λj hj=>mono j _ (by omega) (by omega) e,g5]
  | false=>simp![av,bp];show aA #[rfl,_,_,rfl,by omega,by omega,by omega,g4,λj hj YI=>AS _ j hj YI e]
  rintro c eM ⟨rfl,lo,sy,rfl,g1,g2,g3,g4,g5⟩;have:lo=sy:=by omega
  subst this;show#[rfl,_,_,rfl,g2,g4,g5];obtain h5 | ⟨h5,h6⟩:=h5;omega;show AS (d7+f) i (by omega) HS h6;rintro c eM ⟨rfl,lo,sy,rfl,g2,g4,g5⟩;show aA (h _ g2 g4 g5)
 | false =>
  simp![av,bp];exact au (wpS_mono (bS (I:=λi c bt=>bt=st /\ bX λla f=>d9 (c=(none,la,f)) (i+1<=f) (la<f) (la<=d7) (Bf (d7 - la)=false)) (Q:=λc bt=>bt=st /\ bX λla f=>d9 (c=(none,la,f)) (la<f) (la<=d7) (Bf (d7 - la)=false) (d7+1<=f \/ (f<=d7 /\ Bf (d7 - f)=true))) ?_ ?_ #[rfl,0,1,rfl,by omega,by omega,by omega,hB]) ?_);rintro i c bt _ hi ⟨rfl,la,f,rfl,h1,h2,h3,h4⟩;dsimp only;by_cases c1:f≥d7+1;rw[aj c1];show aA #[rfl,la,f,rfl,h2,h3,h4, .inl c1];rw[ah c1];exact au (hb _ (by omega) _ ?_);cases e:Bf (d7 - f) with
  | false=>simp![av,bp];show aA #[rfl,f,2*f+1,rfl,by omega,by omega,by omega,e]
  | true=>simp![bJ];show aA #[rfl,la,f,rfl,h2,h3,h4, .inr #[by omega,e]]
  rintro c bt ⟨rfl,la,f,rfl,h1,h2,h3,h4⟩;show#[rfl,la,f,rfl,h2,h3,h4, .inl (by omega)];rintro c bt ⟨rfl,la,f,rfl,h2,h3,h4,h5⟩;dsimp only;exact au (wpS_mono (bS (I:=λi c eM=>eM=bt /\ bX λlo hi=>oq (c=(none,lo,hi)) (lo<=hi) (hi<=n) (hi - lo<=n - i) (∀i,i<lo ->Bf i=true) (∀i,hi<=i ->i<n ->Bf i=false)) (Q:=λc eM=>eM=bt /\ bX λlo hi=>eZ (c=(none,lo,hi)) (hi<=n) (∀i,i<hi ->Bf i=true) (∀i,hi<=i ->i<n ->Bf i=false)) ?_ ?_ #[rfl,_,_,rfl,by omega,by omega,by omega,λi hi=> ?_,λi hi HS=>AS (d7 - la) i (by omega) HS h4]) ?_);rintro i c eM _ hi ⟨rfl,lo,sy,rfl,g1,g2,g3,g4,g5⟩;dsimp only;by_cases c1:lo≥sy;rw[aj c1];have:lo=sy:=by omega
  subst this;show aA #[rfl,_,_,rfl,g2,g4,g5];rw[ah c1];exact au (hb _ (by omega) _ ?_);cases e:Bf (lo+(sy - lo) / 2) with
  | true=>simp![bJ];show aA #[rfl,_,_,rfl,by omega,g2,by omega,λj hj=>mono j _ (by omega) (by omega) e,g5]
  | false=>simp![av,bp];show aA #[rfl,_,_,rfl,by omega,by omega,by omega,g4,λj hj YI=>AS _ j hj YI e]
  rintro c eM ⟨rfl,lo,sy,rfl,g1,g2,g3,g4,g5⟩;have:lo=sy:=by omega
  subst this;show#[rfl,_,_,rfl,g2,g4,g5];obtain h5 | ⟨h5,h6⟩:=h5;omega;show mono i (d7 - f) (by omega) (by omega) h6;rintro c eM ⟨rfl,lo,sy,rfl,g2,g4,g5⟩;show aA (h _ g2 g4 g5)
def wp_galL (O:Ord less)(L:gt prog w A E s kd a₀ less){st:gM}{key:eI}{arr:ft eI}{base n d7:Nat}{Q:cT Nat ->gM ->Prop}(B:kindOf st=kd)(hk:key∈a₀.toList) (hm: ∀i,i<n ->base+i<arr.size /\ bV arr (base+i)∈a₀.toList) (hh:d7<n) (hs:Sg less arr base (base+n)) (h: ∀k,k<=n ->(∀i,i<k ->less (bV arr (base+i)) key=true) ->(∀i,k<=i ->i<n ->LE less key (bV arr (base+i))) ->Q (some k) st): wpS (model prog w) A E s (Kl true key arr base n d7) Q st:=by exact wp_gal0 (λi=>less (bV arr (base+i)) key) hh (λi hi Q' hq=> ?_) (λi j iL hj e=>O.SK (hs (base+i) (base+j) (by omega) (by omega) (by omega)) e) h;unfold bey;exact au (wp_elem (hm i hi).1 ?_);simp![bJ];show L _ _ _ _ (hm i hi).2 hk B hq
def wp_galR (O:Ord less)(L:gt prog w A E s kd a₀ less){st:gM}{key:eI}{arr:ft eI}{base n d7:Nat}{Q:cT Nat ->gM ->Prop}(B:kindOf st=kd)(hk:key∈a₀.toList) (hm: ∀i,i<n ->base+i<arr.size /\ bV arr (base+i)∈a₀.toList) (hh:d7<n) (hs:Sg less arr base (base+n)) (h: ∀k,k<=n ->(∀i,i<k ->LE less (bV arr (base+i)) key) ->(∀i,k<=i ->i<n ->less key (bV arr (base+i))=true) ->Q (some k) st): wpS (model prog w) A E s (Kl false key arr base n d7) Q st:=by exact wp_gal0 (λi=> !less key (bV arr (base+i))) hh (λi hi Q' hq=> ?_) (λi j iL hj e=> ?_) (λk h1 h2 h3=>h k h1 (λi hi=> ?_) λi h4 h5=> ?_);unfold bey;exact au (wp_elem (hm i hi).1 ?_);simp![av,bp];show au (L _ _ _ _ hk (hm i hi).2 B (aA hq));simp![Bool.not_eq_true'] at e ⊢;show O.trans _ _ _ (hs (base+i) (base+j) (by omega) (by omega) (by omega)) e;have:=h2 i hi;simp![Bool.not_eq_true'] at this;show this;have:=h3 i h4 h5;simpa using this
end
structure MI (less:Keyed ->Keyed ->Bool)(al bl o:List Keyed)(i j:Nat):Prop where
 pm:o.Perm (al.take i++bl.take j)
 so:o.Pairwise (LE less)
 ba: ∀x∈o, ∀y∈al.drop i,LE less x y
 bb: ∀x∈o, ∀y∈bl.drop j,LE less x y
section
variable {less:eI ->eI ->Bool}{al bl o:cz eI}{i j:Nat}
theorem MI.swap (h:MI less al bl o i j):MI less bl al o j i:=#[h.pm.trans c7,h.so,h.bb,h.ba]
def take_add {α:Type}(l:cz α)(i k:Nat):l.take (i+k)=l.take i++(l.drop i).take k:=by rw[List.take_add]
def MI.KG (h:MI less al bl o i j)(sa:al.Pairwise (LE less))(k:Nat)(hk: ∀x∈(al.drop i).take k, ∀y∈bl.drop j,LE less x y):MI less al bl (o++(al.drop i).take k) (i+k) j:=by
 have sd:(al.drop i).Pairwise (LE less):=sa.sublist (List.drop_sublist _ _);have e:(al.drop i).take k++al.drop (i+k)=al.drop i:=by rw[<- List.drop_drop,br]
 have Nx:=sd;rw[<- e,cO] at Nx;exact#[?_,?_,?_,?_];rw[take_add,bz];exact(h.pm.append_right _).trans ?_;rw[bz];show List.Perm.append_left _ c7;rw[cO];show#[h.so,Nx.1,λx hx y hy=>h.ba x hx y (List.mem_of_mem_take hy)];intro x hx y hy;obtain hx | hx:=bh.mp hx;show h.ba x hx y (by rw[<- e];show aM _ hy);show Nx.2.2 x hx y hy;intro x hx y hy;obtain hx | hx:=bh.mp hx;show h.bb x hx y hy;show hk x hx y hy
def MI.fin (h:MI less al bl o i j)(sa:al.Pairwise (LE less))(sb:bl.Pairwise (LE less))(hk: ∀x∈bl.drop j, ∀y∈al.drop i,LE less x y):(o++bl.drop j++al.drop i).Perm (al++bl) /\ (o++bl.drop j++al.drop i).Pairwise (LE less):=by
 symm;rw[bz];exact(h.pm.append_right _).trans ?_;have e1:(al++bl).Perm ((al.take i++al.drop i)++(bl.take j++bl.drop j)):=by rw[br,br]
 exact List.Perm.trans ?_ e1.symm;rw[bz,bz];exact List.Perm.append_left _ ?_;rw[<- bz];show c7;rw[cO,cO];exact#[#[h.so,sb.sublist (List.drop_sublist _ _),h.bb],sa.sublist (List.drop_sublist _ _),λx hx y hy=> ?_];obtain hx | hx:=bh.mp hx;show h.ba x hx y hy;show hk x hx y hy
structure MH (less:Keyed ->Keyed ->Bool)(al bl t:List Keyed)(i j:Nat):Prop where
 pm:t.Perm (al.drop i++bl.drop j)
 so:t.Pairwise (LE less)
 ba: ∀x∈t, ∀y∈al.take i,LE less y x
 bb: ∀x∈t, ∀y∈bl.take j,LE less y x
theorem MH.swap {t:cz eI}(h:MH less al bl t i j):MH less bl al t j i:=#[h.pm.trans c7,h.so,h.bb,h.ba]
def MH.KG {t:cz eI}(h:MH less al bl t i j)(sa:al.Pairwise (LE less)){k:Nat}(Tk:k<=i)(hk: ∀x∈(al.take i).drop k, ∀y∈bl.take j,LE less y x):MH less al bl ((al.take i).drop k++t) k j:=by
 have sd:(al.take i).Pairwise (LE less):=sa.sublist (List.take_sublist _ _);have e0:(al.take i).take k=al.take k:=by rw[List.take_take,Nat.min_eq_left Tk]
 have e:al.take k++(al.take i).drop k=al.take i:=by rw[<- e0,br]
 have Nx:=sd;rw[<- e,cO] at Nx;have e3:al.drop k=(al.take i).drop k++al.drop i:=by
  have:=br i al;have e4:al.drop k=(al.take i++al.drop i).drop k:=by rw[this]
  rw[e4];by_cases c:i<=al.length;rw[List.drop_append_of_le_length (by rw[bM];lia)];have z:al.drop i= []:=List.drop_eq_nil_of_le ∅;rw[z,cI,cI]
 exact#[?_,?_,?_,?_];rw[e3,bz];show List.Perm.append_left _ h.pm;rw[cO];show#[Nx.2.1,h.so,λx hx y hy=>h.ba y hy x (by rw[<- e];show aM _ hx)];intro x hx y hy;obtain hx | hx:=bh.mp hx;show Nx.2.2 y hy x hx;show h.ba x hx y (by rw[<- e];show List.mem_append_left _ hy);intro x hx y hy;obtain hx | hx:=bh.mp hx;show hk x hx y hy;show h.bb x hx y hy
def MH.fin {t:cz eI}(h:MH less al bl t i j)(sa:al.Pairwise (LE less))(sb:bl.Pairwise (LE less))(hk: ∀x∈al.take i, ∀y∈bl.take j,LE less x y):(al.take i++bl.take j++t).Perm (al++bl) /\ (al.take i++bl.take j++t).Pairwise (LE less):=by
 symm;exact(List.Perm.append_left _ h.pm).trans ?_;have e1:(al++bl).Perm ((al.take i++al.drop i)++(bl.take j++bl.drop j)):=by rw[br,br]
 exact List.Perm.trans ?_ e1.symm;rw[bz,bz];exact List.Perm.append_left _ ?_;rw[<- bz, <- bz];show List.Perm.append_right _ c7;rw[cO,cO];exact#[#[sa.sublist (List.take_sublist _ _),sb.sublist (List.take_sublist _ _),hk],h.so,λx hx y hy=> ?_];obtain hx | hx:=bh.mp hx;show h.ba y hy x hx;show h.bb y hy x hx
end
abbrev R5:=cT (ft eI)×ft eI×Nat×Nat×Nat
abbrev R6:=cT (ft eI)×ft eI×Nat×Nat×Nat×Nat
abbrev R7:=cT (ft eI)×ft eI×Nat×Nat×Nat×Nat×Nat
section
variable (a b:ft eI)
abbrev H_ (o:ft eI)(i j:Nat):ft eI:=o++a.extract i a.size++b.extract j b.size
abbrev Qr (o:ft eI)(i j:Nat):ft eI:=o++b.extract j b.size++a.extract i a.size
def Od (mg:Nat)(o:ft eI)(i j ac bc:Nat):StateT gM Sem (ForInStep R6):=do
 let x <- elem' b j
 let y <- elem' a i
 let g <- lt' x y
 match g with
 | some g=>
  if g=true then do
   let x <- elem' b j
   if(j+1==b.size)=true then pure (.done (some (H_ a b (o.push x) i (j+1)),o.push x,i,j+1,0,bc+1))
   else if bc+1≥mg then pure (.done (none,o.push x,i,j+1,0,bc+1))
   else pure (.yield (none,o.push x,i,j+1,0,bc+1))
  else do
   let x <- elem' a i
   if(i+1+1==a.size)=true then pure (.done (some (Qr a b (o.push x) (i+1) j),o.push x,i+1,j,ac+1,0))
   else if ac+1≥mg then pure (.done (none,o.push x,i+1,j,ac+1,0))
   else pure (.yield (none,o.push x,i+1,j,ac+1,0))
 | _=>pure (.done (some (H_ a b o i j),o,i,j,ac,bc))
def Vm (mg ac bc:Nat)(o:ft eI)(i j:Nat):StateT gM Sem (ForInStep R7):=do
 let x <- elem' a i
 if(i+1+1==a.size)=true then pure (.done (some (Qr a b (o.push x) (i+1) j),o.push x,i+1,j,mg,ac,bc))
 else if(decide (ac<7) && decide (bc<7))=true then pure (.done (none,o.push x,i+1,j,mg,ac,bc))
 else pure (.yield (none,o.push x,i+1,j,mg,ac,bc))
def Vo (mg ac bc:Nat)(o:ft eI)(i j:Nat):StateT gM Sem (ForInStep R7):=do
 let x <- elem' b j
 if(j+1==b.size)=true then pure (.done (some (H_ a b (o.push x) i (j+1)),o.push x,i,j+1,mg,ac,bc))
 else do
  let y <- elem' a i
  let r <- Kl true y b (j+1) (b.size - (j+1)) 0
  match r with
  | some k=>
   if k >0 then
    if(j+1+k==b.size)=true then pure (.done (some (H_ a b (o.push x++b.extract (j+1) (j+1+k)) i (j+1+k)),o.push x++b.extract (j+1) (j+1+k),i,j+1+k,mg,ac,k))
    else Vm a b mg ac k (o.push x++b.extract (j+1) (j+1+k)) i (j+1+k)
   else Vm a b mg ac k (o.push x) i (j+1)
  | _=>pure (.done (some (H_ a b (o.push x) i (j+1)),o.push x,i,j+1,mg,ac,bc))
def Vq (mg ac bc:Nat)(o:ft eI)(i j:Nat):StateT gM Sem (ForInStep R7):=do
 modify λs=>cw s mg
 let x <- elem' b j
 let r <- Kl false x a i (a.size - i) 0
 match r with
 | some k=>
  if k >0 then
   if(i+k+1==a.size)=true then pure (.done (some (Qr a b (o++a.extract i (i+k)) (i+k) j),o++a.extract i (i+k),i+k,j,mg,k,bc))
   else if(i+k==a.size)=true then pure (.done (some (H_ a b (o++a.extract i (i+k)) (i+k) j),o++a.extract i (i+k),i+k,j,mg,k,bc))
   else Vo a b mg k bc (o++a.extract i (i+k)) (i+k) j
  else Vo a b mg k bc o i j
 | _=>pure (.done (some (H_ a b o i j),o,i,j,mg,ac,bc))
def Sw (c:R5):StateT gM Sem (ForInStep R5):=do
 let d <- forIn [:a.size+b.size] ((none,c.2.1,c.2.2.1,c.2.2.2.1,0,0):R6) λ_ d=>Od a b c.2.2.2.2 d.2.1 d.2.2.1 d.2.2.2.1 d.2.2.2.2.1 d.2.2.2.2.2
 match d.1 with
 | some r=>pure (.done (some r,d.2.1,d.2.2.1,d.2.2.2.1,c.2.2.2.2))
 | none=>do
  liftM (rule "list.sort.gallop")
  let e <- forIn [:a.size+b.size] ((none,d.2.1,d.2.2.1,d.2.2.2.1,c.2.2.2.2+1,d.2.2.2.2.1,d.2.2.2.2.2):R7) λ_ e=>if e.2.2.2.2.1 >1 then Vq a b (e.2.2.2.2.1 - 1) e.2.2.2.2.2.1 e.2.2.2.2.2.2 e.2.1 e.2.2.1 e.2.2.2.1 else Vq a b e.2.2.2.2.1 e.2.2.2.2.2.1 e.2.2.2.2.2.2 e.2.1 e.2.2.1 e.2.2.2.1
  match e.1 with
  | some r=>pure (.done (some r,e.2.1,e.2.2.1,e.2.2.2.1,e.2.2.2.2.1))
  | none=>do
   modify λs=>cw s (e.2.2.2.2.1+1)
   pure (.yield (none,e.2.1,e.2.2.1,e.2.2.2.1,e.2.2.2.2.1+1))
end
def uy {σ α β:Type}{m:StateT σ Sem α}{f g:α ->StateT σ Sem β}(h: ∀x,f x=g x):(m >>=f)=(m >>=g):=by rw[funext h]
def Dh {σ α β:Type}{m m':StateT σ Sem α}{f g:α ->StateT σ Sem β}(e:m=m')(h: ∀x,f x=g x):(m >>=f)=(m' >>=g):=by rw[e,funext h]
def CL {α:Sort _}{c:Prop} [Decidable c]{x y x' y':α}(h:x=x')(h':y=y'):(if c then x else y)=(if c then x' else y'):=by rw[h,h']
def CS {σ β:Type}{r:Std.Legacy.Range}{c:β}{f g:Nat ->β ->StateT σ Sem (ForInStep β)}(h: ∀i c,f i c=g i c):forIn r c f=forIn r c g:=by rw[funext λi=>funext (h i)]
section
variable (a b:ft eI)
theorem Cw:X1 a b=(do
  liftM (rule "list.sort.merge-lo")
  let x <- elem' b 0
  if(1==b.size)=true then pure (H_ a b #[x] 0 1)
  else if(0+1==a.size)=true then pure (Qr a b #[x] 0 1)
  else do
   let g <- get
   let c <- forIn [:a.size+b.size] ((none, #[x],0,1,gallopOf g):R5) λ_ c=>Sw a b c
   match c.1 with
   | some r=>pure r
   | none=>unsupported "internal:list.sort.merge-bound"):=by
 exact uy λ_=>uy λx=> ?_
 exact CL rfl (CL rfl (uy λg=>Dh (CS λ_ c=> ?_) λc=> ?_))
 exact Dh (CS λ_ d=>rfl) λd=> ?_
 let⟨r,d⟩:=d
 cases r with
 | some r=>rfl
 | none =>
  exact uy λ_=>Dh (CS λ_ e=> ?_) λe=> ?_;exact CL ?_ ?_<;>
  .refine uy λ_=>uy λx=>uy λr=> ?_;cases r with
   | none=>rfl
   | some k=>
    exact CL (CL rfl (CL rfl ?_)) ?_<;>
    .exact uy λy=>CL rfl (uy λz=>uy λr=> ?_);cases r<;>rfl
  let⟨r,e⟩:=e;cases r<;>rfl
 let⟨r,c⟩:=c
 cases r<;>rfl
abbrev Ia (o:ft eI)(i j:Nat):ft eI:=a.extract 0 i++b.extract 0 j++o.reverse
abbrev Qy (o:ft eI)(i j:Nat):ft eI:=b.extract 0 j++a.extract 0 i++o.reverse
def Nd (mg:Nat)(i j:Nat)(o:ft eI)(ac bc:Nat):StateT gM Sem (ForInStep (cT (ft eI)×Nat×Nat×ft eI×Nat×Nat)):=do
 let x <- elem' b (j - 1)
 let y <- elem' a (i - 1)
 let g <- lt' x y
 match g with
 | some g=>
  if g=true then do
   let x <- elem' a (i - 1)
   if(i - 1==0)=true then pure (.done (some (Ia a b (o.push x) (i - 1) j),i - 1,j,o.push x,ac+1,0))
   else if ac+1≥mg then pure (.done (none,i - 1,j,o.push x,ac+1,0))
   else pure (.yield (none,i - 1,j,o.push x,ac+1,0))
  else do
   let x <- elem' b (j - 1)
   if(j - 1==1)=true then pure (.done (some (Qy a b (o.push x) i (j - 1)),i,j - 1,o.push x,0,bc+1))
   else if bc+1≥mg then pure (.done (none,i,j - 1,o.push x,0,bc+1))
   else pure (.yield (none,i,j - 1,o.push x,0,bc+1))
 | _=>pure (.done (some (Ia a b o i j),i,j,o,ac,bc))
abbrev S7:=cT (ft eI)×Nat×Nat×ft eI×Nat×Nat×Nat
def Vn (mg ac bc:Nat)(i j:Nat)(o:ft eI):StateT gM Sem (ForInStep S7):=do
 let x <- elem' a (i - 1)
 if(i - 1==0)=true then pure (.done (some (Ia a b (o.push x) (i - 1) j),i - 1,j,o.push x,mg,ac,bc))
 else if(decide (ac<7) && decide (bc<7))=true then pure (.done (none,i - 1,j,o.push x,mg,ac,bc))
 else pure (.yield (none,i - 1,j,o.push x,mg,ac,bc))
def Vp (mg ac bc:Nat)(i j:Nat)(o:ft eI):StateT gM Sem (ForInStep S7):=do
 let x <- elem' b (j - 1)
 if(j - 1==1)=true then pure (.done (some (Qy a b (o.push x) i (j - 1)),i,j - 1,o.push x,mg,ac,bc))
 else do
  let y <- elem' a (i - 1)
  let r <- Kl true y b 0 (j - 1) (j - 1 - 1)
  match r with
  | some k=>
   if j - 1 - k >0 then
    if(k==1)=true then pure (.done (some (Qy a b (o.push x++(b.extract k (j - 1)).reverse) i k),i,k,o.push x++(b.extract k (j - 1)).reverse,mg,ac,j - 1 - k))
    else if(k==0)=true then pure (.done (some (Ia a b (o.push x++(b.extract k (j - 1)).reverse) i k),i,k,o.push x++(b.extract k (j - 1)).reverse,mg,ac,j - 1 - k))
    else Vn a b mg ac (j - 1 - k) i k (o.push x++(b.extract k (j - 1)).reverse)
   else Vn a b mg ac (j - 1 - k) i (j - 1) (o.push x)
  | _=>pure (.done (some (Ia a b (o.push x) i (j - 1)),i,j - 1,o.push x,mg,ac,bc))
def Vr (mg ac bc:Nat)(i j:Nat)(o:ft eI):StateT gM Sem (ForInStep S7):=do
 modify λs=>cw s mg
 let x <- elem' b (j - 1)
 let r <- Kl false x a 0 i (i - 1)
 match r with
 | some k=>
  if i - k >0 then
   if(k==0)=true then pure (.done (some (Ia a b (o++(a.extract k i).reverse) k j),k,j,o++(a.extract k i).reverse,mg,i - k,bc))
   else Vp a b mg (i - k) bc k j (o++(a.extract k i).reverse)
  else Vp a b mg (i - k) bc i j o
 | _=>pure (.done (some (Ia a b o i j),i,j,o,mg,ac,bc))
abbrev S5:=cT (ft eI)×Nat×Nat×ft eI×Nat
def Sx (c:S5):StateT gM Sem (ForInStep S5):=do
 let d <- forIn [:a.size+b.size] ((none,c.2.1,c.2.2.1,c.2.2.2.1,0,0):cT (ft eI)×Nat×Nat×ft eI×Nat×Nat) λ_ d=>Nd a b c.2.2.2.2 d.2.1 d.2.2.1 d.2.2.2.1 d.2.2.2.2.1 d.2.2.2.2.2
 match d.1 with
 | some r=>pure (.done (some r,d.2.1,d.2.2.1,d.2.2.2.1,c.2.2.2.2))
 | none=>do
  liftM (rule "list.sort.gallop")
  let e <- forIn [:a.size+b.size] ((none,d.2.1,d.2.2.1,d.2.2.2.1,c.2.2.2.2+1,d.2.2.2.2.1,d.2.2.2.2.2):S7) λ_ e=>if e.2.2.2.2.1 >1 then Vr a b (e.2.2.2.2.1 - 1) e.2.2.2.2.2.1 e.2.2.2.2.2.2 e.2.1 e.2.2.1 e.2.2.2.1 else Vr a b e.2.2.2.2.1 e.2.2.2.2.2.1 e.2.2.2.2.2.2 e.2.1 e.2.2.1 e.2.2.2.1
  match e.1 with
  | some r=>pure (.done (some r,e.2.1,e.2.2.1,e.2.2.2.1,e.2.2.2.2.1))
  | none=>do
   modify λs=>cw s (e.2.2.2.2.1+1)
   pure (.yield (none,e.2.1,e.2.2.1,e.2.2.2.1,e.2.2.2.2.1+1))
theorem Cy:X2 a b=(do
  liftM (rule "list.sort.merge-hi")
  let x <- elem' a (a.size - 1)
  if(a.size - 1==0)=true then pure (Ia a b #[x] (a.size - 1) b.size)
  else if(b.size==1)=true then pure (Qy a b #[x] (a.size - 1) b.size)
  else do
   let g <- get
   let c <- forIn [:a.size+b.size] ((none,a.size - 1,b.size, #[x],gallopOf g):S5) λ_ c=>Sx a b c
   match c.1 with
   | some r=>pure r
   | none=>unsupported "internal:list.sort.merge-bound"):=by
 exact uy λ_=>uy λx=> ?_
 exact CL rfl (CL rfl (uy λg=>Dh (CS λ_ c=> ?_) λc=> ?_))
 exact Dh (CS λ_ d=>rfl) λd=> ?_
 let⟨r,d⟩:=d
 cases r with
 | some r=>rfl
 | none =>
  exact uy λ_=>Dh (CS λ_ e=> ?_) λe=> ?_;exact CL ?_ ?_<;>
  .refine uy λ_=>uy λx=>uy λr=> ?_;cases r with
   | none=>rfl
   | some k=>
    exact CL (CL rfl ?_) ?_<;>
    .exact uy λy=>CL rfl (uy λz=>uy λr=> ?_);cases r<;>rfl
  let⟨r,e⟩:=e;cases r<;>rfl
 let⟨r,c⟩:=c
 cases r<;>rfl
end
def fJ {xs:ft eI}{i:Nat}(h:i<xs.size):xs.toList[i]? =some (bV xs i):=by rw[<- He h];simp
def C2 {xs:ft eI}{i:Nat}(h:i<xs.size):xs.toList.drop i=bV xs i::xs.toList.drop (i+1):=by have h':i<xs.toList.length:= ⇑h;have e:=fJ h;rw[aw h'] at e;rw[cZ h',aW e]
def wJ {xs:ft eI}{i:Nat}(h:i<xs.size):(xs.toList.drop i).take 1= [bV xs i]:=by rw[C2 h];rfl
def gF {xs:ft eI}{i:Nat}{y:eI}(h:y∈xs.toList.drop i): ∃k,cg (i<=k) (k<xs.size) (y=bV xs k):=by let⟨n,hn⟩:=List.mem_iff_getElem?.mp h;rw[List.getElem?_drop] at hn;have hl:=(aB.mp hn).1;have A8:i+n<xs.size:= ⇑hl;rw[fJ A8] at hn;show#[i+n, ∅,A8,(aW hn).symm]
def uR {xs:ft eI}{i k:Nat}{y:eI}(h:y∈(xs.toList.drop i).take k): ∃n,eZ (i<=n) (n<i+k) (n<xs.size) (y=bV xs n):=by let⟨n,hn⟩:=List.mem_iff_getElem?.mp h;rw[List.getElem?_take] at hn;split at hn;rename_i hk;rw[List.getElem?_drop] at hn;have hl:=(aB.mp hn).1;have A8:i+n<xs.size:= ⇑hl;rw[fJ A8] at hn;show#[i+n, ∅, ∅,A8,(aW hn).symm];cases hn
def kJ {less:eI ->eI ->Bool}(O:Ord less){xs:ft eI}(h:xs.toList.Pairwise (LE less)){i j:Nat}(iL:i<=j)(hj:j<xs.size):LE less (bV xs i) (bV xs j):=by
 by_cases c:i=j;subst c;show O.refl _;rw[List.pairwise_iff_getElem] at h;have sy:i<xs.toList.length:=by simp;lia
 have Kc:j<xs.toList.length:= ⇑hj;have:=h i j sy Kc ∅;have e1:=fJ (xs:=xs) (i:=i) ∅;have e2:=fJ hj;rw[aw sy] at e1;rw[aw Kc] at e2;rwa [aW e1,aW e2] at this
theorem uW {less:eI ->eI ->Bool}(O:Ord less){xs:ft eI}(h:xs.toList.Pairwise (LE less)){i n:Nat}(hn:i+n<=xs.size):Sg less xs i (i+n):=λx y _ VI hy=>kJ O h VI ∅
def xN (xs:ft eI)(i k:Nat):(xs.extract i (i+k)).toList=(xs.toList.drop i).take k:=by rw[Array.toList_extract,List.extract_eq_take_drop];congr 1;lia
def qd (xs:ft eI)(i:Nat):(xs.extract i xs.size).toList=xs.toList.drop i:=by rw[Array.toList_extract,List.extract_eq_take_drop];show List.take_of_length_le (by simp)
section
variable {prog:gA}{w:gB}{A:hV}{E:cG ->cL ->Prop}{s:cL}{kd:SortKind}{a₀:ft eI}{less:eI ->eI ->Bool}
structure uD (less:Keyed ->Keyed ->Bool)(a₀ a b:Array Keyed):Prop where
 sa:a.toList.Pairwise (LE less)
 sb:b.toList.Pairwise (LE less)
 ma: ∀i,i<a.size ->bV a i∈a₀.toList
 mb: ∀i,i<b.size ->bV b i∈a₀.toList
 na:1<=a.size
 nb:1<=b.size
 h0:less (bV b 0) (bV a 0)=true
 hl: ∀j,j<b.size ->less (bV b j) (bV a (a.size - 1))=true
def rO (less:eI ->eI ->Bool)(a b r:ft eI):Prop:=r.toList.Perm (a.toList++b.toList) /\ r.toList.Pairwise (LE less)
structure JL (less:Keyed ->Keyed ->Bool)(a b o:Array Keyed)(i j:Nat):Prop where
 mi:MI less a.toList b.toList o.toList i j
 hi:i+1<a.size
 hj:j<b.size
variable {a b:ft eI}
def vc (T:uD less a₀ a b){o:ft eI}{i j:Nat}(h:MI less a.toList b.toList o.toList i j)(hj:b.size<=j \/ a.size<=i):rO less a b (H_ a b o i j):=by
 unfold rO H_;rw[bB,bB,qd,qd];have:=h.swap.fin T.sb T.sa λx hx y hy=>by obtain hj | hj:=hj;let⟨k,h1,h2,_⟩:=gF hy;lia;let⟨k,h1,h2,_⟩:=gF hx;lia
 show#[this.1.trans c7,this.2]
def vb (O:Ord less)(T:uD less a₀ a b){o:ft eI}{i j:Nat}(h:MI less a.toList b.toList o.toList i j)(hi:i+1=a.size):rO less a b (Qr a b o i j):=by unfold rO Qr;rw[bB,bB,qd,qd];exact h.fin T.sa T.sb λx hx y hy=> ?_;let⟨k,h1,h2,rfl⟩:=gF hx;let⟨k',Ph,HV,rfl⟩:=gF hy;rw[show k'=a.size - 1 by lia];show O.le (T.hl k h2)
def zb (O:Ord less)(T:uD less a₀ a b){o:ft eI}{i j:Nat}(h:MI less a.toList b.toList o.toList i j)(hj:j<b.size)(hc:i<a.size ->LE less (bV b j) (bV a i)):MI less a.toList b.toList (o.push (bV b j)).toList i (j+1):=by have:=(h.swap.KG T.sb 1 λx hx y hy=>by rw[wJ hj] at hx;rw[aK.mp hx];let⟨k,h1,h2,rfl⟩:=gF hy;show O.trans _ _ _ (hc ∅) (kJ O T.sa h1 h2)).swap;rw[wJ hj] at this;rwa [Array.toList_push]
def EU (O:Ord less)(T:uD less a₀ a b){o:ft eI}{i j:Nat}(h:MI less a.toList b.toList o.toList i j)(hi:i<a.size)(hc:j<b.size ->LE less (bV a i) (bV b j)):MI less a.toList b.toList (o.push (bV a i)).toList (i+1) j:=by
 have:=h.KG T.sa 1 λx hx y hy=>by rw[wJ hi] at hx;rw[aK.mp hx];let⟨k,h1,h2,rfl⟩:=gF hy;show O.trans _ _ _ (hc ∅) (kJ O T.sb h1 h2)
 rw[wJ hi] at this;rwa [Array.toList_push]
def PX (less:eI ->eI ->Bool)(a b:ft eI)(st:gM)(N:Nat)(r:ForInStep R7)(bt:gM):Prop:=(∃g,bt=cw st g) /\ ((bX λx c=>r= .done (some x,c) /\ rO less a b x) \/ (gs λo i j c=>cg (r= .done (none,o,i,j,c) \/ r= .yield (none,o,i,j,c)) (JL less a b o i j) (N<=i+j)))
def wp_p3L (O:Ord less)(T:uD less a₀ a b){st bt:gM}{mg ac bc N:Nat}{o:ft eI}{i j:Nat}(hg: ∃g,bt=cw st g)(J:JL less a b o i j)(hc:LE less (bV a i) (bV b j))(hN:N<=i+j):wpS (model prog w) A E s (Vm a b mg ac bc o i j) (PX less a b st N) bt:=by
 unfold Vm;have hi:=J.hi;exact au (wp_elem ∅ ?_);have m:=EU O T J.mi ∅ λ_=>hc;by_cases c:i+1+1=a.size;rw[aj ⇑c];show aA #[hg, .inl #[_,_,rfl,vb O T m c]];rw[ah ⇑c];have J':JL less a b (o.push (bV a i)) (i+1) j:=#[m, ∅,J.hj]
 split;show aA #[hg, .inr #[_,_,_,_, .inl rfl,J', ∅]];show aA #[hg, .inr #[_,_,_,_, .inr rfl,J', ∅]]
def wp_p2L (O:Ord less)(L:gt prog w A E s kd a₀ less)(T:uD less a₀ a b){st bt:gM}{mg ac bc N:Nat}{o:ft eI}{i j:Nat}(hk:kindOf bt=kd)(hg: ∃g,bt=cw st g)(J:JL less a b o i j)(hc:less (bV b j) (bV a i)=true)(hN:N<=i+j):wpS (model prog w) A E s (Vo a b mg ac bc o i j) (PX less a b st N) bt:=by
 unfold Vo;have hi:=J.hi;have hj:=J.hj;exact au (wp_elem hj ?_);have m:=zb O T J.mi hj λ_=>O.le hc;by_cases c:j+1=b.size;rw[aj ⇑c];show aA #[hg, .inl #[_,_,rfl,vc T m (.inl ∅)]];rw [ah ⇑c];exact au (wp_elem ∅ ?_);exact au (wp_galL O L hk (T.ma i ∅) (λk hk=>#[∅,T.mb _ ∅]) ∅ (uW O T.sb ∅) λk h1 h2 h3=> ?_);dsimp only;by_cases ck:k >0;rw[aj ck];have m2:MI less a.toList b.toList (o.push (bV b j)++b.extract (j+1) (j+1+k)).toList i (j+1+k):=by rw[bB,xN];exact(m.swap.KG T.sb k λx hx y hy=> ?_).swap;let⟨n,n1,n2,n3,rfl⟩:=uR hx;let⟨k',k1,k2,rfl⟩:=gF hy;have:=h2 (n - (j+1)) ∅;rw[show j+1+(n - (j+1))=n by lia] at this;show O.trans _ _ _ (O.le this) (kJ O T.sa k1 k2)
 by_cases c2:j+1+k=b.size;rw[aj ⇑c2];show aA #[hg, .inl #[_,_,rfl,vc T m2 (.inl ∅)]];rw[ah ⇑c2];show wp_p3L O T hg #[m2,hi, ∅] (h3 k (ak _) ∅) ∅;rw[ah ck];have:k=0:= ∅;subst this;show wp_p3L O T hg #[m,hi, ∅] (h3 0 (ak _) ∅) ∅
def wp_p1L (O:Ord less)(L:gt prog w A E s kd a₀ less)(T:uD less a₀ a b){st bt:gM}{mg ac bc N:Nat}{o:ft eI}{i j:Nat}(hk:kindOf st=kd)(hg: ∃g,bt=cw st g)(J:JL less a b o i j)(hN:N<=i+j):wpS (model prog w) A E s (Vq a b mg ac bc o i j) (PX less a b st N) bt:=by
 unfold Vq;have hi:=J.hi;have hj:=J.hj;exact au (wpS_modify ?_);have O7: ∃g,cw bt mg=cw st g:=by let⟨g,rfl⟩:=hg;show#[mg,rfl]
 have sx:kindOf (cw bt mg)=kd:=by let⟨g,rfl⟩:=hg;show hk
 exact au (wp_elem hj ?_);exact au (wp_galR O L sx (T.mb j hj) (λk hk=>#[∅,T.ma _ ∅]) ∅ (uW O T.sa ∅) λk h1 h2 h3=> ?_);dsimp only;have YH:i+k<a.size:=by by_cases c:i+k<a.size;show c;have:=h2 (a.size - 1 - i) ∅;rw[show i+(a.size - 1 - i)=a.size - 1 by lia] at this;unfold LE at this;rw[T.hl j hj] at this;cases this
 have Ms:=h3 k (ak _) ∅;by_cases ck:k >0;rw[aj ck];have m2:MI less a.toList b.toList (o++a.extract i (i+k)).toList (i+k) j:=by rw[bB,xN];exact J.mi.KG T.sa k λx hx y hy=> ?_;let⟨n,n1,n2,n3,rfl⟩:=uR hx;let⟨k',k1,k2,rfl⟩:=gF hy;have:=h2 (n - i) ∅;rw[show i+(n - i)=n by lia] at this;show O.trans _ _ _ this (kJ O T.sb k1 k2)
 by_cases c2:i+k+1=a.size;rw[aj ⇑c2];show aA #[O7, .inl #[_,_,rfl,vb O T m2 c2]];rw[ah ⇑c2,ah (by simp;lia)];show wp_p2L O L T sx O7 #[m2, ∅,hj] Ms ∅;rw[ah ck];have:k=0:= ∅;subst this;show wp_p2L O L T sx O7 J Ms hN
def wp_one1 (O:Ord less)(L:gt prog w A E s kd a₀ less)(T:uD less a₀ a b){bt:gM}{mg ac bc:Nat}{o:ft eI}{i j:Nat}{Q:ForInStep R6 ->gM ->Prop}(hk:kindOf bt=kd)(J:JL less a b o i j) (h1: ∀x c,rO less a b x ->Q (.done (some x,c)) bt) (h2: ∀o i' j' c,JL less a b o i' j' ->i'+j'=i+j+1 ->Q (.done (none,o,i',j',c)) bt /\ Q (.yield (none,o,i',j',c)) bt): wpS (model prog w) A E s (Od a b mg o i j ac bc) Q bt:=by
 unfold Od;have hi:=J.hi;have hj:=J.hj;exact au (wp_elem hj (au (wp_elem ∅ (au (L _ _ _ _ (T.mb j hj) (T.ma i ∅) hk ?_)))));dsimp only;cases e:less (bV b j) (bV a i) with
 | true=>simp![bJ];exact au (wp_elem hj ?_);have m:=zb O T J.mi hj λ_=>O.le e;by_cases c:j+1=b.size;rw[aj ⇑c];show aA (h1 _ _ (vc T m (.inl ∅)));rw[ah ⇑c];have:=h2 _ i (j+1) (0,bc+1) #[m,hi, ∅] ∅;split;show aA this.1;show aA this.2
 | false=>simp![av,bp];exact au (wp_elem ∅ ?_);have m:=EU O T J.mi ∅ λ_=>e;by_cases c:i+1+1=a.size;rw[aj ⇑c];show aA (h1 _ _ (vb O T m c));rw[ah ⇑c];have:=h2 _ (i+1) j (ac+1,0) #[m, ∅,hj] ∅;split;show aA this.1;show aA this.2
def wp_mLo (O:Ord less)(L:gt prog w A E s kd a₀ less)(T:uD less a₀ a b){st:gM}{Q:ft eI ->gM ->Prop}(hk:kindOf st=kd)(h: ∀r g,rO less a b r ->Q r (cw st g)):wpS (model prog w) A E s (X1 a b) Q st:=by
 rw[Cw];have na:=T.na;have nb:=T.nb;exact au (wpS_lift (wpAny_rule #[rfl,?_]));exact au (wp_elem ∅ ?_);have h': ∀r,rO less a b r ->Q r st:=λr hr=>h r (gallopOf st) hr;have m:MI less a.toList b.toList (#[bV b 0]:ft eI).toList 0 1:=by
  have m0:MI less a.toList b.toList (#[]:ft eI).toList 0 0:=#[by simp,by simp,by simp,by simp]
  show zb O T m0 ∅ λ_=>O.le T.h0
 by_cases c:1=b.size;rw[aj ⇑c];show aA (h' _ (vc T m (.inl ∅)));rw[ah ⇑c];by_cases c2:0+1=a.size;rw[aj ⇑c2];show aA (h' _ (vb O T m c2));rw[ah ⇑c2];exact au (wpS_get ?_);exact au (wpS_mono (bS (I:=λn c bt=>(∃g,bt=cw st g) /\ gs λo i j mg=>cg (c=(none,o,i,j,mg)) (JL less a b o i j) (n+1<=i+j)) (Q:=λc bt=>(∃g,bt=cw st g) /\ bX λx d=>c=(some x,d) /\ rO less a b x) ?_ ?_ #[#[gallopOf st,rfl],_,0,1,_,rfl,#[m, ∅, ∅], ∅]) ?_)
 .rintro n c bt _ hn ⟨hg,o,i,j,mg,rfl,J,hN⟩;unfold Sw;dsimp only;have sx:kindOf bt=kd:=by let⟨g,rfl⟩:=hg;show hk
  exact au (wpS_mono (bS (I:=λx c kr=>kr=bt /\ gs λo' i' j' d=>cg (c=(none,o',i',j',d)) (JL less a b o' i' j') (i'+j'=i+j+x)) (Q:=λc kr=>kr=bt /\ ((bX λx d=>c=(some x,d) /\ rO less a b x) \/ gs λo' i' j' d=>cg (c=(none,o',i',j',d)) (JL less a b o' i' j') (i+j+1<=i'+j'))) ?_ ?_ #[rfl,o,i,j,_,rfl,J,rfl]) ?_);rintro x c kr _ hx ⟨rfl,o',i',j',⟨ac,bc⟩,rfl,J',Kg⟩;dsimp only;exact wp_one1 O L T sx J' (λx c hr=>#[rfl, .inl #[x,c,rfl,hr]]) λo2 i2 j2 c J2 h2=>#[#[rfl, .inr #[o2,i2,j2,c,rfl,J2, ∅]],#[rfl,o2,i2,j2,c,rfl,J2, ∅]]
  rintro c kr ⟨rfl,o',i',j',d,rfl,J',Kg⟩;show#[rfl, .inr #[o',i',j',d,rfl,J', ∅]]
  .rintro c kr ⟨rfl,⟨x,d,rfl,hr⟩ | ⟨o',i',j',⟨ac,bc⟩,rfl,J',Kg⟩⟩;show aA #[hg,x,_,rfl,hr]
   .dsimp only;exact au (wpS_lift (wpAny_rule #[rfl,?_]));exact au (wpS_mono (bS (I:=λx c sv=>(∃g,sv=cw st g) /\ gs λo' i' j' d=>cg (c=(none,o',i',j',d)) (JL less a b o' i' j') (i+j+1<=i'+j')) (Q:=λc sv=>(∃g,sv=cw st g) /\ ((bX λx d=>c=(some x,d) /\ rO less a b x) \/ gs λo' i' j' d=>cg (c=(none,o',i',j',d)) (JL less a b o' i' j') (i+j+1<=i'+j'))) ?_ ?_ #[hg,o',i',j',_,rfl,J',Kg]) ?_)
    .rintro x c sv _ hx ⟨CO,o3,i3,j3,⟨X0,ac3,bc3⟩,rfl,J3,Bb⟩;dsimp only;split;all_goals
      exact wpS_mono (wp_p1L O L T hk CO J3 Bb) ?_
      rintro r eN ⟨O6,⟨x,c,rfl,hr⟩ | ⟨o,i,j,c,rfl | rfl,J4,h4⟩⟩
      show#[O6, .inl #[x,c,rfl,hr]]
      show#[O6, .inr #[o,i,j,c,rfl,J4,h4]]
      show#[O6,o,i,j,c,rfl,J4,h4]
    rintro c sv ⟨CO,o3,i3,j3,d,rfl,J3,Bb⟩;show#[CO, .inr #[o3,i3,j3,d,rfl,J3,Bb]];rintro c sv ⟨CO,⟨x,d,rfl,hr⟩ | ⟨o3,i3,j3,⟨X0,ac3,bc3⟩,rfl,J3,Bb⟩⟩;show aA #[CO,x,_,rfl,hr];dsimp only;exact au (wpS_modify (aA #[?_,o3,i3,j3,_,rfl,J3, ∅]));let⟨g,rfl⟩:=CO;show#[_,rfl]
 rintro c bt ⟨hg,o,i,j,mg,rfl,J,hN⟩;have:=J.hi;have:=J.hj;lia;rintro c bt ⟨⟨g,rfl⟩,x,d,rfl,hr⟩;show aA (h x g hr)
end
def tK {xs:ft eI}{i:Nat}{y:eI}(h:y∈xs.toList.take i): ∃n,cg (n<i) (n<xs.size) (y=bV xs n):=by let⟨n,hn⟩:=List.mem_iff_getElem?.mp h;rw[List.getElem?_take] at hn;split at hn;have hl:=(aB.mp hn).1;have A8:n<xs.size:= ⇑hl;rw[fJ A8] at hn;show#[n, ∅,A8,(aW hn).symm];cases hn
def Ai {xs:ft eI}{i k:Nat}{y:eI}(h:y∈(xs.toList.take i).drop k): ∃n,eZ (k<=n) (n<i) (n<xs.size) (y=bV xs n):=by rw[List.drop_take] at h;let⟨n,h1,h2,h3,e⟩:=uR h;show#[n,h1, ∅,h3,e]
def Vb {xs:ft eI}{i:Nat}(h0:1<=i)(h:i<=xs.size):(xs.toList.take i).drop (i - 1)= [bV xs (i - 1)]:=by rw[List.drop_take,show i - (i - 1)=1 by lia,wJ ∅]
def lw (xs:ft eI)(k i:Nat):(xs.extract k i).toList=(xs.toList.take i).drop k:=by rw[Array.toList_extract,List.extract_eq_take_drop,List.drop_take]
def Bo (xs:ft eI)(i:Nat):(xs.extract 0 i).toList=xs.toList.take i:=by rw[lw,List.drop_zero]
section
variable {prog:gA}{w:gB}{A:hV}{E:cG ->cL ->Prop}{s:cL}{kd:SortKind}{a₀:ft eI}{less:eI ->eI ->Bool}
structure JH (less:Keyed ->Keyed ->Bool)(a b o:Array Keyed)(i j:Nat):Prop where
 mi:MH less a.toList b.toList o.toList.reverse i j
 hi:1<=i
 hj:2<=j
 ia:i<=a.size
 jb:j<=b.size
variable {a b:ft eI}
def lZ (T:uD less a₀ a b){o:ft eI}{i j:Nat}(h:MH less a.toList b.toList o.toList.reverse i j)(hj:i=0 \/ j=0):rO less a b (Ia a b o i j):=by unfold rO Ia;rw[bB,bB,Bo,Bo,Array.toList_reverse];exact h.fin T.sa T.sb λx hx y hy=> ?_;obtain hj | hj:=hj;subst hj;simp at hx;subst hj;simp at hy
def p6 (O:Ord less)(T:uD less a₀ a b){o:ft eI}{i j:Nat}(h:MH less a.toList b.toList o.toList.reverse i j)(hj:j=1):rO less a b (Qy a b o i j):=by
 unfold rO Qy;rw[bB,bB,Bo,Bo,Array.toList_reverse];have:=h.swap.fin T.sb T.sa λx hx y hy=>by let⟨n,n1,n2,rfl⟩:=tK hx;let⟨k,k1,k2,rfl⟩:=tK hy;rw[show n=0 by lia];show O.trans _ _ _ (O.le T.h0) (kJ O T.sa (cN _) k2)
 show#[this.1.trans c7,this.2]
def vf (O:Ord less)(T:uD less a₀ a b){o:ft eI}{i j:Nat}(h:MH less a.toList b.toList o.toList.reverse i j)(h1:1<=i)(hi:i<=a.size)(hj:j<=b.size)(hc:1<=j ->LE less (bV b (j - 1)) (bV a (i - 1))):MH less a.toList b.toList (o.push (bV a (i - 1))).toList.reverse (i - 1) j:=by
 have:=h.KG T.sa (k:=i - 1) ∅ λx hx y hy=>by rw[Vb h1 hi] at hx;rw[aK.mp hx];let⟨k,k1,k2,rfl⟩:=tK hy;show O.trans _ _ _ (kJ O T.sb (show k<=j - 1 by lia) ∅) (hc ∅)
 rw[Vb h1 hi] at this;rw[Array.toList_push,List.reverse_append];show this
def AF (O:Ord less)(T:uD less a₀ a b){o:ft eI}{i j:Nat}(h:MH less a.toList b.toList o.toList.reverse i j)(h1:1<=j)(hi:i<=a.size)(hj:j<=b.size)(hc:1<=i ->LE less (bV a (i - 1)) (bV b (j - 1))):MH less a.toList b.toList (o.push (bV b (j - 1))).toList.reverse i (j - 1):=by have:=(h.swap.KG T.sb (k:=j - 1) ∅ λx hx y hy=>by rw[Vb h1 hj] at hx;rw[aK.mp hx];let⟨k,k1,k2,rfl⟩:=tK hy;show O.trans _ _ _ (kJ O T.sa (show k<=i - 1 by lia) ∅) (hc ∅)).swap;rw[Vb h1 hj] at this;rw[Array.toList_push,List.reverse_append];show this
def Az (o x:ft eI):(o++x.reverse).toList.reverse=x.toList++o.toList.reverse:=by rw[bB,Array.toList_reverse,List.reverse_append,List.reverse_reverse]
def PV (less:eI ->eI ->Bool)(a b:ft eI)(st:gM)(N:Nat)(r:ForInStep S7)(bt:gM):Prop:=(∃g,bt=cw st g) /\ ((bX λx c=>r= .done (some x,c) /\ rO less a b x) \/ (gs λi j o c=>cg (r= .done (none,i,j,o,c) \/ r= .yield (none,i,j,o,c)) (JH less a b o i j) (i+j<=N)))
def wp_p3H (O:Ord less)(T:uD less a₀ a b){st bt:gM}{mg ac bc N:Nat}{o:ft eI}{i j:Nat}(hg: ∃g,bt=cw st g)(J:JH less a b o i j)(hc:LE less (bV b (j - 1)) (bV a (i - 1)))(hN:i+j<=N):wpS (model prog w) A E s (Vn a b mg ac bc i j o) (PV less a b st N) bt:=by
 unfold Vn;have hi:=J.hi;have ia:=J.ia;exact au (wp_elem ∅ ?_);have m:=vf O T J.mi J.hi J.ia J.jb λ_=>hc;by_cases c:i - 1=0;rw[aj ⇑c];show aA #[hg, .inl #[_,_,rfl,lZ T m (.inl c)]];rw[ah ⇑c];have J':JH less a b (o.push (bV a (i - 1))) (i - 1) j:=#[m, ∅,J.hj, ∅,J.jb]
 split;show aA #[hg, .inr #[_,_,_,_, .inl rfl,J', ∅]];show aA #[hg, .inr #[_,_,_,_, .inr rfl,J', ∅]]
def wp_p2H (O:Ord less)(L:gt prog w A E s kd a₀ less)(T:uD less a₀ a b){st bt:gM}{mg ac bc N:Nat}{o:ft eI}{i j:Nat}(hk:kindOf bt=kd)(hg: ∃g,bt=cw st g)(J:JH less a b o i j)(hc:LE less (bV a (i - 1)) (bV b (j - 1)))(hN:i+j<=N):wpS (model prog w) A E s (Vp a b mg ac bc i j o) (PV less a b st N) bt:=by
 unfold Vp;have hi:=J.hi;have hj:=J.hj;have ia:=J.ia;have jb:=J.jb;exact au (wp_elem ∅ ?_);have m:=AF O T J.mi ∅ ia jb λ_=>hc;by_cases c:j - 1=1;rw[aj ⇑c];show aA #[hg, .inl #[_,_,rfl,p6 O T m c]];rw [ah ⇑c];exact au (wp_elem ∅ ?_);have sg:=uW O T.sb (i:=0) (n:=j - 1) ∅;exact au (wp_galL O L hk (T.ma (i - 1) ∅) (λk hk=>#[∅,T.mb _ ∅]) ∅ sg λk h1 h2 h3=> ?_);dsimp only;simp![Nat.zero_add] at h2 h3;by_cases ck:j - 1 - k >0;rw[aj ck];have m2:MH less a.toList b.toList (o.push (bV b (j - 1))++(b.extract k (j - 1)).reverse).toList.reverse i k:=by rw[Az,lw];exact(m.swap.KG T.sb ∅ λx hx y hy=> ?_).swap;let⟨n,n1,n2,n3,rfl⟩:=Ai hx;let⟨k',k1,k2,rfl⟩:=tK hy;show O.trans _ _ _ (kJ O T.sa (show k'<=i - 1 by lia) ∅) (h3 n n1 n2)
 by_cases c2:k=1;rw[aj ⇑c2];show aA #[hg, .inl #[_,_,rfl,p6 O T m2 c2]];rw[ah ⇑c2];by_cases c3:k=0;rw[aj ⇑c3];show aA #[hg, .inl #[_,_,rfl,lZ T m2 (.inr c3)]];rw[ah ⇑c3];show wp_p3H O T hg #[m2,hi, ∅,ia, ∅] (O.le (h2 (k - 1) ∅)) ∅;rw[ah ck];show wp_p3H O T hg #[m,hi, ∅,ia, ∅] (O.le (h2 (j - 1 - 1) ∅)) ∅
def wp_p1H (O:Ord less)(L:gt prog w A E s kd a₀ less)(T:uD less a₀ a b){st bt:gM}{mg ac bc N:Nat}{o:ft eI}{i j:Nat}(hk:kindOf st=kd)(hg: ∃g,bt=cw st g)(J:JH less a b o i j)(hN:i+j<=N):wpS (model prog w) A E s (Vr a b mg ac bc i j o) (PV less a b st N) bt:=by
 unfold Vr;have hi:=J.hi;have hj:=J.hj;have ia:=J.ia;have jb:=J.jb;exact au (wpS_modify ?_);have O7: ∃g,cw bt mg=cw st g:=by let⟨g,rfl⟩:=hg;show#[mg,rfl]
 have sx:kindOf (cw bt mg)=kd:=by let⟨g,rfl⟩:=hg;show hk
 exact au (wp_elem ∅ ?_);have sg:=uW O T.sa (i:=0) (n:=i) ∅;exact au (wp_galR O L sx (T.mb (j - 1) ∅) (λk hk=>#[∅,T.ma _ ∅]) ∅ sg λk h1 h2 h3=> ?_);dsimp only;simp![Nat.zero_add] at h2 h3;by_cases ck:i - k >0;rw[aj ck];have m2:MH less a.toList b.toList (o++(a.extract k i).reverse).toList.reverse k j:=by rw[Az,lw];exact J.mi.KG T.sa ∅ λx hx y hy=> ?_;let⟨n,n1,n2,n3,rfl⟩:=Ai hx;let⟨k',k1,k2,rfl⟩:=tK hy;show O.trans _ _ _ (kJ O T.sb (show k'<=j - 1 by lia) ∅) (O.le (h3 n n1 n2))
 by_cases c2:k=0;rw[aj ⇑c2];show aA #[O7, .inl #[_,_,rfl,lZ T m2 (.inl c2)]];rw[ah ⇑c2];show wp_p2H O L T sx O7 #[m2, ∅,hj, ∅,jb] (h2 (k - 1) ∅) ∅;rw[ah ck];show wp_p2H O L T sx O7 J (h2 (i - 1) ∅) hN
def wp_two1 (O:Ord less)(L:gt prog w A E s kd a₀ less)(T:uD less a₀ a b){bt:gM}{mg ac bc:Nat}{o:ft eI}{i j:Nat}{Q:ForInStep (cT (ft eI)×Nat×Nat×ft eI×Nat×Nat) ->gM ->Prop}(hk:kindOf bt=kd)(J:JH less a b o i j) (h1: ∀x c,rO less a b x ->Q (.done (some x,c)) bt) (h2: ∀i' j' o c,JH less a b o i' j' ->i'+j'+1=i+j ->Q (.done (none,i',j',o,c)) bt /\ Q (.yield (none,i',j',o,c)) bt): wpS (model prog w) A E s (Nd a b mg i j o ac bc) Q bt:=by
 unfold Nd;have hi:=J.hi;have hj:=J.hj;have ia:=J.ia;have jb:=J.jb;exact au (wp_elem ∅ (au (wp_elem ∅ (au (L _ _ _ _ (T.mb (j - 1) ∅) (T.ma (i - 1) ∅) hk ?_)))));dsimp only;cases e:less (bV b (j - 1)) (bV a (i - 1)) with
 | true=>simp![bJ];exact au (wp_elem ∅ ?_);have m:=vf O T J.mi hi ia jb λ_=>O.le e;by_cases c:i - 1=0;rw[aj ⇑c];show aA (h1 _ _ (lZ T m (.inl c)));rw[ah ⇑c];have:=h2 (i - 1) j _ (ac+1,0) #[m, ∅,hj, ∅,jb] ∅;split;show aA this.1;show aA this.2
 | false=>simp![av,bp];exact au (wp_elem ∅ ?_);have m:=AF O T J.mi ∅ ia jb λ_=>e;by_cases c:j - 1=1;rw[aj ⇑c];show aA (h1 _ _ (p6 O T m c));rw[ah ⇑c];have:=h2 i (j - 1) _ (0,bc+1) #[m,hi, ∅,ia, ∅] ∅;split;show aA this.1;show aA this.2
def wp_mHi (O:Ord less)(L:gt prog w A E s kd a₀ less)(T:uD less a₀ a b){st:gM}{Q:ft eI ->gM ->Prop}(hk:kindOf st=kd)(h: ∀r g,rO less a b r ->Q r (cw st g)):wpS (model prog w) A E s (X2 a b) Q st:=by
 rw[Cy];have na:=T.na;have nb:=T.nb;exact au (wpS_lift (wpAny_rule #[rfl,?_]));exact au (wp_elem ∅ ?_);have h': ∀r,rO less a b r ->Q r st:=λr hr=>h r (gallopOf st) hr;have m:MH less a.toList b.toList (#[bV a (a.size - 1)]:ft eI).toList.reverse (a.size - 1) b.size:=by
  have m0:MH less a.toList b.toList (#[]:ft eI).toList.reverse a.size b.size:=#[by simp,by simp,by simp,by simp]
  show vf O T m0 ∅ (ak _) (ak _) λ_=>O.le (T.hl _ ∅)
 by_cases c:a.size - 1=0;rw[aj ⇑c];show aA (h' _ (lZ T m (.inl c)));rw[ah ⇑c];by_cases c2:b.size=1;rw[aj ⇑c2];show aA (h' _ (p6 O T m c2));rw[ah ⇑c2];exact au (wpS_get ?_);exact au (wpS_mono (bS (I:=λn c bt=>(∃g,bt=cw st g) /\ gs λi j o mg=>cg (c=(none,i,j,o,mg)) (JH less a b o i j) (i+j+n<a.size+b.size)) (Q:=λc bt=>(∃g,bt=cw st g) /\ bX λx d=>c=(some x,d) /\ rO less a b x) ?_ ?_ #[#[gallopOf st,rfl],_,_,_,_,rfl,#[m, ∅, ∅, ∅, ∅], ∅]) ?_)
 .rintro n c bt _ hn ⟨hg,i,j,o,mg,rfl,J,hN⟩;unfold Sx;dsimp only;have sx:kindOf bt=kd:=by let⟨g,rfl⟩:=hg;show hk
  exact au (wpS_mono (bS (I:=λx c kr=>kr=bt /\ gs λi' j' o' d=>cg (c=(none,i',j',o',d)) (JH less a b o' i' j') (i'+j'+x=i+j)) (Q:=λc kr=>kr=bt /\ ((bX λx d=>c=(some x,d) /\ rO less a b x) \/ gs λi' j' o' d=>cg (c=(none,i',j',o',d)) (JH less a b o' i' j') (i'+j'+1<=i+j))) ?_ ?_ #[rfl,i,j,o,_,rfl,J,rfl]) ?_);rintro x c kr _ hx ⟨rfl,i',j',o',⟨ac,bc⟩,rfl,J',Kg⟩;dsimp only;exact wp_two1 O L T sx J' (λx c hr=>#[rfl, .inl #[x,c,rfl,hr]]) λi2 j2 o2 c J2 h2=>#[#[rfl, .inr #[i2,j2,o2,c,rfl,J2, ∅]],#[rfl,i2,j2,o2,c,rfl,J2, ∅]]
  rintro c kr ⟨rfl,i',j',o',d,rfl,J',Kg⟩;show#[rfl, .inr #[i',j',o',d,rfl,J', ∅]]
  .rintro c kr ⟨rfl,⟨x,d,rfl,hr⟩ | ⟨i',j',o',⟨ac,bc⟩,rfl,J',Kg⟩⟩;show aA #[hg,x,_,rfl,hr]
   .dsimp only;exact au (wpS_lift (wpAny_rule #[rfl,?_]));exact au (wpS_mono (bS (I:=λx c sv=>(∃g,sv=cw st g) /\ gs λi' j' o' d=>cg (c=(none,i',j',o',d)) (JH less a b o' i' j') (i'+j'+1<=i+j)) (Q:=λc sv=>(∃g,sv=cw st g) /\ ((bX λx d=>c=(some x,d) /\ rO less a b x) \/ gs λi' j' o' d=>cg (c=(none,i',j',o',d)) (JH less a b o' i' j') (i'+j'+1<=i+j))) ?_ ?_ #[hg,i',j',o',_,rfl,J',Kg]) ?_)
    .rintro x c sv _ hx ⟨CO,i3,j3,o3,⟨X0,ac3,bc3⟩,rfl,J3,Bb⟩;dsimp only;split;all_goals
      exact wpS_mono (wp_p1H O L T (N:=i+j - 1) hk CO J3 ∅) ?_
      rintro r eN ⟨O6,⟨x,c,rfl,hr⟩ | ⟨i4,j4,o4,c,rfl | rfl,J4,h4⟩⟩
      show#[O6, .inl #[x,c,rfl,hr]]
      show#[O6, .inr #[i4,j4,o4,c,rfl,J4, ∅]]
      show#[O6,i4,j4,o4,c,rfl,J4, ∅]
    rintro c sv ⟨CO,i3,j3,o3,d,rfl,J3,Bb⟩;show#[CO, .inr #[i3,j3,o3,d,rfl,J3,Bb]];rintro c sv ⟨CO,⟨x,d,rfl,hr⟩ | ⟨i3,j3,o3,⟨X0,ac3,bc3⟩,rfl,J3,Bb⟩⟩;show aA #[CO,x,_,rfl,hr];dsimp only;exact au (wpS_modify (aA #[?_,i3,j3,o3,_,rfl,J3, ∅]));let⟨g,rfl⟩:=CO;show#[_,rfl]
 rintro c bt ⟨hg,i,j,o,mg,rfl,J,hN⟩;have:=J.hi;have:=J.hj;lia;rintro c bt ⟨⟨g,rfl⟩,x,d,rfl,hr⟩;show aA (h x g hr)
end
def z_ (xs:ft eI)(at_:Nat)(l:cz (eI×Nat)):ft eI:=l.foldl (λa (p,j)=>a.setIfInBounds (at_+j) p) xs
theorem yM (at_ n:Nat): ∀ (ms:cz eI) (k:Nat) (xs:ft eI),at_+k+ms.length<=xs.size ->(z_ xs at_ (ms.zipIdx k))[n]? =if at_+k<=n /\ n<at_+k+ms.length then ms[n - (at_+k)]? else xs[n]?
 | [],k,xs,h=>by rw[ah (by simp)];rfl
 | p ::ms,k,xs,h=>by rw[aI] at h;change(z_ (xs.setIfInBounds (at_+k) p) at_ (ms.zipIdx (k+1)))[n]? =_;rw[yM at_ n ms (k+1) _ (by rw[Array.size_setIfInBounds];lia)];rw[aI];by_cases c:n=at_+k;subst c;rw[ah ∅,aj ∅,Array.getElem?_setIfInBounds_self_of_lt ∅];simp;rw[Array.getElem?_setIfInBounds_ne (bD c)];by_cases c2:at_+(k+1) <=n /\ n<at_+(k+1)+ms.length;rw[aj c2,aj ∅,show n - (at_+k)=(n - (at_+(k+1)))+1 by lia,List.getElem?_cons_succ];rw[ah c2,ah ∅]
def DP {xs:ft eI}{at_:Nat}{ms:cz eI}(h:at_+ms.length<=xs.size):(z_ xs at_ ms.zipIdx).toList=xs.toList.take at_++(ms++xs.toList.drop (at_+ms.length)):=by
 apply List.ext_getElem?;intro n;have e:=yM at_ n ms 0 xs ∅;rw[Nat.add_zero] at e;have e':(z_ xs at_ ms.zipIdx).toList[n]? =(z_ xs at_ ms.zipIdx)[n]? :=by simp
 rw[e',e];have hx: ∀k:Nat,xs.toList[k]? =xs[k]? :=λk=>Array.getElem?_toList ..;by_cases c1:n<at_;rw[ah ∅,aU (by rw[bM];simp;lia),List.getElem?_take,aj c1,hx];have lt:(xs.toList.take at_).length=at_:=by rw[bM];simp;lia
 rw[aO ∅,lt];by_cases c2:n<at_+ms.length;rw[aj ∅,aU ∅];rw[ah ∅,aO ∅,List.getElem?_drop,hx];congr 1;lia
def Rp (l:cz eI)(i j k:Nat)(iL:i<=j)(hjk:j<=k)(hk:k<=l.length):l=l.take i++((l.take j).drop i++((l.take k).drop j++l.drop k)):=by
 have e1:(l.take k).drop j++l.drop k=l.drop j:=by rw[List.drop_take];have:=br (k - j) (l.drop j);rw[List.drop_drop,show j+(k - j)=k by lia] at this;show this
 have e2:(l.take j).drop i++l.drop j=l.drop i:=by rw[List.drop_take];have:=br (j - i) (l.drop i);rw[List.drop_drop,show i+(j - i)=j by lia] at this;show this
 rw[e1,e2,br]
def GI {less:eI ->eI ->Bool}(O:Ord less){xs:ft eI}{i j lo hi:Nat}(h:Sg less xs lo hi)(h1:lo<=i)(h2:j<=hi)(h3:hi<=xs.size):(xs.extract i j).toList.Pairwise (LE less):=by
 rw[List.pairwise_iff_getElem];intro x y hx hy VI;have e: ∀n (hn:n< (xs.extract i j).toList.length),(xs.extract i j).toList[n]=bV xs (i+n):=λn hn=>by
  have O0:n< (xs.extract i j).size:=by rw[bT] at hn;show hn
  rw[Array.size_extract] at O0;unfold bV;rw[getElem?_pos xs (i+n) ∅];simp
 rw[e x hx,e y hy];have OJ:y< (xs.extract i j).size:=by rw[bT] at hy;show hy
 rw[Array.size_extract] at OJ;show h _ _ ∅ ∅ ∅
def kl {xs:ft eI}{i j n:Nat}(h:n< (xs.extract i j).size):bV (xs.extract i j) n=bV xs (i+n):=by unfold bV;rw[Array.size_extract] at h;rw[Array.getElem?_extract,aj ∅]
section
variable {prog:gA}{w:gB}{A:hV}{E:cG ->cL ->Prop}{s:cL}{kd:SortKind}{a₀:ft eI}{less:eI ->eI ->Bool}
abbrev Rn:=Nat×Nat×Nat
theorem Ot (i:Nat):mergeAt' i=(do
 let s <- get
 let (some (sa,na,pw),some (sb,nb,_)):=((pendingOf s)[i]?,(pendingOf s)[i+1]?) | unsupported "internal:list.sort.pending"
 set (setPending s (((pendingOf s).setIfInBounds i (sa,na+nb,pw)).eraseIdxIfInBounds (i+1)))
 let some k <- Kl false (<- elem' (arrOf s) sb) (arrOf s) sa na 0 | return false
 let (sa,na):=(sa+k,na - k)
 if na==0 then return true
 let some nb <- Kl true (<- elem' (arrOf s) (sa+na - 1)) (arrOf s) sb nb (nb - 1) | return false
 if nb==0 then return true
 let x:=(arrOf s).extract sa sb
 let y:=(arrOf s).extract sb (sb+nb)
 let r <- if na<=nb then X1 x y else X2 x y
 modify λs=>setArr s (z_ (arrOf s) sa r.toList.zipIdx)
 return(failedOf (<- get)).isNone):=rfl
def Io {σ:Type}{M:Model}{v:σ}{Q:PUnit ->σ ->Prop}{st:σ}(h:Q ⟨⟩ v):wpS M A E s (set v:StateT σ Sem PUnit) Q st:=by unfold wpS;rw[StateT.run_set];show aC #[rfl,h]
def wp_mAt (O:Ord less)(L:gt prog w A E s kd a₀ less){st:gM}{Q:Bool ->gM ->Prop}{l1 l2:cz Rn}{sa na pw sb nb Xy i:Nat}(B:SB kd a₀ st)(hp:pendingOf st=(l1++(sa,na,pw)::(sb,nb,Xy)::l2).toArray)(hi:i=l1.length) (J8:sb=sa+na) (h1:1<=na) (h2:1<=nb) (hz:sb+nb<=a₀.size) (s1:Sg less (arrOf st) sa sb) (s2:Sg less (arrOf st) sb (sb+nb)) (h: ∀bt,SB kd a₀ bt ->pendingOf bt=(l1++(sa,na+nb,pw)::l2).toArray ->Sg less (arrOf bt) sa (sb+nb) ->pR sa (sb+nb) (arrOf st) (arrOf bt) ->Q true bt):wpS (model prog w) A E s (mergeAt' i) Q st:=by
 subst hi;rw[Ot];exact au (wpS_get ?_);have p1:(pendingOf st)[l1.length]? =some (sa,na,pw):=by rw[hp];simp
 have p2:(pendingOf st)[l1.length+1]? =some (sb,nb,Xy):=by rw[hp];simp[aO]
 rw[p1,p2];dsimp only;exact au (Io ?_);have hpd:((pendingOf st).setIfInBounds l1.length (sa,na+nb,pw)).eraseIdxIfInBounds (l1.length+1)=(l1++(sa,na+nb,pw)::l2).toArray:=by rw[hp];simp![List.setIfInBounds_toArray,List.eraseIdxIfInBounds_toArray];congr 1;rw[List.set_append_right _ _ (ak _),Nat.sub_self,List.set_cons_zero];rw[List.eraseIdx_append_of_length_le ∅,show l1.length+1 - l1.length=1 by lia];rfl
 rw[hpd];let Ca:gM:=setPending st (l1++(sa,na+nb,pw)::l2).toArray
 have B1:SB kd a₀ Ca:=#[B.perm,B.kd,B.fl]
 have hsz:=B.size;change wpS _ _ _ _ _ Q Ca;exact au (wp_elem ∅ ?_);exact au (wp_galR O L B.kd (B.mem ∅) (λk hk=>#[∅,B.mem ∅]) ∅ (by rw[<- J8];show s1) λk g1 g2 g3=> ?_);dsimp only;by_cases c1:na - k=0;rw [aj ⇑c1];exact aA (h Ca B1 rfl (λi j hi iL hj=> ?_) pR.refl);change LE less (bV (arrOf st) i) (bV (arrOf st) j);by_cases c2:j<sb;show s1 i j hi iL c2;by_cases c3:sb<=i;show s2 i j c3 iL hj;have:=g2 (i - sa) ∅;rw[show sa+(i - sa)=i by lia] at this;show O.trans _ _ _ this (s2 sb j (ak _) ∅ hj);rw [ah ⇑c1];exact au (wp_elem ∅ ?_);rw[show sa+k+(na - k) - 1=sb - 1 by lia];exact au (wp_galL O L B.kd (B.mem ∅) (λk hk=>#[∅,B.mem ∅]) ∅ s2 λm f1 f2 f3=> ?_);dsimp only;by_cases c2:m=0;rw [aj ⇑c2];exact aA (h Ca B1 rfl (λi j hi iL hj=> ?_) pR.refl);change LE less (bV (arrOf st) i) (bV (arrOf st) j);by_cases c2:j<sb;show s1 i j hi iL c2;by_cases c3:sb<=i;show s2 i j c3 iL hj;have:=f3 (j - sb) ∅ ∅;rw[show sb+(j - sb)=j by lia] at this;show O.trans _ _ _ (s1 i (sb - 1) hi ∅ ∅) this;rw [ah ⇑c2];have Yi:((arrOf st).extract (sa+k) sb).size=na - k:=by rw[Array.size_extract];lia
 have OI:((arrOf st).extract sb (sb+m)).size=m:=by rw[Array.size_extract];lia
 have T:uD less a₀ ((arrOf st).extract (sa+k) sb) ((arrOf st).extract sb (sb+m)):=by exact#[GI O s1 ∅ (ak _) ∅,GI O s2 (ak _) ∅ ∅,λi hi=> ?_,λi hi=> ?_, ∅, ∅,?_,λj hj=> ?_];rw[kl hi];rw[Yi] at hi;show B.mem ∅;rw[kl hi];rw[OI] at hi;show B.mem ∅;rw[kl ∅,kl ∅];show g3 k (ak _) ∅;rw[kl hj,kl ∅];rw[OI] at hj;rw[Yi,show sa+k+(na - k - 1)=sb - 1 by lia];show f2 j hj
 have fin : ∀ (r:ft eI) (g:Nat),rO less ((arrOf st).extract (sa+k) sb) ((arrOf st).extract sb (sb+m)) r ->wpS (model prog w) A E s (do modify λs=>setArr s (z_ (arrOf s) (sa+k) r.toList.zipIdx);return(failedOf (<- get)).isNone) Q (cw Ca g):=by
  rintro r g ⟨rp,rs⟩;have rl:r.toList.length=sb+m - (sa+k):=by
   rw[rp.length_eq,aV];have e1:((arrOf st).extract (sa+k) sb).toList.length=na - k:=by rw[bT];show Yi
   have e2:((arrOf st).extract sb (sb+m)).toList.length=m:=by rw[bT];show OI
   rw[e1,e2];lia
  have wl:=DP (xs:=arrOf st) (at_:=sa+k) (ms:=r.toList) (by rw[rl,hsz];lia);rw[rl,show sa+k+(sb+m - (sa+k))=sb+m by lia] at wl;have wa: ∀n,bV (z_ (arrOf st) (sa+k) r.toList.zipIdx) n=if sa+k<=n /\ n<sb+m then(r.toList[n - (sa+k)]?).getD (.none, .none) else bV (arrOf st) n:=λn=>by have e:=yM (sa+k) n r.toList 0 (arrOf st) (by rw[rl,hsz];lia);rw[Nat.add_zero,rl,show sa+k+(sb+m - (sa+k))=sb+m by lia] at e;unfold bV;rw[e];split<;>rfl
  have wm: ∀n,sa+k<=n ->n<sb+m -> ∃n',cg (sa+k<=n') (n'<sb+m) (bV (z_ (arrOf st) (sa+k) r.toList.zipIdx) n=bV (arrOf st) n'):=λn n1 n2=>by rw[wa,aj #[n1,n2],aw ∅];have hm:=rp.mem_iff.mp (List.getElem_mem (l:=r.toList) (n:=n - (sa+k)) ∅);obtain hm | hm:=bh.mp hm;rw[lw] at hm;let⟨q,q1,q2,q3,e⟩:=Ai hm;show#[q,q1, ∅,e];rw[lw] at hm;let⟨q,q1,q2,q3,e⟩:=Ai hm;show#[q, ∅,q2,e]
  exact au (wpS_modify ?_);exact au (wpS_get (aA ?_));have ef:(failedOf (setArr (cw Ca g) (z_ (arrOf (cw Ca g)) (sa+k) r.toList.zipIdx))).isNone=true:=by change(failedOf st).isNone=true;rw[B.fl];rfl
  rw[ef];exact h _ #[?_,B.kd,B.fl] rfl (λi j hi iL hj=> ?_) (λn hn=> ?_);change(z_ (arrOf st) (sa+k) r.toList.zipIdx).Perm a₀;exact Array.Perm.trans ?_ B.perm;rw[Array.perm_iff_toList_perm,wl];have e3:=Rp (arrOf st).toList (sa+k) sb (sb+m) ∅ ∅ (by simp;lia);exact List.Perm.trans ?_ (List.Perm.of_eq e3.symm);exact List.Perm.append_left _ ?_;rw[<- bz];exact List.Perm.append_right _ ?_;rw[lw,lw] at rp;show rp;change LE less (bV (z_ (arrOf st) (sa+k) r.toList.zipIdx) i) (bV (z_ (arrOf st) (sa+k) r.toList.zipIdx) j);have SM: ∀x y,sa<=x ->x<sa+k ->sa+k<=y ->y<sb+nb ->LE less (bV (arrOf st) x) (bV (arrOf st) y):=λx y x1 x2 y1 y2=>by by_cases c:y<sb;show s1 x y x1 ∅ c;have:=g2 (x - sa) ∅;rw[show sa+(x - sa)=x by lia] at this;show O.trans _ _ _ this (s2 sb y (ak _) ∅ y2)
  have X': ∀x y,sa+k<=x ->x<sb+m ->sb+m<=y ->y<sb+nb ->LE less (bV (arrOf st) x) (bV (arrOf st) y):=λx y x1 x2 y1 y2=>by by_cases c:x<sb;have:=f3 (y - sb) ∅ ∅;rw[show sb+(y - sb)=y by lia] at this;show O.trans _ _ _ (s1 x (sb - 1) ∅ ∅ ∅) this;show s2 x y ∅ ∅ y2
  by_cases i1:i<sa+k;have ei:=wa i;rw[ah ∅] at ei;rw[ei];by_cases j1:j<sa+k;have ej:=wa j;rw[ah ∅] at ej;rw[ej];show s1 i j hi iL ∅;by_cases j2:j<sb+m;let⟨n',n1,n2,e⟩:=wm j ∅ j2;rw[e];show SM i n' hi i1 n1 ∅;have ej:=wa j;rw[ah ∅] at ej;rw[ej];show SM i j hi i1 ∅ hj;by_cases i2:i<sb+m;by_cases j2:j<sb+m;rw[wa i,wa j,aj ∅,aj ∅,aw ∅,aw ∅];by_cases cij:i=j;subst cij;show O.refl _;show List.pairwise_iff_getElem.mp rs _ _ ∅ ∅ ∅;let⟨n',n1,n2,e⟩:=wm i ∅ i2;have ej:=wa j;rw[ah ∅] at ej;rw[e,ej];show X' n' j n1 n2 ∅ hj;have ei:=wa i;have ej:=wa j;rw[ah ∅] at ei ej;rw[ei,ej];show s2 i j ∅ iL hj;change bV (z_ (arrOf st) (sa+k) r.toList.zipIdx) n=_;rw[wa n,ah ∅]
 by_cases c3:na - k<=m;rw[aj c3];show au (wp_mLo O L T B.kd λr g hr=>fin r g hr);rw[ah c3];show au (wp_mHi O L T B.kd λr g hr=>fin r g hr)
end
def Runs (less:eI ->eI ->Bool)(xs:ft eI):cz Rn ->Nat ->Nat ->Prop
 | [],lo,hi=>lo=hi
 | (a,n,_)::r,lo,hi=>a=lo /\ 1<=n /\ Sg less xs lo (lo+n) /\ Runs less xs r (lo+n) hi
section
variable {less:eI ->eI ->Bool}{xs ys:ft eI}
theorem Runs.le: ∀ {l:cz Rn} {lo hi:Nat},Runs less xs l lo hi ->lo+l.length<=hi
 | [],lo,hi,h=>Nat.le_of_eq h
 | (a,n,p)::r,lo,hi,h=>by have:=Runs.le h.2.2.2;have:=h.2.1;rw[aI];lia
theorem Runs.app: ∀ {l1 l2:cz Rn} {lo hi:Nat},Runs less xs (l1++l2) lo hi↔ ∃m,Runs less xs l1 lo m /\ Runs less xs l2 m hi
 | [],l2,lo,hi=>#[λh=>#[lo,rfl,h],λ⟨m,e,h⟩=>by cases e;show h]
 | (a,n,p)::r,l2,lo,hi=>by symm;rintro⟨h1,h2,h3,h4⟩;let⟨m,a1,a2⟩:=Runs.app.mp h4;show#[m,#[h1,h2,h3,a1],a2];rintro⟨m,⟨h1,h2,h3,a1⟩,a2⟩;show#[h1,h2,h3,Runs.app.mpr #[m,a1,a2]]
theorem Runs.out {e1 e2:Nat}(o:pR e1 e2 xs ys): ∀ {l:cz Rn} {lo hi:Nat},(hi<=e1 \/ e2<=lo) ->Runs less xs l lo hi ->Runs less ys l lo hi
 | [],lo,hi,_,h=>h
 | (a,n,p)::r,lo,hi,hc,⟨h1,h2,h3,h4⟩=>by have:=Runs.le h4;exact#[h1,h2,λi j hi iL hj=> ?_,Runs.out o ∅ h4];rw[o i ∅,o j ∅];show h3 i j hi iL hj
theorem EB {e1 e2 lo hi:Nat}(o:pR e1 e2 xs ys)(hc:hi<=e1 \/ e2<=lo)(h:Sg less xs lo hi):Sg less ys lo hi:=λi j hi iL hj=>by rw[o i ∅,o j ∅];show h i j hi iL hj
def Ec {α:Type}{l:cz α}(h:2<=l.length):dY λl1 x y=>l=l1++ [x,y]:=by exact#[l.take (l.length - 2),l[l.length - 2],l[l.length - 1],?_];have:=br (l.length - 2) l;rw[cZ ∅,cZ ∅,List.drop_eq_nil_of_le ∅] at this;have e:l.length - 2+1=l.length - 1:= ∅;simp![e] at this;show this.symm
theorem As {α:Type}{l:cz α}(h:l≠ []): ∃l1 x,l=l1++ [x]:=#[l.dropLast,l.getLast h,(List.dropLast_concat_getLast h).symm]
end
section
variable {prog:gA}{w:gB}{A:hV}{E:cG ->cL ->Prop}{s:cL}{kd:SortKind}{a₀:ft eI}{less:eI ->eI ->Bool}
def xr (l1:cz Rn)(x:Rn)(f:Rn ->Rn):(l1++ [x]).modify l1.length f=l1++ [f x]:=by
 induction l1 with
 | nil=>rfl
 | cons a l ih=>rw[List.cons_append,aI,List.modify_succ_cons,ih];rfl
def wp_mR (O:Ord less)(L:gt prog w A E s kd a₀ less){st:gM}{Q:Bool ->gM ->Prop}{l1 l2:cz Rn}{x y:Rn}{i lo:Nat}(B:SB kd a₀ st)(hp:pendingOf st=(l1++x::y::l2).toArray)(hi:i=l1.length)(hz:lo<=a₀.size)(R:Runs less (arrOf st) (l1++x::y::l2) 0 lo) (h: ∀bt z,SB kd a₀ bt ->pendingOf bt=(l1++z::l2).toArray ->Runs less (arrOf bt) (l1++z::l2) 0 lo ->pR 0 lo (arrOf st) (arrOf bt) ->Q true bt):wpS (model prog w) A E s (mergeAt' i) Q st:=by let⟨sa,na,pw⟩:=x;let⟨sb,nb,Xy⟩:=y;let⟨m,r1,rfl,h1,s1,rfl,h2,s2,r2⟩:=Runs.app.mp R;have hle:=r2.le;exact wp_mAt O L B hp hi rfl h1 h2 ∅ s1 s2 λbt B' Ys s' o'=>h bt _ B' Ys ?_ λk hk=>o' k ∅;exact Runs.app.mpr #[_,r1.out o' (.inl (ak _)),rfl, ∅,?_,?_];rw[<- Nat.add_assoc];show s';rw[<- Nat.add_assoc];show r2.out o' (.inr (ak _))
def w_ {xs:ft eI}{l1:cz Rn}{a n p q lo hi:Nat}(h:Runs less xs (l1++ [(a,n,p)]) lo hi):Runs less xs (l1++ [(a,n,q)]) lo hi:=by let⟨m,r1,h1,h2,h3,h4⟩:=Runs.app.mp h;show Runs.app.mpr #[m,r1,h1,h2,h3,h4]
def wp_sort (O:Ord less)(L:gt prog w A E s kd a₀ less){st:gM}{Q:Unit ->gM ->Prop}(B:SB kd a₀ st)(hp0:pendingOf st= #[])(h2:2<=a₀.size) (h: ∀bt,(arrOf bt).Perm a₀ ->failedOf bt=none ->Sg less (arrOf bt) 0 a₀.size ->Q () bt):wpS (model prog w) A E s sortRuns' Q st:=by
 rw[sortRuns'_eq];exact au (wpS_get ?_);dsimp only;simp![B.size];generalize minRun' a₀.size a₀.size 0=mr;exact au (wpS_mono (bS (I:=λx c bt=>bX λlo pl=>oq (c=(none,lo)) (x<=lo) (lo<=a₀.size) (SB kd a₀ bt) (pendingOf bt=pl.toArray) (Runs less (arrOf bt) pl 0 lo)) (Q:=λc bt=> ∃pl,eZ (c=(none,a₀.size)) (SB kd a₀ bt) (pendingOf bt=pl.toArray) (Runs less (arrOf bt) pl 0 a₀.size)) ?step ?fin #[0,[],rfl,ak _,cN _,B,hp0,rfl]) ?post);case fin=>
  rintro c bt ⟨lo,pl,rfl,h1,HV,B',hp,R⟩
  have:lo=a₀.size:= ∅
  subst this
  show#[pl,rfl,B',hp,R]
 case step =>
  rintro x c bt _ hx ⟨lo,pl,rfl,h1,HV,B',hp,R⟩
  dsimp only
  by_cases c1:lo≥a₀.size
  rw[aj c1]
  have:lo=a₀.size:= ∅
  subst this
  show aA #[pl,rfl,B',hp,R]
  rw[ah c1]
  exact au (wp_run O L ∅ ∅ B' λm kr B2 m1 m2 s2 p2 o2=> ?_)
  dsimp only
  have R2:Runs less (arrOf kr) pl 0 lo:=R.out o2 (.inl (ak _))
  by_cases c2:m<mr
  rw [aj c2]
  exact au (wpS_lift (wpAny_rule #[rfl,?_]))
  exact au (wp_bin O L ∅ ∅ B2 s2 λsv B3 s3 p3 o3=> ?_)
  simp![cf,av,bp]
  have R3:=R2.out o3 (.inl (ak _))
  have n1:1<=min (a₀.size - lo) mr:= ∅
  have n2:lo+min (a₀.size - lo) mr<=a₀.size:= ∅
  rw[p2,hp] at p3
  clear o3
  revert s3 n1 n2
  generalize min (a₀.size - lo) mr=n
  intro s3 n1 n2
  exact au (wpS_get ?_)
  cases hb:(pendingOf sv).back? with
  | none=>dsimp only;exact au (wpS_modify (aA #[lo+n,pl++ [(lo,n,0)],rfl, ∅,n2,#[B3.perm,B3.kd,B3.fl],?_,Runs.app.mpr #[lo,R3,rfl,n1,s3,rfl]]));change(pendingOf sv).push (lo,n,0)=_;rw[p3];simp
  | some q=>
   let⟨s1,Oo,p1⟩:=q;dsimp only;have jm:pl≠ []:=λe=>by subst e;rw[p3] at hb;simp at hb
   exact au (wpS_mono (bS (I:=λ_ c eN=>c=(none,()) /\ ∃pl,d9 (pl≠ []) (SB kd a₀ eN) (Sg less (arrOf eN) lo (lo+n)) (pendingOf eN=pl.toArray) (Runs less (arrOf eN) pl 0 lo)) (Q:=λc eN=>c=(none,()) /\ ∃pl,d9 (pl≠ []) (SB kd a₀ eN) (Sg less (arrOf eN) lo (lo+n)) (pendingOf eN=pl.toArray) (Runs less (arrOf eN) pl 0 lo)) ?_ (λc eN h=>h) #[rfl,pl,jm,B3,s3,p3,R3]) ?_);rintro y c eN _ hy ⟨rfl,vj,ne4,B4,s4,p4,R4⟩;exact au (wpS_get ?_);by_cases c2:(pendingOf eN).size >1;rw[aj c2];have hl:2<=vj.length:=by rw[p4] at c2;simp at c2;lia
   let⟨l1,u,v,e4⟩:=Ec hl;have e5:(pendingOf eN).size - 2=l1.length:=by rw[p4,e4];simp
   have e6:(pendingOf eN)[(pendingOf eN).size - 2]? =some u:=by rw[e5,p4,e4];simp
   rw[e6];let⟨u1,u2,u3⟩:=u;dsimp only;split;show aA #[rfl,vj,ne4,B4,s4,p4,R4];subst e4;exact au (wp_mR O L (l2:= []) B4 p4 e5 ∅ R4 λQh z B5 p5 R5 o5=> ?_);simp![cf,av,bp];show aA #[rfl,_,by simp,B5,EB o5 (.inr (ak _)) s4,p5,R5];rw[ah c2];show aA #[rfl,vj,ne4,B4,s4,p4,R4];rintro c eN ⟨rfl,vj,ne4,B4,s4,p4,R4⟩;dsimp only;exact au (wpS_modify (au (wpS_modify (aA ?_))));let⟨l1,⟨u1,u2,u3⟩,rfl⟩:=As ne4;exact#[lo+n,(l1++ [(u1,u2,power' a₀.size (2*s1+Oo) (2*s1+Oo+Oo+n) a₀.size)])++ [(lo,n,0)],rfl, ∅,n2,#[B4.perm,B4.kd,B4.fl],?_,Runs.app.mpr #[lo,w_ R4,rfl,n1,s4,rfl]];change((pendingOf eN).modify ((pendingOf eN).size - 1) _).push (lo,n,0)=_;rw[p4];simp![List.modify_toArray,List.push_toArray,aF];congr 2;rw[aV,List.length_singleton,Nat.add_sub_cancel];show xr l1 _ _
  rw [ah c2]
  have s3:=s2
  have n1:=m1
  have n2:lo+m<=a₀.size:= ∅
  have p3:pendingOf kr=pl.toArray:=by rw[p2,hp]
  have B3:=B2
  have R3:=R2
  clear p2 o2 B2 R2 s2 m1 m2 c2
  revert s3 n1 n2
  generalize m=n
  intro s3 n1 n2
  revert p3 B3 R3 s3
  generalize kr=sv
  intro p3 B3 R3 s3
  exact au (wpS_get ?_)
  cases hb:(pendingOf sv).back? with
  | none=>dsimp only;exact au (wpS_modify (aA #[lo+n,pl++ [(lo,n,0)],rfl, ∅,n2,#[B3.perm,B3.kd,B3.fl],?_,Runs.app.mpr #[lo,R3,rfl,n1,s3,rfl]]));change(pendingOf sv).push (lo,n,0)=_;rw[p3];simp
  | some q=>
   let⟨s1,Oo,p1⟩:=q;dsimp only;have jm:pl≠ []:=λe=>by subst e;rw[p3] at hb;simp at hb
   exact au (wpS_mono (bS (I:=λ_ c eN=>c=(none,()) /\ ∃pl,d9 (pl≠ []) (SB kd a₀ eN) (Sg less (arrOf eN) lo (lo+n)) (pendingOf eN=pl.toArray) (Runs less (arrOf eN) pl 0 lo)) (Q:=λc eN=>c=(none,()) /\ ∃pl,d9 (pl≠ []) (SB kd a₀ eN) (Sg less (arrOf eN) lo (lo+n)) (pendingOf eN=pl.toArray) (Runs less (arrOf eN) pl 0 lo)) ?_ (λc eN h=>h) #[rfl,pl,jm,B3,s3,p3,R3]) ?_);rintro y c eN _ hy ⟨rfl,vj,ne4,B4,s4,p4,R4⟩;exact au (wpS_get ?_);by_cases c2:(pendingOf eN).size >1;rw[aj c2];have hl:2<=vj.length:=by rw[p4] at c2;simp at c2;lia
   let⟨l1,u,v,e4⟩:=Ec hl;have e5:(pendingOf eN).size - 2=l1.length:=by rw[p4,e4];simp
   have e6:(pendingOf eN)[(pendingOf eN).size - 2]? =some u:=by rw[e5,p4,e4];simp
   rw[e6];let⟨u1,u2,u3⟩:=u;dsimp only;split;show aA #[rfl,vj,ne4,B4,s4,p4,R4];subst e4;exact au (wp_mR O L (l2:= []) B4 p4 e5 ∅ R4 λQh z B5 p5 R5 o5=> ?_);simp![cf,av,bp];show aA #[rfl,_,by simp,B5,EB o5 (.inr (ak _)) s4,p5,R5];rw[ah c2];show aA #[rfl,vj,ne4,B4,s4,p4,R4];rintro c eN ⟨rfl,vj,ne4,B4,s4,p4,R4⟩;dsimp only;exact au (wpS_modify (au (wpS_modify (aA ?_))));let⟨l1,⟨u1,u2,u3⟩,rfl⟩:=As ne4;exact#[lo+n,(l1++ [(u1,u2,power' a₀.size (2*s1+Oo) (2*s1+Oo+Oo+n) a₀.size)])++ [(lo,n,0)],rfl, ∅,n2,#[B4.perm,B4.kd,B4.fl],?_,Runs.app.mpr #[lo,w_ R4,rfl,n1,s4,rfl]];change((pendingOf eN).modify ((pendingOf eN).size - 1) _).push (lo,n,0)=_;rw[p4];simp![List.modify_toArray,List.push_toArray,aF];congr 2;rw[aV,List.length_singleton,Nat.add_sub_cancel];show xr l1 _ _
 case post =>
  rintro c bt ⟨pl,rfl,B',hp,R⟩
  dsimp only
  have hle:=R.le
  exact au (wpS_mono (bS (I:=λx c eN=>c=(none,()) /\ ∃pl,eZ (SB kd a₀ eN) (pendingOf eN=pl.toArray) (Runs less (arrOf eN) pl 0 a₀.size) (pl.length<=1 \/ pl.length+x<=a₀.size)) (Q:=λc eN=>c=(none,()) /\ ∃pl,cg (SB kd a₀ eN) (Runs less (arrOf eN) pl 0 a₀.size) (pl.length<=1)) ?_ ?_ #[rfl,pl,B',hp,R, .inr ∅]) ?_)
  rintro x c eN _ hx ⟨rfl,vj,B4,p4,R4,hl⟩
  exact au (wpS_get ?_)
  have esz:(pendingOf eN).size=vj.length:=by rw[p4];simp
  by_cases c1:(pendingOf eN).size<=1
  rw[aj c1]
  show aA #[rfl,vj,B4,R4, ∅]
  rw [ah c1]
  generalize aeu:Option.any _ _=cnd
  have mk: ∀k,k+2<=vj.length -> ∀ (Q':ForInStep (cT Unit×Unit) ->gM ->Prop),(∀bt pl,SB kd a₀ bt ->pendingOf bt=pl.toArray ->Runs less (arrOf bt) pl 0 a₀.size ->(pl.length<=1 \/ pl.length+(x+1) <=a₀.size) ->Q' (.yield (none,())) bt) ->wpS (model prog w) A E s (do
    let b <- mergeAt' k
    if(!b)=true then pure (ForInStep.done ((some (),()):cT Unit×Unit)) else pure (ForInStep.yield (none,()))) Q' eN:=by
   intro k hk Q' hQ
   have e:=br k vj
   rw[cZ ∅,cZ ∅] at e
   have sx:(vj.take k).length=k:=by rw[bM];lia
   rw[<- e] at p4 R4
   exact au (wp_mR O L B4 p4 sx.symm (ak _) R4 λQh z B5 p5 R5 o5=> ?_)
   simp![cf,av,bp]
   exact aA (hQ _ _ B5 p5 R5 (.inr ?_))
   rw[aV,sx,aI,List.length_drop]
   lia
  cases cnd with
  | true=>simp![bJ];show mk ((pendingOf eN).size - 2 - 1) ∅ _ λbt pl b1 b2 b3 b4=>#[rfl,pl,b1,b2,b3,b4]
  | false=>simp![av,bp];show mk ((pendingOf eN).size - 2) ∅ _ λbt pl b1 b2 b3 b4=>#[rfl,pl,b1,b2,b3,b4]
  rintro c eN ⟨rfl,vj,B4,p4,R4,hl⟩
  show#[rfl,vj,B4,R4, ∅]
  rintro c eN ⟨rfl,vj,B4,R4,hl⟩
  exact aA (h _ B4.perm B4.fl ?_)
  match vj,R4,hl with
  | [],R4,_=>show absurd R4 (by change ¬(0=a₀.size);lia)
  | [(u1,u2,u3)],⟨_,_,h3,h4⟩,_=>have h4:0+u2=a₀.size:=h4;rw[h4] at h3;show h3
  | _::_::_,_,hl=>simp at hl
end
def Cu (h:gC)(a:dw)(vs:cz cG):gC:=((h.update a (Obj.mapSeq λ_=> #[])).push (seqObj "tuple" vs.toArray 0)).push (seqObj "list" #[] 0)
def JO {h:gC}{a:dw}{vs:cz cG}{n:Nat}(ho:h.get? a=some (seqObj "list" vs.toArray n)):(Cu h a vs).get? a=some (seqObj "list" #[] (if((#[]:ft cG)).size==vs.toArray.size then n else n+1)):=by have ha:=ax ho;unfold Cu;rw[Heap.get?_push_ne _ _ _ (by rw[size_push',Heap.size_update];show aN (Nat.lt_succ_of_lt ha)),Heap.get?_push_ne _ _ _ (by rw[Heap.size_update];show aN ha)];show get?_update_seq ho (λ_=> #[])
section
variable {prog:gA}{w:gB}{A:hV}{E:cG ->cL ->Prop}{s:cL}
def wS {a:dw}{vs:cz cG}{n:Nat}{P:Fin ->cL ->Prop}{kd:SortKind}{less:eI ->eI ->Bool}(O:Ord less)(ho:s.heap.get? a=some (seqObj "list" vs.toArray n))(hsz:vs.length<=sizeLine) (hk:2<=vs.length -> ∀ (Q:SortKind ->cL ->Prop),Q kd {s with heap:=Cu s.heap a vs} ->wpAny (model prog w) A (keyKind' vs.toArray) Q E {s with heap:=Cu s.heap a vs}) (L:gt prog w A E {s with heap:=Cu s.heap a vs} kd (pairsOf vs) less) (h: ∀ (us:cz cG),us.Perm vs ->us.Pairwise (λx y=>less (y,y) (x,x)=false) ->P (.done (.ret .none)) {s with heap:=sortedHeap s.heap a vs us.toArray}): wpAny (model prog w) A (Builtin.«list.sort» #[[.ref a],[]]) P E s:=by
 rw[list_sort_plain];exact af (listItems_at ho rfl ?_);exact af (listUpdate_at ho rfl ?_ (hsz:= ⇑hsz));exact af (seqEpoch_at (get?_update_seq ho (λ_=> #[])) rfl ?_);exact af (wpAny_newTuple ?_);exact af (wpAny_newList ?_);exact wpAny_holding ?_;have VO:=JO ho;change wpAny (model prog w) A _ P E {s with heap:=Cu s.heap a vs};dsimp only;have fin: ∀xs:ft eI,xs.Perm (pairsOf vs) ->Sg less xs 0 (pairsOf vs).size ->P (.done (.ret .none)) {s with heap:=sortedHeap s.heap a vs (xs.map (·.2))}:=by
  intro xs hp hs;have hl:xs.toList.Perm (vs.zip vs):=by rw[<- pairsOf_toList];show Array.perm_iff_toList_perm.mp hp
  have Td: ∀p,p∈xs.toList ->p.1=p.2 /\ p.1∈vs:=λp Ys=>mem_zip_self (hl.mem_iff.mp Ys);have:=h (xs.toList.map (·.2)) ?_ ?_;have e:(xs.toList.map (·.2)).toArray=xs.map (·.2):=by apply Array.toList_inj.mp;simp
  rwa [e] at this;have h1:=hl.map (λp:eI=>p.2);rwa [List.map_snd_zip (ak _)] at h1;rw[List.pairwise_iff_getElem];intro i j hi hj iL;have sy:i<xs.size:= ⇑hi;have Kc:j<xs.size:= ⇑hj;have h1:=hs i j (cN _) (Nat.le_of_lt iL) (by rw[<- hp.size_eq];show Kc);have e1:bV xs i=((xs.toList.map (·.2))[i],(xs.toList.map (·.2))[i]):=by rw[List.getElem_map];have hm:=vX sy;have e:=fJ sy;rw[aw ⇑sy] at e;have e:=aW e;rw[e];show Prod.ext (Td _ hm).1 rfl
  have e2:bV xs j=((xs.toList.map (·.2))[j],(xs.toList.map (·.2))[j]):=by rw[List.getElem_map];have hm:=vX Kc;have e:=fJ Kc;rw[aw ⇑Kc] at e;have e:=aW e;rw[e];show Prod.ext (Td _ hm).1 rfl
  rw[e1,e2] at h1;show h1
 have aeJ:vs.toArray.size=vs.length:=by simp
 by_cases h2:vs.toArray.size<2;rw[aj h2,aj h2];exact af (aC ?_);rw[StateT.run_pure];exact af (aC ?_);dsimp only;exact af (seqEpoch_at VO rfl ?_);exact af (listUpdate_at VO rfl ?_ (hsz2:=by rw[Array.size_map];change(pairsOf vs).size<=_;rw[pairsOf_size];lia));simp![bne_self_eq_false,av,bp];exact aC (fin (pairsOf vs) (Array.Perm.refl _) ?_);intro i j _ iL hj;have:i=j:=by rw[pairsOf_size] at hj;lia
 subst this;show O.refl _;rw[ah h2,ah h2];exact af (hk ∅ _ ?_);exact af (a9 (wp_sort O L (st:=SortSt.mk' kd (vs.toArray.zip vs.toArray) #[] 7 none) (Q:=λ_ bt=>(arrOf bt).Perm (pairsOf vs) /\ failedOf bt=none /\ Sg less (arrOf bt) 0 (pairsOf vs).size) #[Array.Perm.refl _,rfl,rfl] rfl (by rw[pairsOf_size];lia) λbt a1 a2 a3=>#[a1,a2,a3]) ?_ λ_ _ e=>e);rintro⟨⟨⟩,bt⟩ s' ⟨rfl,hp,hf,hs⟩;dsimp only;exact af (seqEpoch_at VO rfl ?_);exact af (listUpdate_at VO rfl ?_ (hsz2:=by exact aH (Nat.le_of_eq ((Array.size_map ..).trans (hp.size_eq.trans (pairsOf_size _)))) ?_;lia));rw[hf];simp![bne_self_eq_false,av,bp];show aC (fin _ hp hs)
def qR (x y:eI):Bool:=decide (numOf x.1<numOf y.1)
def XC:Ord qR:=by exact#[λx y h=> ?_,λx y z h1 h2=> ?_];unfold qR at*;rw[decide_eq_true_eq] at h;show bg ∅;unfold LE qR at*;rw[decide_eq_false_iff_not] at*;lia
def ltI {a₀:ft eI}(h0:IntKeys a₀):gt prog w A E s oneType' a₀ qR:=by
 intro x y st Q hx hy hk hq;let⟨n,t,e1⟩:=h0 x hx;let⟨m,u,e2⟩:=h0 y hy;rw[lt'_eq];exact au (wpS_get ?_);rw[hk,keyLt'_oneType,e1,e2];exact au (wpS_lift (wpAny_attempt (oneLt_int #[rfl,?_])));have e:qR x y=decide (n<m):=by unfold qR;rw[e1,e2];rfl
 rw[e] at hq;show aA hq
def Cb {a:dw}{vs:cz cG}{ns:cz Int}{n:Nat}{P:Fin ->cL ->Prop}(ho:s.heap.get? a=some (seqObj "list" vs.toArray n)) (hI:IntsAre vs ns) (hsz:vs.length<=sizeLine) (h: ∀ (out:ft cG) (DH:cz Int),IntsAre out.toList DH ->DH.Perm ns ->DH.Pairwise (· <= ·) ->P (.done (.ret .none)) {s with heap:=sortedHeap s.heap a vs out}): wpAny (model prog w) A (Builtin.«list.sort» #[[.ref a],[]]) P E s:=by
 exact wS XC ho hsz (kd:=oneType') (λh2 Q hq=> ?_) (ltI hI.intKeys) λus hp hs=> ?_;let⟨v₁,v₂,rest,rfl⟩:dY λv₁ v₂ rest=>vs=v₁::v₂::rest:=by
  match vs,h2 with
  | [],h2=>simp at h2
  | [_],h2=>simp at h2
  | v₁::v₂::rest,_=>show#[v₁,v₂,rest,rfl]
 rw[keyKind_ints hI];show aC hq;have zH: ∀v,v∈us -> ∃n t,v= .int n t:=λv hv=>hI.all v (hp.mem_iff.mp hv);exact h us.toArray (us.map numOf) ⇑(intsAre_map us zH) ?_ ?_;have:=hp.map numOf;rwa [hI.nums] at this;rw[List.pairwise_map];exact hs.imp λ{x y} e=> ?_;unfold qR at e;rw[decide_eq_false_iff_not] at e;simp only at e;lia
end
end TS
namespace L2
open PySem PySem.Spec PyProof.Rows
abbrev bH:=Sum Int Str
def mj:bH ->cG ->Bool
 | .inl k,v=>Value.isInt k v
 | .inr x,v=>Value.isStrOf x v
def X9 (w:gB):bH ->Int
 | .inl k=>hashInt k
 | .inr x=>hashStr w x
theorem cM: ∀ {k:bH} {v:cG},mj k v=true ->(bX λi t=>k=Sum.inl i /\ v=Value.int i t) \/ (bX λx t=>k=Sum.inr x /\ v=Value.str x t)
 | .inl i,v,h=>by let⟨t,e⟩:=Value.isInt_shape (k:=i) (v:=v) h;show .inl #[i,t,rfl,e]
 | .inr x,v,h=>by let⟨t,e⟩:=Value.isStrOf_shape (x:=x) (v:=v) h;show .inr #[x,t,rfl,e]
def CG (i:Int)(t:Tok):mj (.inl i) (.int i t)=true:=by simp[mj,Value.isInt]
def CF (x:Str)(t:Tok):mj (.inr x) (.str x t)=true:=by simp[mj,Value.isStrOf]
def OB (a b:Int):decide ((Sum.inl a:bH)=Sum.inl b)=(a==b):=by by_cases e:a=b;subst e;simp;have h:¬(Sum.inl a:bH)=Sum.inl b:=λq=>e (Sum.inl.inj q);rw[bg h];show(beq_eq_false_iff_ne.mpr e).symm
def Oy (a b:Str):decide ((Sum.inr a:bH)=Sum.inr b)=decide (a=b):=by by_cases e:a=b;subst e;simp;have h:¬(Sum.inr a:bH)=Sum.inr b:=λq=>e (Sum.inr.inj q);rw[bg h,bg e]
theorem OA (a:Int)(b:Str):decide ((Sum.inl a:bH)=Sum.inr b)=false:=bg (λq=>nomatch q)
theorem Oz (a:Str)(b:Int):decide ((Sum.inr a:bH)=Sum.inl b)=false:=bg (λq=>nomatch q)
def bQ (prog:gA)(w:gB):PySem.KeyKind prog w bH where
 is:=mj
 hash:=X9 w
 inj :=λv a b ha hb=>by
  rcases cM ha with⟨i,t,rfl,rfl⟩ | ⟨x,t,rfl,rfl⟩
  rcases cM hb with⟨j,u,rfl,e⟩ | ⟨y,u,rfl,e⟩
  injection e with e1 _;rw[e1];show nomatch e
  rcases cM hb with⟨j,u,rfl,e⟩ | ⟨y,u,rfl,e⟩
  show nomatch e
  injection e with e1 _;rw[e1]
 byValue:=λk v h=>by rcases cM h with⟨i,t,rfl,rfl⟩ | ⟨x,t,rfl,rfl⟩ <;>rfl
 pyHash:=λhv h=>by
  rcases cM hv with⟨i,t,rfl,rfl⟩ | ⟨x,t,rfl,rfl⟩
  show wpAny_pyHash_int h;show wpAny_pyHash_str h
 eqBool:=λhu hv h=>by
  rcases cM hu with⟨i,t,rfl,rfl⟩ | ⟨x,t,rfl,rfl⟩
  rcases cM hv with⟨j,u,rfl,rfl⟩ | ⟨y,u,rfl,rfl⟩
  rw[OB] at h;show wpAny_eqBool_int h;rw[OA] at h;show SeqAt.EqAt.int_str i t y u _ _ _ _ h;rcases cM hv with⟨j,u,rfl,rfl⟩ | ⟨y,u,rfl,rfl⟩
  rw[Oz] at h;show SeqAt.EqAt.str_int x t j u _ _ _ _ h;rw[Oy] at h;show wpAny_eqBool_str h
 «strs» :=λk x t v h=>by
  rcases cM h with⟨i,u,rfl,e⟩ | ⟨y,u,rfl,e⟩
  show nomatch e
  injection e with e1 _;subst e1;cases v<;>rfl
theorem xu (prog:gA)(w:gB)(i:Int)(t:Tok):(bQ prog w).is (.inl i) (.int i t)=true:=CG i t
theorem xt (prog:gA)(w:gB)(x:Str)(t:Tok):(bQ prog w).is (.inr x) (.str x t)=true:=CF x t
set_option genInjectivity true in
inductive V where
  | dJ | bl (b:Bool) | int (i:Int) | str (x:Str) | BI (b:Array UInt8) | TN (b:UInt64) | ref (a:Addr) | ty (n:String)
 deriving DecidableEq
def RelV:V ->cG ->Prop
 | .dJ,u=>u=Value.none
 | .bl b,u=>u=Value.bool b
 | .int i,u=> ∃t,u=Value.int i t
 | .str x,u=> ∃t,u=Value.str x t
 | .BI b,u=> ∃t,u=Value.bytes b t
 | .TN b,u=> ∃t,u=Value.float b t
 | .ref a,u=>u=Value.ref a
 | .ty n,u=>u=Value.type n
abbrev bK:cz V ->cz cG ->Prop:=Paired RelV
theorem bK.length {xs:cz V}{us:cz cG}(r:bK xs us):xs.length=us.length:=Paired.length r
theorem bK.get: ∀ {xs:cz V} {us:cz cG} {i:Nat} {x:V},bK xs us ->xs[i]? =some x -> ∃u,us[i]? =some u /\ RelV x u
 | _,_,_,_, .nil,e=>by simp at e
 | _,_,0,_, .cons r _,e=>by simp at e;subst e;show#[_,rfl,r]
 | _,_,i+1,x, .cons _ t,e=>by let⟨u,h1,h2⟩:=bK.get (i:=i) (x:=x) t ⇑e;show#[u, ⇑h1,h2]
theorem bK.set {x:V}{u:cG}(r:RelV x u): ∀ {xs:cz V} {us:cz cG} (i:Nat),bK xs us ->bK (xs.set i x) (us.set i u)
 | _,_,_, .nil=> .nil
 | _,_,0, .cons _ t=> .cons r t
 | _,_,i+1, .cons q t=> .cons q (bK.set r i t)
theorem bK.append: ∀ {xs ys:cz V} {us ws:cz cG},bK xs us ->bK ys ws ->bK (xs++ys) (us++ws)
 | _,_,_,_, .nil,s=>s
 | _,_,_,_, .cons r t,s=> .cons r (bK.append t s)
theorem bK.take: ∀ {xs:cz V} {us:cz cG} (n:Nat),bK xs us ->bK (xs.take n) (us.take n)
 | _,_,0,_=> .nil
 | _,_,_+1, .nil=> .nil
 | _,_,n+1, .cons r t=> .cons r (bK.take n t)
theorem bK.drop: ∀ {xs:cz V} {us:cz cG} (n:Nat),bK xs us ->bK (xs.drop n) (us.drop n)
 | _,_,0,r=>r
 | _,_,_+1, .nil=> .nil
 | _,_,n+1, .cons _ t=>bK.drop n t
def jj:cT V ->cT cG ->Prop
 | some v,some u=>RelV v u
 | none,none=>True
 | _,_=>False
def KV {κ:Type}:cz (κ×V) ->cz (κ×cG) ->Prop:=Paired λ(p:κ×V) (q:κ×cG)=>p.1=q.1 /\ RelV p.2 q.2
def kV:bH ->V
 | .inl i=> .int i
 | .inr x=> .str x
set_option genInjectivity true in
inductive HO where
 /-- a list -/
 | lst (xs:List V)
 /-- a tuple (never changes) -/
 | tup (xs:List V)
 /-- a dict QI keys are ints and texts;one QI keys are tuples of ints and texts (Qg empty one is both) -/
 | dK (kvs:List (bH×V)) | dT (kvs:List (List bH×V))
 /-- a set of ints:its members,its size -/
 | set (S:Int ->Bool) (n:Nat)
 /-- an instance of Qg class at C,its dict at dx,its attributes -/
 | ins (C dx:Addr) (fs:List (Str×V))
 /-- Qg dict of Qg instance at x -/
 | own (x:Addr)
 /-- Qg dict of an exception -/
 | xd (fs:List (Str×V))
 /-- a bound method,f of x -/
 | met (f x:Addr)
 /-- a range object lo,lo+1, .. below hi -/
 | Vi (lo hi:Int)
 /-- a thing aeF is known to Qg object (Qg Xm;a dict while a loop walks it):read,never written while it is so -/
 | mx (o:Obj) (u:HO)
 /-- a code SA table -/
 | IB (ps:Array Value)
 /-- any other thing,by aeA is true of its one object (a def of aeo own:aeR a S n:=HO.ext λh=> ..) -/
 | ext (φ:Heap ->Prop)
abbrev Hp:=dw ->cT HO
def bU (H:Hp)(a:dw)(o:HO):Hp:=λb=>if b=a then some o else H b
def bC {H:Hp}{a:dw}{o:HO}:bU H a o a=some o:=by unfold bU;rw[aj rfl]
def bq {H:Hp}{a b:dw}{o:HO}(h:b≠a):bU H a o b=H b:=by unfold bU;rw[ah h]
def SE {H:Hp}{a b:dw}{o u:HO}(h:H a=some o)(h':H b=some u)(d:o≠u):a≠b:=by intro e;subst e;rw[h] at h';show d (aW h')
def cy {H:Hp}{a b:dw}{o:HO}(h:H a=some o)(h':H b=none):a≠b:=by intro e;subst e;rw[h] at h';cases h'
def v7 (h:gC)(a:dw)(its:ft cG):Prop:= ∃o,h.get? a=some o /\ o.cls= .type "tuple" /\ ∃n,o.data= .seq its n /\ o.dict=none
theorem v7.t {h:gC}{a:dw}{its:ft cG}(x:v7 h a its):IsTup h a its:=let ⟨o,e,c,n,d,_⟩:=x;#[o,e,c,n,d]
theorem v7.lt {h:gC}{a:dw}{its:ft cG}(x:v7 h a its):a<h.objs.size:=let ⟨_,e,_⟩:=x;ax e
theorem v7.new (h:gC)(its:ft cG):v7 (h.push {cls:= .type "tuple",data:= .seq its}) h.objs.size its:=#[_,aJ _ rfl,rfl,_,rfl,rfl]
section
variable (P:gA)(w:gB)
def dF (H:Hp)(h:gC)(a:dw):HO ->Prop
 | .lst xs=>xs.length<=sizeLine /\ bX λ(its:cz cG) (n:Nat)=>bK xs its /\ h.get? a=some {cls:= .type "list",data:= .seq its.toArray n}
 | .tup xs=>xs.length<=sizeLine /\ ∃its:cz cG,bK xs its /\ v7 h a its.toArray
 | .dK kvs=>kvs.length<=sizeLine /\ (a==sysModules)=false /\ ∃vs,KV kvs vs /\ h.DictOf (bQ P w) a vs
 | .dT kvs=>kvs.length<=sizeLine /\ (a==sysModules)=false /\ ∃xs:cz (cz bH×dw×cG),Paired (λ(p:cz bH×V) (q:cz bH×dw×cG)=>p.1=q.1 /\ H q.2.1=some (.tup (p.1.map kV)) /\ RelV p.2 q.2.2) kvs xs /\∃o es ep,h.get? a=some o /\ o.ExactDict /\ o.data= .dict es ep /\ es.toList=xs.map (entryOfKey (tupleKind (bQ P w))) /\ (xs.map (·.1)).Nodup
 | .set S n=>h.SetOf (intKind P w) a S n
 | .ins C dx fs=>H dx=some (.own a) /\ fs.length<=1000 /\ dx≠a /\ h.get? a=some (W.instObj C dx) /\∃mA,h.Ns1 dx mA /\ (∀f,jj (fs.lookup f) (mA f)) /\ PySem.Within mA (fs.map (·.1))
 | .own _=> ∃o,h.get? a=some o
 | .xd fs=> ∃mA,h.Ns1 a mA /\ ∀f,jj (fs.lookup f) (mA f)
 | .Vi lo hi=>dY λt u v=>h.get? a=some {cls:= .type "range",data:= .fields (List.toArray [.int lo t, .int hi u, .int 1 v])}
 | .mx o u=>h.get? a=some o /\ dF H h a u
 | .IB ps=>h.get? a=some {cls:= .none,data:= .fields ps}
 | .met f x=>h.get? a=some (W.methodObj (.ref f) (.ref x))
 | .ext φ=>φ h /\ (∃o,h.get? a=some o) /\ ∀h1 h2:gC,φ h1 ->(∀o,h1.get? a=some o ->h2.get? a=some o) ->φ h2
def jk (H:Hp)(h:gC):Prop:= ∀a o,H a=some o ->dF P w H h a o
end
section
variable {P:gA}{w:gB}{H H':Hp}{h h':gC}{a:dw}{o:HO}
def dF.lt (x:dF P w H h a o):a<h.objs.size:=by
 cases o with
 | lst xs=>let⟨_,_,_,_,e⟩:=x;show ax e
 | tup xs=>let⟨_,_,_,p⟩:=x;show p.lt
 | dK kvs=>let⟨_,_,_,_,o,_,_,e,_⟩:=x;show ax e
 | dT kvs=>let⟨_,_,_,_,o,_,_,e,_⟩:=x;show ax e
 | set S n=>let⟨o,_,_,_,e,_⟩:=x;show ax e
 | ins C dx fs=>let⟨_,_,_,e,_⟩:=x;show ax e
 | own y=>let⟨_,e⟩:=x;show ax e
 | xd fs=>let⟨_,⟨_,_,_,e,_⟩,_⟩:=x;show ax e
 | Vi lo hi=>let⟨_,_,_,e⟩:=x;show ax e
 | mx ob u=>let⟨e,_⟩:=x;show ax e
 | IB ps=>show ax (show h.get? a=some _ from x)
 | met f y=>show ax (show h.get? a=some _ from x)
 | ext φ=>let⟨_,⟨_,e⟩,_⟩:=x;show ax e
theorem Paired.Oq {α β:Type}{F G:α ->β ->Prop}: ∀ {l₁:cz α} {l₂:cz β},Paired F l₁ l₂ ->(∀a b,F a b ->G a b) ->Paired G l₁ l₂
 | _,_, .nil,_=> .nil
 | _,_, .cons r t,f=> .cons (f _ _ r) (Paired.Oq t f)
def dF.lL (x:dF P w H h a o)(k: ∀b u,(b=a \/ H b=some (.own a)) ->h.get? b=some u ->h'.get? b=some u) (ho: ∀b,H b=some (.own a) ->H' b=some (.own a)) (ht: ∀b xs,H b=some (.tup xs) ->H' b=some (.tup xs)):dF P w H' h' a o:=by
 induction o with
 | lst xs=>let⟨z,its,n,r,e⟩:=x;show#[z,its,n,r,k _ _ (.inl rfl) e]
 | tup xs=>let⟨z,its,r,ob,e,c⟩:=x;show#[z,its,r,ob,k _ _ (.inl rfl) e,c]
 | dK kvs=>let⟨z,y,vs,r,ob,es,ep,e,c⟩:=x;show#[z,y,vs,r,ob,es,ep,k _ _ (.inl rfl) e,c]
 | dT kvs=>let⟨z,y,xs,r,ob,es,ep,e,c⟩:=x;show#[z,y,xs,Paired.Oq r λp q z=>#[z.1,ht _ _ z.2.1,z.2.2],ob,es,ep,k _ _ (.inl rfl) e,c]
 | set S n=>let⟨ob,es,ep,t,e,c⟩:=x;show#[ob,es,ep,t,k _ _ (.inl rfl) e,c]
 | ins C dx fs=>let⟨d,z,ne,e,mA,⟨od,es,ep,e2,c⟩,r⟩:=x;show#[ho _ d,z,ne,k _ _ (.inl rfl) e,mA,#[od,es,ep,k _ _ (.inr d) e2,c],r]
 | own y=>let⟨ob,e⟩:=x;show#[ob,k _ _ (.inl rfl) e]
 | xd fs=>let⟨mA,⟨od,es,ep,e,c⟩,r⟩:=x;show#[mA,#[od,es,ep,k _ _ (.inl rfl) e,c],r]
 | Vi lo hi=>let⟨t,u,v,e⟩:=x;show#[t,u,v,k _ _ (.inl rfl) e]
 | mx ob u ih=>let⟨e,q⟩:=x;show#[k _ _ (.inl rfl) e,ih q]
 | IB ps=>have e:h.get? a=some {cls:= .none,data:= .fields ps}:=x;change h'.get? a=some {cls:= .none,data:= .fields ps};show k a _ (.inl rfl) e
 | met f y=>have e:h.get? a=some (W.methodObj (.ref f) (.ref y)):=x;change h'.get? a=some (W.methodObj (.ref f) (.ref y));show k a _ (.inl rfl) e
 | ext φ=>let⟨p,⟨o,e⟩,st⟩:=x;show#[st _ _ p λo q=>k _ _ (.inl rfl) q,#[o,k _ _ (.inl rfl) e],st]
theorem jk.lt (x:jk P w H h)(e:H a=some o):a<h.objs.size:=(x a o e).lt
def jk.fresh (x:jk P w H h)(e:h.objs.size<=a):H a=none:=by
 cases q:H a with
 | none=>rfl
 | some u=>show absurd (a4 (x.lt q) e) (ce _)
theorem jk.kept (x:jk P w H h)(k: ∀b u,h.get? b=some u ->h'.get? b=some u):jk P w H h':=λa o e=>(x a o e).lL (λb u _ q=>k b u q) (λ_ q=>q) λ_ _ q=>q
theorem jk.laid (x:jk P w H h)(k: ∀b u,h.get? b=some u ->h'.get? b=some u)(hp:h.objs.size<=a)(new:dF P w (bU H a o) h' a o):jk P w (bU H a o) h':=λb u e=>by have hn:=x.fresh hp;by_cases hb:b=a;subst hb;rw[bC] at e;cases e;show new;rw[bq hb] at e;show(x b u e).lL (λc v _ q=>k c v q) (λc q=>by rw[bq (cy q hn)];show q) λc xs q=>by rw[bq (cy q hn)];show q
end
def Rd (H:Hp)(a:dw)(u:HO):Prop:=H a=some u \/ ∃o,H a=some (.mx o u)
def Rd.ok {P:gA}{w:gB}{H:Hp}{h:gC}{a:dw}{u:HO}(r:Rd H a u)(x:jk P w H h):dF P w H h a u:=by obtain r | ⟨o,r⟩:=r;show x a u r;let⟨_,q⟩:=x a _ r;show q
def UB:cT HO ->Prop
 | some (.lst _)=>True
 | some (.dK _)=>True
 | some (.dT _)=>True
 | some (.set _ _)=>True
 | some (.ins _ _ _)=>True
 | some (.ext _)=>True
 | _=>False
section
variable {P:gA}{w:gB}{H:Hp}{h h':gC}{x e:dw}{o':HO}
theorem jk.write (ok:jk P w H h)(mu:UB (H x))(he:e=x \/ H e=some (.own x))(k: ∀b u,b≠e ->h.get? b=some u ->h'.get? b=some u)(Qw: ∃u,h'.get? e=some u) (new:dF P w (bU H x o') h' x o'):jk P w (bU H x o') h':=λb u q=>by
 have SD: ∀c y,H c=some (.own y) ->c≠x:=λc y r z=>by subst z;rw[r] at mu;show mu
 have XO: ∀c xs,H c=some (.tup xs) ->c≠x:=λc xs r z=>by subst z;rw[r] at mu;show mu
 by_cases hb:b=x;subst hb;rw[bC] at q;cases q;show new;rw [bq hb] at q;by_cases Pb:b=e;have q':H b=some (.own x):=by obtain z | z:=he;show absurd (Pb.trans z) hb;rw[Pb];show z
 rw[q] at q';cases q';let⟨v,hv⟩:=Qw;show#[v,by rw[Pb];show hv];exact(ok b u q).lL (λc v hc r=>k c v ?_ r) (λc r=>by rw[bq (SD c b r)];show r) λc xs r=>by rw[bq (XO c xs r)];show r
 obtain rfl | hc:=hc;show Pb;rintro rfl;obtain z | z:=he;show SD c b hc z;rw[hc] at z;cases z;show hb rfl
end
structure Un (fs ex:List Addr)(H H':Hp)(h h':Heap):Prop where
 keep: ∀b o,h.get? b=some o ->H b=none ->b∉fs ->b∉ex ->h'.get? b=some o
 slot: ∀b o,h.get? b=some o ->H b=none ->b∈fs ->b∉ex -> ∃sl,h'.get? b=some {o with slots:=sl}
 free: ∀b o,h.get? b=some o ->H b=none ->b∉ex ->H' b=none
 there: ∀b o,h.get? b=some o ->b∉ex -> ∃o',h'.get? b=some o'
 jg: ∀b xs,H b=some (.tup xs) ->H' b=some (.tup xs)
 ik: ∀b o u,H b=some (.mx o u) ->H' b=some (.mx o u)
 jt: ∀b ps,H b=some (.IB ps) -> ∃more,H' b=some (.IB (ps++more))
section
variable {fs fs' ex ex':cz dw}{H H1 H2:Hp}{h h1 h2 h':gC}{a x e:dw}{o:HO}
def Un.any (u:Un fs ex H H1 h h1){b:dw}{ob:Obj}(q:h.get? b=some ob)(n:H b=none)(hx:b∉ex): ∃sl,h1.get? b=some {ob with slots:=sl}:=by by_cases hb:b∈fs;show u.slot b ob q n hb hx;show#[ob.slots,u.keep b ob q n hb hx]
theorem Un.trans (a:Un fs ex H H1 h h1)(b:Un fs ex H1 H2 h1 h2):Un fs ex H H2 h h2 where
 keep:=λc ob q n hc hx=>b.keep c ob (a.keep c ob q n hc hx) (a.free c ob q n hx) hc hx
 slot:=λc ob q n hc hx=>by let⟨sl,e1⟩:=a.slot c ob q n hc hx;let⟨RN,e2⟩:=b.slot c _ e1 (a.free c ob q n hx) hc hx;show#[RN,e2]
 free:=λc ob q n hx=>by let⟨o',e1⟩:=a.there c ob q hx;show b.free c o' e1 (a.free c ob q n hx) hx
 there:=λc ob q hx=>by let⟨o',e1⟩:=a.there c ob q hx;show b.there c o' e1 hx
 jg:=λc xs q=>b.jg c xs (a.jg c xs q)
 ik:=λc ob xs q=>b.ik c ob xs (a.ik c ob xs q)
 jt:=λc ps q=>by let⟨m1,e1⟩:=a.jt c ps q;let⟨m2,e2⟩:=b.jt c _ e1;show#[m1++m2,by rw[e2,Array.append_assoc]]
theorem Un.kept (k: ∀b u,h.get? b=some u ->h'.get? b=some u):Un fs ex H H h h':=#[λb ob q _ _ _=>k b ob q,λb ob q _ _ _=>#[ob.slots,k b ob q],λ_ _ _ n _=>n,λb ob q _=>#[ob,k b ob q],λ_ _ q=>q,λ_ _ _ q=>q,λ_ ps q=>#[#[],by rw[q];simp]]
theorem Un.refl:Un fs ex H H h h:=Un.kept λ_ _ q=>q
theorem Un.laid (k: ∀b u,h.get? b=some u ->h'.get? b=some u)(hp:h.objs.size<=a)(hn:H a=none):Un fs ex H (bU H a o) h h' where
 keep:=λb u q _ _ _=>k b u q
 slot:=λb u q _ _ _=>#[u.slots,k b u q]
 free:=λb u q n _=>by rw[bq (aN (a4 (ax q) hp))];show n
 there:=λb u q _=>#[u,k b u q]
 jg:=λb xs q=>by rw[bq (cy q hn)];show q
 ik:=λb u xs q=>by rw[bq (cy q hn)];show q
 jt:=λb ps q=>#[#[],by rw[bq (cy q hn),q];simp]
def Un.write (mu:UB (H x))(he:e=x \/ H e=some (.own x))(k: ∀b u,b≠e ->h.get? b=some u ->h'.get? b=some u)(Qw: ∃u,h'.get? e=some u):Un fs ex H (bU H x o) h h':=by
 have hx: ∀b,H b=none ->b≠x:=λb n z=>by subst z;rw[n] at mu;show mu
 have hb: ∀b,H b=none ->b≠e:=λb n z=>by subst z;obtain r | r:=he;show hx b n r;rw[n] at r;cases r
 have hm: ∀b u,H b=some u ->¬UB (some u) ->b≠x:=λb u q nm z=>by subst z;rw[q] at mu;show nm mu
 exact#[λb u q n _ _=>k b u (hb b n) q,λb u q n _ _=>#[u.slots,k b u (hb b n) q],λb u q n _=>by rw[bq (hx b n)];show n,λb u q _=> ?_,λb xs q=>by rw[bq (hm b _ q λz=>z)];show q,λb u xs q=>by rw[bq (hm b _ q λz=>z)];show q,λb ps q=>#[#[],by rw[bq (hm b _ q λz=>z),q];simp]];by_cases Pb:b=e;subst Pb;show Qw;show#[u,k b u Pb q]
end
def Va (h:gC)(H:Hp):cz dw:=(List.range h.objs.size).filter λa=>(H a).isSome
def vI (h:gC)(H:Hp):gC:=W.hideAll h (Va h H)
theorem CN (h:gC)(H:Hp):(vI h H).objs.size=h.objs.size:=W.hideAll_size _ _
theorem Gn {h:gC}{H:Hp}{b:dw}{o:Obj}(e:h.get? b=some o)(n:H b=none):(vI h H).get? b=some o:=W.hideAll_get _ e λhm=>by have q:(H b).isSome=true:=(List.mem_filter.mp hm).2;rw[n] at q;simp at q
def Jz {h:gC}{H:Hp}{b:dw}{o:Obj}(e:(vI h H).get? b=some o):h.get? b=some o /\ H b=none:=by
 have e':h.get? b=some o:=W.of_hideAll (Va h H) e;exact#[e',?_];cases q:H b with
 | none=>rfl
 | some x=>have hm:b∈Va h H:=List.mem_filter.mpr #[List.mem_range.mpr (ax e'),by simp[q]];have z:(vI h H).get? b=none:=W.hideAll_none (Va h H) hm;rw[z] at e;cases e
def KI (g h:gC)(L:dw):cz (dw×Obj):=(List.range h.objs.size).filterMap λa=>if a=L \/ (g.get? a).isSome=true then none else(h.get? a).map λo=>(a,o)
def rest (g h:gC)(L d:dw):cz (dw×Obj):=(KI g h L).filter λp=>decide (p.1≠d)
structure Mod (K:PySem.W.Frag)(mg:Str ->Option Value)(base:Heap):Prop where
 Mm:K.In base
 glob:base.Ns mainGlobals mg
 blt: ∃mb,base.Ns builtinsNs mb /\ ∀x:Str,x≠ "__name__" ->mb x=bootBuiltins x
 nolimit:base.NoLimit
structure Cx where
 prog:Program
 w:World
 K:PySem.W.Frag
 mg:Str ->Option Value
 base:Heap
 A:Around
 N:List Str
 s₀:Shared
 H₀:Hp
 env:Env
 outer:List Env
 stack:List Env
 ex:List Addr
 fn:Str ->Bool
 calm:Bool
 pn:List (Addr×Obj)
 xe:Value ->Shared ->Prop
def jo (l:cz Env):cz dw:=l.filterMap (·.frame)
abbrev Cx.fs (X:Cx):cz dw:=jo X.outer
def Ut (sc:Scope)(x:Str):Prop:=sc.names.lookup x=some .local \/ sc.names.lookup x=some .cell \/ sc.names.lookup x=some .free
def Loc (sc:Scope)(x:Str):Prop:=sc.names.lookup x=some .local \/ sc.names.lookup x=some .cell
def Look (env:Env)(h:gC)(m:Str ->cT cG)(x:Str)(u:cG):Prop:=(env.kindOf x=some .local /\ m x=some u) \/ ((env.kindOf x=some .cell \/ env.kindOf x=some .free) /\ ∃c,env.cells.lookup x=some c /\ h.IsCell c (some u))
structure Cx.Ok (X:Cx):Prop where
 mod:Mod X.K X.mg X.base
 kind:X.env.scope.kind= .function
 glob:X.env.globals=mainGlobals
 blt:X.env.builtins=builtinsNs
 above:X.s₀.heap.objs.size<=X.env.locals
 inj: ∀x y c,X.env.cells.lookup x=some c ->X.env.cells.lookup y=some c ->x=y
 has: ∀x,(X.env.kindOf x=some .cell \/ X.env.kindOf x=some .free) -> ∃c,X.env.cells.lookup x=some c
 QA: ∀x c,X.fn x=true ->X.env.cells.lookup x=some c ->X.s₀.heap.objs.size<=c
 hd:X.calm=true ->X.A.handled=none
 frames:X.A.frames=some X.stack
 Nu:X.stack=X.outer \/ (X.stack=X.env::X.outer /\ X.env.frame=some X.env.locals)
 exf: ∀b∈X.ex,b≠X.env.locals /\ ∀x c,X.env.cells.lookup x=some c ->c≠b
 bs: ∀b o,X.base.get? b=some o ->X.s₀.heap.get? b=some o /\ X.H₀ b=none
 Hb:X.base.objs.size<=X.s₀.heap.objs.size
 Cr: ∀b o,X.base.get? b=some o ->b∉X.ex
 zJ: ∀b∈X.ex,b∉X.fs
 lr:X.s₀.heap.FunFrames X.base X.outer
 HW: ∀b∈X.fs,X.H₀ b=none
structure Inv (X:Cx)(ae:List (Addr×Obj))(σ:List (Option V))(H:Hp)(s:Shared):Prop where
 ok:X.Ok
 os:s.os=X.s₀.os
 bare:AllBare s.gens
 base:Un X.fs X.ex X.H₀ H X.s₀.heap s.heap
 loc: ∃m,s.heap.Ns X.env.locals m /\ ∀ (i:Nat) (x:Str) (v:V),X.N[i]? =some x ->σ[i]? =some (some v) ->Ut X.env.scope x -> ∃u,RelV v u /\ Look X.env s.heap m x u
 cell: ∀x c,X.env.cells.lookup x=some c -> ∃v,s.heap.IsCell c v
 free:H X.env.locals=none
 fg: ∀x c,X.env.cells.lookup x=some c ->H c=none
 pin: ∀p∈X.pn++ae,s.heap.get? p.1=some p.2 /\ H p.1=none /\ p.1≠X.env.locals /\ p.1∉X.fs /\ ∀v,p.2.data≠ .cell v
 b0:jk X.prog X.w H s.heap
 len:σ.length=X.N.length
section
variable {X:Cx}{ae:cz (dw×Obj)}{σ:cz (cT V)}{H H':Hp}{s:cL}{h':gC}
theorem Cx.Ok.XT (ok:X.Ok){b:dw}{o:Obj}(e:X.base.get? b=some o):b∉X.fs:=λhb=>by have:=(ok.lr.mem hb).1;rw[e] at this;cases this
theorem Inv.bs (I:Inv X ae σ H s): ∀b o,X.base.get? b=some o ->s.heap.get? b=some o /\ H b=none:=λb o e=>#[I.base.keep b o (I.ok.bs b o e).1 (I.ok.bs b o e).2 (I.ok.XT e) (I.ok.Cr b o e),I.base.free b o (I.ok.bs b o e).1 (I.ok.bs b o e).2 (I.ok.Cr b o e)]
theorem Inv.bk (I:Inv X ae σ H s): ∀b o,X.base.get? b=some o ->s.heap.get? b=some o:=λb o e=>(I.bs b o e).1
theorem Inv.mod (I:Inv X ae σ H s):Mod X.K X.mg X.base:=I.ok.mod
theorem Inv.qU (I:Inv X ae σ H s):X.K.In s.heap:=I.ok.mod.Mm.keeps I.bk
theorem Inv.fr (I:Inv X ae σ H s): ∃m,Fr X.base X.env.locals s.heap m:=
 let ⟨m,hn,_⟩:=I.loc
 #[m,hn,I.bk,aH I.ok.Hb I.ok.above]
theorem Inv.lt (I:Inv X ae σ H s):X.env.locals<s.heap.objs.size:=let ⟨_,hn,_⟩:=I.loc;hn.lt
theorem Inv.sz (I:Inv X ae σ H s):X.s₀.heap.objs.size<=s.heap.objs.size:=aH I.ok.above (Nat.le_of_lt I.lt)
theorem Inv.XS (I:Inv X ae σ H s){a:dw}(h:s.heap.objs.size<=a):a∉X.fs:=λhb=>by let⟨_,o,ho,_⟩:=I.ok.lr.mem hb;show absurd (a4 (ax ho) (aH I.sz h)) (ce _)
theorem Inv.G7 (I:Inv X ae σ H s): ∀x c,X.env.cells.lookup x=some c ->c≠X.env.locals:=λx c e z=>by let⟨v,o,ho,hd⟩:=I.cell x c e;let⟨m,⟨o',es,ep,Ka,DL,_⟩,_⟩:=I.loc;rw[z,Ka] at ho;cases ho;rw[DL] at hd;cases hd
def Inv.lr (I:Inv X ae σ H s):s.heap.FunFrames X.base X.outer:=by
 have all: ∀ (l:cz Env),(∀b∈jo l,b∈X.fs) ->X.s₀.heap.FunFrames X.base l ->s.heap.FunFrames X.base l:=by
  intro l;induction l with
  | nil=>intro _ _;trivial
  | cons env r ih=>intro hs hl;let⟨hk,⟨L,o,hf,hn,ho,hd⟩,hr⟩:=hl;have hL:L∈X.fs:=hs L (by unfold jo;rw[List.filterMap_cons,hf];show List.mem_cons_self);let⟨sl,e⟩:=I.base.slot L o ho (I.ok.HW L hL) hL λz=>I.ok.zJ L z hL;show#[hk,#[L,_,hf,hn,e,hd],ih (λb hb=>hs b (by unfold jo;rw[List.filterMap_cons,hf];show cc _ hb)) hr]
 show all X.outer (λ_ hb=>hb) I.ok.lr
def Inv.stack (I:Inv X ae σ H s):s.heap.FunFrames X.base X.stack:=by obtain e | ⟨e,hf⟩:=I.ok.Nu;rw[e];show I.lr;rw[e];let⟨m,hn,_⟩:=I.loc;exact .cons (by rw[I.ok.kind];decide) hf hn ?_ I.lr;show Heap.get?_none_of_le (aH I.ok.Hb I.ok.above)
theorem Inv.uU (I:Inv X ae σ H s): ∀b∈jo X.stack,b∈X.env.locals::X.fs:=λb hb=>by obtain e | ⟨e,hf⟩:=I.ok.Nu;rw[e] at hb;show cc _ hb;rw[e] at hb;unfold jo at hb;rw[List.filterMap_cons,hf] at hb;show hb
theorem Inv.pY (I:Inv X ae σ H s): ∀b∈jo X.stack,H b=none:=λb hb=>by obtain e | hb:=aL.mp (I.uU b hb);rw[e];show I.free;let⟨_,o,ho,_⟩:=I.ok.lr.mem hb;show I.base.free b o ho (I.ok.HW b hb) λz=>I.ok.zJ b z hb
def Inv.step {g':ft GenState}{t':Nat}{d':Drawn}{ch:cz dw}(I:Inv X ae σ H s) (HU: ∀b∈ch,(b∈X.ex \/ X.s₀.heap.objs.size<=b) /\ b≠X.env.locals /\ (∀x c,X.env.cells.lookup x=some c ->c≠b) /\ ∀p∈X.pn++ae,p.1≠b) (keep: ∀b o,b≠X.env.locals ->b∉X.fs ->b∉ch ->s.heap.get? b=some o ->H b=none ->h'.get? b=some o) (slot: ∀b o,b≠X.env.locals ->b∈X.fs ->b∉ch ->s.heap.get? b=some o ->H b=none -> ∃sl,h'.get? b=some {o with slots:=sl}) (free: ∀b o,b∉ch ->s.heap.get? b=some o ->H b=none ->H' b=none) (there: ∀b o,b∉ch ->s.heap.get? b=some o -> ∃o',h'.get? b=some o') (jg: ∀b xs,H b=some (.tup xs) ->H' b=some (.tup xs)) (ik: ∀b o u,H b=some (.mx o u) ->H' b=some (.mx o u)) (jt: ∀b ps,H b=some (.IB ps) -> ∃more,H' b=some (.IB (ps++more))) (ns: ∀m,s.heap.Ns X.env.locals m ->h'.Ns X.env.locals m) (b0:jk X.prog X.w H' h') (hg:AllBare g'): Inv X ae σ H' {s with heap:=h',gens:=g',drawn:=d',toks:=t'}:=by
 have neL: ∀b o,X.s₀.heap.get? b=some o ->b≠X.env.locals:=λb o e=>aN (a4 (ax e) I.ok.above);have Vy: ∀b o,X.s₀.heap.get? b=some o ->b∉X.ex ->b∉ch:=λb o e hx hb=>by obtain z | z:=(HU b hb).1;show hx z;show absurd (a4 (ax e) z) (ce _)
 have cellK: ∀x c,X.env.cells.lookup x=some c -> ∀v,s.heap.IsCell c v ->h'.IsCell c v:=λx c e v ⟨o,ho,hd⟩=>by have SF:c∉ch:=λz=>(HU c z).2.2.1 x c e rfl;by_cases hc:c∈X.fs;let⟨sl,q⟩:=slot c o (I.G7 x c e) hc SF ho (I.fg x c e);show#[_,q,hd];show#[o,keep c o (I.G7 x c e) hc SF ho (I.fg x c e),hd]
 exact#[I.ok,I.os,hg,#[λb o e n hb hx=> ?_,λb o e n hb hx=> ?_,λb o e n hx=> ?_,λb o e hx=> ?_,λb xs e=>jg b xs (I.base.jg b xs e),λb o xs e=>ik b o xs (I.base.ik b o xs e),λb ps e=> ?_],?_,λx c e=> ?_,?_,λx c e=> ?_,λp hp=> ?_,b0,I.len];show keep b o (neL b o e) hb (Vy b o e hx) (I.base.keep b o e n hb hx) (I.base.free b o e n hx);let⟨sl,e1⟩:=I.base.slot b o e n hb hx;let⟨RN,e2⟩:=slot b _ (neL b o e) hb (Vy b o e hx) e1 (I.base.free b o e n hx);show#[RN,e2];let⟨o',e1⟩:=I.base.there b o e hx;show free b o' (Vy b o e hx) e1 (I.base.free b o e n hx);let⟨o',e1⟩:=I.base.there b o e hx;show there b o' (Vy b o e hx) e1;let⟨m1,e1⟩:=I.base.jt b ps e;let⟨m2,e2⟩:=jt b _ e1;show#[m1++m2,by rw[e2,Array.append_assoc]];let⟨m,hn,hl⟩:=I.loc;exact#[m,ns m hn,λi x v e1 e2 e3=> ?_];let⟨u,r,l⟩:=hl i x v e1 e2 e3;exact#[u,r,?_];obtain l | ⟨k,c,e,z⟩:=l;show .inl l;show .inr #[k,c,e,cellK x c e _ z];let⟨v,z⟩:=I.cell x c e;show#[v,cellK x c e v z];let⟨m,⟨o,_,_,ho,_⟩,_⟩:=I.loc;show free _ o (λz=>(HU _ z).2.1 rfl) ho I.free;let⟨v,o,ho,hd⟩:=I.cell x c e;show free c o (λz=>(HU c z).2.2.1 x c e rfl) ho (I.fg x c e);let⟨e,n,ne,nf,d⟩:=I.pin p hp;have SF:p.1∉ch:=λz=>(HU p.1 z).2.2.2 p hp rfl;show#[keep p.1 p.2 ne nf SF e n,free p.1 p.2 SF e n,ne,nf,d]
def Inv.un {t':Nat}(I:Inv X ae σ H s)(u:Un X.fs [] H H' s.heap h')(b0:jk X.prog X.w H' h'):Inv X ae σ H' {s with heap:=h',toks:=t'}:=by let⟨m,⟨o,es,ep,ho,r⟩,_⟩:=id I.loc;let⟨sl,hL⟩:=u.any ho I.free (by simp);show I.step (g':=s.gens) (d':=s.drawn) (ch:= []) (λ_ z=>nomatch z) (λb o _ hb _ e n=>u.keep b o e n hb (by simp)) (λb o _ hb _ e n=>u.slot b o e n hb (by simp)) (λb o _ e n=>u.free b o e n (by simp)) (λb o _ e=>u.there b o e (by simp)) u.jg u.ik u.jt (λm' hm=>by let⟨o',VZ,V0,Ka,r'⟩:=hm;rw[ho] at Ka;cases Ka;show#[_,VZ,V0,hL,r']) b0 I.bare
def Inv.call {g':ft GenState}{t':Nat}{d':Drawn}{ch:cz dw}(I:Inv X ae σ H s)(u:Un (jo X.stack) ch H H' s.heap h')(b0:jk X.prog X.w H' h')(hg:AllBare g') (HU: ∀b∈ch,(b∈X.ex \/ X.s₀.heap.objs.size<=b) /\ b≠X.env.locals /\ (∀x c,X.env.cells.lookup x=some c ->c≠b) /\ ∀p∈X.pn++ae,p.1≠b): Inv X ae σ H' {s with heap:=h',gens:=g',drawn:=d',toks:=t'}:=by let⟨m,⟨o,es,ep,ho,r⟩,_⟩:=id I.loc;let⟨sl,hL⟩:=u.any ho I.free λz=>(HU _ z).2.1 rfl;show I.step (ch:=ch) HU (λb o hL hb hc e n=>u.keep b o e n (λz=>(aL.mp (I.uU b z)).elim hL hb) hc) (λb o _ _ hc e n=>u.any e n hc) (λb o hc e n=>u.free b o e n hc) (λb o hc e=>u.there b o e hc) u.jg u.ik u.jt (λm' hm=>by let⟨o',VZ,V0,Ka,r'⟩:=hm;rw[ho] at Ka;cases Ka;show#[_,VZ,V0,hL,r']) b0 hg
def Inv.turned {t':Nat}{it:dw}(I:Inv X ae σ H s)(k: ∀b o,b≠it ->s.heap.get? b=some o ->h'.get? b=some o)(hn:H it=none)(hL:it≠X.env.locals) (h1:it∈X.ex \/ X.s₀.heap.objs.size<=it) (h2: ∀x c,X.env.cells.lookup x=some c ->c≠it) (h3: ∀p∈X.pn++ae,p.1≠it):Inv X ae σ H {s with heap:=h',toks:=t'}:=by
 have nit: ∀b u,H b=some u ->b≠it:=λb u e z=>by rw[z,hn] at e;cases e
 exact I.step (g':=s.gens) (d':=s.drawn) (ch:= [it]) (λb hb=> ?_) (λb o _ _ hc e _=>k b o (λz=>hc (by simp[z])) e) (λb o _ _ hc e _=>#[o.slots,k b o (λz=>hc (by simp[z])) e]) (λ_ _ _ _ n=>n) (λb o hc e=>#[o,k b o (λz=>hc (by simp[z])) e]) (λ_ _ e=>e) (λ_ _ _ e=>e) (λb ps e=>#[#[],by rw[e];simp]) (λm hm=> ?_) (λb u e=> ?_) I.bare;have e:b=it:=by simpa using hb
 subst e;show#[h1,hL,h2,h3];let⟨o,es,ep,ho,r⟩:=hm;show#[o,es,ep,k _ o (bD hL) ho,r];exact(I.b0 b u e).lL (λc v hc q=>k c v ?_ q) (λ_ q=>q) λ_ _ q=>q;obtain z | z:=hc;rw[z];show nit b u e;show nit c _ z
theorem Inv.tok (I:Inv X ae σ H s)(t:Nat):Inv X ae σ H {s with toks:=t}:=I.un (h':=s.heap) (t':=t) Un.refl I.b0
theorem Inv.kept {t':Nat}(I:Inv X ae σ H s)(k: ∀b u,s.heap.get? b=some u ->h'.get? b=some u):Inv X ae σ H {s with heap:=h',toks:=t'}:=I.un (Un.kept k) (I.b0.kept k)
theorem Inv.laid {a:dw}{o:HO}{t':Nat}(I:Inv X ae σ H s)(k: ∀b u,s.heap.get? b=some u ->h'.get? b=some u)(hp:s.heap.objs.size<=a)(new:dF X.prog X.w (bU H a o) h' a o): Inv X ae σ (bU H a o) {s with heap:=h',toks:=t'}:=I.un (Un.laid k hp (I.b0.fresh hp)) (I.b0.laid k hp new)
theorem Inv.write {x e:dw}{o:HO}{t':Nat}(I:Inv X ae σ H s)(mu:UB (H x))(he:e=x \/ H e=some (.own x))(k: ∀b u,b≠e ->s.heap.get? b=some u ->h'.get? b=some u)(Qw: ∃u,h'.get? e=some u) (new:dF X.prog X.w (bU H x o) h' x o):Inv X ae σ (bU H x o) {s with heap:=h',toks:=t'}:=I.un (Un.write mu he k Qw) (I.b0.write mu he k Qw new)
theorem Inv.weak {σ':cz (cT V)}(I:Inv X ae σ H s)(hl:σ'.length=σ.length)(w: ∀ (i:Nat) v,σ'[i]? =some (some v) ->σ[i]? =some (some v)):Inv X ae σ' H s:=#[I.ok,I.os,I.bare,I.base,let ⟨m,hn,A8⟩:=I.loc;#[m,hn,λi x v e1 e2 e3=>A8 i x v e1 (w i v e2) e3],I.cell,I.free,I.fg,I.pin,I.b0,hl.trans I.len]
theorem Inv.AH {AI:cz (dw×Obj)}(I:Inv X ae σ H s)(h: ∀p∈AI,s.heap.get? p.1=some p.2 /\ H p.1=none /\ p.1≠X.env.locals /\ p.1∉X.fs /\ ∀v,p.2.data≠ .cell v):Inv X AI σ H s:=#[I.ok,I.os,I.bare,I.base,I.loc,I.cell,I.free,I.fg,λp hp=>(bh.mp hp).elim (λz=>I.pin p (List.mem_append_left _ z)) (h p),I.b0,I.len]
def qK {N:cz Str}(hN:N.Nodup){i j:Nat}{x:Str}(a:N[i]? =some x)(b:N[j]? =some x):i=j:=by let⟨h1,e1⟩:=aB.mp a;let⟨h2,e2⟩:=aB.mp b;show(List.getElem_inj hN).mp (e1.trans e2.symm)
def nJ {M:Model}{A:hV}{E:cG ->cL ->Prop}{i:Nat}{x:Str}{v:V}{u:cG}{Q:Unit ->cL ->Prop}(I:Inv X ae σ H s)(hN:X.N.Nodup)(hi:X.N[i]? =some x)(hx:Loc X.env.scope x)(r:RelV v u) (h: ∀s',Inv X ae (σ.set i (some v)) H s' ->(∃a,Heap.SameBut a s.heap s'.heap /\ (a=X.env.locals \/ X.env.cells.lookup x=some a)) ->Q () s') (hf:X.fn x=true \/ X.env.scope.names.lookup x=some .local:=by first | show .inl rfl | show .inr rfl | assumption):wpAny M A (storeName X.env x u) Q E s:=by
 let⟨m,hn,hl⟩:=id I.loc;have Pa:(X.env.scope.kind== .class || (X.env.scope.kind== .module && X.env.locals !=X.env.globals))=false:=by rw[I.ok.kind];rfl
 have VS:i<σ.length:=by rw[I.len];show(aB.mp hi).1
 have G7:=I.G7;have tracked: ∀ {a:dw} {h':gC},(∃o,s.heap.get? a=some o /\ H a=none) ->Heap.SameBut a s.heap h' ->jk X.prog X.w H h':=λ{a h'} ha hs b ob e=>by let⟨_,_,Mt⟩:=ha;exact(I.b0 b ob e).lL (λc w' hc q=>(hs.2 c ?_).trans q) (λ_ q=>q) λ_ _ q=>q;rintro rfl;obtain rfl | hc:=hc;rw[Mt] at e;cases e;rw[Mt] at hc;cases hc
 obtain hk | hk:=hx;exact wpAny_storeName_local hk hn (λh' O0 hs=> ?_) Pa;let⟨oL,_,_,hoL,_⟩:=id hn;exact h _ #[I.ok,I.os,I.bare,#[λb o e n hb hx=> ?_,λb o e n hb hx=> ?_,I.base.free,λb o e hx=> ?_,I.base.jg,I.base.ik,I.base.jt],#[_,O0,λj y v' e1 e2 e3=> ?_],λy c e=> ?_,I.free,I.fg,λp hp=> ?_,tracked #[oL,hoL,I.free] hs, ⇑I.len] #[_,hs, .inl rfl];show(hs.2 b (aN (a4 (ax e) I.ok.above))).trans (I.base.keep b o e n hb hx);let⟨sl,e1⟩:=I.base.slot b o e n hb hx;show#[sl,(hs.2 b (aN (a4 (ax e) I.ok.above))).trans e1];let⟨o',e1⟩:=I.base.there b o e hx;show#[o',(hs.2 b (aN (a4 (ax e) I.ok.above))).trans e1];by_cases hj:j=i;subst hj;rw[hi] at e1;cases e1;rw[List.getElem?_set_self VS] at e2;cases e2;show#[u,r, .inl #[hk,by simp]];rw[List.getElem?_set_ne (bD hj)] at e2;let⟨u',r',q⟩:=hl j y v' e1 e2 e3;exact#[u',r',?_];rcases q with⟨k,e⟩ | ⟨k,c,e,z⟩
 exact .inl #[k,?_];have:y≠x:=λe=>hj (qK hN e1 (e▸hi));simp[this,e];show .inr #[k,c,e,z.sameBut hs (G7 y c e)];let⟨w',z⟩:=I.cell y c e;show#[w',z.sameBut hs (G7 y c e)];let⟨e,n,ne,nf,d⟩:=I.pin p hp;show#[(hs.2 p.1 ne).trans e,n,ne,nf,d];have YO:X.fn x=true:=by obtain z | z:=hf;show z;rw[z] at hk;cases hk
 let⟨c,hc⟩:=I.ok.has x (.inl hk);let⟨w',z⟩:=I.cell x c hc;exact wpAny_storeName_cell I.ok.kind hk hc z (λh' hc' hs=> ?_);let⟨oc,hoc,Yw⟩:=id z;exact h {s with heap:=h'} #[I.ok,I.os,I.bare,#[λb o e n hb hx=> ?_,λb o e n hb hx=> ?_,I.base.free,λb o e hx=> ?_,I.base.jg,I.base.ik,I.base.jt],#[m,hn.sameBut hs (bD (G7 x c hc)),λj y v' e1 e2 e3=> ?_],λy c' e=> ?_,I.free,I.fg,λp hp=> ?_,tracked #[oc,hoc,I.fg x c hc] hs, ⇑I.len] #[c,hs, .inr hc];show(hs.2 b (aN (a4 (ax e) (I.ok.QA x c YO hc)))).trans (I.base.keep b o e n hb hx);let⟨sl,e1⟩:=I.base.slot b o e n hb hx;show#[sl,(hs.2 b (aN (a4 (ax e) (I.ok.QA x c YO hc)))).trans e1];let⟨o',e1⟩:=I.base.there b o e hx;show#[o',(hs.2 b (aN (a4 (ax e) (I.ok.QA x c YO hc)))).trans e1];by_cases hj:j=i;subst hj;rw[hi] at e1;cases e1;rw[List.getElem?_set_self VS] at e2;cases e2;show#[u,r, .inr #[.inl hk,c,hc,hc']];rw[List.getElem?_set_ne (bD hj)] at e2;let⟨u',r',q⟩:=hl j y v' e1 e2 e3;exact#[u',r',?_];obtain q | ⟨k,c',e,z'⟩:=q;show .inl q;exact .inr #[k,c',e,z'.sameBut hs ?_];rintro rfl;show hj (qK hN e1 (I.ok.inj _ _ _ e hc▸hi));by_cases Tr:c'=c;subst Tr;show#[_,hc'];let⟨w2,z2⟩:=I.cell y c' e;show#[w2,z2.sameBut hs Tr];let⟨e,n,ne,nf,d⟩:=I.pin p hp;exact#[(hs.2 p.1 ?_).trans e,n,ne,nf,d];intro q;rw[q,hoc] at e;have q':oc=p.2:=aW e;show d w' (by rw[<- q'];show Yw)
theorem lK {M:Model}{A:hV}{E:cG ->cL ->Prop}{i:Nat}{x:Str}{v:V}{u:cG}{Q:Unit ->cL ->Prop}(I:Inv X ae σ H s)(hN:X.N.Nodup)(hi:X.N[i]? =some x)(hx:Loc X.env.scope x)(r:RelV v u) (h: ∀s',Inv X ae (σ.set i (some v)) H s' ->Q () s') (hf:X.fn x=true \/ X.env.scope.names.lookup x=some .local:=by first | show .inl rfl | show .inr rfl | assumption):wpAny M A (storeName X.env x u) Q E s:=nJ I hN hi hx r (λs' I' _=>h s' I') hf
def Inv.G_ {s':cL}{ch:cz dw}(I:Inv X ae σ H s)(ho:s'.os=s.os)(u:Un (jo X.stack) ch H H' s.heap s'.heap)(b0:jk X.prog X.w H' s'.heap)(hg:AllBare s'.gens) (HU: ∀b∈ch,(b∈X.ex \/ X.s₀.heap.objs.size<=b) /\ b≠X.env.locals /\ (∀x c,X.env.cells.lookup x=some c ->c≠b) /\ ∀p∈X.pn++ae,p.1≠b):Inv X ae σ H' s':=by let⟨h',g',d',t',o'⟩:=s';have e:o'=s.os:=ho;subst e;show I.call (g':=g') (t':=t') (d':=d') u b0 hg HU
end
abbrev XK:=cG ->cT dw ->Hp ->Prop
abbrev St:=cz (cT V)
abbrev VK:=V ->Hp ->Prop
abbrev TE:=St ->Hp ->VK ->Prop
abbrev TT:=St ->Hp ->(Bool ->Hp ->Prop) ->Prop
abbrev TA:=St ->Hp ->(cz V ->Hp ->Prop) ->Prop
structure jl where
 nx:St ->Hp ->Prop
 rt:VK
 bk:St ->Hp ->Prop:=λ_ _=>False
 ct:St ->Hp ->Prop:=λ_ _=>False
abbrev TS:=jl ->St ->Hp ->Prop
def EP (X:Cx)(ae:cz (dw×Obj))(σ:St)(Q:VK)(u:cG)(s':cL):Prop:=bX λv H'=>cg (Inv X ae σ H' s') (RelV v u) (Q v H')
def TP (X:Cx)(ae:cz (dw×Obj))(σ:St)(Q:Bool ->Hp ->Prop)(b:Bool)(s':cL):Prop:= ∃H',Inv X ae σ H' s' /\ Q b H'
def AP (X:Cx)(ae:cz (dw×Obj))(σ:St)(Q:cz V ->Hp ->Prop)(us:cz cG)(s':cL):Prop:=bX λvs H'=>cg (Inv X ae σ H' s') (bK vs us) (Q vs H')
def SP (X:Cx)(ae:cz (dw×Obj))(D:jl)(f:Flow)(s':cL):Prop:=
 match f with
 | .next=>bX λσ' H'=>Inv X ae σ' H' s' /\ D.nx σ' H'
 | .brk=>bX λσ' H'=>Inv X ae σ' H' s' /\ D.bk σ' H'
 | .cont=>bX λσ' H'=>Inv X ae σ' H' s' /\ D.ct σ' H'
 | .ret u=>dY λv σ' H'=>cg (Inv X ae σ' H' s') (RelV v u) (D.rt v H')
def PE (X:Cx)(e:Expr)(t:TE):Prop:=∀ (ae:cz (dw×Obj)) (s:cL) (σ:St) (H:Hp) (Q:VK),Inv X ae σ H s ->t σ H Q ->wpAny (model X.prog X.w) X.A (eval e X.env) (EP X ae σ Q) X.xe s
def PT (X:Cx)(e:Expr)(t:TT):Prop:=∀ (ae:cz (dw×Obj)) (s:cL) (σ:St) (H:Hp) (Q:Bool ->Hp ->Prop),Inv X ae σ H s ->t σ H Q ->wpAny (model X.prog X.w) X.A (isTrue e X.env (eval e X.env)) (TP X ae σ Q) X.xe s
def PW (X:Cx)(e:Expr)(t:TT):Prop:=∀ (kC:Sem cG) (ae:cz (dw×Obj)) (s:cL) (σ:St) (H:Hp) (Q:Bool ->Hp ->Prop),Inv X ae σ H s ->t σ H Q ->wpAny (model X.prog X.w) X.A (isTrue e X.env kC) (TP X ae σ Q) X.xe s
theorem PW.pt {X:Cx}{e:Expr}{t:TT}(h:PW X e t):PT X e t:=h _
def PA (X:Cx)(es:cz Expr)(t:TA):Prop:=∀ (pos:Pos) (ae:cz (dw×Obj)) (s:cL) (σ:St) (H:Hp) (Q:cz V ->Hp ->Prop),Inv X ae σ H s ->t σ H Q ->wpAny (model X.prog X.w) X.A (spliced (backTo pos (starEach es X.env))) (AP X ae σ Q) X.xe s
def PS (X:Cx)(st:Stmt)(t:TS):Prop:=∀ (ae:cz (dw×Obj)) (s:cL) (σ:St) (H:Hp) (D:jl),Inv X ae σ H s ->t D σ H ->wpAny (model X.prog X.w) X.A (exec st X.env) (SP X ae D) X.xe s
def sC (X:Cx)(st:cz Stmt)(t:TS):Prop:=∀ (ae:cz (dw×Obj)) (s:cL) (σ:St) (H:Hp) (D:jl),Inv X ae σ H s ->t D σ H ->wpAny (model X.prog X.w) X.A (execs st X.env) (SP X ae D) X.xe s
theorem ci {α:Type}{t:Sem α}{Q Q':α ->cL ->Prop}{M:Model}{A:hV}{E:cG ->cL ->Prop}{s:cL}(h:wpAny M A t Q E s)(hQ: ∀a s,Q a s ->Q' a s):wpAny M A t Q' E s:=a9 h hQ λ_ _ x=>x
section
variable {X:Cx}
def bin {a b:Expr}{ta tb:TE}(ha:PE X a ta)(hb:PE X b tb){ae:cz (dw×Obj)}{s:cL}{σ:St}{H:Hp}{R:V ->V ->Hp ->Prop}(I:Inv X ae σ H s)(h:ta σ H λx H1=>tb σ H1 λy H2=>R x y H2) {α:Type} {Q:α ->cL ->Prop} {f:cG ->cG ->Sem α} (hf: ∀v u s2 x y H2,Inv X ae σ H2 s2 ->RelV x v ->RelV y u ->R x y H2 ->wpAny (model X.prog X.w) X.A (f v u) Q X.xe s2): wpAny (model X.prog X.w) X.A (eval a X.env) (λv s₁=>wpAny (model X.prog X.w) X.A (eval b X.env) (λu s₂=>wpAny (model X.prog X.w) X.A (f v u) Q X.xe s₂) X.xe s₁) X.xe s:=by exact ci (ha ae s σ H _ I h) λv s1 ⟨x,H1,I1,r1,q1⟩=> ?_;exact ci (hb ae s1 σ H1 _ I1 q1) λu s2 ⟨y,H2,I2,r2,q2⟩=> ?_;show hf v u s2 x y H2 I2 r1 r2 q2
def ID (i:Nat):TE:=λσ H Q=> ∃v,σ[i]? =some (some v) /\ Q v H
def tC (v:V):TE:=λ_ H Q=>Q v H
def NJ {i:Nat}{x:Str}{pos:Pos}(hN:X.N[i]? =some x)(hv:Ut X.env.scope x)(hd:(x==("__debug__" :Str))=false:=by decide)(A_:(x==("__classdict__" :Str))=false:=by decide):PE X (.Name x pos) (ID i):=by
 intro ae s σ H Q I h;let⟨v,e,h⟩:=h;let⟨m,hn,hl⟩:=I.loc;let⟨u,r,l⟩:=hl i x v hN e hv;have fin:EP X ae σ Q u s:=#[v,H,I,r,h]
 rcases l with⟨hk,hm⟩ | ⟨hk,c,hc,A9⟩
 show wpAny_Name (wpAny_loadName_local I.ok.kind hk hn hm fin) hd;obtain hk | hk:=hk;show wpAny_Name (wpAny_loadName_cell I.ok.kind hk hc A9 fin) hd;show wpAny_Name (wpAny_loadName_free I.ok.kind hk hc A9 fin A_) hd
theorem aD {i j pos}:PE X (.Constant (.int i) j pos) (tC (.int i)):=λ_ _ _ H _ I h=>wpAny_Constant_int #[.int i,H,I.tok _,#[_,rfl],h]
theorem qE {b j pos}:PE X (.Constant (.bool b) j pos) (tC (.bl b)):=λ_ _ _ H _ I h=>Constant_bool #[.bl b,H,I,rfl,h]
theorem E7 {j pos}:PE X (.Constant .none j pos) (tC .dJ):=λ_ _ _ H _ I h=>Constant_none #[.dJ,H,I,rfl,h]
theorem cV {x j pos}:PE X (.Constant (.str x) j pos) (tC (.str x)):=λ_ _ _ H _ I h=>Calls.Constant_str #[.str x,H,I.tok _,#[_,rfl],h]
def Gl (X:Cx)(x:Str):Prop:=X.env.kindOf x=some .globalImplicit
theorem j_ {E:cG ->cL ->Prop}{ae:cz (dw×Obj)}{s:cL}{σ:St}{H:Hp}{x:Str}{u:cG}{pos:Pos}{Q:cG ->cL ->Prop}(I:Inv X ae σ H s)(hg:Gl X x)(hm:X.mg x=some u)(h:Q u s) (hd:(x==("__debug__" :Str))=false:=by decide):wpAny (model X.prog X.w) X.A (eval (.Name x pos) X.env) Q E s:=Calls.Name_function_global I.ok.kind hg (Calls.loadGlobal_global (by rw[I.ok.glob];show I.mod.glob.keeps I.bk) hm h) hd
def nX {E:cG ->cL ->Prop}{ae:cz (dw×Obj)}{s:cL}{σ:St}{H:Hp}{x:Str}{u:cG}{pos:Pos}{Q:cG ->cL ->Prop}(I:Inv X ae σ H s)(hg:Gl X x)(hm:X.mg x=none)(hv:bootBuiltins x=some u)(h:Q u s) (hn:x≠ "__name__" :=by decide) (hd:(x==("__debug__" :Str))=false:=by decide):wpAny (model X.prog X.w) X.A (eval (.Name x pos) X.env) Q E s:=by let⟨mb,h1,h2⟩:=I.mod.blt;show Calls.Name_function_global I.ok.kind hg (Calls.loadGlobal_builtin (by rw[I.ok.glob];show I.mod.glob.keeps I.bk) hm (by rw[I.ok.blt];show h1.keeps I.bk) ((h2 x hn).trans hv) h) hd
theorem dR {x:Str}{v:V}{u:cG}{pos:Pos}(hg:Gl X x)(hm:X.mg x=some u)(r:RelV v u)(hd:(x==("__debug__" :Str))=false:=by decide):PE X (.Name x pos) (tC v):=λ_ _ _ H _ I h=>j_ I hg hm #[v,H,I,r,h] hd
variable {a b:Expr}{ta tb:TE}{pos:Pos}
def PC (X:Cx)(op:CmpOp)(a b:Expr)(t:TE):Prop:=∀ (ae:cz (dw×Obj)) (s:cL) (σ:St) (H:Hp) (Q:VK),Inv X ae σ H s ->t σ H Q ->wpAny (model X.prog X.w) X.A (eval a X.env) (λv s₁=>wpAny (model X.prog X.w) X.A (eval b X.env) (λu s₂=>wpAny (model X.prog X.w) X.A (compareOp op v u) (EP X ae σ Q) X.xe s₂) X.xe s₁) X.xe s
def Fz (b:Expr){op:CmpOp}(h:op≠ .In)(h2:op≠ .NotIn):behindInMarks op b=false:=by
 have e1:(op==CmpOp.In)=false:=by cases op<;>first | rfl | show absurd rfl h
 have e2:(op==CmpOp.NotIn)=false:=by cases op<;>first | rfl | show absurd rfl h2
 cases b<;>simp[behindInMarks,e1,e2]
def tB (t:TE):TT:=λσ H Q=>t σ H λx H1=> ∃c,x= .bl c /\ Q c H1
def vg {op:CmpOp}{t:TE}(h:PC X op a b t)(h1:behindInMarks op b=false:=by first | show Fz _ ⋯ ⋯ | rfl):PT X (.Compare a [op] [b] pos) (tB t):=by intro ae s σ H Q I hw;exact wpAny_isTrue_Compare1 (ci (h ae s σ H _ I hw) λv s1 h1=>ci h1 λu s2 h2=>ci h2 λc s3 ⟨x,H1,I1,r1,q1⟩=> ?_) h1;let⟨d,rfl,q⟩:=q1;cases r1;show c4 #[H1,I1,q]
def jD {e:Expr}{t:TE}(h:PE X e t)(he: ∀kC,isTrue e X.env kC=(do let v <- kC;standAt e.pos;holding [v] (truthy v)):=by intro _;rfl):PT X e (tB t):=by intro ae s σ H Q I hw;exact isTrue_plain (ci (h ae s σ H _ I hw) λv s1 ⟨x,H1,I1,r1,q1⟩=> ?_) (he _);let⟨d,rfl,q⟩:=q1;cases r1;show c4 #[H1,I1,q]
variable {tA Vc:TT}{rest:cz Expr}
def RF (t u:TT):TT:=λσ H Q=>t σ H λc H1=>if c=true then u σ H1 Q else Q false H1
def tOr (t u:TT):TT:=λσ H Q=>t σ H λc H1=>if c=true then Q true H1 else u σ H1 Q
def Rx (t:TT):TT:=λσ H Q=>t σ H λc H1=>Q (!c) H1
def l0 (ha:PT X a tA):PW X (.BoolOp .And [a] pos) tA:=by
 intro wh ae s σ H Q I h;exact isTrue_and (ci (ha ae s σ H Q I h) λc s1 e=> ?_);cases c with
 | true=>show isTrue_and_nil e
 | false=>show e
def za (ha:PT X a tA):PW X (.BoolOp .Or [a] pos) tA:=by
 intro wh ae s σ H Q I h;exact isTrue_or (ci (ha ae s σ H Q I h) λc s1 e=> ?_);cases c with
 | false=>show isTrue_or_nil e
 | true=>show e
def qB (ha:PT X a tA)(hb:PW X (.BoolOp .And (b::rest) pos) Vc):PW X (.BoolOp .And (a::b::rest) pos) (RF tA Vc):=by
 intro wh ae s σ H Q I h;exact isTrue_and (ci (ha ae s σ H _ I h) λc s1 ⟨H1,I1,q1⟩=> ?_);cases c with
 | true=>show hb wh ae s1 σ H1 Q I1 q1
 | false=>show#[H1,I1,q1]
def ES (ha:PT X a tA)(hb:PW X (.BoolOp .Or (b::rest) pos) Vc):PW X (.BoolOp .Or (a::b::rest) pos) (tOr tA Vc):=by
 intro wh ae s σ H Q I h;exact isTrue_or (ci (ha ae s σ H _ I h) λc s1 ⟨H1,I1,q1⟩=> ?_);cases c with
 | true=>show#[H1,I1,q1]
 | false=>show hb wh ae s1 σ H1 Q I1 q1
def nO (ha:PT X a tA):PT X (.UnaryOp .Not a pos) (Rx tA):=by intro ae s σ H Q I h;show isTrue_not (ha ae s σ H (λc H1=>Q (!c) H1) I h)
def Lw (ta tb:TE):TE:=λσ H Q=>ta σ H λx H1=> ∃c,x= .bl c /\ if c=true then tb σ H1 Q else Q (.bl false) H1
theorem E6 {op}{t:TE}(h:PE X a t):PE X (.BoolOp op [a] pos) t:=λae s σ H Q I hw=>BoolOp_one (h ae s σ H Q I hw)
def Ff (ha:PE X a ta)(hb:PE X (.BoolOp .And (b::rest) pos) tb):PE X (.BoolOp .And (a::b::rest) pos) (Lw ta tb):=by
 intro ae s σ H Q I h;exact BoolOp_and (ci (ha ae s σ H _ I h) λv s1 ⟨x,H1,I1,r1,q1⟩=> ?_);let⟨c,rfl,q1⟩:=q1;cases r1;exact c4 ?_;cases c with
 | true=>show hb ae s1 σ H1 Q I1 q1
 | false=>show#[.bl false,H1,I1,rfl,q1]
def tIf (t:TT)(ta tb:TE):TE:=λσ H Q=>t σ H λc H1=>if c=true then ta σ H1 Q else tb σ H1 Q
def E9 {c:Expr}(hc:PT X c tA)(ha:PE X a ta)(hb:PE X b tb):PE X (.IfExp c a b pos) (tIf tA ta tb):=by
 intro ae s σ H Q I h;exact wpAny_IfExp (ci (hc ae s σ H _ I h) λd s1 ⟨H1,I1,q1⟩=> ?_);cases d with
 | true=>show ha ae s1 σ H1 Q I1 q1
 | false=>show hb ae s1 σ H1 Q I1 q1
end
def fh (K:gg)(H:Hp)(a:dw)(xs:cz V):Prop:=Rd H a (.lst xs) \/dY λ(o:Obj) (its:ft cG) (n:Nat)=>oq (K.lookup a=some o) (o.cls= .type "list") (o.dict=none) (o.data= .seq its n) (its.size<=sizeLine) (bK xs its.toList)
def gH (K:gg)(H:Hp)(a:dw)(xs:cz V):Prop:=Rd H a (.tup xs) \/dY λ(o:Obj) (its:ft cG) (n:Nat)=>oq (K.lookup a=some o) (o.cls= .type "tuple") (o.dict=none) (o.data= .seq its n) (its.size<=sizeLine) (bK xs its.toList)
def ad5:cG ->cT V
 | .none=>some .dJ
 | .bool b=>some (.bl b)
 | .int i _=>some (.int i)
 | .str x _=>some (.str x)
 | .bytes b _=>some (.BI b)
 | .float b _=>some (.TN b)
 | .ref a=>some (.ref a)
 | .type n=>some (.ty n)
 | _=>none
def RelV.abs {x:V}{u:cG}(r:RelV x u):ad5 u=some x:=by
 cases x with
 | dJ=>cases r;rfl
 | bl _=>cases r;rfl
 | int _=>let⟨t,rfl⟩:=r;rfl
 | str _=>let⟨t,rfl⟩:=r;rfl
 | BI _=>let⟨t,rfl⟩:=r;rfl
 | TN _=>let⟨t,rfl⟩:=r;rfl
 | ref _=>cases r;rfl
 | ty _=>cases r;rfl
theorem RelV.inj {x y:V}{u:cG}(r:RelV x u)(q:RelV y u):x=y:=aW (r.abs.symm.trans q.abs)
theorem bK.inj: ∀ {xs ys:cz V} {us:cz cG},bK xs us ->bK ys us ->xs=ys
 | _,_,_, .nil, .nil=>rfl
 | _,_,_, .cons r t, .cons r' t'=>by rw[r.inj r',bK.inj t t']
section
variable {X:Cx}{ae:cz (dw×Obj)}{σ:St}{H:Hp}{s:cL}{a:dw}{xs ys:cz V}
theorem fh.of {K:gg}(h:H a=some (.lst xs)):fh K H a xs:= .inl (.inl h)
theorem gH.of {K:gg}(h:H a=some (.tup xs)):gH K H a xs:= .inl (.inl h)
def Inv.list (I:Inv X ae σ H s)(h:fh X.K H a xs): ∃its:cz cG,cg (bK xs its) (PlainL s.heap a its.toArray) (xs.length<=sizeLine):=by obtain h | ⟨o,its,n,hk,hc,hd,hs,hz,r⟩:=h;let⟨z,its,n,r,e⟩:=h.ok I.b0;show#[its,r,#[_,n,e,rfl,rfl,rfl],z];exact#[its.toList,r,#[o,n,I.qU a o hk,hc,hd, ⇑hs],?_];have e:=r.length;simp![bT] at e;lia
def Inv.tuple (I:Inv X ae σ H s)(h:gH X.K H a xs): ∃its:cz cG,cg (bK xs its) (IsTup s.heap a its.toArray) (xs.length<=sizeLine):=by obtain h | ⟨o,its,n,hk,hc,_,hs,hz,r⟩:=h;let⟨z,its,r,p⟩:=h.ok I.b0;show#[its,r,p.t,z];exact#[its.toList,r,#[o,I.qU a o hk,hc,n, ⇑hs],?_];have e:=r.length;simp![bT] at e;lia
def Inv.Nf (I:Inv X ae σ H s)(h:gH X.K H a xs): ∃its:cz cG,cg (bK xs its) (v7 s.heap a its.toArray) (xs.length<=sizeLine):=by obtain h | ⟨o,its,n,hk,hc,hd,hs,hz,r⟩:=h;let⟨z,its,r,p⟩:=h.ok I.b0;show#[its,r,p,z];exact#[its.toList,r,#[o,I.qU a o hk,hc,n, ⇑hs,hd],?_];have e:=r.length;simp![bT] at e;lia
def Inv.list_inj (I:Inv X ae σ H s)(h:fh X.K H a xs)(h':fh X.K H a ys):xs=ys:=by let⟨its,r,⟨o,n,e,_,_,d⟩,_⟩:=I.list h;let⟨its',r',⟨o',n',e',_,_,d'⟩,_⟩:=I.list h';rw[e] at e';cases e';rw[d] at d';injection d' with d1 _;have:its=its':= ⇑(congrArg Array.toList d1);subst this;show r.inj r'
def Inv.nF (I:Inv X ae σ H s)(h:gH X.K H a xs)(h':gH X.K H a ys):xs=ys:=by let⟨its,r,⟨o,e,_,n,d⟩,_⟩:=I.tuple h;let⟨its',r',⟨o',e',_,n',d'⟩,_⟩:=I.tuple h';rw[e] at e';cases e';rw[d] at d';injection d' with d1 _;have:its=its':= ⇑(congrArg Array.toList d1);subst this;show r.inj r'
end
abbrev Cx.nC (X:Cx)(E:cG ->cL ->Prop):Cx:= {X with xe:=E}
abbrev Cx.Fx (X:Cx):Cx:=X.nC λ_ _=>False
theorem Cx.Ok.nC {X:Cx}(ok:X.Ok)(E:cG ->cL ->Prop):(X.nC E).Ok:=#[ok.mod,ok.kind,ok.glob,ok.blt,ok.above,ok.inj,ok.has,ok.QA,ok.hd,ok.frames,ok.Nu,ok.exf,ok.bs,ok.Hb,ok.Cr,ok.zJ,ok.lr,ok.HW]
theorem Cx.Ok.f8 {X:Cx}{E:cG ->cL ->Prop}(ok:(X.nC E).Ok):X.Ok:=#[ok.mod,ok.kind,ok.glob,ok.blt,ok.above,ok.inj,ok.has,ok.QA,ok.hd,ok.frames,ok.Nu,ok.exf,ok.bs,ok.Hb,ok.Cr,ok.zJ,ok.lr,ok.HW]
section
variable {X:Cx}{ae:cz (dw×Obj)}{σ:St}{H:Hp}{s:cL}{E:cG ->cL ->Prop}
theorem Inv.nC (I:Inv X ae σ H s)(E:cG ->cL ->Prop):Inv (X.nC E) ae σ H s:=#[I.ok.nC E,I.os,I.bare,I.base,I.loc,I.cell,I.free,I.fg,I.pin,I.b0,I.len]
theorem Inv.f8 (I:Inv (X.nC E) ae σ H s):Inv X ae σ H s:=#[I.ok.f8,I.os,I.bare,I.base,I.loc,I.cell,I.free,I.fg,I.pin,I.b0,I.len]
def SP.f8 {D:jl}{f:Flow}{s':cL}(h:SP (X.nC E) ae D f s'):SP X ae D f s':=by
 cases f with
 | next=>let⟨σ',H',I,q⟩:=h;show#[σ',H',I.f8,q]
 | brk=>let⟨σ',H',I,q⟩:=h;show#[σ',H',I.f8,q]
 | cont=>let⟨σ',H',I,q⟩:=h;show#[σ',H',I.f8,q]
 | ret u=>let⟨v,σ',H',I,r,q⟩:=h;show#[v,σ',H',I.f8,r,q]
theorem sC.Fx {st:cz Stmt}{t:TS}(h:sC X.Fx st t):sC X st t:=λae s σ H D I hw=>a9 (h ae s σ H D (I.nC _) hw) (λ_ _ q=>q.f8) λ_ _ z=>False.elim z
end
section
variable {X:Cx}{st:Stmt}{rest:cz Stmt}{t u:TS}{e:Expr}{te:TE}{pos:Pos}
def Ls:TS:=λD σ H=>D.nx σ H
def Np (t u:TS):TS:=λD σ H=>t {D with nx:=u D} σ H
theorem bN:sC X [] Ls:=λ_ _ σ H _ I h=>wpAny_execs_nil #[σ,H,I,h]
def am (h1:PS X st t)(h2:sC X rest u):sC X (st::rest) (Np t u):=by
 intro ae s σ H D I h;exact wpAny_execs_cons (ci (h1 ae s σ H {D with nx:=u D} I h) λf s1 q=> ?_);cases f with
 | next=>let⟨σ',H',I',q⟩:=q;show h2 ae s1 σ' H' D I' q
 | ret v=>show q
 | brk=>show q
 | cont=>show q
def ay (h1:PS X st t):sC X [st] t:=by
 intro ae s σ H D I h;exact wpAny_execs_cons (ci (h1 ae s σ H D I h) λf s1 q=> ?_);cases f with
 | next=>show wpAny_execs_nil q
 | ret v=>show q
 | brk=>show q
 | cont=>show q
def Inv.quiet {ae:cz (dw×Obj)}{σ:St}{H:Hp}{s:cL}(I:Inv X ae σ H s):interactive X.env=false:=by simp[interactive,I.ok.kind]
def Lu (te:TE):TS:=λD σ H=>te σ H λ_ H1=>D.nx σ H1
def c5 (he:PE X e te)(hs:swapsWith e none pos.line X.env=pure false:=by rfl):PS X (.Expr e pos) (Lu te):=by intro ae s σ H D I h;show wpAny_Expr_any (ci (he ae s σ H _ I h) λv s1 ⟨x,H1,I1,r1,q1⟩=>#[σ,H1,I1,q1]) I.quiet hs
def Rv (te:TE):TS:=λD σ H=>te σ H D.rt
def a_ (he:PE X e te):PS X (.Return (some e) pos) (Rv te):=by intro ae s σ H D I h;show wpAny_Return_some (ci (he ae s σ H _ I h) λv s1 ⟨x,H1,I1,r1,q1⟩=>#[x,σ,H1,I1,r1,q1])
def Rz (c:TT)(t u:TS):TS:=λD σ H=>c σ H λb H1=>if b=true then t D σ H1 else u D σ H1
def db {c:Expr}{a b:cz Stmt}{tc:TT}(hc:PT X c tc)(ha:sC X a t)(hb:sC X b u):PS X (.If c a b pos) (Rz tc t u):=by
 intro ae s σ H D I h;exact wpAny_If (ci (hc ae s σ H _ I h) λd s1 ⟨H1,I1,q1⟩=> ?_);cases d with
 | true=>show ha ae s1 σ H1 D I1 q1
 | false=>show hb ae s1 σ H1 D I1 q1
def yW:TS:=λ_ _ _=>False
theorem xg:PS X st yW:=λ_ _ _ _ _ _ h=>h.elim
theorem eE {fS:cz Stmt}:sC X fS yW:=λ_ _ _ _ _ _ h=>h.elim
end
abbrev TG:=V ->St ->Hp ->(St ->Hp ->Prop) ->Prop
abbrev Ih:=cz V ->St ->Hp ->(St ->Hp ->Prop) ->Prop
def PG (X:Cx)(nG:Expr)(t:TG):Prop:=∀ (ae:cz (dw×Obj)) (s:cL) (σ:St) (H:Hp) (v:V) (u:cG) (Q:St ->Hp ->Prop),Inv X ae σ H s ->RelV v u ->t v σ H Q ->wpAny (model X.prog X.w) X.A (assign nG X.env u) (λ_ s'=>bX λσ' H'=>Inv X ae σ' H' s' /\ Q σ' H') X.xe s
def V8 (X:Cx)(ts:cz Expr)(t:Ih):Prop:=∀ (ae:cz (dw×Obj)) (s:cL) (σ:St) (H:Hp) (vs:cz V) (us:cz cG) (Q:St ->Hp ->Prop),Inv X ae σ H s ->bK vs us ->t vs σ H Q ->wpAny (model X.prog X.w) X.A (assignInOrder ((assignEach ts X.env).map (·.2)) us) (λ_ s'=>bX λσ' H'=>Inv X ae σ' H' s' /\ Q σ' H') X.xe s
abbrev Hj:=V ->V ->V ->Hp ->(Hp ->Prop) ->Prop
def Ux (X:Cx)(t:Hj):Prop:=∀ (ae:cz (dw×Obj)) (s:cL) (σ:St) (H:Hp) (o i v:V) (ov iv u:cG) (Q:Hp ->Prop),Inv X ae σ H s ->RelV o ov ->RelV i iv ->RelV v u ->t o i v H Q ->wpAny (model X.prog X.w) X.A (setItem ov iv u) (λ_ s'=> ∃H',Inv X ae σ H' s' /\ Q H') X.xe s
abbrev QC:=V ->V ->Hp ->VK ->Prop
def PIp (X:Cx)(op:Operator)(t:QC):Prop:=∀ (ae:cz (dw×Obj)) (s:cL) (σ:St) (H:Hp) (x y:V) (v u:cG) (Q:VK),Inv X ae σ H s ->RelV x v ->RelV y u ->t x y H Q ->wpAny (model X.prog X.w) X.A (inplaceOp op v u) (EP X ae σ Q) X.xe s
section
variable {X:Cx}{pos:Pos}
def i5 (i:Nat):TG:=λv σ H Q=>Q (σ.set i (some v)) H
def aX {i:Nat}{x:Str}(hN:X.N.Nodup)(hi:X.N[i]? =some x)(hx:Loc X.env.scope x)(hf:X.fn x=true \/ X.env.scope.names.lookup x=some .local:=by first | show .inl rfl | show .inr rfl | assumption):PG X (.Name x pos) (i5 i):=by intro ae s σ H v u Q I r h;show wpAny_assign_Name (lK I hN hi hx r (λs' I'=>#[_,H,I',h]) hf)
def Kn:Ih:=λvs σ H Q=>vs= [] /\ Q σ H
def uf (t:TG)(u:Ih):Ih:=λvs σ H Q=>bX λv r=>vs=v::r /\ t v σ H λσ' H'=>u r σ' H' Q
def cS:V8 X [] Kn:=by intro ae s σ H vs us Q I r h;let⟨e,h⟩:=h;subst e;cases r;show assignInOrder_nil #[σ,H,I,h]
def a8 {e:Expr}{es:cz Expr}{t:TG}{u:Ih}(h1:PG X e t)(h2:V8 X es u) (hs:(assignEach (e::es) X.env).map (·.2)=assign e X.env::(assignEach es X.env).map (·.2):=by rfl):V8 X (e::es) (uf t u):=by
 intro ae s σ H vs us Q I r h;let⟨v,vr,e1,h⟩:=h;subst e1;cases r with
 | cons r rr=>rw[hs];exact assignInOrder_cons (ci (h1 ae s σ H _ _ _ I r h) λ_ s1 ⟨σ1,H1,I1,q1⟩=> ?_);show h2 ae s1 σ1 H1 _ _ Q I1 rr q1
def Km (K:gg)(n:Nat)(t:Ih):TG:=λv σ H Q=>bX λa xs=>eZ (v= .ref a) (gH K H a xs) (xs.length=n) (t xs σ H Q)
def dv {es:cz Expr}{k:Nat}{t:Ih}{n:Nat}(hc:X.calm=true)(h:V8 X es t) (hn:(assignEach es X.env).length=n:=by rfl) (oS:(assignEach es X.env).findIdx? (·.1)=none:=by rfl):PG X (.Tuple es k pos) (Km X.K n t):=by intro ae s σ H v u Q I r hw;let⟨a,xs,e1,hq,hl,hw⟩:=hw;subst e1;cases r;let⟨its,rv,ht,hz⟩:=I.tuple hq;exact assign_Tuple_tuple (I.ok.hd hc) ht (by simp[hn, <- hl,rv.length]) oS λh' hx=> ?_;have I1:Inv X ae σ H {s with heap:=h'}:=I.kept (t':=s.toks) λb o e=>hx b o (aN (ax e)) e;show h ae _ σ H xs _ Q I1 ⇑rv hw
def Tw (to ti:TE)(t:Hj):TG:=λv σ H Q=>to σ H λo H1=>ti σ H1 λi H2=>t o i v H2 λH3=>Q σ H3
theorem nQ {o i:Expr}{to ti:TE}{t:Hj}(ho:PE X o to)(hi:PE X i ti)(hs:Ux X t) (ha: ∀v,assign (.Subscript o i pos) X.env v=(do
  let ov <- holding [v] (eval o X.env)
  let iv <- holding [v,ov] (eval i X.env)
  standAt pos
  holding [v,ov,iv] (setItem ov iv v)
  release [v,ov,iv] []):=by intro _;rfl):PG X (.Subscript o i pos) (Tw to ti t):=by
 intro ae s σ H v u Q I r h
 rw[ha]
 exact af (wpAny_holding (ci (ho ae s σ H _ I h) λov s1 ⟨x,H1,I1,r1,q1⟩=> ?_))
 exact af (wpAny_holding (ci (hi ae s1 σ H1 _ I1 q1) λiv s2 ⟨y,H2,I2,r2,q2⟩=> ?_))
 exact af (wpAny_standAt (af (wpAny_holding (ci (hs ae s2 σ H2 x y v ov iv u _ I2 r1 r2 r q2) λ_ s3 ⟨H3,I3,q3⟩=> ?_))))
 show wpAny_release #[σ,H3,I3,q3]
def BZ (te:TE)(g:TG):TS:=λD σ H=>te σ H λx H1=>g x σ H1 D.nx
def dW {tg e:Expr}{te:TE}{g:TG}(he:PE X e te)(hg:PG X tg g)(hs:swapsWithSole [tg] e pos.line X.env=pure false:=by rfl)(hw:swappedStores [tg] e X.env=pure none:=by rfl) (h1:(assignEach [tg] X.env).map (·.2)= [assign tg X.env]:=by rfl):PS X (.Assign [tg] e pos) (BZ te g):=by intro ae s σ H D I h;exact wpAny_Assign_stores (ci (he ae s σ H _ I h) λv s1 ⟨x,H1,I1,r1,q1⟩=> ?_) hs hw;rw[h1];show ci (hg ae s1 σ H1 x v _ I1 r1 q1) λ_ s2 q=>q
def NF {i:Nat}{x:Str}{e:Expr}{te:TE}{fV:Pos}(hN:X.N.Nodup)(hi:X.N[i]? =some x)(hx:Loc X.env.scope x)(he:PE X e te)(hs:swapsWith e (some (.Name x fV)) pos.line X.env=pure false:=by rfl)(hf:X.fn x=true \/ X.env.scope.names.lookup x=some .local:=by first | show .inl rfl | show .inr rfl | assumption): PS X (.Assign [.Name x fV] e pos) (BZ te (i5 i)):=by intro ae s σ H D I h;exact wpAny_Assign_Name (ci (he ae s σ H _ I h) λv s1 ⟨y,H1,I1,r1,q1⟩=> ?_) hs;show lK I1 hN hi hx r1 (λs2 I2=>#[_,H1,I2,q1]) hf
def RE (i:Nat)(te:TE)(ti:QC):TS:=λD σ H=> ∃x,σ[i]? =some (some x) /\ te σ H λy H1=>ti x y H1 λz H2=>D.nx (σ.set i (some z)) H2
def NG {i:Nat}{x:Str}{e:Expr}{te:TE}{op:Operator}{ti:QC}{fV:Pos}(hN:X.N.Nodup)(hi:X.N[i]? =some x)(hx:Loc X.env.scope x)(he:PE X e te)(ho:PIp X op ti)(hf:X.fn x=true \/ X.env.scope.names.lookup x=some .local:=by first | show .inl rfl | show .inr rfl | assumption): PS X (.AugAssign (.Name x fV) op e pos) (RE i te ti):=by
 intro ae s σ H D I h;let⟨v,e1,h⟩:=h;let⟨m,hn,hl⟩:=I.loc;have W2:Ut X.env.scope x:=by obtain k | k:=hx;show .inl k;show .inr (.inl k)
 let⟨u,r,l⟩:=hl i x v hi e1 W2;exact wpAny_AugAssign_Name ?_;have go:wpAny (model X.prog X.w) X.A (eval e X.env) (λw s₂=>wpAny (model X.prog X.w) X.A (inplaceOp op u w) (λr s₃=>wpAny (model X.prog X.w) X.A (storeName X.env x r) (λ_=>SP X ae D .next) X.xe s₃) X.xe s₂) X.xe s:=by exact ci (he ae s σ H _ I h) λw s1 ⟨y,H1,I1,r1,q1⟩=> ?_;exact ci (ho ae s1 σ H1 v y u w _ I1 r r1 q1) λz s2 ⟨zv,H2,I2,r2,q2⟩=> ?_;show lK I2 hN hi hx r2 (λs3 I3=>#[_,H2,I3,q2]) hf
 rcases l with⟨hk,hm⟩ | ⟨hk,c,hc,A9⟩
 show wpAny_loadName_local I.ok.kind hk hn hm go;obtain hk | hk:=hk;show wpAny_loadName_cell I.ok.kind hk hc A9 go;obtain k | k:=hx;have:X.env.scope.names.lookup x=some .free:=hk;rw[k] at this;cases this;have:X.env.scope.names.lookup x=some .free:=hk;rw[k] at this;cases this
def ipI (f:Int ->Int ->Int):QC:=λx y H Q=>bX λi j=>cg (x= .int i) (y= .int j) (Q (.int (f i j)) H)
def OG:PIp X .Add (ipI λi j=>i+j):=by intro ae s σ H x y v u Q I r1 r2 h;let⟨i,j,e1,e2,q⟩:=h;subst e1;subst e2;let⟨t,rfl⟩:=r1;let⟨t',rfl⟩:=r2;show iadd_int #[.int _,H,I.tok _,#[_,rfl],q]
end
section
variable {X:Cx}{pos:Pos}
def Ej (c:TT)(tb:TS):TS:=λD σ H=> ∃W:Nat ->St ->Hp ->Prop,(∃m,W m σ H) /\ ∀m σ H,W m σ H ->c σ H λb H1=>if b=true then ∃N:St ->Hp ->Prop,(∀σ' H',N σ' H' -> ∃m',m'<m /\ W m' σ' H') /\ tb {D with nx:=N,ct:=N,bk:=D.nx} σ H1 else D.nx σ H1
def EX {c:Expr}{body:cz Stmt}{tc:TT}{tb:TS}(hp:PassesOwn (model X.prog X.w) X.A X.env X.xe)(hc:PT X c tc)(hb:sC X body tb):PS X (.While c body [] pos) (Ej tc tb):=by
 intro ae s σ H D I h;let⟨W,⟨m0,w0⟩,turn⟩:=h;exact wpAny_While (codeAny_whileLoop (λn s'=>bX λσ' H'=>Inv X ae σ' H' s' /\ W n σ' H') ?_ m0 #[σ,H,I,w0]);rintro n s1 ⟨σ1,H1,I1,w1⟩;exact wpAny_passesOwn hp (ci (hc ae s1 σ1 H1 _ I1 (turn n σ1 H1 w1)) λb s2 ⟨H2,I2,q2⟩=> ?_);cases b with
 | true=>
  let⟨N,hN,q2⟩:=q2;rw[aj rfl];exact wpAny_passesOwn hp (ci (hb ae s2 σ1 H2 _ I2 q2) λf s3 q3=> ?_);cases f with
  | next=>let⟨σ3,H3,I3,n3⟩:=q3;let⟨m',hm,w3⟩:=hN σ3 H3 n3;show#[m',hm,σ3,H3,I3,w3]
  | cont=>let⟨σ3,H3,I3,n3⟩:=q3;let⟨m',hm,w3⟩:=hN σ3 H3 n3;show#[m',hm,σ3,H3,I3,w3]
  | brk=>show q3
  | ret v=>show q3
 | false=>rw[ah aQ];show wpAny_execs_nil #[σ1,H2,I2,q2]
end
structure It where
 go:Nat ->Hp ->Prop
 K_:Nat ->Hp ->V ->Hp ->Prop
 stop:Nat ->Hp ->Prop
def iS (X:Cx)(ae:cz (dw×Obj))(H:Hp)(b:dw):Prop:=H b=none /\ b≠X.env.locals /\ b∉X.fs /\ (b∈X.ex \/ X.s₀.heap.objs.size<=b) /\ (∀x c,X.env.cells.lookup x=some c ->c≠b) /\ ∀p∈X.pn++ae,p.1≠b
def Inv.vL {X:Cx}{ae:cz (dw×Obj)}{σ:St}{H H':Hp}{s:cL}{b:dw}(I:Inv X ae σ H s)(hb:s.heap.objs.size<=b)(hn:H' b=none):iS X ae H' b:=by exact#[hn,Nat.ne_of_gt (a4 I.lt hb),I.XS hb, .inr (aH I.sz hb),λx c e z=> ?_,λp hp z=> ?_];let⟨v,q⟩:=I.cell x c e;show absurd (a4 q.lt (by rw[z];show hb)) (ce _);show absurd (a4 (ax (I.pin p hp).1) (by rw[z];show hb)) (ce _)
structure sY (P:Program)(w:World)(K:PySem.W.Frag)(tg:Expr)(J:It)(fp:List Addr)(it:Addr)(tn:Nat ->Heap ->Prop):Prop where
 mem:it∈fp
 obj: ∀i h,tn i h -> ∀b∈fp, ∃o,h.get? b=some o /\ ∀v,o.data≠ .cell v
 keep: ∀i h h',tn i h ->(∀b∈fp, ∀o,h.get? b=some o ->h'.get? b=some o) ->tn i h'
 item: ∀ (X:Cx),X.prog=P ->X.w=w ->X.K=K ->X.calm=true -> ∀ (i:Nat) (ae:List (Addr×Obj)) (s:Shared) (σ:St) (H:Hp) (E:Value ->Shared ->Prop),Inv X ae σ H s ->(∀b∈fp,iS X ae H b) ->tn i s.heap ->J.go i H ->wpAny (model P w) X.A (pyNext (.ref it)) (λr s1=> ∃u,r=some u /\wpAny (model P w) X.A (letOwnedTupleGo tg (.ref it) u) (λ_ s2=>bX λx H'=>d9 (Inv X ae σ H' s2) (RelV x u) (J.K_ i H x H') (tn (i+1) s2.heap) (∀b∈fp,H' b=none)) E s1) E s
 done: ∀ (X:Cx),X.prog=P ->X.w=w ->X.K=K ->X.calm=true -> ∀ (i:Nat) (ae:List (Addr×Obj)) (s:Shared) (σ:St) (H:Hp) (E:Value ->Shared ->Prop),Inv X ae σ H s ->(∀b∈fp,iS X ae H b) ->tn i s.heap ->J.stop i H ->wpAny (model P w) X.A (pyNext (.ref it)) (λr s1=>r=none /\ Inv X ae σ H s1) E s
 self: ∀ (A:Around) (i:Nat) (s:Shared) (Q:Value ->Shared ->Prop) (E:Value ->Shared ->Prop),tn i s.heap ->Q (.ref it) s ->wpAny (model P w) A (pyIter (.ref it)) Q E s
abbrev TI:=St ->Hp ->(It ->Hp ->Prop) ->Prop
def PIE (X:Cx)(ae:cz (dw×Obj))(σ:St)(tg:Expr)(R:It ->Hp ->Prop)(OE:cG)(s2:cL):Prop:=rN λ(it:dw) (fp:cz dw) (tn:Nat ->gC ->Prop) (J:It) (H':Hp)=>oq (OE= .ref it) (Inv X ae σ H' s2) (sY X.prog X.w X.K tg J fp it tn) (tn 0 s2.heap) (∀b∈fp,iS X ae H' b) (R J H')
def PI (X:Cx)(tg iter:Expr)(wi:TI):Prop:=∀ (ae:cz (dw×Obj)) (s:cL) (σ:St) (H:Hp) (R:It ->Hp ->Prop),Inv X ae σ H s ->wi σ H R ->wpAny (model X.prog X.w) X.A (eval iter X.env) (λv s1=>wpAny (model X.prog X.w) X.A (pyIter v) (PIE X ae σ tg R) X.xe s1) X.xe s
def xF {M:Model}{A:hV}{E:cG ->cL ->Prop}{s:cL}{tg:Expr}{it:dw}{u:cG}{o:Obj}{n:String}{vs:ft cG}{Q:Unit ->cL ->Prop}(ho:s.heap.get? it=some o)(hc:o.cls= .type n)(hd:o.data= .fields vs) (hn: ["enumerate","zip","dict_itemiterator","dict_reverseitemiterator","odict_iterator","itertools.zip_longest","itertools.pairwise"].contains n=false) (hQ:Q () s):wpAny M A (letOwnedTupleGo tg (.ref it) u) Q E s:=by
 unfold letOwnedTupleGo;cases tg <;>first
 | show aC hQ
 | (cases u<;>first
  | show aC hQ
  | (exact af (wpAny_load ho ?_)
     rw[hc,hd]
     change wpAny M A (if(["enumerate","zip","dict_itemiterator","dict_reverseitemiterator","odict_iterator","itertools.zip_longest","itertools.pairwise"].contains n && vs[0]? ==some (rawInt _))=true then _ else _) Q E s
     rw[ah (by intro h;rw[hn,Bool.false_and] at h;cases h)]
     show aC hQ))
def Itl (K:gg)(a:dw):It:=#[λi H=>bX λxs x=>fh K H a xs /\ xs[i]? =some x,λi H x H'=>H'=H /\ ∀xs,fh K H a xs ->xs[i]? =some x,λi H=> ∃xs,fh K H a xs /\ xs.length<=i]
def Itt (K:gg)(a:dw):It:=#[λi H=>bX λxs x=>gH K H a xs /\ xs[i]? =some x,λi H x H'=>H'=H /\ ∀xs,gH K H a xs ->xs[i]? =some x,λi H=> ∃xs,gH K H a xs /\ xs.length<=i]
def V9 (lo:Int)(n:Nat):It:=#[λi _=>i<n,λi H x H'=>H'=H /\ x= .int (lo+i),λi _=>n<=i]
def BX {P:gA}{w:gB}{K:gg}{tg:Expr}(a it:dw):sY P w K tg (Itl K a) [it] it (λi h=>h.IsListIter it a i) where
 mem:=by simp
 obj:=λi h st b hb=>by have e:b=it:= ⇑hb;subst e;let⟨o,e,c,d⟩:=st;show#[o,e,λv z=>by rw[d] at z;cases z]
 keep:=λi h h' st k=>st.at λo e=>k it (by simp) o e
 item:=by intro X hP hw hK hc i ae s σ H E I hf st hg;subst hP hw hK;let⟨xs,x,hq,hx⟩:=hg;let⟨its,rv,p,hz⟩:=I.list hq;let⟨u,hu,ru⟩:=rv.get hx;let⟨f0,f1,f2,f3,f4,f5⟩:=hf it (by simp);exact wpAny_pyNext_list_item st p.isList (x:=u) ⇑hu λh' bt sb=> ?_;have I1:Inv X ae σ H {s with heap:=h'}:=I.turned (t':=s.toks) (λb o hb e=>(sb.2 b hb).trans e) f0 f1 f3 f4 f5;let⟨o,e,c,d⟩:=id bt;show#[u,rfl,xF (s:= {s with heap:=h'}) e c d ⋯ #[x,H,I1,ru,#[rfl,λys hy=>by rw[I.list_inj hy hq];show hx],bt,λb hb=>(hf b hb).1]]
 done:=by intro X hP hw hK hc i ae s σ H E I hf st hg;subst hP hw hK;let⟨xs,hq,hx⟩:=hg;let⟨its,rv,p,hz⟩:=I.list hq;let⟨f0,f1,f2,f3,f4,f5⟩:=hf it (by simp);have hl:=rv.length;show wpAny_pyNext_list_end (I.ok.hd hc) st p.isList (by simp;lia) λh' eb=>#[rfl,I.turned (t':=s.toks) (λb o hb e=>eb b o hb e) f0 f1 f3 f4 f5]
 self:=λ_ _ _ _ _ st h=>wpAny_pyIter_listiter st h
def yP {P:gA}{w:gB}{K:gg}{tg:Expr}(a it:dw):sY P w K tg (Itt K a) [it] it (λi h=>h.IsTupleIter it a i) where
 mem:=by simp
 obj:=λi h st b hb=>by have e:b=it:= ⇑hb;subst e;let⟨o,e,c,d⟩:=st;show#[o,e,λv z=>by rw[d] at z;cases z]
 keep:=λi h h' st k=>st.at λo e=>k it (by simp) o e
 item:=by intro X hP hw hK hc i ae s σ H E I hf st hg;subst hP hw hK;let⟨xs,x,hq,hx⟩:=hg;let⟨its,rv,p,hz⟩:=I.tuple hq;let⟨u,hu,ru⟩:=rv.get hx;let⟨f0,f1,f2,f3,f4,f5⟩:=hf it (by simp);exact wpAny_pyNext_tuple_item st (show s.heap.IsTuple a its.toArray from p) (x:=u) ⇑hu λh' bt sb=> ?_;have I1:Inv X ae σ H {s with heap:=h'}:=I.turned (t':=s.toks) (λb o hb e=>(sb.2 b hb).trans e) f0 f1 f3 f4 f5;let⟨o,e,c,d⟩:=id bt;show#[u,rfl,xF (s:= {s with heap:=h'}) e c d ⋯ #[x,H,I1,ru,#[rfl,λys hy=>by rw[I.nF hy hq];show hx],bt,λb hb=>(hf b hb).1]]
 done:=by intro X hP hw hK hc i ae s σ H E I hf st hg;subst hP hw hK;let⟨xs,hq,hx⟩:=hg;let⟨its,rv,p,hz⟩:=I.tuple hq;let⟨f0,f1,f2,f3,f4,f5⟩:=hf it (by simp);have hl:=rv.length;show wpAny_pyNext_tuple_end (I.ok.hd hc) st (show s.heap.IsTuple a its.toArray from p) (by simp;lia) λh' eb=>#[rfl,I.turned (t':=s.toks) (λb o hb e=>eb b o hb e) f0 f1 f3 f4 f5]
 self:=λ_ _ _ _ _ st h=>wpAny_pyIter_tupleiter st h
def yQ {P:gA}{w:gB}{K:gg}{tg:Expr}(it:dw)(lo:Int)(n:Nat):sY P w K tg (V9 lo n) [it] it (λi h=>IsRangeIter h it (lo+(i:Nat)*1) ((n:Int) - (i:Nat)) 1) where
 mem:=by simp
 obj :=λi h st b hb=>by have e:b=it:= ⇑hb;subst e;show#[_,st,λv z=>by have z':Data.fields _=Data.cell v:=z;cases z']
 keep:=λi h h' st k=>k it (by simp) _ st
 item:=by intro X hP hw hK hc i ae s σ H E I hf st hg;subst hP hw hK;let⟨f0,f1,f2,f3,f4,f5⟩:=hf it (by simp);have W:=Walks.range (prog:=X.prog) (w:=X.w) (I.ok.hd hc) it lo 1 n;exact W.item i s _ _ hg st λv h' tk hv bt kk=> ?_;let⟨t,rfl⟩:=hv;have I1:Inv X ae σ H {s with heap:=h',toks:=tk}:=I.turned (λb o hb e=>kk b o ⇑hb e) f0 f1 f3 f4 f5;exact#[_,rfl,xF (s:= {s with heap:=h',toks:=tk}) (n:= "range_iterator") bt rfl rfl ⋯ #[.int (lo+i),H,I1,#[t,?_],#[rfl,rfl],bt,λb hb=>(hf b hb).1]];rw[Int.mul_one]
 done:=by intro X hP hw hK hc i ae s σ H E I hf st hg;subst hP hw hK;let⟨f0,f1,f2,f3,f4,f5⟩:=hf it (by simp);show wpAny_pyNext_range_end (I.ok.hd hc) st (by have:n<=i:=hg;lia) λh' eb=>#[rfl,I.turned (t':=s.toks) (λb o hb e=>eb b o hb e) f0 f1 f3 f4 f5]
 self:=λ_ _ _ _ _ st h=>wpAny_pyIter_rangeiter st h
section
variable {X:Cx}{tg:Expr}
def F' (K:gg)(tl:TE):TI:=λσ H R=>tl σ H λx H1=> ∃a,cg (x= .ref a) (∃xs,fh K H1 a xs) (R (Itl K a) H1)
def SX (K:gg)(tl:TE):TI:=λσ H R=>tl σ H λx H1=> ∃a,cg (x= .ref a) (∃xs,gH K H1 a xs) (R (Itt K a) H1)
def ed {l:Expr}{tl:TE}(hl:PE X l tl):PI X tg l (F' X.K tl):=by intro ae s σ H R I h;exact ci (hl ae s σ H _ I h) λv s1 ⟨x,H1,I1,r1,q1⟩=> ?_;let⟨a,e,⟨xs,hq⟩,q⟩:=q1;subst e;cases r1;let⟨its,rv,p,hz⟩:=I1.list hq;exact wpAny_pyIter_list p.isList ?_;exact#[s1.heap.objs.size,[s1.heap.objs.size],_,_,H1,rfl,I1.kept (t':=s1.toks) λb o e=>ai _ e,BX a _,#[_,aJ _ rfl,rfl,rfl],λb hb=> ?_,q];have e:b=s1.heap.objs.size:= ⇑hb;subst e;show I1.vL (ak _) (I1.b0.fresh (ak _))
def nP {l:Expr}{tl:TE}(hl:PE X l tl):PI X tg l (SX X.K tl):=by intro ae s σ H R I h;exact ci (hl ae s σ H _ I h) λv s1 ⟨x,H1,I1,r1,q1⟩=> ?_;let⟨a,e,⟨xs,hq⟩,q⟩:=q1;subst e;cases r1;let⟨its,rv,p,hz⟩:=I1.tuple hq;exact wpAny_pyIter_tuple (show s1.heap.IsTuple a its.toArray from p) ?_;exact#[s1.heap.objs.size,[s1.heap.objs.size],_,_,H1,rfl,I1.kept (t':=s1.toks) λb o e=>ai _ e,yP a _,#[_,aJ _ rfl,rfl,rfl],λb hb=> ?_,q];have e:b=s1.heap.objs.size:= ⇑hb;subst e;show I1.vL (ak _) (I1.b0.fresh (ak _))
def EL {ae:cz (dw×Obj)}{σ:St}{H:Hp}{s:cL}{R:It ->Hp ->Prop}{E:cG ->cL ->Prop}{lo hi:Int}{t u v:Tok}{tk:Nat}(I:Inv X ae σ H s)(h1: -(2 ^ 62) <=lo)(h2:lo<2 ^ 62)(h3: -(2 ^ 62) <=hi)(h4:hi<2 ^ 62) (q:R (V9 lo (hi - lo).toNat) H):wpAny (model X.prog X.w) X.A (pyIter (.ref s.heap.objs.size)) (PIE X ae σ tg R) E {s with heap:=s.heap.push {cls:= .type "range",data:= .fields (List.toArray [.int lo t, .int hi u, .int 1 v])},toks:=tk}:=by
 exact wpAny_pyIter_range (IsRange.new ..) (small_one h1 h2 h3 h4) ?_;have I1:Inv X ae σ H {s with heap:=s.heap.push {cls:= .type "range",data:= .fields (List.toArray [.int lo t, .int hi u, .int 1 v])},toks:=tk}:=I.kept λb o e=>ai _ e;exact#[(s.heap.push {cls:= .type "range",data:= .fields (List.toArray [.int lo t, .int hi u, .int 1 v])}).objs.size,[(s.heap.push {cls:= .type "range",data:= .fields (List.toArray [.int lo t, .int hi u, .int 1 v])}).objs.size],_,_,H,rfl,I1.kept (t':=tk) λb o e=>ai _ e,yQ _ lo (hi - lo).toNat,?_,λb hb=> ?_,q];have e1:lo+((0:Nat):Int)*1=lo:=by simp
 have e2:(((hi - lo).toNat:Nat):Int) - ((0:Nat):Int)=Builtin.Range.rangeSize lo hi 1:=by rw[rangeSize_one];split<;>lia
 change IsRangeIter _ _ (lo+((0:Nat):Int)*1) ((((hi - lo).toNat:Nat):Int) - ((0:Nat):Int)) 1;rw[e1,e2];show aJ _ rfl;have e:b=(s.heap.push {cls:= .type "range",data:= .fields (List.toArray [.int lo t, .int hi u, .int 1 v])}).objs.size:=by simpa using hb
 subst e;show I1.vL (ak _) (I1.b0.fresh (ak _))
def Mo (ta:TA):TI:=λσ H R=>ta σ H λvs H1=> ∃j:Int,eZ (vs= [.int j]) (-(2 ^ 62) <=j) (j<2 ^ 62) (R (V9 0 j.toNat) H1)
def g0 {a:Expr}{ta:TA}{p pos:Pos}(hg:Gl X "range")(hm:X.mg "range" =none)(ha:PA X [a] ta)(hs:starEach [a] X.env= [(false,eval a X.env)]:=by rfl):PI X tg (.Call (.Name "range" p) [a] [] pos) (Mo ta):=by
 intro ae s σ H R I h;exact Call_ (nX I hg hm boot_range (PyProof.Rows.callWith_type1 (ci (ha pos ae s σ H _ I h) λus s1 ⟨vs,H1,I1,r1,q1⟩=> ?_) hs rfl));let⟨j,e,q1,q2,q⟩:=q1;subst e;cases r1 with
 | cons r rr=>cases rr;let⟨t,rfl⟩:=r;show call_range_1 (EL I1 ∅ ∅ q1 q2 ⇑q)
def RC (wi:TI)(g:TG)(tb:TS):TS:=λD σ H=>wi σ H λJ H1=> ∃W:Nat ->Nat ->St ->Hp ->Prop,(∃m,W 0 m σ H1) /\ ∀i m σ H,W i m σ H ->(J.stop i H /\ D.nx σ H) \/ (J.go i H /\ ∃N:St ->Hp ->Prop,(∀σ' H',N σ' H' -> ∃m',m'<m /\ W (i+1) m' σ' H') /\ ∀x H',J.K_ i H x H' ->g x σ H' λσ2 H2=>tb {D with nx:=N,ct:=N,bk:=D.nx} σ2 H2)
def ge (fp:cz dw)(h:gC):cz (dw×Obj):=fp.filterMap λb=>(h.get? b).map λo=>(b,o)
theorem dX {fp:cz dw}{h:gC}{b:dw}{o:Obj}(hb:b∈fp)(e:h.get? b=some o):(b,o)∈ge fp h:=List.mem_filterMap.mpr #[b,hb,by rw[e];rfl]
def Cq {fp:cz dw}{h:gC}{p:dw×Obj}(hp:p∈ge fp h):p.1∈fp /\ h.get? p.1=some p.2:=by
 let⟨b,hb,e⟩:=List.mem_filterMap.mp hp;cases q:h.get? b with
 | none=>rw[q] at e;cases e
 | some o=>rw[q] at e;have e':(b,o)=p:=aW e;subst e';show#[hb,q]
theorem Inv.pinned {ae:cz (dw×Obj)}{σ:St}{H:Hp}{s:cL}{fp:cz dw}(I:Inv X ae σ H s)(hf: ∀b∈fp,iS X ae H b)(ho: ∀b∈fp, ∃o,s.heap.get? b=some o /\ ∀v,o.data≠ .cell v):Inv X (ae++ge fp s.heap) σ H s:=I.AH λp hp=>(bh.mp hp).elim (λz=>I.pin p (aM _ z)) λz=>by let⟨hb,e⟩:=Cq z;let⟨f0,f1,f2,_⟩:=hf p.1 hb;let⟨o,e',d⟩:=ho p.1 hb;rw[e] at e';cases e';show#[e,f0,f1,f2,d]
theorem Inv.gV {ae pl:cz (dw×Obj)}{σ:St}{H:Hp}{s:cL}(I:Inv X (ae++pl) σ H s):Inv X ae σ H s:=I.AH λp hp=>I.pin p (aM _ (List.mem_append_left _ hp))
def iC {iter:Expr}{body:cz Stmt}{wi:TI}{g:TG}{tb:TS}{pos:Pos}(hp:PassesOwn (model X.prog X.w) X.A X.env X.xe)(hc:X.calm=true)(hi:PI X tg iter wi)(hg:PG X tg g)(hb:sC X body tb) (hs: ∀x,foldedSetIterable iter X.env x=pure x:=by intro _;rfl):PS X (.For tg iter body [] pos) (RC wi g tb):=by
 intro ae s σ H D I h;exact wpAny_For (ci (hi ae s σ H _ I h) λv s1 h1=>ci h1 λOE s2 h2=> ?_) hs;let⟨it,fp,tn,J,H2,e,I2,T,kr,f2,W,⟨m0,w0⟩,turn⟩:=h2;subst e;have qv: ∀ {H':Hp},(∀b∈fp,H' b=none) -> ∀b∈fp,iS X ae H' b:=λhn b hb=>#[hn b hb,(f2 b hb).2]
 exact codeAny_forLoop_any (λn s'=>dY λi σ' H'=>eZ (Inv X ae σ' H' s') (tn i s'.heap) (∀b∈fp,H' b=none) (W i n σ' H')) ?_ m0 #[0,σ,H2,I2,kr,λb hb=>(f2 b hb).1,w0];rintro n s3 ⟨i,σ3,H3,I3,sv,fr3,w3⟩;rcases turn i n σ3 H3 w3 with⟨stop,qn⟩ | ⟨go,N,hN,step⟩
 .exact wpAny_passesOwn hp (ci (T.done X rfl rfl rfl hc i ae s3 σ3 H3 X.xe I3 (qv fr3) sv stop) λr s4 ⟨hr,I4⟩=> ?_);subst hr;show wpAny_execs_nil #[σ3,H3,I4,qn]
 .exact wpAny_passesOwn hp (ci (T.item X rfl rfl rfl hc i ae s3 σ3 H3 X.xe I3 (qv fr3) sv go) λr s4 ⟨u,hr,h4⟩=> ?_);subst hr;exact wpAny_passesOwn hp (ci h4 λ_ s5 ⟨x,H5,I5,r5,y5,Qh,fr5⟩=> ?_);have I5':=I5.pinned (qv fr5) (T.obj _ _ Qh);exact wpAny_passesOwn hp (ci (hg _ s5 σ3 H5 x u _ I5' r5 (step x H5 y5)) λ_ s6 ⟨σ6,H6,I6,q6⟩=> ?_);exact wpAny_passesOwn hp (ci (hb _ s6 σ6 H6 _ I6 q6) λf s7 q7=> ?_);have again: ∀ {σ7:St} {H7:Hp},Inv X (ae++ge fp s5.heap) σ7 H7 s7 ->N σ7 H7 -> ∃m,m<n /\ dY λi σ' H'=>eZ (Inv X ae σ' H' s7) (tn i s7.heap) (∀b∈fp,H' b=none) (W i m σ' H'):=λ{σ7 H7} I7 n7=>by let⟨m',hm,w7⟩:=hN σ7 H7 n7;exact#[m',hm,i+1,σ7,H7,I7.gV,T.keep _ _ _ Qh λb hb o e=>(I7.pin (b,o) (aM _ (aM _ (dX hb e)))).1,λb hb=> ?_,w7];let⟨o,e,d⟩:=T.obj _ _ Qh b hb;show(I7.pin (b,o) (aM _ (aM _ (dX hb e)))).2.1
  cases f with
  | next=>let⟨σ7,H7,I7,n7⟩:=q7;show again I7 n7
  | cont=>let⟨σ7,H7,I7,n7⟩:=q7;show again I7 n7
  | brk=>let⟨σ7,H7,I7,q7⟩:=q7;show#[σ7,H7,I7.gV,q7]
  | ret v=>let⟨x7,σ7,H7,I7,r7,q7⟩:=q7;show#[x7,σ7,H7,I7.gV,r7,q7]
end
abbrev R2:=V ->V ->Hp ->VK ->Prop
def kB (X:Cx)(f:cG ->cG ->Sem cG)(r:R2):Prop:=∀ (ae:cz (dw×Obj)) (s:cL) (σ:St) (H:Hp) (x y:V) (v u:cG) (Q:VK),Inv X ae σ H s ->RelV x v ->RelV y u ->r x y H Q ->wpAny (model X.prog X.w) X.A (f v u) (EP X ae σ Q) X.xe s
def UnR (X:Cx)(f:cG ->Sem cG)(r:V ->Hp ->VK ->Prop):Prop:=∀ (ae:cz (dw×Obj)) (s:cL) (σ:St) (H:Hp) (x:V) (v:cG) (Q:VK),Inv X ae σ H s ->RelV x v ->r x H Q ->wpAny (model X.prog X.w) X.A (f v) (EP X ae σ Q) X.xe s
def dU (X:Cx)(f:cG)(r:cz V ->Hp ->VK ->Prop):Prop:=∀ (ae:cz (dw×Obj)) (s:cL) (σ:St) (H:Hp) (xs:cz V) (us:cz cG) (Q:VK),Inv X ae σ H s ->bK xs us ->r xs H Q ->wpAny (model X.prog X.w) X.A (call f us) (EP X ae σ Q) X.xe s
def ad6 (X:Cx)(r:V ->Hp ->(Bool ->Hp ->Prop) ->Prop):Prop:=∀ (ae:cz (dw×Obj)) (s:cL) (σ:St) (H:Hp) (x:V) (v:cG) (Q:Bool ->Hp ->Prop),Inv X ae σ H s ->RelV x v ->r x H Q ->wpAny (model X.prog X.w) X.A (truthy v) (TP X ae σ Q) X.xe s
def Rw (r:R2)(ta tb:TE):TE:=λσ H Q=>ta σ H λx H1=>tb σ H1 λy H2=>r x y H2 Q
def tUn (r:V ->Hp ->VK ->Prop)(ta:TE):TE:=λσ H Q=>ta σ H λx H1=>r x H1 Q
def rI (C:Int ->Int ->Prop)(g:Int ->Int ->V):R2:=λx y H Q=>bX λi j=>eZ (x= .int i) (y= .int j) (C i j) (Q (g i j) H)
def LO (g:Int ->Int ->V):R2:=λx y H Q=>bX λi j=>cg (x= .int i) (y= .int j) (Q (g i j) H)
def rU (g:Int ->V):V ->Hp ->VK ->Prop:=λx H Q=> ∃i,x= .int i /\ Q (g i) H
section
variable {X:Cx}{a b c:Expr}{ta tb tc:TE}{pos:Pos}
def PB (ha:PE X a ta)(hb:PE X b tb){ae:cz (dw×Obj)}{s:cL}{σ:St}{H:Hp}{R:V ->V ->Hp ->Prop}(I:Inv X ae σ H s) (h:ta σ H λx H1=>tb σ H1 λy H2=>R x y H2) {Q:cG ->cL ->Prop} {f:cG ->cG ->Sem cG} (hf: ∀v u s2 x y H2,Inv X ae σ H2 s2 ->RelV x v ->RelV y u ->R x y H2 ->wpAny (model X.prog X.w) X.A (f v u) Q X.xe s2): wpAny (model X.prog X.w) X.A (eval a X.env) (λv s₁=>wpAny (model X.prog X.w) X.A (eval b X.env) (λu s₂=>wpAny (model X.prog X.w) X.A (f v u) Q X.xe s₂) X.xe s₁) X.xe s:=by exact ci (ha ae s σ H _ I h) λv s1 ⟨x,H1,I1,r1,q1⟩=> ?_;exact ci (hb ae s1 σ H1 _ I1 q1) λu s2 ⟨y,H2,I2,r2,q2⟩=> ?_;show hf v u s2 x y H2 I2 r1 r2 q2
def cJ {op:Operator}{r:R2}(ho:kB X (binaryOp op) r)(ha:PE X a ta)(hb:PE X b tb):PE X (.BinOp a op b pos) (Rw r ta tb):=by intro ae s σ H Q I h;show wpAny_BinOp (PB ha hb I h λv u s2 x y H2 I2 rx ry q=>ho ae s2 σ H2 x y v u Q I2 rx ry q)
def oM {op:UnaryOp}{r:V ->Hp ->VK ->Prop}(ho:UnR X (unaryOp op) r)(ha:PE X a ta):PE X (.UnaryOp op a pos) (tUn r ta):=by intro ae s σ H Q I h;show UnaryOp_ (ci (ha ae s σ H _ I h) λv s1 ⟨x,H1,I1,r1,q1⟩=>ho ae s1 σ H1 x v Q I1 r1 q1)
def Vs {f:cG ->cG ->Sem cG}{C:Int ->Int ->Prop}{g:Int ->Int ->Int} (rule: ∀ (i j:Int) (t u:Tok) (s:cL) (Q:cG ->cL ->Prop) (E:cG ->cL ->Prop),C i j ->Q (.int (g i j) s.toks) {s with toks:=s.toks+1} ->wpAny (model X.prog X.w) X.A (f (.int i t) (.int j u)) Q E s): kB X f (rI C λi j=> .int (g i j)):=by intro ae s σ H x y v u Q I rx ry h;let⟨i,j,rfl,rfl,hc,q⟩:=h;let⟨t,rfl⟩:=rx;let⟨t',rfl⟩:=ry;show rule i j t t' s _ _ hc #[.int (g i j),H,I.tok _,#[_,rfl],q]
def XE {f:cG ->cG ->Sem cG}{g:Int ->Int ->Int} (rule: ∀ (i j:Int) (t u:Tok) (s:cL) (Q:cG ->cL ->Prop) (E:cG ->cL ->Prop),Q (.int (g i j) s.toks) {s with toks:=s.toks+1} ->wpAny (model X.prog X.w) X.A (f (.int i t) (.int j u)) Q E s): kB X f (LO λi j=> .int (g i j)):=by intro ae s σ H x y v u Q I rx ry h;let⟨i,j,rfl,rfl,q⟩:=h;let⟨t,rfl⟩:=rx;let⟨t',rfl⟩:=ry;show rule i j t t' s _ _ #[.int (g i j),H,I.tok _,#[_,rfl],q]
def Jv {f:cG ->cG ->Sem cG}{g:Int ->Int ->Bool} (rule: ∀ (i j:Int) (t u:Tok) (s:cL) (Q:cG ->cL ->Prop) (E:cG ->cL ->Prop),Q (.bool (g i j)) s ->wpAny (model X.prog X.w) X.A (f (.int i t) (.int j u)) Q E s): kB X f (LO λi j=> .bl (g i j)):=by intro ae s σ H x y v u Q I rx ry h;let⟨i,j,rfl,rfl,q⟩:=h;let⟨t,rfl⟩:=rx;let⟨t',rfl⟩:=ry;show rule i j t t' s _ _ #[.bl (g i j),H,I,rfl,q]
def DG (i j:Int):Prop:=0<j /\ j<1073741824
def PY (i j:Int):Prop:=0<=j /\ j<=1000000 /\ i.natAbs<2 ^ 64
def ox (i j:Int):Prop:=(-(2 ^ 64) <i /\ i<2 ^ 64) \/ (-(2 ^ 64) <j /\ j<2 ^ 64)
def ox.ok {i j:Int}(h:ox i j):IntMulOk i j:=by
 rcases h with⟨h1,h2⟩ | ⟨h1,h2⟩
 show .of_left (intBits_le_64 h1 h2);show .of_right (intBits_le_64 h1 h2)
theorem fP:kB X (binaryOp .Add) (LO λi j=> .int (i+j)):=XE λ_ _ _ _ _ _ _ q=>add_int q
theorem gL:kB X (binaryOp .Mult) (rI ox λi j=> .int (i*j)):=Vs λ_ _ _ _ _ _ _ hc q=>mul_int q hc.ok
theorem vp:kB X (binaryOp .FloorDiv) (rI DG λi j=> .int (i / j)):=Vs λi j _ _ _ _ _ hc q=>by have h1:(0:Int) <j:=hc.1;have h2:j<1073741824:=hc.2;show floordiv_int ∅ (by rw[Int.fdiv_eq_ediv_of_nonneg i ∅];show q) (.inl (PyProof.noPylong_small ∅))
theorem jG:kB X (binaryOp .Mod) (rI (λ_ j=>0<j) λi j=> .int (i % j)):=Vs λi j _ _ _ _ _ hc q=>by have h1:(0:Int) <j:=hc;show mod_int' ∅ (by rw[Int.fmod_eq_emod_of_nonneg i ∅];show q)
theorem N_:kB X (binaryOp .Pow) (rI PY λi j=> .int (i ^ j.toNat)):=Vs λ_ _ _ _ _ _ _ hc q=>pow_int_small hc.1 hc.2.1 hc.2.2 q
def unI {f:cG ->Sem cG}{g:Int ->Int} (rule: ∀ (i:Int) (t:Tok) (s:cL) (Q:cG ->cL ->Prop) (E:cG ->cL ->Prop),Q (.int (g i) s.toks) {s with toks:=s.toks+1} ->wpAny (model X.prog X.w) X.A (f (.int i t)) Q E s): UnR X f (rU λi=> .int (g i)):=by intro ae s σ H x v Q I rx h;let⟨i,rfl,q⟩:=h;let⟨t,rfl⟩:=rx;show rule i t s _ _ #[.int (g i),H,I.tok _,#[_,rfl],q]
theorem jq:UnR X (unaryOp .USub) (rU λi=> .int (-i)):=unI λ_ _ _ _ _ q=>neg_int q
end
def IN:V ->V ->Bool
 | .dJ, .dJ=>true | .dJ, .int _=>true | .int _, .dJ=>true | .dJ, .bl _=>true | .bl _, .dJ=>true | .dJ, .str _=>true | .str _, .dJ=>true
 | .int _, .int _=>true | .bl _, .bl _=>true | .str _, .str _=>true | .BI _, .BI _=>true
 | .int _, .str _=>true | .str _, .int _=>true | .bl _, .str _=>true | .str _, .bl _=>true
 | _,_=>false
def rEq:R2:=λx y H Q=>IN x y=true /\ Q (.bl (decide (x=y))) H
def rNe:R2:=λx y H Q=>IN x y=true /\ Q (.bl (!decide (x=y))) H
def Bu {i j:Int}:decide (V.int i=V.int j)=(i==j):=by rw[Bool.eq_iff_iff];simp
def GX {i j:Bool}:decide (V.bl i=V.bl j)=(i==j):=by rw[Bool.eq_iff_iff];simp
def Bt {i j:Str}:decide (V.str i=V.str j)=(i==j):=by rw[Bool.eq_iff_iff];simp
def Bv {i j:ft UInt8}:decide (V.BI i=V.BI j)=(i.toList==j.toList):=by rw[Bool.eq_iff_iff];cases i;cases j;simp
section
variable {X:Cx}{a b c:Expr}{ta tb tc:TE}{pos:Pos}
def cE {ae:cz (dw×Obj)}{σ:St}{H:Hp}{s:cL}{Q:VK}{k k':Bool}(I:Inv X ae σ H s)(q:Q (.bl k) H)(e:k=k'):EP X ae σ Q (.bool k') s:=by subst e;show#[.bl k,H,I,rfl,q]
def gf:kB X (compareOp .Eq) rEq:=by
 intro ae s σ H x y v u Q I rx ry h;let⟨hs,q⟩:=h;cases x with
 | dJ=>
  cases rx;cases y with
  | dJ=>cases ry;show PySem.EqNone.eq_none_none (cE I q (by simp))
  | bl j=>cases ry;show PySem.EqNone.eq_none_bool (cE I q (by simp))
  | int j=>let⟨t',rfl⟩:=ry;show PySem.EqNone.eq_none_int (cE I q (by simp))
  | str j=>let⟨t',rfl⟩:=ry;show PySem.EqNone.eq_none_str (cE I q (by simp))
  | _=>show absurd (show false=true from hs) aQ
 | bl i=>
  cases rx;cases y with
  | dJ=>cases ry;show PySem.EqNone.eq_bool_none (cE I q (by simp))
  | bl j=>cases ry;show eq_bool (cE I q GX)
  | str j=>let⟨t',rfl⟩:=ry;show PySem.EqMixed.eq_bool_str (cE I q (by simp))
  | _=>show absurd (show false=true from hs) aQ
 | int i=>
  let⟨t,rfl⟩:=rx;cases y with
  | dJ=>cases ry;show PySem.EqNone.eq_int_none (cE I q (by simp))
  | int j=>let⟨t',rfl⟩:=ry;show eq_int (cE I q Bu)
  | str j=>let⟨t',rfl⟩:=ry;show PySem.EqMixed.eq_int_str (cE I q (by simp))
  | _=>show absurd (show false=true from hs) aQ
 | str i=>
  let⟨t,rfl⟩:=rx;cases y with
  | dJ=>cases ry;show PySem.EqNone.eq_str_none (cE I q (by simp))
  | bl j=>cases ry;show PySem.EqMixed.eq_str_bool (cE I q (by simp))
  | int j=>let⟨t',rfl⟩:=ry;show PySem.EqMixed.eq_str_int (cE I q (by simp))
  | str j=>let⟨t',rfl⟩:=ry;show eq_str (cE I q Bt)
  | _=>show absurd (show false=true from hs) aQ
 | BI i=>
  let⟨t,rfl⟩:=rx;cases y with
  | BI j=>let⟨t',rfl⟩:=ry;show W.eq_bytes (cE I q Bv)
  | _=>show absurd (show false=true from hs) aQ
 | _=>cases y<;>show absurd (show false=true from hs) aQ
def Fo:kB X (compareOp .NotEq) rNe:=by
 intro ae s σ H x y v u Q I rx ry h;let⟨hs,q⟩:=h;cases x with
 | dJ=>
  cases rx;cases y with
  | dJ=>cases ry;show PySem.EqNone.ne_none_none (cE I q (by simp))
  | bl j=>cases ry;show PySem.EqNone.ne_none_bool (cE I q (by simp))
  | int j=>let⟨t',rfl⟩:=ry;show PySem.EqNone.ne_none_int (cE I q (by simp))
  | str j=>let⟨t',rfl⟩:=ry;show PySem.EqNone.ne_none_str (cE I q (by simp))
  | _=>show absurd (show false=true from hs) aQ
 | bl i=>
  cases rx;cases y with
  | dJ=>cases ry;show PySem.EqNone.ne_bool_none (cE I q (by simp))
  | bl j=>cases ry;show ne_bool (cE I q (congrArg not GX))
  | str j=>let⟨t',rfl⟩:=ry;show PySem.EqMixed.ne_bool_str (cE I q (by simp))
  | _=>show absurd (show false=true from hs) aQ
 | int i=>
  let⟨t,rfl⟩:=rx;cases y with
  | dJ=>cases ry;show PySem.EqNone.ne_int_none (cE I q (by simp))
  | int j=>let⟨t',rfl⟩:=ry;show ne_int (cE I q (congrArg not Bu))
  | str j=>let⟨t',rfl⟩:=ry;show PySem.EqMixed.ne_int_str (cE I q (by simp))
  | _=>show absurd (show false=true from hs) aQ
 | str i=>
  let⟨t,rfl⟩:=rx;cases y with
  | dJ=>cases ry;show PySem.EqNone.ne_str_none (cE I q (by simp))
  | bl j=>cases ry;show PySem.EqMixed.ne_str_bool (cE I q (by simp))
  | int j=>let⟨t',rfl⟩:=ry;show PySem.EqMixed.ne_str_int (cE I q (by simp))
  | str j=>let⟨t',rfl⟩:=ry;show ne_str (cE I q (congrArg not Bt))
  | _=>show absurd (show false=true from hs) aQ
 | BI i=>
  let⟨t,rfl⟩:=rx;cases y with
  | BI j=>let⟨t',rfl⟩:=ry;show W.ne_bytes (cE I q (congrArg not Bv))
  | _=>show absurd (show false=true from hs) aQ
 | _=>cases y<;>show absurd (show false=true from hs) aQ
theorem xk:kB X (compareOp .Lt) (LO λi j=> .bl (decide (i<j))):=Jv λ_ _ _ _ _ _ _ q=>lt_int q
theorem AN:kB X (compareOp .LtE) (LO λi j=> .bl (decide (i<=j))):=Jv λ_ _ _ _ _ _ _ q=>le_int q
theorem LS:kB X (compareOp .Gt) (LO λi j=> .bl (decide (j<i))):=Jv λ_ _ _ _ _ _ _ q=>gt_int q
theorem LU:kB X (compareOp .GtE) (LO λi j=> .bl (decide (j<=i))):=Jv λ_ _ _ _ _ _ _ q=>ge_int q
def cj (b:Expr){op:CmpOp}(h:op≠ .In:=by decide)(h2:op≠ .NotIn:=by decide):behindInMarks op b=false:=by
 have e1:(op==CmpOp.In)=false:=by cases op<;>first | rfl | show absurd rfl h
 have e2:(op==CmpOp.NotIn)=false:=by cases op<;>first | rfl | show absurd rfl h2
 cases b<;>simp[behindInMarks,e1,e2]
def fq {op:CmpOp}{r:R2}(ho:kB X (compareOp op) r)(ha:PE X a ta)(hb:PE X b tb)(hm:behindInMarks op b=false):PE X (.Compare a [op] [b] pos) (Rw r ta tb):=by intro ae s σ H Q I h;show wpAny_Compare1 (PB ha hb I h λv u s2 x y H2 I2 rx ry q=>ho ae s2 σ H2 x y v u Q I2 rx ry q) hm
def El (t:TE):TT:=λσ H Q=>t σ H λx H'=> ∃k,x= .bl k /\ Q k H'
def bO {op:CmpOp}{r:R2}(ho:kB X (compareOp op) r)(ha:PE X a ta)(hb:PE X b tb)(hm:behindInMarks op b=false):PT X (.Compare a [op] [b] pos) (El (Rw r ta tb)):=by intro ae s σ H Q I h;exact wpAny_isTrue_Compare1 (ci (ha ae s σ H _ I h) λv s1 ⟨x,H1,I1,r1,q1⟩=>ci (hb ae s1 σ H1 _ I1 q1) λu s2 ⟨y,H2,I2,r2,q2⟩=>ci (ho ae s2 σ H2 x y v u _ I2 r1 r2 q2) λc s3 ⟨z,H3,I3,r3,k,e,q3⟩=> ?_) hm;subst e;cases r3;show c4 #[H3,I3,q3]
def Et (r r':R2)(ta tb tc:TE):TE:=λσ H Q=>ta σ H λx H1=>tb σ H1 λy H2=>r x y H2 λz H3=> ∃k,z= .bl k /\(if k=true then tc σ H3 λw' H4=>r' y w' H4 Q else Q (.bl false) H3)
def EW {op XF:CmpOp}{r r':R2}(ho:kB X (compareOp op) r)(Ka:kB X (compareOp XF) r')(ha:PE X a ta)(hb:PE X b tb)(hc:PE X c tc) (hm:lastMarks [op,XF] [b,c]=false:=by with_unfolding_all rfl):PT X (.Compare a [op,XF] [b,c] pos) (El (Et r r' ta tb tc)):=by
 intro ae s σ H Q I h;exact isTrue_chain (ci (ha ae s σ H _ I h) λv s1 ⟨x,H1,I1,r1,q1⟩=>test_link (ci (hb ae s1 σ H1 _ I1 q1) λu s2 ⟨y,H2,I2,r2,q2⟩=>ci (ho ae s2 σ H2 x y v u _ I2 r1 r2 q2) λd s3 ⟨z,H3,I3,r3,k,e,q3⟩=> ?_)) hm;subst e;cases r3;exact c4 ?_;cases k with
 | false=>let⟨k',e',q'⟩:=q3;cases e';show ite_ff #[H3,I3,q']
 | true=>exact ite_tt (test_last (ci (hc ae s3 σ H3 _ I3 q3) λw' s4 ⟨z',H4,I4,r4,q4⟩=>ci (Ka ae s4 σ H4 y z' u w' _ I4 r2 r4 q4) λd' s5 ⟨z2,H5,I5,r5,k2,e2,q5⟩=> ?_));subst e2;cases r5;show c4 #[H5,I5,q5]
def KL (K:gg)(x:V)(H:Hp)(k:Bool):Prop:=
 match x with
 | .dJ=>k=false
 | .bl b=>k=b
 | .int i=>k=(i !=0)
 | .str y=>y.length<=sizeLine /\ k=((y.length:Int) !=0)
 | .BI y=>y.size<=sizeLine /\ k=((y.size:Int) !=0)
 | .ref p=>(∃xs,fh K H p xs /\ k= !xs.isEmpty) \/ (∃xs,gH K H p xs /\ k= !xs.isEmpty) \/ ∃kvs,H p=some (.dK kvs) /\ k= !kvs.isEmpty
 | _=>False
def zD {κ:Type}{kvs:cz (κ×V)}{vs:cz (κ×cG)}(r:KV kvs vs):(!vs.isEmpty)= !kvs.isEmpty:=by cases r<;>rfl
def qV {xs:cz V}{its:cz cG}(r:bK xs its):(!its.toArray.isEmpty)= !xs.isEmpty:=by cases r<;>simp
def ln:(sizeLine:Nat) <2 ^ 63:=by rw[bY];decide
def Nk:ad6 X (λx H Q=> ∃k,KL X.K x H k /\ Q k H):=by
 intro ae s σ H x v Q I rx h;let⟨k,e,q⟩:=h;have hl:=ln;have hs:sizeLine=16777216:=bY;cases x with
 | dJ=>cases rx;have e':k=false:=e;subst e';show truthy_none #[H,I,q]
 | bl b=>cases rx;have e':k=b:=e;subst e';show c4 #[H,I,q]
 | int i=>let⟨t,rfl⟩:=rx;have e':k=(i !=0):=e;subst e';show PySem.P.truthy_int #[H,I,q]
 | str y=>let⟨t,rfl⟩:=rx;let⟨hy,e'⟩:y.length<=sizeLine /\ k=((y.length:Int) !=0):=e;subst e';show PySem.P.truthy_str ∅ #[H,I.tok _,q]
 | BI y=>let⟨t,rfl⟩:=rx;let⟨hy,e'⟩:y.size<=sizeLine /\ k=((y.size:Int) !=0):=e;subst e';show W.truthy_bytes ∅ #[H,I.tok _,q]
 | ref p=>
  cases rx;have e':(∃xs,fh X.K H p xs /\ k= !xs.isEmpty) \/ (∃xs,gH X.K H p xs /\ k= !xs.isEmpty) \/ ∃kvs,H p=some (.dK kvs) /\ k= !kvs.isEmpty:=e;rcases e' with⟨xs,hx,e'⟩ | ⟨xs,hx,e'⟩ | ⟨kvs,hx,e'⟩
  subst e';let⟨its,r,pl,hz⟩:=I.list hx;have dD:=r.length;show wpAny_truthy_list pl.isList (by simp![aF];lia) #[H,I.tok _,by rw[qV r];show q];subst e';let⟨its,r,pl,hz⟩:=I.tuple hx;have dD:=r.length;show truthy_tuple pl (by simp![aF];lia) #[H,I.tok _,by rw[qV r];show q];subst e';let⟨hz,hS,vs,r,m⟩:kvs.length<=sizeLine /\ (p==sysModules)=false /\ ∃vs,KV kvs vs /\ s.heap.DictOf (bQ X.prog X.w) p vs:=I.b0 p _ hx;have dD:kvs.length=vs.length:=Paired.length r;show wpAny_truthy_dict hS m ∅ #[H,I.tok _,by rw[zD r];show q]
 | _=>show(show False from e).elim
def EV (ha:PE X a ta)(he: ∀kC,isTrue a X.env kC=(do let v <- kC;standAt a.pos;holding [v] (truthy v))): PT X a (λσ H Q=>ta σ H λx H'=> ∃k,KL X.K x H' k /\ Q k H'):=by intro ae s σ H Q I h;show isTrue_plain (ci (ha ae s σ H _ I h) λv s1 ⟨x,H1,I1,r1,q1⟩=>Nk ae s1 σ H1 x v Q I1 r1 q1) (he _)
def zg:kB X (binaryOp .Add) (λx y H Q=>bX λi j=>eZ (x= .str i) (y= .str j) (i.length+j.length<=sizeLine) (Q (.str (i++j)) H)):=by intro ae s σ H x y v u Q I rx ry h;let⟨i,j,rfl,rfl,hz,q⟩:=h;let⟨t,rfl⟩:=rx;let⟨t',rfl⟩:=ry;show add_str (λt' tk=>#[.str (i++j),H,I.tok _,#[_,rfl],q]) hz
def vals1 {x:V}{us:cz cG}(r:bK [x] us): ∃u,us= [u] /\ RelV x u:=by
 cases r with
 | cons r1 r2=>cases r2;show#[_,rfl,r1]
def vals2 {x y:V}{us:cz cG}(r:bK [x,y] us):bX λu w'=>cg (us= [u,w']) (RelV x u) (RelV y w'):=by
 cases r with
 | cons r1 r2=>
  cases r2 with
  | cons r3 r4=>cases r4;show#[_,_,rfl,r1,r3]
def G':dU X (.builtin "abs") (λxs H Q=> ∃i,xs= [.int i] /\ Q (.int (if i<0 then -i else i)) H):=by intro ae s σ H xs us Q I r h;let⟨i,rfl,q⟩:=h;let⟨u,rfl,t,rfl⟩:=vals1 r;show call_abs_int λu tk=>#[.int (if i<0 then -i else i),H,I.tok _,#[_,rfl],q]
end
structure zU (h:Heap)(x dx C:Addr)(mA:Str ->Option Value):Prop where
 obj:h.get? x=some (PySem.W.instObj C dx)
 ns:h.Ns1 dx mA
 ne:dx≠x
def CB {h:gC}{dx:dw}{mA:Str ->cT cG}(n:h.Ns1 dx mA): ∃od,h.get? dx=some od /\ ∀name,W.lookIn name od=some (mA name):=by
 let⟨o,es,ep,ho,hd,hk,_,hm⟩:=n;exact#[o,ho,λname=> ?_];have e:=hm name;unfold nsFind findBy at e;rw[<- Array.find?_toList] at e;unfold W.lookIn;rw[hd];dsimp only;split;rename_i y q;rw[q] at e;show congrArg some e;rename_i q;rw[q] at e;have a:es.toList.any (·.refKey)=false:=by rw[List.any_eq_false];intro y hy;let⟨z,t,O5⟩:=hk y (Array.mem_toList_iff.mp hy);simp[DictEntry.refKey,O5]
 have a':¬es.toList.any (·.refKey)=true:=by rw[a];show aQ
 rw[ah a'];show congrArg some e
theorem zU.look {h:gC}{x dx C:dw}{mA:Str ->cT cG}(I:zU h x dx C mA): ∃od,W.InstAt h x (W.instObj C dx) C (some od) /\ ∀name,W.lookIn name od=some (mA name):=
 let ⟨od,ho,hl⟩:=CB I.ns
 #[od,#[I.obj,rfl,rfl,ho],hl]
section
variable {prog:gA}{w:gB}{A:hV}{E:cG ->cL ->Prop}{s:cL}{K:gg}{x dx C f:dw}{mA:Str ->cT cG}{name:Str}{v:cG}
def Ki {GJ:Bool}{Q:cG ->cL ->Prop}(X:K.In s.heap)(I:zU s.heap x dx C mA)(hg:W.plainGet K C name=true)(hh:W.hasDictIn K C=true) (ha:W.findIn K (.ref C) name=some none) (hv:mA name=some v) (Gc:W.handedIn v=true) (h:Q v {s with toks:=s.toks+1}): wpAny (model prog w) A (getAttr (.ref x) name GJ) Q E s:=by let⟨od,J,hl⟩:=I.look;show W.get_value X J (W.plainGet_of hg).1 (W.findObj_own hh ha rfl (by rw[hl,hv])) Gc h
def Gu {pl:Sem Bool}{Q:cG×cz cG ->cL ->Prop}(X:K.In s.heap)(I:zU s.heap x dx C mA)(hg:W.plainGet K C name=true) (hf:W.findIn K (.ref C) name=some (some (.ref f))) (ht:W.isFn K (.ref f)=true) (hv:mA name=none) (h:Q (.ref f,[.ref x]) s): wpAny (model prog w) A (getMethod (.ref x) name pl) Q E s:=by let⟨od,J,hl⟩:=I.look;show W.method_fn X J (W.plainGet_of hg).1 (W.plainGet_of hg).2 hf (beq_iff_eq.mp ht) (by change(W.lookIn name od).map (·.isSome)=some false;rw[hl,hv];rfl) h
def IK {ns:cz Str}{Q:Unit ->cL ->Prop}(X:K.In s.heap)(I:zU s.heap x dx C mA) (hs:W.findIn K (.ref C) "__setattr__" =some (some (.builtin "object.__setattr__"))) (hp:W.plainOver K C=true) (ht:W.takerIn K C name=some none) (hh:W.hasDictIn K C=true) (hw:PySem.Within mA ns) (hsz:ns.length<=sizeLine) (h: ∀h',zU h' x dx C (λy=>if y=name then some v else mA y) ->Heap.SameBut dx s.heap h' ->Q () {s with heap:=h',toks:=s.toks+2}): wpAny (model prog w) A (setAttr (.ref x) name v) Q E s:=by let⟨od,J,hl⟩:=I.look;exact W.set_plain X J hs (W.osa_open (s:= {s with toks:=s.toks+1}) (r:=none) X J hp ht λb=> ?_);let⟨cd,hc,DL⟩:=W.any_some hh;have hx:s.heap.get? x=some #[.ref C,some dx, .plain, #[]]:=I.obj;exact af (aC (af (af (wpAny_loadPart hx (af (W.Looks.here (s:= {s with toks:=s.toks+1}) (W.looks_clsIn X hc) ?_))))));rw[DL];exact aC (a:=some dx) (af (aC (af ?_)));exact wpAny_nsSet1 (s:= {s with toks:=s.toks+1}) I.ns λh' OY n_=> ?_;let⟨oD,esD,epD,hoD,hdD,Kf⟩:=OY.count (PySem.Within.cons name v hw);exact af (wpAny_lookBehind hoD (by rw[hdD];show pastItsLine_dict (aH Kf (by rw[aI];lia))) ?_);show aC (h _ #[(n_.2 _ (bD I.ne)).trans I.obj,OY,I.ne] n_)
def FE {R:Result ->cL ->Prop}{vs:cz cG}{kw:cz (Str×cG)}(X:K.In s.heap)(hm:W.makesIn K C=true) (hi:W.findIn K (.ref C) "__init__" =some (some (.ref f))) (hf:W.typeIn K (.ref f)=some (.type "function")) (h:codeAny (model prog w) (A.under (.builtin "type.__call__" #[.ref C::vs,kw])) (.call (.ref f) #[.ref (s.heap.objs.size+1)::vs,kw]) (W.InitBack (s.heap.objs.size+1) R) {s with heap:=(s.heap.push W.emptyDict).push (W.instObj C s.heap.objs.size)}): codeAny (model prog w) A (.call (.ref C) #[vs,kw]) R s:=by let⟨hh,g,d,t,os⟩:=s;show W.make_core (W.makes_of X hm) (W.looks_findIn X hi) (λself=>W.bind_fn X self hf) (.inl rfl) h
end
def gZ (f:Str)(v:V):cz (Str×V) ->cz (Str×V)
 | []=> [(f,v)]
 | (g,x)::r=>if g=f then(g,v)::r else(g,x)::gZ f v r
theorem oQ (f g:Str)(v:V): ∀fs:cz (Str×V),(gZ f v fs).lookup g=if g=f then some v else fs.lookup g
 | []=>by change List.lookup g [(f,v)]=_;by_cases h:g=f;have hb:(g==f)=true:=beq_iff_eq.mpr h;simp![List.lookup,hb,aj h];have hb:(g==f)=false:=beq_eq_false_iff_ne.mpr h;simp![List.lookup,hb,ah h]
 | (k, x)::r=>by have ih:=oQ f g v r;rw[show gZ f v ((k,x)::r)=(if k=f then(k,v)::r else(k,x)::gZ f v r) from rfl];by_cases hk:k=f;rw[aj hk];by_cases h:g=k;have hb:(g==k)=true:=beq_iff_eq.mpr h;simp![List.lookup,hb,aj (h.trans hk)];have hb:(g==k)=false:=beq_eq_false_iff_ne.mpr h;simp![List.lookup,hb,ah (λe:g=f=>h (e.trans hk.symm))];rw[ah hk];by_cases h:g=k;have hb:(g==k)=true:=beq_iff_eq.mpr h;simp![List.lookup,hb,ah (λe:g=f=>hk (h.symm.trans e))];have hb:(g==k)=false:=beq_eq_false_iff_ne.mpr h;simp![List.lookup,hb];show ih
theorem nY (f:Str)(v:V): ∀fs:cz (Str×V),f∈(gZ f v fs).map (·.1) /\ ∀g,g∈fs.map (·.1) ->g∈(gZ f v fs).map (·.1)
 | []=>#[by simp[gZ],λg h=>by simp at h]
 | (k, x)::r=>by let⟨i1,i2⟩:=nY f v r;rw[show gZ f v ((k,x)::r)=(if k=f then(k,v)::r else(k,x)::gZ f v r) from rfl];by_cases hk:k=f;rw[aj hk];subst hk;show#[by simp,λg h=> ⇑h];rw[ah hk];exact#[?_,λg h=> ?_];rw[az];show cc _ i1;rw[az] at h ⊢;obtain e | e:=aL.mp h;show aL.mpr (.inl e);show cc _ (i2 g e)
theorem oR (f:Str)(v:V): ∀fs:cz (Str×V),(gZ f v fs).length<=fs.length+1
 | []=>by simp[gZ]
 | (k,x)::r=>by have ih:=oR f v r;rw[show gZ f v ((k,x)::r)=(if k=f then(k,v)::r else(k,x)::gZ f v r) from rfl];by_cases hk:k=f;rw[aj hk,aI,aI];lia;rw[ah hk,aI,aI];lia
def jj.some_of {v:V}{o:cT cG}(r:jj (some v) o): ∃u,o=some u /\ RelV v u:=by
 cases o with
 | none=>show(show False from r).elim
 | some u=>show#[u,rfl,r]
def jj.none_of {o:cT cG}(r:jj none o):o=none:=by
 cases o with
 | none=>rfl
 | some u=>show(show False from r).elim
def CP {v:V}{u:cG}(r:RelV v u):W.handedIn u=true:=by
 cases v with
 | dJ=>cases (show u=Value.none from r);rfl
 | bl b=>cases (show u=Value.bool b from r);rfl
 | int i=>let⟨t,e⟩:=(show ∃t,u=Value.int i t from r);cases e;rfl
 | str x=>let⟨t,e⟩:=(show ∃t,u=Value.str x t from r);cases e;rfl
 | BI b=>let⟨t,e⟩:=(show ∃t,u=Value.bytes b t from r);cases e;rfl
 | TN b=>let⟨t,e⟩:=(show ∃t,u=Value.float b t from r);cases e;rfl
 | ref a=>cases (show u=Value.ref a from r);rfl
 | ty n=>cases (show u=Value.type n from r);rfl
section
variable {P:gA}{w:gB}{H H':Hp}{h h':gC}{a C dx:dw}{fs fs':cz (Str×V)}
def vF (b0:jk P w H h)(e:H a=some (.ins C dx fs)): ∃mA,d9 (zU h a dx C mA) (∀f,jj (fs.lookup f) (mA f)) (PySem.Within mA (fs.map (·.1))) (fs.length<=1000) (H dx=some (.own a)):=by
 let⟨d,z,ne,ob,mA,n,r,q⟩:=(show dF P w H h a (.ins C dx fs) from b0 a _ e)
 show#[mA,#[ob,n,ne],r,q,z,d]
end
structure yJ (K:PySem.W.Frag)(C:Addr):Prop where
 pg:PySem.W.plainGet K C Str.empty=true
 hd:PySem.W.hasDictIn K C=true
 po:PySem.W.plainOver K C=true
 sa:PySem.W.findIn K (.ref C) "__setattr__" =some (some (.builtin "object.__setattr__"))
theorem yJ.get {K:gg}{C:dw}(c:yJ K C)(f:Str):W.plainGet K C f=true:=c.pg
def b8 (K:gg)(C:dw)(f:Str):Prop:=W.findIn K (.ref C) f=some none
def b8.Rr {K:gg}{C:dw}{f:Str}(n:b8 K C f):W.takerIn K C f=some none:=by unfold W.takerIn;rw[show W.findIn K (.ref C) f=some none from n];rfl
structure Hn (K:PySem.W.Frag)(C:Addr)(m:Str)(f:Addr):Prop where
 at_:PySem.W.findIn K (.ref C) m=some (some (.ref f))
 fn:PySem.W.isFn K (.ref f)=true
 kp:PySem.W.keepIn K (.ref f)=true
section
variable {X:Cx}{ae:cz (dw×Obj)}{σ:St}{H:Hp}{s:cL}{a C dx:dw}{fs:cz (Str×V)}{f:Str}{v:V}{A:hV}{E:cG ->cL ->Prop}
def zI {b:Bool}{Q:cG ->cL ->Prop}(I:Inv X ae σ H s)(e:H a=some (.ins C dx fs))(c:yJ X.K C)(n:b8 X.K C f)(l:fs.lookup f=some v) (h: ∀u s',Inv X ae σ H s' ->RelV v u ->Q u s'):wpAny (model X.prog X.w) A (getAttr (.ref a) f b) Q E s:=by let⟨mA,O,r,_,_,_⟩:=vF I.b0 e;let⟨u,hu,ru⟩:=jj.some_of (v:=v) (o:=mA f) (by rw[<- l];show r f);show Ki I.qU O (c.get f) c.hd n hu (CP ru) (h u _ (I.tok _) ru)
def iM {m:Str}{g:dw}{pl:Sem Bool}{Q:cG×cz cG ->cL ->Prop}(I:Inv X ae σ H s)(e:H a=some (.ins C dx fs))(c:yJ X.K C)(k:Hn X.K C m g)(l:fs.lookup m=none) (h:Q (.ref g,[.ref a]) s):wpAny (model X.prog X.w) A (getMethod (.ref a) m pl) Q E s:=by let⟨mA,O,r,_,_,_⟩:=vF I.b0 e;have hn:mA m=none:=jj.none_of (by rw[<- l];show r m);show Gu I.qU O (c.get m) k.at_ k.fn hn h
def yZ {y:V}{u:cG}{Q:Unit ->cL ->Prop}(I:Inv X ae σ H s)(e:H a=some (.ins C dx fs))(c:yJ X.K C)(n:b8 X.K C f)(hl:fs.length<1000)(ry:RelV y u) (h: ∀s',Inv X ae σ (bU H a (.ins C dx (gZ f y fs))) s' ->Q () s'):wpAny (model X.prog X.w) A (setAttr (.ref a) f u) Q E s:=by
 let⟨mA,O,r,wi,_,ho⟩:=vF I.b0 e;have hz:(fs.map (·.1)).length<=sizeLine:=by rw[ao,bY];lia
 exact IK I.qU O c.sa c.po n.Rr c.hd wi hz λh' O' sb=>h _ ?_;have hd: ∃o,h'.get? dx=some o:=let ⟨o,_,_,e',_⟩:=O'.ns;#[o,e']
 exact I.write (x:=a) (e:=dx) (by rw[e];show True.intro) (.inr ho) (λb q hb z=>(sb.2 b hb).trans z) hd ?_;exact#[by rw[bq O.ne];show ho,?_,O.ne,O'.obj,_,O'.ns,λg=> ?_,λg hg=> ?_];have:=oR f y fs;lia;change jj ((gZ f y fs).lookup g) (if g=f then some u else mA g);rw[oQ];by_cases q:g=f;rw[aj q,aj q];show ry;rw[ah q,ah q];show r g;by_cases q:g=f;rw[q];show(nY f y fs).1;exact(nY f y fs).2 g (wi g λz=>hg ?_);change(if g=f then some u else mA g)=none;rw[ah q];show z
def Inv.made (I:Inv X ae σ H s):Inv X ae σ (bU (bU H s.heap.objs.size (.own (s.heap.objs.size+1))) (s.heap.objs.size+1) (.ins C s.heap.objs.size [])) {s with heap:=(s.heap.push W.emptyDict).push (W.instObj C s.heap.objs.size)}:=by
 have e1:(s.heap.push W.emptyDict).get? s.heap.objs.size=some W.emptyDict:=aJ s.heap rfl;have e2:((s.heap.push W.emptyDict).push (W.instObj C s.heap.objs.size)).get? (s.heap.objs.size+1)=some (W.instObj C s.heap.objs.size):=by have:=aJ (s.heap.push W.emptyDict) (o:=W.instObj C s.heap.objs.size) rfl;rwa [Heap.size_push] at this
 have e3:(s.heap.push W.emptyDict).Ns s.heap.objs.size (λ_=>none):=#[W.emptyDict, #[],_,e1,rfl,(λe he=>absurd he (by simp)),λ_=>rfl]
 have I1:=I.laid (a:=s.heap.objs.size) (o:= .own (s.heap.objs.size+1)) (h':=s.heap.push W.emptyDict) (t':=s.toks) (λb u q=>ai _ q) (ak _) #[_,e1];exact I1.laid (a:=s.heap.objs.size+1) (o:= .ins C s.heap.objs.size []) (t':=s.toks) (λb u q=>ai _ q) (Nat.le_of_eq (Heap.size_push _ _)) ?_;have ne:s.heap.objs.size≠s.heap.objs.size+1:=aN (Nat.lt_succ_self _);exact#[by rw[bq ne,bC],cN _,ne,e2,λ_=>none,(Heap.Ns1.of_empty e3).at λo q=>ai _ q,λ_=>True.intro,λy hy=>absurd rfl hy]
theorem KH {prog:gA}{w:gB}{env:Env}{e:Expr}{f:Str}{pos:Pos}{s:cL}{Q:cG ->cL ->Prop}(hb:attributeBase e f env (eval e env)=eval e env) (h:wpAny (model prog w) A (eval e env) (λo s₁=>wpAny (model prog w) A (getAttr o f true) Q E s₁) E s):wpAny (model prog w) A (eval (.Attribute e f pos) env) Q E s:=Attribute_any_ h (by rw[arm_eval_Attribute,hb])
end
def Nq (K:gg)(ta:TE)(f:Str):TE:=λσ H Q=>ta σ H λx H1=>rN λa C dx fs v=>oq (x= .ref a) (H1 a=some (.ins C dx fs)) (yJ K C) (b8 K C f) (fs.lookup f=some v) (Q v H1)
def RU (K:gg)(ta tv:TE)(f:Str):TS:=λD σ H=>tv σ H λy H1=>ta σ H1 λx H2=>gs λa C dx fs=>oq (x= .ref a) (H2 a=some (.ins C dx fs)) (yJ K C) (b8 K C f) (fs.length<1000) (D.nx σ (bU H2 a (.ins C dx (gZ f y fs))))
section
variable {X:Cx}{o e value:Expr}{f:Str}{pos fV Ee:Pos}{ta tv:TE}
def a6 (he:PE X e ta)(hb:attributeBase e f X.env (eval e X.env)=eval e X.env):PE X (.Attribute e f pos) (Nq X.K ta f):=by intro ae s σ H Q I h;exact KH hb (ci (he ae s σ H _ I h) λu s1 ⟨x,H1,I1,rx,a,C,dx,fs,v,ex,ea,c,n,l,q⟩=> ?_);subst ex;obtain rfl:u=Value.ref a:=rx;show zI I1 ea c n l λu' s2 I2 ru=>#[v,H1,I2,ru,q]
def dG (ha:PE X o ta)(hv:PE X value tv)(hs:swapsWith value (some (.Attribute o f fV)) pos.line X.env=pure false):PS X (.Assign [.Attribute o f fV] value pos) (RU X.K ta tv f):=by intro ae s σ H D I h;exact plainObj_wpAny_Assign_Attribute (ci (hv ae s σ H _ I h) λu s1 ⟨y,H1,I1,ry,q⟩=>ci (ha ae s1 σ H1 _ I1 q) λov s2 ⟨x,H2,I2,rx,a,C,dx,fs,ex,ea,c,n,l,q2⟩=> ?_) hs;subst ex;obtain rfl:ov=Value.ref a:=rx;show yZ I2 ea c n l ry λs3 I3=>#[σ,_,I3,q2]
theorem LY {pl:Sem Bool}{m:Str}{dh:Pos}{args:cz Expr}{ae:cz (dw×Obj)}{s:cL}{σ:St}{H:Hp}{Q:cG ->cL ->Prop}{te:TE}(he:PE X e te)(I:Inv X ae σ H s) (h:te σ H λx H1=>rN λa C dx fs g=>oq (x= .ref a) (H1 a=some (.ins C dx fs)) (yJ X.K C) (Hn X.K C m g) (fs.lookup m=none) (∀s1,Inv X ae σ H1 s1 ->wpAny (model X.prog X.w) X.A (callWith pos (.ref g) [.ref a] (backTo pos (starEach args X.env)) (backToKw pos (keywordEach [] X.env))) Q X.xe s1)) (ht:eval (.Call (.Attribute e m dh) args [] pos) X.env=(do
   let ov <- eval e X.env
   standAt dh.atName
   let (f,first) <- holding [ov] (getMethod ov m pl)
   callWith pos f first (backTo pos (starEach args X.env)) (backToKw pos (keywordEach [] X.env)))):
  wpAny (model X.prog X.w) X.A (eval (.Call (.Attribute e m dh) args [] pos) X.env) Q X.xe s:=by
 exact W.methodCall_KW (pl:=pl) (ci (he ae s σ H _ I h) λu s1 ⟨x,H1,I1,rx,a,C,dx,fs,g,ex,ea,c,k,l,q⟩=> ?_) ht
 subst ex
 obtain rfl:u=Value.ref a:=rx
 show iM I1 ea c k l (q s1 I1)
end
structure dz (k:Nat)(A:Around):Prop where
 hd:A.handled=none
 dp:A.depth+3*k+5<recursionLimit
 un:A.units+16*k+200<cLine
theorem dz.mono {j k:Nat}{A:hV}(r:dz k A)(h:j<=k):dz j A:=#[r.hd,by have:=r.dp;lia,by have:=r.un;lia]
theorem dz.deeper {k:Nat}{A:hV}(r:dz (k+1) A)(env:Env):dz k (A.deeper env):=#[r.hd,by have:=r.dp;change A.depth+1+3*k+5<_;lia,by have:=r.un;change A.units+3+16*k+200<_;lia]
def zt {A:hV}{C:dw}{us:cz cG}{kw:cz (Str×cG)}:(A.under (.builtin "type.__call__" #[.ref C::us,kw])).depth=A.depth+1:=by first | rfl | simp[Around.under,Code.weight,Code.isCreation,Code.isGuard,Code.isCaller,Code.frames,Code.isFrame,guardIds]
def zr {A:hV}{C:dw}{us:cz cG}{kw:cz (Str×cG)}:(A.under (.builtin "type.__call__" #[.ref C::us,kw])).units=A.units+1:=by first | rfl | simp[Around.under,Code.cUnits,Code.frames,Code.isFrame]
theorem dz.make {k:Nat}{A:hV}(r:dz (k+1) A)(C:dw)(us:cz cG)(kw:cz (Str×cG)):dz k (A.under (.builtin "type.__call__" #[.ref C::us,kw])):=#[r.hd,by have:=r.dp;rw[zt];lia,by have:=r.un;rw[zr];lia]
def dz.depth {k:Nat}{A:hV}(r:dz k A):A.depth<recursionLimit:=by have:=r.dp;lia
def dz.units {k:Nat}{A:hV}(r:dz k A):A.units+64<cLine:=by have:=r.un;lia
def yV:TA:=λ_ H Q=>Q [] H
def Er (ta:TE)(tr:TA):TA:=λσ H Q=>ta σ H λx H1=>tr σ H1 λxs H2=>Q (x::xs) H2
section
variable {X:Cx}{e:Expr}{es:cz Expr}{te:TE}{t:TA}{pos:Pos}
theorem ag:PA X [] yV:=λ_ _ _ _ H Q I h=>Calls.spliced_nil #[[],H,I, .nil,h]
def aa (ha:PE X e te)(hr:PA X es t)(hs:starEach (e::es) X.env=(false,eval e X.env)::starEach es X.env:=by rfl):PA X (e::es) (Er te t):=by intro pos ae s σ H Q I h;rw[hs];change wpAny _ _ (spliced ((false,eval e X.env)::backTo pos (starEach es X.env))) _ _ s;exact Calls.spliced_cons (ci (ha ae s σ H _ I h) λu s1 ⟨x,H1,I1,r1,q1⟩=> ?_);show ci (hr pos ae s1 σ H1 _ I1 q1) λus s2 ⟨xs,H2,I2,r2,q2⟩=>#[x::xs,H2,I2, .cons r1 r2,q2]
def Rt (t:TA):TE:=λσ H Q=>t σ H λxs H1=>xs.length<=sizeLine /\ ∀p,H1 p=none ->Q (.ref p) (bU H1 p (.tup xs))
def Ry (t:TA):TE:=λσ H Q=>t σ H λxs H1=>xs.length<=sizeLine /\ ∀p,H1 p=none ->Q (.ref p) (bU H1 p (.lst xs))
def cx {x1}(h:PA X es t):PE X (.Tuple es x1 pos) (Rt t):=by intro ae s σ H Q I hq;exact wpAny_Tuple_spliced (ci (h pos ae s σ H _ I hq) λus s1 ⟨xs,H1,I1,r,z,q⟩=>#[by rw[<- r.length];show z,?_]);have hf:H1 s1.heap.objs.size=none:=I1.b0.fresh (ak _);exact#[.ref s1.heap.objs.size,bU H1 s1.heap.objs.size (.tup xs),I1.laid (t':=s1.toks) (λb u e=>ai _ e) (ak _) ?_,rfl,q _ hf];show#[z,us,r,#[_,aJ _ rfl,rfl,_,rfl,rfl]]
def eR (h:PA X es t):PE X (.List es pos) (Ry t):=by intro ae s σ H Q I hq;exact wpAny_List_spliced (ci (h pos ae s σ H _ I hq) λus s1 ⟨xs,H1,I1,r,z,q⟩=>#[by rw[<- r.length];show z,?_]);have hf:H1 s1.heap.objs.size=none:=I1.b0.fresh (ak _);exact#[.ref s1.heap.objs.size,bU H1 s1.heap.objs.size (.lst xs),I1.laid (t':=s1.toks) (λb u e=>ai _ e) (ak _) ?_,rfl,q _ hf];show#[z,us,0,r,aJ _ rfl]
end
abbrev Sp:=cz V ->Hp ->VK ->XK ->Prop
abbrev yK:=cz Env ->Hp ->cL ->XK ->cG ->cL ->Prop
structure z6 (P:Program)(w:World)(K:PySem.W.Frag)(mg:Str ->Option Value)(base:Heap)(A:Around)(outer:List Env)(s:Shared)(H:Hp):Prop where
 frames:A.frames=some outer
 mod:Mod K mg base
 bs: ∀b o,base.get? b=some o ->s.heap.get? b=some o /\ H b=none
 Hb:base.objs.size<=s.heap.objs.size
 lr:s.heap.FunFrames base outer
 HW: ∀b∈jo outer,H b=none
 b0:jk P w H s.heap
 bare:AllBare s.gens
def CE (outer:cz Env)(P:gA)(w:gB)(H:Hp)(s:cL)(Q:VK)(u:cG)(s':cL):Prop:=bX λv H'=>oq (s'.os=s.os) (AllBare s'.gens) (Un (jo outer) [] H H' s.heap s'.heap) (jk P w H' s'.heap) (RelV v u) (Q v H')
def CR (CX:yK)(outer:cz Env)(P:gA)(w:gB)(H:Hp)(s:cL)(Q:VK)(E:XK)(r:Result)(s':cL):Prop:=
 match r with
 | .ok (.ret u)=>CE outer P w H s Q u s'
 | .ok _=>False
 | .error e=>CX outer H s E e s'
structure bv (P:Program)(w:World)(K:PySem.W.Frag)(mg:Str ->Option Value)(base:Heap)(CX:yK)(k:Nat)(f:Addr)(fd:FuncData)(ps:List Str)(sp:Sp):Prop where
 len: ∀vs H Q E,sp vs H Q E ->vs.length=ps.length
 run: ∀ (A:Around) (outer:List Env) (s:Shared) (H:Hp) (args:Args) (us:List Value) (vs:List V) (Q:VK) (E:XK),dz k A ->z6 P w K mg base A outer s H ->BindsTo s fd args (ps.zip us) ->bK vs us ->sp vs H Q E ->codeAny (model P w) A (.call (.ref f) args) (CR CX outer P w H s Q E) s
theorem bv.mono {P:gA}{w:gB}{K:gg}{mg:Str ->cT cG}{base:gC}{CX:yK}{j k:Nat}{f:dw}{fd:gN}{ps:cz Str}{sp:Sp}(F:bv P w K mg base CX j f fd ps sp)(h:j<=k): bv P w K mg base CX k f fd ps sp:=#[F.len,λA outer s H args us vs Q E hr=>F.run A outer s H args us vs Q E (hr.mono h)]
theorem bv.imp {P:gA}{w:gB}{K:gg}{mg:Str ->cT cG}{base:gC}{CX:yK}{k:Nat}{f:dw}{fd:gN}{ps:cz Str}{sp RK:Sp}(F:bv P w K mg base CX k f fd ps sp) (h: ∀vs H Q E,RK vs H Q E ->sp vs H Q E):bv P w K mg base CX k f fd ps RK:=#[λvs H Q E q=>F.len vs H Q E (h _ _ _ _ q),λA outer s H args us vs Q E hr he hb hv hs=>F.run A outer s H args us vs Q E hr he hb hv (h _ _ _ _ hs)]
theorem z6.make {P:gA}{w:gB}{K:gg}{mg:Str ->cT cG}{base:gC}{A:hV}{outer:cz Env}{s:cL}{H:Hp}(e:z6 P w K mg base A outer s H)(C:dw)(us:cz cG)(kw:cz (Str×cG)): z6 P w K mg base (A.under (.builtin "type.__call__" #[.ref C::us,kw])) outer s H:=#[by first | show e.frames | (simpa [Around.under,Code.envs,Code.isFrame,pushEnvs] using e.frames),e.mod,e.bs,e.Hb,e.lr,e.HW,e.b0,e.bare]
section
variable {X:Cx}{ae:cz (dw×Obj)}{σ:St}{H:Hp}{s s':cL}
theorem Inv.Kr (I:Inv X ae σ H s):z6 X.prog X.w X.K X.mg X.base X.A X.stack s H:=#[I.ok.frames,I.ok.mod,I.bs,aH I.ok.Hb I.sz,I.stack,I.pY,I.b0,I.bare]
def Inv.after {Q:VK}{u:cG}(I:Inv X ae σ H s)(h:CE X.stack X.prog X.w H s Q u s'):EP X ae σ Q u s':=by let⟨v,H',os,bare,un,b0,r,q⟩:=h;let⟨hh,g,d,t,os'⟩:=s';obtain rfl:os'=s.os:=os;show#[v,H',I.call (h':=hh) (g':=g) (d':=d) (t':=t) (ch:= []) un b0 bare (λb z=>absurd z (by simp)),r,q]
end
def oB (sp:Sp)(rq:cz V)(E:XK)(t:TA):TE:=λσ H Q=>t σ H λvs H1=>sp (vs++rq) H1 Q E
def qq (C:dw)(m:Str)(sp:Sp)(rq:cz V)(E:XK)(ta:TE)(t:TA):TE:=λσ H Q=>ta σ H λx H1=>dY λa dx fs=>eZ (x= .ref a) (H1 a=some (.ins C dx fs)) (fs.lookup m=none) (t σ H1 λvs H2=>sp (x::(vs++rq)) H2 Q E)
def Em (C:dw)(sp:Sp)(rq:cz V)(E:XK)(t:TA):TE:=λσ H Q=>t σ H λvs H1=> ∀x dx,H1 x=none ->H1 dx=none ->dx≠x ->sp (.ref x::(vs++rq)) (bU (bU H1 dx (.own x)) x (.ins C dx [])) (λv H2=>v= .dJ /\ Q (.ref x) H2) E
def Binds (K:gg)(fd:gN)(ps:cz Str)(ds:cz cG):Prop:=∀ (s:cL) (us:cz cG),K.In s.heap ->(us++ds).length=ps.length ->BindsTo s fd #[us,[]] (ps.zip (us++ds))
theorem Binds.all {K:gg}{fd:gN}{ps:cz Str}(h: ∀us:cz cG,us.length=ps.length ->bindArgs fd #[us,[]]=pure (ps.zip us)):Binds K fd ps []:=λs us _ hl=>by rw[cI] at hl ⊢;show .of_eq (h us hl)
def fQ (CX:yK)(X:Cx)(E:XK):Prop:= ∀ (ae:cz (dw×Obj)) (σ:St) (H:Hp) (s:cL) (e:cG) (s':cL),Inv X ae σ H s ->CX X.stack H s E e s' ->X.xe e s'
section
variable {X:Cx}{CX:yK}{k:Nat}{f C:dw}{fd:gN}{ps:cz Str}{sp:Sp}{rq:cz V}{ds:cz cG}{E:XK}{x m:Str}{p pos dh:Pos}{e o:Expr}{es:cz Expr}{ta:TE}{t:TA}
def u_ {ae:cz (dw×Obj)}{σ:St}{H:Hp}{s:cL}{Q:VK}{us:cz cG}{vs:cz V}(F:bv X.prog X.w X.K X.mg X.base CX k f fd ps sp)(hr:dz k X.A)(hb:Binds X.K fd ps ds)(hd:bK rq ds)(hx:fQ CX X E) (I:Inv X ae σ H s) (r:bK vs us) (h:sp (vs++rq) H Q E):wpAny (model X.prog X.w) X.A (call (.ref f) us) (EP X ae σ Q) X.xe s:=by
 have r2:bK (vs++rq) (us++ds):=r.append hd;have hl:(us++ds).length=ps.length:=by rw[<- r2.length];show F.len _ _ _ _ h
 exact wpAny_call (codeAny_mono (F.run X.A X.stack s H #[us,[]] (us++ds) (vs++rq) Q E hr I.Kr (hb s us I.qU hl) r2 h) λr s' hq=> ?_);cases r with
 | error e=>show hx ae σ H s e s' I hq
 | ok fl=>
  cases fl with
  | ret u=>show I.after hq
  | next=>show False.elim hq
  | brk=>show False.elim hq
  | cont=>show False.elim hq
def AK (F:bv X.prog X.w X.K X.mg X.base CX k f fd ps sp)(hr:dz k X.A)(hg:Gl X x)(hm:X.mg x=some (.ref f))(hk:W.keepIn X.K (.ref f)=true)(hb:Binds X.K fd ps ds)(hd:bK rq ds)(hx:fQ CX X E) (ha:PA X (e::es) t) (kU:(x==("__debug__" :Str))=false:=by decide) (he:starEach (e::es) X.env=(false,eval e X.env)::starEach es X.env:=by rfl) (nA:(backTo pos (starEach es X.env)).any (·.1)=false:=by rfl): PE X (.Call (.Name x p) (e::es) [] pos) (oB sp rq E t):=by intro ae s σ H Q I h;exact wpAny_Call_Name_kw (j_ I hg hm ?_ kU);exact W.callWith_K (h₀:=X.base) I.ok.mod.Mm hk (ci (ha pos ae s σ H _ I h) λus s1 ⟨vs,H1,I1,r,q⟩=>#[I1.qU,?_]) he nA;show u_ F hr hb hd hx I1 r q
def Fe (F:bv X.prog X.w X.K X.mg X.base CX k f fd ps sp)(hr:dz k X.A)(hg:Gl X x)(hm:X.mg x=some (.ref f))(hk:W.keepIn X.K (.ref f)=true)(hb:Binds X.K fd ps ds)(hd:bK rq ds)(hx:fQ CX X E) (kU:(x==("__debug__" :Str))=false:=by decide):PE X (.Call (.Name x p) [] [] pos) (oB sp rq E yV):=by intro ae s σ H Q I h;exact wpAny_Call_Name_kw (j_ I hg hm ?_ kU);show W.callWith_K0 I.qU hk (u_ (us:= []) F hr hb hd hx I .nil h)
theorem AJ {pl:Sem Bool}(he:PE X o ta)(c:yJ X.K C)(hm:Hn X.K C m f)(F:bv X.prog X.w X.K X.mg X.base CX k f fd ps sp)(hr:dz k X.A)(hb:Binds X.K fd ps ds)(hd:bK rq ds)(hx:fQ CX X E)(ha:PA X (e::es) t) (oS:starEach (e::es) X.env=(false,eval e X.env)::starEach es X.env:=by rfl) (nA:(backTo pos (starEach es X.env)).any (·.1)=false:=by rfl) (ht:eval (.Call (.Attribute o m dh) (e::es) [] pos) X.env=(do
   let ov <- eval o X.env
   standAt dh.atName
   let (f,first) <- holding [ov] (getMethod ov m pl)
   callWith pos f first (backTo pos (starEach (e::es) X.env)) (backToKw pos (keywordEach [] X.env))):=by rfl):
  PE X (.Call (.Attribute o m dh) (e::es) [] pos) (qq C m sp rq E ta t):=by
 intro ae s σ H Q I h
 exact W.methodCall_KW (pl:=pl) (ci (he ae s σ H _ I h) λu s1 ⟨x,H1,I1,rx,a,dx,fs,ex,ea,l,q⟩=> ?_) ht
 subst ex
 obtain rfl:u=Value.ref a:=rx
 exact iM I1 ea c hm l ?_
 exact W.callWith_K (first:= [.ref a]) (h₀:=X.base) I.ok.mod.Mm hm.kp (ci (ha pos ae s1 σ H1 _ I1 q) λus s2 ⟨vs,H2,I2,r,q2⟩=>#[I2.qU,?_]) oS nA
 show u_ (us:= .ref a::us) (vs:= .ref a::vs) F hr hb hd hx I2 (.cons rfl r) q2
theorem E8 {pl:Sem Bool}(he:PE X o ta)(c:yJ X.K C)(hm:Hn X.K C m f)(F:bv X.prog X.w X.K X.mg X.base CX k f fd ps sp)(hr:dz k X.A)(hb:Binds X.K fd ps ds)(hd:bK rq ds)(hx:fQ CX X E) (ht:eval (.Call (.Attribute o m dh) [] [] pos) X.env=(do
   let ov <- eval o X.env
   standAt dh.atName
   let (f,first) <- holding [ov] (getMethod ov m pl)
   callWith pos f first (backTo pos (starEach [] X.env)) (backToKw pos (keywordEach [] X.env))):=by rfl):
  PE X (.Call (.Attribute o m dh) [] [] pos) (qq C m sp rq E ta yV):=by
 intro ae s σ H Q I h
 exact W.methodCall_KW (pl:=pl) (ci (he ae s σ H _ I h) λu s1 ⟨x,H1,I1,rx,a,dx,fs,ex,ea,l,q⟩=> ?_) ht
 subst ex
 obtain rfl:u=Value.ref a:=rx
 exact iM I1 ea c hm l ?_
 show W.callWith_K0 (first:= [.ref a]) I1.qU hm.kp (u_ (us:= [.ref a]) (vs:= [.ref a]) F hr hb hd hx I1 (.cons rfl .nil) q)
structure Mk (K:PySem.W.Frag)(C f:Addr):Prop where
 makes:PySem.W.makesIn K C=true
 init:PySem.W.findIn K (.ref C) "__init__" =some (some (.ref f))
 fn:PySem.W.isFn K (.ref f)=true
 kp:PySem.W.keepIn K (.ref C)=true
def EI {ae:cz (dw×Obj)}{σ:St}{H:Hp}{s:cL}{Q:VK}{us:cz cG}{vs:cz V}(M:Mk X.K C f)(F:bv X.prog X.w X.K X.mg X.base CX k f fd ps sp)(hr:dz (k+1) X.A)(hb:Binds X.K fd ps ds)(hd:bK rq ds) (hx:fQ CX X E) (I:Inv X ae σ H s) (r:bK vs us) (h: ∀x dx,H x=none ->H dx=none ->dx≠x ->sp (.ref x::(vs++rq)) (bU (bU H dx (.own x)) x (.ins C dx [])) (λv H2=>v= .dJ /\ Q (.ref x) H2) E): wpAny (model X.prog X.w) X.A (call (.ref C) us) (EP X ae σ Q) X.xe s:=by
 have hq:=h (s.heap.objs.size+1) s.heap.objs.size (I.b0.fresh (Nat.le_succ _)) (I.b0.fresh (ak _)) (aN (Nat.lt_succ_self _));have I2:=Inv.made (C:=C) I;have r2:bK (V.ref (s.heap.objs.size+1)::(vs++rq)) (Value.ref (s.heap.objs.size+1)::(us++ds)):= .cons rfl (r.append hd);have hl:(Value.ref (s.heap.objs.size+1)::us++ds).length=ps.length:=by have e:=r2.length;rw[F.len _ _ _ _ hq] at e;show e.symm
 exact wpAny_call (FE (f:=f) I.qU M.makes M.init (beq_iff_eq.mp M.fn) (codeAny_mono (F.run _ X.stack _ _ #[Value.ref (s.heap.objs.size+1)::us,[]] (Value.ref (s.heap.objs.size+1)::(us++ds)) _ _ E (hr.make C us []) (I2.Kr.make C us []) (hb _ (Value.ref (s.heap.objs.size+1)::us) I2.qU hl) r2 hq) λr s' S'=> ?_));cases r with
 | error e=>show hx ae σ _ _ e s' I2 S'
 | ok fl=>
  cases fl with
  | ret u=>let⟨v,H',I3,rv,ev,q3⟩:=I2.after S';subst ev;show#[rv,#[V.ref (s.heap.objs.size+1),H',I3,rfl,q3]]
  | next=>show False.elim S'
  | brk=>show False.elim S'
  | cont=>show False.elim S'
def Je (M:Mk X.K C f)(F:bv X.prog X.w X.K X.mg X.base CX k f fd ps sp)(hr:dz (k+1) X.A)(hg:Gl X x)(hm:X.mg x=some (.ref C))(hb:Binds X.K fd ps ds)(hd:bK rq ds)(hx:fQ CX X E) (ha:PA X (e::es) t) (kU:(x==("__debug__" :Str))=false:=by decide) (he:starEach (e::es) X.env=(false,eval e X.env)::starEach es X.env:=by rfl) (nA:(backTo pos (starEach es X.env)).any (·.1)=false:=by rfl): PE X (.Call (.Name x p) (e::es) [] pos) (Em C sp rq E t):=by intro ae s σ H Q I h;exact wpAny_Call_Name_kw (j_ I hg hm ?_ kU);exact W.callWith_K (h₀:=X.base) I.ok.mod.Mm M.kp (ci (ha pos ae s σ H _ I h) λus s1 ⟨vs,H1,I1,r,q⟩=>#[I1.qU,?_]) he nA;show EI M F hr hb hd hx I1 r q
end
structure bR (N P:List Str)(sc:Scope):Prop where
 kind:sc.kind= .function
 co:sc.isCoroutine=false
 gen:sc.isGenerator=false
 nd:N.Nodup
 pre:N.take P.length=P
 par: ∀x∈P,sc.names.lookup x=some .local \/ sc.names.lookup x=some .cell
 Oi: ∀y∈sc.names,y.2≠ .free
theorem uz {kindOf:Str ->cT NameKind}{x:Str}: ∀ {binds:cz (Str×cG)} {m:Str ->cT cG},(∀v,(x,v)∉binds) ->bindL kindOf binds m x=m x
 | [],_,_=>rfl
 | (n,v)::r,m,h=>by
  unfold bindL;rw[uz λw hw=>h w (cc _ hw)];split;have:x≠n:=by rintro rfl;show h v List.mem_cons_self
  simp[this];rfl
theorem uB {kindOf:Str ->cT NameKind}{x:Str}: ∀ {binds:cz (Str×cG)} {m:Str ->cT cG},(∀v,(x,v)∉binds) ->bindC kindOf binds m x=m x
 | [],_,_=>rfl
 | (n,v)::r,m,h=>by
  unfold bindC;rw[uB λw hw=>h w (cc _ hw)];split;rfl;have:x≠n:=by rintro rfl;show h v List.mem_cons_self
  simp[this]
theorem uA {kindOf:Str ->cT NameKind}{x:Str}{v:cG}: ∀ {P:cz Str} {vs:cz cG} {i:Nat} {m:Str ->cT cG},P.Nodup ->P[i]? =some x ->vs[i]? =some v ->kindOf x=some .local ->bindL kindOf (P.zip vs) m x=some v
 | [],_,_,_,_,h,_,_=>by simp at h
 | _::_,[],_,_,_,_,h,_=>by simp at h
 | p::P,w::vs,0,m,nd,h1,h2,hk=>by simp at h1 h2;subst h1;subst h2;change bindL kindOf ((p,w)::P.zip vs) m p=_;unfold bindL;rw[uz λv hv=>(cY.mp nd).1 (List.of_mem_zip hv).1,aj hk];simp
 | p::P,w::vs,i+1,m,nd,h1,h2,hk=>by change bindL kindOf ((p,w)::P.zip vs) m x=_;unfold bindL;show uA (i:=i) (cY.mp nd).2 ⇑h1 ⇑h2 hk
theorem uC {kindOf:Str ->cT NameKind}{x:Str}{v:cG}: ∀ {P:cz Str} {vs:cz cG} {i:Nat} {m:Str ->cT cG},P.Nodup ->P[i]? =some x ->vs[i]? =some v ->kindOf x≠some .local ->bindC kindOf (P.zip vs) m x=some v
 | [],_,_,_,_,h,_,_=>by simp at h
 | _::_,[],_,_,_,_,h,_=>by simp at h
 | p::P,w::vs,0,m,nd,h1,h2,hk=>by simp at h1 h2;subst h1;subst h2;change bindC kindOf ((p,w)::P.zip vs) m p=_;unfold bindC;rw[uB λv hv=>(cY.mp nd).1 (List.of_mem_zip hv).1,ah hk];simp
 | p::P,w::vs,i+1,m,nd,h1,h2,hk=>by change bindC kindOf ((p,w)::P.zip vs) m x=_;unfold bindC;show uC (i:=i) (cY.mp nd).2 ⇑h1 ⇑h2 hk
def start (N:cz Str)(vs:cz V):St:=vs.map some++List.replicate (N.length - vs.length) none
def dE (CX:yK)(P:gA)(w:gB)(K:gg)(mg:Str ->cT cG)(base:gC)(N:cz Str)(qual:Str)(scope:Scope)(f:dw)(cd:cG)(A:hV)(outer:cz Env)(s:cL)(H:Hp)(E:XK):Cx where
 prog:=P
 w:=w
 K:=K
 mg:=mg
 base:=base
 A:=A.deeper (envOfC qual scope s.heap.objs.size f cd)
 N:=N
 s₀:=s
 H₀:=H
 env:=envOfC qual scope s.heap.objs.size f cd
 outer:=outer
 stack:=envOfC qual scope s.heap.objs.size f cd::outer
 ex:= []
 calm:=true
 fn:=λ_=>true
 pn:= []
 xe:=λe s'=>wpAny (model P w) (A.deeper (envOfC qual scope s.heap.objs.size f cd)) (leaving (envOfC qual scope s.heap.objs.size f cd) e) (λ_ Xs=>CX outer H s E e Xs) (λe' Xs=>CX outer H s E e' Xs) s'
def ya {sc:Scope}{n:Nat}{x:Str}(h:sc.names.lookup x=some .cell): ∃c,(cellsFrom n sc.names []).lookup x=some c:=by have q:=W.cellsFrom_some sc.names n [] (.inl h);show Option.isSome_iff_exists.mp q
def CJ {CX:yK}{P:gA}{w:gB}{K:gg}{mg:Str ->cT cG}{base:gC}{N ps:cz Str}{qual:Str}{scope:Scope}{f:dw}{cd:cG}{A:hV}{outer:cz Env}{s s1:cL}{H:Hp}{E:XK}{us:cz cG}{vs:cz V} (S:bR N ps scope) (hd:A.handled=none) (e0:z6 P w K mg base A outer s H) (hl:vs.length=ps.length) (r:bK vs us) (x:InCallC s s.heap.objs.size (bindL (envOfC qual scope s.heap.objs.size f cd).kindOf (ps.zip us) λ_=>none) (cellsFrom (s.heap.objs.size+1) scope.names []) (bindC (envOfC qual scope s.heap.objs.size f cd).kindOf (ps.zip us) λ_=>none) s1): Inv (dE CX P w K mg base N qual scope f cd A outer s H E) [] (start N vs) H s1:=by
 have nA:ps.length<=N.length:=by have:=congrArg List.length S.pre;rw[bM] at this;lia
 let⟨h1,tk,rfl,hk⟩:=x.done;have LV: ∀b:dw,b∉(dE CX P w K mg base N qual scope f cd A outer s H E).ex:=λb z=>absurd (show b∈([]:cz dw) from z) (by simp);exact#[#[e0.mod,S.kind,rfl,rfl,ak _,λy z c h1 h2=> ?_,λy hy=> ?_,λy c _ h=> ?_,λ_=>hd,Around.frames_deeper e0.frames, .inr #[rfl,rfl],λb z=>absurd z (LV b),e0.bs,e0.Hb,λb _ _=>LV b,λb z=>absurd z (LV b),e0.lr,e0.HW],
  rfl,e0.bare,Un.kept hk,#[_,x.toInCall.ns,λi y v h1 h2 h3=> ?_],λy c h=>#[_,x.cell y c h],e0.b0.fresh (ak _),λy c h=> ?_,λp hp=>absurd (show p∈([]:cz (dw×Obj)) from hp) (by simp),e0.b0.kept hk,?_]
 show name_of_addr x.apart (cU h1) (cU h2);have hy:scope.names.lookup y=some .cell \/ scope.names.lookup y=some .free:=hy;obtain hy | hy:=hy;show ya hy;show absurd rfl (S.Oi _ (cU hy));show Nat.le_of_lt (x.above y c (cU h));have hi:i<vs.length:=by unfold start at h2;by_cases hi:i<vs.length;show hi;rw[aO ⇑hi] at h2;rw[cP] at h2;split at h2<;>cases h2
 have ha:vs[i]? =some v:=by
  unfold start at h2;rw[aU ⇑hi,aG] at h2;cases e:vs[i]? with
  | none=>rw[e] at h2;cases h2
  | some a=>rw[e] at h2;cases h2;rfl
 let⟨u,hu,rv⟩:=r.get ha;have hp:ps[i]? =some y:=by rw[<- S.pre,List.getElem?_take_of_lt ∅];show h1
 have ndP:ps.Nodup:=by rw[<- S.pre];show S.nd.sublist (List.take_sublist _ _)
 exact#[u,rv,?_];obtain k | k:=S.par y (aY hp);show .inl #[k,uA ndP hp hu k];let⟨c,e⟩:=ya (n:=s.heap.objs.size+1) k;exact .inr #[.inl k,c,e,?_];have q:=x.cell y c e;rw[uC ndP hp hu (by change scope.names.lookup y≠_;rw[k];decide)] at q;show q;show e0.b0.fresh (Nat.le_of_lt (x.above y c (cU h)));unfold start;change _=N.length;rw[aV,ao,List.length_replicate];lia
def Mw {CX:yK}{P:gA}{w:gB}{K:gg}{mg:Str ->cT cG}{base:gC}{k:Nat}{f:dw}{name qual:Str}{params:Arguments}{body:cz Stmt}{scope:Scope}{dV kV gQ pm cdv ct oc:cG}{an od:cT dw} {ze:ft (cT cG)} {N ps:cz Str} {sp:Sp} (lk:K.lookup f=some #[oc,od, .func (W.fnOf name qual params body scope dV kV gQ pm an cdv ct),ze]) (A_:W.codeIn K cdv qual=true) (S:bR N ps scope) (len: ∀vs H Q E,sp vs H Q E ->vs.length=ps.length) (ij: ∀ (A:hV) (outer:cz Env) (s:cL) (H:Hp) (vs:cz V) (Q:VK) (E:XK),dz k (A.deeper (envOfC qual scope s.heap.objs.size f cdv)) ->sp vs H Q E ->∃t,sC (dE CX P w K mg base N qual scope f cdv A outer s H E) body t /\ t {nx:=λ_ H'=>Q .dJ H',rt:=Q} (start N vs) H): bv P w K mg base CX (k+1) f (W.fnOf name qual params body scope dV kV gQ pm an cdv ct) ps sp:=by
 exact#[len,λA outer s H args us vs Q E hr e0 hb r CM=> ?_];have hl:=len _ _ _ _ CM;have KX:K.In s.heap:=e0.mod.Mm.keeps λb o e=>(e0.bs b o e).1;have lim:s.heap.NoLimit:=e0.mod.nolimit.keeps λb o e=>(e0.bs b o e).1;have Tj: ∀y∈ps.zip us,scope.names.lookup y.1=some .local \/ (scope.names.lookup y.1=some .cell /\ ((cellsFrom (s.heap.objs.size+1) scope.names []).lookup y.1).isSome=true):=λ⟨n,v⟩ hy=>by obtain q | q:=S.par n (List.of_mem_zip hy).1;show .inl q;show .inr #[q,W.cellsFrom_some _ _ _ (.inl q)]
 exact codeAny_call_function hr.depth (KX _ _ lk) rfl S.co S.gen rfl (W.codeRec_of KX A_) (hb _ _ _ _ ?_);exact wpAny_newFunctionEnv_cells S.kind Tj λenv he s1 x=> ?_;subst he;exact#[lim.keeps x.toInCall.keep,codeAny_func ?_];let⟨t,ht,hq⟩:=ij A outer s H vs Q E (hr.deeper _) CM;have I:Inv (dE CX P w K mg base N qual scope f cdv A outer s H E) [] (start N vs) H s1:=CJ S hr.hd e0 hl r x;exact a9 (ht [] s1 (start N vs) H _ I hq) (λfl s' hs=> ?_) λe s' hs=>hs;have fin: ∀ {σ':St} {H':Hp} {v:V} {u:cG},Inv (dE CX P w K mg base N qual scope f cdv A outer s H E) [] σ' H' s' ->RelV v u ->Q v H' ->CE outer P w H s Q u s':=λ{σ' H' v u} J rv q=>#[v,H',J.os,J.bare,J.base,J.b0,rv,q]
 cases fl with
 | ret u=>let⟨v,σ',H',J,rv,q⟩:=hs;show fin J rv q
 | next=>let⟨σ',H',J,q⟩:=hs;show fin (v:=V.dJ) (u:=Value.none) J rfl q
 | brk=>let⟨_,_,_,q⟩:=hs;show False.elim q
 | cont=>let⟨_,_,_,q⟩:=hs;show False.elim q
section
variable {X:Cx}{x:Str}{p pos:Pos}{e:Expr}{es:cz Expr}{t:TA}{id T:String}{r:cz V ->Hp ->VK ->Prop}
def Xf (r:cz V ->Hp ->VK ->Prop)(t:TA):TE:=λσ H Q=>t σ H λvs H1=>r vs H1 Q
def bP (hc:dU X (.builtin id) r)(hg:Gl X x)(hm:X.mg x=none)(hv:bootBuiltins x=some (.builtin id))(ha:PA X (e::es) t)(hn:x≠ "__name__" :=by decide)(kU:(x==("__debug__" :Str))=false:=by decide) (he:starEach (e::es) X.env=(false,eval e X.env)::starEach es X.env:=by rfl) (nA:(backTo pos (starEach es X.env)).any (·.1)=false:=by rfl):PE X (.Call (.Name x p) (e::es) [] pos) (Xf r t):=by intro ae s σ H Q I h;exact wpAny_Call_Name_kw (nX I hg hm hv ?_ hn kU);show PyProof.Rows.callWith_builtin1 (ci (ha pos ae s σ H _ I h) λus s1 ⟨vs,H1,I1,r1,q1⟩=>hc ae s1 σ H1 vs us Q I1 r1 q1) he nA
def dC (hc:dU X (.type T) r)(hg:Gl X x)(hm:X.mg x=none)(hv:bootBuiltins x=some (.type T))(ha:PA X (e::es) t)(hn:x≠ "__name__" :=by decide)(kU:(x==("__debug__" :Str))=false:=by decide) (he:starEach (e::es) X.env=(false,eval e X.env)::starEach es X.env:=by rfl) (nA:(backTo pos (starEach es X.env)).any (·.1)=false:=by rfl):PE X (.Call (.Name x p) (e::es) [] pos) (Xf r t):=by intro ae s σ H Q I h;exact wpAny_Call_Name_kw (nX I hg hm hv ?_ hn kU);show PyProof.Rows.callWith_type1 (ci (ha pos ae s σ H _ I h) λus s1 ⟨vs,H1,I1,r1,q1⟩=>hc ae s1 σ H1 vs us Q I1 r1 q1) he nA
end
end L2
namespace HT
open PySem PyProof.Rows
section
variable {prog:gA}{w:gB}{A:hV}{E:cG ->cL ->Prop}{s:cL}
def wt (n d:Nat):cT Int ->Nat
 | none=>d
 | some v=>if v<0 then(v+(n:Int)).toNat else min v.toNat n
end
end HT
namespace L2
open PySem PySem.Spec PyProof.Rows
abbrev TO:=St ->Hp ->(cT Int ->Hp ->Prop) ->Prop
def PO (X:Cx)(e:cT Expr)(t:TO):Prop:=∀ (ae:cz (dw×Obj)) (s:cL) (σ:St) (H:Hp) (Q:cT Int ->Hp ->Prop),Inv X ae σ H s ->t σ H Q ->wpAny (model X.prog X.w) X.A (evalPart e X.env) (λu s'=>bX λo H'=>cg (Inv X ae σ H' s') (IsPart u o) (Q o H')) X.xe s
def Aj:TO:=λ_ H Q=>Q none H
def Lr (t:TE):TO:=λσ H Q=>t σ H λx H1=> ∃i,x= .int i /\ Q (some i) H1
section
variable {X:Cx}{e:Expr}{te:TE}{lo hi:cT Expr}{tl th:TO}{pos p2:Pos}
def vi:PO X none Aj:=by intro ae s σ H Q I h;rw[evalPart_none];show aC #[none,H,I, .none,h]
def vh (h:PE X e te):PO X (some e) (Lr te):=by intro ae s σ H Q I hw;rw[evalPart_some];exact ci (h ae s σ H _ I hw) λu s1 ⟨x,H1,I1,r1,q1⟩=> ?_;let⟨i,rfl,q⟩:=q1;let⟨t,rfl⟩:=r1;show#[some i,H1,I1, .int i t,q]
def SlR (X:Cx)(r:V ->cT Int ->cT Int ->Hp ->VK ->Prop):Prop:=∀ (ae:cz (dw×Obj)) (s:cL) (σ:St) (H:Hp) (x:V) (v vl vu:cG) (lo hi:cT Int) (sl:dw) (Q:VK),Inv X ae σ H s ->RelV x v ->s.heap.IsSliceOf sl vl vu .none ->IsPart vl lo ->IsPart vu hi ->r x lo hi H Q ->bX λT id=>cg (typeLookup (.type T) "__getitem__" =pure (some (.builtin id))) (s.TypeIs v T) (wpAny (model X.prog X.w) X.A (getItem v (.ref sl)) (EP X ae σ Q) X.xe s)
def tSl (r:V ->cT Int ->cT Int ->Hp ->VK ->Prop)(te:TE)(tl th:TO):TE:=λσ H Q=>te σ H λx H1=>tl σ H1 λl H2=>th σ H2 λu H3=>r x l u H3 Q
def qC {r:V ->cT Int ->cT Int ->Hp ->VK ->Prop}(hr:SlR X r)(he:PE X e te)(hl:PO X lo tl)(hu:PO X hi th):PE X (.Subscript e (.Slice lo hi none p2) pos) (tSl r te tl th):=by intro ae s σ H Q I h;exact Subscript_ (ci (he ae s σ H _ I h) λv s1 ⟨x,H1,I1,r1,q1⟩=> ?_);exact wpAny_Slice (ci (hl ae s1 σ H1 _ I1 q1) λvl s2 ⟨l,H2,I2,pl,q2⟩=>ci (hu ae s2 σ H2 _ I2 q2) λvu s3 ⟨u,H3,I3,pu,q3⟩=> ?_);rw[evalPart_none];exact aC ?_;have I4:Inv X ae σ H3 {s3 with heap:=s3.heap.push {cls:= .type "slice",data:= .fields (List.toArray [vl,vu, .none])}}:=I3.kept (t':=s3.toks) λb ob q=>ai _ q;let⟨T,id,hT,ht,hg⟩:=hr ae {s3 with heap:=s3.heap.push {cls:= .type "slice",data:= .fields (List.toArray [vl,vu, .none])}} σ H3 x v vl vu l u s3.heap.objs.size Q I4 r1 (Heap.IsSliceOf.new ..) pl pu q3;change wpAny (model X.prog X.w) X.A (subscriptTail e (.Slice lo hi none p2) v (.ref s3.heap.objs.size)) (EP X ae σ Q) X.xe {s3 with heap:=s3.heap.push {cls:= .type "slice",data:= .fields (List.toArray [vl,vu, .none])}};show tail_any (ops:= [.ref s3.heap.objs.size,v]) ht hT hg (by with_unfolding_all rfl)
def C_ (xs:cz V)(lo hi:cT Int):cz V:=(xs.drop (HT.wt xs.length 0 lo)).take (HT.wt xs.length xs.length hi - HT.wt xs.length 0 lo)
def xZ (xs:cz V)(lo hi:cT Int):(C_ xs lo hi).length<=xs.length:=by unfold C_;rw[bM,List.length_drop];lia
end
def yG (n:Nat)(i:Int):cT Nat:=if 0<=i then(if i<n then some i.toNat else none) else if -(n:Int) <=i then some (i+n).toNat else none
def kZ {α:Type}(xs:cz α)(i:Int):cT α:=(yG xs.length i).bind λj=>xs[j]?
def A3 {n:Nat}{i:Int}{j:Nat}(h:yG n i=some j): seqIndex? i n=some j /\ j<n /\ -(n:Int) <=i /\ i<n:=by unfold yG at h;by_cases h0:0<=i;rw[aj h0] at h;by_cases h1:i<n;rw[aj h1] at h;have e:i.toNat=j:=aW h;show#[by rw[seqIndex_of h0 h1,e], ∅, ∅,h1];rw[ah h1] at h;cases h;rw[ah h0] at h;by_cases h1: -(n:Int) <=i;rw[aj h1] at h;have e:(i+n).toNat=j:=aW h;show#[by rw[seqIndex_neg ∅ h1,e], ∅,h1, ∅];rw[ah h1] at h;cases h
def vY {α:Type}{xs:cz α}{i:Int}{v:α}(h:kZ xs i=some v): ∃j,d9 (seqIndex? i xs.length=some j) (xs[j]? =some v) (j<xs.length) (-(xs.length:Int) <=i) (i<xs.length):=by
 unfold kZ at h;cases e:yG xs.length i with
 | none=>rw[e] at h;cases h
 | some j=>rw[e] at h;let⟨h1,h2,h3,h4⟩:=A3 e;show#[j,h1,h,h2,h3,h4]
def nn {α:Type}{xs:cz α}{j:Nat}{v:α}(h:xs[j]? =some v):kZ xs (j:Int)=some v:=by
 have hj:j<xs.length:=(aB.mp h).1;have e:yG xs.length (j:Int)=some j:=by unfold yG;rw[aj ∅,aj ∅];simp
 unfold kZ;rw[e];show h
def KN (b:Expr):Prop:= ∀o i,subscripted b false o i=operate [o,i] (getItem o i)
def QD (X:Cx)(r:R2):Prop:=∀ (value slice:Expr) (ae:cz (dw×Obj)) (s:cL) (σ:St) (H:Hp) (x y:V) (v u:cG) (Q:VK),Inv X ae σ H s ->RelV x v ->RelV y u ->r x y H Q ->subscripted slice false v u=operate [v,u] (getItem v u) ->wpAny (model X.prog X.w) X.A (subscriptTail value slice v u) (EP X ae σ Q) X.xe s
def MtR (X:Cx)(id:String)(r:V ->cz V ->Hp ->VK ->Prop):Prop:=∀ (ae:cz (dw×Obj)) (s:cL) (σ:St) (H:Hp) (x:V) (xs:cz V) (v:cG) (us:cz cG) (Q:VK),Inv X ae σ H s ->RelV x v ->bK xs us ->r x xs H Q ->wpAny (model X.prog X.w) X.A (call (.builtin id) (v::us)) (EP X ae σ Q) X.xe s
section
variable {X:Cx}{a b:Expr}{ta tb:TE}{pos:Pos}
def cW {r:R2}(hr:QD X r)(ha:PE X a ta)(hb:PE X b tb)(hs:KN b):PE X (.Subscript a b pos) (Rw r ta tb):=by intro ae s σ H Q I h;show Subscript_ (PB ha hb I h λv u s2 x y H2 I2 rx ry q=>hr a b ae s2 σ H2 x y v u Q I2 rx ry q (hs _ _))
def NC (K:gg):R2:=λx y H Q=>gs λp xs i v=>d9 (x= .ref p) (y= .int i) (fh K H p xs) (kZ xs i=some v) (Q v H)
def NA (K:gg):R2:=λx y H Q=>gs λp xs i v=>d9 (x= .ref p) (y= .int i) (gH K H p xs) (kZ xs i=some v) (Q v H)
def R_:R2:=λx y H Q=>dY λz i c=>d9 (x= .str z) (y= .int i) (z.length<=sizeLine) (kZ z.cps.toList i=some c) (Q (.str ⟨#[c]⟩) H)
def cD:QD X (NC X.K):=by
 intro value slice ae s σ H x y v u Q I rx ry h hs;let⟨p,xs,i,z,rfl,rfl,hq,he,q⟩:=h;cases rx;let⟨t,rfl⟩:=ry;let⟨its,r,pl,hz⟩:=I.list hq;let⟨j,h1,h2,h3,h4,h5⟩:=vY he;let⟨w,ew,w8⟩:=r.get h2;have hl:=r.length;have hn:=ln;have fin:EP X ae σ Q w s:=#[z,H,I,w8,q]
 by_cases h0:0<=i;have hj:i.toNat=j:=by rw[seqIndex_of h0 h5] at h1;show aW h1
 show item_listR pl.isList h0 ∅ (by rw[hj];simpa using ew) fin hs;have hj:(i+(its.toArray.size:Int)).toNat=j:=by rw[seqIndex_neg ∅ h4] at h1;rw[aF, <- hl];show aW h1
 show subscriptTail_builtinR (x:=w) pl.isList.typeIs slot_list_getitem.lookup (wpAny_getItem_list_neg (Q:=λr s'=>r=w /\ EP X ae σ Q r s') pl.isList ∅ (by rw[aF] <;>lia) ∅ (by rw[hj];simpa using ew) #[rfl,fin]) hs
def iK:QD X (NA X.K):=by
 intro value slice ae s σ H x y v u Q I rx ry h hs;let⟨p,xs,i,z,rfl,rfl,hq,he,q⟩:=h;cases rx;let⟨t,rfl⟩:=ry;let⟨its,r,pl,hz⟩:=I.tuple hq;let⟨j,h1,h2,h3,h4,h5⟩:=vY he;let⟨w,ew,w8⟩:=r.get h2;have hl:=r.length;have hn:=ln;have fin:EP X ae σ Q w s:=#[z,H,I,w8,q]
 show subscriptTail_builtinR (x:=w) pl.typeIs slot_tuple_getitem.lookup (getItem_tuple (j:=j) (Q:=λr s'=>r=w /\ EP X ae σ Q r s') pl ∅ ∅ (by rw[aF, <- hl];show h1) ⇑ew #[rfl,fin]) hs
def FY:QD X R_:=by
 intro value slice ae s σ H x y v u Q I rx ry h hs;let⟨z,i,c,rfl,rfl,hz,he,q⟩:=h;let⟨t,rfl⟩:=rx;let⟨t',rfl⟩:=ry;let⟨j,h1,h2,h3,h4,h5⟩:=vY he;have hl:z.cps.toList.length=z.length:=by simp[Str.length]
 rw[hl] at h1 h4 h5;have hn:=ln;show tail_any (typeIs_str s z t) slot_str_getitem.lookup (getItem_str (c:=c) (by have e1:decide (i< -(2 ^ 63:Int))=false:=bg ∅;have e2:decide (i≥2 ^ 63)=false:=bg ∅;rw[e1,e2,Bool.or_false]) (by rw[h1];simpa using h2) #[.str ⟨#[c]⟩,H,I.tok _,#[_,rfl],q]) hs
def zq (its:cz cG)(n j:Nat)(u:cG):Obj.mapSeq (·.setIfInBounds j u) {cls:= .type "list",data:= .seq its.toArray n}= {cls:= .type "list",data:= .seq (its.set j u).toArray n}:=by simp[Obj.mapSeq]
def Inv.lst {ae:cz (dw×Obj)}{σ:St}{H:Hp}{s:cL}{p:dw}{xs:cz V}(I:Inv X ae σ H s)(h:H p=some (.lst xs)): bX λ(its:cz cG) (n:Nat)=>cg (bK xs its) (s.heap.get? p=some {cls:= .type "list",data:= .seq its.toArray n}) (xs.length<=sizeLine):=by let⟨z,its,n,r,e⟩:=I.b0 p _ h;show#[its,n,r,e,z]
def Inv.Ou {ae:cz (dw×Obj)}{σ:St}{H:Hp}{s:cL}{p:dw}{xs ys:cz V}{its its':cz cG}{n n':Nat}{f:Obj ->Obj}(I:Inv X ae σ H s)(h:H p=some (.lst xs)) (ho:s.heap.get? p=some {cls:= .type "list",data:= .seq its.toArray n}) (hf:f {cls:= .type "list",data:= .seq its.toArray n}= {cls:= .type "list",data:= .seq its'.toArray n'}) (r:bK ys its') (hz:ys.length<=sizeLine) (t:Nat): Inv X ae σ (bU H p (.lst ys)) {s with heap:=s.heap.update p f,toks:=t}:=by
 have e:(s.heap.update p f).get? p=some {cls:= .type "list",data:= .seq its'.toArray n'}:=by rw[Heap.get?_update_self f ho (by rw[hf] <;>rfl),hf]
 exact I.write (x:=p) (e:=p) (by rw[h];trivial) (.inl rfl) (λb u hb q=>(Heap.get?_update_other _ _ (bD hb)).trans q) #[_,e] ?_;show#[hz,its',n',r,e]
def LK:V ->V ->V ->Hp ->(Hp ->Prop) ->Prop:=λo i v H Q=>gs λp xs k j=>d9 (o= .ref p) (i= .int k) (H p=some (.lst xs)) (yG xs.length k=some j) (Q (bU H p (.lst (xs.set j v))))
def gX:Ux X LK:=by
 intro ae s σ H o i v ov iv u Q I ro ri rv h;let⟨p,xs,k,j,rfl,rfl,hp,hj,q⟩:=h;cases ro;let⟨t,rfl⟩:=ri;let⟨its,n,r,ho,hz⟩:=I.lst hp;let⟨h1,h2,h3,h4⟩:=A3 hj;have hl:=r.length;have hn:=ln;have I':Inv X ae σ (bU H p (.lst (xs.set j v))) {s with heap:=s.heap.update p (Obj.mapSeq (·.setIfInBounds j u))}:=I.Ou hp ho (zq its n j u) (r.set rv j) (by rw[List.length_set];show hz) s.toks;by_cases h0:0<=k;have hk:k.toNat=j:=by rw[seqIndex_of h0 h4] at h1;show aW h1
 show W.ki_setAt ho h0 ∅ (by rw[aF, <- hl];show h4) (by rw[hk];show#[_,I',q]);have hk:(k+(its.toArray.size:Int)).toNat=j:=by rw[seqIndex_neg ∅ h3] at h1;rw[aF, <- hl];show aW h1
 show W.ki_setBack ho ∅ (by rw[aF, <- hl];show h3) ∅ (by rw[hk];show#[_,I',q])
def uV (lo hi:cT Int)(n:Nat):(sliceBounds lo hi none n).1=((HT.wt n 0 lo:Nat):Int) /\ (sliceBounds lo hi none n).2.1=((HT.wt n n hi:Nat):Int) /\ (sliceBounds lo hi none n).2.2=1:=by
 exact#[?_,?_,rfl];cases lo with
 | none=>simp[sliceBounds,HT.wt]
 | some i=>simp![sliceBounds,HT.wt,Option.getD_none,show(1:Int) >0 by decide,bJ];by_cases h:i<0;simp![h,bJ] <;>lia;simp![h,bp] <;>lia
 cases hi with
 | none=>simp[sliceBounds,HT.wt]
 | some i=>simp![sliceBounds,HT.wt,Option.getD_none,show(1:Int) >0 by decide,bJ];by_cases h:i<0;simp![h,bJ] <;>lia;simp![h,bp] <;>lia
def sG (its:cz cG)(lo hi:cT Int):slicePick its.toArray lo hi none=((its.drop (HT.wt its.length 0 lo)).take (HT.wt its.length its.length hi - HT.wt its.length 0 lo)).toArray:=by let⟨h1,h2,h3⟩:=uV lo hi its.toArray.size;unfold slicePick;rw[h1,h2,h3];simp![sliceRange_one,pick_run,aF] <;>rfl
def Xx (K:gg):V ->cT Int ->cT Int ->Hp ->VK ->Prop:=λx lo hi H Q=>bX λa xs=>cg (x= .ref a) (fh K H a xs) (∀p,H p=none ->Q (.ref p) (bU H p (.lst (C_ xs lo hi))))
def IJ:SlR X (Xx X.K):=by intro ae s σ H x v vl vu lo hi sl Q I rx hs pl pu h;let⟨a,xs,rfl,hx,q⟩:=h;cases rx;let⟨its,r,ht,hz⟩:=I.list hx;have dD:=r.length;exact#["list",_,slot_list_getitem.lookup,ht.isList.typeIs,?_];exact wpAny_getItem_list_slice ht.isList hs pl pu .none (by simp) ?_ (by rw[aF] <;>lia);rw[sG, <- dD];exact#[.ref s.heap.objs.size,_,I.laid (t':=s.toks) (o:= .lst (C_ xs lo hi)) (λb ob q=>ai _ q) (ak _) ?_,rfl,q _ (I.b0.fresh (ak _))];show#[aH (xZ xs lo hi) hz,_,0,(r.drop (HT.wt xs.length 0 lo)).take (HT.wt xs.length xs.length hi - HT.wt xs.length 0 lo),aJ _ rfl]
def i6:V ->Bool
 | .dJ=>true
 | .bl _=>true
 | .int _=>true
 | .str _=>true
 | _=>false
def yI:V ->V ->Bool
 | .dJ, .dJ=>true
 | .bl a, .bl b=>a==b
 | .bl a, .int b=>(if a then 1 else 0)==b
 | .int a, .bl b=>a==(if b then 1 else 0)
 | .int a, .int b=>a==b
 | .str a, .str b=>a==b
 | _,_=>false
def GO {A:hV}{s:cL}{y x:V}{u v:cG}(ry:RelV y u)(rx:RelV x v)(fy:i6 y=true)(fx:i6 x=true):SeqAt.EqAt A s u v (yI y x):=by
 cases y with
 | dJ=>
  cases ry;cases x with
  | dJ=>cases rx;show SeqAt.EqAt.same _
  | bl b=>cases rx;show SeqAt.EqAt.none_bool b
  | int b=>let⟨t,rfl⟩:=rx;show SeqAt.EqAt.none_int b t
  | str b=>let⟨t,rfl⟩:=rx;show SeqAt.EqAt.none_str b t
  | _=>show absurd (show false=true from fx) aQ
 | bl a=>
  cases ry;cases x with
  | dJ=>cases rx;show SeqAt.EqAt.bool_none a
  | bl b=>cases rx;show SeqAt.EqAt.bool_bool a b
  | int b=>let⟨t,rfl⟩:=rx;show SeqAt.EqAt.bool_int a b t
  | str b=>let⟨t,rfl⟩:=rx;show SeqAt.EqAt.bool_str a b t
  | _=>show absurd (show false=true from fx) aQ
 | int a=>
  let⟨t',rfl⟩:=ry;cases x with
  | dJ=>cases rx;show SeqAt.EqAt.int_none a t'
  | bl b=>cases rx;show SeqAt.EqAt.int_bool a t' b
  | int b=>let⟨t,rfl⟩:=rx;show SeqAt.EqAt.int_int a t' b t
  | str b=>let⟨t,rfl⟩:=rx;show SeqAt.EqAt.int_str a t' b t
  | _=>show absurd (show false=true from fx) aQ
 | str a=>
  let⟨t',rfl⟩:=ry;cases x with
  | dJ=>cases rx;show SeqAt.EqAt.str_none a t'
  | bl b=>cases rx;show SeqAt.EqAt.str_bool a t' b
  | int b=>let⟨t,rfl⟩:=rx;show SeqAt.EqAt.str_int a t' b t
  | str b=>let⟨t,rfl⟩:=rx;show SeqAt.EqAt.str_str a t' b t
  | _=>show absurd (show false=true from fx) aQ
 | _=>show absurd (show false=true from fy) aQ
def zL (x:V)(u:cG):Bool:=match u with
 | .none=>yI .dJ x
 | .bool b=>yI (.bl b) x
 | .int i _=>yI (.int i) x
 | .str z _=>yI (.str z) x
 | _=>false
def GN {x y:V}{u:cG}(r:RelV y u)(f:i6 y=true):zL x u=yI y x:=by
 cases y with
 | dJ=>cases r;rfl
 | bl b=>cases r;rfl
 | int i=>let⟨t,rfl⟩:=r;rfl
 | str z=>let⟨t,rfl⟩:=r;rfl
 | _=>show absurd (show false=true from f) aQ
theorem nq {x:V}: ∀ {xs:cz V} {us:cz cG},bK xs us ->xs.all i6=true ->us.any (zL x)=xs.any λy=>yI y x
 | _,_, .nil,_=>rfl
 | y::xs,u::us, .cons r t,f=>by rw[List.all_cons,Bool.and_eq_true] at f;rw[List.any_cons,List.any_cons,GN r f.1,nq t f.2]
theorem jM {A:hV}{s:cL}{x:V}{v:cG}(rx:RelV x v)(fx:i6 x=true): ∀ {xs:cz V} {us:cz cG},bK xs us ->xs.all i6=true -> ∀u∈us,SeqAt.EqAt A s u v (zL x u)
 | _,_, .nil,_=>λu hu=>by cases hu
 | y::xs,u::us, .cons r t,f=>λu' hu=>by rw[List.all_cons,Bool.and_eq_true] at f;obtain rfl | hu:=aL.mp hu;rw[GN r f.1];show GO r rx f.1 fx;show jM rx fx t f.2 u' hu
def DJ (x:V)(xs:cz V):Bool:=xs.any λy=>yI y x
def Vk (K:gg)(Qn:Bool):R2:=λx y H Q=>bX λp xs=>d9 (y= .ref p) (fh K H p xs \/ gH K H p xs) (i6 x=true) (xs.all i6=true) (Q (.bl (if Qn then !DJ x xs else DJ x xs)) H)
def g_:kB X (compareOp .In) (Vk X.K false):=by intro ae s σ H x y v u Q I rx ry h;let⟨p,xs,rfl,hq,fx,fs,q⟩:=h;cases ry;obtain hq | hq:=hq;let⟨its,r,pl,hz⟩:=I.list hq;exact SeqAt.in_listAt (zL x) pl.isList (λw hw=>jM rx fx r fs w ⇑hw) #[.bl _,H,I,rfl,?_];rw[show its.toArray.any (zL x)=its.any (zL x) by simp,nq r fs];show q;let⟨its,r,pl,hz⟩:=I.tuple hq;exact SeqAt.in_tupleAt (zL x) pl (λw hw=>jM rx fx r fs w ⇑hw) #[.bl _,H,I,rfl,?_];rw[show its.toArray.any (zL x)=its.any (zL x) by simp,nq r fs];show q
def vo:kB X (compareOp .NotIn) (Vk X.K true):=by intro ae s σ H x y v u Q I rx ry h;let⟨p,xs,rfl,hq,fx,fs,q⟩:=h;cases ry;obtain hq | hq:=hq;let⟨its,r,pl,hz⟩:=I.list hq;exact SeqAt.notIn_listAt (zL x) pl.isList (λw hw=>jM rx fx r fs w ⇑hw) #[.bl _,H,I,rfl,?_];rw[show its.toArray.any (zL x)=its.any (zL x) by simp,nq r fs];show q;let⟨its,r,pl,hz⟩:=I.tuple hq;exact SeqAt.notIn_tupleAt (zL x) pl (λw hw=>jM rx fx r fs w ⇑hw) #[.bl _,H,I,rfl,?_];rw[show its.toArray.any (zL x)=its.any (zL x) by simp,nq r fs];show q
def vn:kB X (compareOp .NotIn) (λx y H Q=>bX λi j=>cg (x= .str i) (y= .str j) (Q (.bl (!(!(Builtin.Str.occurrences j i 0 j.length 1).isEmpty))) H)):=by intro ae s σ H x y v u Q I rx ry h;let⟨i,j,rfl,rfl,q⟩:=h;let⟨t,rfl⟩:=rx;let⟨t',rfl⟩:=ry;show notIn_str #[.bl _,H,I,rfl,q]
def vT:dU X (.builtin "len") (λxs H Q=>bX λp ys=>cg (xs= [.ref p]) (fh X.K H p ys \/ gH X.K H p ys) (Q (.int ys.length) H)):=by intro ae s σ H xs us Q I r h;let⟨p,ys,rfl,hq,q⟩:=h;let⟨u,rfl,rx⟩:=vals1 r;cases rx;have hn:=ln;obtain hq | hq:=hq;let⟨its,r',pl,hz⟩:=I.list hq;have dD:=r'.length;show Calls.call_len_list pl.isList (by simp![aF] <;>lia) #[.int ys.length,H,I.tok _,#[s.toks+1,by rw[aF,dD]],q];let⟨its,r',pl,hz⟩:=I.tuple hq;have dD:=r'.length;show len_tuple pl (by simp![aF] <;>lia) #[.int ys.length,H,I.tok _,#[s.toks+1,by rw[aF,dD]],q]
def vS:dU X (.builtin "len") (λxs H Q=> ∃z,cg (xs= [.str z]) (z.length<=sizeLine) (Q (.int z.length) H)):=by intro ae s σ H xs us Q I r h;let⟨z,rfl,hz,q⟩:=h;let⟨u,rfl,t,rfl⟩:=vals1 r;have hn:=ln;show len_str ∅ #[.int z.length,H,I.tok _,#[_,rfl],q]
def vR:dU X (.type "list") (λxs H Q=>bX λp ys=>cg (xs= [.ref p]) (fh X.K H p ys \/ gH X.K H p ys) (∀l,H l=none ->Q (.ref l) (bU H l (.lst ys)))):=by
 intro ae s σ H xs us Q I r h;let⟨p,ys,rfl,hq,q⟩:=h;let⟨u,rfl,rx⟩:=vals1 r;cases rx;have fin: ∀ (its:cz cG),bK ys its ->ys.length<=sizeLine -> ∀ (h':gC) (c':Nat),(∀b o',s.heap.get? b=some o' ->h'.get? b=some o') ->h'.get? s.heap.objs.size=some {cls:= .type "list",dict:=none,data:= .seq its.toArray c',slots:= #[]} ->EP X ae σ Q (.ref s.heap.objs.size) {s with heap:=h'}:=λits r' hz h' c' kp e=>#[.ref s.heap.objs.size,_,I.laid (t':=s.toks) kp (ak _) (show dF X.prog X.w _ h' _ (.lst ys) from#[hz,its,c',r',e]),rfl,q _ (I.b0.fresh (ak _))]
 obtain hq | hq:=hq;let⟨its,r',pl,hz⟩:=I.list hq;have dD:=r'.length;let⟨o,ho,hc,n,hd⟩:=pl.isList;show call_list_seq p (.inl rfl) ho hc hd (λh' c' kp e=>fin its r' hz h' c' kp e) (by simp![aF] <;>lia);let⟨its,r',pl,hz⟩:=I.tuple hq;have dD:=r'.length;let⟨o,ho,hc,n,hd⟩:=pl;show call_list_seq p (.inr rfl) ho hc hd (λh' c' kp e=>fin its r' hz h' c' kp e) (by simp![aF] <;>lia)
def sX:dU X (.type "tuple") (λxs H Q=>bX λp ys=>xs= [.ref p] /\ ((fh X.K H p ys /\ ∀l,H l=none ->Q (.ref l) (bU H l (.tup ys))) \/ (gH X.K H p ys /\ Q (.ref p) H))):=by
 intro ae s σ H xs us Q I r h;let⟨p,ys,rfl,h⟩:=h;let⟨u,rfl,rx⟩:=vals1 r;cases rx;rcases h with⟨hq,q⟩ | ⟨hq,q⟩
 let⟨its,r',pl,hz⟩:=I.list hq;have dD:=r'.length;exact call_tuple_list pl.isList (λh' kp=> ?_) (by simp![aF] <;>lia);have I1:Inv X ae σ H {s with heap:=h'}:=I.kept (t':=s.toks) kp;have I2:Inv X ae σ (bU H h'.objs.size (.tup ys)) {s with heap:=h'.push {cls:= .type "tuple",data:= .seq its.toArray}}:=I1.laid (t':=s.toks) (λb o e=>ai _ e) (ak _) (show dF X.prog X.w _ _ _ (.tup ys) from#[hz,its,r',v7.new _ _]);show#[.ref h'.objs.size,_,I2,rfl,q _ (I1.b0.fresh (ak _))];let⟨its,r',pl,hz⟩:=I.tuple hq;show call_tuple_same pl #[.ref p,H,I,rfl,q]
def W7 (K:gg)(T:String)(x:V)(H:Hp):Prop:=match x with
 | .str _=>T= "str"
 | .int _=>T= "int"
 | .ref p=>(T= "list" /\ ∃xs,fh K H p xs) \/ (T= "tuple" /\ ∃o,cg (K.lookup p=some o) (o.cls= .type "tuple") (o.dict=none)) \/(T= "dict" /\ ((∃kvs,H p=some (.dK kvs)) \/ ∃kvs,H p=some (.dT kvs))) \/ (T= "set" /\ ∃S n,H p=some (.set S n))
 | _=>False
def Nc {ae:cz (dw×Obj)}{σ:St}{H:Hp}{s:cL}{T:String}{x:V}{v:cG}(I:Inv X ae σ H s)(r:RelV x v)(ty:W7 X.K T x H): s.TypeIs v T /\ ∀a,v= .ref a -> ∃ob,s.heap.get? a=some ob /\ ob.dict=none:=by
 cases x with
 | str z=>let⟨t,rfl⟩:=r;cases (show T= "str" from ty);show#[typeIs_str s z t,λ_ e=>nomatch e]
 | int i=>let⟨t,rfl⟩:=r;cases (show T= "int" from ty);show#[typeIs_int s i t,λ_ e=>nomatch e]
 | ref p =>
  cases r;rcases ty with⟨rfl,xs,hq⟩ | ⟨rfl,o,hk,hc,hd⟩ | ⟨rfl,hk⟩ | ⟨rfl,S,n,hk⟩
  let⟨its,_,pl,_⟩:=I.list hq;exact#[pl.isList.typeIs,λa e=> ?_];cases e;let⟨o,n,e,c,hd,_⟩:=pl;show#[o,e,hd];exact#[#[o,I.qU p o hk,hc],λa e=> ?_];cases e;show#[o,I.qU _ o hk,hd];have z: ∃o,s.heap.get? p=some o /\ o.ExactDict:=by
   rcases hk with⟨kvs,hk⟩ | ⟨kvs,hk⟩
   let⟨_,_,_,_,o,_,_,e,ex,_⟩:=I.b0 p _ hk;show#[o,e,ex];let⟨_,_,_,_,o,_,_,e,ex,_⟩:=I.b0 p _ hk;show#[o,e,ex]
  let⟨o,e,ex⟩:=z;exact#[#[o,e,ex.1],λa e2=> ?_];cases e2;show#[o,e,ex.2.1];let⟨o,_,_,_,e,ex,_⟩:=I.b0 p _ hk;exact#[#[o,e,ex.1],λa e2=> ?_];cases e2;show#[o,e,ex.2.1]
 | _=>show False.elim ty
def Xg (K:gg)(T:String)(r:V ->cz V ->Hp ->VK ->Prop)(to:TE)(t:TA):TE:=λσ H Q=>to σ H λx H1=>W7 K T x H1 /\ t σ H1 λxs H2=>r x xs H2 Q
variable {o e:Expr}{es:cz Expr}{to:TE}{t:TA}{name:Str}{dh dg:Pos}{T id:String}{r:V ->cz V ->Hp ->VK ->Prop}
def tV (pa:PlainAttrs T)(slot:Slot T name id)(hty:typeOf (.builtin id)=pure (.type "method_descriptor"))(hm:MtR X id r)(ho:PE X o to)(ha:PA X (e::es) t) (xD:attributeBase o name X.env (eval o X.env)=eval o X.env:=by rfl) (YQ:((backTo dg (starEach (e::es) X.env)).all (λx=> !x.1) && (backToKw dg (keywordEach [] X.env)).all (λx=>x.1.isSome) && decide ((e::es).length+([]:cz Keyword).length+(if([]:cz Keyword).isEmpty then 0 else 1) <30))=true:=by rfl) (xB:(dh.endLine==dg.line)=true:=by rfl) (hs:starEach (e::es) X.env=(false,eval e X.env)::starEach es X.env:=by rfl) (OS:(backTo dg (starEach es X.env)).any (·.1)=false:=by rfl): PE X (.Call (.Attribute o name dh) (e::es) [] dg) (Xg X.K T r to t):=by intro ae s σ H Q I h;exact wpAny_Call_method_late xD YQ xB rfl (ci (ho ae s σ H _ I h) λv s1 ⟨x,H1,I1,r1,ty,q1⟩=> ?_);let⟨h1,h2⟩:=Nc I1 r1 ty;exact#[T,id,pa,slot,hty,h1,h2,?_];have hA:=ha dg ae s1 σ H1 _ I1 q1;rw[hs] at hA ⊢;exact Calls.callWith_builtin (by change(false || (backTo dg (starEach es X.env)).any (·.1))=false;rw[OS] <;>rfl) (Calls.evalArgs_plain ?_);show ci hA λus s2 ⟨vs,H2,I2,r2,q2⟩=>hm ae s2 σ H2 x vs v us Q I2 r1 r2 q2
end
def MtM (X:Cx)(id:String)(r:V ->cz V ->Hp ->VK ->Prop):Prop:=∀ (ae:cz (dw×Obj)) (s:cL) (σ:St) (H:Hp) (x:V) (xs:cz V) (v:cG) (us:cz cG) (Q:VK),Inv X ae σ H s ->RelV x v ->bK xs us ->r x xs H Q ->wpAny (model X.prog X.w) X.A (call (.builtin id) (v::us)) (EP X ae σ Q) X.xe s
def bK.one: ∀ {x:V} {us:cz cG},bK [x] us -> ∃u,us= [u] /\ RelV x u :=by intro x us h;cases h with | cons r t=>cases t;show#[_,rfl,r]
theorem bK.eraseIdx: ∀ {xs:cz V} {us:cz cG} (i:Nat),bK xs us ->bK (xs.eraseIdx i) (us.eraseIdx i)
 | _,_,_, .nil=> .nil
 | _,_,0, .cons _ t=>t
 | _,_,i+1, .cons r t=> .cons r (bK.eraseIdx i t)
def Po {α:Type}(l:cz α):l.eraseIdx (l.length - 1)=l.dropLast:=by
 induction l with
 | nil=>rfl
 | cons a r ih=>
  cases r with
  | nil=>rfl
  | cons b r=>
   have e:(a::b::r).length - 1=((b::r).length - 1)+1:=by have h1:(a::b::r).length=r.length+2:=rfl;have h2:(b::r).length=r.length+1:=rfl;lia
   rw[e,List.eraseIdx_cons_succ,ih];all_goals rfl
theorem tZ {α:Type}: ∀ (l:cz α) (i:Nat),(l.eraseIdx i).length<=l.length
 | [],_=>ak _
 | _::_,0=>Nat.le_succ _
 | _::r,i+1=>Nat.succ_le_succ (tZ r i)
section
variable {X:Cx}{ae:cz (dw×Obj)}{σ:St}{H:Hp}{s:cL}{l b:dw}{xs ys zs:cz V}
def Inv.Ov {its its':cz cG}{n:Nat}{f:ft cG ->ft cG}{t':Nat}(I:Inv X ae σ H s)(hH:H l=some (.lst xs)) (e:s.heap.get? l=some {cls:= .type "list",data:= .seq its.toArray n}) (hf:f its.toArray=its'.toArray) (hv:bK ys its') (hz:ys.length<=sizeLine): Inv X ae σ (bU H l (.lst ys)) {s with heap:=s.heap.update l (Obj.mapSeq f),toks:=t'}:=by have q:=PySem.IsL.update e f;rw[hf] at q;exact I.write (x:=l) (e:=l) (by rw[hH];show trivial) (.inl rfl) (λb' u hb hu=>(Heap.get?_update_other s.heap (Obj.mapSeq f) (bD hb)).trans hu) #[_,q] ?_;show#[hz,its',_,hv,q]
theorem Inv.X4 {its:cz cG}{t':Nat}(I:Inv X ae σ H s)(hv:bK ys its)(hz:ys.length<=sizeLine): Inv X ae σ (bU H s.heap.objs.size (.lst ys)) {s with heap:=s.heap.push {cls:= .type "list",data:= .seq its.toArray},toks:=t'}:=I.laid (λ_ _ q=>ai _ q) (ak _) #[hz,its,0,hv,aJ _ rfl]
theorem Inv.fresh (I:Inv X ae σ H s):H s.heap.objs.size=none:=I.b0.fresh (ak _)
def Inv.Cz (I:Inv X ae σ H s)(hH:H l=some (.lst xs)):xs.length<=sizeLine /\ bX λ(its:cz cG) (n:Nat)=>cg (bK xs its) (xs.length=its.length) (s.heap.get? l=some {cls:= .type "list",data:= .seq its.toArray n}):=by let⟨z,its,n,r,e⟩:=I.b0 l _ hH;show#[z,its,n,r,r.length,e]
def Fy {n:Nat}(h:n<=sizeLine):Builtin.List.listTooLong n=false:=by unfold Builtin.List.listTooLong;show bg ∅
end
section
variable {X:Cx}
def AD:V ->cz V ->Hp ->VK ->Prop:=λx vs H Q=>dY λl xs y=>d9 (x= .ref l) (vs= [y]) (H l=some (.lst xs)) (xs.length<sizeLine) (Q .dJ (bU H l (.lst (xs++ [y]))))
def hW:MtM X "list.append" AD:=by intro ae s σ H x vs v us Q I rx rv h;let⟨l,xs,y,rfl,rfl,hH,hz,q⟩:=h;cases rx;let⟨u,rfl,ru⟩:=rv.one;let⟨z,its,n,r,hl,e⟩:=I.Cz hH;exact call_meets F.slot_list_append #[_,e,rfl] F.entry_list_append (F.args_list_append_2 _ _) (PySem.list_append l its.toArray n u (by rw[aF];lia)) #[e,?_];exact#[.dJ,_,I.Ov (its':=its++ [u]) hH e (by simp) (r.append (.cons ru .nil)) ?_,rfl,q];rw[aV,List.length_singleton];lia
def IX:V ->cz V ->Hp ->VK ->Prop:=λx vs H Q=>gs λl b xs zs=>oq (x= .ref l) (vs= [.ref b]) (H l=some (.lst xs)) (H b=some (.lst zs)) (xs.length+zs.length<=sizeLine) (Q .dJ (bU H l (.lst (xs++zs))))
def Qo:MtM X "list.extend" IX:=by
 intro ae s σ H x vs v us Q I rx rv h;let⟨l,b,xs,zs,rfl,rfl,hH,hB,hz,q⟩:=h;cases rx;let⟨u,rfl,ru⟩:=rv.one;cases ru;let⟨z,its,n,r,hl,e⟩:=I.Cz hH;let⟨z2,zA,n2,r2,VR,e2⟩:=I.Cz hB;have hsz:its.toArray.size+zA.toArray.size<=sizeLine:=by rw[aF,aF];lia
 have Tf:¬(!its.toArray.isEmpty && Builtin.List.listTooLong (its.toArray.size+zA.toArray.size))=true:=by rw[Fy hsz,Bool.and_false];show aQ
 exact call_meets F.slot_list_extend #[_,e,rfl] F.entry_list_extend (F.args_list_extend_2 _ _) (AutoSeq1.list_extend_list_list_0 l its.toArray n b zA.toArray n2 Tf (by rw[aF];lia) ∅) #[e,e2,?_];exact#[.dJ,_,I.Ov (its':=its++zA) hH e (by simp) (r.append r2) ?_,rfl,q];rw[aV];lia
def aeH:V ->cz V ->Hp ->VK ->Prop:=λx vs H Q=>dY λl xs y=>d9 (x= .ref l) (vs= []) (H l=some (.lst xs)) (xs[xs.length - 1]? =some y) (Q y (bU H l (.lst xs.dropLast)))
def EO:V ->cz V ->Hp ->VK ->Prop:=λx vs H Q=>rN λl xs i k y=>MJ (x= .ref l) (vs= [.int i]) (H l=some (.lst xs)) (-(2 ^ 63) <=i) (i<2 ^ 63) (seqIndex? i xs.length=some k) (xs[k]? =some y) (Q y (bU H l (.lst (xs.eraseIdx k))))
def xq:MtM X "list.pop" EO:=by intro ae s σ H x vs v us Q I rx rv h;let⟨l,xs,i,k,y,rfl,rfl,hH,h1,h2,hk,hy,q⟩:=h;cases rx;let⟨u,rfl,ru⟩:=rv.one;let⟨t,rfl⟩:=ru;let⟨z,its,n,r,hl,e⟩:=I.Cz hH;let⟨w,hw,w8⟩:=r.get hy;exact call_meets F.slot_list_pop #[_,e,rfl] F.entry_list_pop (F.args_list_pop_2 _ _) (MeetsSeq.list_pop_at l its.toArray n i t k w (fitsIndex_both h1 h2) (by rw[aF, <- hl];show hk) (by rw[<- Array.getElem?_toList];show hw) (by rw[aF];lia)) #[e,?_];exact#[y,_,I.Ov (its':=its.eraseIdx k) hH e ?_ (r.eraseIdx k) ?_,w8,q];change its.toArray.eraseIdxIfInBounds k=(its.eraseIdx k).toArray;rw[List.eraseIdxIfInBounds_toArray];have:=tZ xs k;lia
def Sb:R2:=λx y H Q=>gs λl b xs zs=>oq (x= .ref l) (y= .ref b) (H l=some (.lst xs)) (H b=some (.lst zs)) (xs.length+zs.length<=sizeLine) (∀p,H p=none ->Q (.ref p) (bU H p (.lst (xs++zs))))
def Fp:kB X (binaryOp .Add) Sb:=by
 intro ae s σ H x y v u Q I rx ry h;let⟨l,b,xs,zs,rfl,rfl,hH,hB,hz,q⟩:=h;cases rx;cases ry;let⟨z,its,n,r,hl,e⟩:=I.Cz hH;let⟨z2,zA,n2,r2,VR,e2⟩:=I.Cz hB;exact PySem.P.add_list e e2 ?_ (by rw[aF,aF];lia);have ea:its.toArray++zA.toArray=(its++zA).toArray:=by simp
 rw[ea];show#[.ref _,_,I.X4 (t':=s.toks) (r.append r2) (by rw[aV];lia),rfl,q _ I.fresh]
end
section
variable {κ:Type} [DecidableEq κ]
def gU (kvs:cz (κ×V))(k:κ):cT V:=(kvs.find? λkv=>decide (kv.1=k)).map (·.2)
def fA (kvs:cz (κ×V))(k:κ)(v:V):cz (κ×V):=if(kvs.any λkv=>decide (kv.1=k))=true then kvs.map (λkv=>if kv.1=k then(kv.1,v) else kv) else kvs++ [(k,v)]
def pf (kvs:cz (κ×V))(k:κ):cz (κ×V):=kvs.filter λkv=>decide (kv.1≠k)
def qj {p:κ×V}{r:cz (κ×V)}{k:κ}(e:p.1=k):gU (p::r) k=some p.2:=by simp[gU,cH,e]
def qk {p:κ×V}{r:cz (κ×V)}{k:κ}(e:¬p.1=k):gU (p::r) k=gU r k:=by simp[gU,cH,e]
theorem wA (k:κ): ∀kvs:cz (κ×V),(kvs.any λkv=>decide (kv.1=k))=(gU kvs k).isSome
 | []=>rfl
 | p::r=>by rw[List.any_cons];by_cases e:p.1=k;simp![qj e,b_ e,Bool.true_or,Option.isSome_some];rw[qk e,bg e,Bool.false_or];show wA k r
def gD (kvs:cz (κ×V))(k:κ)(v:V):(fA kvs k v).length<=kvs.length+1:=by unfold fA;split;rw[ao];lia;rw[aV,aI,List.length_nil];lia
def jj.fZ {o:cT V}{u:cT cG}(r:jj o u):o.isSome=u.isSome:=by
 cases o with
 | none=>cases u with
  | none=>rfl
  | some _=>show(show False from r).elim
 | some _=>cases u with
  | none=>show(show False from r).elim
  | some _=>rfl
def jj.getD {o:cT V}{u:cT cG}{d:V}{d':cG}(r:jj o u)(rd:RelV d d'):RelV (o.getD d) (u.getD d'):=by
 cases o with
 | none=>cases u with
  | none=>show rd
  | some _=>show(show False from r).elim
 | some _=>cases u with
  | none=>show(show False from r).elim
  | some _=>show r
def KV.val {kvs:cz (κ×V)}{vs:cz (κ×cG)}(r:KV kvs vs)(k:κ):jj (gU kvs k) (valueAt vs k):=by
 unfold KV at r;induction r with
 | nil=>show True.intro
 | @cons p q ps qs h t ih=>
  let⟨h1,h2⟩:=h;by_cases e:p.1=k;have e':q.1=k:=h1.symm.trans e;have b:valueAt (q::qs) k=some q.2:=by simp[valueAt,cH,e']
  rw[qj e,b];show h2;have e':¬q.1=k:=λz=>e (h1.trans z);have b:valueAt (q::qs) k=valueAt qs k:=by simp[valueAt,cH,e']
  rw[qk e,b];show ih
def KV.any {kvs:cz (κ×V)}{vs:cz (κ×cG)}(r:KV kvs vs)(k:κ):(kvs.any λkv=>decide (kv.1=k))=vs.any λkv=>decide (kv.1=k):=by
 unfold KV at r;induction r with
 | nil=>rfl
 | cons h t ih=>rw[List.any_cons,List.any_cons,ih,h.1]
def KV.Nz {kvs:cz (κ×V)}{vs:cz (κ×cG)}(r:KV kvs vs)(k:κ){y:V}{u:cG}(ry:RelV y u): KV (kvs.map λkv=>if kv.1=k then(kv.1,y) else kv) (vs.map λkv=>if kv.1=k then(kv.1,u) else kv):=by
 unfold KV at r ⊢;induction r with
 | nil=>show .nil
 | @cons p q ps qs h t ih=>rw[az,az];exact .cons ?_ ih;let⟨h1,h2⟩:=h;by_cases e:p.1=k;rw[aj e,aj (h1.symm.trans e)];show#[h1,ry];rw[ah e,ah (λz=>e (h1.trans z))];show#[h1,h2]
def KV.put {kvs:cz (κ×V)}{vs:cz (κ×cG)}(r:KV kvs vs)(k:κ){y:V}{u:cG}(ry:RelV y u):KV (fA kvs k y) (stored vs k u):=by unfold fA stored;rw[r.any k];by_cases e:(vs.any λkv=>decide (kv.1=k))=true;rw[aj e,aj e];show r.Nz k ry;rw[ah e,ah e];show Paired.snoc r #[rfl,ry]
def KV.drop {kvs:cz (κ×V)}{vs:cz (κ×cG)}(r:KV kvs vs)(k:κ):KV (pf kvs k) (without vs k):=by
 unfold KV at r ⊢;unfold pf without;induction r with
 | nil=>show .nil
 | @cons p q ps qs h t ih=>
  let⟨h1,h2⟩:=h;rw[List.filter_cons,List.filter_cons];by_cases e:p.1=k;have a:¬decide (p.1≠k)=true:=by simp[e]
  have b:¬decide (q.1≠k)=true:=by simp[h1.symm.trans e]
  rw[ah a,ah b];show ih;have e':¬q.1=k:=λz=>e (h1.trans z);have a:decide (p.1≠k)=true:=by simp[e]
  have b:decide (q.1≠k)=true:=by simp[e']
  rw[aj a,aj b];show .cons #[h1,h2] ih
def KV.keys {kvs:cz (κ×V)}{vs:cz (κ×cG)}(r:KV kvs vs):kvs.map (·.1)=vs.map (·.1):=by
 unfold KV at r;induction r with
 | nil=>rfl
 | cons h t ih=>rw[az,az,ih,h.1]
theorem KV.length {kvs:cz (κ×V)}{vs:cz (κ×cG)}(r:KV kvs vs):kvs.length=vs.length:=Paired.length r
theorem GS (kvs:cz (κ×V))(k:κ):(pf kvs k).length<=kvs.length:=List.length_filter_le _ _
end
def ml {P:gA}{w:gB}{k:bH}{u:cG}(r:RelV (kV k) u):(bQ P w).is k u=true:=by
 cases k with
 | inl i=>let⟨t,e⟩:=(show ∃t,u=Value.int i t from r);subst e;show xu P w i t
 | inr x=>let⟨t,e⟩:=(show ∃t,u=Value.str x t from r);subst e;show xt P w x t
theorem ub {P:gA}{w:gB}: ∀ {ks:cz bH} {us:cz cG},bK (ks.map kV) us ->ItemsAre (bQ P w) ks us
 | [],_,r=>by rw[bL] at r;cases r;show .nil
 | k::ks,_,r=>by
  rw[az] at r;cases r with
  | cons h t=>show .cons (ml h) (ub t)
abbrev KT (H:Hp):cz (cz bH×V) ->cz (cz bH×dw×cG) ->Prop:=Paired λp q=>p.1=q.1 /\ H q.2.1=some (.tup (p.1.map kV)) /\ RelV p.2 q.2.2
def KT.val {H:Hp}{kvs:cz (cz bH×V)}{xs:cz (cz bH×dw×cG)}(r:KT H kvs xs)(k:cz bH):jj (gU kvs k) ((atKey xs k).map (·.2)):=by
 induction r with
 | nil=>show True.intro
 | @cons p q ps qs h t ih=>
  let⟨h1,_,h2⟩:=h;by_cases e:p.1=k;have e':q.1=k:=h1.symm.trans e;have b:atKey (q::qs) k=some q.2:=by simp[atKey,cH,e']
  rw[qj e,b];show h2;have e':¬q.1=k:=λz=>e (h1.trans z);have b:atKey (q::qs) k=atKey qs k:=by simp[atKey,cH,e']
  rw[qk e,b];show ih
def KT.Nz {H:Hp}{kvs:cz (cz bH×V)}{xs:cz (cz bH×dw×cG)}(r:KT H kvs xs)(k:cz bH){y:V}{u:cG}(ry:RelV y u): KT H (kvs.map λkv=>if kv.1=k then(kv.1,y) else kv) (xs.map (putAt k u)):=by
 induction r with
 | nil=>show .nil
 | @cons p q ps qs h t ih=>rw[az,az];exact .cons ?_ ih;let⟨h1,h2,h3⟩:=h;unfold putAt;by_cases e:p.1=k;rw[aj e,aj (h1.symm.trans e)];show#[h1,h2,ry];rw[ah e,ah (λz=>e (h1.trans z))];show#[h1,h2,h3]
def KT.put {H:Hp}{kvs:cz (cz bH×V)}{xs:cz (cz bH×dw×cG)}(r:KT H kvs xs)(k:cz bH){b:dw}{y:V}{u:cG}(hb:H b=some (.tup (k.map kV)))(ry:RelV y u): KT H (fA kvs k y) (storedH xs k b u):=by
 have e:(kvs.any λkv=>decide (kv.1=k))=(atKey xs k).isSome:=by rw[wA,(r.val k).fZ,Option.isSome_map]
 unfold fA storedH;rw[e];by_cases q:(atKey xs k).isSome=true;rw[aj q,aj q];show r.Nz k ry;rw[ah q,ah q];show Paired.snoc r #[rfl,hb,ry]
theorem KT.keeps {H H':Hp}{kvs:cz (cz bH×V)}{xs:cz (cz bH×dw×cG)}(r:KT H kvs xs)(ht: ∀b ys,H b=some (.tup ys) ->H' b=some (.tup ys)):KT H' kvs xs:=Paired.Oq r λ_ _ z=>#[z.1,ht _ _ z.2.1,z.2.2]
section
variable {P:gA}{w:gB}{H:Hp}{h:gC}{a:dw}
theorem LJ {u:HO}(ok:jk P w H h)(e:Rd H a u):dF P w H h a u:=e.ok ok
theorem mP {kvs:cz (bH×V)}(ok:jk P w H h)(e:Rd H a (.dK kvs)):kvs.length<=sizeLine /\ (a==sysModules)=false /\ ∃vs,KV kvs vs /\ h.DictOf (bQ P w) a vs:=
 show dF P w H h a (.dK kvs) from LJ ok e
theorem uo {kvs:cz (bH×V)}(ok:jk P w H h)(e:H a=some (.dK kvs)):kvs.length<=sizeLine /\ (a==sysModules)=false /\ ∃vs,KV kvs vs /\ h.DictOf (bQ P w) a vs:=mP ok (.inl e)
def nZ {ks:cz bH}(ok:jk P w H h)(e:H a=some (.tup (ks.map kV))):(tupleKind (bQ P w)).is h ks a:=by
 let⟨_,its,r,o,h1,h2,n,h3,_⟩:=(show dF P w H h a (.tup (ks.map kV)) from ok a _ e)
 show#[o,its.toArray,n,h1,h2,h3, ⇑(ub r)]
def rA {kvs:cz (cz bH×V)}(ok:jk P w H h)(e:Rd H a (.dT kvs)):kvs.length<=sizeLine /\ (a==sysModules)=false /\∃xs,KT H kvs xs /\ h.DictOfH (tupleKind (bQ P w)) a xs:=by
 let⟨z,y,xs,r,o,es,ep,h1,h2,h3,h4,h5⟩:=(show dF P w H h a (.dT kvs) from LJ ok e)
 exact#[z,y,xs,r,o,es,ep,h1,h2,h3,h4,λx hx=> ?_,h5];have all: ∀ {l:cz (cz bH×V)} {m:cz (cz bH×dw×cG)},KT H l m -> ∀x∈m,(tupleKind (bQ P w)).is h x.1 x.2.1:=by
  intro l m q;induction q with
  | nil=>intro x hx;show nomatch hx
  | @cons p q ps qs hq t ih=>intro x hx;obtain e | hx:=aL.mp hx;subst e;show nZ ok (by rw[<- hq.1];show hq.2.1);show ih x hx
 show all r x hx
theorem TX {kvs:cz (cz bH×V)}(ok:jk P w H h)(e:H a=some (.dT kvs)):kvs.length<=sizeLine /\ (a==sysModules)=false /\∃xs,KT H kvs xs /\ h.DictOfH (tupleKind (bQ P w)) a xs:=rA ok (.inl e)
end
def lC (H:Hp)(a:dw)(y:V)(r:cT V):Prop:=(bX λkvs k=>cg (Rd H a (.dK kvs)) (y=kV k) (r=gU kvs k)) \/ dY λkvs k b=>eZ (Rd H a (.dT kvs)) (y= .ref b) (H b=some (.tup (k.map kV))) (r=gU kvs k)
def HD (H:Hp)(a:dw)(y v:V)(H':Hp):Prop:=(bX λkvs k=>eZ (H a=some (.dK kvs)) (y=kV k) (kvs.length<sizeLine) (H'=bU H a (.dK (fA kvs k v)))) \/dY λkvs k b=>d9 (H a=some (.dT kvs)) (y= .ref b) (H b=some (.tup (k.map kV))) (kvs.length<sizeLine) (H'=bU H a (.dT (fA kvs k v)))
theorem lC.k {H:Hp}{a:dw}{kvs:cz (bH×V)}{k:bH}(e:H a=some (.dK kvs)):lC H a (kV k) (gU kvs k):= .inl #[kvs,k, .inl e,rfl,rfl]
theorem HD.k {H:Hp}{a:dw}{kvs:cz (bH×V)}{k:bH}{v:V}(e:H a=some (.dK kvs))(hl:kvs.length<sizeLine):HD H a (kV k) v (bU H a (.dK (fA kvs k v))):= .inl #[kvs,k,e,rfl,hl,rfl]
section
variable {X:Cx}{ae:cz (dw×Obj)}{σ:St}{H:Hp}{s:cL}{a:dw}{y v:V}{u r:cG}{o:cT V}{A:hV}{E:cG ->cL ->Prop}
def Inv.big (I:Inv X ae σ H s):sysModules<s.heap.objs.size:=by have h:mainGlobals<s.heap.objs.size:=(I.mod.glob.keeps I.bk).lt;show Nat.lt_trans ⋯ h
def C8 {Q:cG ->cL ->Prop}(hu:A.units+1<cLine)(I:Inv X ae σ H s)(g:lC H a y (some v))(ry:RelV y u)(h: ∀w' s',Inv X ae σ H s' ->RelV v w' ->Q w' s'): wpAny (model X.prog X.w) A (getItem (.ref a) u) Q E s:=by
 rcases g with⟨kvs,k,e,ey,l⟩ | ⟨kvs,k,b,e,ey,eb,l⟩
 subst ey;let⟨z,hd,vs,fk,dd⟩:=mP I.b0 e;let⟨w',hw,w8⟩:=jj.some_of (v:=v) (o:=valueAt vs k) (by rw[l];show fk.val k);show wpAny_getItem_of (ml ry) dd.mapOf hw (h w' _ (I.tok _) w8);subst ey;cases (show u=Value.ref b from ry);let⟨z,hd,xs,fk,dd⟩:=rA I.b0 e;let⟨w',hw,w8⟩:=jj.some_of (v:=v) (o:=(atKey xs k).map (·.2)) (by rw[l];show fk.val k);let⟨p,hp,VN⟩:=Option.map_eq_some_iff.mp hw;exact wpAny_getItem_heap (tupleKind_room_in1 hu) (nZ I.b0 eb) dd hp ?_;rw[VN];show h w' _ (I.tok _) w8
def adP {Q:cG ->cL ->Prop}(hu:A.units+1<cLine)(I:Inv X ae σ H s)(g:lC H a y o)(ry:RelV y u)(h: ∀s',Inv X ae σ H s' ->Q (.bool o.isSome) s'): wpAny (model X.prog X.w) A (compareOp .In u (.ref a)) Q E s:=by
 rcases g with⟨kvs,k,e,ey,l⟩ | ⟨kvs,k,b,e,ey,eb,l⟩
 subst ey;let⟨z,hd,vs,fk,dd⟩:=mP I.b0 e;exact wpAny_in_of (ml ry) hd dd.mapOf ?_;rw[<- (fk.val k).fZ, <- l];show h _ (I.tok _);subst ey;cases (show u=Value.ref b from ry);let⟨z,hd,xs,fk,dd⟩:=rA I.b0 e;exact wpAny_in_heap (tupleKind_room_in1 hu) (nZ I.b0 eb) hd dd ?_;have q:=(fk.val k).fZ;rw[Option.isSome_map] at q;rw[<- q, <- l];show h _ (I.tok _)
def Kx {Q:cG ->cL ->Prop}(hu:A.units+1<cLine)(I:Inv X ae σ H s)(g:lC H a y o)(ry:RelV y u)(h: ∀s',Inv X ae σ H s' ->Q (.bool (!o.isSome)) s'): wpAny (model X.prog X.w) A (compareOp .NotIn u (.ref a)) Q E s:=by
 rcases g with⟨kvs,k,e,ey,l⟩ | ⟨kvs,k,b,e,ey,eb,l⟩
 subst ey;let⟨z,hd,vs,fk,dd⟩:=mP I.b0 e;exact wpAny_notIn_of (ml ry) hd dd.mapOf ?_;rw[<- (fk.val k).fZ, <- l];show h _ (I.tok _);subst ey;cases (show u=Value.ref b from ry);let⟨z,hd,xs,fk,dd⟩:=rA I.b0 e;exact wpAny_notIn_heap (tupleKind_room_in1 hu) (nZ I.b0 eb) hd dd ?_;have q:=(fk.val k).fZ;rw[Option.isSome_map] at q;rw[<- q, <- l];show h _ (I.tok _)
theorem qe {h':gC}{t':Nat}{ob:HO}(I:Inv X ae σ H s)(mu:UB (H a))(hs:Heap.SameBut a s.heap h')(he: ∃q,h'.get? a=some q)(new:dF X.prog X.w (bU H a ob) h' a ob): Inv X ae σ (bU H a ob) {s with heap:=h',toks:=t'}:=I.write (x:=a) (e:=a) mu (.inl rfl) (λb q hb z=>(hs.2 b hb).trans z) he new
theorem vP {P:gA}{w:gB}{H':Hp}{h':gC}{kvs:cz (bH×V)}{vs:cz (bH×cG)}(z:kvs.length<=sizeLine)(hd:(a==sysModules)=false)(fk:KV kvs vs)(dd:h'.DictOf (bQ P w) a vs): dF P w H' h' a (.dK kvs):=#[z,hd,vs,fk,dd]
def C4 {H':Hp}{Q:Unit ->cL ->Prop}(hu:A.units+1<cLine)(I:Inv X ae σ H s)(g:HD H a y v H')(ry:RelV y u)(rv:RelV v r)(h: ∀s',Inv X ae σ H' s' ->Q () s'): wpAny (model X.prog X.w) A (setItem (.ref a) u r) Q E s:=by
 rcases g with⟨kvs,k,e,ey,l,eH⟩ | ⟨kvs,k,b,e,ey,eb,l,eH⟩
 subst ey eH;let⟨z,hd,vs,fk,dd⟩:=uo I.b0 e;have hz:vs.length<=sizeLine:=by rw[<- fk.length];show z
 have hl:(fA kvs k v).length<=sizeLine:=by have:=gD kvs k v;lia
 exact wpAny_setItem_pairs (hsz:=hz) (ml ry) dd λh' Ib hs=>h _ ?_;have he: ∃q,h'.get? a=some q:=let ⟨q,_,_,hq,_⟩:=Ib;#[q,hq]
 show qe I (by rw[e];show True.intro) hs he (vP hl hd (fk.put k rv) Ib);subst ey eH;cases (show u=Value.ref b from ry);let⟨z,hd,xs,fk,dd⟩:=TX I.b0 e;have hz:xs.length<=sizeLine:=by rw[<- Paired.length fk];show z
 have hl:(fA kvs k v).length<=sizeLine:=by have:=gD kvs k v;lia
 exact wpAny_setItem_heap (hsz:=hz) (tupleKind_room_in1 hu) (nZ I.b0 eb) dd λh' Ib hs=>h _ ?_;let⟨q,es,ep,hq,h2,h3,h4,_,h5⟩:=Ib;exact qe I (by rw[e];show True.intro) hs #[q,hq] #[hl,hd,_,(fk.put k eb rv).keeps λc ys ec=> ?_,q,es,ep,hq,h2,h3,h4,h5];rw[bq (SE ec e (λz=>nomatch z))];show ec
end
section
variable {X:Cx}{ae:cz (dw×Obj)}{σ:St}{H:Hp}{s:cL}{a:dw}{kvs:cz (bH×V)}{k:bH}{u:cG}{A:hV}{E:cG ->cL ->Prop}
def C9 {Q:Unit ->cL ->Prop}(I:Inv X ae σ H s)(e:H a=some (.dK kvs))(ry:RelV (kV k) u)(l:(gU kvs k).isSome=true)(h: ∀s',Inv X ae σ (bU H a (.dK (pf kvs k))) s' ->Q () s'): wpAny (model X.prog X.w) A (delItem (.ref a) u) Q E s:=by
 let⟨z,hd,vs,fk,dd⟩:=uo I.b0 e;exact wpAny_delItem_slot dd.typeIs ⋯ PySem.F.slot_dict_delitem (call_meetsIn PySem.F.slot_dict_delitem dd.typeIs PySem.F.entry_dict_delitem (PySem.F.args_dict_delitem_2 _ _) (meets_dict_delitem_pairs (bQ X.prog X.w) a (ml ry)) #[vs,dd,by rw[<- fk.length];show z,by rw[<- (fk.val k).fZ];show l,λh' Ib hs=>h _ ?_]);have he: ∃q,h'.get? a=some q:=let ⟨q,_,_,hq,_⟩:=Ib;#[q,hq]
 show qe I (by rw[e];show True.intro) hs he (vP (aH (GS kvs k) z) hd (fk.drop k) Ib)
end
def Uz (i:Expr):Prop:= ∀ov iv,subscripted i false ov iv=operate [ov,iv] (getItem ov iv)
def IF {prog:gA}{w:gB}{A:hV}{E:cG ->cL ->Prop}{s:cL}{env:Env}{value slice:Expr}{pos:Pos}{T id:String}{Q:cG ->cL ->Prop} (hl:typeLookup (.type T) "__getitem__" =pure (some (.builtin id))) (hs:Uz slice) (h:wpAny (model prog w) A (eval value env) (λo s₁=>wpAny (model prog w) A (eval slice env) (λi s₂=>s₂.TypeIs o T /\ wpAny (model prog w) A (getItem o i) Q E s₂) E s₁) E s): wpAny (model prog w) A (eval (.Subscript value slice pos) env) Q E s:=by
 exact Subscript_ (a9 h (λo s₁ h₁=>a9 h₁ (λi s₂ h₂=> ?_) λ_ _ x=>x) λ_ _ x=>x);let⟨hT,h₂⟩:=h₂;unfold subscriptTail;exact af ?_;rw[getitemInPython_of_ne hT.not_modules];exact af (wpAny_specialOf hT hl ?_);have fin:wpAny (model prog w) A (subscripted slice false o i) (λr s₃=>wpAny (model prog w) A (letTemporaryGo value o r >>=λ_=>pure r) Q E s₃) E s₂:=by rw[hs o i];show wpAny_operating (a9 h₂ (λr s₃ h₃=>af (wpAny_letTemporaryGo (aC h₃))) λ_ _ x=>x)
 first
 | show aC (af fin)
 | show af (aC (af fin))
 | show af fin
def xR {X:Cx}{ae:cz (dw×Obj)}{σ:St}{H:Hp}{s:cL}{a:dw}{y:V}{o:cT V}(I:Inv X ae σ H s)(g:lC H a y o):s.TypeIs (.ref a) "dict" :=by
 rcases g with⟨kvs,k,e,_,_⟩ | ⟨kvs,k,b,e,_,_,_⟩
 let⟨_,_,vs,_,dd⟩:=mP I.b0 e;show dd.typeIs;let⟨_,_,xs,_,dd⟩:=rA I.b0 e;show dd.typeIs
def Lv (td ty:TE):TE:=λσ H Q=>td σ H λx H1=>ty σ H1 λy H2=>bX λa v=>cg (x= .ref a) (lC H2 a y (some v)) (Q v H2)
def RD (ty td:TE):TE:=λσ H Q=>ty σ H λy H1=>td σ H1 λx H2=>bX λa o=>cg (x= .ref a) (lC H2 a y o) (Q (.bl o.isSome) H2)
def Al (ty td:TE):TE:=λσ H Q=>ty σ H λy H1=>td σ H1 λx H2=>bX λa o=>cg (x= .ref a) (lC H2 a y o) (Q (.bl (!o.isSome)) H2)
def LG (td ty tv:TE):TS:=λD σ H=>tv σ H λv H1=>td σ H1 λx H2=>ty σ H2 λy H3=>bX λa H4=>cg (x= .ref a) (HD H3 a y v H4) (D.nx σ H4)
def LH (td ty:TE):TS:=λD σ H=>td σ H λx H1=>ty σ H1 λy H2=>dY λa kvs k=>d9 (x= .ref a) (H2 a=some (.dK kvs)) (y=kV k) ((gU kvs k).isSome=true) (D.nx σ (bU H2 a (.dK (pf kvs k))))
section
variable {X:Cx}{o i e value:Expr}{pos fV Ee:Pos}{td ty tv:TE}
def eT (hu:X.A.units+1<cLine)(ho:PE X o td)(hi:PE X i ty)(hs:Uz i):PE X (.Subscript o i pos) (Lv td ty):=by intro ae s σ H Q I h;exact IF PySem.F.slot_dict_getitem.lookup hs (ci (ho ae s σ H _ I h) λu s1 ⟨x,H1,I1,rx,q1⟩=>ci (hi ae s1 σ H1 _ I1 q1) λiv s2 ⟨y,H2,I2,ry,a,v,ex,g,q2⟩=> ?_);subst ex;obtain rfl:u=Value.ref a:=rx;show#[xR I2 g,C8 hu I2 g ry λw' s3 I3 w8=>#[v,H2,I3,w8,q2]]
def NK (hu:X.A.units+1<cLine)(hi:PE X i ty)(ho:PE X o td):PC X .In i o (RD ty td):=by intro ae s σ H Q I h;exact ci (hi ae s σ H _ I h) λiv s1 ⟨y,H1,I1,ry,q1⟩=>ci (ho ae s1 σ H1 _ I1 q1) λu s2 ⟨x,H2,I2,rx,a,ov,ex,g,q2⟩=> ?_;subst ex;obtain rfl:u=Value.ref a:=rx;show adP hu I2 g ry λs3 I3=>#[.bl ov.isSome,H2,I3,rfl,q2]
def nS (hu:X.A.units+1<cLine)(hi:PE X i ty)(ho:PE X o td):PC X .NotIn i o (Al ty td):=by intro ae s σ H Q I h;exact ci (hi ae s σ H _ I h) λiv s1 ⟨y,H1,I1,ry,q1⟩=>ci (ho ae s1 σ H1 _ I1 q1) λu s2 ⟨x,H2,I2,rx,a,ov,ex,g,q2⟩=> ?_;subst ex;obtain rfl:u=Value.ref a:=rx;show Kx hu I2 g ry λs3 I3=>#[.bl (!ov.isSome),H2,I3,rfl,q2]
def AG (hu:X.A.units+1<cLine)(ho:PE X o td)(hi:PE X i ty)(hv:PE X value tv)(hs:swapsWith value (some (.Subscript o i fV)) pos.line X.env=pure false): PS X (.Assign [.Subscript o i fV] value pos) (LG td ty tv):=by intro ae s σ H D I h;exact wpAny_Assign_Subscript (ci (hv ae s σ H _ I h) λr s1 ⟨v,H1,I1,rv,q1⟩=>ci (ho ae s1 σ H1 _ I1 q1) λu s2 ⟨x,H2,I2,rx,q2⟩=>ci (hi ae s2 σ H2 _ I2 q2) λiv s3 ⟨y,H3,I3,ry,a,H4,ex,g,q3⟩=> ?_) hs;subst ex;obtain rfl:u=Value.ref a:=rx;show C4 hu I3 g ry rv λs4 I4=>#[σ,H4,I4,q3]
def I_ (ho:PE X o td)(hi:PE X i ty):PS X (.Delete [.Subscript o i Ee] pos) (LH td ty):=by intro ae s σ H D I h;exact wpAny_Delete (wpAny_deleteEach_cons (wpAny_delete_Subscript (ci (ho ae s σ H _ I h) λu s1 ⟨x,H1,I1,rx,q1⟩=>ci (hi ae s1 σ H1 _ I1 q1) λiv s2 ⟨y,H2,I2,ry,a,kvs,k,ex,e,ey,l,q2⟩=> ?_)));subst ex ey;obtain rfl:u=Value.ref a:=rx;show C9 I2 e ry l λs3 I3=>wpAny_deleteEach_nil #[σ,_,I3,q2]
end
theorem xQ {P:gA}{w:gB}{H:Hp}(h:gC)(hb:sysModules<h.objs.size):dF P w H (h.push {cls:= .type "dict",data:= .dict #[]}) h.objs.size (.dK []):=#[cN _,beq_eq_false_iff_ne.mpr (bD (aN hb)),[], .nil,Heap.DictOf.new h]
def Eo:TE:=λ_ H Q=> ∀p,H p=none ->Q (.ref p) (bU H p (.dK []))
section
variable {X:Cx}{pos:Pos}
theorem jF:PE X (.Dict [] [] pos) Eo:=λae s σ H Q I h=>wpAny_Dict_empty #[.ref s.heap.objs.size,_,I.laid (a:=s.heap.objs.size) (o:= .dK []) (t':=s.toks) (λ_ _ q=>ai _ q) (ak _) (xQ s.heap I.big),rfl,h _ (I.b0.fresh (ak _))]
end
def yU:cz (TE×TE) ->St ->Hp ->(cz (V×V) ->Hp ->Prop) ->Prop
 | [],_,H,Q=>Q [] H
 | (tk,tv)::r,σ,H,Q=>tk σ H λx H1=>tv σ H1 λy H2=>yU r σ H2 λps H3=>Q ((x,y)::ps) H3
abbrev VV:cz (V×V) ->cz (cG×cG) ->Prop:=Paired λp q=>RelV p.1 q.1 /\ RelV p.2 q.2
def V7 (X:Cx)(pos:Pos)(keys:cz (cT Expr))(values:cz Expr)(Ix:cz (TE×TE)):Prop:=∀ (ae:cz (dw×Obj)) (s:cL) (σ:St) (H:Hp) (Q:cz (V×V) ->Hp ->Prop),Inv X ae σ H s ->yU Ix σ H Q ->wpAny (model X.prog X.w) X.A (evalPairs (pairTrees keys values X.env pos)) (λvs s'=>bX λps H'=>cg (Inv X ae σ H' s') (VV ps vs) (Q ps H')) X.xe s
theorem Jb {X:Cx}{pos:Pos}:V7 X pos [] [] []:=λae s σ H Q I h=>pairTrees_nil_walk #[[],H,I, .nil,h]
theorem E2 {X:Cx}{pos:Pos}{k v:Expr}{ks:cz (cT Expr)}{vs:cz Expr}{tk tv:TE}{Ix:cz (TE×TE)}(hk:PE X k tk)(hv:PE X v tv)(hr:V7 X pos ks vs Ix): V7 X pos (some k::ks) (v::vs) ((tk,tv)::Ix):=λae s σ H Q I h=>pairTrees_cons_walk (ci (hk ae s σ H _ I h) λu s1 ⟨x,H1,I1,rx,q1⟩=>ci (hv ae s1 σ H1 _ I1 q1) λw2 s2 ⟨y,H2,I2,ry,q2⟩=>ci (hr ae s2 σ H2 _ I2 q2) λws s3 ⟨ps,H3,I3,fk,q3⟩=>#[(x,y)::ps,H3,I3, .cons #[rx,ry] fk,q3])
def jL (kvs more:cz (bH×V)):cz (bH×V):=more.foldl (λd4 kv=>fA d4 kv.1 kv.2) kvs
def KV.merge: ∀ {more:cz (bH×V)} {rs:cz (bH×cG)} {kvs:cz (bH×V)} {vs:cz (bH×cG)},KV more rs ->KV kvs vs ->KV (jL kvs more) (merged vs rs):=by
 intro more rs kvs vs r;unfold KV at r;induction r generalizing kvs vs with
 | nil=>intro q;show q
 | @cons p q ps qs h t ih=>
  intro r0;have e:KV (fA kvs p.1 p.2) (stored vs q.1 q.2):=by have:=r0.put p.1 h.2;rw[<- h.1];show this
  show ih e
theorem kT: ∀ (more kvs:cz (bH×V)),(jL kvs more).length<=kvs.length+more.length
 | [],kvs=>by change kvs.length<=kvs.length+0;lia
 | p::r,kvs=>by have h1:=kT r (fA kvs p.1 p.2);have h2:=gD kvs p.1 p.2;change(jL (fA kvs p.1 p.2) r).length<=_;rw[aI];lia
theorem rJ {P:gA}{w:gB}: ∀ {kvs:cz (bH×V)} {ws:cz (cG×cG)},VV (kvs.map λkv=>(kV kv.1,kv.2)) ws -> ∃rs,Carries (bQ P w) ws rs /\ KV kvs rs
 | [],_,r=>by rw[bL] at r;cases r;show#[[],True.intro, .nil]
 | p ::kvs,_,r=>by
  rw[az] at r;cases r with
  | @cons a b as bs h t=>let⟨rs,c,q⟩:=rJ (P:=P) (w:=w) t;let⟨b1,b2⟩:=b;show#[(p.1,b2)::rs,#[ml h.1,rfl,c], .cons #[rfl,h.2] q]
def En (Ix:cz (TE×TE)):TE:=λσ H Q=> ∀p,H p=none ->yU Ix σ (bU H p (.dK [])) λps H2=>H2 p=some (.dK []) /\ ∃kvs:cz (bH×V),cg (ps=kvs.map (λkv=>(kV kv.1,kv.2))) (kvs.length<=15) (Q (.ref p) (bU H2 p (.dK (jL [] kvs))))
def Jg {X:Cx}{pos:Pos}{keys:cz (cT Expr)}{values:cz Expr}{Ix:cz (TE×TE)}(h:V7 X pos keys values Ix)(zH:keys.all (·.isSome)=true)(hl:keys.length=values.length)(h0:keys≠ []) (h15:keys.length<=15):PE X (.Dict keys values pos) (En Ix):=by
 intro ae s σ H Q I q;have hn:=I.b0.fresh (ak s.heap.objs.size);have I1:=I.laid (a:=s.heap.objs.size) (o:= .dK []) (h':=s.heap.push {cls:= .type "dict",data:= .dict #[]}) (t':=s.toks) (λ_ _ q=>ai _ q) (ak _) (xQ s.heap I.big);exact wpAny_Dict_walk (knd:=bQ X.prog X.w) zH hl h0 h15 (ci (h ae _ σ _ _ I1 (q _ hn)) λws s2 ⟨ps,H2,I2,fk,e,kvs,ep,lk,q2⟩=> ?_);subst ep;let⟨rs,c,rk⟩:=rJ (P:=X.prog) (w:=X.w) fk;let⟨z,hd,vs0,r0,dd⟩:=uo I2.b0 e;cases r0;exact#[rs,c,dd,λh' Ib hs=>#[.ref s.heap.objs.size,_,?_,rfl,q2]];have hz:(jL [] kvs).length<=sizeLine:=by have h1:=kT kvs [];rw[List.length_nil] at h1;rw[bY];lia
 have he: ∃q,h'.get? s.heap.objs.size=some q:=let ⟨q,_,_,hq,_⟩:=Ib;#[q,hq]
 show qe I2 (by rw[e];show True.intro) hs he (vP hz hd (rk.merge .nil) Ib)
structure M1 (X:Cx)(o:Expr)(m:Str)(dh:Pos)(e:Expr)(dg:Pos):Prop where
 base:attributeBase o m X.env (eval o X.env)=eval o X.env
 HY:((backTo dg (starEach [e] X.env)).all (λx=> !x.1) && (backToKw dg (keywordEach [] X.env)).all (λx=>x.1.isSome) && decide (([e]:List Expr).length+([]:List Keyword).length+(if([]:List Keyword).isEmpty then 0 else 1) <30))=true
 line:(dh.endLine==dg.line)=true
 trees:backTo dg (starEach [e] X.env)= [(false,eval e X.env)]
structure M2 (X:Cx)(o:Expr)(m:Str)(dh:Pos)(e f:Expr)(dg:Pos):Prop where
 base:attributeBase o m X.env (eval o X.env)=eval o X.env
 HY:((backTo dg (starEach [e,f] X.env)).all (λx=> !x.1) && (backToKw dg (keywordEach [] X.env)).all (λx=>x.1.isSome) && decide (([e,f]:List Expr).length+([]:List Keyword).length+(if([]:List Keyword).isEmpty then 0 else 1) <30))=true
 line:(dh.endLine==dg.line)=true
 trees:backTo dg (starEach [e,f] X.env)= [(false,eval e X.env),(false,eval f X.env)]
def IsD (H:Hp)(a:dw):Prop:=(∃kvs,Rd H a (.dK kvs)) \/ ∃kvs,Rd H a (.dT kvs)
def zE {X:Cx}{ae:cz (dw×Obj)}{σ:St}{H:Hp}{s:cL}{a:dw}(I:Inv X ae σ H s)(d:IsD H a): s.TypeIs (.ref a) "dict" /\ (∀b,Value.ref a= .ref b -> ∃ob,s.heap.get? b=some ob /\ ob.dict=none) /\ (a==sysModules)=false:=by
 rcases d with⟨kvs,e⟩ | ⟨kvs,e⟩
 let⟨_,hd,vs,_,dd⟩:=mP I.b0 e;exact#[dd.typeIs,λb q=> ?_,hd];cases q;let⟨ob,_,_,h1,h2,_⟩:=dd;show#[ob,h1,h2.2.1];let⟨_,hd,xs,_,dd⟩:=rA I.b0 e;exact#[dd.typeIs,λb q=> ?_,hd];cases q;let⟨ob,_,_,h1,h2,_⟩:=dd;show#[ob,h1,h2.2.1]
section
variable {X:Cx}{ae:cz (dw×Obj)}{σ:St}{H:Hp}{s:cL}{a:dw}{y d:V}{u r:cG}{o:cT V}{A:hV}{E:cG ->cL ->Prop}
def Pr {Q:cG ->cL ->Prop}(hu:A.units+1<cLine)(I:Inv X ae σ H s)(g:lC H a y o)(ry:RelV y u)(rd:RelV d r)(h: ∀w' s',Inv X ae σ H s' ->RelV (o.getD d) w' ->Q w' s'): wpAny (model X.prog X.w) A (call (.builtin "dict.get") [.ref a,u,r]) Q E s:=by
 rcases g with⟨kvs,k,e,ey,l⟩ | ⟨kvs,k,b,e,ey,eb,l⟩
 subst ey;let⟨z,hd,vs,fk,dd⟩:=mP I.b0 e;exact call_meetsIn PySem.F.slot_dict_get dd.typeIs PySem.F.entry_dict_get (PySem.F.args_dict_get_3 _ _ _) (meets_dict_get_default (bQ X.prog X.w) a (ml ry) hd r) #[_,dd.mapOf,h _ _ (I.tok _) ?_];rw[l];show(fk.val k).getD rd;subst ey;cases (show u=Value.ref b from ry);let⟨z,hd,xs,fk,dd⟩:=rA I.b0 e;exact call_meetsIn PySem.F.slot_dict_get dd.typeIs PySem.F.entry_dict_get (PySem.F.args_dict_get_3 _ _ _) (meetsH_dict_get_default (tupleKind (bQ X.prog X.w)) a b hd r) #[tupleKind_room_in1 hu,k,xs,nZ I.b0 eb,dd,h _ _ (I.tok _) ?_];rw[l];show(fk.val k).getD rd
end
def Ep (td ty tx:TE):TE:=λσ H Q=>td σ H λx H1=> ∃a,cg (x= .ref a) (IsD H1 a) (ty σ H1 λy H2=>tx σ H2 λz H3=> ∃o,lC H3 a y o /\ Q (o.getD z) H3)
section
variable {X:Cx}{o e f:Expr}{dh dg:Pos}{td ty tx:TE}
def Fc (hu:X.A.units+1<cLine)(ho:PE X o td)(he:PE X e ty)(hf:PE X f tx)(m:M2 X o "get" dh e f dg):PE X (.Call (.Attribute o "get" dh) [e,f] [] dg) (Ep td ty tx):=by intro ae s σ H Q I h;exact wpAny_Call_method m.base m.HY m.line PySem.F.plainAttrs_dict PySem.F.slot_dict_get PySem.F.type_dict_get (ci (ho ae s σ H _ I h) λu s1 ⟨x,H1,I1,rx,a,ex,d,q1⟩=> ?_);subst ex;obtain rfl:u=Value.ref a:=rx;let⟨t1,t2,_⟩:=zE I1 d;exact#[t1,t2,?_];rw[m.trees];exact Calls.callWith_builtin rfl (Calls.evalArgs_plain (Calls.spliced_cons (ci (he ae s1 σ H1 _ I1 q1) λiv s2 ⟨y,H2,I2,ry,q2⟩=>Calls.spliced_cons (ci (hf ae s2 σ H2 _ I2 q2) λfv s3 ⟨z,H3,I3,rz,ov,g,q3⟩=>Calls.spliced_nil ?_))));show Pr hu I3 g ry rz λw' s4 I4 w8=>#[_,H3,I4,w8,q3]
end
end L2
namespace Att
open PySem PySem.W PySem.Calls PyProof.Rows
def pO {P:Params}{h:gC}: ∀ (ns:cz Int) (vs:cz cG),WellAll P h vs (ns.map WData.int) ->IntsAre vs ns:=by
 intro ns;induction ns with
 | nil=>intro vs w;rw[bL] at w;cases w;show .nil
 | cons n ns ih=>
  intro vs w;rw[az] at w;cases w with
  | cons a b=>cases a;show .cons _ _ (ih _ b)
def Cc {l:OpenLaw}{n:Nat}(hn:l.most=some n){P:Params}{h:gC}{args:cz WData}{vals:cz cG} (J9:l.row.toRowW.claim.pre args=true) (Yk:WellAll P h vals args): dY λa vs ns=>d9 (vals= [Value.ref a]) (args= [WData.list (ns.map WData.int)]) (h.get? a=some {cls:= .type "list",data:= .seq vs.toArray}) (IntsAre vs ns) (ns.length<=n):=by
 have hsh:WShape.hasAll [] args [.list .int]=true:=(pre_splitW J9).1;have hc:l.pre.holds [] {args:=args}=true:=(pre_splitW J9).2;let⟨d,r,rfl,h1,h2⟩:=hasAllW_cons hsh;obtain rfl:=hasAllW_nil h2;let⟨xs,rfl,h3⟩:=hasW_list h1;let⟨ns,rfl⟩:=items_int h3;have dD:ns.length<=n:=by
  unfold OpenLaw.pre at hc;have h4:(WTm.not (.lt (.lit (.int (n:Int))) (.len (.arg 0)))).holds [] {args:= [.list (ns.map .int)]}=true:=by have h4:=(holds_andW hc).1;rw[hn] at h4;show h4
  have h5:=condW_of h4 (w_not (w_lt w_lit (w_len_list (w_arg rfl))));rw[ao] at h5;exact Nat.le_of_not_lt λq=> ?_;have q':(n:Int) < ((ns.length:Nat):Int):= ∅;first
  | (rw[b_ q'] at h5;show absurd h5 ⋯)
  | (simp at h5;lia)
 cases Yk with
 | cons w1 w2=>
  cases w2;cases w1 with
  | list ho zH=>show#[_,_,ns,rfl,rfl,ho,pO ns _ zH,dD]
theorem Cj (l:OpenLaw)(args:cz WData):l.row.toRowW.claim.post args (.bool true) args=true:=postW_of (r:=l.row.toRowW) (X:=(true==true)) (show WShape.has [] (.bool true) .bool=true by first | rfl | decide | simp[WShape.has,WShape.arms,WShape.armsAll]) (show(WTm.eq .res (.lit (.bool true))).value [] {args:=args,res:=some (.bool true),after:=args}=some (.bool (true==true)) from w_eq_bool (w_res rfl) w_lit) rfl
def yg {l:OpenLaw}{n:Nat}{q:gA}{oP:cz Str}{XP:(Str ->cT cG) ->gC ->Prop}{YP:gB ->gC ->Prop}{d:DefRec} (hn:l.most=some n) (Tq:d.params.defaults= []) (call: ∀ (w:gB) (s₀ s₁:cL) (mg mb:Str ->cT cG) (fa:dw) (o:Obj) (pm cd gQ:cG) (a:dw) (vs:cz cG) (ns:cz Int),Ground q oP [] XP w s₀ mg mb s₁.heap ->YP w s₁.heap ->s₁.heap.get? fa=some o ->o.data= .func (docDef d.name d.params d.body d.scope pm cd gQ) ->s₁.heap.CodeRec cd d.name ->mg d.name=some (.ref fa) ->s₁.heap.get? a=some {cls:= .type "list",data:= .seq vs.toArray} ->IntsAre vs ns ->ns.length<=n ->s₁.gens= #[] ->codeAny (model l.prog w) callerA (.call (.ref fa) #[[.ref a],[]]) (λr s'=>r= .ok (.ret (.bool true)) /\ OldK s₁.heap s'.heap /\ s'.os=s₁.os /\ AllBare s'.gens) s₁): WalkO q oP XP YP l.row.toRowW d [] (λf vs=>PySem.call f vs):=by intro w s₀ s₁ mg mb G Y fa o pm cd gQ dV kV ho hd A_ hD Yz hg args vals as J9 aeM Yo Yk O1;obtain rfl:dV= .none:=Dflts.none hD Tq;obtain rfl:kV= .none:=Dflts.noKw hD;let⟨a,vs,ns,rfl,rfl,OV,Gm,dD⟩:=Cc hn J9 Yk;exact enter_call (codeAny_mono (call w s₀ s₁ mg mb fa o pm cd gQ a vs ns G Y ho (fd_plain hd) A_ Yz OV Gm dD hg) λr s' hq=> ?_);let⟨rfl,h2,h3,h4⟩:=hq;show#[.inl #[.bool true, .bool true,[],rfl,λ_=>rfl, .bool true,Cj l _,λ_=>#[List.Pairwise.nil,λ_ hm=>(nomatch hm)]],h2,h3,h4]
end Att
namespace L2
open PySem PySem.Spec PyProof.Rows
theorem nD: ∀ {vs:cz cG} {ns:cz Int},IntsAre vs ns ->bK (ns.map V.int) vs
 | _,_, .nil=> .nil
 | _,_, .cons n t h=> .cons #[t,rfl] (nD h)
def PN (H:Hp):Prop:= ∀b,H b=none \/ ∃o xs,H b=some (.mx o (.lst xs))
def FH {P:gA}{w:gB}{K:gg}{mg mb:Str ->cT cG}{CX:yK}{k:Nat}{fa a:dw}{fd:gN}{x:Str}{sp:Sp}{s₁:cL}{vs:cz cG}{ns:cz Int} (KX:K.In s₁.heap) (xA:s₁.heap.Ns mainGlobals mg) (hb:s₁.heap.Ns builtinsNs mb) (hbb: ∀x:Str,x≠ "__name__" ->mb x=bootBuiltins x) (YC:s₁.heap.NoLimit) (hg:s₁.gens= #[]) (ha:s₁.heap.get? a=some {cls:= .type "list",data:= .seq vs.toArray}) (hi:IntsAre vs ns) (hl:ns.length<=sizeLine) (hr:dz k callerA) (F: ∀base:gC,K.In base ->base.Ns mainGlobals mg ->bv P w K mg base CX k fa fd [x] sp) (Tt: ∀ (s:cL) (u:cG),BindsTo s fd #[[u],[]] [(x,u)]) (CM: ∀H:Hp,PN H ->fh K H a (ns.map V.int) ->sp [.ref a] H (λv _=>v= .bl true) λ_ _ _=>False) (Y0: ∀H e s',CX [] H s₁ (λ_ _ _=>False) e s' ->False): codeAny (model P w) callerA (.call (.ref fa) #[[.ref a],[]]) (λr s'=>r= .ok (.ret (.bool true)) /\ OldK s₁.heap s'.heap /\ s'.os=s₁.os /\ AllBare s'.gens) s₁:=by
 have rv:=nD hi;have X5:=hi.length;have core : ∀H:Hp,PN H ->fh K H a (ns.map V.int) ->jk P w H s₁.heap ->(∀b,H b≠none ->b=a) ->(H a≠none ->K.lookup a=none) ->codeAny (model P w) callerA (.call (.ref fa) #[[.ref a],[]]) (λr s'=>r= .ok (.ret (.bool true)) /\ OldK s₁.heap s'.heap /\ s'.os=s₁.os /\ AllBare s'.gens) s₁:=by
  intro H hO hS b0 hA hK;have BK: ∀ {b:dw} {o:Obj},s₁.heap.get? b=some o ->H b=none ->(vI s₁.heap H).get? b=some o:=λe n=>Gn e n;have LV: ∀ {b:dw} {o:Obj} {es:ft DictEntry} {ep:Nat},s₁.heap.get? b=some o ->o.data= .dict es ep ->H b=none:=λ{b o es ep} e d=>by
   cases q:H b with
   | none=>rfl
   | some u=>have e':b=a:=hA b (by rw[q];simp);subst e';rw[ha] at e;cases e;have d':Data.seq vs.toArray _=Data.dict es ep:=d;cases d'
  have Vv: ∀ {b:dw} {m:Str ->cT cG},s₁.heap.Ns b m ->(vI s₁.heap H).Ns b m:=λ{b m} ⟨o,es,ep,e,d,r⟩=>#[o,es,ep,BK e (LV e d),d,r]
  have hKb:K.In (vI s₁.heap H):=λb o e=>BK (KX b o e) (by
   cases q:H b with
   | none=>rfl
   | some u=>have e':b=a:=hA b (by rw[q];simp);subst e';rw[hK (by rw[q];simp)] at e;cases e)
  have hM:Mod K mg (vI s₁.heap H):=#[hKb,Vv xA,#[mb,Vv hb,hbb],let ⟨mc,h1,h2⟩:=YC;#[mc,Vv h1,h2]]
  have e0:z6 P w K mg (vI s₁.heap H) callerA [] s₁ H:=#[rfl,hM,λb o e=>Jz e,Nat.le_of_eq (CN _ _),trivial,λb hb=>absurd (show b∈([]:cz dw) from hb) (by simp),b0, .of_eq hg]
  exact codeAny_mono ((F _ hKb (Vv xA)).run callerA [] s₁ H #[[.ref a],[]] [.ref a] [.ref a] _ _ hr e0 (Tt s₁ (.ref a)) (.cons rfl .nil) (CM H hO hS)) λr s' h=> ?_;cases r with
  | error e=>show(Y0 H e s' h).elim
  | ok fl =>
   cases fl with
   | next=>show False.elim h
   | brk=>show False.elim h
   | cont=>show False.elim h
   | ret u=>
    let⟨v,H',os,bare,un,Yv,r',q⟩:=h;have q':v= .bl true:=q;subst q';obtain rfl:u=Value.bool true:=r';exact#[rfl,OldK.of_keep λb o e=> ?_,os,bare];cases q:H b with
    | none=>show un.keep b o e q (by intro z;show absurd (show b∈([]:cz dw) from z) (by simp)) (by simp)
    | some u=>obtain z | ⟨ob,xs,z⟩:=hO b;rw[q] at z;cases z;have z2:=un.ik b ob _ z;let⟨e1,_⟩:=b0 b _ z;let⟨e2,_⟩:=Yv b _ z2;rw[e] at e1;cases e1;show e2
 cases hk:K.lookup a with
 | some o=>have e:=KX a o hk;rw[ha] at e;cases e;exact core (λ_=>none) (λ_=> .inl rfl) (.inr #[_,vs.toArray,_,hk,rfl,rfl,rfl,by rw[aF,X5];show hl, ⇑rv]) (λb u z=>by have z':(none:cT HO)=some u:=z;cases z') (λb z=>absurd rfl z) λz=>absurd rfl z
 | none=>exact core (λb=>if b=a then some (.mx {cls:= .type "list",data:= .seq vs.toArray} (.lst (ns.map V.int))) else none) (λb=> ?_) (.inl (.inr #[{cls:= .type "list",data:= .seq vs.toArray},aj rfl])) (λb u z=> ?_) (λb z=> ?_) λ_=>hk;by_cases hb:b=a;show .inr #[_,_,aj hb];show .inl (ah hb);by_cases hb:b=a;have z':=(aj hb).symm.trans z;cases z';subst hb;show#[ha,by rw[ao];show hl,vs,_,rv,ha];have z':=(ah hb).symm.trans z;cases z';by_cases hb:b=a;show hb;show absurd (ah hb) z
def Iq {l:W.OpenLaw}{n k:Nat}{q:gA}{oP:cz Str}{XP:(Str ->cT cG) ->gC ->Prop}{YP:gB ->gC ->Prop}{d:DefRec}{K:Params ->gg}{CX:gB ->yK}{sp:gB ->Sp}{x:Str} (hn:l.most=some n) (OY:n<=sizeLine) (Tq:d.params.defaults= []) (hr:dz k callerA) (hY: ∀ (w:gB) (h:gC),YP w h ->(K w.params).In h) (F : ∀ (w:gB) (mg:Str ->cT cG) (fa:dw) (h:gC),(K w.params).In h ->h.Ns mainGlobals mg ->mg d.name=some (.ref fa) ->∃ fd:gN,(∀ (s:cL) (u:cG),BindsTo s fd #[[u],[]] [(x,u)]) /\∀base:gC,(K w.params).In base ->base.Ns mainGlobals mg ->bv l.prog w (K w.params) mg base (CX w) k fa fd [x] (sp w)) (CM: ∀ (w:gB) (H:Hp) (a:dw) (ns:cz Int),ns.length<=n ->PN H ->fh (K w.params) H a (ns.map V.int) ->sp w [.ref a] H (λv _=>v= .bl true) λ_ _ _=>False) (Y0: ∀ (w:gB) (H:Hp) (s:cL) (e:cG) (s':cL),CX w [] H s (λ_ _ _=>False) e s' ->False): W.WalkO q oP XP YP l.row.toRowW d [] (λf vs=>PySem.call f vs):=by exact Att.yg hn Tq λw s₀ s₁ mg mb fa o pm cd gQ a vs ns G Y ho hd A_ Yz OV Gm dD hg=> ?_;have KX:=hY w _ Y;let⟨fd,hb,hF⟩:=F w mg fa _ KX G.T.g Yz;show FH KX G.T.g G.T.b G.T.builtins G.T.nolimit hg OV Gm (aH dD OY) hr hF hb (λH hO hS=>CM w H a ns dD hO hS) λH e s'=>Y0 w H s₁ e s'
nonrec def dS (s:Stmt):Arguments:=match s with
 | .FunctionDef _ a _ _ _ _ _ _ _ _=>a
 | _=> {posonlyargs:= [],args:= [],vararg:=none,kwonlyargs:= [],kw_defaults:= [],kwarg:=none,defaults:= []}
nonrec def c6 (s:Stmt):cz Stmt:=match s with
 | .FunctionDef _ _ b _ _ _ _ _ _ _=>b
 | _=> []
nonrec def aE (s:Stmt):Scope:=match s with
 | .FunctionDef _ _ _ _ _ _ sc _ _ _=>sc
 | _=> {kind:= .function,names:= [],isGenerator:=false,isCoroutine:=false}
abbrev ez:yK:=λ_ _ _ _ _ _=>False
abbrev E0:XK:=λ_ _ _=>False
theorem xh {X:Cx}:fQ ez X E0:=λ_ _ _ _ _ _ _ h=>h.elim
structure yo (K:PySem.W.Frag)(x qual:Str)(st:Stmt)(f:Addr)(fd:FuncData):Prop where
 ex:Up λ(oc:Value) (od:Option Addr) (kV gQ pm:Value) (an:Option Addr) (cdv ct:Value)=> ∃ (ze:Array (Option Value)),cg (fd=PySem.W.fnOf x qual (dS st) (c6 st) (aE st) .none kV gQ pm an cdv ct) (K.lookup f=some #[oc,od, .func fd,ze]) (PySem.W.codeIn K cdv qual=true)
 kp:PySem.W.keepIn K (.ref f)=true
section
variable {P:gA}{w:gB}{K:gg}{mg:Str ->cT cG}{base:gC}
def yo.ok {x qual:Str}{st:Stmt}{f:dw}{fd:gN}{N ps:cz Str}{k:Nat}{sp:Sp}(F:yo K x qual st f fd)(S:bR N ps (aE st))(len: ∀vs H Q E,sp vs H Q E ->vs.length=ps.length) (ij: ∀ (cdv:cG) (A:hV) (outer:cz Env) (s:cL) (H:Hp) (vs:cz V) (Q:VK) (E:XK),dz k (A.deeper (envOfC qual (aE st) s.heap.objs.size f cdv)) ->sp vs H Q E ->∃t,sC (dE ez P w K mg base N qual (aE st) f cdv A outer s H E).Fx (c6 st) t /\ t {nx:=λ_ H'=>Q .dJ H',rt:=Q} (start N vs) H):bv P w K mg base ez (k+1) f fd ps sp:=by let⟨oc,od,kV,gQ,pm,an,cdv,ct,ze,rfl,lk,A_⟩:=F.ex;exact Mw lk A_ S len λA outer s H vs Q E hr CM=> ?_;let⟨t,h,q⟩:=ij cdv A outer s H vs Q E hr CM;show#[t,h.Fx,q]
def yo.binds {x qual:Str}{st:Stmt}{f:dw}{fd:gN}{ps:cz Str}(F:yo K x qual st f fd) (h: ∀ (kV gQ pm:cG) (an:cT dw) (cdv ct:cG) (us:cz cG),us.length=ps.length ->bindArgs (W.fnOf x qual (dS st) (c6 st) (aE st) .none kV gQ pm an cdv ct) #[us,[]]=pure (ps.zip us)):Binds K fd ps []:=by let⟨oc,od,kV,gQ,pm,an,cdv,ct,ze,rfl,lk,A_⟩:=F.ex;show .all (h kV gQ pm an cdv ct)
theorem og {x qual:Str}{st:Stmt}{f:dw}{oc:cG}{od an:cT dw}{ze:ft (cT cG)}{kV gQ pm cdv ct:cG}(l:K.lookup f=some #[oc,od, .func (W.fnOf x qual (dS st) (c6 st) (aE st) .none kV gQ pm an cdv ct),ze]) (c:W.codeIn K cdv qual=true) (k:W.keepIn K (.ref f)=true):yo K x qual st f (W.fnOf x qual (dS st) (c6 st) (aE st) .none kV gQ pm an cdv ct):=#[#[oc,od,kV,gQ,pm,an,cdv,ct,ze,rfl,l,c],k]
end
theorem fc {A:hV}{k:Nat}(hr:dz k A):A.units+1<cLine:=Nat.lt_of_le_of_lt (Nat.add_le_add_left (by decide:1<=64) _) hr.units
section
variable {X:Cx}
theorem pv (i:Nat){x:Str}{pos:Pos}(hN:X.N[i]? =some x:=by rfl)(hv:Ut X.env.scope x:=by first | show Or.inl rfl | show Or.inr (Or.inl rfl) | show Or.inr (Or.inr rfl))(hd:(x==("__debug__" :Str))=false:=by decide) (A_:(x==("__classdict__" :Str))=false:=by decide):PE X (.Name x pos) (ID i):=NJ hN hv hd A_
end
def dP (H H':Hp):Prop:= ∀b o,H b=some o ->H' b=some o
theorem dP.trans {H H1 H2:Hp}(a:dP H H1)(b:dP H1 H2):dP H H2:=λc o h=>b c o (a c o h)
section
variable {κ:Type} [DecidableEq κ]
theorem AQ: ∀ {l:cz κ} {k:κ},l.Nodup ->¬k∈l ->(l++ [k]).Nodup
 | [],k,_,_=>by simp
 | a::r,k,h,hk=>by let⟨h1,h2⟩:=cY.mp h;change(a::(r++ [k])).Nodup;exact cY.mpr #[λm=> ?_,AQ h2 λm=>hk (aL.mpr (Or.inr m))];obtain q | q:=bh.mp m;show h1 q;show hk (aL.mpr (Or.inl (aK.mp q).symm))
end
def cq {α:Type}{x y:Str}{c:α}{l:cz (Str×α)}:((y,c)::l).lookup x=if x=y then some c else l.lookup x:=by by_cases h:x=y;subst h;simp[List.lookup_cons];rw[ah h,List.lookup_cons];have:(x==y)=false:= ⇑h;rw[this]
theorem iQ {env:Env}: ∀ (names:cz (Str×NameKind)) (d4:cz (Str×dw)),(∀y∈names,y.2= .free -> ∃c,env.cells.lookup y.1=some c) ->(∀x c,d4.lookup x=some c ->env.cells.lookup x=some c) ->∃cl,eZ ((forIn names d4 λx s=>if(x.snd==NameKind.free)=true then(do let c <- cellOf env x.fst;pure (ForInStep.yield ((x.fst,c)::s)):Sem _) else pure (ForInStep.yield s))=(pure cl:Sem (cz (Str×dw)))) (∀x c,cl.lookup x=some c ->env.cells.lookup x=some c) (∀x,(d4.lookup x).isSome=true ->(cl.lookup x).isSome=true) (∀y∈names,y.2= .free ->(cl.lookup y.1).isSome=true)
 | [],d4,_,h2=>#[d4,rfl,h2,λ_ h=>h,λ_ h=>absurd h (by simp)]
 | (n, k)::r,d4,h1,h2=>by
  by_cases hk:k=NameKind.free;subst hk;let⟨c,hc⟩:=h1 (n, .free) List.mem_cons_self rfl;have HV: ∀x c',((n,c)::d4).lookup x=some c' ->env.cells.lookup x=some c':=λx c' e=>by rw[cq] at e;by_cases hx:x=n;rw[aj hx] at e;cases e;rw[hx];show hc;rw[ah hx] at e;show h2 x c' e
  let⟨cl,e1,e2,e3,e4⟩:=iQ r ((n,c)::d4) (λy hy=>h1 y (cc _ hy)) HV;exact#[cl,?_,e2,λx hx=>e3 x ?_,λy hy hf=> ?_];rw[List.forIn_cons];have:cellOf env n=pure c:=by unfold cellOf;rw[hc]
  simp![beq_self_eq_true,bJ,this,pure_bind];show e1;rw[cq];by_cases HQ:x=n;rw[aj HQ];rfl;rw[ah HQ];show hx;obtain rfl | hy:=aL.mp hy;exact e3 n ?_;rw[cq,aj rfl];rfl;show e4 y hy hf;let⟨cl,e1,e2,e3,e4⟩:=iQ r d4 (λy hy=>h1 y (cc _ hy)) h2;exact#[cl,?_,e2,e3,λy hy hf=> ?_];rw[List.forIn_cons];have:(k==NameKind.free)=false:= ⇑hk;simp![this,av,bp,pure_bind];show e1;obtain rfl | hy:=aL.mp hy;show absurd hf hk;show e4 y hy hf
def iP {scope:Scope}{env:Env}(h: ∀y∈scope.names,y.2= .free -> ∃c,env.cells.lookup y.1=some c): ∃cl,cg (closureFor scope env=pure cl) (∀x c,cl.lookup x=some c ->env.cells.lookup x=some c) (∀y∈scope.names,y.2= .free ->(cl.lookup y.1).isSome=true):=by let⟨cl,e1,e2,_,e4⟩:=iQ scope.names [] h (λ_ _ e=>by simp at e);exact#[cl,?_,e2,e4];simp![closureFor];rw[e1,pure_bind]
theorem gc {env:Env}: ∀ {names:cz (Str×NameKind)} {x:Str} {k:NameKind},(names.map λ(n,k)=>if(k==NameKind.free && env.scope.kind== .function && env.kindOf n==some .cell) then(n,NameKind.cell) else(n,k)).lookup x=some k ->names.lookup x=some k \/ (k= .cell /\ names.lookup x=some .free)
 | [],_,_,h=>by simp at h
 | (n, j)::r,x,k,h=>by
  have ih:= @gc env r x k;rw[az] at h;by_cases hc:(j==NameKind.free && env.scope.kind== .function && env.kindOf n==some .cell)=true;simp![hc,bJ] at h;rw[cq] at h;rw[cq];by_cases hx:x=n;rw[aj hx] at h ⊢;cases h;have hj:j=NameKind.free:=by rw[Bool.and_eq_true,Bool.and_eq_true] at hc;show eq_of_beq hc.1.1
  show .inr #[rfl,by rw[hj]];rw[ah hx] at h ⊢;show ih h;simp![hc,av,bp] at h;rw[cq] at h;rw[cq];by_cases hx:x=n;rw[aj hx] at h ⊢;show .inl h;rw[ah hx] at h ⊢;show ih h
theorem fT {env:Env}: ∀ {names:cz (Str×NameKind)} {x:Str},names.lookup x=some .free ->(names.map λ(n,k)=>if(k==NameKind.free && env.scope.kind== .function && env.kindOf n==some .cell) then(n,NameKind.cell) else(n,k)).lookup x=some .cell \/(names.map λ(n,k)=>if(k==NameKind.free && env.scope.kind== .function && env.kindOf n==some .cell) then(n,NameKind.cell) else(n,k)).lookup x=some .free
 | [],_,h=>by simp at h
 | (n,j)::r,x,h=>by have ih:= @fT env r x;rw[az];rw[cq] at h;by_cases hc:(j==NameKind.free && env.scope.kind== .function && env.kindOf n==some .cell)=true;simp![hc,bJ];rw[cq];by_cases hx:x=n;rw[aj hx];show .inl rfl;rw[ah hx] at h ⊢;show ih h;simp![hc,av,bp];rw[cq];by_cases hx:x=n;rw[aj hx] at h ⊢;cases h;show .inr rfl;rw[ah hx] at h ⊢;show ih h
abbrev bu (X:Cx)(N':cz Str)(scope:Scope)(cl:cz (Str×dw))(fp:cz dw)(s3:cL)(H3:Hp):Cx:={X with N:=N',s₀:=s3,H₀:=H3,env:=compEnvC scope cl s3.heap.objs.size X.env,outer:=X.stack,stack:=X.stack,ex:=fp,fn:=λ_=>false,pn:= [],xe:=λ_ _=>False}
def ji (own:Nat)(fr:cz Nat)(σ:St):St:=List.replicate own none++fr.map λj=>(σ[j]?).join
structure c_ (X:Cx)(own:List Str)(fr:List Nat)(N':List Str)(scope:Scope):Prop where
 kind:scope.kind= .function
 names:N'=own++fr.filterMap (λj=>X.N[j]?)
 len:N'.length=own.length+fr.length
 nd:N'.Nodup
 qL: ∀y∈scope.names,y.2≠ .cell
 loc: ∀y∈scope.names,y.2= .local ->scope.names.lookup y.1=some .local
 Qz: ∀x∈fr.filterMap (λj=>X.N[j]?),scope.names.lookup x=some .free
 free: ∀y∈scope.names,y.2= .free ->X.env.kindOf y.1=some .cell \/ X.env.kindOf y.1=some .free
theorem mC {N:cz Str}: ∀ {fr:cz Nat} {k:Nat} {x:Str},(fr.filterMap (λj=>N[j]?)).length=fr.length ->(fr.filterMap (λj=>N[j]?))[k]? =some x -> ∃j,fr[k]? =some j /\ N[j]? =some x
 | [],_,_,_,e=>by simp at e
 | j ::r,k,x,hl,e=>by
  cases hj:N[j]? with
  | none=>rw[List.filterMap_cons,hj] at hl;have:=List.length_filterMap_le (λj=>N[j]?) r;simp![aI] at hl;lia
  | some y=>
   rw[List.filterMap_cons,hj] at hl e;simp![aI,Nat.add_right_cancel_iff] at hl;cases k with
   | zero=>simp at e;show#[j,by simp,by rw[hj,e]]
   | succ k=>show mC (k:=k) hl ⇑e
section
variable {X:Cx}{ae:cz (dw×Obj)}{σ:St}{H:Hp}{s s3:cL}
def xy {own N':cz Str}{fr:cz Nat}{scope:Scope}{cl:cz (Str×dw)}{fp:cz dw}{h':gC}{t:Nat}(S:c_ X own fr N' scope)(I:Inv X ae σ H s) (kz: ∀x c,cl.lookup x=some c ->X.env.cells.lookup x=some c) (mq: ∀y∈scope.names,y.2= .free ->(cl.lookup y.1).isSome=true) (xC: ∀b∈fp,iS X ae H b) (hft: ∀b∈fp,b<s.heap.objs.size) (xA:h'.Ns s.heap.objs.size (λ_=>none)) (hk: ∀b o,s.heap.get? b=some o ->h'.get? b=some o): Inv (bu X N' scope cl fp s H) [] (ji own.length fr σ) H {s with heap:=h',toks:=t}:=by
 have look: ∀x,(compEnvC scope cl s.heap.objs.size X.env).kindOf x=(relabel scope X.env).names.lookup x:=λ_=>rfl
 have TB:(fr.filterMap (λj=>X.N[j]?)).length=fr.length:=by have:=S.len;rw[S.names,aV] at this;lia
 exact#[#[I.ok.mod,?_,I.ok.glob,I.ok.blt,ak _,λx y c e1 e2=>I.ok.inj x y c (kz _ _ e1) (kz _ _ e2),λx hx=> ?_,(λx c z _=>nomatch z),I.ok.hd,I.ok.frames, .inl rfl,λb hb=>#[?_,λx c e=>(xC b hb).2.2.2.2.1 x c (kz x c e)],I.bs,aH I.ok.Hb I.sz,λb o e hb=> ?_,λb hb hz=> ?_,I.stack,I.pY],
  rfl,I.bare,Un.kept hk,#[_,xA,λi x v e1 e2 e3=> ?_],λx c e=> ?_,I.b0.fresh (ak _),λx c e=>I.fg x c (kz x c e),λp hp=>absurd (show p∈([]:cz (dw×Obj)) from hp) (by simp),I.b0.kept hk,?_]
 change(relabel scope X.env).kind=_
 show S.kind
 have HQ:scope.names.lookup x=some .free:=by obtain hx | hx:=hx;obtain q | ⟨_,q⟩:=gc hx;show absurd rfl (S.qL _ (cU q));show q;obtain q | ⟨q,_⟩:=gc hx;show q;cases q
 show Option.isSome_iff_exists.mp (mq _ (cU HQ) rfl)
 show aN (hft b hb)
 obtain z | z:=(xC b hb).2.2.2.1
 show I.ok.Cr b o e z
 show absurd (a4 (ax e) (aH I.ok.Hb z)) (ce _)
 obtain q | q:=aL.mp (I.uU b hz)
 show(xC b hb).2.1 q
 show(xC b hb).2.2.1 q
 -- a XX value
 have e1:(own++fr.filterMap (λj=>X.N[j]?))[i]? =some x:=by rw[<- S.names];show e1
 unfold ji at e2
 by_cases hi:i<own.length
 rw[aU ⇑hi,cP,aj hi] at e2
 cases e2
 rw [aO ⇑hi,List.length_replicate] at e2
 rw[aO ⇑hi] at e1
 let⟨j,ej,ex⟩:=mC TB e1
 rw[aG,ej] at e2
 have e2:(σ[j]?).join=some v:= ⇑e2
 have e2':σ[j]? =some (some v):=by
  cases q:σ[j]? with
  | none=>rw[q] at e2;cases e2
  | some w=>rw[q] at e2;simp at e2;rw[e2]
 have hf:=S.Qz x (aY e1)
 have hm:=cU hf
 let⟨m,_,hl⟩:=I.loc
 have W2:Ut X.env.scope x:=by obtain q | q:=S.free _ hm rfl;show .inr (.inl q);show .inr (.inr q)
 let⟨u,r,l⟩:=hl j x v ex e2' W2
 exact#[u,r, .inr #[?_,?_]]
 show fT hf
 rcases l with⟨k,_⟩ | ⟨_,c,ec,z⟩
 obtain q | q:=S.free _ hm rfl
 rw[k] at q;cases q
 rw[k] at q;cases q
 let⟨c',ec'⟩:=Option.isSome_iff_exists.mp (mq _ hm rfl)
 have:=kz _ _ ec'
 rw[ec] at this
 cases this
 show#[c,ec',z.keeps hk]
 let⟨v,z⟩:=I.cell x c (kz x c e)
 show#[v,z.keeps hk]
 change(ji own.length fr σ).length=N'.length
 unfold ji
 rw[aV,List.length_replicate,ao,S.len]
end
def Hk (X:Cx)(cs:cz Expr)(t:TT):Prop:=∀ (ae:cz (dw×Obj)) (s:cL) (σ:St) (H:Hp) (Q:Bool ->Hp ->Prop),Inv X ae σ H s ->t σ H Q ->wpAny (model X.prog X.w) X.A (forIn cs true λc r=>if r=true then do let ok <- isTrue c X.env (eval c X.env);pure (ForInStep.yield ok) else pure (ForInStep.yield r)) (TP X ae σ Q) X.xe s
def Rs:TT:=λ_ H Q=>Q true H
theorem dq {X:Cx}:Hk X [] Rs:=λae s σ H Q I h=>wpAny_tests_nil #[H,I,h]
theorem IY {X:Cx}{c:Expr}{t:TT}(h:PT X c t):Hk X [c] t:=λae s σ H Q I q=>wpAny_tests_one (h ae s σ H Q I q)
section
variable {prog:gA}{w:gB}{A:hV}{R:Result ->cL ->Prop}{s:cL}
theorem Dc {fF nG iter:Expr}{fD:cz Expr}{scope:Scope}{pos:Pos}{it d4:cG}{env:Env}(I:Nat ->cL ->Prop) (turn : ∀n s,I n s ->wpAny (model prog w) A (pyNext it) (λr s₁=>match r with
   | none=>R (.ok .next) s₁
   | some v=>wpAny (model prog w) A (letOwnedTupleGo nG it v) (λ_ s₀=>wpAny (model prog w) A (assign nG env v) (λ_ s₂=>
    wpAny (model prog w) A (forIn fD true λc r=>if r=true then do let ok <- isTrue c env (eval c env);pure (ForInStep.yield ok) else pure (ForInStep.yield r)) (λok s₃=>if ok=true then wpAny (model prog w) A (eval fF env) (λx s₄=>wpAny (model prog w) A (call (.builtin "list.append") [d4,x]) (λ_ s₅=> ∃m,m<n /\ I m s₅) (λ_ _=>False) s₄) (λ_ _=>False) s₃ else ∃m,m<n /\ I m s₃) (λ_ _=>False) s₂)
    (λ_ _=>False) s₀) (λ_ _=>False) s₁) (λ_ _=>False) s)
  (n:Nat) (h:I n s):codeAny (model prog w) A (.compLoop (.ListComp fF [#[nG,iter,fD,0]] scope pos) 0 it d4 env) R s:=by
 exact codeAny_loop rfl I (λn s hI=> ?_) n h
 change wpAny _ A ((compTurn (.ListComp fF [#[nG,iter,fD,0]] scope pos) 0 it d4 env).onRaise (λx=>do noteFrame x env;theTreesLotGoes x)) _ _ s
 exact wpAny_noted ?_
 rw[compTurn_list]
 exact af (wpAny_standAt (af (a9 (turn n s hI) (λr s₁ h₁=> ?_) λ_ _ h'=>h'.elim)))
 cases r with
 | none=>show aC h₁
 | some v=>
  exact af (a9 h₁ (λ_ s₀ S0=> ?_) λ_ _ h'=>h'.elim);exact af (a9 S0 (λ_ s₂ h₂=> ?_) λ_ _ h'=>h'.elim);exact af (a9 h₂ (λSy s₃ h₃=> ?_) λ_ _ h'=>h'.elim);cases Sy with
  | false=>show aC #[rfl,h₃]
  | true=>show af (af (a9 h₃ (λx s₄ h₄=>af (a9 h₄ (λ_ s₅ h₅=>aC (aC #[rfl,h₅])) λ_ _ h'=>h'.elim)) λ_ _ h'=>h'.elim))
end
def Wk (σ0 σ2:St):Prop:=σ2.length=σ0.length /\ ∀ (i:Nat) v,σ0[i]? =some (some v) ->σ2[i]? =some (some v)
def HE (own:Nat)(g:TG):Prop:= ∀ (c:St) (v:V) (H:Hp) (Q:St ->Hp ->Prop),g v (List.replicate own none++c) H Q ->g v (List.replicate own none++c) H λσ2 H2=>Wk (List.replicate own none++c) σ2 /\ Q σ2 H2
def eJ:HE 1 (i5 0):=by
 intro c v H Q h;exact#[#[by simp,λi u e=> ?_],h];cases i with
 | zero=>simp at e
 | succ i=>simpa using e
def m_ {K:gg}:HE 2 (Km K 2 (uf (i5 0) (uf (i5 1) Kn))):=by
 rintro c v H Q ⟨a,xs,e,hs,hl,x,r,rfl,y,r',rfl,rfl,h⟩;exact#[a,_,e,hs,hl,x,_,rfl,y,_,rfl,rfl,#[by simp,λi u e=> ?_],h];match i with
 | 0=>simp at e
 | 1=>simp at e
 | i+2=>simpa using e
def ME (J:It)(own:Nat)(fr:cz Nat)(g:TG)(tc:TT)(te:TE)(σ:St)(p:dw)(H1:Hp)(Q:VK):Prop:=∃ W :Nat ->Nat ->cz V ->Hp ->Prop,(∃m,W 0 m [] (bU H1 p (.lst []))) /\ ∀i m ys H',W i m ys H' ->H' p=some (.lst ys) /\((J.stop i H' /\ Q (.ref p) H') \/ (J.go i H' /\ ys.length<sizeLine /\ ∀x H2,J.K_ i H' x H2 ->g x (ji own fr σ) H2 λσ2 H3=>tc σ2 H3 λb H4=>if b=true then te σ2 H4 λy H5=> ∃zs,H5 p=some (.lst zs) /\ zs.length<sizeLine /\ ∃m',m'<m /\ W (i+1) m' (zs++ [y]) (bU H5 p (.lst (zs++ [y]))) else ∃zs m',m'<m /\ W (i+1) m' zs H4))
def Es (wi:TI)(own:Nat)(fr:cz Nat)(g:TG)(tc:TT)(te:TE):TE:=λσ H Q=>wi σ H λJ H1=> ∀p,H1 p=none ->ME J own fr g tc te σ p H1 Q
section
variable {X:Cx}{ae:cz (dw×Obj)}{σ:St}{H:Hp}{s s3:cL}
theorem kg {N':cz Str}{scope:Scope}{cl:cz (Str×dw)}{fp:cz dw}{AI:cz (dw×Obj)}{σ':St}{H':Hp}{s':cL}(I3:Inv X ae σ H s3)(xC: ∀b∈fp,iS X ae H b) (Ic:Inv (bu X N' scope cl fp s3 H) AI σ' H' s'):Inv X ae σ H' s':=I3.G_ (ch:=fp) Ic.os Ic.base Ic.b0 Ic.bare λb hb=>#[(xC b hb).2.2.2.1,(xC b hb).2.1,(xC b hb).2.2.2.2.1,(xC b hb).2.2.2.2.2]
def kf {C:dw}{σ':St}{H':Hp}{s':cL}{h':gC}(I3:Inv X ae σ H s3)(hC:C=s3.heap.objs.size)(J:Inv X ae σ' H' s')(hn:H' C=none)(hs:Heap.SameBut C s'.heap h'):Inv X ae σ' H' {s' with heap:=h'}:=by subst hC;exact J.turned (t':=s'.toks) (it:=s3.heap.objs.size) (λb o hb e=>hs.extBut b o hb e) hn (Nat.ne_of_gt I3.lt) (.inr I3.sz) (λx c e z=> ?_) λp hp z=> ?_;let⟨v,q⟩:=I3.cell x c e;show absurd q.lt (by rw[z];show ce _);show absurd (ax (I3.pin p hp).1) (by rw[z];show ce _)
def rG {tg iter fF:Expr}{fD:cz Expr}{pos:Pos}{own N':cz Str}{fr:cz Nat}{scope:Scope}{cl:cz (Str×dw)}{fp:cz dw}{it:dw}{tn:Nat ->gC ->Prop}{J:It}{g:TG}{tc:TT}{te:TE}{Q:VK} {E:cG ->cL ->Prop} {RR:cG ->dw ->Result ->cL ->Prop} (gj:X.calm=true) (S:c_ X own fr N' scope) (hg: ∀s3 H3,PG (bu X N' scope cl fp s3 H3) tg g) (hw:HE own.length g) (hc: ∀s3 H3,Hk (bu X N' scope cl fp s3 H3) fD tc) (he: ∀s3 H3,PE (bu X N' scope cl fp s3 H3) fF te) (kz: ∀x c,cl.lookup x=some c ->X.env.cells.lookup x=some c) (mq: ∀y∈scope.names,y.2= .free ->(cl.lookup y.1).isSome=true) (I:Inv X ae σ H s) (T:sY X.prog X.w X.K tg J fp it tn) (st:tn 0 s.heap) (xC: ∀b∈fp,iS X ae H b) (h: ∀p,H p=none ->ME J own.length fr g tc te σ p H Q) (fin: ∀ (s3:cL) (H3:Hp),Inv X ae σ H3 s3 ->(∀b∈fp,iS X ae H3 b) -> ∀ (D:dw) (σ':St) (H':Hp) (s':cL) (t:Nat),D<s3.heap.objs.size ->Inv (bu X N' scope cl fp s3 H3) [] σ' H' s' ->Q (.ref D) H' ->RR (.ref D) s3.heap.objs.size (.ok .next) s'): wpAny (model X.prog X.w) X.A (newList []) (λd4 s₃=>wpAny (model X.prog X.w) X.A (newFunctionEnv scope X.env.globals cl [] X.env.qual none .none (some X.env)) (λG9 s₄=>codeAny (model X.prog X.w) X.A (.compStart (.ListComp fF [#[tg,iter,fD,0]] scope pos) 0 (.ref it) d4 {G9 with scope:=relabel scope X.env}) (RR d4 G9.locals) s₄) E s₃) E s:=by
 exact wpAny_newObj_type ?_;have hf:H s.heap.objs.size=none:=I.b0.fresh (ak _);let⟨W,⟨m0,w0⟩,turn⟩:=h _ hf;generalize e3:({s with heap:=s.heap.push {cls:= .type "list",dict:=none,data:= .seq ([]:cz cG).toArray}}:cL)=s3;have Nr:s3.heap.objs.size=s.heap.objs.size+1:=by rw[<- e3];show Heap.size_push ..
 have W6: ∀b o,s.heap.get? b=some o ->s3.heap.get? b=some o:=λb o e=>by rw[<- e3];show ai _ e
 have I3:Inv X ae σ (bU H s.heap.objs.size (.lst [])) s3:=by rw[<- e3];show I.laid (t':=s.toks) (λb u e=>ai _ e) (ak _) #[cN _,[],0, .nil,aJ _ rfl]
 have Pj: ∀b∈fp,b<s.heap.objs.size:=λb hb=>by let⟨o,e,_⟩:=T.obj 0 _ st b hb;show ax e
 have zG: ∀b∈fp,iS X ae (bU H s.heap.objs.size (.lst [])) b:=λb hb=>#[by rw[bq (aN (Pj b hb))];show(xC b hb).1,(xC b hb).2]
 exact wpAny_newFunctionEnv S.qL (by intro y hy;simp at hy) (λh₁ OW OQ=> ?_) S.kind;have old: ∀b o,s3.heap.get? b=some o ->h₁.get? b=some o:=λb o e=>OQ.extBut b o (aN (ax e)) (ai _ e);have Ic:=xy (t:=s3.toks+([]:cz (Str×cG)).length) S I3 kz mq zG (λb hb=>by rw[Nr];show Nat.lt_succ_of_lt (Pj b hb)) OW old;have Ca:tn 0 h₁:=T.keep 0 _ _ st λb hb o e=>old b o (W6 b o e);have qv: ∀ {H':Hp},(∀b∈fp,H' b=none) -> ∀b∈fp,iS (bu X N' scope cl fp s3 (bU H s.heap.objs.size (.lst []))) [] H' b:=λhn b hb=>by exact#[hn b hb,?_,?_, .inl hb,λx c e=>(xC b hb).2.2.2.2.1 x c (kz x c e),λp hp=>absurd (show p∈([]:cz (dw×Obj)) from hp) (by simp)];change b≠s3.heap.objs.size;rw[Nr];show aN (Nat.lt_succ_of_lt (Pj b hb));show Ic.ok.zJ b hb
 have loop:codeAny (model X.prog X.w) X.A (.compLoop (.ListComp fF [#[tg,iter,fD,0]] scope pos) 0 (.ref it) (.ref s.heap.objs.size) (compEnvC scope cl s3.heap.objs.size X.env)) (RR (.ref s.heap.objs.size) s3.heap.objs.size) {s3 with heap:=h₁,toks:=s3.toks+([]:cz (Str×cG)).length}:=by
  exact Dc (λn s'=>dY λi ys H'=>eZ (Inv (bu X N' scope cl fp s3 (bU H s.heap.objs.size (.lst []))) [] (ji own.length fr σ) H' s') (tn i s'.heap) (∀b∈fp,H' b=none) (W i n ys H')) ?_ m0 #[0,[],_,Ic,Ca,λb hb=>(zG b hb).1,w0];rintro n s4 ⟨i,ys,H4,I4,eN,TC,w4⟩;let⟨vJ,alt⟩:=turn i n ys H4 w4;rcases alt with⟨stop,q⟩ | ⟨go,hsz,step⟩
  .exact ci (T.done (bu X N' scope cl fp s3 (bU H s.heap.objs.size (.lst []))) rfl rfl rfl gj i [] s4 _ H4 (λ_ _=>False) I4 (qv TC) eN stop) λr s5 ⟨hr,I5⟩=> ?_;subst hr;show fin s3 _ I3 zG _ _ H4 s5 s5.toks (by rw[Nr];show Nat.lt_succ_self _) I5 q
  exact ci (T.item (bu X N' scope cl fp s3 (bU H s.heap.objs.size (.lst []))) rfl rfl rfl gj i [] s4 _ H4 (λ_ _=>False) I4 (qv TC) eN go) λr s5 ⟨u,hr,h5⟩=> ?_;subst hr;exact ci h5 λ_ s6 ⟨x,H6,I6,r6,y6,Nv,fr6⟩=> ?_;have I6':=I6.pinned (qv fr6) (T.obj _ _ Nv);have Vd:=hw _ x H6 _ (step x H6 y6);exact ci (hg s3 _ _ s6 _ H6 x u _ I6' r6 Vd) λ_ s7 ⟨σ7,H7,I7,wk,q7⟩=> ?_;have again: ∀ {H9:Hp} {s9:cL} {MM:cz V},Inv (bu X N' scope cl fp s3 (bU H s.heap.objs.size (.lst []))) ([]++ge fp s6.heap) σ7 H9 s9 ->(∃m',m'<n /\ W (i+1) m' MM H9) ->∃m,m<n /\ dY λi ys H'=>eZ (Inv (bu X N' scope cl fp s3 (bU H s.heap.objs.size (.lst []))) [] (ji own.length fr σ) H' s9) (tn i s9.heap) (∀b∈fp,H' b=none) (W i m ys H'):=λ{H9 s9 MM} I9 ⟨m',hm,w9⟩=>by exact#[m',hm,i+1,MM,H9,(I9.gV).weak ?_ wk.2,T.keep _ _ _ Nv λb hb o e=>(I9.pin (b,o) (aM _ (aM _ (dX hb e)))).1,λb hb=> ?_,w9];show wk.1.symm;let⟨o,e,d⟩:=T.obj _ _ Nv b hb;show(I9.pin (b,o) (aM _ (aM _ (dX hb e)))).2.1
  exact ci (hc s3 _ _ s7 σ7 H7 _ I7 q7) λok s8 ⟨H8,I8,q8⟩=> ?_;cases ok with
  | false=>simp![av,bp] at q8 ⊢;let⟨zs,q8⟩:=q8;show again I8 q8
  | true=>simp![bJ] at q8 ⊢;exact ci (he s3 _ _ s8 σ7 H8 _ I8 q8) λy s9 ⟨yv,H9,I9,ry,zs,hp9,hz9,q9⟩=> ?_;exact ci (hW _ s9 σ7 H9 (.ref s.heap.objs.size) [yv] (.ref s.heap.objs.size) [y] (λv H'=>H'=bU H9 s.heap.objs.size (.lst (zs++ [yv]))) I9 rfl (.cons ry .nil) #[_,zs,yv,rfl,rfl,hp9,hz9,rfl]) λv Xr ⟨_,QE,I10,_,e10⟩=> ?_;subst e10;show again I10 q9
 show codeAny_compStart_list loop (T.self _ 0 _ _ _ Ca loop)
end
section
variable {X:Cx}
theorem Cx.Ok.cellsOf {own N':cz Str}{fr:cz Nat}{scope:Scope}(ok:X.Ok)(S:c_ X own fr N' scope): ∀y∈scope.names,y.2= .free -> ∃c,X.env.cells.lookup y.1=some c:=λy hy hf=>ok.has y.1 (S.free y hy hf)
def eU {tg iter fF:Expr}{fD:cz Expr}{pos:Pos}{own N':cz Str}{fr:cz Nat}{scope:Scope}{wi:TI}{g:TG}{tc:TT}{te:TE}(gj:X.calm=true)(S:c_ X own fr N' scope)(hi:PI X tg iter wi) (hg: ∀cl fp s3 H3,PG (bu X N' scope cl fp s3 H3) tg g) (hw:HE own.length g) (hc: ∀cl fp s3 H3,Hk (bu X N' scope cl fp s3 H3) fD tc) (he: ∀cl fp s3 H3,PE (bu X N' scope cl fp s3 H3) fF te) (hs: ∀x,foldedSetIterable iter X.env x=pure x:=by intro _;rfl):PE X (.ListComp fF [#[tg,iter,fD,0]] scope pos) (Es wi own.length fr g tc te):=by intro ae s σ H Q I h;let⟨cl,q0,kz,mq⟩:=iP (I.ok.cellsOf S);rw[eval_ListComp];exact wpAny_comprehension_free (use:=none) rfl hs q0 S.kind S.loc (ci (hi ae s σ H _ I h) λv s1 h1=>ci h1 λOE s2 h2=> ?_);let⟨it,fp,tn,J,H2,e,I2,T,kr,f2,h2⟩:=h2;subst e;exact rG (RR:=λd4 C=>compPost (model X.prog X.w) X.A X.xe none (EP X ae σ Q) d4 C) gj S (hg cl fp) hw (hc cl fp) (he cl fp) kz mq I2 T kr f2 h2 ?_;intro s3 H3 I3 f3 D σ' H' s' t hD Ic q;let⟨m,hn,_⟩:=Ic.loc;exact#[m,hn,λh' J8=>#[.ref D,H',?_,rfl,q]];show kf I3 rfl (kg I3 f3 Ic) Ic.free J8
def zc {i:Nat}{x:Str}{tg iter fF:Expr}{fD:cz Expr}{pos Ew fV:Pos}{own N':cz Str}{fr:cz Nat}{scope:Scope}{wi:TI}{g:TG}{tc:TT}{te:TE}(gj:X.calm=true)(hN:X.N.Nodup)(hx:X.N[i]? =some x)(hl:Loc X.env.scope x)(S:c_ X own fr N' scope)(hi:PI X tg iter wi) (hg: ∀cl fp s3 H3,PG (bu X N' scope cl fp s3 H3) tg g) (hw:HE own.length g) (hc: ∀cl fp s3 H3,Hk (bu X N' scope cl fp s3 H3) fD tc) (he: ∀cl fp s3 H3,PE (bu X N' scope cl fp s3 H3) fF te) (S8:swapsWith (.ListComp fF [#[tg,iter,fD,0]] scope pos) (some (.Name x fV)) Ew.line X.env=pure true) (hs: ∀x,foldedSetIterable iter X.env x=pure x:=by intro _;rfl) (hf:X.fn x=true \/ X.env.scope.names.lookup x=some .local:=by first | show .inl rfl | show .inr rfl | assumption):PS X (.Assign [.Name x fV] (.ListComp fF [#[tg,iter,fD,0]] scope pos) Ew) (BZ (Es wi own.length fr g tc te) (i5 i)):=by
 intro ae s σ H D I h;let⟨cl,q0,kz,mq⟩:=iP (I.ok.cellsOf S);rw[exec_Assign_Name_used _ _ _ _ S8];exact af (wpAny_standAt (af ?_));change wpAny _ X.A (do let _ <- comprehension (.ListComp fF [#[tg,iter,fD,0]] scope pos) scope X.env _ (newList []) false (eval iter X.env) (some (assign (.Name x fV) X.env))) _ _ s;exact af (ci (wpAny_comprehension_free (use:=some (assign (.Name x fV) X.env)) (Q:=λ_ s'=>SP X ae D .next s') rfl hs q0 S.kind S.loc (ci (hi ae s σ H _ I h) λv s1 h1=>ci h1 λOE s2 h2=> ?_)) λ_ s' hq=>aC (aC hq));let⟨it,fp,tn,J,H2,e,I2,T,kr,f2,h2⟩:=h2;subst e;exact rG (RR:=λd4 C=>compPost (model X.prog X.w) X.A X.xe (some (assign (.Name x fV) X.env)) (λ_ s'=>SP X ae D .next s') d4 C) gj S (hg cl fp) hw (hc cl fp) (he cl fp) kz mq I2 T kr f2 h2 ?_;intro s3 H3 I3 f3 Da σ' H' s' t hD Ic q;let⟨m,hn,_⟩:=Ic.loc;have I5:=kg I3 f3 Ic;change wpAny _ X.A (assign (.Name x fV) X.env (.ref Da)) _ _ s';exact wpAny_assign_Name (nJ I5 hN hx hl (show RelV (.ref Da) (.ref Da) from rfl) (λs6 I6 J8=> ?_) hf);let⟨a,sb,ha⟩:=J8;have jm:s3.heap.objs.size≠a:=by obtain rfl | ha:=ha;show Nat.ne_of_gt I3.lt;let⟨v,z⟩:=I3.cell x a ha;show Nat.ne_of_gt z.lt
 exact#[m,hn.sameBut sb jm,λh' OR=>#[_,H',kf I3 rfl I6 Ic.free OR,q]]
end
set_option genInjectivity true in
inductive Dt where
 | dJ | bl (b:Bool) | int (i:Int) | str (x:Str) | tup (l:List Dt) | lst (l:List Dt)
mutual
def Rep (K:gg)(H:Hp):Dt ->V ->Prop
 | .dJ,v=>v= .dJ
 | .bl b,v=>v= .bl b
 | .int i,v=>v= .int i
 | .str x,v=>v= .str x
 | .tup l,v=>bX λa vs=>cg (v= .ref a) (gH K H a vs) (fb K H l vs)
 | .lst l,v=>bX λa vs=>cg (v= .ref a) (fh K H a vs) (fb K H l vs)
def fb (K:gg)(H:Hp):cz Dt ->cz V ->Prop
 | [],vs=>vs= []
 | d::r,vs=>bX λv t=>cg (vs=v::t) (Rep K H d v) (fb K H r t)
end
mutual
def rg:Dt ->Dt ->Bool
 | .dJ, .dJ=>true
 | .bl a, .bl b=>a==b
 | .bl a, .int b=>(if a then 1 else 0)==b
 | .int a, .bl b=>a==(if b then 1 else 0)
 | .int a, .int b=>a==b
 | .str a, .str b=>a==b
 | .tup a, .tup b=>vM a b
 | .lst a, .lst b=>vM a b
 | _,_=>false
def vM:cz Dt ->cz Dt ->Bool
 | [],[]=>true
 | x::xs,y::ys=>rg x y && vM xs ys
 | _,_=>false
end
mutual
def vO:Dt ->Nat
 | .tup l=>sU l+1
 | .lst l=>sU l+1
 | _=>0
def sU:cz Dt ->Nat
 | []=>0
 | d::r=>max (vO d) (sU r)
end
theorem fb.length {K:gg}{H:Hp}: ∀ {l:cz Dt} {vs:cz V},fb K H l vs ->l.length=vs.length
 | [],_,h=>by simp![fb] at h;subst h;rfl
 | d::r,vs,h=>by simp![fb] at h;let⟨v,t,rfl,_,h⟩:=h;simp[fb.length h]
theorem fb.at {K:gg}{H:Hp}: ∀ {l:cz Dt} {vs:cz V} {j:Nat} {d:Dt},fb K H l vs ->l[j]? =some d -> ∃v,vs[j]? =some v /\ Rep K H d v
 | [],_,_,_,_,e=>by simp at e
 | d::r,vs,j,d',h,e=>by
  simp![fb] at h;let⟨v,t,rfl,h1,h⟩:=h;cases j with
  | zero=>simp at e;subst e;show#[v,rfl,h1]
  | succ j=>simpa using fb.at (j:=j) h ⇑e
theorem mO: ∀ {l:cz Dt} {d:Dt},d∈l ->vO d<=sU l
 | [],_,h=>by simp at h
 | x::r,d,h=>by simp![sU];obtain rfl | h:=aL.mp h;show Nat.le_max_left _ _;show aH (mO h) (Nat.le_max_right _ _)
theorem iN: ∀ (a b:cz Dt),vM a b=((List.range (min a.length b.length)).all (λj=>rg (a.getD j .dJ) (b.getD j .dJ)) && a.length==b.length)
 | [],[]=>rfl
 | [],y::ys=>by simp[vM]
 | x::xs,[]=>by simp[vM]
 | x::xs,y::ys=>by
  have e:min (x::xs).length (y::ys).length=min xs.length ys.length+1:=by simp![aI];lia
  rw[vM,iN xs ys,e,List.range_succ_eq_map,List.all_cons,List.all_map];have e2:((x::xs).length==(y::ys).length)=(xs.length==ys.length):=by simp
  rw[e2,Bool.and_assoc];rfl
mutual
theorem jT: ∀d:Dt,rg d d=true
 | .dJ=>rfl
 | .bl b=>by simp[rg]
 | .int i=>by simp[rg]
 | .str x=>by simp[rg]
 | .tup l=>by simp![rg];show oi l
 | .lst l=>by simp![rg];show oi l
theorem oi: ∀l:cz Dt,vM l l=true
 | []=>rfl
 | x::xs=>by simp![vM,jT x,oi xs,Bool.and_self]
end
def Un.Xk {K:gg}{H H':Hp}(h: ∀b xs,Rd H b (.tup xs) ->Rd H' b (.tup xs)){a:dw}{xs:cz V}(q:gH K H a xs):gH K H' a xs:=by obtain q | q:=q;show .inl (h _ _ q);show .inr q
section
variable {X:Cx}{ae:cz (dw×Obj)}{σ:St}{H:Hp}{s:cL}
mutual
theorem Rep.inj (I:Inv X ae σ H s): ∀ (d e:Dt) (v:V),Rep X.K H d v ->Rep X.K H e v ->d=e
 | .dJ,e,v,h1,h2=>by simp![Rep] at h1;subst h1;cases e<;>simp![Rep] at h2<;>first | rfl | (cases h2;done) | (let⟨_,_,q,_⟩:=h2;cases q)
 | .bl b,e,v,h1,h2=>by simp![Rep] at h1;subst h1;cases e<;>simp![Rep] at h2<;>first | (cases h2;rfl) | (cases h2;done) | (let⟨_,_,q,_⟩:=h2;cases q)
 | .int b,e,v,h1,h2=>by simp![Rep] at h1;subst h1;cases e<;>simp![Rep] at h2<;>first | (cases h2;rfl) | (cases h2;done) | (let⟨_,_,q,_⟩:=h2;cases q)
 | .str b,e,v,h1,h2=>by simp![Rep] at h1;subst h1;cases e<;>simp![Rep] at h2<;>first | (cases h2;rfl) | (cases h2;done) | (let⟨_,_,q,_⟩:=h2;cases q)
 | .tup l,e,v,h1,h2=>by
  simp![Rep] at h1;let⟨a,vs,rfl,hs,hr⟩:=h1;cases e<;>simp![Rep] at h2<;>first | (cases h2;done) | skip
  let⟨a',Rc,q,fo,qZ⟩:=h2;cases q;have:=I.nF hs fo;subst this;rw[fb.inj I l _ vs hr qZ];let⟨a',Rc,q,fo,qZ⟩:=h2;cases q;let⟨its,_,ht,_⟩:=I.tuple hs;let⟨its',_,hl,_⟩:=I.list fo;show absurd rfl (SeqAt.ne_of_list_tuple (s:=s) hl.isList ht)
 | .lst l,e,v,h1,h2=>by
  simp![Rep] at h1;let⟨a,vs,rfl,hs,hr⟩:=h1;cases e<;>simp![Rep] at h2<;>first | (cases h2;done) | skip
  let⟨a',Rc,q,fo,qZ⟩:=h2;cases q;let⟨its,_,ht,_⟩:=I.tuple fo;let⟨its',_,hl,_⟩:=I.list hs;show absurd rfl (SeqAt.ne_of_list_tuple (s:=s) hl.isList ht);let⟨a',Rc,q,fo,qZ⟩:=h2;cases q;have:=I.list_inj hs fo;subst this;rw[fb.inj I l _ vs hr qZ]
theorem fb.inj (I:Inv X ae σ H s): ∀ (l m:cz Dt) (vs:cz V),fb X.K H l vs ->fb X.K H m vs ->l=m
 | [],m,vs,h1,h2=>by
  simp![fb] at h1;subst h1;cases m with
  | nil=>rfl
  | cons _ _=>simp![fb] at h2;let⟨_,_,q,_⟩:=h2;cases q
 | d ::r,m,vs,h1,h2=>by
  simp![fb] at h1;let⟨v,t,rfl,h1,h3⟩:=h1;cases m with
  | nil=>simp![fb] at h2;cases h2
  | cons d' r'=>simp![fb] at h2;let⟨v',t',q,h4,h5⟩:=h2;cases q;rw[Rep.inj I d d' v h1 h4,fb.inj I r r' t h3 h5]
end
def fb.items {l:cz Dt}{vs:cz V}{its:cz cG}(h:fb X.K H l vs)(r:bK vs its){j:Nat}(hj:j<its.length):Rep X.K H (l.getD j .dJ) (vs.getD j .dJ) /\ RelV (vs.getD j .dJ) its[j] /\ l.getD j .dJ∈l:=by
 have e1:=h.length;have e2:=r.length;have hl:j<l.length:= ∅;let⟨v,hv,hr⟩:=h.at (aw hl);let⟨u,hu,ru⟩:=r.get hv;have e3:l.getD j .dJ=l[j]:=by simp[List.getD,hl]
 have e4:vs.getD j .dJ=v:=by simp[List.getD,hv]
 rw[aw hj] at hu;cases hu;rw[e3,e4];show#[hr,ru,List.getElem_mem hl]
def Rep.sF (I:Inv X ae σ H s){l:cz Dt}{x:V}{u:cG}(h:Rep X.K H (.tup l) x)(r:RelV x u):bX λa i=>u= .ref a /\ IsTup s.heap a i:=by simp![Rep] at h;let⟨a,vs,rfl,hs,hr⟩:=h;cases r;let⟨its,_,ht,_⟩:=I.tuple hs;show#[a,_,rfl,ht]
def Rep.sO (I:Inv X ae σ H s){l:cz Dt}{x:V}{u:cG}(h:Rep X.K H (.lst l) x)(r:RelV x u):bX λa i=>u= .ref a /\ s.heap.IsList a i:=by simp![Rep] at h;let⟨a,vs,rfl,hs,hr⟩:=h;cases r;let⟨its,_,ht,_⟩:=I.list hs;show#[a,_,rfl,ht.isList]
def GP (I:Inv X ae σ H s)(n:Nat): ∀ (A:hV) (d e:Dt) (x y:V) (u v:cG),vO d<=n ->A.units+n<cLine ->Rep X.K H d x ->Rep X.K H e y ->RelV x u ->RelV y v ->SeqAt.EqAt A s u v (rg d e):=by
 induction n using Nat.strongRecOn with
 | _ n ih=>
 intro A d e x y u v hn hu h1 h2 r1 r2;cases d<;>cases e;case tup.tup l m=>
  have Ph:=h1
  have HV:=h2
  simp![Rep] at h1 h2
  let⟨a,vs,rfl,hs,hr⟩:=h1
  let⟨b,ws,rfl,fo,qZ⟩:=h2
  cases r1;cases r2
  by_cases Gr:a=b
  subst Gr
  rw[Rep.inj I _ _ _ Ph HV,jT]
  show SeqAt.EqAt.same _
  let⟨its,rv,ht,_⟩:=I.tuple hs
  let⟨its',Cd,xz,_⟩:=I.tuple fo
  exact SeqAt.EqAt.of_refs Gr ?_
  simp![rg]
  simp![vO] at hn
  match n,hn,hu,ih with
  | n +1,hn,hu,ih=>
   have z:=SeqAt.RcAt.tuples (A:=A) (s:=s) (e:=λj=>rg (l.getD j .dJ) (m.getD j .dJ)) ht xz ∅ λj g1 g2=>by let⟨q1,q2,q3⟩:=hr.items rv (j:=j) ⇑g1;let⟨q4,q5,q6⟩:=qZ.items Cd (j:=j) ⇑g2;exact ih n (Nat.lt_succ_self n) A.in1 _ _ _ _ _ _ ?_ ?_ q1 q4 ⇑q2 ⇑q5;have:=mO q3;lia;change A.units+1+n<cLine;lia
   rw[iN,hr.length,qZ.length,rv.length,Cd.length];simpa using z
 case lst.lst l m=>
  have Ph:=h1
  have HV:=h2
  simp![Rep] at h1 h2
  let⟨a,vs,rfl,hs,hr⟩:=h1
  let⟨b,ws,rfl,fo,qZ⟩:=h2
  cases r1;cases r2
  by_cases Gr:a=b
  subst Gr
  rw[Rep.inj I _ _ _ Ph HV,jT]
  show SeqAt.EqAt.same _
  let⟨its,rv,ht,_⟩:=I.list hs
  let⟨its',Cd,xz,_⟩:=I.list fo
  exact SeqAt.EqAt.of_refs Gr ?_
  simp![rg]
  simp![vO] at hn
  by_cases hl:its.length=its'.length
  match n,hn,hu,ih with
  | n +1,hn,hu,ih=>
   have z:=SeqAt.RcAt.lists (A:=A) (s:=s) (e:=λj=>rg (l.getD j .dJ) (m.getD j .dJ)) ht.isList xz.isList ⇑hl ∅ λj g1 g2=>by let⟨q1,q2,q3⟩:=hr.items rv (j:=j) ⇑g1;let⟨q4,q5,q6⟩:=qZ.items Cd (j:=j) ⇑g2;exact ih n (Nat.lt_succ_self n) A.in1 _ _ _ _ _ _ ?_ ?_ q1 q4 ⇑q2 ⇑q5;have:=mO q3;lia;change A.units+1+n<cLine;lia
   rw[iN,hr.length,qZ.length,rv.length,Cd.length,hl];simpa [hl] using z
  have z:=SeqAt.RcAt.lists_lengths (A:=A) (s:=s) ht.isList xz.isList ⇑hl ∅
  have hf:(its.length==its'.length)=false:= ⇑hl
  rw[iN,hr.length,qZ.length,rv.length,Cd.length,hf,Bool.and_false]
  show z
 case tup.lst=>let⟨a,i,rfl,h⟩:=Rep.sF I h1 r1;let⟨b,j,rfl,h'⟩:=Rep.sO I h2 r2;show SeqAt.EqAt.tuple_list h h' ∅
 case lst.tup=>let⟨a,i,rfl,h⟩:=Rep.sO I h1 r1;let⟨b,j,rfl,h'⟩:=Rep.sF I h2 r2;show SeqAt.EqAt.list_tuple h h' ∅
 case tup.dJ=>let⟨a,i,rfl,h⟩:=Rep.sF I h1 r1;simp![Rep] at h2;subst h2;cases r2;show SeqAt.EqAt.tuple_none h ∅
 case lst.dJ=>let⟨a,i,rfl,h⟩:=Rep.sO I h1 r1;simp![Rep] at h2;subst h2;cases r2;show SeqAt.EqAt.list_none h ∅
 case dJ.tup=>let⟨a,i,rfl,h⟩:=Rep.sF I h2 r2;simp![Rep] at h1;subst h1;cases r1;show SeqAt.EqAt.none_tuple h ∅
 case dJ.lst=>let⟨a,i,rfl,h⟩:=Rep.sO I h2 r2;simp![Rep] at h1;subst h1;cases r1;show SeqAt.EqAt.none_list h ∅
 case tup.bl=>let⟨a,i,rfl,h⟩:=Rep.sF I h1 r1;simp![Rep] at h2;subst h2;cases r2;show SeqAt.EqAt.tuple_bool _ h ∅
 case lst.bl=>let⟨a,i,rfl,h⟩:=Rep.sO I h1 r1;simp![Rep] at h2;subst h2;cases r2;show SeqAt.EqAt.list_bool _ h ∅
 case bl.tup=>let⟨a,i,rfl,h⟩:=Rep.sF I h2 r2;simp![Rep] at h1;subst h1;cases r1;show SeqAt.EqAt.bool_tuple _ h ∅
 case bl.lst=>let⟨a,i,rfl,h⟩:=Rep.sO I h2 r2;simp![Rep] at h1;subst h1;cases r1;show SeqAt.EqAt.bool_list _ h ∅
 case tup.int=>let⟨a,i,rfl,h⟩:=Rep.sF I h1 r1;simp![Rep] at h2;subst h2;let⟨t,rfl⟩:=r2;show SeqAt.EqAt.tuple_int _ _ h ∅
 case lst.int=>let⟨a,i,rfl,h⟩:=Rep.sO I h1 r1;simp![Rep] at h2;subst h2;let⟨t,rfl⟩:=r2;show SeqAt.EqAt.list_int _ _ h ∅
 case int.tup=>let⟨a,i,rfl,h⟩:=Rep.sF I h2 r2;simp![Rep] at h1;subst h1;let⟨t,rfl⟩:=r1;show SeqAt.EqAt.int_tuple _ _ h ∅
 case int.lst=>let⟨a,i,rfl,h⟩:=Rep.sO I h2 r2;simp![Rep] at h1;subst h1;let⟨t,rfl⟩:=r1;show SeqAt.EqAt.int_list _ _ h ∅
 case tup.str=>let⟨a,i,rfl,h⟩:=Rep.sF I h1 r1;simp![Rep] at h2;subst h2;let⟨t,rfl⟩:=r2;show SeqAt.EqAt.tuple_str _ _ h ∅
 case lst.str=>let⟨a,i,rfl,h⟩:=Rep.sO I h1 r1;simp![Rep] at h2;subst h2;let⟨t,rfl⟩:=r2;show SeqAt.EqAt.list_str _ _ h ∅
 case str.tup=>let⟨a,i,rfl,h⟩:=Rep.sF I h2 r2;simp![Rep] at h1;subst h1;let⟨t,rfl⟩:=r1;show SeqAt.EqAt.str_tuple _ _ h ∅
 case str.lst=>let⟨a,i,rfl,h⟩:=Rep.sO I h2 r2;simp![Rep] at h1;subst h1;let⟨t,rfl⟩:=r1;show SeqAt.EqAt.str_list _ _ h ∅
 all_goals (simp![Rep] at h1 h2;subst h1 h2;show GO r1 r2 rfl rfl)
end
end L2
namespace L2
open PySem PySem.Spec PyProof.Rows
def aes:Dt ->Bool
 | .tup _=>true
 | .lst _=>true
 | _=>false
def iy:Dt ->Dt ->Bool
 | .tup _, .tup _=>true
 | .lst _, .lst _=>true
 | _,_=>false
section
variable {X:Cx}
def RZ {ae:cz (dw×Obj)}{σ:St}{H:Hp}{s:cL}(I:Inv X ae σ H s){A:hV}{d e:Dt}{x y:V}{u v:cG}(hs:iy d e=true)(hn:vO d<=50)(hu:A.units+60<cLine)(h1:Rep X.K H d x)(h2:Rep X.K H e y)(r1:RelV x u)(r2:RelV y v): SeqAt.RcAt A s u v (rg d e) /\ SeqAt.RcNeAt A s u v (!rg d e):=by
 cases d with
 | tup l=>
  cases e with
  | tup m=>
   simp![Rep] at h1 h2;let⟨a,vs,rfl,hs,hr⟩:=h1;let⟨b,ws,rfl,fo,qZ⟩:=h2;cases r1;cases r2;let⟨its,rv,ht,_⟩:=I.tuple hs;let⟨its',Cd,xz,_⟩:=I.tuple fo;simp![rg];simp![vO] at hn;have he: ∀j (g1:j<its.toArray.size) (g2:j<its'.toArray.size),SeqAt.EqAt A.in1 s its.toArray[j] its'.toArray[j] ((λj=>rg (l.getD j .dJ) (m.getD j .dJ)) j):=λj g1 g2=>by let⟨q1,q2,q3⟩:=hr.items rv (j:=j) ⇑g1;let⟨q4,q5,q6⟩:=qZ.items Cd (j:=j) ⇑g2;exact GP I 50 A.in1 _ _ _ _ _ _ ?_ ?_ q1 q4 ⇑q2 ⇑q5;have:=mO q3;lia;change A.units+1+50<cLine;lia
   have z:=SeqAt.RcAt.tuples (A:=A) (s:=s) ht xz ∅ he;have z':=SeqAt.RcNeAt.tuples (A:=A) (s:=s) ht xz ∅ he;rw[iN,hr.length,qZ.length,rv.length,Cd.length];show#[⇑z, ⇑z']
  | _=>cases hs
 | lst l =>
  cases e with
  | lst m=>
   simp![Rep] at h1 h2;let⟨a,vs,rfl,hs,hr⟩:=h1;let⟨b,ws,rfl,fo,qZ⟩:=h2;cases r1;cases r2;let⟨its,rv,ht,_⟩:=I.list hs;let⟨its',Cd,xz,_⟩:=I.list fo;simp![rg];simp![vO] at hn;by_cases hl:its.length=its'.length;have he: ∀j (g1:j<its.toArray.size) (g2:j<its'.toArray.size),SeqAt.EqAt A.in1 s its.toArray[j] its'.toArray[j] ((λj=>rg (l.getD j .dJ) (m.getD j .dJ)) j):=λj g1 g2=>by let⟨q1,q2,q3⟩:=hr.items rv (j:=j) ⇑g1;let⟨q4,q5,q6⟩:=qZ.items Cd (j:=j) ⇑g2;exact GP I 50 A.in1 _ _ _ _ _ _ ?_ ?_ q1 q4 ⇑q2 ⇑q5;have:=mO q3;lia;change A.units+1+50<cLine;lia
   have z:=SeqAt.RcAt.lists (A:=A) (s:=s) ht.isList xz.isList ⇑hl ∅ he;have z':=SeqAt.RcNeAt.lists (A:=A) (s:=s) ht.isList xz.isList ⇑hl ∅ he;rw[iN,hr.length,qZ.length,rv.length,Cd.length,hl];show#[by simpa [hl] using z,by simpa [hl] using z'];have z:=SeqAt.RcAt.lists_lengths (A:=A) (s:=s) ht.isList xz.isList ⇑hl ∅;have z':=SeqAt.RcNeAt.lists_lengths (A:=A) (s:=s) ht.isList xz.isList ⇑hl ∅;have hf:(its.length==its'.length)=false:= ⇑hl;rw[iN,hr.length,qZ.length,rv.length,Cd.length,hf,Bool.and_false];show#[z,z']
  | _=>cases hs
 | _=>cases hs
def Sa (K:gg):R2:=λx y H Q=>bX λd e=>d9 (iy d e=true) (vO d<=50) (Rep K H d x) (Rep K H e y) (Q (.bl (rg d e)) H)
def R8 (K:gg):R2:=λx y H Q=>bX λd e=>d9 (iy d e=true) (vO d<=50) (Rep K H d x) (Rep K H e y) (Q (.bl (!rg d e)) H)
def zf (hu:X.A.units+60<cLine):kB X (compareOp .Eq) (Sa X.K):=by intro ae s σ H x y v u Q I r1 r2 h;let⟨d,e,h0,hn,h1,h2,q⟩:=h;show(RZ I h0 hn hu h1 h2 r1 r2).1 X.prog X.w X.xe _ #[.bl _,H,I,rfl,q]
def Oa (hu:X.A.units+60<cLine):kB X (compareOp .NotEq) (R8 X.K):=by intro ae s σ H x y v u Q I r1 r2 h;let⟨d,e,h0,hn,h1,h2,q⟩:=h;show(RZ I h0 hn hu h1 h2 r1 r2).2 X.prog X.w X.xe _ #[.bl _,H,I,rfl,q]
def dz.U_ {k:Nat}{A:hV}(r:dz k A):A.units+60<cLine:=by have:=r.units;lia
theorem A6: ∀ {ks:cz Int} {vs:cz cG},vs.length=ks.length ->(∀ (j:Nat) (v:cG),vs[j]? =some v ->bX λ(k:Int) (t:Tok)=>ks[j]? =some k /\ v= .int k t) ->IntsAre vs ks
 | [],[],_,_=> .nil
 | [],_::_,h,_=>by simp at h
 | _::_,[],h,_=>by simp at h
 | k::ks,v::vs,h,hv=>by let⟨k',t,e1,e2⟩:=hv 0 v rfl;simp at e1;subst e1 e2;show .cons k t (A6 ⇑h λj u e=> ⇑(hv (j+1) u ⇑e))
def xc:cz V ->Hp ->VK ->Prop:=λxs H Q=>dY λ(d:dw) (kvs:cz (bH×V)) (ks:cz Int)=>d9 (xs= [.ref d]) (H d=some (.dK kvs)) (kvs.map (·.1)=ks.map Sum.inl) (ks.length<=sizeLine) (∀ (p:dw) (ns:cz Int),H p=none ->ns.Perm ks ->ns.Pairwise (· <= ·) ->Q (.ref p) (bU H p (.lst (ns.map V.int))))
def fX (hc:X.calm=true):dU X (.builtin "sorted") xc:=by
 intro ae s σ H xs us Q I r h;let⟨d,kvs,ks,rfl,hd,hk,Gs,q⟩:=h;let⟨u,rfl,ru⟩:=vals1 r;cases ru;have hh:X.A.in1.handled=none:=I.ok.hd hc;let⟨hz,lo,vs,fk,dd⟩:=uo I.b0 hd;let⟨ep,Pd⟩:=dd.dictAt;have dD:vs.length=ks.length:=by have e1:=congrArg List.length hk;rw[ao,ao] at e1;rw[<- fk.length,e1]
 exact Calls.call_function_entry kind_sorted plain_sorted entry_sorted (args_sorted1 _) ?_;unfold Builtin.«sorted»;exact af (m:=checkCount "sorted" 1 1 _) (aC ?_);exact af (W.kdu_collect (A:=X.A.in1) (W.kdl_dict (knd:=bQ X.prog X.w) (kvs:=vs) (ep:=ep) lo) hh Pd (by rw[<- fk.length];show hz) λh' tk d4 O3 vJ=> ?_);have hl:d4.toList.length=ks.length:=by rw[bT,vJ.1,dD]
 have hI:IntsAre d4.toList ks:=A6 hl λj v e=>by
  let⟨k,x,hx,Tk⟩:=vJ.2 j v (by rw[<- Array.getElem?_toList];show e);have Gj:(kvs.map (·.1))[j]? =some k:=by
   have:(vs.map (·.1))[j]? =some k:=by rw[aG,hx];rfl
   rw[<- fk.keys] at this;show this
  rw[hk,aG] at Gj;cases e2:ks[j]? with
  | none=>rw[e2] at Gj;cases Gj
  | some n=>
   rw[e2] at Gj;cases Gj;have O4:mj (Sum.inl n) v=true:=Tk;rcases cM O4 with⟨i,t,e3,e4⟩ | ⟨x,t,e3,e4⟩
   cases e3;show#[n,t,rfl,e4];cases e3
 exact af (wpAny_newList ?_ (by rw[hl];show Gs));have ho:(h'.push (seqObj "list" d4.toList.toArray 0)).get? h'.objs.size=some (seqObj "list" d4.toList.toArray 0):=aJ _ rfl;exact af (wpAny_holding (wpAny_call_entry slot_list_sort #[_,ho,rfl] entry_list_sort (TS.Cb (s:= {s with heap:=h'.push (seqObj "list" d4.toList.toArray 0),toks:=tk}) ho hI (by rw[hl];show Gs) λout DH a1 a2 a3=>#[_,rfl,?_]) (args_list_sort _)));let⟨ee,Gq⟩:=sortedHeap_at (out:=out) ho;have I':Inv X ae σ H {s with heap:=h',toks:=tk}:=I.kept (t':=tk) O3;exact aC #[_,rfl, .ref h'.objs.size,_,I'.laid (t':=tk) (o:= .lst (DH.map V.int)) (λb o hb=> ?_) (ak _) ?_,rfl,q _ DH (I'.b0.fresh (ak _)) a2 a3];have gP:b<h'.objs.size:=ax hb;rw[sortedHeap_old (aN gP) (by rw[Heap.size_push];show Nat.lt_succ_of_lt gP)];show ai _ hb;exact#[?_,out.toList,ee,nD a1, ⇑Gq];rw[ao,a2.length_eq];show Gs
end
def c_.of {X:Cx}{sc scope:Scope}{N own N':cz Str}{fr:cz Nat}(hsc:X.env.scope=sc:=by show rfl)(hN:X.N=N:=by show rfl)(kind:scope.kind= .function:=by show rfl)(names:N'=own++fr.filterMap (λj=>N[j]?):=by decide+kernel)(len:N'.length=own.length+fr.length:=by show rfl)(nd:N'.Nodup:=by decide+kernel) (qL: ∀y∈scope.names,y.2≠ .cell:=by decide+kernel) (loc: ∀y∈scope.names,y.2= .local ->scope.names.lookup y.1=some .local:=by decide+kernel) (Qz: ∀x∈fr.filterMap (λj=>N[j]?),scope.names.lookup x=some .free:=by decide+kernel) (free: ∀y∈scope.names,y.2= .free ->sc.names.lookup y.1=some .cell \/ sc.names.lookup y.1=some .free:=by first | decide+kernel | show of_decide_eq_true rfl):c_ X own fr N' scope:=by subst hN hsc;show#[kind,names,len,nd,qL,loc,Qz,free]
structure gu (K:PySem.W.Frag)(mg:Str ->Option Value)(x:Str)(ps:List Str)(st:Stmt)(f:Addr)(fd:FuncData):Prop where
 at_:mg x=some (.ref f)
 fn:yo K x x st f fd
 bd:Binds K fd ps []
section
variable {X:Cx}{k:Nat}{f:dw}{fd:gN}{ps:cz Str}{sp:Sp}{x:Str}{st:Stmt}{p pos:Pos}{e:Expr}{es:cz Expr}{t:TA}
theorem aR {j:Nat}(C:gu X.K X.mg x ps st f fd)(F:bv X.prog X.w X.K X.mg X.base ez k f fd ps sp)(hr:dz j X.A) (ha:PA X (e::es) t) (hk:k<=j:=by decide) (hg:Gl X x:=by rfl) (kU:(x==("__debug__" :Str))=false:=by decide) (he:starEach (e::es) X.env=(false,eval e X.env)::starEach es X.env:=by rfl) (nA:(backTo pos (starEach es X.env)).any (·.1)=false:=by rfl): PE X (.Call (.Name x p) (e::es) [] pos) (oB sp [] E0 t):=AK F (hr.mono hk) hg C.at_ C.fn.kp C.bd .nil xh ha kU he nA
theorem Ck (C:gu X.K X.mg x ps st f fd)(F:bv X.prog X.w X.K X.mg X.base ez k f fd ps sp)(hr:dz k X.A)(hg:Gl X x) (kU:(x==("__debug__" :Str))=false:=by decide):PE X (.Call (.Name x p) [] [] pos) (oB sp [] E0 yV):=Fe F hr hg C.at_ C.fn.kp C.bd .nil xh kU
end
theorem bF {H:Hp}{p:dw}{o:HO}(h:H p=none):dP H (bU H p o):=λb u e=>by rw[bq (cy e h)];show e
def Wc (d:dw)(H H':Hp):Prop:= ∀b o,b≠d ->H b=some o ->H' b=some o
theorem Wc.trans {d:dw}{H H1 H2:Hp}(a:Wc d H H1)(b:Wc d H1 H2):Wc d H H2:=λc o n h=>b c o n (a c o n h)
def aS (H H':Hp):Prop:= ∀b xs,Rd H b (.tup xs) ->Rd H' b (.tup xs)
theorem aS.refl (H:Hp):aS H H:=λ_ _ h=>h
theorem aS.trans {H H1 H2:Hp}(a:aS H H1)(b:aS H1 H2):aS H H2:=λc o h=>b c o (a c o h)
theorem dP.ts {H H':Hp}(a:dP H H'):aS H H':=λb xs h=>by obtain h | ⟨o,h⟩:=h;show .inl (a _ _ h);show .inr #[o,a _ _ h]
end L2
namespace L2
open PySem PyProof.Rows PyProof.V PySem.Calls PySem.Spec
def gv (P:gA)(w:gB):yK:=λouter H s E e s'=>rN λ(ea:dw) (cls a0:cG) (B:gC) (H':Hp)=>MJ (e= .ref ea) (s'.os=s.os) (AllBare s'.gens) (Heap.FlyingW B outer ea cls a0 s'.heap) (jk P w H' B) (H' ea=none) (Un (jo outer) [] H H' s.heap s'.heap) (cg (∀b o,s.heap.get? b=some o ->H b=none ->b∉jo outer ->B.get? b=some o) (∀b o,s.heap.get? b=some o ->b∉jo outer -> ∃o',B.get? b=some o') (E cls none H'))
def dF.ex {P:gA}{w:gB}{H:Hp}{h:gC}{a:dw}{o:HO}(x:dF P w H h a o): ∃u,h.get? a=some u:=by
 cases o with
 | lst xs=>let⟨_,_,_,_,e⟩:=x;show#[_,e]
 | tup xs=>let⟨_,_,_,p,e,_⟩:=x;show#[_,e]
 | dK kvs=>let⟨_,_,_,_,o,_,_,e,_⟩:=x;show#[_,e]
 | dT kvs=>let⟨_,_,_,_,o,_,_,e,_⟩:=x;show#[_,e]
 | set S n=>let⟨o,_,_,_,e,_⟩:=x;show#[_,e]
 | ins C dx fs=>let⟨_,_,_,e,_⟩:=x;show#[_,e]
 | own y=>show x
 | xd fs=>let⟨_,⟨_,_,_,e,_⟩,_⟩:=x;show#[_,e]
 | Vi lo hi=>let⟨_,_,_,e⟩:=x;show#[_,e]
 | mx ob u=>let⟨e,_⟩:=x;show#[_,e]
 | IB ps=>show#[_,(show h.get? a=some _ from x)]
 | met f y=>show#[_,(show h.get? a=some _ from x)]
 | ext φ=>let⟨_,e,_⟩:=x;show e
section
variable {X:Cx}{ae:cz (dw×Obj)}{σ:St}{H H':Hp}{s s':cL}
theorem Inv.JE (I:Inv X ae σ H s){b:dw}{o:Obj}(e:X.s₀.heap.get? b=some o)(n:b∉X.fs):b∉jo X.stack:=λz=>by obtain q | q:=aL.mp (I.uU b z);have h1:=ax e;have h2:=I.ok.above;rw[q] at h1;show absurd h1 (Nat.not_lt.mpr h2);show n q
theorem qp {outer:cz Env}{H₀:Hp}{h0 h h' B:gC}{base:gC}(ff:h.FunFrames base outer)(hF: ∀b∈jo outer,H₀ b=none)(u:Un (jo outer) [] H₀ H' h0 h)(st:B.StaysIn h')(up:h.UpToSlots h') (kb: ∀b o,h0.get? b=some o ->H₀ b=none ->b∉jo outer ->B.get? b=some o) (kt: ∀b o,h0.get? b=some o ->b∉jo outer -> ∃o',B.get? b=some o'):Un (jo outer) [] H₀ H' h0 h' where
 keep b o e n hb _:=st b o (kb b o e n hb)
 slot b o e n hb hx:=by let⟨sl,e1⟩:=u.slot b o e n hb hx;let⟨_,o2,e2,Ta⟩:=ff.mem hb;rw[e1] at e2;cases e2;let⟨Xl,e3⟩:=up b _ e1 Ta;show#[Xl,e3]
 free:=u.free
 there b o e hx:=by by_cases hb:b∈jo outer;let⟨sl,e1⟩:=u.slot b o e (hF b hb) hb hx;let⟨_,o2,e2,Ta⟩:=ff.mem hb;rw[e1] at e2;cases e2;let⟨Xl,e3⟩:=up b _ e1 Ta;show#[_,e3];let⟨o',e'⟩:=kt b o e hb;show#[o',st _ _ e']
 jg:=u.jg
 ik:=u.ik
 jt:=u.jt
def zd {P:gA}{w:gB}{K:gg}{mg:Str ->cT cG}{base:gC}{N:cz Str}{qual:Str}{scope:Scope}{f:dw}{cd:cG}{A:hV}{outer:cz Env}{s:cL}{H:Hp}{E:XK}: fQ (gv P w) (dE (gv P w) P w K mg base N qual scope f cd A outer s H E) E:=by
 intro ae σ H1 s1 e s' I hf;let⟨ea,cls,a0,B,H',rfl,os,bare,fl,b0,sR,un,kb,kt,hE⟩:=hf;have I':=I.G_ (ch:= []) os un (b0.kept fl.1) bare (λb z=>absurd z (by simp));change wpAny _ _ (leaving _ (.ref ea)) _ _ s';exact wpAny_leaves_onW I.ok.frames rfl fl λh' fl' up=> ?_;have hex:(dE (gv P w) P w K mg base N qual scope f cd A outer s H E).ex= []:=rfl;have kb': ∀b o,s.heap.get? b=some o ->H b=none ->b∉jo outer ->B.get? b=some o:=λb o e n hb=>kb b o (I.base.keep b o e n hb (λz=>absurd z (by simp[hex]))) (I.base.free b o e n (λz=>absurd z (by simp[hex]))) (I.JE e hb);have kt': ∀b o,s.heap.get? b=some o ->b∉jo outer -> ∃o',B.get? b=some o':=λb o e hb=>by let⟨o1,e1⟩:=I.base.there b o e (λz=>absurd z (by simp[hex]));show kt b o1 e1 (I.JE e hb)
 show#[ea,cls,a0,B,H',rfl,os.trans I.os,bare,fl',b0,sR,qp I'.lr I.ok.HW I'.base fl'.1 up kb' kt',kb',kt',hE]
def Gx {P:gA}{w:gB}{M:Model}{E':cG ->cL ->Prop}{E:XK}{h':gC}{e:dw}{cls:cG}{vs:cz cG}(hP:X.prog=P)(hw:X.w=w)(I:Inv X ae σ H s)(oS:X.stack=X.env::X.outer)(zF:X.env.frame=some X.env.locals)(hex:X.ex= []) (mk:Heap.MadeExcOf s.heap h' e cls vs) (hE:E cls none H): wpAny M X.A (leaving X.env (.ref e)) (λ_ s2=>gv P w X.outer X.H₀ X.s₀ E (.ref e) s2) E' {s with heap:=h'}:=by
 subst hP hw;have LV: ∀b:dw,b∉X.ex:=λb z=>by rw[hex] at z;show absurd z (by simp)
 have Nu:=I.stack;have HS: ∀env∈X.stack, ∀b,env.frame=some b ->b∈jo X.stack:=λenv he b hb=>List.mem_filterMap.mpr #[env,he,hb];have hB:jk X.prog X.w H (W.hideAll s.heap (jo X.stack)):=λa o ea=>(I.b0 a o ea).lL (λb u hb q=>W.hideAll_get _ q λhm=>by have:=I.pY b hm;obtain rfl | hb:=hb;rw[ea] at this;cases this;rw[hb] at this;cases this) (λ_ q=>q) λ_ _ q=>q;have sR:H e=none:=by
  cases q:H e with
  | none=>rfl
  | some o=>let⟨u,hu⟩:=(I.b0 e o q).ex;rw[mk.new] at hu;cases hu
 have kb: ∀b o,X.s₀.heap.get? b=some o ->X.H₀ b=none ->b∉jo X.outer ->(W.hideAll s.heap (jo X.stack)).get? b=some o:=λb o e n hb=>W.hideAll_get _ (I.base.keep b o e n hb (LV b)) (I.JE e hb);have kt: ∀b o,X.s₀.heap.get? b=some o ->b∉jo X.outer -> ∃o',(W.hideAll s.heap (jo X.stack)).get? b=some o':=λb o e hb=>by let⟨o1,e1⟩:=I.base.there b o e (LV b);show#[o1,W.hideAll_get _ e1 (I.JE e hb)]
 have VT:s.heap.FunFrames (W.hideAll s.heap (jo X.stack)) (X.env::X.outer):=by have:=W.funFrames_hide Nu HS;rw[oS] at this ⊢;show this
 exact wpAny_leaves_madeW (by rw[I.ok.frames,oS]) zF (λb o q=>W.of_hideAll _ q) VT mk λh2 t fl tu _ up=> ?_;have up':s.heap.UpToSlots h2:=(Heap.UpToSlots.of_keeps mk.keeps).trans up;have u0:Un (jo X.outer) [] X.H₀ H X.s₀.heap s.heap:=by have:=I.base;rw[hex] at this;show this
 show#[e,cls, .ref t,_,H,rfl,I.os,I.bare,fl,hB,sR,qp I.lr I.ok.HW u0 fl.1 up' kb kt,kb,kt,hE]
def BQ (X:Cx)(E:XK):Prop:= ∀ (ae:cz (dw×Obj)) (σ:St) (H:Hp) (s:cL) (h':gC) (e:dw) (cls:cG) (vs:cz cG),Inv X ae σ H s ->Heap.MadeExcOf s.heap h' e cls vs ->E cls none H ->X.xe (.ref e) {s with heap:=h'}
theorem Gy {P:gA}{w:gB}{K:gg}{mg:Str ->cT cG}{base:gC}{N:cz Str}{qual:Str}{scope:Scope}{f:dw}{cd:cG}{A:hV}{outer:cz Env}{s:cL}{H:Hp}{E:XK}: BQ (dE (gv P w) P w K mg base N qual scope f cd A outer s H E) E:=λae σ H1 s1 h' e cls vs I mk hE=>Gx (P:=P) (w:=w) rfl rfl I rfl rfl rfl mk hE
nonrec abbrev Ui:cz cG:= [.type "ValueError", .type "Exception", .type "BaseException", .type "object"]
def yT (C:dw)(E:XK)(t:TA):TS:=λ_ σ H=>t σ H λvs H1=>vs.length<=sizeLine /\ E (.ref C) none H1
def EY {E:XK}{x:Str}{C:dw}{np dg pos:Pos}{e₀:Expr}{rest:cz Expr}{t:TA}(hF:BQ X E)(hc:X.calm=true)(hg:Gl X x)(O:PyProof.Rows.OwnCls x C Ui "ValueError.__new__" X.mg X.base)(ha:PA X (e₀::rest) t) (kU:(x==("__debug__" :Str))=false:=by decide) (he:starEach (e₀::rest) X.env=(false,eval e₀ X.env)::starEach rest X.env:=by rfl) (nA:(backTo dg (starEach rest X.env)).any (·.1)=false:=by rfl): PS X (.Raise (some (.Call (.Name x np) (e₀::rest) [] dg)) none pos) (yT C E t):=by intro ae s σ H D I h;let⟨tl,N,nm,q,bs,hdct,sn,sub,ab,col,dd,k0,k1,k2,k3,k5,mN,hC,hN,Yx,T⟩:=O.obj;exact wpAny_Raise_call_subU (C:=C) (nm:=nm) (q:=q) (N:=N) (bs:=bs) (bm:=tl) (hdct:=hdct) (sn:=sn) (sub:=sub) (ab:=ab) (col:=col) (dd:=dd) (k0:=k0) (k1:=k1) (k2:=k2) (k3:=k3) (k5:=k5) PySem.F.excBase_ValueError (bmB:=Ui) (by decide+kernel) PySem.F.excBase_ValueError (mN:=mN) (T.hasType PySem.F.excBase_ValueError.hasBase) (I.ok.hd hc) (by rw[he];change(false || (backTo dg (starEach rest X.env)).any (·.1))=false;rw[nA];rfl) Yx (j_ I hg O.bound #[rfl,?_] kU);have h2:=ha dg ae s σ H _ I h;rw[he] at h2 ⊢;show Calls.evalArgs_plain (ci h2 λus s2 ⟨vs,H1,I1,r,z,hE⟩=>#[rfl,by rw[<- r.length];show z,I1.bk _ _ hC,hN.keeps I1.bk,T.keeps I1.bk,λh' e mk=>hF ae σ H1 s2 h' e (.ref C) us I1 mk hE])
end
def fi (a C:dw)(h:gC):Prop:= ∃o,h.get? a=some o /\ o.cls= .ref C
abbrev Cx.gE (X:Cx)(e:cG):Cx:= {X with A:=X.A.mark (some e),calm:=false,xe:=λ_ _=>False}
section
variable {X:Cx}{ae:cz (dw×Obj)}{σ:St}{H H':Hp}{s s':cL}
theorem Cx.Ok.gE (ok:X.Ok)(e:cG):(X.gE e).Ok:=#[ok.mod,ok.kind,ok.glob,ok.blt,ok.above,ok.inj,ok.has,ok.QA,(λz=>nomatch z),ok.frames,ok.Nu,ok.exf,ok.bs,ok.Hb,ok.Cr,ok.zJ,ok.lr,ok.HW]
theorem Inv.gE (I:Inv X ae σ H s)(e:cG):Inv (X.gE e) ae σ H s:=#[I.ok.gE e,I.os,I.bare,I.base,I.loc,I.cell,I.free,I.fg,I.pin,I.b0,I.len]
theorem Inv.iF {e:cG}(ok:X.Ok)(I:Inv (X.gE e) ae σ H s):Inv X ae σ H s:=#[ok,I.os,I.bare,I.base,I.loc,I.cell,I.free,I.fg,I.pin,I.b0,I.len]
def Kh {M:Model}{A:hV}{E:cG ->cL ->Prop}{i:Nat}{n:Str}{pos:Pos}{Q:Unit ->cL ->Prop}(I:Inv X ae σ H s)(hN:X.N.Nodup)(hi:X.N[i]? =some n)(hk:X.env.kindOf n=some .local) (h: ∀s',Inv X ae (σ.set i none) H s' ->Q () s'):wpAny M A (do bindName X.env n .none;unbindBehindTheSuite X.env n pos) Q E s:=by
 let⟨m,hn,hl⟩:=id I.loc;have Pa:(X.env.scope.kind== .class || (X.env.scope.kind== .module && X.env.locals !=X.env.globals))=false:=by rw[I.ok.kind];rfl
 have VS:i<σ.length:=by rw[I.len];show(aB.mp hi).1
 have G7:=I.G7;exact wpAny_nameGoes_keeps hk hn Pa λh' v O0 hs=> ?_;let⟨oL,_,_,hoL,_⟩:=id hn;have tracked:jk X.prog X.w H h':=λb ob e=>by exact(I.b0 b ob e).lL (λc w' hc q=>(hs.2 c ?_).trans q) (λ_ q=>q) λ_ _ q=>q;rintro rfl;obtain rfl | hc:=hc;rw[I.free] at e;cases e;rw[I.free] at hc;cases hc
 exact h _ #[I.ok,I.os,I.bare,#[λb o e n hb hx=> ?_,λb o e n hb hx=> ?_,I.base.free,λb o e hx=> ?_,I.base.jg,I.base.ik,I.base.jt],#[_,O0,λj y v' e1 e2 e3=> ?_],λy c e=> ?_,I.free,I.fg,λp hp=> ?_,tracked, ⇑I.len];show(hs.2 b (aN (a4 (ax e) I.ok.above))).trans (I.base.keep b o e n hb hx);let⟨sl,e1⟩:=I.base.slot b o e n hb hx;show#[sl,(hs.2 b (aN (a4 (ax e) I.ok.above))).trans e1];let⟨o',e1⟩:=I.base.there b o e hx;show#[o',(hs.2 b (aN (a4 (ax e) I.ok.above))).trans e1];by_cases hj:j=i;subst hj;rw[List.getElem?_set_self VS] at e2;cases e2;rw[List.getElem?_set_ne (bD hj)] at e2;let⟨u',r',q⟩:=hl j y v' e1 e2 e3;exact#[u',r',?_];rcases q with⟨k,e⟩ | ⟨k,c,e,z⟩
 exact .inl #[k,?_];have:y≠n:=λe=>hj (qK hN e1 (e▸hi));simp[this,e];show .inr #[k,c,e,z.sameBut hs (G7 y c e)];let⟨w',z⟩:=I.cell y c e;show#[w',z.sameBut hs (G7 y c e)];let⟨e,n,ne,nf,d⟩:=I.pin p hp;show#[(hs.2 p.1 ne).trans e,n,ne,nf,d]
def gi {H1:Hp}{s1:cL}{B h5:gC}{ea C:dw}{a0:cG}(I:Inv X ae σ H1 s1)(os:s'.os=s1.os)(bare:AllBare s'.gens)(fl:Heap.FlyingW B X.stack ea (.ref C) a0 s'.heap)(b0:jk X.prog X.w H' B)(sR:H' ea=none) (un:Un (jo X.stack) [] H1 H' s1.heap s'.heap) (kb: ∀b o,s1.heap.get? b=some o ->H1 b=none ->b∉jo X.stack ->B.get? b=some o) (kt: ∀b o,s1.heap.get? b=some o ->b∉jo X.stack -> ∃o',B.get? b=some o') (fl5:Heap.FlyingW B X.stack ea (.ref C) a0 h5) (up:s'.heap.UpToSlots h5) {tk:Nat}:Inv X ae σ (bU H' ea (.ext (fi ea C))) {s' with heap:=h5,toks:=tk} /\ aS H1 (bU H' ea (.ext (fi ea C))):=by
 have new: ∀b o,s1.heap.get? b=some o ->b≠ea:=λb o e z=>by subst z;by_cases hb:b∈jo X.stack;let⟨_,o2,e2,Ta⟩:=fl.2.2.1.mem hb;let⟨oe,vs,e3,_,hd,_⟩:=fl.first;rw[e2] at e3;cases e3;show Ta vs hd;let⟨o',e'⟩:=kt b o e hb;rw[fl.2.1] at e';cases e'
 have u5:=qp fl.2.2.1 I.pY un fl5.1 up kb kt;have xx: ∀b o,H' b=some o ->bU H' ea (.ext (fi ea C)) b=some o:=λb o e=>by rw[bq (cy e sR)];show e
 have u6:Un (jo X.stack) [] H1 (bU H' ea (.ext (fi ea C))) s1.heap h5:=#[u5.keep,u5.slot,λb o e n hx=>by rw[bq (new b o e)];show u5.free b o e n hx,u5.there,λb xs e=>xx _ _ (u5.jg b xs e),λb o u e=>xx _ _ (u5.ik b o u e),λb ps e=>let ⟨m,z⟩:=u5.jt b ps e;#[m,xx _ _ z]]
 have Yu:jk X.prog X.w (bU H' ea (.ext (fi ea C))) h5:=λb o e=>by by_cases hb:b=ea;subst hb;rw[bC] at e;cases e;let⟨oe,vs,e3,hc,_⟩:=fl5.first;show#[#[oe,e3,hc],#[oe,e3],λh1 h2 ⟨o,e,c⟩ k=>#[o,k o e,c]];rw[bq hb] at e;show(b0 b o e).lL (λc u _ q=>fl5.1 c u q) (λc q=>xx _ _ q) λc xs q=>xx _ _ q
 exact#[I.G_ (s':= {s' with heap:=h5,toks:=tk}) (ch:= []) os u6 Yu bare (λb z=>absurd z (by simp)),λb xs r=> ?_];obtain r | ⟨w,r⟩:=r;show .inl (u6.jg _ _ r);show .inr #[w,u6.ik _ _ _ r]
def xE (i:Nat)(D:jl):jl:= {nx:=λσ H=>D.nx (σ.set i none) H,rt:=D.rt,bk:=λσ H=>D.bk (σ.set i none) H,ct:=λσ H=>D.ct (σ.set i none) H}
theorem vD {M:Model}{A:hV}{E:cG ->cL ->Prop}{x:Str}{u:cG}{pos:Pos}{Q:cG ->cL ->Prop}(I:Inv X ae σ H s)(hg:Gl X x)(hm:X.mg x=some u)(h:Q u s) (hd:(x==("__debug__" :Str))=false:=by decide):wpAny M A (eval (.Name x pos) X.env) Q E s:=Calls.Name_function_global I.ok.kind hg (Calls.loadGlobal_global (by rw[I.ok.glob];show I.mod.glob.keeps I.bk) hm h) hd
end
end L2
namespace L2
open PySem PyProof.Rows PyProof.V PySem.Calls PySem.Spec PySem.W PySem.Builtin PySem.Builtin.ObjectAttr PySem.Builtin.Getset_descriptor
section
variable {prog:gA}{w:gB}{A:hV}{E:cG ->cL ->Prop}{K:gg}{hh:gC}{g:ft GenState}{d:Drawn}{t:Nat}{os:OsState}{a C:dw}{o:Obj}
theorem oh {M:Model}(hx:hh.get? a=some o)(hc:o.cls= .ref C):Looks M hh (typeOf (.ref a)) (.ref C):=hc▸ (Looks.ld hx).andThen .now
def Kq {R:Result ->cL ->Prop}{tp:cG}(X:K.In hh)(hx:hh.get? a=some o)(hc:o.cls= .ref C)(hm:mroIn K C (.type "object")=some true)(h:R (.ok (.ret (.ref C))) #[hh,g,d,t,os]): codeAny (model prog w) A (.call (.builtin "getset_descriptor.__get__") #[[.builtin "object.__class__", .ref a,tp],[]]) R #[hh,g,d,t,os]:=by
 have L0:=oh (M:=model prog w) hx hc;have L1:=looks_mroIn (M:=model prog w) X hm;exact codeAny_call_builtin KF.slot_gs.plain KF.entry_gs (KF.slot_gs.check _ _ _ _ _ _ _ _ KF.type_class (KF.args_gs _ _ _) ?_);unfold Builtin.«getset_descriptor.__get__» descrGet;rw[dga_obj];exact af (aC ?_);unfold descrGetter descrCheckInstance descrNameAndClass isInstance;simp![KF.owner_class];repeat lk
 exact#[Code.quiet_builtin _ (by decide+kernel),codeAny_builtin KF.entry_class ?_];unfold Builtin.«object.__class__» shownTypeOf;repeat lk
 show h
def CZ {tk:Tok}{Q:Fin ->cL ->Prop}(X:K.In hh)(hx:hh.get? a=some o)(hc:o.cls= .ref C)(kz:findIn K (.ref C) "__class__" =some (some (.builtin "object.__class__")))(hm:mroIn K C (.type "object")=some true) (hq:Q (.done (.ret (.ref C))) #[hh,g,d,t,os]):wpAny (model prog w) A (Builtin.«object.__getattribute__» #[[.ref a, .str "__class__" tk],[]]) Q E #[hh,g,d,t,os]:=by
 have LT:=oh (M:=model prog w) hx hc;have L3:=looks_findIn (M:=model prog w) X kz;have hT5:(#[hh,g,d,t,os]:cL).TypeIs (.builtin "object.__class__") "getset_descriptor" :=F.typeOf_object_class;have f5:=F.typeOf_object_class;have f6:=F.slot_gs_get.lookup;have f7:=F.slot_gs_set.lookup;repeat (any_goals (first | assumption | with_reducible exact Looks.at LT ?_ | with_reducible exact Looks.at L3 ?_ | (with_reducible exact wpAny_loadPart_at hx ?_;rw[hc]) | wp_step))
 exact Kq X hx hc hm ?_;repeat (any_goals (first | assumption | wp_step))
def C0 {M:Model}{LX:cG}{Q:Unit ->cL ->Prop}(X:K.In hh)(hx:hh.get? a=some o)(hc:o.cls= .ref C)(hb:mroIn K C (.type "BaseException")=some true)(hq:Q () #[hh,g,d,t,os]): wpAny M A (checkBuiltinCall "BaseException.__getattribute__" #[[.ref a,LX],[]]) Q E #[hh,g,d,t,os]:=by
 have LT:=oh (M:=M) hx hc;have LB:=looks_mroIn (M:=M) X hb;have hk:builtinKind "BaseException.__getattribute__" =some .slot:=by decide+kernel
 have OM:splitId "BaseException.__getattribute__" =some ("BaseException","__getattribute__"):=by decide+kernel
 have ha:=F.args_bexc_ga (.ref a) LX;simp![checkBuiltinCall,hk,OM];exact af ?_
 .unfold isInstance;repeat (first | with_reducible exact Looks.at LT ?_ | with_reducible exact Looks.at LB ?_ | (with_reducible exact wpAny_loadPart_at hx ?_;rw[hc]) | wp_step)
  show hq
theorem GK {tk:Tok}{R:Result ->cL ->Prop}(X:K.In hh)(hx:hh.get? a=some o)(hc:o.cls= .ref C)(kz:findIn K (.ref C) "__class__" =some (some (.builtin "object.__class__")))(hm:mroIn K C (.type "object")=some true)(hb:mroIn K C (.type "BaseException")=some true) (hq:R (.ok (.ret (.ref C))) #[hh,g,d,t,os]):codeAny (model prog w) A (.call (.builtin "BaseException.__getattribute__") #[[.ref a, .str "__class__" tk],[]]) R #[hh,g,d,t,os]:=codeAny_call_builtin F.excAttr_ValueError.ga.plain F.entry_bexc_ga (C0 X hx hc hb (CZ X hx hc kz hm hq))
def Pn {tk:Tok}{fill GJ:Bool}{Q:cG ->cL ->Prop}(X:K.In hh)(hx:hh.get? a=some o)(hc:o.cls= .ref C)(YN:findIn K (.ref C) "__getattribute__" =some (some (.builtin "BaseException.__getattribute__")))(YL:findIn K (.ref C) "__getattr__" =some none) (kz:findIn K (.ref C) "__class__" =some (some (.builtin "object.__class__"))) (hm:mroIn K C (.type "object")=some true) (hb:mroIn K C (.type "BaseException")=some true) (hq:Q (.ref C) #[hh,g,d,t,os]):wpAny (model prog w) A (getAttrBy (.ref a) (.str "__class__" tk) fill GJ) Q E #[hh,g,d,t,os]:=by
 have LT:=oh (M:=model prog w) hx hc;have L1:=looks_findIn (M:=model prog w) X YN;have L2:=looks_findIn (M:=model prog w) X YL;have f3:=F.excAttr_ValueError.ga.bind (.ref a);have hx0:(GJ && onTheHeap (Value.builtin "BaseException.__getattribute__"))=false:=by cases GJ<;>rfl
 have Yj:(Value.builtin "BaseException.__getattribute__" ==Value.builtin "object.__getattribute__")=false:=by decide+kernel
 have hx1:(onTheHeap (Value.ref C) && Value.builtin "BaseException.__getattribute__" ==Value.builtin "object.__getattribute__")=false:=by rw[Yj];rfl
 repeat (any_goals (first | assumption | with_reducible exact Looks.at LT ?_ | with_reducible exact Looks.at L1 ?_ | with_reducible exact Looks.at L2 ?_ | (with_reducible exact wpAny_loadPart_at hx ?_;rw[hc]) | wp_step))
 exact GK X hx hc kz hm hb ?_;repeat (any_goals (first | assumption | wp_step))
def GL {Q:cT cG ->cL ->Prop}(X:K.In hh)(hx:hh.get? a=some o)(hc:o.cls= .ref C)(YN:findIn K (.ref C) "__getattribute__" =some (some (.builtin "BaseException.__getattribute__")))(YL:findIn K (.ref C) "__getattr__" =some none) (kz:findIn K (.ref C) "__class__" =some (some (.builtin "object.__class__"))) (hm:mroIn K C (.type "object")=some true) (hb:mroIn K C (.type "BaseException")=some true) (hq:Q (some (.ref C)) #[hh,g,d,t+1,os]):wpAny (model prog w) A (getAttr? (.ref a) "__class__") Q E #[hh,g,d,t,os]:=by unfold getAttr? getAttrBy?;repeat (any_goals (first | assumption | with_reducible apply Pn X hx hc YN YL kz hm hb | wp_step))
end
end L2
namespace L2
open PySem PyProof.Rows PyProof.V PySem.Calls PySem.Spec PySem.W
structure DD (K:PySem.W.Frag)(C:Addr):Prop where
 cls:(clsIn K C).isSome=true
 ga:findIn K (.ref C) "__getattribute__" =some (some (.builtin "BaseException.__getattribute__"))
 gn:findIn K (.ref C) "__getattr__" =some none
 cl:findIn K (.ref C) "__class__" =some (some (.builtin "object.__class__"))
 mo:mroIn K C (.type "object")=some true
 mb:mroIn K C (.type "BaseException")=some true
theorem FM {K:gg}{a C:dw}(k:DD K C):KitX K (.ref a) (.ref C) (fi a C) where
 ty:=λM h _ ⟨o,e,c⟩=>oh e c
 it :=λ_ _ X _=>by let⟨cdD,Kf⟩:=Option.isSome_iff_exists.mp k.cls;unfold clsIn at Kf;split at Kf;rename_i c' d' cd' RN ho;intro A' Q' E' s' k q;unfold isType loadHead;show af (wpAny_loadPart (k _ _ (X _ _ ho)) (aC q));cases Kf
 ne :=λh tp dd its n sl X htp=>by let⟨cdD,Kf⟩:=Option.isSome_iff_exists.mp k.cls;exact Bool.eq_false_iff.mpr λq=> ?_;have e:C=tp:=Value.ref.inj (beq_iff_eq.mp q);subst e;unfold clsIn at Kf;split at Kf;rename_i c' d' cd' RN ho;have z:=(X _ _ ho).symm.trans htp;cases z;cases Kf
 ca:=λ{prog w A E Q s} X ⟨o,e,c⟩ h=>by let⟨hh,g,d,t,os⟩:=s;show GL X e c k.ga k.gn k.cl k.mo k.mb h
section
variable {X:Cx}
def Ci (K:gg):cz V ->Hp ->VK ->Prop:=λxs H Q=>rN λa C c cu b=>PL (xs= [.ref a,c]) (H a=some (.ext (fi a C))) (DD K C) (RelV c cu) (∀u,RelV c u ->u=cu) (kitOne K (.ref C) cu=some b) (Q (.bl b) H)
def nh:dU X (.builtin "isinstance") (Ci X.K):=by intro ae s σ H xs us Q I r h;let⟨a,C,c,cu,b,rfl,ea,kc,rc,only,e,q⟩:=h;let⟨u,w',rfl,ru,w8⟩:=vals2 r;cases only _ w8;cases (show u=Value.ref a from ru);show kia_one (FM kc) I.qU (I.b0 a _ ea).1 e (λz=>nomatch z) λtk=>#[.bl b,H,I.tok tk,rfl,q]
end
end L2
namespace WL
open PySem L2
set_option genInjectivity true in
inductive W where
 | v (x:V) | tup (l:List W)
set_option genInjectivity true in
inductive MO where
 | lst (l:List W) | dK (kvs:List (bH×W)) | ins (C dx:Addr) (fs:List (Str×W)) | exc (C:Addr) | fz (o:Obj) (ks:List (bH×V)) (kvs:List (bH×W))
abbrev Mp:=dw ->cT MO
abbrev b7:=cz (cT W)
abbrev WK:=W ->Mp ->Prop
abbrev WE:=b7 ->Mp ->WK ->Prop
abbrev WT:=b7 ->Mp ->(Bool ->Mp ->Prop) ->Prop
abbrev WA:=b7 ->Mp ->(cz W ->Mp ->Prop) ->Prop
abbrev WG:=W ->b7 ->Mp ->(b7 ->Mp ->Prop) ->Prop
abbrev KJ:=cz W ->b7 ->Mp ->(b7 ->Mp ->Prop) ->Prop
abbrev nB:=W ->W ->Mp ->WK ->Prop
abbrev yi:=cz W ->Mp ->WK ->Prop
abbrev WI:=b7 ->Mp ->(cz W ->(Mp ->Prop) ->Mp ->Prop) ->Prop
structure dA where
 nx:b7 ->Mp ->Prop
 rt:WK
 bk:b7 ->Mp ->Prop:=λ_ _=>False
 ct:b7 ->Mp ->Prop:=λ_ _=>False
abbrev WS:=dA ->b7 ->Mp ->Prop
@[reducible] def wi (i:Int):W:= .v (.int i)
@[reducible] def wb (b:Bool):W:= .v (.bl b)
@[reducible] def wr (a:dw):W:= .v (.ref a)
@[reducible] def ws (x:Str):W:= .v (.str x)
@[reducible] def wn:W:= .v .dJ
def um (M:Mp)(a:dw)(o:MO):Mp:=λb=>if b=a then some o else M b
def aq {M:Mp}{a:dw}{o:MO}:um M a o a=some o:=by unfold um;rw[aj rfl]
def aT {M:Mp}{a b:dw}{o:MO}(h:b≠a):um M a o b=M b:=by unfold um;rw[ah h]
def gx {M:Mp}{a:dw}{o u:MO}:um (um M a o) a u=um M a u:=by funext b;unfold um;split<;>rfl
def cR {M:Mp}{a b:dw}{o:MO}(h:M a=some o)(h':M b=none):a≠b:=by intro e;subst e;rw[h] at h';cases h'
def Sm (M M':Mp):Prop:= ∀b o,M b=some o ->M' b=some o
theorem Sm.refl (M:Mp):Sm M M:=λ_ _ h=>h
theorem Sm.trans {M M1 M2:Mp}(a:Sm M M1)(b:Sm M1 M2):Sm M M2:=λc o h=>b c o (a c o h)
def Sm.free {M M':Mp}{p:dw}(a:Sm M M')(h:M' p=none):M p=none:=by
 cases e:M p with
 | none=>rfl
 | some o=>rw[a p o e] at h;cases h
theorem bn {M:Mp}{p:dw}{o:MO}(h:M p=none):Sm M (um M p o):=λb u e=>by rw[aT (cR e h)];show e
theorem Sm.um {M M':Mp}{p:dw}{o:MO}(a:Sm M M')(h:M p=none):Sm M (um M' p o):=λb u e=>by rw[aT (cR e h)];show a b u e
mutual
def WR (K:gg)(H:Hp):W ->V ->Prop
 | .v x,v=>v=x
 | .tup l,v=>bX λa vs=>cg (v= .ref a) (gH K H a vs) (bW K H l vs)
def bW (K:gg)(H:Hp):cz W ->cz V ->Prop
 | [],vs=>vs= []
 | x::r,vs=>bX λv t=>cg (vs=v::t) (WR K H x v) (bW K H r t)
end
mutual
theorem WR.ts {K:gg}{H H':Hp}(a:aS H H'): ∀ (x:W) (v:V),WR K H x v ->WR K H' x v
 | .v x,v,h=>by simp![WR] at h ⊢;show h
 | .tup l,v,h=>by simp![WR] at h ⊢;let⟨p,vs,e,hs,hr⟩:=h;show#[p,vs,e,Un.Xk a hs,bW.ts a l vs hr]
theorem bW.ts {K:gg}{H H':Hp}(a:aS H H'): ∀ (l:cz W) (vs:cz V),bW K H l vs ->bW K H' l vs
 | [],vs,h=>by simp![bW] at h ⊢;show h
 | x::r,vs,h=>by simp![bW] at h ⊢;let⟨v,t,e,h1,h2⟩:=h;show#[v,t,e,WR.ts a x v h1,bW.ts a r t h2]
end
theorem bW.length {K:gg}{H:Hp}: ∀ {l:cz W} {vs:cz V},bW K H l vs ->vs.length=l.length
 | [],_,h=>by simp![bW] at h;subst h;rfl
 | d::r,vs,h=>by simp![bW] at h;let⟨v,t,rfl,_,h⟩:=h;simp[bW.length h]
theorem bW.at {K:gg}{H:Hp}: ∀ {l:cz W} {vs:cz V} {j:Nat} {d:W},bW K H l vs ->l[j]? =some d -> ∃v,vs[j]? =some v /\ WR K H d v
 | [],_,_,_,_,e=>by simp at e
 | d::r,vs,j,d',h,e=>by
  simp![bW] at h;let⟨v,t,rfl,h1,h⟩:=h;cases j with
  | zero=>simp at e;subst e;show#[v,rfl,h1]
  | succ j=>simpa using bW.at (j:=j) h ⇑e
theorem bW.mk {K:gg}{H:Hp}: ∀ {l:cz W} {vs:cz V},vs.length=l.length ->(∀ (j:Nat) d v,l[j]? =some d ->vs[j]? =some v ->WR K H d v) ->bW K H l vs
 | [],vs,h,_=>by simp![bW];show List.length_eq_zero_iff.mp h
 | d::r,[],h,_=>by simp at h
 | d::r,v::vs,h,k=>by simp![bW];show#[v,vs,rfl,k 0 d v rfl rfl,bW.mk ⇑h λj x u e1 e2=>k (j+1) x u ⇑e1 ⇑e2]
def bW.back {K:gg}{H:Hp}{l:cz W}{vs:cz V}{j:Nat}{v:V}(h:bW K H l vs)(e:vs[j]? =some v): ∃d,l[j]? =some d /\ WR K H d v:=by
 have hl:=h.length;have hj:j<l.length:=by have:=(aB.mp e).1;lia
 let⟨u,hu,r⟩:=h.at (j:=j) (d:=l[j]) (aw hj);rw[e] at hu;cases hu;show#[_,aw hj,r]
def bW.snoc {K:gg}{H:Hp}{l:cz W}{vs:cz V}{d:W}{v:V}(h:bW K H l vs)(hr:WR K H d v):bW K H (l++ [d]) (vs++ [v]):=by
 have hl:=h.length;exact bW.mk (by simp[hl]) λj x u e1 e2=> ?_;by_cases hj:j<l.length;rw[aU hj] at e1;rw[aU ∅] at e2;let⟨w,hw,r⟩:=h.at e1;rw[e2] at hw;cases hw;show r;rw[aO ∅] at e1;rw[aO ∅,hl] at e2;cases hk:j - l.length with
 | zero=>rw[hk] at e1 e2;simp at e1 e2;subst e1 e2;show hr
 | succ k=>rw[hk] at e1;simp at e1
def bW.append {K:gg}{H:Hp}{l m:cz W}{vs us:cz V}(h:bW K H l vs)(h':bW K H m us):bW K H (l++m) (vs++us):=by have hl:=h.length;have A8:=h'.length;exact bW.mk (by simp[hl,A8]) λj x u e1 e2=> ?_;by_cases hj:j<l.length;rw[aU hj] at e1;rw[aU ∅] at e2;let⟨w,hw,r⟩:=h.at e1;rw[e2] at hw;cases hw;show r;rw[aO ∅] at e1;rw[aO ∅,hl] at e2;let⟨w,hw,r⟩:=h'.at e1;rw[e2] at hw;cases hw;show r
def bW.drop {K:gg}{H:Hp}{l:cz W}{vs:cz V}(n:Nat)(h:bW K H l vs):bW K H (l.drop n) (vs.drop n):=by exact bW.mk (by simp[h.length]) λj x u e1 e2=> ?_;rw[List.getElem?_drop] at e1 e2;let⟨w,hw,r⟩:=h.at e1;rw[e2] at hw;cases hw;show r
def bW.take {K:gg}{H:Hp}{l:cz W}{vs:cz V}(n:Nat)(h:bW K H l vs):bW K H (l.take n) (vs.take n):=by exact bW.mk (by simp[h.length]) λj x u e1 e2=> ?_;rw[List.getElem?_take] at e1 e2;split at e1;rename_i hj;rw[aj hj] at e2;let⟨w,hw,r⟩:=h.at e1;rw[e2] at hw;cases hw;show r;cases e1
def bW.set {K:gg}{H:Hp}{l:cz W}{vs:cz V}(n:Nat){d:W}{v:V}(h:bW K H l vs)(hr:WR K H d v):bW K H (l.set n d) (vs.set n v):=by have hl:=h.length;exact bW.mk (by simp[h.length]) λj x u e1 e2=> ?_;rw[List.getElem?_set] at e1 e2;split at e1;rename_i hj;rw[aj hj] at e2;split at e1;split at e2;cases e1;cases e2;show hr;cases e2;cases e1;rename_i hj;rw[ah hj] at e2;let⟨w,hw,r⟩:=h.at e1;rw[e2] at hw;cases hw;show r
def bW.nil {K:gg}{H:Hp}:bW K H [] []:=by simp![bW]
def bW.cons {K:gg}{H:Hp}{x:W}{v:V}{l:cz W}{vs:cz V}(h:WR K H x v)(r:bW K H l vs):bW K H (x::l) (v::vs):=by simp![bW];show#[v,vs,rfl,h,r]
def WR.v {K:gg}{H:Hp}{x:V}:WR K H (.v x) x:=by simp![WR]
def WR.eq {K:gg}{H:Hp}{x v:V}(h:WR K H (.v x) v):v=x:=by simpa only[WR] using h
def WR.tup {K:gg}{H:Hp}{l:cz W}{v:V}(h:WR K H (.tup l) v):bX λa vs=>cg (v= .ref a) (gH K H a vs) (bW K H l vs):=by simpa only[WR] using h
def WR.Qp {K:gg}{H:Hp}{l:cz W}{a:dw}{vs:cz V}(h:gH K H a vs)(r:bW K H l vs):WR K H (.tup l) (.ref a):=by simp![WR];show#[a,vs,rfl,h,r]
def KR (K:gg)(H:Hp){κ:Type}:cz (κ×W) ->cz (κ×V) ->Prop:=Paired λp q=>p.1=q.1 /\ WR K H p.2 q.2
theorem KR.ts {K:gg}{H H':Hp}{κ:Type}(a:aS H H'): ∀ {l:cz (κ×W)} {vs:cz (κ×V)},KR K H l vs ->KR K H' l vs
 | _,_, .nil=> .nil
 | _,_, .cons ⟨e,r⟩ t=> .cons #[e,r.ts a] (KR.ts a t)
def MR (K:gg)(H:Hp)(a:dw):MO ->Prop
 | .lst l=> ∃vs,H a=some (.lst vs) /\ bW K H l vs
 | .dK kvs=> ∃ks,H a=some (.dK ks) /\ KR K H kvs ks
 | .ins C dx fs=> ∃ks,H a=some (.ins C dx ks) /\ KR K H fs ks
 | .exc C=>H a=some (.ext (fi a C))
 | .fz o ks kvs=>H a=some (.mx o (.dK ks)) /\ KR K H kvs ks
def MR.some {K:gg}{H:Hp}{a:dw}{o:MO}(h:MR K H a o): ∃u,H a=some u:=by
 cases o with
 | lst l=>let⟨_,e,_⟩:=h;show#[_,e]
 | dK l=>let⟨_,e,_⟩:=h;show#[_,e]
 | ins C d l=>let⟨_,e,_⟩:=h;show#[_,e]
 | exc C=>show#[_,h]
 | fz o l l2=>show#[_,h.1]
def MR.mv {K:gg}{H H':Hp}{a:dw}{o:MO}(t:aS H H')(e:H' a=H a)(h:MR K H a o):MR K H' a o:=by
 cases o with
 | lst l=>let⟨vs,e1,r⟩:=h;show#[vs,e.trans e1,r.ts t]
 | dK l=>let⟨vs,e1,r⟩:=h;show#[vs,e.trans e1,r.ts t]
 | ins C d l=>let⟨vs,e1,r⟩:=h;show#[vs,e.trans e1,r.ts t]
 | exc C=>show e.trans h
 | fz o l l2=>show#[e.trans h.1,h.2.ts t]
def d6 (K:gg)(M:Mp)(H:Hp):Prop:= ∀a o,M a=some o ->MR K H a o
def d6.fresh {K:gg}{M:Mp}{H:Hp}(h:d6 K M H){p:dw}(hp:H p=none):M p=none:=by
 cases e:M p with
 | none=>rfl
 | some o=>let⟨u,hu⟩:=(h p o e).some;rw[hp] at hu;cases hu
theorem d6.new {K:gg}{M:Mp}{H:Hp}(h:d6 K M H){p:dw}{u:HO}(hp:H p=none):d6 K M (bU H p u):=λa o e=>by have:=h a o e;let⟨w,hw⟩:=this.some;show this.mv (L2.dP.ts (bF hp)) (bq (cy hw hp))
theorem Ag {H:Hp}{a:dw}{o u:HO}(h:H a=some o)(hn: ∀xs,o≠ .tup xs)(hf: ∀b xs,o≠ .mx b (.tup xs)):aS H (bU H a u):=λb xs r=>by
 have nb:b≠a:=λe=>by subst e;obtain r | ⟨w,r⟩:=r;rw[h] at r;cases r;show hn _ rfl;rw[h] at r;cases r;show hf _ _ rfl
 unfold Rd;rw[bq nb];show r
theorem d6.put {K:gg}{M:Mp}{H:Hp}(h:d6 K M H){a:dw}{o:MO}{u:HO}(t:aS H (bU H a u))(new:MR K (bU H a u) a o):d6 K (um M a o) (bU H a u):=λb x e=>by by_cases hb:b=a;subst hb;rw[aq] at e;cases e;show new;rw[aT hb] at e;show(h b x e).mv t (bq hb)
theorem d6.sN {K:gg}{M:Mp}{H:Hp}(h:d6 K M H){p:dw}{l:cz W}{vs:cz V}(hp:H p=none)(r:bW K H l vs):d6 K (um M p (.lst l)) (bU H p (.lst vs)):=h.put (L2.dP.ts (bF hp)) #[vs,bC,r.ts (L2.dP.ts (bF hp))]
theorem jr {H:Hp}{a:dw}{xs:cz V}{u:HO}(h:H a=some (.lst xs)):aS H (bU H a u):=Ag h (λ_ z=>nomatch z) λ_ _ z=>nomatch z
theorem oA {H:Hp}{a:dw}{xs:cz (bH×V)}{u:HO}(h:H a=some (.dK xs)):aS H (bU H a u):=Ag h (λ_ z=>nomatch z) λ_ _ z=>nomatch z
theorem Ni {H:Hp}{a C d:dw}{xs:cz (Str×V)}{u:HO}(h:H a=some (.ins C d xs)):aS H (bU H a u):=Ag h (λ_ z=>nomatch z) λ_ _ z=>nomatch z
theorem d6.putL {K:gg}{M:Mp}{H:Hp}(h:d6 K M H){a:dw}{xs:cz V}{l:cz W}{vs:cz V}(e:H a=some (.lst xs))(r:bW K H l vs):d6 K (um M a (.lst l)) (bU H a (.lst vs)):=h.put (jr e) #[vs,bC,r.ts (jr e)]
theorem d6.putD {K:gg}{M:Mp}{H:Hp}(h:d6 K M H){a:dw}{xs:cz (bH×V)}{l:cz (bH×W)}{vs:cz (bH×V)}(e:H a=some (.dK xs))(r:KR K H l vs):d6 K (um M a (.dK l)) (bU H a (.dK vs)):=h.put (oA e) #[vs,bC,KR.ts (oA e) r]
def BN (K:gg)(H:Hp)(ρ:b7)(σ:St):Prop:=ρ.length=σ.length /\ ∀ (i:Nat) x,ρ[i]? =some (some x) -> ∃v,σ[i]? =some (some v) /\ WR K H x v
theorem BN.ts {K:gg}{H H':Hp}{ρ:b7}{σ:St}(t:aS H H')(h:BN K H ρ σ):BN K H' ρ σ:=#[h.1,λi x e=>let ⟨v,a,r⟩:=h.2 i x e;#[v,a,r.ts t]]
structure Ok (K:PySem.W.Frag)(ρ:b7)(M:Mp)(σ:St)(H:Hp):Prop where
 env:BN K H ρ σ
 hp:d6 K M H
theorem Ok.mv {K:gg}{ρ:b7}{M M':Mp}{σ:St}{H H':Hp}(o:Ok K ρ M σ H)(t:aS H H')(m:d6 K M' H'):Ok K ρ M' σ H':=#[o.env.ts t,m]
def BN.set {K:gg}{H:Hp}{ρ:b7}{σ:St}(h:BN K H ρ σ)(i:Nat){x:W}{v:V}(r:WR K H x v):BN K H (ρ.set i (some x)) (σ.set i (some v)):=by exact#[by simp[h.1],λj y e=> ?_];rw[List.getElem?_set] at e ⊢;split at e;rename_i hj;rw[aj hj];split at e;rename_i gP;rw[aj (by rw[<- h.1];show gP)];cases e;show#[v,rfl,r];cases e;rename_i hj;rw[ah hj];show h.2 j y e
section
variable (K:gg)
class IE (t:TE) (w:outParam WE):Prop where
 imp: ∀ (ρ:b7) (M:Mp) (σ:St) (H:Hp) (q:WK) (Q:VK),Ok K ρ M σ H ->w ρ M q ->(∀x M' v H',q x M' ->aS H H' ->d6 K M' H' ->WR K H' x v ->Q v H') ->t σ H Q
class IT (t:TT) (w:outParam WT):Prop where
 imp: ∀ (ρ:b7) (M:Mp) (σ:St) (H:Hp) (q:Bool ->Mp ->Prop) (Q:Bool ->Hp ->Prop),Ok K ρ M σ H ->w ρ M q ->(∀b M' H',q b M' ->aS H H' ->d6 K M' H' ->Q b H') ->t σ H Q
class IA (t:TA) (w:outParam WA):Prop where
 imp: ∀ (ρ:b7) (M:Mp) (σ:St) (H:Hp) (q:List W ->Mp ->Prop) (Q:List V ->Hp ->Prop),Ok K ρ M σ H ->w ρ M q ->(∀x M' v H',q x M' ->aS H H' ->d6 K M' H' ->bW K H' x v ->Q v H') ->t σ H Q
class IG (t:TG) (w:outParam WG):Prop where
 imp: ∀ (x:W) (v:V) (ρ:b7) (M:Mp) (σ:St) (H:Hp) (q:b7 ->Mp ->Prop) (Q:St ->Hp ->Prop),Ok K ρ M σ H ->WR K H x v ->w x ρ M q ->(∀ρ' M' σ' H',q ρ' M' ->aS H H' ->Ok K ρ' M' σ' H' ->Q σ' H') ->t v σ H Q
class V_ (t:Ih) (w:outParam KJ):Prop where
 imp: ∀ (x:List W) (v:List V) (ρ:b7) (M:Mp) (σ:St) (H:Hp) (q:b7 ->Mp ->Prop) (Q:St ->Hp ->Prop),Ok K ρ M σ H ->bW K H x v ->w x ρ M q ->(∀ρ' M' σ' H',q ρ' M' ->aS H H' ->Ok K ρ' M' σ' H' ->Q σ' H') ->t v σ H Q
structure gR (H:Hp)(D':dA)(D:jl):Prop where
 nx: ∀ρ' M' σ' H',D'.nx ρ' M' ->aS H H' ->Ok K ρ' M' σ' H' ->D.nx σ' H'
 rt: ∀x M' v H',D'.rt x M' ->aS H H' ->d6 K M' H' ->WR K H' x v ->D.rt v H'
 bk: ∀ρ' M' σ' H',D'.bk ρ' M' ->aS H H' ->Ok K ρ' M' σ' H' ->D.bk σ' H'
 ct: ∀ρ' M' σ' H',D'.ct ρ' M' ->aS H H' ->Ok K ρ' M' σ' H' ->D.ct σ' H'
class IS (t:TS) (w:outParam WS):Prop where
 imp: ∀ (ρ:b7) (M:Mp) (σ:St) (H:Hp) (D':dA) (D:jl),Ok K ρ M σ H ->w D' ρ M ->gR K H D' D ->t D σ H
class IR (r:R2) (w:outParam nB):Prop where
 imp: ∀ (x y:W) (v u:V) (M:Mp) (H:Hp) (q:WK) (Q:VK),d6 K M H ->WR K H x v ->WR K H y u ->w x y M q ->(∀x M' v H',q x M' ->aS H H' ->d6 K M' H' ->WR K H' x v ->Q v H') ->r v u H Q
class IU (r:V ->Hp ->VK ->Prop) (w:outParam (W ->Mp ->WK ->Prop)):Prop where
 imp: ∀ (x:W) (v:V) (M:Mp) (H:Hp) (q:WK) (Q:VK),d6 K M H ->WR K H x v ->w x M q ->(∀x M' v H',q x M' ->aS H H' ->d6 K M' H' ->WR K H' x v ->Q v H') ->r v H Q
class IC (r:List V ->Hp ->VK ->Prop) (w:outParam yi):Prop where
 imp: ∀ (x:List W) (v:List V) (M:Mp) (H:Hp) (q:WK) (Q:VK),d6 K M H ->bW K H x v ->w x M q ->(∀x M' v H',q x M' ->aS H H' ->d6 K M' H' ->WR K H' x v ->Q v H') ->r v H Q
end
theorem gR.mv {K:gg}{H H':Hp}{D':dA}{D:jl}(e:gR K H D' D)(t:aS H H'):gR K H' D' D:=#[λa b c d h s=>e.nx a b c d h (t.trans s),λa b c d h s=>e.rt a b c d h (t.trans s),λa b c d h s=>e.bk a b c d h (t.trans s),λa b c d h s=>e.ct a b c d h (t.trans s)]
end WL
namespace WL
open PySem L2
section
variable {K:gg}
def eB (i:Nat):WE:=λρ M q=>match ρ[i]? with
 | some (some x)=>q x M
 | _=>False
def DS {i:Nat}{ρ:b7}{M:Mp}{q:WK}(h:eB i ρ M q): ∃x,ρ[i]? =some (some x) /\ q x M:=by unfold eB at h;split at h;rename_i x e;show#[x,e,h];show h.elim
instance {i:Nat}:IE K (ID i) (eB i) where
 imp:=λρ M σ H q Q o h k=>let ⟨x,e,h⟩:=DS h;let ⟨v,e',r⟩:=o.env.2 i x e;#[v,e',k x M v H h (aS.refl H) o.hp r]
def wC (x:W):WE:=λ_ M q=>q x M
instance {v:V}:IE K (tC v) (wC (.v v)) where
 imp:=λρ M σ H q Q o h k=>k (.v v) M v H h (aS.refl H) o.hp WR.v
def QT (r:nB)(a b:WE):WE:=λρ M q=>a ρ M λx M1=>b ρ M1 λy M2=>r x y M2 q
instance {r:R2}{w:nB}{ta tb:TE}{a b:WE} [ir:IR K r w] [ia:IE K ta a] [ib:IE K tb b]:IE K (Rw r ta tb) (QT w a b) where
 imp:=λρ M σ H q Q o h k=>ia.imp ρ M σ H _ _ o h λx M1 v H1 h1 t1 m1 r1=>ib.imp ρ M1 σ H1 _ _ (o.mv t1 m1) h1 λy M2 u H2 h2 t2 m2 r2=>ir.imp x y v u M2 H2 _ _ m2 (r1.ts t2) r2 h2 λz M3 v3 H3 h3 t3 m3 r3=>k z M3 v3 H3 h3 ((t1.trans t2).trans t3) m3 r3
def wUn (r:W ->Mp ->WK ->Prop)(a:WE):WE:=λρ M q=>a ρ M λx M1=>r x M1 q
instance {r:V ->Hp ->VK ->Prop}{w:W ->Mp ->WK ->Prop}{ta:TE}{a:WE} [ir:IU K r w] [ia:IE K ta a]:IE K (tUn r ta) (wUn w a) where
 imp:=λρ M σ H q Q o h k=>ia.imp ρ M σ H _ _ o h λx M1 v H1 h1 t1 m1 r1=>ir.imp x v M1 H1 _ _ m1 r1 h1 λz M3 v3 H3 h3 t3 m3 r3=>k z M3 v3 H3 h3 (t1.trans t3) m3 r3
def wI (C:Int ->Int ->Prop)(g:Int ->Int ->V):nB:=λx y M q=> ∃i j,x=wi i /\ y=wi j /\ C i j /\ q (.v (g i j)) M
def WD (g:Int ->Int ->V):nB:=λx y M q=>bX λi j=>cg (x=wi i) (y=wi j) (q (.v (g i j)) M)
def wU (g:Int ->V):W ->Mp ->WK ->Prop:=λx M q=> ∃i,x=wi i /\ q (.v (g i)) M
instance {C:Int ->Int ->Prop}{g:Int ->Int ->V}:IR K (rI C g) (wI C g) where
 imp:=by rintro x y v u M H q Q m r1 r2 ⟨i,j,rfl,rfl,c,h⟩ k;show#[i,j,r1.eq,r2.eq,c,k _ M _ H h (aS.refl H) m WR.v]
instance {g:Int ->Int ->V}:IR K (LO g) (WD g) where
 imp:=by rintro x y v u M H q Q m r1 r2 ⟨i,j,rfl,rfl,h⟩ k;show#[i,j,r1.eq,r2.eq,k _ M _ H h (aS.refl H) m WR.v]
instance {g:Int ->V}:IU K (rU g) (wU g) where
 imp:=by rintro x v M H q Q m r1 ⟨i,rfl,h⟩ k;show#[i,r1.eq,k _ M _ H h (aS.refl H) m WR.v]
def U1:nB:=λx y M q=>bX λa b=>eZ (x= .v a) (y= .v b) (IN a b=true) (q (wb (decide (a=b))) M)
def QX:nB:=λx y M q=>bX λa b=>eZ (x= .v a) (y= .v b) (IN a b=true) (q (wb (!decide (a=b))) M)
instance:IR K rEq U1 where
 imp:=by rintro x y v u M H q Q m r1 r2 ⟨i,j,rfl,rfl,c,h⟩ k;cases r1.eq;cases r2.eq;show#[c,k _ M _ H h (aS.refl H) m WR.v]
instance:IR K rNe QX where
 imp:=by rintro x y v u M H q Q m r1 r2 ⟨i,j,rfl,rfl,c,h⟩ k;cases r1.eq;cases r2.eq;show#[c,k _ M _ H h (aS.refl H) m WR.v]
def DU (a:WE):WT:=λρ M q=>a ρ M λx M1=> ∃k,x=wb k /\ q k M1
instance {t:TE}{a:WE} [ia:IE K t a]:IT K (El t) (DU a) where
 imp:=λρ M σ H q Q o h k=>ia.imp ρ M σ H _ _ o h λx M1 v H1 ⟨b,e,h1⟩ t1 m1 r1=>by subst e;show#[b,r1.eq,k b M1 H1 h1 t1 m1]
instance {t:TE}{a:WE} [ia:IE K t a]:IT K (tB t) (DU a) where
 imp:=λρ M σ H q Q o h k=>ia.imp ρ M σ H _ _ o h λx M1 v H1 ⟨b,e,h1⟩ t1 m1 r1=>by subst e;show#[b,r1.eq,k b M1 H1 h1 t1 m1]
def Ra (a b:WT):WT:=λρ M q=>a ρ M λc M1=>if c=true then b ρ M1 q else q false M1
def wOr (a b:WT):WT:=λρ M q=>a ρ M λc M1=>if c=true then q true M1 else b ρ M1 q
def QU (a:WT):WT:=λρ M q=>a ρ M λc M1=>q (!c) M1
instance {t u:TT}{a b:WT} [ia:IT K t a] [ib:IT K u b]:IT K (RF t u) (Ra a b) where
 imp:=λρ M σ H q Q o h k=>ia.imp ρ M σ H _ _ o h λc M1 H1 h1 t1 m1=>by
  cases c with
  | true=>simp![bJ] at h1 ⊢;show ib.imp ρ M1 σ H1 _ _ (o.mv t1 m1) h1 λb M2 H2 h2 t2 m2=>k b M2 H2 h2 (t1.trans t2) m2
  | false=>simp![av,bp] at h1 ⊢;show k _ M1 H1 h1 t1 m1
instance {t u:TT}{a b:WT} [ia:IT K t a] [ib:IT K u b]:IT K (tOr t u) (wOr a b) where
 imp:=λρ M σ H q Q o h k=>ia.imp ρ M σ H _ _ o h λc M1 H1 h1 t1 m1=>by
  cases c with
  | false=>simp![av,bp] at h1 ⊢;show ib.imp ρ M1 σ H1 _ _ (o.mv t1 m1) h1 λb M2 H2 h2 t2 m2=>k b M2 H2 h2 (t1.trans t2) m2
  | true=>simp![bJ] at h1 ⊢;show k _ M1 H1 h1 t1 m1
instance {t:TT}{a:WT} [ia:IT K t a]:IT K (Rx t) (QU a) where
 imp:=λρ M σ H q Q o h k=>ia.imp ρ M σ H _ _ o h λc M1 H1 h1 t1 m1=>k _ M1 H1 h1 t1 m1
def Lk (a b:WE):WE:=λρ M q=>a ρ M λx M1=> ∃c,x=wb c /\ if c=true then b ρ M1 q else q (wb false) M1
instance {t u:TE}{a b:WE} [ia:IE K t a] [ib:IE K u b]:IE K (Lw t u) (Lk a b) where
 imp:=λρ M σ H q Q o h k=>ia.imp ρ M σ H _ _ o h λx M1 v H1 ⟨c,e,h1⟩ t1 m1 r1=>by
  subst e;exact#[c,r1.eq,?_];cases c with
  | true=>simp![bJ] at h1 ⊢;show ib.imp ρ M1 σ H1 _ _ (o.mv t1 m1) h1 λb M2 v H2 h2 t2 m2 r2=>k b M2 v H2 h2 (t1.trans t2) m2 r2
  | false=>simp![av,bp] at h1 ⊢;show k _ M1 _ H1 h1 t1 m1 WR.v
def wIf (c:WT)(a b:WE):WE:=λρ M q=>c ρ M λc M1=>if c=true then a ρ M1 q else b ρ M1 q
instance {tc:TT}{t u:TE}{c:WT}{a b:WE} [ic:IT K tc c] [ia:IE K t a] [ib:IE K u b]:IE K (tIf tc t u) (wIf c a b) where
 imp:=λρ M σ H q Q o h k=>ic.imp ρ M σ H _ _ o h λc M1 H1 h1 t1 m1=>by
  cases c with
  | true=>simp![bJ] at h1 ⊢;show ia.imp ρ M1 σ H1 _ _ (o.mv t1 m1) h1 λb M2 v H2 h2 t2 m2 r2=>k b M2 v H2 h2 (t1.trans t2) m2 r2
  | false=>simp![av,bp] at h1 ⊢;show ib.imp ρ M1 σ H1 _ _ (o.mv t1 m1) h1 λb M2 v H2 h2 t2 m2 r2=>k b M2 v H2 h2 (t1.trans t2) m2 r2
def Ea (r r':nB)(a b c:WE):WE:=λρ M q=>a ρ M λx M1=>b ρ M1 λy M2=>r x y M2 λz M3=> ∃k,z=wb k /\ if k=true then c ρ M3 λy' M4=>r' y y' M4 λz' M5=>q z' M5 else q (wb false) M3
def QV:WA:=λ_ M q=>q [] M
def Lh (a:WE)(r:WA):WA:=λρ M q=>a ρ M λx M1=>r ρ M1 λxs M2=>q (x::xs) M2
instance:IA K yV QV where
 imp:=λρ M σ H q Q o h k=>k [] M [] H h (aS.refl H) o.hp bW.nil
instance {t:TE}{u:TA}{a:WE}{b:WA} [ia:IE K t a] [ib:IA K u b]:IA K (Er t u) (Lh a b) where
 imp:=λρ M σ H q Q o h k=>ia.imp ρ M σ H _ _ o h λx M1 v H1 h1 t1 m1 r1=>ib.imp ρ M1 σ H1 _ _ (o.mv t1 m1) h1 λy M2 u H2 h2 t2 m2 r2=>k _ M2 _ H2 h2 (t1.trans t2) m2 (bW.cons (r1.ts t2) r2)
def QK (a:WA):WE:=λρ M q=>a ρ M λxs M1=>xs.length<=sizeLine /\ q (.tup xs) M1
def QZ (a:WA):WE:=λρ M q=>a ρ M λxs M1=>xs.length<=sizeLine /\ ∀p,M1 p=none ->q (wr p) (um M1 p (.lst xs))
instance {t:TA}{a:WA} [ia:IA K t a]:IE K (Rt t) (QK a) where
 imp:=λρ M σ H q Q o h k=>ia.imp ρ M σ H _ _ o h λx M1 v H1 ⟨hl,h1⟩ t1 m1 r1=>#[by rw[r1.length];show hl,λp hp=>k _ M1 _ _ h1 (t1.trans (L2.dP.ts (bF hp))) (m1.new hp) (WR.Qp (gH.of bC) (r1.ts (L2.dP.ts (bF hp))))]
instance {t:TA}{a:WA} [ia:IA K t a]:IE K (Ry t) (QZ a) where
 imp:=λρ M σ H q Q o h k=>ia.imp ρ M σ H _ _ o h λx M1 v H1 ⟨hl,h1⟩ t1 m1 r1=>#[by rw[r1.length];show hl,λp hp=>k _ _ _ _ (h1 p (m1.fresh hp)) (t1.trans (L2.dP.ts (bF hp))) (m1.sN hp r1) WR.v]
def Q2:nB:=λx y M q=>gs λa l i u=>d9 (x=wr a) (y=wi i) (M a=some (.lst l)) (kZ l i=some u) (q u M)
def MT:nB:=λx y M q=>dY λl i u=>eZ (x= .tup l) (y=wi i) (kZ l i=some u) (q u M)
def bW.kZ {H:Hp}{l:cz W}{vs:cz V}{i:Int}{u:W}(r:bW K H l vs)(e:kZ l i=some u): ∃v,L2.kZ vs i=some v /\ WR K H u v:=by
 unfold L2.kZ at e ⊢;rw[r.length];cases h:yG l.length i with
 | none=>rw[h] at e;cases e
 | some j=>rw[h] at e;show r.at e
instance:IR K (NC K) Q2 where
 imp:=by rintro x y v u M H q Q m r1 r2 ⟨a,l,i,z,rfl,rfl,hl,e,h⟩ k;let⟨vs,hv,r⟩:=m a _ hl;let⟨v',e',r'⟩:=r.kZ e;show#[a,vs,i,v',r1.eq,r2.eq,fh.of hv,e',k _ M _ H h (aS.refl H) m r']
instance:IR K (NA K) MT where
 imp:=by rintro x y v u M H q Q m r1 r2 ⟨l,i,z,rfl,rfl,e,h⟩ k;let⟨a,vs,rfl,hv,r⟩:=r1.tup;let⟨v',e',r'⟩:=r.kZ e;show#[a,vs,i,v',rfl,r2.eq,hv,e',k _ M _ H h (aS.refl H) m r']
end
abbrev WO:=b7 ->Mp ->(cT Int ->Mp ->Prop) ->Prop
class IO (K:PySem.W.Frag) (t:TO) (w:outParam WO):Prop where
 imp: ∀ (ρ:b7) (M:Mp) (σ:St) (H:Hp) (q:Option Int ->Mp ->Prop) (Q:Option Int ->Hp ->Prop),Ok K ρ M σ H ->w ρ M q ->(∀b M' H',q b M' ->aS H H' ->d6 K M' H' ->Q b H') ->t σ H Q
abbrev Uq:=W ->cT Int ->cT Int ->Mp ->WK ->Prop
class ISl (K:PySem.W.Frag) (r:V ->Option Int ->Option Int ->Hp ->VK ->Prop) (w:outParam Uq):Prop where
 imp: ∀ (x:W) (v:V) (lo hi:Option Int) (M:Mp) (H:Hp) (q:WK) (Q:VK),d6 K M H ->WR K H x v ->w x lo hi M q ->(∀x M' v H',q x M' ->aS H H' ->d6 K M' H' ->WR K H' x v ->Q v H') ->r v lo hi H Q
section
variable {K:gg}
def Ac:WO:=λ_ M q=>q none M
def Lc (a:WE):WO:=λρ M q=>a ρ M λx M1=> ∃i,x=wi i /\ q (some i) M1
instance:IO K Aj Ac where
 imp:=λρ M σ H q Q o h k=>k _ M H h (aS.refl H) o.hp
instance {t:TE}{a:WE} [ia:IE K t a]:IO K (Lr t) (Lc a) where
 imp:=λρ M σ H q Q o h k=>ia.imp ρ M σ H _ _ o h λx M1 v H1 ⟨i,e,h1⟩ t1 m1 r1=>by subst e;show#[i,r1.eq,k _ M1 H1 h1 t1 m1]
def wSl (r:Uq)(a:WE)(lo hi:WO):WE:=λρ M q=>a ρ M λx M1=>lo ρ M1 λl M2=>hi ρ M2 λu M3=>r x l u M3 q
instance {r:V ->cT Int ->cT Int ->Hp ->VK ->Prop}{w:Uq}{t:TE}{tl th:TO}{a:WE}{lo hi:WO} [ir:ISl K r w] [ia:IE K t a] [il:IO K tl lo] [ih:IO K th hi]:IE K (tSl r t tl th) (wSl w a lo hi) where
 imp:=λρ M σ H q Q o h k=>ia.imp ρ M σ H _ _ o h λx M1 v H1 h1 t1 m1 r1=>il.imp ρ M1 σ H1 _ _ (o.mv t1 m1) h1 λl M2 H2 h2 t2 m2=>ih.imp ρ M2 σ H2 _ _ (o.mv (t1.trans t2) m2) h2 λu M3 H3 h3 t3 m3=>ir.imp x v l u M3 H3 _ _ m3 (r1.ts (t2.trans t3)) h3 λy M4 v4 H4 h4 t4 m4 r4=>k y M4 v4 H4 h4 (((t1.trans t2).trans t3).trans t4) m4 r4
def wCB (r:yi)(a:WA):WE:=λρ M q=>a ρ M λxs M1=>r xs M1 q
instance {r:cz V ->Hp ->VK ->Prop}{w:yi}{t:TA}{a:WA} [ir:IC K r w] [ia:IA K t a]:IE K (Xf r t) (wCB w a) where
 imp:=λρ M σ H q Q o h k=>ia.imp ρ M σ H _ _ o h λx M1 v H1 h1 t1 m1 r1=>ir.imp x v M1 H1 _ _ m1 r1 h1 λy M4 v4 H4 h4 t4 m4 r4=>k y M4 v4 H4 h4 (t1.trans t4) m4 r4
abbrev e9:=cz W ->Mp ->WK ->Prop
def fw (K:gg)(p:e9):Sp:=λvs H Q _=>dY λ(xs:cz W) (M:Mp) (q:WK)=>eZ (bW K H xs vs) (d6 K M H) (p xs M q) (∀x M' v H',q x M' ->aS H H' ->d6 K M' H' ->WR K H' x v ->Q v H')
def Lj (p:e9)(a:WA):WE:=λρ M q=>a ρ M λxs M1=>p xs M1 q
instance {p:e9}{E:XK}{t:TA}{a:WA} [ia:IA K t a]:IE K (oB (fw K p) [] E t) (Lj p a) where
 imp:=λρ M σ H q Q o h k=>ia.imp ρ M σ H _ _ o h λx M1 v H1 h1 t1 m1 r1=>#[x,M1,q,by rw[cI];show r1,m1,h1,λy M4 v4 H4 h4 t4 m4 r4=>k y M4 v4 H4 h4 (t1.trans t4) m4 r4]
def okW {P:gA}{w:gB}{mg:Str ->cT cG}{base:gC}{x qual:Str}{st:Stmt}{f:dw}{fd:gN}{N ps:cz Str}{k:Nat}{p:e9}(F:yo K x qual st f fd)(S:bR N ps (aE st))(len: ∀vs M q,p vs M q ->vs.length=ps.length) (ij: ∀ (cdv:cG) (A:hV) (outer:cz Env) (s:cL) (H:Hp) (E:XK),dz k (A.deeper (PyProof.Rows.envOfC qual (aE st) s.heap.objs.size f cdv)) ->bX λt w'=>cg (sC (dE ez P w K mg base N qual (aE st) f cdv A outer s H E).Fx (c6 st) t) (IS K t w') (∀vs M q,p vs M q ->w' {nx:=λ_ M'=>q wn M',rt:=q} (vs.map some++List.replicate (N.length - vs.length) none) M)): bv P w K mg base ez (k+1) f fd ps (fw K p):=by
 exact yo.ok F S (λvs H Q E ⟨xs,M,q,r,m,h,_⟩=>by rw[r.length];show len xs M q h) λcdv A outer s H vs Q E hr h=> ?_;let⟨t,w',h1,h2,h3⟩:=ij cdv A outer s H E hr;let⟨xs,M,q,r,m,h,k'⟩:=h;exact#[t,h1,h2.imp _ M _ H _ _ #[#[?_,λi x e=> ?_],m] (h3 xs M q h) #[λρ' M' σ' H' h ts o=>k' _ M' _ H' h ts o.hp WR.v,λx M' v H' h ts m' r'=>k' x M' v H' h ts m' r',λ_ _ _ _ h=>h.elim,λ_ _ _ _ h=>h.elim]];have:=r.length;simp[L2.start,this];have hl:=r.length;unfold L2.start;by_cases hi:i<xs.length;rw[aU ⇑hi,aG] at e;cases ex:xs[i]? with
 | none=>rw[ex] at e;cases e
 | some y=>rw[ex] at e;cases e;let⟨v,hv,rv⟩:=r.at ex;exact#[v,?_,rv];rw[aU (by simp;lia),aG,hv];rfl
 rw[aO ⇑hi,cP] at e;split at e<;>cases e
def R9 (K:gg):cz V ->Hp ->VK ->Prop:=λxs H Q=>bX λp ys=>cg (xs= [.ref p]) (fh K H p ys \/ gH K H p ys) (Q (.int ys.length) H)
theorem ol {X:Cx}:dU X (.builtin "len") (R9 X.K):=vT
def Q0:yi:=λxs M q=>(bX λa l=>cg (xs= [wr a]) (M a=some (.lst l)) (q (wi l.length) M)) \/ ∃l,xs= [.tup l] /\ q (wi l.length) M
def bW.one {H:Hp}{x:W}{vs:cz V}(h:bW K H [x] vs): ∃v,vs= [v] /\ WR K H x v:=by simp![bW] at h;let⟨v,t,rfl,h1,rfl⟩:=h;show#[v,rfl,h1]
def bW.two {H:Hp}{x y:W}{vs:cz V}(h:bW K H [x,y] vs):bX λv u=>cg (vs= [v,u]) (WR K H x v) (WR K H y u):=by simp![bW] at h;let⟨v,t,rfl,h1,u,t',rfl,h2,rfl⟩:=h;show#[v,u,rfl,h1,h2]
instance:IC K (R9 K) Q0 where
 imp :=by
  rintro xs v M H q Q m r1 h k;rcases h with⟨a,l,rfl,hl,h⟩ | ⟨l,rfl,h⟩
  let⟨v,rfl,r⟩:=r1.one;cases r.eq;let⟨vs,hv,rr⟩:=m a _ hl;exact#[a,vs,rfl, .inl (fh.of hv),k _ M _ H h (aS.refl H) m ?_];rw[rr.length];show WR.v;let⟨v,rfl,r⟩:=r1.one;let⟨a,vs,rfl,hv,rr⟩:=r.tup;exact#[a,vs,rfl, .inr hv,k _ M _ H h (aS.refl H) m ?_];rw[rr.length];show WR.v
def Se:cz V ->Hp ->VK ->Prop:=λxs H Q=> ∃i,xs= [.int i] /\ Q (.int (if i<0 then -i else i)) H
theorem kh {X:Cx}:dU X (.builtin "abs") Se:=G'
def Rb:yi:=λxs M q=> ∃i,xs= [wi i] /\ q (wi (if i<0 then -i else i)) M
instance:IC K Se Rb where
 imp:=by rintro xs v M H q Q m r1 ⟨i,rfl,h⟩ k;let⟨v,rfl,r⟩:=r1.one;cases r.eq;show#[i,rfl,k _ M _ H h (aS.refl H) m WR.v]
def AC (K:gg):cz V ->Hp ->VK ->Prop:=λxs H Q=>bX λp ys=>cg (xs= [.ref p]) (fh K H p ys \/ gH K H p ys) (∀l,H l=none ->Q (.ref l) (bU H l (.lst ys)))
theorem iR {X:Cx}:dU X (.type "list") (AC X.K):=vR
def Ad:yi:=λxs M q=> ∃l,((∃a,xs= [wr a] /\ M a=some (.lst l)) \/ xs= [.tup l]) /\ ∀p,M p=none ->q (wr p) (um M p (.lst l))
instance:IC K (AC K) Ad where
 imp :=by
  rintro xs v M H q Q m r1 ⟨l,hx,h⟩ k;rcases hx with⟨a,rfl,hl⟩ | rfl
  let⟨v,rfl,r⟩:=r1.one;cases r.eq;let⟨vs,hv,rr⟩:=m a _ hl;show#[a,vs,rfl, .inl (fh.of hv),λp hp=>k _ _ _ _ (h p (m.fresh hp)) (L2.dP.ts (bF hp)) (m.sN hp rr) WR.v];let⟨v,rfl,r⟩:=r1.one;let⟨a,vs,rfl,hv,rr⟩:=r.tup;show#[a,vs,rfl, .inr hv,λp hp=>k _ _ _ _ (h p (m.fresh hp)) (L2.dP.ts (bF hp)) (m.sN hp rr) WR.v]
def xa (K:gg):cz V ->Hp ->VK ->Prop:=λxs H Q=>bX λp ys=>xs= [.ref p] /\ ((fh K H p ys /\ ∀l,H l=none ->Q (.ref l) (bU H l (.tup ys))) \/ (gH K H p ys /\ Q (.ref p) H))
theorem gG {X:Cx}:dU X (.type "tuple") (xa X.K):=sX
def wy:yi:=λxs M q=> ∃l,((∃a,xs= [wr a] /\ M a=some (.lst l)) \/ xs= [.tup l]) /\ q (.tup l) M
instance:IC K (xa K) wy where
 imp :=by
  rintro xs v M H q Q m r1 ⟨l,hx,h⟩ k;rcases hx with⟨a,rfl,hl⟩ | rfl
  let⟨v,rfl,r⟩:=r1.one;cases r.eq;let⟨vs,hv,rr⟩:=m a _ hl;show#[a,vs,rfl, .inl #[fh.of hv,λp hp=>k _ M _ _ h (L2.dP.ts (bF hp)) (m.new hp) (WR.Qp (gH.of bC) (rr.ts (L2.dP.ts (bF hp))))]];let⟨v,rfl,r⟩:=r1.one;let⟨a,vs,rfl,hv,rr⟩:=r.tup;show#[a,vs,rfl, .inr #[hv,k _ M _ H h (aS.refl H) m (WR.Qp hv rr)]]
theorem bW.ofInts {H:Hp}: ∀ (ns:cz Int),bW K H (ns.map wi) (ns.map V.int)
 | []=>bW.nil
 | n::r=>bW.cons WR.v (bW.ofInts r)
end
section
variable {K:gg}
abbrev WM:=W ->cz W ->Mp ->WK ->Prop
class IM (K:PySem.W.Frag) (r:V ->List V ->Hp ->VK ->Prop) (w:outParam WM):Prop where
 imp: ∀ (x:W) (v:V) (ys:List W) (us:List V) (M:Mp) (H:Hp) (q:WK) (Q:VK),d6 K M H ->WR K H x v ->bW K H ys us ->w x ys M q ->(∀x M' v H',q x M' ->aS H H' ->d6 K M' H' ->WR K H' x v ->Q v H') ->r v us H Q
def IsL (M:Mp)(x:W):Prop:=bX λa l=>x=wr a /\ M a=some (.lst l)
def IsL.ty {M:Mp}{H:Hp}{x:W}{v:V}(m:d6 K M H)(r:WR K H x v)(h:IsL M x):W7 K "list" v H:=by let⟨a,l,rfl,hl⟩:=h;cases r.eq;let⟨vs,hv,_⟩:=m a _ hl;show .inl #[rfl,vs,fh.of hv]
def WW (r:WM)(a:WE)(b:WA):WE:=λρ M q=>a ρ M λx M1=>IsL M1 x /\ b ρ M1 λxs M2=>r x xs M2 q
instance {r:V ->cz V ->Hp ->VK ->Prop}{w:WM}{t:TE}{u:TA}{a:WE}{b:WA} [ir:IM K r w] [ia:IE K t a] [ib:IA K u b]:IE K (Xg K "list" r t u) (WW w a b) where
 imp:=λρ M σ H q Q o h k=>ia.imp ρ M σ H _ _ o h λx M1 v H1 ⟨hl,h1⟩ t1 m1 r1=>#[hl.ty m1 r1,ib.imp ρ M1 σ H1 _ _ (o.mv t1 m1) h1 λy M2 u H2 h2 t2 m2 r2=>ir.imp x v y u M2 H2 _ _ m2 (r1.ts t2) r2 h2 λz M3 v3 H3 h3 t3 m3 r3=>k z M3 v3 H3 h3 ((t1.trans t2).trans t3) m3 r3]
def Ae:WM:=λx ys M q=>dY λa l y=>d9 (x=wr a) (ys= [y]) (M a=some (.lst l)) (l.length<sizeLine) (q wn (um M a (.lst (l++ [y]))))
instance:IM K AD Ae where
 imp:=by rintro x v ys us M H q Q m r1 r2 ⟨a,l,y,rfl,rfl,hl,hn,h⟩ k;cases r1.eq;let⟨u,rfl,r⟩:=r2.one;let⟨vs,hv,rr⟩:=m a _ hl;show#[a,vs,u,rfl,rfl,hv,by rw[rr.length];show hn,k _ _ _ _ h (jr hv) (m.putL hv (rr.snoc r)) WR.v]
def Q9:nB:=λx y M q=>gs λa b l l'=>oq (x=wr a) (y=wr b) (M a=some (.lst l)) (M b=some (.lst l')) (l.length+l'.length<=sizeLine) (∀p,M p=none ->q (wr p) (um M p (.lst (l++l'))))
instance:IR K Sb Q9 where
 imp:=by rintro x y v u M H q Q m r1 r2 ⟨a,b,l,l',rfl,rfl,hl,A8,hn,h⟩ k;cases r1.eq;cases r2.eq;let⟨vs,hv,rr⟩:=m a _ hl;let⟨Rc,Gc,LI⟩:=m b _ A8;show#[a,b,vs,Rc,rfl,rfl,hv,Gc,by rw[rr.length,LI.length];show hn,λp hp=>k _ _ _ _ (h p (m.fresh hp)) (L2.dP.ts (bF hp)) (m.sN hp (rr.append LI)) WR.v]
def Is (M:Mp):W ->Bool ->Prop
 | .v .dJ,k=>k=false
 | .v (.bl b),k=>k=b
 | .v (.int i),k=>k=(i !=0)
 | .v (.str y),k=>y.length<=sizeLine /\ k=((y.length:Int) !=0)
 | .v (.ref a),k=>(∃l,M a=some (.lst l) /\ k= !l.isEmpty) \/ (∃l,M a=some (.dK l) /\ k= !l.isEmpty)
 | .tup l,k=>k= !l.isEmpty
 | _,_=>False
def Ek (K:gg)(ta:TE):TT:=λσ H Q=>ta σ H λx H'=> ∃k,KL K x H' k /\ Q k H'
theorem tT {X:Cx}{a:Expr}{ta:TE}(ha:PE X a ta)(he: ∀kC,isTrue a X.env kC=(do let v <- kC;standAt a.pos;holding [v] (truthy v)):=by intro _;rfl):PT X a (Ek X.K ta):=EV ha he
def DT (a:WE):WT:=λρ M q=>a ρ M λx M1=> ∃k,Is M1 x k /\ q k M1
def bW.isEmpty {H:Hp}{l:cz W}{vs:cz V}(r:bW K H l vs):vs.isEmpty=l.isEmpty:=by have:=r.length;cases l<;>cases vs<;>simp_all
def KR.isEmpty {H:Hp}{l:cz (bH×W)}{vs:cz (bH×V)}(r:KR K H l vs):vs.isEmpty=l.isEmpty:=by cases r<;>rfl
def Is.ok {M:Mp}{H:Hp}{x:W}{v:V}{k:Bool}(m:d6 K M H)(r:WR K H x v)(h:Is M x k):KL K v H k:=by
 cases x with
 | tup l=>let⟨a,vs,rfl,hv,rr⟩:=r.tup;show .inr (.inl #[vs,hv,by rw[rr.isEmpty];show h])
 | v y =>
  cases r.eq;cases v with
  | ref a=>
   rcases h with⟨l,hl,e⟩ | ⟨l,hl,e⟩
   let⟨vs,hv,rr⟩:=m a _ hl;show .inl #[vs,fh.of hv,by rw[rr.isEmpty];show e];let⟨vs,hv,rr⟩:=m a _ hl;show .inr (.inr #[vs,hv,by rw[rr.isEmpty];show e])
  | _=>first | show h | show(show False from h).elim
instance {t:TE}{a:WE} [ia:IE K t a]:IT K (Ek K t) (DT a) where
 imp:=λρ M σ H q Q o h k=>ia.imp ρ M σ H _ _ o h λx M1 v H1 ⟨b,hb,h1⟩ t1 m1 r1=>#[b,hb.ok m1 r1,k b M1 H1 h1 t1 m1]
def gO:bH ->W
 | .inl k=>wi k
 | .inr x=>ws x
def fu (kvs:cz (bH×W))(k:bH):cT W:=(kvs.find? λkv=>decide (kv.1=k)).map (·.2)
def l3 (kvs:cz (bH×W))(k:bH)(v:W):cz (bH×W):=if(kvs.any λkv=>decide (kv.1=k))=true then kvs.map (λkv=>if kv.1=k then(kv.1,v) else kv) else kvs++ [(k,v)]
def rB (kvs:cz (bH×W))(k:bH):cz (bH×W):=kvs.filter λkv=>decide (kv.1≠k)
theorem KR.keys {H:Hp}: ∀ {l:cz (bH×W)} {vs:cz (bH×V)},KR K H l vs ->vs.map (·.1)=l.map (·.1)
 | _,_, .nil=>rfl
 | _,_, .cons ⟨e,r⟩ t=>by rw[az,az,KR.keys t,e]
theorem KR.length {H:Hp}{κ:Type}: ∀ {l:cz (κ×W)} {vs:cz (κ×V)},KR K H l vs ->vs.length=l.length
 | _,_, .nil=>rfl
 | _,_, .cons _ t=>by rw[aI,aI,KR.length t]
theorem KR.val {H:Hp}(k:bH): ∀ {l:cz (bH×W)} {vs:cz (bH×V)},KR K H l vs ->(fu l k=none /\ gU vs k=none) \/ bX λx v=>cg (fu l k=some x) (gU vs k=some v) (WR K H x v)
 | _,_, .nil=> .inl #[rfl,rfl]
 | (k1,x)::l,(k2,v)::vs, .cons ⟨e,r⟩ t=>by have e:k1=k2:=e;subst e;unfold fu gU;rw[cH,cH];by_cases hk:k1=k;simp![hk,decide_true];show .inr #[x,v,rfl,rfl,r];simp![hk,decide_false];show KR.val k t
theorem KR.map {H:Hp}{k:bH}{x:W}{v:V}(rx:WR K H x v): ∀ {l:cz (bH×W)} {vs:cz (bH×V)},KR K H l vs ->KR K H (l.map (λkv=>if kv.1=k then(kv.1,x) else kv)) (vs.map (λkv=>if kv.1=k then(kv.1,v) else kv))
 | _,_, .nil=> .nil
 | (k1,y)::l,(k2,u)::vs, .cons ⟨e,r⟩ t=>by have e:k1=k2:=e;subst e;rw[az,az];exact .cons ?_ (KR.map rx t);by_cases hk:k1=k;rw[aj hk,aj hk];show#[rfl,rx];rw[ah hk,ah hk];show#[rfl,r]
theorem KR.append {H:Hp}{k:bH}{x:W}{v:V}(rx:WR K H x v): ∀ {l:cz (bH×W)} {vs:cz (bH×V)},KR K H l vs ->KR K H (l++ [(k,x)]) (vs++ [(k,v)])
 | _,_, .nil=> .cons #[rfl,rx] .nil
 | _,_, .cons r t=> .cons r (KR.append rx t)
def KR.put {H:Hp}{k:bH}{x:W}{v:V}(rx:WR K H x v){l:cz (bH×W)}{vs:cz (bH×V)}(r:KR K H l vs):KR K H (l3 l k x) (fA vs k v):=by
 have ek:(l.any λkv=>decide (kv.1=k))=vs.any λkv=>decide (kv.1=k):=by
  have:=r.keys;have e1:(l.any λkv=>decide (kv.1=k))=(l.map (·.1)).any λy=>decide (y=k):=by rw[List.any_map];rfl
  have e2:(vs.any λkv=>decide (kv.1=k))=(vs.map (·.1)).any λy=>decide (y=k):=by rw[List.any_map];rfl
  rw[e1,e2,this]
 unfold l3 fA;rw[ek];split;show KR.map rx r;show KR.append rx r
theorem KR.drop {H:Hp}{k:bH}: ∀ {l:cz (bH×W)} {vs:cz (bH×V)},KR K H l vs ->KR K H (rB l k) (pf vs k)
 | _,_, .nil=> .nil
 | (k1,y)::l,(k2,u)::vs, .cons ⟨e,r⟩ t=>by have e:k1=k2:=e;subst e;unfold rB pf;rw[List.filter_cons,List.filter_cons];by_cases hk:k1=k;simp![hk,ne_eq,not_true,decide_false,av,bp];show KR.drop t;simp![ne_eq,hk,not_false_eq_true,decide_true,bJ];show .cons #[rfl,r] (KR.drop t)
def ka {H:Hp}{k:bH}{v:V}(r:WR K H (gO k) v):v=kV k:=by cases k<;>show r.eq
def Lg:WE:=λ_ M q=> ∀p,M p=none ->q (wr p) (um M p (.dK []))
instance:IE K Eo Lg where
 imp:=λρ M σ H q Q o h k=>λp hp=>k _ _ _ _ (h p (o.hp.fresh hp)) (L2.dP.ts (bF hp)) (o.hp.put (L2.dP.ts (bF hp)) #[[],bC, .nil]) WR.v
def D9 (a b:WE):WE:=λρ M q=>a ρ M λx M1=>b ρ M1 λy M2=>gs λp kvs k z=>d9 (x=wr p) (M2 p=some (.dK kvs)) (y=gO k) (fu kvs k=some z) (q z M2)
instance {t u:TE}{a b:WE} [ia:IE K t a] [ib:IE K u b]:IE K (Lv t u) (D9 a b) where
 imp :=λρ M σ H q Q o h k=>ia.imp ρ M σ H _ _ o h λx M1 v H1 h1 t1 m1 r1=>ib.imp ρ M1 σ H1 _ _ (o.mv t1 m1) h1 λy M2 u H2 ⟨p,kvs,ky,z,e1,e2,e3,e4,h2⟩ t2 m2 r2=>by
  subst e1 e3;let⟨ks,hk,rr⟩:=m2 p _ e2;rcases rr.val ky with⟨n1,_⟩ | ⟨x',v',n1,n2,rx⟩
  rw[n1] at e4;cases e4;rw[n1] at e4;cases e4;exact#[p,v',r1.eq,?_,k _ M2 _ H2 h2 (t1.trans t2) m2 rx];rw[ka r2, <- n2];show lC.k hk
def MY (a b:WE):WE:=λρ M q=>a ρ M λy M1=>b ρ M1 λx M2=>dY λp kvs k=>eZ (x=wr p) (M2 p=some (.dK kvs)) (y=gO k) (q (wb (fu kvs k).isSome) M2)
def uO (a b:WE):WE:=λρ M q=>a ρ M λy M1=>b ρ M1 λx M2=>dY λp kvs k=>eZ (x=wr p) (M2 p=some (.dK kvs)) (y=gO k) (q (wb (!(fu kvs k).isSome)) M2)
def KR.some {H:Hp}(k:bH){l:cz (bH×W)}{vs:cz (bH×V)}(r:KR K H l vs):(gU vs k).isSome=(fu l k).isSome:=by rcases r.val k with⟨a,b⟩ | ⟨x,v,a,b,_⟩ <;>rw[a,b] <;>rfl
instance {t u:TE}{a b:WE} [ia:IE K t a] [ib:IE K u b]:IE K (RD t u) (MY a b) where
 imp:=λρ M σ H q Q o h k=>ia.imp ρ M σ H _ _ o h λy M1 v H1 h1 t1 m1 r1=>ib.imp ρ M1 σ H1 _ _ (o.mv t1 m1) h1 λx M2 u H2 ⟨p,kvs,ky,e1,e2,e3,h2⟩ t2 m2 r2=>by subst e1 e3;let⟨ks,hk,rr⟩:=m2 p _ e2;exact#[p,gU ks ky,r2.eq,by rw[ka r1];show lC.k hk,k _ M2 _ H2 h2 (t1.trans t2) m2 ?_];rw[rr.some];show WR.v
instance {t u:TE}{a b:WE} [ia:IE K t a] [ib:IE K u b]:IE K (Al t u) (uO a b) where
 imp:=λρ M σ H q Q o h k=>ia.imp ρ M σ H _ _ o h λy M1 v H1 h1 t1 m1 r1=>ib.imp ρ M1 σ H1 _ _ (o.mv t1 m1) h1 λx M2 u H2 ⟨p,kvs,ky,e1,e2,e3,h2⟩ t2 m2 r2=>by subst e1 e3;let⟨ks,hk,rr⟩:=m2 p _ e2;exact#[p,gU ks ky,r2.eq,by rw[ka r1];show lC.k hk,k _ M2 _ H2 h2 (t1.trans t2) m2 ?_];rw[rr.some];show WR.v
def yO (a b c:WE):WE:=λρ M q=>a ρ M λx M1=> ∃p,cg (x=wr p) (∃kvs,M1 p=some (.dK kvs)) (b ρ M1 λy M2=>c ρ M2 λz M3=>bX λkvs k=>cg (M3 p=some (.dK kvs)) (y=gO k) (q ((fu kvs k).getD z) M3))
instance {t u s:TE}{a b c:WE} [ia:IE K t a] [ib:IE K u b] [ic:IE K s c]:IE K (Ep t u s) (yO a b c) where
 imp:=λρ M σ H q Q o h k=>ia.imp ρ M σ H _ _ o h λx M1 v H1 ⟨p,e,⟨kvs,hp⟩,h1⟩ t1 m1 r1=>by
  subst e;let⟨ks,hk,rr⟩:=m1 p _ hp;exact#[p,r1.eq, .inl #[ks, .inl hk],ib.imp ρ M1 σ H1 _ _ (o.mv t1 m1) h1 λy M2 u H2 h2 t2 m2 r2=>ic.imp ρ M2 σ H2 _ _ (o.mv (t1.trans t2) m2) h2 λz M3 u3 H3 ⟨kvs,ky,e2,e3,h3⟩ t3 m3 r3=> ?_];subst e3;let⟨ks,hk,rr⟩:=m3 p _ e2;exact#[gU ks ky,by rw[ka (r2.ts t3)];show lC.k hk,k _ M3 _ H3 h3 ((t1.trans t2).trans t3) m3 ?_];rcases rr.val ky with⟨n1,n2⟩ | ⟨x',v',n1,n2,rx⟩
  rw[n1,n2];show r3;rw[n1,n2];show rx
end
section
variable {K:gg}
def Ln (i:Nat):WG:=λx ρ M q=>q (ρ.set i (some x)) M
instance {i:Nat}:IG K (i5 i) (Ln i) where
 imp:=λx v ρ M σ H q Q o r h k=>k _ M _ H h (aS.refl H) #[o.env.set i r,o.hp]
def Nb:KJ:=λxs ρ M q=>xs= [] /\ q ρ M
def Lo (a:WG)(b:KJ):KJ:=λxs ρ M q=>bX λx r=>xs=x::r /\ a x ρ M λρ' M'=>b r ρ' M' q
instance:V_ K Kn Nb where
 imp:=λx v ρ M σ H q Q o r h k=>by let⟨rfl,h⟩:=h;show#[by simpa only[bW] using r,k _ M _ H h (aS.refl H) o]
instance {t:TG}{u:Ih}{a:WG}{b:KJ} [ia:IG K t a] [ib:V_ K u b]:V_ K (uf t u) (Lo a b) where
 imp:=λx v ρ M σ H q Q o r h k=>by let⟨y,rest,rfl,h⟩:=h;simp![bW] at r;let⟨v1,t1,rfl,r1,r2⟩:=r;show#[v1,t1,rfl,ia.imp y v1 ρ M σ H _ _ o r1 h λρ' M' σ' H' h' ts o'=>ib.imp rest t1 ρ' M' σ' H' _ _ o' (r2.ts ts) h' λρ2 M2 σ2 H2 h2 Rl o2=>k ρ2 M2 σ2 H2 h2 (ts.trans Rl) o2]
def Rg (n:Nat)(a:KJ):WG:=λx ρ M q=> ∃l,cg (x= .tup l) (l.length=n) (a l ρ M q)
instance {n:Nat}{t:Ih}{a:KJ} [ia:V_ K t a]:IG K (Km K n t) (Rg n a) where
 imp:=λx v ρ M σ H q Q o r h k=>by let⟨l,rfl,hl,h⟩:=h;let⟨a',vs,rfl,hv,rr⟩:=r.tup;show#[a',vs,rfl,hv,by rw[rr.length];show hl,ia.imp l vs ρ M σ H _ _ o rr h k]
abbrev Hi:=W ->W ->W ->Mp ->(Mp ->Prop) ->Prop
class UE (K:PySem.W.Frag) (t:Hj) (w:outParam Hi):Prop where
 imp: ∀ (x y z:W) (v u r:V) (M:Mp) (H:Hp) (q:Mp ->Prop) (Q:Hp ->Prop),d6 K M H ->WR K H x v ->WR K H y u ->WR K H z r ->w x y z M q ->(∀M' H',q M' ->aS H H' ->d6 K M' H' ->Q H') ->t v u r H Q
def Lb:Hi:=λx y z M q=>gs λa l k j=>d9 (x=wr a) (y=wi k) (M a=some (.lst l)) (yG l.length k=some j) (q (um M a (.lst (l.set j z))))
instance:UE K LK Lb where
 imp:=by rintro x y z v u r M H q Q m r1 r2 r3 ⟨a,l,i,j,rfl,rfl,hl,e,h⟩ k;let⟨vs,hv,rr⟩:=m a _ hl;show#[a,vs,i,j,r1.eq,r2.eq,hv,by rw[rr.length];show e,k _ _ h (jr hv) (m.putL hv (rr.set j r3))]
def Rh (a b:WE)(s:Hi):WG:=λx ρ M q=>a ρ M λo M1=>b ρ M1 λi M2=>s o i x M2 λM3=>q ρ M3
instance {t u:TE}{s:Hj}{a b:WE}{w:Hi} [ia:IE K t a] [ib:IE K u b] [is:UE K s w]:IG K (Tw t u s) (Rh a b w) where
 imp:=λx v ρ M σ H q Q o r h k=>ia.imp ρ M σ H _ _ o h λy M1 v1 H1 h1 t1 m1 r1=>ib.imp ρ M1 σ H1 _ _ (o.mv t1 m1) h1 λz M2 v2 H2 h2 t2 m2 r2=>is.imp y z x v1 v2 v M2 H2 _ _ m2 (r1.ts t2) r2 (r.ts (t1.trans t2)) h2 λM3 H3 h3 t3 m3=>k ρ M3 σ H3 h3 ((t1.trans t2).trans t3) (o.mv ((t1.trans t2).trans t3) m3)
def LD:WS:=λD ρ M=>D.nx ρ M
instance:IS K Ls LD where
 imp:=λρ M σ H D' D o h e=>e.nx ρ M σ H h (aS.refl H) o
def IP (a b:WS):WS:=λD ρ M=>a {D with nx:=b D} ρ M
instance {t u:TS}{a b:WS} [ia:IS K t a] [ib:IS K u b]:IS K (Np t u) (IP a b) where
 imp:=λρ M σ H D' D o h e=>ia.imp ρ M σ H _ _ o h #[λρ' M' σ' H' h' ts o'=>ib.imp ρ' M' σ' H' D' D o' h' (e.mv ts),e.rt,e.bk,e.ct]
def LF (a:WE):WS:=λD ρ M=>a ρ M λ_ M1=>D.nx ρ M1
instance {t:TE}{a:WE} [ia:IE K t a]:IS K (Lu t) (LF a) where
 imp:=λρ M σ H D' D o h e=>ia.imp ρ M σ H _ _ o h λx M1 v H1 h1 t1 m1 r1=>e.nx ρ M1 σ H1 h1 t1 (o.mv t1 m1)
def RS (a:WE):WS:=λD ρ M=>a ρ M D.rt
instance {t:TE}{a:WE} [ia:IE K t a]:IS K (Rv t) (RS a) where
 imp:=λρ M σ H D' D o h e=>ia.imp ρ M σ H _ _ o h λx M1 v H1 h1 t1 m1 r1=>e.rt x M1 v H1 h1 t1 m1 r1
def Vf (c:WT)(a b:WS):WS:=λD ρ M=>c ρ M λk M1=>if k=true then a D ρ M1 else b D ρ M1
instance {tc:TT}{t u:TS}{c:WT}{a b:WS} [ic:IT K tc c] [ia:IS K t a] [ib:IS K u b]:IS K (Rz tc t u) (Vf c a b) where
 imp:=λρ M σ H D' D o h e=>ic.imp ρ M σ H _ _ o h λk M1 H1 h1 t1 m1=>by
  cases k with
  | true=>simp![bJ] at h1 ⊢;show ia.imp ρ M1 σ H1 D' D (o.mv t1 m1) h1 (e.mv t1)
  | false=>simp![av,bp] at h1 ⊢;show ib.imp ρ M1 σ H1 D' D (o.mv t1 m1) h1 (e.mv t1)
def RY (a:WE)(g:WG):WS:=λD ρ M=>a ρ M λx M1=>g x ρ M1 D.nx
instance {t:TE}{g:TG}{a:WE}{w:WG} [ia:IE K t a] [ig:IG K g w]:IS K (BZ t g) (RY a w) where
 imp:=λρ M σ H D' D o h e=>ia.imp ρ M σ H _ _ o h λx M1 v H1 h1 t1 m1 r1=>ig.imp x v ρ M1 σ H1 _ _ (o.mv t1 m1) r1 h1 λρ2 M2 σ2 H2 h2 t2 o2=>e.nx ρ2 M2 σ2 H2 h2 (t1.trans t2) o2
class IIp (K:PySem.W.Frag) (t:QC) (w:outParam nB):Prop where
 imp: ∀ (x y:W) (v u:V) (M:Mp) (H:Hp) (q:WK) (Q:VK),d6 K M H ->WR K H x v ->WR K H y u ->w x y M q ->(∀x M' v H',q x M' ->aS H H' ->d6 K M' H' ->WR K H' x v ->Q v H') ->t v u H Q
instance {f:Int ->Int ->Int}:IIp K (ipI f) (WD λi j=> .int (f i j)) where
 imp:=by rintro x y v u M H q Q m r1 r2 ⟨i,j,rfl,rfl,h⟩ k;show#[i,j,r1.eq,r2.eq,k _ M _ H h (aS.refl H) m WR.v]
def RX (i:Nat)(a:WE)(r:nB):WS:=λD ρ M=>eB i ρ M λx M=>a ρ M λy M1=>r x y M1 λz M2=>D.nx (ρ.set i (some z)) M2
instance {i:Nat}{t:TE}{ti:QC}{a:WE}{w:nB} [ia:IE K t a] [ir:IIp K ti w]:IS K (RE i t ti) (RX i a w) where
 imp:=λρ M σ H D' D o h e=>by let⟨x,ex,h⟩:=DS h;let⟨v,ev,rv⟩:=o.env.2 i x ex;show#[v,ev,ia.imp ρ M σ H _ _ o h λy M1 u H1 h1 t1 m1 r1=>ir.imp x y v u M1 H1 _ _ m1 (rv.ts t1) r1 h1 λz M2 w2 H2 h2 t2 m2 r2=>e.nx _ M2 _ H2 h2 (t1.trans t2) #[(o.env.ts (t1.trans t2)).set i r2,m2]]
def y9 (a b c:WE):WS:=λD ρ M=>c ρ M λz M1=>a ρ M1 λx M2=>b ρ M2 λy M3=>dY λp kvs k=>d9 (x=wr p) (M3 p=some (.dK kvs)) (y=gO k) (kvs.length<sizeLine) (D.nx ρ (um M3 p (.dK (l3 kvs k z))))
instance {t u s:TE}{a b c:WE} [ia:IE K t a] [ib:IE K u b] [ic:IE K s c]:IS K (LG t u s) (y9 a b c) where
 imp :=λρ M σ H D' D o h e=>ic.imp ρ M σ H _ _ o h λz M1 v1 H1 h1 t1 m1 r1=>ia.imp ρ M1 σ H1 _ _ (o.mv t1 m1) h1 λx M2 v2 H2 h2 t2 m2 r2=>ib.imp ρ M2 σ H2 _ _ (o.mv (t1.trans t2) m2) h2 λy M3 v3 H3 ⟨p,kvs,k,e1,e2,e3,hl,h3⟩ t3 m3 r3=>by subst e1 e3;let⟨ks,hk,rr⟩:=m3 p _ e2;have ts:=oA (u:= .dK (fA ks k v1)) hk;exact#[p,_,r2.eq,?_,e.nx ρ _ σ (bU H3 p (.dK (fA ks k v1))) h3 (((t1.trans t2).trans t3).trans ts) (o.mv (((t1.trans t2).trans t3).trans ts) (m3.putD hk (KR.put (r1.ts (t2.trans t3)) rr)))];rw[ka r3];show HD.k hk (by rw[rr.length];show hl)
def y_ (a b:WE):WS:=λD ρ M=>a ρ M λx M1=>b ρ M1 λy M2=>dY λp kvs k=>d9 (x=wr p) (M2 p=some (.dK kvs)) (y=gO k) ((fu kvs k).isSome=true) (D.nx ρ (um M2 p (.dK (rB kvs k))))
instance {t u:TE}{a b:WE} [ia:IE K t a] [ib:IE K u b]:IS K (LH t u) (y_ a b) where
 imp :=λρ M σ H D' D o h e=>ia.imp ρ M σ H _ _ o h λx M2 v2 H2 h2 t2 m2 r2=>ib.imp ρ M2 σ H2 _ _ (o.mv t2 m2) h2 λy M3 v3 H3 ⟨p,kvs,k,e1,e2,e3,hl,h3⟩ t3 m3 r3=>by subst e1 e3;let⟨ks,hk,rr⟩:=m3 p _ e2;have ts:=oA (u:= .dK (pf ks k)) hk;show#[p,ks,k,r2.eq,hk,ka r3,by rw[rr.some];show hl,e.nx ρ _ σ _ h3 ((t2.trans t3).trans ts) (o.mv ((t2.trans t3).trans ts) (m3.putD hk rr.drop))]
def Dq (K:gg)(H1:Hp)(J:It)(xs:cz W)(keep:Mp ->Prop):Prop:=∀i M H,aS H1 H ->d6 K M H ->keep M ->(xs.length=i ->J.stop i H) /\ (i<xs.length ->J.go i H) /\ ∀v H',i<xs.length ->J.K_ i H v H' ->aS H H' /\ d6 K M H' /\ ∃x,xs[i]? =some x /\ WR K H' x v
class II (K:PySem.W.Frag) (t:TI) (w:outParam WI):Prop where
 imp: ∀ (ρ:b7) (M:Mp) (σ:St) (H:Hp) (q:List W ->(Mp ->Prop) ->Mp ->Prop) (R:It ->Hp ->Prop),Ok K ρ M σ H ->w ρ M q ->(∀xs keep J M' H',q xs keep M' ->aS H H' ->d6 K M' H' ->Dq K H' J xs keep ->R J H') ->t σ H R
def FU (a:WE):WI:=λρ M q=>a ρ M λx M1=>bX λp l=>cg (x=wr p) (M1 p=some (.lst l)) (q l (λM'=>M' p=some (.lst l)) M1)
def SR (a:WE):WI:=λρ M q=>a ρ M λx M1=> ∃l,x= .tup l /\ q l (λ_=>True) M1
def gJ (lo:Int)(n:Nat):cz W:=(List.range n).map λ(k:Nat)=>wi (lo+(k:Int))
def FT (a:WA):WI:=λρ M q=>a ρ M λxs M1=> ∃j:Int,eZ (xs= [wi j]) (-(2 ^ 62) <=j) (j<2 ^ 62) (q (gJ 0 j.toNat) (λ_=>True) M1)
def CI {H1:Hp}{p:dw}{l:cz W}:Dq K H1 (Itl K p) l (λM'=>M' p=some (.lst l)):=by intro i M H ts m hk;let⟨vs,hv,rr⟩:=m p _ hk;have hl:=rr.length;exact#[λh=>#[vs,fh.of hv, ∅],λh=>#[vs,vs[i]'∅,fh.of hv,by simp],λv H' hi y=> ?_];let⟨rfl,y⟩:=y;have:=y vs (fh.of hv);let⟨d,hd,r⟩:=rr.back this;show#[aS.refl _,m,d,hd,r]
def F0 {H1:Hp}{p:dw}{l:cz W}{vs:cz V}(hv:gH K H1 p vs)(rr:bW K H1 l vs):Dq K H1 (Itt K p) l (λ_=>True):=by intro i M H ts m _;have Gc:=Un.Xk ts hv;have LI:=rr.ts ts;have hl:=LI.length;exact#[λh=>#[vs,Gc, ∅],λh=>#[vs,vs[i]'∅,Gc,by simp],λv H' hi y=> ?_];let⟨rfl,y⟩:=y;have:=y vs Gc;let⟨d,hd,r⟩:=LI.back this;show#[aS.refl _,m,d,hd,r]
def F5 {H1:Hp}{lo:Int}{n:Nat}:Dq K H1 (V9 lo n) (gJ lo n) (λ_=>True):=by
 intro i M H ts m _;have hl:(gJ lo n).length=n:=by simp[gJ]
 rw[hl];exact#[λh=>Nat.le_of_eq h,λh=>h,λv H' hi y=> ?_];let⟨rfl,y⟩:=y;exact#[aS.refl _,m,wi (lo+i),?_,by rw[y];show WR.v];simp[gJ,hi]
instance {t:TE}{a:WE} [ia:IE K t a]:II K (F' K t) (FU a) where
 imp:=λρ M σ H q R o h k=>ia.imp ρ M σ H _ _ o h λx M1 v H1 ⟨p,l,e,hp,h1⟩ t1 m1 r1=>by subst e;let⟨vs,hv,rr⟩:=m1 p _ hp;show#[p,r1.eq,#[vs,fh.of hv],k l _ _ M1 H1 h1 t1 m1 CI]
instance {t:TE}{a:WE} [ia:IE K t a]:II K (SX K t) (SR a) where
 imp:=λρ M σ H q R o h k=>ia.imp ρ M σ H _ _ o h λx M1 v H1 ⟨l,e,h1⟩ t1 m1 r1=>by subst e;let⟨p,vs,rfl,hv,rr⟩:=r1.tup;show#[p,rfl,#[vs,hv],k l _ _ M1 H1 h1 t1 m1 (F0 hv rr)]
instance {t:TA}{a:WA} [ia:IA K t a]:II K (Mo t) (FT a) where
 imp:=λρ M σ H q R o h k=>ia.imp ρ M σ H _ _ o h λxs M1 v H1 ⟨j,e,h0,h1,h2⟩ t1 m1 r1=>by subst e;let⟨v,rfl,r⟩:=r1.one;cases r.eq;show#[j,rfl,h0,h1,k _ _ _ M1 H1 h2 t1 m1 F5]
def RT (it:WI)(g:WG)(b:WS):WS:=λD ρ M=>it ρ M λxs keep M1=> ∃I:Nat ->b7 ->Mp ->Prop,eZ (I 0 ρ M1) (∀i ρ M,i<=xs.length ->I i ρ M ->keep M) (∀i x ρ M,xs[i]? =some x ->I i ρ M ->g x ρ M λρ2 M2=>b {D with nx:=I (i+1),ct:=I (i+1),bk:=D.nx} ρ2 M2) (∀ρ M,I xs.length ρ M ->D.nx ρ M)
instance {ti:TI}{g:TG}{t:TS}{it:WI}{w:WG}{b:WS} [ii:II K ti it] [ig:IG K g w] [ib:IS K t b]:IS K (RC ti g t) (RT it w b) where
 imp :=λρ M σ H D' D o h e=>ii.imp ρ M σ H _ _ o h λxs keep J M1 H1 h1 t1 m1 ok=>by let⟨I,h0,hk,hs,hd⟩:=h1;exact#[λi m σ' H'=>m=xs.length - i /\ i<=xs.length /\ bX λρ' M'=>cg (I i ρ' M') (aS H1 H') (Ok K ρ' M' σ' H'),#[_,rfl,cN _,ρ,M1,h0,aS.refl _,o.mv t1 m1],?_];rintro i m σ' H' ⟨rfl,hi,ρ',M',hI,ts,o'⟩;let⟨k1,k2,k3⟩:=ok i M' H' ts o'.hp (hk i ρ' M' hi hI);by_cases gP:i<xs.length;exact .inr #[k2 gP,λσ2 H2=>bX λρ2 M2=>cg (I (i+1) ρ2 M2) (aS H1 H2) (Ok K ρ2 M2 σ2 H2),λσ2 H2 ⟨ρ2,M2,a,b,c⟩=>#[xs.length - (i+1), ∅,rfl,gP,ρ2,M2,a,b,c],λv H2 y=> ?_];let⟨ty,my,x,hx,r⟩:=k3 v H2 gP y;replace ts:=ts.trans ty;exact ig.imp x v ρ' M' σ' H2 _ _ (o'.mv ty my) r (hs i x ρ' M' hx hI) λρ3 M3 σ3 H3 h3 t3 o3=>ib.imp ρ3 M3 σ3 H3 _ _ o3 h3 #[λa b c d h t o=>#[a,b,h,(ts.trans t3).trans t,o],λa b c d h t=>e.rt a b c d h (t1.trans ((ts.trans t3).trans t)),λa b c d h t=>e.nx a b c d h (t1.trans ((ts.trans t3).trans t)),λa b c d h t o=>#[a,b,h,(ts.trans t3).trans t,o]];have e':i=xs.length:= ∅;subst e';show .inl #[k1 rfl,e.nx ρ' M' σ' H' (hd ρ' M' hI) (t1.trans ts) o']
def y8 (c:WT)(b:WS):WS:=λD ρ M=> ∃I:Nat ->b7 ->Mp ->Prop,(∃m,I m ρ M) /\ ∀m ρ M,I m ρ M ->c ρ M λk M1=>if k=true then b {D with nx:=λρ' M'=> ∃m',m'<m /\ I m' ρ' M',ct:=λρ' M'=> ∃m',m'<m /\ I m' ρ' M',bk:=D.nx} ρ M1 else D.nx ρ M1
instance {tc:TT}{t:TS}{c:WT}{b:WS} [ic:IT K tc c] [ib:IS K t b]:IS K (Ej tc t) (y8 c b) where
 imp :=λρ M σ H D' D o ⟨I,⟨m,h0⟩,hs⟩ e=>by
  exact#[λm σ' H'=>bX λρ' M'=>cg (I m ρ' M') (aS H H') (Ok K ρ' M' σ' H'),#[m,ρ,M,h0,aS.refl _,o],?_];rintro m σ' H' ⟨ρ',M',hI,ts,o'⟩;exact ic.imp ρ' M' σ' H' _ _ o' (hs m ρ' M' hI) λk M1 H1 h1 t1 m1=> ?_;cases k with
  | true=>simp![bJ] at h1 ⊢;exact#[λσ2 H2=> ∃m',m'<m /\ bX λρ2 M2=>cg (I m' ρ2 M2) (aS H H2) (Ok K ρ2 M2 σ2 H2),λσ2 H2 h=>h,ib.imp ρ' M1 σ' H1 _ _ (o'.mv t1 m1) h1 #[λa b c d ⟨m',hm,h⟩ t o=>#[m',hm,a,b,h,(ts.trans t1).trans t,o],λa b c d h t=>e.rt a b c d h ((ts.trans t1).trans t),λa b c d h t=>e.nx a b c d h ((ts.trans t1).trans t),λa b c d ⟨m',hm,h⟩ t o=>#[m',hm,a,b,h,(ts.trans t1).trans t,o]]]
  | false=>simp![av,bp] at h1 ⊢;show e.nx ρ' M1 σ' H1 h1 (ts.trans t1) (o'.mv t1 m1)
def m8 (own:Nat)(fr:cz Nat)(ρ:b7):b7:=List.replicate own none++fr.map λj=>(ρ[j]?).join
def BN.Qz {H:Hp}{ρ:b7}{σ:St}(own:Nat)(fr:cz Nat)(h:BN K H ρ σ):BN K H (m8 own fr ρ) (ji own fr σ):=by
 unfold m8 ji;exact#[by simp,λi x e=> ?_];by_cases hi:i<own;rw[aU ⇑hi,cP,aj hi] at e;cases e;rw [aO ⇑hi,List.length_replicate,aG] at e;rw[aO ⇑hi,List.length_replicate,aG];cases ej:fr[i - own]? with
 | none=>rw[ej] at e;cases e
 | some j=>
  rw[ej] at e;simp![Option.map_some,Option.some.injEq] at e ⊢;cases er:ρ[j]? with
  | none=>rw[er] at e;cases e
  | some z=>rw[er] at e;simp![Option.join_some] at e;subst e;let⟨v,ev,r⟩:=h.2 j x er;show#[v,by rw[ev];rfl,r]
def Li (it:WI)(own:Nat)(fr:cz Nat)(g:WG)(c:WT)(el:WE):WE:=λρ M q=>it ρ M λxs keep M1=>xs.length<=sizeLine /\ ∀p,M1 p=none -> ∃I:Nat ->cz W ->Mp ->Prop,eZ (I 0 [] (um M1 p (.lst []))) (∀i ys M,i<=xs.length ->I i ys M ->keep M /\ M p=some (.lst ys) /\ ys.length<=i) (∀i x ys M,xs[i]? =some x ->I i ys M ->g x (m8 own fr ρ) M λρ2 M2=>c ρ2 M2 λb M3=>if b=true then el ρ2 M3 λy M4=>M4 p=some (.lst ys) /\ I (i+1) (ys++ [y]) (um M4 p (.lst (ys++ [y]))) else I (i+1) ys M3) (∀ys M,I xs.length ys M ->q (wr p) M)
instance {ti:TI}{own:Nat}{fr:cz Nat}{g:TG}{tc:TT}{te:TE}{it:WI}{w:WG}{c:WT}{el:WE} [ii:II K ti it] [ig:IG K g w] [ic:IT K tc c] [ie:IE K te el]:IE K (Es ti own fr g tc te) (Li it own fr w c el) where
 imp :=λρ M σ H q Q o h k=>ii.imp ρ M σ H _ _ o h λxs keep J M1 H1 h1 t1 m1 ok=>by
  intro p hp;let⟨hz,h1⟩:=h1;let⟨I,h0,hk,hs,hd⟩:=h1 p (m1.fresh hp);have tp:=L2.dP.ts (bF (o:= .lst []) hp);exact#[λi m vs H'=>m=xs.length - i /\ i<=xs.length /\ bX λys M'=>d9 (I i ys M') (aS H1 H') (d6 K M' H') (bW K H' ys vs) (H' p=some (.lst vs)),#[_,rfl,cN _,[],_,h0,tp,m1.sN hp bW.nil,bW.nil,bC],?_];rintro i m vs H' ⟨rfl,hi,ys,M',hI,ts,m',rv,hv⟩;exact#[hv,?_];let⟨kp,hMp,hyl⟩:=hk i ys M' hi hI;let⟨k1,k2,k3⟩:=ok i M' H' ts m' kp;by_cases gP:i<xs.length;exact .inr #[k2 gP,by rw[rv.length];lia,λv H2 y=> ?_];let⟨ty,my,x,hx,r⟩:=k3 v H2 gP y;replace ts:=ts.trans ty;have oc:Ok K (m8 own fr ρ) M' (ji own fr σ) H2:=#[(o.env.ts (t1.trans ts)).Qz own fr,my]
  exact ig.imp x v _ M' _ H2 _ _ oc r (hs i x ys M' hx hI) λρ3 M3 σ3 H3 h3 t3 o3=>ic.imp ρ3 M3 σ3 H3 _ _ o3 h3 λb M4 H4 h4 t4 m4=> ?_;cases b with
  | true=>simp![bJ] at h4 ⊢;exact ie.imp ρ3 M4 σ3 H4 _ _ (o3.mv t4 m4) h4 λz M5 u H5 ⟨h5,h6⟩ t5 m5 r5=> ?_;let⟨Lm,J7,IW⟩:=m5 p _ h5;have Xh:=(t3.trans t4).trans t5;have t6:=jr (u:= .lst (Lm++ [u])) J7;show#[Lm,J7,by rw[IW.length];lia,_, ∅,rfl,gP,_,_,h6,(ts.trans Xh).trans t6,m5.putL J7 (IW.snoc r5),(IW.snoc r5).ts t6,bC]
  | false=>simp![av,bp] at h4 ⊢;let⟨Lm,J7,IW⟩:=m4 p _ (hk (i+1) ys M4 gP h4).2.1;show#[Lm,_, ∅,rfl,gP,_,_,h4,ts.trans (t3.trans t4),m4,IW,J7]
  have e':i=xs.length:= ∅;subst e';show .inl #[k1 rfl,k _ M' _ H' (hd ys M' hI) (t1.trans ts) m' WR.v]
def QJ:WT:=λ_ M q=>q true M
instance:IT K Rs QJ where
 imp:=λρ M σ H q Q o h k=>k _ M H h (aS.refl H) o.hp
end
section
variable {K:gg}
theorem d6.sub {M M':Mp}{H:Hp}(s:Sm M M')(m:d6 K M' H):d6 K M H:=λa o e=>m a o (s a o e)
def Vt {P:gA}{w:gB}{mg:Str ->cT cG}{base:gC}{x qual:Str}{st:Stmt}{f:dw}{fd:gN}{N ps:cz Str}{k:Nat}{p:e9}(F:yo K x qual st f fd)(S:bR N ps (aE st))(len: ∀vs M q,p vs M q ->vs.length=ps.length) (ij: ∀ (cdv:cG) (A:hV) (outer:cz Env) (s:cL) (H:Hp) (E:XK),dz k (A.deeper (PyProof.Rows.envOfC qual (aE st) s.heap.objs.size f cdv)) ->∃t,sC (dE ez P w K mg base N qual (aE st) f cdv A outer s H E).Fx (c6 st) t /\ ∃w',IS K t w' /\ ∀vs M q,p vs M q ->w' {nx:=λ_ M'=> ∃M0,Sm M0 M' /\ q wn M0,rt:=λx M'=> ∃M0,Sm M0 M' /\ q x M0} (vs.map some++List.replicate (N.length - vs.length) none) M): bv P w K mg base ez (k+1) f fd ps (fw K p):=by
 have h:=okW (K:=K) (P:=P) (w:=w) (mg:=mg) (base:=base) (k:=k) (p:=λvs M q=> ∃q',p vs M q' /\ q=λx M'=> ∃M0,Sm M0 M' /\ q' x M0) F S (λvs M q ⟨q',h,_⟩=>len vs M q' h) λcdv A outer s H E hr=>by let⟨t,h1,w',h2,h3⟩:=ij cdv A outer s H E hr;exact#[t,w',h1,h2,?_];rintro vs M q ⟨q',h,rfl⟩;show h3 vs M q' h
 exact h.imp λvs H Q E ⟨xs,M,q,r,m,hp,hk⟩=>#[xs,M,_,r,m,#[q,hp,rfl],?_]
 rintro x M' v H' ⟨M0,s,hq⟩ ts m' r';show hk x M0 v H' hq ts (m'.sub s) r'
def Db {xs:cz W}{keep:Mp ->Prop}{M1:Mp}{own:Nat}{fr:cz Nat}{ρ:b7}{g:WG}{c:WT}{el:WE}{q:WK}(f:W ->cT W)(hz:xs.length<=sizeLine)(mn: ∀M,Sm M1 M ->keep M) (hs: ∀ (i:Nat) x,xs[i]? =some x -> ∀ (M:Mp) (N:cT W ->Mp ->Prop),Sm M1 M ->N (f x) M ->g x (m8 own fr ρ) M λρ2 M2=>c ρ2 M2 λb M3=>if b=true then el ρ2 M3 λy M4=>N (some y) M4 else N none M3) (hq: ∀p,M1 p=none ->q (wr p) (um M1 p (.lst (xs.filterMap f)))): xs.length<=sizeLine /\ ∀p,M1 p=none -> ∃I:Nat ->cz W ->Mp ->Prop,eZ (I 0 [] (um M1 p (.lst []))) (∀i ys M,i<=xs.length ->I i ys M ->keep M /\ M p=some (.lst ys) /\ ys.length<=i) (∀i x ys M,xs[i]? =some x ->I i ys M ->g x (m8 own fr ρ) M λρ2 M2=>c ρ2 M2 λb M3=>if b=true then el ρ2 M3 λy M4=>M4 p=some (.lst ys) /\ I (i+1) (ys++ [y]) (um M4 p (.lst (ys++ [y]))) else I (i+1) ys M3) (∀ys M,I xs.length ys M ->q (wr p) M):=by
 exact#[hz,λp hp=>#[λi ys M=>M=um M1 p (.lst ys) /\ ys=(xs.take i).filterMap f,#[rfl,by simp],?_,?_,?_]];rintro i ys M hi ⟨rfl,rfl⟩;exact#[mn _ (bn hp),aq,aH (List.length_filterMap_le _ _) ?_];rw[bM];lia;rintro i x ys M hx ⟨rfl,rfl⟩;exact hs i x hx _ (λo M4=>match o with
 | some y=>M4 p=some (.lst ((xs.take i).filterMap f)) /\ (um M4 p (.lst ((xs.take i).filterMap f++ [y]))=um M1 p (.lst ((xs.take i).filterMap f++ [y])) /\ (xs.take i).filterMap f++ [y]=(xs.take (i+1)).filterMap f)
 | none=>M4=um M1 p (.lst ((xs.take i).filterMap f)) /\ (xs.take i).filterMap f=(xs.take (i+1)).filterMap f) (bn hp) ?_
 have e:xs.take (i+1)=xs.take i++ [x]:=by rw[List.take_add_one,hx];rfl
 cases hf:f x with
 | none=>show#[rfl,by rw[e,List.filterMap_append];simp[hf]]
 | some y=>show#[aq,gx,by rw[e,List.filterMap_append];simp[hf]]
 rintro ys M ⟨rfl,rfl⟩;rw[List.take_length];show hq p hp
mutual
def Pu:W ->cT Dt
 | .v .dJ=>some .dJ
 | .v (.bl b)=>some (.bl b)
 | .v (.int i)=>some (.int i)
 | .v (.str x)=>some (.str x)
 | .v _=>none
 | .tup l=>(sW l).map .tup
def sW:cz W ->cT (cz Dt)
 | []=>some []
 | x::r=>match Pu x,sW r with
  | some d,some l=>some (d::l)
  | _,_=>none
end
mutual
theorem EK {H:Hp}: ∀ (x:W) (d:Dt) (v:V),Pu x=some d ->WR K H x v ->Rep K H d v
 | .v y,d,v,e,r=>by cases r.eq;cases y<;>simp![Pu,Option.some.injEq,reduceCtorEq] at e<;>subst e<;>simp![Rep]
 | .tup l,d,v,e,r=>by
  let⟨a,vs,rfl,hv,rr⟩:=r.tup;simp![Pu] at e;cases hd:sW l with
  | none=>rw[hd] at e;cases e
  | some ds=>rw[hd] at e;cases e;simp![Rep];show#[a,vs,rfl,hv,vd l ds vs hd rr]
theorem vd {H:Hp}: ∀ (l:cz W) (ds:cz Dt) (vs:cz V),sW l=some ds ->bW K H l vs ->fb K H ds vs
 | [],ds,vs,e,r=>by simp![sW] at e;cases e;simp![bW] at r;simp![fb];show r
 | x ::l,ds,vs,e,r=>by
  simp![sW] at e;cases hx:Pu x with
  | none=>rw[hx] at e;cases e
  | some d=>
   cases hl:sW l with
   | none=>rw[hx,hl] at e;cases e
   | some ds'=>rw[hx,hl] at e;cases e;simp![bW] at r;let⟨v,t,rfl,r1,r2⟩:=r;simp![fb];show#[v,t,rfl,EK x d v hx r1,vd l ds' t hl r2]
end
def DR (M:Mp)(x:W)(d:Dt):Prop:=Pu x=some d \/ dY λa l ds=>eZ (x=wr a) (M a=some (.lst l)) (sW l=some ds) (d= .lst ds)
def DR.rep {M:Mp}{H:Hp}{x:W}{d:Dt}{v:V}(m:d6 K M H)(r:WR K H x v)(h:DR M x d):Rep K H d v:=by obtain h | ⟨a,l,ds,rfl,hl,e,rfl⟩:=h;show EK x d v h r;cases r.eq;let⟨vs,hv,rr⟩:=m a _ hl;simp![Rep];show#[a,vs,rfl,fh.of hv,vd l ds vs e rr]
def Q4:nB:=λx y M q=>bX λd e=>d9 (DR M x d) (DR M y e) (iy d e=true) (vO d<=50) (q (wb (rg d e)) M)
def MS:nB:=λx y M q=>bX λd e=>d9 (DR M x d) (DR M y e) (iy d e=true) (vO d<=50) (q (wb (!rg d e)) M)
instance:IR K (Sa K) Q4 where
 imp:=by rintro x y v u M H q Q m r1 r2 ⟨d,e,h1,h2,h3,h4,h⟩ k;show#[d,e,h3,h4,h1.rep m r1,h2.rep m r2,k _ M _ H h (aS.refl H) m WR.v]
instance:IR K (R8 K) MS where
 imp:=by rintro x y v u M H q Q m r1 r2 ⟨d,e,h1,h2,h3,h4,h⟩ k;show#[d,e,h3,h4,h1.rep m r1,h2.rep m r2,k _ M _ H h (aS.refl H) m WR.v]
instance {r r':R2}{t u s:TE}{a b c:WE}{w w':nB} [ir:IR K r w] [ir':IR K r' w'] [ia:IE K t a] [ib:IE K u b] [ic:IE K s c]:IE K (Et r r' t u s) (Ea w w' a b c) where
 imp :=λρ M σ H q Q o h k=>ia.imp ρ M σ H _ _ o h λx M1 v H1 h1 t1 m1 r1=>ib.imp ρ M1 σ H1 _ _ (o.mv t1 m1) h1 λy M2 u H2 h2 t2 m2 r2=>ir.imp x y v u M2 H2 _ _ m2 (r1.ts t2) r2 h2 λz M3 v3 H3 ⟨kk,e,h3⟩ t3 m3 r3=>by
  subst e;exact#[kk,r3.eq,?_];cases kk with
  | true=>simp![bJ] at h3 ⊢;show ic.imp ρ M3 σ H3 _ _ (o.mv ((t1.trans t2).trans t3) m3) h3 λy4 M4 v4 H4 h4 t4 m4 r4=>ir'.imp y y4 u v4 M4 H4 _ _ m4 (r2.ts (t3.trans t4)) r4 h4 λz5 M5 v5 H5 h5 t5 m5 r5=>k z5 M5 v5 H5 h5 ((((t1.trans t2).trans t3).trans t4).trans t5) m5 r5
  | false=>simp![av,bp] at h3 ⊢;show k _ M3 _ H3 h3 ((t1.trans t2).trans t3) m3 WR.v
def wIn (Qn:Bool):nB:=λx y M q=>bX λ(z:V) (l:cz V)=>d9 (x= .v z) (y= .tup (l.map .v) \/ ∃a,y=wr a /\ M a=some (.lst (l.map .v))) (i6 z=true) (l.all i6=true) (q (wb (if Qn then !DJ z l else DJ z l)) M)
theorem bW.vals {H:Hp}: ∀ {l us:cz V},bW K H (l.map .v) us ->us=l
 | [],us,h=>by simpa only[bL,bW] using h
 | n::r,vs,h=>by simp![az,bW] at h;let⟨v,t,rfl,h1,h2⟩:=h;rw[bW.vals h2,h1.eq]
instance {Qn:Bool}:IR K (Vk K Qn) (wIn Qn) where
 imp :=by rintro x y v u M H q Q m r1 r2 ⟨z,l,rfl,hy,h1,h2,h⟩ k;cases r1.eq;obtain rfl | ⟨a,rfl,ha⟩:=hy;let⟨a,vs,rfl,hv,rr⟩:=r2.tup;cases rr.vals;show#[a,l,rfl, .inr hv,h1,h2,k _ M _ H h (aS.refl H) m WR.v];cases r2.eq;let⟨vs,hv,rr⟩:=m a _ ha;cases rr.vals;show#[a,l,rfl, .inl (fh.of hv),h1,h2,k _ M _ H h (aS.refl H) m WR.v]
def DW:yi:=λxs M q=>dY λ(d:dw) (kvs:cz (bH×W)) (ks:cz Int)=>d9 (xs= [wr d]) (M d=some (.dK kvs)) (kvs.map (·.1)=ks.map Sum.inl) (ks.length<=sizeLine) (∀ (p:dw) (ns:cz Int),M p=none ->ns.Perm ks ->ns.Pairwise (· <= ·) ->q (wr p) (um M p (.lst (ns.map wi))))
instance:IC K xc DW where
 imp:=by rintro xs v M H q Q m r1 ⟨d,kvs,ks,rfl,hd,hk,hl,h⟩ k;let⟨v,rfl,r⟩:=r1.one;cases r.eq;let⟨vs,hv,rr⟩:=m d _ hd;show#[d,vs,ks,rfl,hv,by rw[rr.keys];show hk,hl,λp ns hp h1 h2=>k _ _ _ _ (h p ns (m.fresh hp) h1 h2) (L2.dP.ts (bF hp)) (m.sN hp (bW.ofInts ns)) WR.v]
end
end WL
namespace WL
open PySem L2
theorem Ul {α:Type}{a:α}{l:cz α}:kZ (a::l) 0=some a:=nn (j:=0) (by rfl)
theorem aez {α:Type}{a b:α}{l:cz α}:kZ (a::b::l) 1=some b:=nn (j:=1) (by rfl)
theorem aey {α:Type}{a b c:α}{l:cz α}:kZ (a::b::c::l) 2=some c:=nn (j:=2) (by rfl)
theorem aex {α:Type}{a b c d:α}{l:cz α}:kZ (a::b::c::d::l) 3=some d:=nn (j:=3) (by rfl)
def aer {n:Nat}:yG (n+1+1) 1=some 1:=by unfold yG;rw[aj ∅,aj ∅];rfl
def aeq {n:Nat}:yG (n+1+1+1) 2=some 2:=by unfold yG;rw[aj ∅,aj ∅];rfl
def aep {n:Nat}:yG (n+1+1+1+1) 3=some 3:=by unfold yG;rw[aj ∅,aj ∅];rfl
def qh {α:Type}{l:cz α}{i:Int}{a:α}(h0:0<=i)(h:l[i.toNat]? =some a):kZ l i=some a:=by have e:((i.toNat:Nat):Int)=i:= ∅;rw[<- e];show nn h
theorem fK {M:Mp}{P:Mp ->Prop}(h:P M): ∃M0,Sm M0 M /\ P M0:=#[M,Sm.refl M,h]
def NB (d:dw)(M M':Mp):Prop:= ∀b,b≠d ->M' b=M b
theorem NB.refl (d:dw)(M:Mp):NB d M M:=λ_ _=>rfl
theorem NB.trans {d:dw}{M M1 M2:Mp}(a:NB d M M1)(b:NB d M1 M2):NB d M M2:=λc n=>(b c n).trans (a c n)
theorem NB.put {d:dw}{M:Mp}{o:MO}:NB d M (um M d o):=λb n=>aT n
def Dr (M:Mp)(d l:dw):Prop:=gs λ(ns:cz Int) (i c s:Int)=>eZ (M d=some (.lst [wr l,wi i,wi c,wi s])) (M l=some (.lst (ns.map wi))) (0<=i) (d≠l)
def Dr.put {M:Mp}{d l p:dw}{o:MO}(h:Dr M d l)(hp:M p=none):Dr (um M p o) d l:=by let⟨ns,i,c,s,h1,h2,h3,h4⟩:=h;show#[ns,i,c,s,by rw[aT (cR h1 hp)];show h1,by rw[aT (cR h2 hp)];show h2,h3,h4]
def Dr.NE {M:Mp}{d l p:dw}{o:MO}(h:Dr M d l)(hd:p≠d)(hl:p≠l):Dr (um M p o) d l:=by let⟨ns,i,c,s,h1,h2,h3,h4⟩:=h;show#[ns,i,c,s,by rw[aT hd.symm];show h1,by rw[aT hl.symm];show h2,h3,h4]
def Dr.ne {M:Mp}{d l p:dw}(h:Dr M d l)(hp:M p=none):p≠d /\ p≠l:=by let⟨ns,i,c,s,h1,h2,h3,h4⟩:=h;show#[(cR h1 hp).symm,(cR h2 hp).symm]
def du (q:Int×Int):W:= .tup [wi q.1,wi q.2]
def fO (l:cz (Int×Int)):W:= .tup (l.map du)
def pairs_at {l:cz (Int×Int)}{i:Nat}{x:W}(h:(l.map du)[i]? =some x): ∃q,l[i]? =some q /\ x=du q:=by
 rw[aG] at h;cases e:l[i]? with
 | none=>rw[e] at h;cases h
 | some q=>rw[e] at h;cases h;show#[q,rfl,rfl]
def F7 {l:cz Int}{i:Nat}{x:W}(h:(l.map wi)[i]? =some x): ∃n,l[i]? =some n /\ x=wi n:=by
 rw[aG] at h;cases e:l[i]? with
 | none=>rw[e] at h;cases h
 | some q=>rw[e] at h;cases h;show#[q,rfl,rfl]
def qA {lo:Int}{n i:Nat}{x:W}(h:(gJ lo n)[i]? =some x):i<n /\ x=wi (lo+i):=by unfold gJ at h;rw[aG] at h;by_cases hi:i<n;rw[List.getElem?_range hi] at h;cases h;show#[hi,rfl];rw[List.getElem?_eq_none ⇑hi] at h;cases h
def nN {lo:Int}{n:Nat}:(gJ lo n).length=n:=by simp[gJ]
def lstK (o:cT MO)(k:cz W ->Prop):Prop:= ∃l,o=some (.lst l) /\ k l
def iO (o:cT MO)(k:cz (bH×W) ->Prop):Prop:= ∃l,o=some (.dK l) /\ k l
def vm {α:Type}(o:cT α)(k:α ->Prop):Prop:= ∃a,o=some a /\ k a
def dI (C Q:Prop):Prop:=C /\ Q
def gh (b:Bool)(A B:Prop):Prop:=if b=true then A else B
def zm (M:Mp)(k:dw ->Prop):Prop:= ∀p,M p=none ->k p
def yc (p:e9)(xs:cz W)(M:Mp)(q:WK):Prop:=p xs M q
def VG (x:W)(M:Mp)(q:Bool ->Mp ->Prop):Prop:= ∃k,x=wb k /\ q k M
def eC (x:W)(k:dw ->Prop):Prop:= ∃a,x=wr a /\ k a
def tupK (x:W)(k:cz W ->Prop):Prop:= ∃l,x= .tup l /\ k l
def Nl (M:Mp)(x:W)(k:Bool ->Prop):Prop:= ∃b,Is M x b /\ k b
def mh (x:W)(k:bH ->Prop):Prop:= ∃y,x=gO y /\ k y
def TJ (xs:cz W)(keep:Mp ->Prop)(g:WG)(b:WS)(D:dA)(ρ:b7)(M1:Mp):Prop:= ∃I:Nat ->b7 ->Mp ->Prop,eZ (I 0 ρ M1) (∀i ρ M,i<=xs.length ->I i ρ M ->keep M) (∀i x ρ M,xs[i]? =some x ->I i ρ M ->g x ρ M λρ2 M2=>b {D with nx:=I (i+1),ct:=I (i+1),bk:=D.nx} ρ2 M2) (∀ρ M,I xs.length ρ M ->D.nx ρ M)
def x_ (xs:cz W)(keep:Mp ->Prop)(own:Nat)(fr:cz Nat)(g:WG)(c:WT)(el:WE)(ρ:b7)(M1:Mp)(q:WK):Prop:=xs.length<=sizeLine /\ ∀p,M1 p=none -> ∃I:Nat ->cz W ->Mp ->Prop,eZ (I 0 [] (um M1 p (.lst []))) (∀i ys M,i<=xs.length ->I i ys M ->keep M /\ M p=some (.lst ys) /\ ys.length<=i) (∀i x ys M,xs[i]? =some x ->I i ys M ->g x (m8 own fr ρ) M λρ2 M2=>c ρ2 M2 λb M3=>if b=true then el ρ2 M3 λy M4=>M4 p=some (.lst ys) /\ I (i+1) (ys++ [y]) (um M4 p (.lst (ys++ [y]))) else I (i+1) ys M3) (∀ys M,I xs.length ys M ->q (wr p) M)
def DQ (c:WT)(b:WS)(D:dA)(ρ:b7)(M:Mp):Prop:=y8 c b D ρ M
section
variable {M:Mp}{ρ:b7}{q:WK}{a b c:WE}{D:dA}
def X3 {l:cz W}{k:cz W ->Prop}:lstK (some (.lst l)) k=k l:=by apply propext;symm;(· rintro⟨_,h,k⟩;cases h;show k);(· intro h;show#[_,rfl,h])
def adN {l:cz (bH×W)}{k:cz (bH×W) ->Prop}:iO (some (.dK l)) k=k l:=by apply propext;symm;(· rintro⟨_,h,k⟩;cases h;show k);(· intro h;show#[_,rfl,h])
def XD {α:Type}{x:α}{k:α ->Prop}:vm (some x) k=k x:=by apply propext;symm;(· rintro⟨_,h,k⟩;cases h;show k);(· intro h;show#[_,rfl,h])
def ad3 {Q:Prop}:dI True Q=Q:=by simp[dI]
def Yb {A B:Prop}:gh true A B=A:=by simp[gh]
def Yc {A B:Prop}:gh false A B=B:=by simp[gh]
def aet {k:Bool}{q:Bool ->Mp ->Prop}:VG (.v (.bl k)) M q=q k M:=by apply propext;symm;(· rintro⟨_,h,k⟩;cases h;show k);(· intro h;show#[_,rfl,h])
def Xw {x:dw}{k:dw ->Prop}:eC (.v (.ref x)) k=k x:=by apply propext;symm;(· rintro⟨_,h,k⟩;cases h;show k);(· intro h;show#[_,rfl,h])
def W9 {x:cz W}{k:cz W ->Prop}:tupK (.tup x) k=k x:=by apply propext;symm;(· rintro⟨_,h,k⟩;cases h;show k);(· intro h;show#[_,rfl,h])
def Xa {i:Int}{k:Bool ->Prop}:Nl M (.v (.int i)) k=k (i !=0):=by apply propext;symm;(· rintro⟨_,h,z⟩;cases h;show z);(· intro h;show#[_,rfl,h])
def W_ {l:cz W}{k:Bool ->Prop}:Nl M (.tup l) k=k (!l.isEmpty):=by apply propext;symm;(· rintro⟨_,h,z⟩;cases h;show z);(· intro h;show#[_,rfl,h])
def X8 {i:Int}{k:bH ->Prop}:mh (.v (.int i)) k=k (.inl i):=by apply propext;symm;(· rintro⟨y,h,z⟩;cases y<;>cases h;show z);(· intro h;show#[.inl i,rfl,h])
def X7 {i:Str}{k:bH ->Prop}:mh (.v (.str i)) k=k (.inr i):=by apply propext;symm;(· rintro⟨y,h,z⟩;cases y<;>cases h;show z);(· intro h;show#[.inr i,rfl,h])
theorem Wr {x:W}{r:b7}:eB 0 (some x::r) M q=q x M:=rfl
theorem Wq {x0:cT W}{x:W}{r:b7}:eB 1 (x0::some x::r) M q=q x M:=rfl
theorem Wp {x0 x1:cT W}{x:W}{r:b7}:eB 2 (x0::x1::some x::r) M q=q x M:=rfl
theorem Wo {x0 x1 x2:cT W}{x:W}{r:b7}:eB 3 (x0::x1::x2::some x::r) M q=q x M:=rfl
theorem Wn {x0 x1 x2 x3:cT W}{x:W}{r:b7}:eB 4 (x0::x1::x2::x3::some x::r) M q=q x M:=rfl
theorem Wm {x0 x1 x2 x3 x4:cT W}{x:W}{r:b7}:eB 5 (x0::x1::x2::x3::x4::some x::r) M q=q x M:=rfl
theorem Wl {x0 x1 x2 x3 x4 x5:cT W}{x:W}{r:b7}:eB 6 (x0::x1::x2::x3::x4::x5::some x::r) M q=q x M:=rfl
theorem Wj {x0 x1 x2 x3 x4 x5 x6:cT W}{x:W}{r:b7}:eB 7 (x0::x1::x2::x3::x4::x5::x6::some x::r) M q=q x M:=rfl
theorem Wi {x0 x1 x2 x3 x4 x5 x6 x7:cT W}{x:W}{r:b7}:eB 8 (x0::x1::x2::x3::x4::x5::x6::x7::some x::r) M q=q x M:=rfl
theorem Wh {x0 x1 x2 x3 x4 x5 x6 x7 x8:cT W}{x:W}{r:b7}:eB 9 (x0::x1::x2::x3::x4::x5::x6::x7::x8::some x::r) M q=q x M:=rfl
theorem UW {x0 x1 x2 x3 x4 x5 x6 x7 x8 x9:cT W}{x:W}{r:b7}:eB 10 (x0::x1::x2::x3::x4::x5::x6::x7::x8::x9::some x::r) M q=q x M:=rfl
theorem UV {x0 x1 x2 x3 x4 x5 x6 x7 x8 x9 pK:cT W}{x:W}{r:b7}:eB 11 (x0::x1::x2::x3::x4::x5::x6::x7::x8::x9::pK::some x::r) M q=q x M:=rfl
theorem UU {x0 x1 x2 x3 x4 x5 x6 x7 x8 x9 pK qi:cT W}{x:W}{r:b7}:eB 12 (x0::x1::x2::x3::x4::x5::x6::x7::x8::x9::pK::qi::some x::r) M q=q x M:=rfl
theorem UT {x0 x1 x2 x3 x4 x5 x6 x7 x8 x9 pK qi sD:cT W}{x:W}{r:b7}:eB 13 (x0::x1::x2::x3::x4::x5::x6::x7::x8::x9::pK::qi::sD::some x::r) M q=q x M:=rfl
theorem US {x0 x1 x2 x3 x4 x5 x6 x7 x8 x9 pK qi sD uL:cT W}{x:W}{r:b7}:eB 14 (x0::x1::x2::x3::x4::x5::x6::x7::x8::x9::pK::qi::sD::uL::some x::r) M q=q x M:=rfl
theorem UR {x0 x1 x2 x3 x4 x5 x6 x7 x8 x9 pK qi sD uL ww:cT W}{x:W}{r:b7}:eB 15 (x0::x1::x2::x3::x4::x5::x6::x7::x8::x9::pK::qi::sD::uL::ww::some x::r) M q=q x M:=rfl
theorem UQ {x0 x1 x2 x3 x4 x5 x6 x7 x8 x9 pK qi sD uL ww yL:cT W}{x:W}{r:b7}:eB 16 (x0::x1::x2::x3::x4::x5::x6::x7::x8::x9::pK::qi::sD::uL::ww::yL::some x::r) M q=q x M:=rfl
theorem UP {x0 x1 x2 x3 x4 x5 x6 x7 x8 x9 pK qi sD uL ww yL BU:cT W}{x:W}{r:b7}:eB 17 (x0::x1::x2::x3::x4::x5::x6::x7::x8::x9::pK::qi::sD::uL::ww::yL::BU::some x::r) M q=q x M:=rfl
theorem UO {x0 x1 x2 x3 x4 x5 x6 x7 x8 x9 pK qi sD uL ww yL BU DO:cT W}{x:W}{r:b7}:eB 18 (x0::x1::x2::x3::x4::x5::x6::x7::x8::x9::pK::qi::sD::uL::ww::yL::BU::DO::some x::r) M q=q x M:=rfl
theorem UN {x0 x1 x2 x3 x4 x5 x6 x7 x8 x9 pK qi sD uL ww yL BU DO Im:cT W}{x:W}{r:b7}:eB 19 (x0::x1::x2::x3::x4::x5::x6::x7::x8::x9::pK::qi::sD::uL::ww::yL::BU::DO::Im::some x::r) M q=q x M:=rfl
theorem UM {x0 x1 x2 x3 x4 x5 x6 x7 x8 x9 pK qi sD uL ww yL BU DO Im MN:cT W}{x:W}{r:b7}:eB 20 (x0::x1::x2::x3::x4::x5::x6::x7::x8::x9::pK::qi::sD::uL::ww::yL::BU::DO::Im::MN::some x::r) M q=q x M:=rfl
theorem UL {x0 x1 x2 x3 x4 x5 x6 x7 x8 x9 pK qi sD uL ww yL BU DO Im MN QG:cT W}{x:W}{r:b7}:eB 21 (x0::x1::x2::x3::x4::x5::x6::x7::x8::x9::pK::qi::sD::uL::ww::yL::BU::DO::Im::MN::QG::some x::r) M q=q x M:=rfl
theorem UK {x0 x1 x2 x3 x4 x5 x6 x7 x8 x9 pK qi sD uL ww yL BU DO Im MN QG We:cT W}{x:W}{r:b7}:eB 22 (x0::x1::x2::x3::x4::x5::x6::x7::x8::x9::pK::qi::sD::uL::ww::yL::BU::DO::Im::MN::QG::We::some x::r) M q=q x M:=rfl
theorem UJ {x0 x1 x2 x3 x4 x5 x6 x7 x8 x9 pK qi sD uL ww yL BU DO Im MN QG We x22:cT W}{x:W}{r:b7}:eB 23 (x0::x1::x2::x3::x4::x5::x6::x7::x8::x9::pK::qi::sD::uL::ww::yL::BU::DO::Im::MN::QG::We::x22::some x::r) M q=q x M:=rfl
theorem aeD {x:W}:wC x ρ M q=q x M:=rfl
theorem aec {r:nB}:QT r a b ρ M q=a ρ M λx M1=>b ρ M1 λy M2=>r x y M2 q:=rfl
theorem ad' {r:W ->Mp ->WK ->Prop}:wUn r a ρ M q=a ρ M λx M1=>r x M1 q:=rfl
def aeC {C:Int ->Int ->Prop}{g:Int ->Int ->V}{i j:Int}:wI C g (.v (.int i)) (.v (.int j)) M q=dI (C i j) (q (.v (g i j)) M):=by apply propext;symm;(· rintro⟨_,_,h1,h2,k⟩;cases h1;cases h2;show k);(· intro h;show#[_,_,rfl,rfl,h])
def aeh {g:Int ->Int ->V}{i j:Int}:WD g (.v (.int i)) (.v (.int j)) M q=q (.v (g i j)) M:=by apply propext;symm;(· rintro⟨_,_,h1,h2,k⟩;cases h1;cases h2;show k);(· intro h;show#[_,_,rfl,rfl,h])
def aeB {g:Int ->V}{i:Int}:wU g (.v (.int i)) M q=q (.v (g i)) M:=by apply propext;symm;(· rintro⟨_,h,k⟩;cases h;show k);(· intro h;show#[_,rfl,h])
def aek {i j:Int}:U1 (.v (.int i)) (.v (.int j)) M q=q (wb (decide (i=j))) M:=by apply propext;symm;(· rintro⟨_,_,h1,h2,_,k⟩;cases h1;cases h2;simpa using k);(· intro h;show#[_,_,rfl,rfl,rfl, ⇑h])
def aed {i j:Int}:QX (.v (.int i)) (.v (.int j)) M q=q (wb (!decide (i=j))) M:=by apply propext;symm;(· rintro⟨_,_,h1,h2,_,k⟩;cases h1;cases h2;simpa using k);(· intro h;show#[_,_,rfl,rfl,rfl, ⇑h])
def aej {i j:Str}:U1 (.v (.str i)) (.v (.str j)) M q=q (wb (decide (i=j))) M:=by apply propext;symm;(· rintro⟨_,_,h1,h2,_,k⟩;cases h1;cases h2;simpa using k);(· intro h;show#[_,_,rfl,rfl,rfl, ⇑h])
def QW {i j:Str}:QX (.v (.str i)) (.v (.str j)) M q=q (wb (!decide (i=j))) M:=by apply propext;symm;(· rintro⟨_,_,h1,h2,_,k⟩;cases h1;cases h2;simpa using k);(· intro h;show#[_,_,rfl,rfl,rfl, ⇑h])
theorem UX {q:Bool ->Mp ->Prop}:DU a ρ M q=a ρ M λx M1=>VG x M1 q:=rfl
theorem WZ {a b:WT}{q:Bool ->Mp ->Prop}:Ra a b ρ M q=a ρ M λc M1=>gh c (b ρ M1 q) (q false M1):=rfl
theorem aeb {a b:WT}{q:Bool ->Mp ->Prop}:wOr a b ρ M q=a ρ M λc M1=>gh c (q true M1) (b ρ M1 q):=rfl
theorem Wu {a:WT}{q:Bool ->Mp ->Prop}:QU a ρ M q=a ρ M λc M1=>q (!c) M1:=rfl
theorem U7:Lk a b ρ M q=a ρ M λx M1=>VG x M1 λc M1=>gh c (b ρ M1 q) (q (wb false) M1):=rfl
theorem aeg {c:WT}:wIf c a b ρ M q=c ρ M λc M1=>gh c (a ρ M1 q) (b ρ M1 q):=rfl
theorem Q8 {r r':nB}:Ea r r' a b c ρ M q=a ρ M λx M1=>b ρ M1 λy M2=>r x y M2 λz M3=>VG z M3 λk M3=>gh k (c ρ M3 λy' M4=>r' y y' M4 q) (q (wb false) M3):=rfl
theorem Wv {q:cz W ->Mp ->Prop}:QV ρ M q=q [] M:=rfl
theorem U4 {r:WA}{q:cz W ->Mp ->Prop}:Lh a r ρ M q=a ρ M λx M1=>r ρ M1 λxs M2=>q (x::xs) M2:=rfl
theorem Ws {a:WA}:QK a ρ M q=a ρ M λxs M1=>dI (xs.length<=sizeLine) (q (.tup xs) M1):=rfl
theorem Ww {a:WA}:QZ a ρ M q=a ρ M λxs M1=>dI (xs.length<=sizeLine) (zm M1 λp=>q (wr p) (um M1 p (.lst xs))):=rfl
def WC {x:dw}{i:Int}:Q2 (.v (.ref x)) (.v (.int i)) M q=lstK (M x) λl=>vm (kZ l i) λu=>q u M:=by apply propext;symm;(· rintro⟨_,l,_,u,h1,h2,h3,h4,k⟩;cases h1;cases h2;show#[l,h3,u,h4,k]);(· rintro⟨l,h3,u,h4,k⟩;show#[_,l,_,u,rfl,rfl,h3,h4,k])
def Wz {l:cz W}{i:Int}:MT (.tup l) (.v (.int i)) M q=vm (kZ l i) λu=>q u M:=by apply propext;symm;(· rintro⟨_,_,u,h1,h2,h4,k⟩;cases h1;cases h2;show#[u,h4,k]);(· rintro⟨u,h4,k⟩;show#[_,_,u,rfl,rfl,h4,k])
theorem P' {q:cT Int ->Mp ->Prop}:Ac ρ M q=q none M:=rfl
def CK (x:W)(k:Int ->Prop):Prop:= ∃i,x=wi i /\ k i
def Ye {i:Int}{k:Int ->Prop}:CK (.v (.int i)) k=k i:=by apply propext;symm;(· rintro⟨_,h,k⟩;cases h;show k);(· intro h;show#[_,rfl,h])
theorem UZ {q:cT Int ->Mp ->Prop}:Lc a ρ M q=a ρ M λx M1=>CK x λi=>q (some i) M1:=rfl
theorem aea {r:Uq}{lo hi:WO}:wSl r a lo hi ρ M q=a ρ M λx M1=>lo ρ M1 λl M2=>hi ρ M2 λu M3=>r x l u M3 q:=rfl
theorem ael {r:yi}{a:WA}:wCB r a ρ M q=a ρ M λxs M1=>r xs M1 q:=rfl
theorem U6 {p:e9}{a:WA}:Lj p a ρ M q=a ρ M λxs M1=>yc p xs M1 q:=rfl
def Wx {x:dw}:Q0 [.v (.ref x)] M q=lstK (M x) λl=>q (wi l.length) M:=by apply propext;symm;(· rintro(⟨_,l,h1,h2,k⟩ | ⟨_,h1,_⟩);(· cases h1;show#[l,h2,k]);cases h1);(· rintro⟨l,h3,k⟩;show .inl #[_,l,rfl,h3,k])
def W1 {i:Int}:Rb [.v (.int i)] M q=q (wi (if i<0 then -i else i)) M:=by apply propext;symm;(· rintro⟨_,h,k⟩;cases h;show k);(· intro h;show#[_,rfl,h])
def P_ {l:cz W}:Ad [.tup l] M q=zm M λp=>q (wr p) (um M p (.lst l)):=by apply propext;symm;(· rintro⟨l,⟨_,h1,h2⟩ | h1,k⟩;(· cases h1);cases h1;show k);(· intro k;show#[l, .inr rfl,k])
def MP {x:dw}:wy [.v (.ref x)] M q=lstK (M x) λl=>q (.tup l) M:=by apply propext;symm;(· rintro⟨l,⟨_,h1,h2⟩ | h1,k⟩;(· cases h1;show#[l,h2,k]);cases h1);(· rintro⟨l,h3,k⟩;show#[l, .inl #[_,rfl,h3],k])
theorem Ml {K:gg}:W.kitOne K (.type "int") (.type "int")=some true:=rfl
theorem JY {K:gg}:W.kitOne K (.type "int") (.type "bool")=some false:=rfl
theorem L_ {K:gg}:W.kitOne K (.type "int") (.type "str")=some false:=rfl
theorem HM {K:gg}:W.kitOne K (.type "int") (.type "tuple")=some false:=rfl
theorem JX {K:gg}:W.kitOne K (.type "int") (.type "list")=some false:=rfl
theorem J0 {K:gg}:W.kitOne K (.type "bool") (.type "int")=some true:=rfl
theorem HP {K:gg}:W.kitOne K (.type "bool") (.type "bool")=some true:=rfl
theorem JZ {K:gg}:W.kitOne K (.type "bool") (.type "str")=some false:=rfl
theorem FQ {K:gg}:W.kitOne K (.type "bool") (.type "tuple")=some false:=rfl
theorem HN {K:gg}:W.kitOne K (.type "bool") (.type "list")=some false:=rfl
theorem L9 {K:gg}:W.kitOne K (.type "str") (.type "int")=some false:=rfl
theorem JU {K:gg}:W.kitOne K (.type "str") (.type "bool")=some false:=rfl
theorem L8 {K:gg}:W.kitOne K (.type "str") (.type "str")=some true:=rfl
theorem HJ {K:gg}:W.kitOne K (.type "str") (.type "tuple")=some false:=rfl
theorem JT {K:gg}:W.kitOne K (.type "str") (.type "list")=some false:=rfl
theorem CD {K:gg}:W.kitOne K (.type "NoneType") (.type "int")=some false:=rfl
theorem A2 {K:gg}:W.kitOne K (.type "NoneType") (.type "bool")=some false:=rfl
theorem CC {K:gg}:W.kitOne K (.type "NoneType") (.type "str")=some false:=rfl
theorem zx {K:gg}:W.kitOne K (.type "NoneType") (.type "tuple")=some false:=rfl
theorem A1 {K:gg}:W.kitOne K (.type "NoneType") (.type "list")=some false:=rfl
theorem HI {K:gg}:W.kitOne K (.type "tuple") (.type "int")=some false:=rfl
theorem FO {K:gg}:W.kitOne K (.type "tuple") (.type "bool")=some false:=rfl
theorem HH {K:gg}:W.kitOne K (.type "tuple") (.type "str")=some false:=rfl
theorem DI {K:gg}:W.kitOne K (.type "tuple") (.type "tuple")=some true:=rfl
theorem FN {K:gg}:W.kitOne K (.type "tuple") (.type "list")=some false:=rfl
theorem JW {K:gg}:W.kitOne K (.type "list") (.type "int")=some false:=rfl
theorem HL {K:gg}:W.kitOne K (.type "list") (.type "bool")=some false:=rfl
theorem JV {K:gg}:W.kitOne K (.type "list") (.type "str")=some false:=rfl
theorem FP {K:gg}:W.kitOne K (.type "list") (.type "tuple")=some false:=rfl
theorem HK {K:gg}:W.kitOne K (.type "list") (.type "list")=some true:=rfl
def aem {r:WM}{b:WA}:WW r a b ρ M q=a ρ M λx M1=>eC x λp=>lstK (M1 p) λ_=>b ρ M1 λxs M2=>r x xs M2 q:=by unfold WW IsL eC lstK;congr 1;funext x M1;apply propext;symm;(· rintro⟨⟨p,l,h1,h2⟩,k⟩;show#[p,h1,l,h2,k]);(· rintro⟨p,h1,l,h2,k⟩;show#[#[p,l,h1,h2],k])
def Qc {x:dw}{y:W}:Ae (.v (.ref x)) [y] M q=lstK (M x) λl=>dI (l.length<sizeLine) (q wn (um M x (.lst (l++ [y])))):=by apply propext;symm;(· rintro⟨_,l,_,h1,h2,h3,h4,k⟩;cases h1;cases h2;show#[l,h3,h4,k]);(· rintro⟨l,h3,h4,k⟩;show#[_,l,_,rfl,rfl,h3,h4,k])
def WU {x y:dw}:Q9 (.v (.ref x)) (.v (.ref y)) M q=lstK (M x) λl=>lstK (M y) λl'=>dI (l.length+l'.length<=sizeLine) (zm M λp=>q (wr p) (um M p (.lst (l++l')))):=by apply propext;symm;(· rintro⟨_,_,l,l',h1,h2,h3,h4,h5,k⟩;cases h1;cases h2;show#[l,h3,l',h4,h5,k]);(· rintro⟨l,h3,l',h4,h5,k⟩;show#[_,_,l,l',rfl,rfl,h3,h4,h5,k])
theorem QL {q:Bool ->Mp ->Prop}:DT a ρ M q=a ρ M λx M1=>Nl M1 x λk=>q k M1:=rfl
theorem U2:Lg ρ M q=zm M λp=>q (wr p) (um M p (.dK [])):=rfl
def U3:D9 a b ρ M q=a ρ M λx M1=>b ρ M1 λy M2=>eC x λp=>mh y λk=>iO (M2 p) λkvs=>vm (fu kvs k) λz=>q z M2:=by unfold D9 eC mh iO vm;congr 1;funext x M1;congr 1;funext y M2;apply propext;symm;(· rintro⟨p,kvs,k,z,h1,h2,h3,h4,h⟩;show#[p,h1,k,h3,kvs,h2,z,h4,h]);(· rintro⟨p,h1,k,h3,kvs,h2,z,h4,h⟩;show#[p,kvs,k,z,h1,h2,h3,h4,h])
def WN:MY a b ρ M q=a ρ M λy M1=>b ρ M1 λx M2=>eC x λp=>mh y λk=>iO (M2 p) λkvs=>q (wb (fu kvs k).isSome) M2:=by unfold MY eC mh iO;congr 1;funext x M1;congr 1;funext y M2;apply propext;symm;(· rintro⟨p,kvs,k,h1,h2,h3,h⟩;show#[p,h1,k,h3,kvs,h2,h]);(· rintro⟨p,h1,k,h3,kvs,h2,h⟩;show#[p,kvs,k,h1,h2,h3,h])
def Qb:uO a b ρ M q=a ρ M λy M1=>b ρ M1 λx M2=>eC x λp=>mh y λk=>iO (M2 p) λkvs=>q (wb (!(fu kvs k).isSome)) M2:=by unfold uO eC mh iO;congr 1;funext x M1;congr 1;funext y M2;apply propext;symm;(· rintro⟨p,kvs,k,h1,h2,h3,h⟩;show#[p,h1,k,h3,kvs,h2,h]);(· rintro⟨p,h1,k,h3,kvs,h2,h⟩;show#[p,kvs,k,h1,h2,h3,h])
def Q6:yO a b c ρ M q=a ρ M λx M1=>eC x λp=>iO (M1 p) λ_=>b ρ M1 λy M2=>c ρ M2 λz M3=>mh y λk=>iO (M3 p) λkvs=>q ((fu kvs k).getD z) M3:=by
 unfold yO eC mh iO;congr 1;funext x M1;apply propext;symm;rintro⟨p,h1,⟨kvs,h2⟩,h⟩;exact#[p,h1,kvs,h2,?_];have e:(λy M2=>c ρ M2 λz M3=>bX λkvs k=>cg (M3 p=some (.dK kvs)) (y=gO k) (q ((fu kvs k).getD z) M3))=(λy M2=>c ρ M2 λz M3=> ∃k,y=gO k /\ ∃kvs,M3 p=some (.dK kvs) /\ q ((fu kvs k).getD z) M3):=by funext y M2;congr 1;funext z M3;apply propext;symm;rintro⟨a,b,c,d,e⟩;show#[b,d,a,c,e];rintro⟨b,d,a,c,e⟩;show#[a,b,c,d,e]
 rw[<- e];show h;rintro⟨p,h1,kvs,h2,h⟩;exact#[p,h1,#[kvs,h2],?_];have e:(λy M2=>c ρ M2 λz M3=>bX λkvs k=>cg (M3 p=some (.dK kvs)) (y=gO k) (q ((fu kvs k).getD z) M3))=(λy M2=>c ρ M2 λz M3=> ∃k,y=gO k /\ ∃kvs,M3 p=some (.dK kvs) /\ q ((fu kvs k).getD z) M3):=by funext y M2;congr 1;funext z M3;apply propext;symm;rintro⟨a,b,c,d,e⟩;show#[b,d,a,c,e];rintro⟨b,d,a,c,e⟩;show#[a,b,c,d,e]
 rw[e];show h
theorem cQ {a b:WS}:IP a b D ρ M=a {nx:=b D,rt:=D.rt,bk:=D.bk,ct:=D.ct} ρ M:=rfl
theorem Ve:LD D ρ M=D.nx ρ M:=rfl
theorem Vh:LF a D ρ M=a ρ M λ_ M1=>D.nx ρ M1:=rfl
theorem Xn:RS a D ρ M=a ρ M D.rt:=rfl
theorem aen {c:WT}{a b:WS}:Vf c a b D ρ M=c ρ M λk M1=>gh k (a D ρ M1) (b D ρ M1):=rfl
theorem Xq {g:WG}:RY a g D ρ M=a ρ M λx M1=>g x ρ M1 D.nx:=rfl
theorem Xp {i:Nat}{r:nB}:RX i a r D ρ M=eB i ρ M λx M=>a ρ M λy M1=>r x y M1 λz M2=>D.nx (ρ.set i (some z)) M2:=rfl
def RV:y9 a b c D ρ M=c ρ M λz M1=>a ρ M1 λx M2=>b ρ M2 λy M3=>eC x λp=>mh y λk=>iO (M3 p) λkvs=>dI (kvs.length<sizeLine) (D.nx ρ (um M3 p (.dK (l3 kvs k z)))):=by unfold y9 eC mh iO dI;congr 1;funext z M1;congr 1;funext x M2;congr 1;funext y M3;apply propext;symm;(· rintro⟨p,kvs,k,h1,h2,h3,h4,h⟩;show#[p,h1,k,h3,kvs,h2,h4,h]);(· rintro⟨p,h1,k,h3,kvs,h2,h4,h⟩;show#[p,kvs,k,h1,h2,h3,h4,h])
theorem Xo {it:WI}{g:WG}{b:WS}:RT it g b D ρ M=it ρ M λxs keep M1=>TJ xs keep g b D ρ M1:=rfl
theorem RQ {c:WT}{b:WS}:y8 c b D ρ M=DQ c b D ρ M:=rfl
theorem U9 {i:Nat}{x:W}{q:b7 ->Mp ->Prop}:Ln i x ρ M q=q (ρ.set i (some x)) M:=rfl
def W5 {q:b7 ->Mp ->Prop}:Nb [] ρ M q=q ρ M:=by simp[Nb]
def U' {a:WG}{b:KJ}{x:W}{r:cz W}{q:b7 ->Mp ->Prop}:Lo a b (x::r) ρ M q=a x ρ M λρ' M'=>b r ρ' M' q:=by apply propext;symm;(· rintro⟨_,_,h,k⟩;cases h;show k);(· intro h;show#[_,_,rfl,h])
def W3 {n:Nat}{a:KJ}{l:cz W}{q:b7 ->Mp ->Prop}:Rg n a (.tup l) ρ M q=dI (l.length=n) (a l ρ M q):=by apply propext;symm;(· rintro⟨_,h,k,l⟩;cases h;show#[k,l]);(· rintro⟨h,l⟩;show#[_,rfl,h,l])
theorem W4 {s:Hi}{x:W}{q:b7 ->Mp ->Prop}:Rh a b s x ρ M q=a ρ M λo M1=>b ρ M1 λi M2=>s o i x M2 λM3=>q ρ M3:=rfl
def UY {x:dw}{i:Int}{z:W}{q:Mp ->Prop}:Lb (.v (.ref x)) (.v (.int i)) z M q=lstK (M x) λl=>vm (yG l.length i) λj=>q (um M x (.lst (l.set j z))):=by apply propext;symm;(· rintro⟨_,l,_,j,h1,h2,h3,h4,k⟩;cases h1;cases h2;show#[l,h3,j,h4,k]);(· rintro⟨l,h3,j,h4,k⟩;show#[_,l,_,j,rfl,rfl,h3,h4,k])
def VF {q:cz W ->(Mp ->Prop) ->Mp ->Prop}:FU a ρ M q=a ρ M λx M1=>eC x λp=>lstK (M1 p) λl=>q l (λM'=>M' p=some (.lst l)) M1:=by unfold FU eC lstK;congr 1;funext x M1;apply propext;symm;(· rintro⟨p,l,h1,h2,h⟩;show#[p,h1,l,h2,h]);(· rintro⟨p,h1,l,h2,h⟩;show#[p,l,h1,h2,h])
theorem X_ {q:cz W ->(Mp ->Prop) ->Mp ->Prop}:SR a ρ M q=a ρ M λx M1=>tupK x λl=>q l (λ_=>True) M1:=rfl
def zh (xs:cz W)(k:W ->Prop):Prop:= ∃x,xs= [x] /\ k x
def XG {x:W}{k:W ->Prop}:zh [x] k=k x:=by apply propext;symm;(· rintro⟨_,h,k⟩;cases h;show k);(· intro h;show#[_,rfl,h])
def VE {a:WA}{q:cz W ->(Mp ->Prop) ->Mp ->Prop}:FT a ρ M q=a ρ M λxs M1=>zh xs λx=>CK x λj=>dI (-(2 ^ 62) <=j /\ j<2 ^ 62) (q (gJ 0 j.toNat) (λ_=>True) M1):=by unfold FT zh CK dI;congr 1;funext x M1;apply propext;symm;(· rintro⟨j,h1,h2,h3,h⟩;show#[_,h1,j,rfl,#[h2,h3],h]);(· rintro⟨_,h1,j,rfl,⟨h2,h3⟩,h⟩;show#[j,h1,h2,h3,h])
theorem U5 {it:WI}{own:Nat}{fr:cz Nat}{g:WG}{c:WT}{el:WE}:Li it own fr g c el ρ M q=it ρ M λxs keep M1=>x_ xs keep own fr g c el ρ M1 q:=rfl
theorem Wg {q:Bool ->Mp ->Prop}:QJ ρ M q=q true M:=rfl
end
def sl1:(1<=sizeLine)=True:=by rw[bY];decide
def Xl:(2<=sizeLine)=True:=by rw[bY];decide
def sl3:(3<=sizeLine)=True:=by rw[bY];decide
def sl4:(4<=sizeLine)=True:=by rw[bY];decide
def sl8:(8<=sizeLine)=True:=by rw[bY];decide
def sl0:(0<=sizeLine)=True:=by simp
def dN {c A B:Prop} [Decidable c](h1:c ->A)(h2:¬c ->B):gh (decide c) A B:=by unfold gh;by_cases h:c;rw[aj (b_ h)];show h1 h;rw[ah ⇑h];show h2 h
def OF {c A B:Prop} [Decidable c](h1:¬c ->A)(h2:c ->B):gh (!decide c) A B:=by unfold gh;by_cases h:c;rw[ah ⇑h];show h2 h;rw[aj ⇑h];show h1 h
def vE {b:Bool}{A B:Prop}(h1:b=true ->A)(h2:b=false ->B):gh b A B:=by
 unfold gh;cases b with
 | true=>rw[aj rfl];show h1 rfl
 | false=>rw[ah (by simp)];show h2 rfl
theorem lx {xs:cz W}{keep:Mp ->Prop}{M1:Mp}{own:Nat}{fr:cz Nat}{ρ:b7}{g:WG}{c:WT}{el:WE}{q:WK}(f:W ->cT W)(hz:xs.length<=sizeLine)(mn: ∀M,Sm M1 M ->keep M) (hs: ∀ (i:Nat) x,xs[i]? =some x -> ∀ (M:Mp) (N:cT W ->Mp ->Prop),Sm M1 M ->N (f x) M ->g x (m8 own fr ρ) M λρ2 M2=>c ρ2 M2 λb M3=>gh b (el ρ2 M3 λy M4=>N (some y) M4) (N none M3)) (hq: ∀p,M1 p=none ->q (wr p) (um M1 p (.lst (xs.filterMap f)))):x_ xs keep own fr g c el ρ M1 q:=Db f hz mn hs hq
end WL
namespace WL
def hold (f:b7 ->Mp ->Prop)(ρ:b7)(M:Mp):Prop:=f ρ M
theorem eV {f:b7 ->Mp ->Prop}{ρ:b7}{M:Mp}(h:f ρ M):hold f ρ M:=h
theorem dj {a b:WS}{D:dA}{ρ:b7}{M:Mp}:IP a b D ρ M=a {nx:=hold (b D),rt:=D.rt,bk:=D.bk,ct:=D.ct} ρ M:=rfl
theorem vH {c:WT}{a b R:WS}{D:dA}{ρ:b7}{M:Mp}(Mid:b7 ->Mp ->Prop)(rest: ∀ρ M,Mid ρ M ->R D ρ M)(h: ∀N:b7 ->Mp ->Prop,(∀ρ M,Mid ρ M ->N ρ M) ->Vf c a b {nx:=N,rt:=D.rt,bk:=D.bk,ct:=D.ct} ρ M):IP (Vf c a b) R D ρ M:=h _ rest
theorem mB {xs:cz W}{keep:Mp ->Prop}{g:WG}{b:WS}{D:dA}{ρ:b7}{M1:Mp}(I:Nat ->b7 ->Mp ->Prop)(h0:I 0 ρ M1)(hk: ∀i ρ M,i<=xs.length ->I i ρ M ->keep M) (hs: ∀i x ρ M,xs[i]? =some x ->I i ρ M -> ∀N:b7 ->Mp ->Prop,(∀ρ' M',I (i+1) ρ' M' ->N ρ' M') ->g x ρ M λρ2 M2=>b {nx:=N,rt:=D.rt,bk:=D.nx,ct:=N} ρ2 M2) (hd: ∀ρ M,I xs.length ρ M ->D.nx ρ M):TJ xs keep g b D ρ M1:=#[I,h0,hk,λi x ρ M hx hI=>hs i x ρ M hx hI _ λ_ _ h=>h,hd]
theorem Ip {c:WT}{b:WS}{D:dA}{ρ:b7}{M:Mp}(I:Nat ->b7 ->Mp ->Prop)(m:Nat)(h0:I m ρ M) (hs: ∀m ρ M,I m ρ M -> ∀N:b7 ->Mp ->Prop,(∀m' ρ' M',m'<m ->I m' ρ' M' ->N ρ' M') ->c ρ M λk M1=>gh k (b {nx:=N,rt:=D.rt,bk:=D.nx,ct:=N} ρ M1) (D.nx ρ M1)):DQ c b D ρ M:=#[I,#[m,h0],λm ρ M hI=>hs m ρ M hI _ λm' _ _ hm h=>#[m',hm,h]]
end WL
namespace WL
open L2
def Ny:WS:=λ_ _ _=>False
instance {K:gg}:IS K yW Ny where
 imp:=λ_ _ _ _ _ _ _ h _=>h.elim
end WL
namespace WP
open PySem L2 WL
abbrev Pt:=cz (Int×Int)
def look:Pt ->Int ->Int
 | [],_=>0
 | q::r,x=>if q.1=x then q.2 else look r x
def de (p:Int)(l:Pt):Prop:=(∀q∈l,0<q.2 /\ q.2<p) /\ l.Pairwise (λa b=>a.1<b.1)
def fR:Pt ->Int ->Int
 | [],_=>0
 | q::r,x=>(if q.1=x then q.2 else 0)+fR r x
def iw (a b:Pt)(x:Int):fR (a++b) x=fR a x+fR b x:=by
 induction a with
 | nil=>simp[fR]
 | cons q r ih=>rw[List.cons_append,fR,fR,ih];lia
def wD (a:Pt)(q:Int×Int)(x:Int):fR (a++ [q]) x=fR a x+if q.1=x then q.2 else 0:=by rw[iw];simp[fR]
def fC {l:Pt}{x:Int}(h: ∀q∈l,q.1≠x):look l x=0:=by
 induction l with
 | nil=>rfl
 | cons q r ih=>rw[look,ah (h q (by simp)),ih λz hz=>h z (by simp[hz])]
def wG {l:Pt}(h:l.Pairwise (λa b=>a.1<b.1))(x:Int):fR l x=look l x:=by
 induction l with
 | nil=>rfl
 | cons q r ih=>rw[cb] at h;rw[fR,look,ih h.2];by_cases e:q.1=x;rw[aj e,aj e,fC];lia;intro z hz;have:=h.1 z hz;lia;rw[ah e,ah e];lia
def zu {p:Int}{l:Pt}(hp:0<p)(h:de p l)(x:Int):0<=look l x /\ look l x<p:=by
 induction l with
 | nil=>rw[look];lia
 | cons q r ih=>rw[look];split;have:=h.1 q (by simp);lia;show ih #[λz hz=>h.1 z (by simp[hz]),(cb.mp h.2).2]
theorem de.tail {p:Int}{q:Int×Int}{r:Pt}(h:de p (q::r)):de p r:=#[λz hz=>h.1 z (by simp[hz]),(cb.mp h.2).2]
theorem de.nil {p:Int}:de p []:=#[λ_ h=>absurd h (by simp),List.Pairwise.nil]
theorem vk {p p':Int}: ∀ {a b:Pt},de p a ->de p' b ->(∀x,look a x=look b x) ->a=b
 | [],[],_,_,_=>rfl
 | [],q::r,_,hb,h=>by have:=h q.1;rw[look,look,aj rfl] at this;have:=hb.1 q (by simp);lia
 | q::r,[],ha,_,h=>by have:=h q.1;rw[look,look,aj rfl] at this;have:=ha.1 q (by simp);lia
 | q ::r,q'::r',ha,hb,h=>by
  have pa:=ha.1 q (by simp);have pb:=hb.1 q' (by simp);have sa:=(cb.mp ha.2).1;have sb:=(cb.mp hb.2).1;have e1:q.1=q'.1:=by obtain l | l | l:=Int.lt_trichotomy q.1 q'.1;have e:=h q.1;rw[look,aj rfl,look,ah ∅,fC (λz hz=>by have:=sb z hz;lia)] at e;lia;show l;have e:=h q'.1;rw[look,ah ∅,fC (λz hz=>by have:=sa z hz;lia),look,aj rfl] at e;lia
  have e2:q.2=q'.2:=by have e:=h q.1;rw[look,aj rfl,look,aj e1.symm] at e;show e
  have e:r=r':=vk ha.tail hb.tail λx=>by by_cases hx:q.1=x;rw[fC (λz hz=>by have:=sa z hz;lia),fC (λz hz=>by have:=sb z hz;lia)];have e:=h x;rwa [look,ah hx,look,ah ∅] at e
  rw[e,Prod.ext e1 e2]
def gr (p:Int):Pt ->Int ->Int ->Pt
 | [],x,s=>if s % p=0 then [] else [(x,s % p)]
 | q::r,x,s=>if x<q.1 then(if s % p=0 then q::r else(x,s % p)::q::r) else if x=q.1 then(if(q.2+s) % p=0 then r else(x,(q.2+s) % p)::r) else q::gr p r x s
def nV (p:Int)(ps:Pt):Pt:=ps.foldl (λa q=>gr p a q.1 q.2) []
def Dl {p:Int}{l:Pt}{x s:Int}{z:Int×Int}(h:z∈gr p l x s):z.1=x \/ z∈l:=by
 induction l with
 | nil=>rw[gr] at h;split at h;cases h;left;rw[aK.mp h]
 | cons q r ih=>rw[gr] at h;split at h;split at h;show .inr h;obtain h | h:=aL.mp h;left;rw[h];show .inr h;split at h;split at h;show .inr (by simp[h]);obtain h | h:=aL.mp h;left;rw[h];show .inr (by simp[h]);obtain h | h:=aL.mp h;show .inr (by simp[h]);obtain h | h:=ih h;show .inl h;show .inr (by simp[h])
def zo {p s:Int}(hp:0<p)(h:¬s % p=0):0<s % p /\ s % p<p:=by have:=Int.emod_nonneg s (show p≠0 by lia);have:=Int.emod_lt_of_pos s hp;lia
def Dk {p:Int}(hp:0<p){l:Pt}{x s:Int}(h:de p l):de p (gr p l x s):=by
 induction l with
 | nil=>rw[gr];split;show de.nil;rename_i hs;show#[λq hq=>by rw[aK.mp hq];show zo hp hs,by simp]
 | cons q r ih=>have sa:=(cb.mp h.2).1;rw[gr];split;rename_i hx;split;show h;rename_i hs;exact#[λz hz=> ?_,cb.mpr #[λz hz=> ?_,h.2]];obtain rfl | hz:=aL.mp hz;show zo hp hs;show h.1 z hz;obtain rfl | hz:=aL.mp hz;show hx;have:=sa z hz;change x<z.1;lia;split;rename_i hx;split;show h.tail;rename_i hs;exact#[λz hz=> ?_,cb.mpr #[λz hz=> ?_,h.tail.2]];obtain rfl | hz:=aL.mp hz;show zo hp hs;show h.1 z (by simp[hz]);have:=sa z hz;change x<z.1;lia;rename_i h1 h2;have ih':=ih h.tail;exact#[λz hz=> ?_,cb.mpr #[λz hz=> ?_,ih'.2]];obtain rfl | hz:=aL.mp hz;show h.1 z (by simp);show ih'.1 z hz;obtain e | hz:=Dl hz;lia;show sa z hz
def zw {p:Int}(hp:0<p){l:Pt}{x s:Int}(h:de p l)(y:Int):look (gr p l x s) y=if y=x then(look l x+s) % p else look l y:=by
 induction l with
 | nil=>rw[gr];by_cases hs:s % p=0;rw[aj hs];simp[look,hs];rw[ah hs];by_cases e:y=x;subst e;simp[look];rw[ah e];simp[look,bD e]
 | cons q r ih=>
  have sa:=(cb.mp h.2).1;have qr:=h.1 q (by simp);rw[gr];split;rename_i hx;have hn:look (q::r) x=0:=fC (λz hz=>by obtain rfl | hz:=aL.mp hz;lia;have:=sa z hz;lia);rw[hn,Int.zero_add];split;rename_i hs;by_cases e:y=x;rw[aj e,e,hn,hs];rw[ah e];by_cases e:y=x;rw[aj e,look,aj e.symm];rw[ah e,look,ah (bD e)];split;rename_i hx;have hq:look (q::r) x=q.2:=by rw[look,aj hx.symm]
  rw[hq];split;rename_i hs;by_cases e:y=x;rw[aj e,hs,fC (λz hz=>by have:=sa z hz;lia)];rw[ah e,look,ah ∅];by_cases e:y=x;rw[aj e,look,aj e.symm];rw[ah e,look,ah (bD e),look,ah ∅];rename_i h1 h2;rw[look,ih h.tail];by_cases e:y=x;rw[aj e,aj e,ah ∅];conv=>rhs;rw[look,ah ∅]
  rw[ah e,ah e,look]
def qI (p:Int)(ps:Pt)(q:Int×Int):nV p (ps++ [q])=gr p (nV p ps) q.1 q.2:=by unfold nV;rw[List.foldl_append];rfl
def j8 {α:Type}{P:cz α ->Prop}(h0:P [])(h1: ∀l a,P l ->P (l++ [a]))(l:cz α):P l:=by
 have key: ∀n:Nat, ∀l:cz α,l.length=n ->P l:=by
  intro n;induction n with
  | zero=>intro l hl;rw[List.length_eq_zero_iff.mp hl];show h0
  | succ n ih=>
   intro l hl;have jm:l≠ []:=by intro e;rw[e] at hl;cases hl
   rw[<- List.dropLast_concat_getLast jm];show h1 _ _ (ih _ (by rw[List.length_dropLast];lia))
 show key _ l rfl
def iJ {p:Int}(hp:0<p)(ps:Pt):de p (nV p ps):=by
 induction ps using j8 with
 | h0=>show de.nil
 | h1 l a ih=>rw[qI];show Dk hp ih
def qP {p:Int}(hp:0<p)(ps:Pt)(x:Int):look (nV p ps) x=fR ps x % p:=by
 induction ps using j8 with
 | h0=>simp[nV,look,fR]
 | h1 l a ih=>rw[qI,zw hp (iJ hp l),wD];by_cases e:x=a.1;subst e;rw[aj rfl,aj rfl,ih,Int.emod_add_emod];rw[ah e,ah (bD e),ih,Int.add_zero]
def Dm {p:Int}{l:Pt}{x s:Int}:(gr p l x s).length<=l.length+1:=by
 induction l with
 | nil=>rw[gr];split<;>simp
 | cons q r ih=>rw[gr];split;split<;>simp;split;split<;>simp<;>lia;simp;show ih
def p8 (p:Int)(ps:Pt):(nV p ps).length<=ps.length:=by
 induction ps using j8 with
 | h0=>simp[nV]
 | h1 l a ih=>rw[qI,aV];show aH Dm (by simp;show ih)
def me (m:Pt):cz (bH×W):=m.map λq=>((Sum.inl q.1:bH),wi q.2)
def pL (m:Pt)(x v:Int):Pt:=if(m.any λq=>decide (q.1=x))=true then m.map (λq=>if q.1=x then(q.1,v) else q) else m++ [(x,v)]
def no {m:Pt}{x:Int}:(m.any λq=>decide (q.1=x))=true↔x∈m.map (·.1):=by rw[List.any_eq_true,List.mem_map];symm;rintro⟨q,hq,e⟩;show#[q,hq, ⇑e];rintro⟨q,hq,e⟩;show#[q,hq, ⇑e]
def A7 (a b:Int):decide ((Sum.inl a:bH)=Sum.inl b)=decide (a=b):=by simp
def AE (m:Pt)(x v:Int):l3 (me m) (.inl x) (wi v)=me (pL m x v):=by
 unfold l3 pL;have e:((me m).any λkv=>decide (kv.1=(Sum.inl x:bH)))=m.any λq=>decide (q.1=x):=by unfold me;rw[List.any_map];congr 1;funext q;show A7 _ _
 rw[e];split;unfold me;rw[bw,bw];apply List.map_congr_left;intro q _;change(if(Sum.inl q.1:bH)=Sum.inl x then((Sum.inl q.1:bH),wi v) else(Sum.inl q.1,wi q.2))=((Sum.inl (if q.1=x then(q.1,v) else q).1:bH),wi (if q.1=x then(q.1,v) else q).2)
 by_cases hq:q.1=x;rw[aj (by rw[hq]),aj hq];rw[ah (λz=>hq (Sum.inl.inj z)),ah hq];unfold me;rw[bA];rfl
def Af (m:Pt)(x:Int):fu (me m) (.inl x)=(m.find? λq=>decide (q.1=x)).map λq=>wi q.2:=by
 unfold fu me;rw[List.find?_map,Option.map_map];have e:((λkv:bH×W=>decide (kv.1=(Sum.inl x:bH))) ∘ λq:Int×Int=>((Sum.inl q.1:bH),wi q.2))=λq=>decide (q.1=x):=by funext q;show A7 _ _
 rw[e];rfl
def ug {m:Pt}{x:Int}:(m.find? λq=>decide (q.1=x))=none /\ look m x=0 /\ x∉m.map (·.1) \/ ∃q,(m.find? λq=>decide (q.1=x))=some q /\ look m x=q.2:=by
 induction m with
 | nil=>show .inl #[rfl,rfl,by simp]
 | cons q r ih=>
  rw[cH,look];by_cases e:q.1=x;simp![e,decide_true];show .inr #[q,rfl,by simp];simp![e,decide_false,bp];rcases ih with⟨h1,h2,h3⟩ | h
  show .inl #[h1,h2,by rw[az,aL,not_or];show#[bD e,h3]];show .inr h
def Kk (m:Pt)(x:Int):(fu (me m) (.inl x)).getD (wi 0)=wi (look m x):=by rw[Af];rcases ug (m:=m) (x:=x) with⟨h1,h2,_⟩ | ⟨q,h1,h2⟩ <;>rw[h1,h2] <;>rfl
def Na {m:Pt}{x:Int}(h:x∈m.map (·.1)):fu (me m) (.inl x)=some (wi (look m x)):=by
 rw[Af];rcases ug (m:=m) (x:=x) with⟨_,_,h3⟩ | ⟨q,h1,h2⟩
 show absurd h h3;rw[h1,h2];rfl
def FK (m:Pt):(me m).map (·.1)=(m.map (·.1)).map Sum.inl:=by unfold me;rw[bw,bw];rfl
def ua {m:Pt}{x v:Int}:(pL m x v).map (·.1)=if x∈m.map (·.1) then m.map (·.1) else m.map (·.1)++ [x]:=by unfold pL;by_cases h:x∈m.map (·.1);rw[aj (no.mpr h),aj h,bw];apply List.map_congr_left;intro q _;change(if q.1=x then(q.1,v) else q).1=q.1;split<;>rfl;rw[ah (λe=>h (no.mp e)),ah h,bA];rfl
def JK {m:Pt}{x v:Int}(h:(m.map (·.1)).Nodup):((pL m x v).map (·.1)).Nodup:=by rw[ua];by_cases e:x∈m.map (·.1);rw[aj e];show h;rw[ah e];show AQ h e
def FG {m:Pt}{x v:Int}:(pL m x v).length<=m.length+1:=by unfold pL;split;rw[ao];lia;simp
def CA {m:Pt}{x v y:Int}:look (pL m x v) y=if y=x then v else look m y:=by
 unfold pL;by_cases h:x∈m.map (·.1);rw [aj (no.mpr h)];have key: ∀m:Pt,look (m.map (λq=>if q.1=x then(q.1,v) else q)) y=if y=x /\ x∈m.map (·.1) then v else look m y:=by
  intro m;induction m with
  | nil=>simp[look]
  | cons q r ih=>
   rw[az,look,look,ih];by_cases hq:q.1=x;by_cases hy:y=x;subst hy;simp[hq];simp[hq,hy,bD hy];by_cases hy:y=x;subst hy;have:(y∈(q::r).map (·.1))=(y∈r.map (·.1)):=by rw[az,aL];simp[bD hq]
   simp![this,hq,bp];simp[hq,hy]
 rw[key];simp[h];rw [ah (λe=>h (no.mp e))];have key: ∀m:Pt,x∉m.map (·.1) ->look (m++ [(x,v)]) y=if y=x then v else look m y:=by
  intro m;induction m with
  | nil=>intro _;by_cases e:y=x;simp[look,e];simp[look,e,bD e]
  | cons q r ih=>intro hn;rw[az,aL,not_or] at hn;rw[List.cons_append,look,look,ih hn.2];by_cases e:y=x;subst e;simp[bD hn.1];simp[e]
 show key m h
def RP (m:Pt)(ns:cz Int):Pt:=ns.filterMap λx=>if look m x=0 then none else some (x,look m x)
theorem xv {m:Pt}{x:Int}: ∀ {ns:cz Int},ns.Nodup ->look (RP m ns) x=if x∈ns then look m x else 0
 | [],_=>rfl
 | n ::r,h=>by rw[cY] at h;have ih:=xv (m:=m) (x:=x) h.2;unfold RP at ih ⊢;rw[List.filterMap_cons];by_cases e:look m n=0;rw[aj e];change look (r.filterMap _) x=_;rw[ih];by_cases hx:x=n;subst hx;rw[ah h.1,aj (by simp),e];simp[hx];rw[ah e];change look ((n,look m n)::r.filterMap _) x=_;rw[look,ih];by_cases hx:x=n;subst hx;rw[aj rfl,aj (by simp)];rw[ah (bD hx)];simp[hx]
def B_ {ns:cz Int}(h1:ns.Pairwise (· <= ·))(h2:ns.Nodup):ns.Pairwise (· < ·):=by exact(List.Pairwise.and h1 h2).imp ?_;rintro a b ⟨h,n⟩;lia
def IL {p:Int}(hp:0<p){ps m:Pt}{ns:cz Int}(hn:(m.map (·.1)).Nodup)(ht: ∀x,look m x=fR ps x % p)(h_:ns.Perm (m.map (·.1)))(hs:ns.Pairwise (· <= ·)):RP m ns=nV p ps:=by have nd:=h_.nodup_iff.mpr hn;have st:=B_ hs nd;exact vk (p:=p) #[?_,?_] (iJ hp ps) λx=> ?_;intro q hq;let⟨x,hx,e⟩:=List.mem_filterMap.mp hq;split at e;cases e;rename_i h0;cases e;have:=ht x;have:=Int.emod_nonneg (fR ps x) (show p≠0 by lia);have:=Int.emod_lt_of_pos (fR ps x) hp;change 0<look m x /\ look m x<p;lia;unfold RP;exact List.Pairwise.filterMap _ ?_ st;intro a b Gr c hc d hd;split at hc<;>cases hc;split at hd<;>cases hd;show Gr;rw[xv nd,qP hp];split;show ht x;rename_i hx;rw[<- ht x,fC];intro q hq e;show hx (h_.mem_iff.mpr (by rw[<- e];show List.mem_map_of_mem hq))
def KW (_:Pt):Prop:=True
theorem HY {ps:Pt}:KW ps:=trivial
def FD {m:Pt}{x v k:Int}(h:k∈(pL m x v).map (·.1)):k=x \/ k∈m.map (·.1):=by rw[ua] at h;split at h;show .inr h;obtain h | h:=bh.mp h;show .inr h;show .inl (aK.mp h)
end WP
namespace WQ
open PySem L2 WL WP
def Sl:e9:=λxs M q=>dY λ(d l:dw) (n:Int)=>d9 (xs= [wr d,wi n]) (Dr M d l) (0<n) (n<1073741824) (∀ (r:Int) (M':Mp),0<=r ->r<n ->Dr M' d l ->NB d M M' ->q (wi r) M')
def pP:e9:=λxs M q=>bX λ(d l:dw)=>cg (xs= [wr d]) (Dr M d l) (∀ (p:Int) (M':Mp),(p=2 \/ p=3 \/ p=5 \/ p=7) ->Dr M' d l ->NB d M M' ->q (wi p) M')
def Sj:e9:=λxs M q=>dY λ(a:dw) (p:Int) (ps:Pt)=>oq (xs= [wi p,wr a]) (M a=some (.lst (ps.map du))) (0<p) (KW ps) (ps.length<=16000000) (q (fO (nV p ps)) M)
def mv (by_:Int)(l:Pt):Pt:=l.map λz=>(z.1+by_,z.2)
def NU:e9:=λxs M q=>bX λ(Qj:Pt) (b:Int)=>cg (xs= [fO Qj,wi b]) (Qj.length<=16000000) (q (fO (mv b Qj)) M)
def N8:e9:=λxs M q=>dY λ(p:Int) (a b:Pt)=>oq (xs= [wi p,fO a,fO b]) (0<p) (KW (a++b)) (a.length<=8000000) (b.length<=8000000) (q (fO (nV p (a++b))) M)
def tm (n:Int)(l:Pt):Pt:=l.map λz=>(z.1,z.2*n)
def NO:e9:=λxs M q=>dY λ(p:Int) (a:Pt) (n:Int)=>oq (xs= [wi p,fO a,wi n]) (0<p) (KW (tm n a)) (a.length<=40000) (∀z∈a,0<=z.2 /\ z.2<1000) (q (fO (nV p (tm n a))) M)
theorem big {n:Nat}(h:n<=16000000):n<=sizeLine:=aH h (by rw[bY];decide)
theorem zS {n:Nat}(h:n<=16000000):n<sizeLine:=Nat.lt_of_le_of_lt h (by rw[bY];decide)
theorem zn {b:Int}{l:Pt}:(mv b l).length=l.length:=ao _
def JM {l:Pt}:mv 0 l=l:=by
 unfold mv;have:(λz:Int×Int=>(z.1+0,z.2))=id:=by funext z;rw[Int.add_zero];rfl
 rw[this,List.map_id]
def VB {b:Int}{l:Pt}{x:Int}:look (mv b l) x=look l (x - b):=by
 induction l with
 | nil=>rfl
 | cons q r ih=>change look ((q.1+b,q.2)::mv b r) x=_;rw[look,look,ih];by_cases e:q.1+b=x;rw[aj e,aj ∅];rw[ah e,ah ∅]
def Ef {n:Int}{l:Pt}{x:Int}:fR (tm n l) x=fR l x*n:=by
 induction l with
 | nil=>simp[tm,fR]
 | cons q r ih=>change fR ((q.1,q.2*n)::tm n r) x=_;rw[fR,fR,ih,Int.add_mul];split<;>simp
theorem qJ {p:Int}(hp:0<p){a:Pt}(h:de p a):nV p a=a:=vk (iJ hp a) h λx=>by rw[qP hp,wG h.2];have:=zu hp h x;show Int.emod_eq_of_lt this.1 this.2
def uP {p:Int}(hp:0<p)(a:Pt)(x:Int):fR (nV p a) x=fR a x % p:=by rw[wG (iJ hp a).2,qP hp]
def Nn {b:Int}{l:Pt}{x:Int}:fR (mv b l) x=fR l (x - b):=by
 induction l with
 | nil=>rfl
 | cons q r ih=>change fR ((q.1+b,q.2)::mv b r) x=_;rw[fR,fR,ih];by_cases e:q.1+b=x;rw[aj e,aj ∅];rw[ah e,ah ∅]
theorem Pk {n:Int}{a:Pt}(h:KW a):KW (tm n a):=trivial
def Ar (K:gg):Sp:=λvs H Q _=>bX λ(a:dw) (ns:cz Int)=>cg (vs= [.ref a]) (fh K H a (ns.map V.int)) (∀ (d l:dw) (ms:cz Int) (H':Hp),d≠l ->H' d=some (.lst [.ref l, .int 0, .int 0, .int 11]) ->H' l=some (.lst (ms.map V.int)) ->Q (.ref d) H')
def wQ (K:gg):Sp:=λvs H Q _=>bX λ(a:dw) (ns:cz Int)=>cg (vs= [.ref a]) (fh K H a (ns.map V.int)) (∀H',Q (.bl true) H')
def Sz {P:gA}{w:gB}{K:gg}{mg:Str ->cT cG}{base:gC}{x qual z:Str}{st:Stmt}{f:dw}{fd:gN}{N:cz Str}{k:Nat}(F:yo K x qual st f fd)(S:bR N [z] (aE st))(hN:2<=N.length) (ij: ∀ (cdv:cG) (A:hV) (outer:cz Env) (s:cL) (H:Hp) (E:XK),dz k (A.deeper (PyProof.Rows.envOfC qual (aE st) s.heap.objs.size f cdv)) ->∃ R,sC (dE ez P w K mg base N qual (aE st) f cdv A outer s H E).Fx (c6 st) (Np (BZ (oB (Ar K) [] E0 (Er (ID 0) yV)) (i5 1)) R) /\∃w',IS K R w' /\ ∀d l M,Dr M d l ->w' {nx:=λ_ _=>False,rt:=λx _=>x=wb true} (none::some (wr d)::List.replicate (N.length - 2) none) M): bv P w K mg base ez (k+1) f fd [z] (wQ K):=by
 exact yo.ok F S (λvs H Q E ⟨a,ns,h,_,_⟩=>by rw[h];rfl) λcdv A outer s H vs Q E hr h=> ?_;let⟨R,h1,w',h2,h3⟩:=ij cdv A outer s H E hr;let⟨a,ns,rfl,hs,hq⟩:=h;exact#[_,h1,?_];let⟨n,hn⟩: ∃n,N.length=n+2:=#[N.length - 2, ∅]
 have e0:L2.start N [V.ref a]=some (V.ref a)::none::List.replicate n none:=by unfold L2.start;rw[hn];rfl
 rw[e0];exact#[_,rfl,a,ns,rfl,hs,λd l ms H' jm hd hl=> ?_];change R _ _ H';exact h2.imp (none::some (wr d)::List.replicate (N.length - 2) none) (um (um (λ_=>none) l (.lst (ms.map wi))) d (.lst [wr l,wi 0,wi 0,wi 11])) _ H' _ _ #[#[?_,λi y e=> ?_],λb o e=> ?_] (h3 d l _ #[ms,0,0,11,aq,by rw[aT (bD jm),aq],⋯,jm]) #[λ_ _ _ _ h=>h.elim,λy M' v H2 e _ _ r=> ?_,λ_ _ _ _ h=>h.elim,λ_ _ _ _ h=>h.elim];simp[hn];match i with
 | 0=>simp at e
 | 1=>simp at e;subst e;show#[.ref d,rfl,WR.v]
 | i+2=>simp[cP] at e
 by_cases hb:b=d;subst hb;rw[aq] at e;cases e;show#[_,hd,bW.cons WR.v (bW.cons WR.v (bW.cons WR.v (bW.cons WR.v bW.nil)))];rw[aT hb] at e;by_cases Mv:b=l;subst Mv;rw[aq] at e;cases e;show#[_,hl,bW.ofInts ms];rw[aT Mv] at e;cases e;subst e;rw[r.eq];show hq H2
abbrev Rd:=Int×Pt
def gd (r:Rd):W:= .tup [wi r.1,fO r.2]
def jn (p:Int)(a b:Rd):Rd:=(a.1+b.1,nV p (a.2++mv a.1 b.2))
def bk (p:Int)(a:Rd):Rd:=(-a.1,nV p (tm (-1) (mv (-a.1) a.2)))
def Jp:e9:=λxs M q=>dY λ(p:Int) (a b:Rd)=>oq (xs= [wi p,gd a,gd b]) (0<p) (KW (a.2++mv a.1 b.2)) (a.2.length<=40000) (b.2.length<=40000) (q (gd (jn p a b)) M)
def Sv:e9:=λxs M q=>bX λ(p:Int) (a:Rd)=>oq (xs= [wi p,gd a]) (0<p) (KW (mv (-a.1) a.2)) (a.2.length<=40000) (∀z∈a.2,0<=z.2 /\ z.2<1000) (q (gd (bk p a)) M)
def NP:e9:=λxs M q=>xs= [] /\ q (gd (0,[])) M
theorem Py {p:Int}(hp:0<p)(a:Rd):de p (bk p a).2:=iJ hp _
def Pz (p:Int)(a:Rd):(bk p a).2.length<=a.2.length:=by exact aH (p8 _ _) ?_;rw[tm,ao,zn];lia
def No {p:Int}(hp:0<p)(a:Rd)(x:Int):fR (bk p a).2 x=(-fR a.2 (x+a.1)) % p:=by rw[bk,uP hp,Ef,Nn];congr 1;rw[Int.mul_neg_one,Int.sub_neg]
theorem wT {p:Int}{a:Pt}(h:de p a)(hp:p<1000): ∀z∈a,0<=z.2 /\ z.2<1000:=λz hz=>by have:=h.1 z hz;lia
inductive ad8 where
 | go (k:Int) | turn (k:Int)
def aev (s:Int×Pt):ad8 ->Int×Pt
 | .go k=>(s.1+k,s.2)
 | .turn k=>(s.1,s.2++ [(s.1,k)])
end WQ
namespace WL
open PySem PySem.Spec PyProof.Rows L2
def UD (ns:cz Int)(m:Int):Prop:=m∈ns /\ ∀x∈ns,x<=m
def UC (ns:cz Int)(m:Int):Prop:=m∈ns /\ ∀x∈ns,m<=x
end WL
namespace WQ
open PySem L2 WL WP
def prc (p s:Int):Int:=if p - s<s then p - s else s
def Lx (a:Rd):cz Int:=0::a.1::a.2.map (·.1)
def Uo (i:Int):Int:=if i<0 then -i else i
def fwv (p:Int)(a:Rd)(lo hi:Int):Int:=2*(hi - lo) - Uo a.1+(a.2.map λz=>prc p z.2).sum
def sQ (e n x:Int):Bool:=decide (x.fmod e=0) && (decide (0<=x.fdiv e) && decide (x.fdiv e<n))
end WQ
namespace EN
open PySem PySem.Spec PyProof.Rows L2
open Sem (wp)
open AutoSeq1 (wpAny_loadPart')
section
variable {prog:gA}{w:gB}{A:hV}{E:cG ->cL ->Prop}{s:cL}
def zl {j t:dw}{i:Nat}{its:ft cG}{x:cG}{Q:cG ->cL ->Prop}(hj:s.heap.IsTupleIter j t i)(ht:s.heap.IsTuple t its)(hx:its[i]? =some x) (hQ: ∀h',h'.IsTupleIter j t (i+1) ->Heap.SameBut j s.heap h' ->Q x {s with heap:=h'}):wpAny (model prog w) A (Builtin.SmallTypes.nextOf (.ref j)) Q E s:=by let⟨oj,Mr,hcj,Ke⟩:=id hj;let⟨ot,Yt,_,nt,YS⟩:=ht;unfold Builtin.SmallTypes.nextOf;exact af (wpAny_callSpecial?_slot (name:=Str.ofString "__next__") hj.typeIs F.slot_tuple_iterator_next (wpAny_call_entry F.slot_tuple_iterator_next hj.typeIs F.entry_tuple_iterator_next ?_ (F.args_tuple_iterator_next_1 _)));change wpAny _ _ (field (.ref j) 0 >>=_) _ _ s;exact af (wpAny_field Mr Ke (x:= .ref t) rfl ?_);change wpAny _ _ (if(Value.ref t==Value.none)=true then _ else _) _ _ s;rw[ah (show ¬((Value.ref t==Value.none)=true) from λz=>aQ z)];change wpAny _ _ (field (.ref j) 1 >>=_) _ _ s;exact af (wpAny_field Mr Ke (x:= .int i 0) rfl ?_);change wpAny _ _ (seqItems? (.ref t) >>=_) _ _ s;exact af (wpAny_seqItems Yt YS ?_);simp![Int.toNat_natCast,hx];exact af (wpAny_setField Mr Ke (by simp) (aC #[x,rfl,aC (hQ _ ?_ (Heap.SameBut.update ..))]));show#[_,Heap.get?_update_self _ Mr (Obj.isFreed_of_fields (Obj.data_mapFields Ke _)),(Obj.cls_mapFields ..).trans hcj,by rw[Obj.data_mapFields Ke];simp[rawInt]]
def Cs {j t:dw}{i:Nat}{its:ft cG}{Q:cG ->cL ->Prop}(hh:A.handled=none)(hj:s.heap.IsTupleIter j t i)(ht:s.heap.IsTuple t its)(hx:its[i]? =none) (hE: ∀h' e,Heap.ExtBut j s.heap h' ->(∃o,h'.get? e=some o /\ o.cls= .type "StopIteration") ->E (.ref e) {s with heap:=h'}):wpAny (model prog w) A (Builtin.SmallTypes.nextOf (.ref j)) Q E s:=by
 let⟨oj,Mr,hcj,Ke⟩:=id hj;let⟨ot,Yt,_,nt,YS⟩:=ht;unfold Builtin.SmallTypes.nextOf;exact af (wpAny_callSpecial?_slot (name:=Str.ofString "__next__") hj.typeIs F.slot_tuple_iterator_next (wpAny_call_entry F.slot_tuple_iterator_next hj.typeIs F.entry_tuple_iterator_next ?_ (F.args_tuple_iterator_next_1 _)));change wpAny _ _ (field (.ref j) 0 >>=_) _ _ s;exact af (wpAny_field Mr Ke (x:= .ref t) rfl ?_);change wpAny _ _ (if(Value.ref t==Value.none)=true then _ else _) _ _ s;rw[ah (show ¬((Value.ref t==Value.none)=true) from λz=>aQ z)];change wpAny _ _ (field (.ref j) 1 >>=_) _ _ s;exact af (wpAny_field Mr Ke (x:= .int i 0) rfl ?_);change wpAny _ _ (seqItems? (.ref t) >>=_) _ _ s;exact af (wpAny_seqItems Yt YS ?_);simp![Int.toNat_natCast,hx];exact af (wpAny_rule (af (wpAny_setField Mr Ke (by simp) ?_)));change wpAny _ _ (newExc (.type "StopIteration") [] >>=_) _ _ _;exact af ?_;simp![newExc,newTuple];exact af (wpAny_newObj_type ?_ (by size_fits));exact af (m:=firstArgMember _ _) (wpAny_of_eq (a:=Value.none) (by first | rfl | (simp![firstArgMember];rfl)) ?_);exact wpAny_newObj_type ?_ (by size_fits);simp![raiseNew];exact af (wpAny_handled ?_);first | rw[show A.in1.handled=none from hh] | rw[hh]
 exact af (aC (wpAny_throw ?_));show hE _ _ (((Heap.SameBut.update ..).extBut.push _).push _) #[_,aJ _ rfl,rfl]
end
theorem GU {prog:gA}{w:gB}{A:hV}(hh:A.handled=none)(j t:dw)(jm:t≠j)(its:ft cG): Draws prog w A j [j,t] its.size (λi v=>its[i]? =some v) (λi h=>h.IsTupleIter j t i /\ h.IsTuple t its) where
 live:=λ_ _ st=>let ⟨o,ho,_⟩:=st.1;#[o,ho]
 frame:=λ_ _ _ st hk=>#[let ⟨o,ho,r⟩:=st.1;#[o,hk j (by simp) o ho,r],let ⟨o,ho,r⟩:=st.2;#[o,hk t (by simp) o ho,r]]
 item:=λi s Q E hi st hQ=>by exact zl st.1 st.2 (x:=its[i]) (by simp[hi]) λh' Kc fo=> ?_;show hQ _ h' s.toks (by simp[hi]) #[Kc,st.2.extBut fo.extBut jm] fo
 done:=λs Q E st hE=>Cs hh st.1 st.2 (by simp) hE
theorem Op (t:dw)(its:ft cG)(n:Nat)(V1:cT dw)(sl:ft (cT cG)): Meets (Builtin.«enumerate.__new__» #[[.type "enumerate", .ref t],[]]) (λ_ R s=>s.heap.get? t=some {cls:= .type "tuple",dict:=V1,data:= .seq its n,slots:=sl} /\R (.ok (.ret (.ref (s.heap.push {cls:= .type "tuple_iterator",data:= .fields (List.toArray [.ref t, .int 0 0])}).objs.size))) {s with heap:=(s.heap.push {cls:= .type "tuple_iterator",data:= .fields (List.toArray [.ref t, .int 0 0])}).push {cls:= .type "enumerate",data:= .fields (List.toArray [.none, .bool false, .ref s.heap.objs.size,rawInt 0, .none, .none])}}):= .of_wp λprog w A R s h=>by
 let⟨hp,g,d,tk,os⟩:=s;let⟨hl,h⟩:=h;have aeK:=sub_enumerate;have hL:Heap.IsTuple (Shared.heap #[hp,g,d,tk,os]) t its:=#[_,hl,rfl,n,rfl]
 wp_walk using wpAny_loadPart' hl;exact wpAny_stack_any λst=>aC ?_;split;rename_i c _ _ _ _ _;cases (c==Value.type "enumerate");wp_walk using wpAny_loadPart' hl,wpAny_pyIter_tuple hL;show#[_,rfl,h];wp_walk using wpAny_loadPart' hl,wpAny_pyIter_tuple hL;show#[_,rfl,h];wp_walk using wpAny_loadPart' hl,wpAny_pyIter_tuple hL;show#[_,rfl,h]
section
variable {prog:gA}{w:gB}{A:hV}{E:cG ->cL ->Prop}{s:cL}
def zP {t:dw}{its:ft cG}{Q:cG ->cL ->Prop}(hL:s.heap.IsTuple t its) (h: ∀h',IsEnum h' (s.heap.objs.size+1) s.heap.objs.size 0 .none ->h'.IsTupleIter s.heap.objs.size t 0 ->h'.objs.size=s.heap.objs.size+2 ->(∀b o,s.heap.get? b=some o ->h'.get? b=some o) ->Q (.ref (s.heap.objs.size+1)) {s with heap:=h'}):wpAny (model prog w) A (call (.type "enumerate") [.ref t]) Q E s:=by
 let⟨⟨c,V1,dt,sl⟩,hl,hc,n,hd⟩:=hL;replace hc:c= .type "tuple" :=hc;replace hd:dt= .seq its n:=hd;subst hc hd;exact callType_new F.called_enumerate ⋯ (F.typeCall_enumerate_1 _) (F.newCall_enumerate_1 _) (λobj=>F.args_object_init_2 obj _) F.entry_enumerate_new (Op t its n V1 sl) #[hl,?_];have hz:(s.heap.push {cls:= .type "tuple_iterator",data:= .fields (List.toArray [.ref t, .int 0 0])}).objs.size=s.heap.objs.size+1:=Heap.size_push ..;change _ /\ _;rw[hz];have he:IsEnum ((s.heap.push {cls:= .type "tuple_iterator",data:= .fields (List.toArray [.ref t, .int 0 0])}).push {cls:= .type "enumerate",data:= .fields (List.toArray [.none, .bool false, .ref s.heap.objs.size,rawInt 0, .none, .none])}) (s.heap.objs.size+1) s.heap.objs.size 0 .none:=by have q:=aJ (s.heap.push {cls:= .type "tuple_iterator",data:= .fields (List.toArray [.ref t, .int 0 0])}) (o:= {cls:= .type "enumerate",data:= .fields (List.toArray [.none, .bool false, .ref s.heap.objs.size,rawInt 0, .none, .none])}) rfl;rw[hz] at q;show q
 exact#[#[_,he,rfl],h _ he #[_,ai _ (aJ _ rfl),rfl,rfl] (by rw[Heap.size_push,hz]) λb o x=>ai _ (ai _ x)]
end
end EN
namespace EN
open PySem PySem.Spec PyProof.Rows L2 WL
section
variable {X:Cx}{ae:cz (dw×Obj)}{σ:L2.St}{H:Hp}{s:cL}{h':gC}
def A5 {e j:dw}{xs:cz V}{t':Nat}(I:Inv X ae σ H s)(k: ∀b o,b≠e ->b≠j ->s.heap.get? b=some o ->h'.get? b=some o)(fe:iS X ae H e)(fj:iS X ae H j) (new:dF X.prog X.w (bU H s.heap.objs.size (.tup xs)) h' s.heap.objs.size (.tup xs)):Inv X ae σ (bU H s.heap.objs.size (.tup xs)) {s with heap:=h',toks:=t'}:=by
 have zF:H s.heap.objs.size=none:=I.b0.fresh (ak _);have ne: ∀ {b u},H b=some u ->b≠e /\ b≠j:=λ{b u} q=>#[cy q fe.1,cy q fj.1]
 have nm: ∀ {b:dw},b∉ [e,j] ->b≠e /\ b≠j:=λ{b} q=> ⇑q;exact I.call (ch:= [e,j]) (g':=s.gens) (d':=s.drawn) #[λb o q n _ hc=>k b o (nm hc).1 (nm hc).2 q,λb o q n _ hc=>#[o.slots,k b o (nm hc).1 (nm hc).2 q],λb o q n hc=> ?_,λb o q hc=>#[o,k b o (nm hc).1 (nm hc).2 q],λb ys q=> ?_,λb o u q=> ?_,λb ps q=>#[#[],?_]] ?_ I.bare ?_;rw[bq (aN (ax q))];show n;rw[bq (cy q zF)];show q;rw[bq (cy q zF)];show q;rw[bq (cy q zF),q];simp;intro b u q;by_cases hb:b=s.heap.objs.size;subst hb;rw[bC] at q;cases q;show new;rw[bq hb] at q;exact(I.b0 b u q).lL (λc v hc r=> ?_) (λc r=>by rw[bq (cy r zF)];show r) λc ys r=>by rw[bq (cy r zF)];show r
 obtain rfl | hc:=hc;show k _ v (ne q).1 (ne q).2 r;show k _ v (ne hc).1 (ne hc).2 r;intro b hb;obtain rfl | hb:=aL.mp hb;show#[fe.2.2.2.1,fe.2.1,fe.2.2.2.2.1,fe.2.2.2.2.2];rw[aK.mp hb];show#[fj.2.2.2.1,fj.2.1,fj.2.2.2.2.1,fj.2.2.2.2.2]
end
def Hs (K:gg)(a:dw):It:=#[λi H=>bX λxs x=>gH K H a xs /\ xs[i]? =some x,λi H v H'=>bX λp x=>eZ (H p=none) (H'=bU H p (.tup [.int i,x])) (v= .ref p) (∀xs,gH K H a xs ->xs[i]? =some x),λi H=> ∃xs,gH K H a xs /\ xs.length=i]
def Ht (K:gg)(a:dw):It:=#[λi H=>bX λxs x=>fh K H a xs /\ xs[i]? =some x,λi H v H'=>bX λp x=>eZ (H p=none) (H'=bU H p (.tup [.int i,x])) (v= .ref p) (∀xs,fh K H a xs ->xs[i]? =some x),λi H=> ∃xs,fh K H a xs /\ xs.length=i]
def yR {P:gA}{w:gB}{K:gg}{C1:cz Expr}{x1}{pos:Pos}(a e j:dw)(O8:e≠j):sY P w K (.Tuple C1 x1 pos) (Hs K a) [e,j] e (λi h=>(∃old,IsEnum h e j i old) /\ h.IsTupleIter j a i) where
 mem:=by simp
 obj:=λi h st b hb=>by let⟨⟨old,he⟩,o,hj,c,d⟩:=st;obtain rfl | hb:=aL.mp hb;show#[_,he,λv z=>nomatch z];rw[aK.mp hb];show#[o,hj,λv z=>by rw[d] at z;cases z]
 keep:=λi h h' st k=>by let⟨⟨old,he⟩,o,hj,r⟩:=st;show#[#[old,k e (by simp) _ he],o,k j (by simp) o hj,r]
 item := by
  intro X hP hw hK hc i ae s σ H E I hf st hg;subst hP hw hK;let⟨xs,x,hq,hx⟩:=hg;let⟨its,rv,p,hz⟩:=I.tuple hq;let⟨⟨old,he⟩,hj⟩:=st;have fe:=hf e (by simp);have fj:=hf j (by simp);have sQ:s.heap.IsTuple a its.toArray:=p;have ha:a≠j:=λz=>by let⟨o,h1,c1,_⟩:=sQ;let⟨o2,h2,c2,_⟩:=hj;rw[z] at h1;rw[h1] at h2;cases h2;rw[c1] at c2;simp at c2
  have YW:a≠e:=λz=>by let⟨o,h1,c1,_⟩:=sQ;rw[z] at h1;rw[he] at h1;cases h1;simp at c1
  have hi:i<its.toArray.size:=by have:=(aB.mp hx).1;have:=rv.length;simp;lia
  exact wpAny_pyNext_enum_itemD (GU (show X.A.in1.handled=none from I.ok.hd hc) j a ha its.toArray) he #[hj,sQ] hi O8 (by simp[O8,bD YW]) λy h' tk hy ho oS ht hsz hk=> ?_;exact#[_,rfl,wpAny_letOwnedTupleGo_enum ho λh2 YR n_=> ?_];let⟨u,hu,ru⟩:=rv.get hx;have eu:u=y:=by have:its.toArray[i]? =some u:= ⇑hu;rw[hy] at this;show(aW this).symm
  subst eu;have To:s.heap.objs.size≠e:=Nat.ne_of_gt (ax he);exact#[.ref s.heap.objs.size,bU H s.heap.objs.size (.tup [.int i,x]),A5 (t':=tk+1) I (λb o hb Mv q=>(n_.2 b hb).trans (hk b o hb Mv q)) fe fj #[by rw[bY];change 2<=16777216;decide,[.int i tk,u], .cons #[_,rfl] (.cons ru .nil),?_],rfl,#[_,x,I.b0.fresh (ak _),rfl,rfl,λys OI=>by rw[I.nF OI hq];show hx],#[#[u, ⇑YR],?_],λb hb=> ?_];show#[_,(n_.2 _ To).trans ht,rfl,_,rfl,rfl];let⟨⟨o,h1,r⟩,_⟩:=oS;show#[o,(n_.2 j (bD O8)).trans h1,r];have:H b=none:=(hf b hb).1;rw[bq (λz=> ?_)];show this;let⟨o,h1,_⟩:=hj;obtain rfl | hb:=aL.mp hb;show To z.symm;rw[aK.mp hb] at z;show absurd (ax h1) (by rw[z];show ce _)
 done:=by
   intro X hP hw hK hc i ae s σ H E I hf st hg;subst hP hw hK;let⟨xs,hq,hx⟩:=hg;let⟨its,rv,p,hz⟩:=I.tuple hq;let⟨⟨old,he⟩,hj⟩:=st;have sQ:s.heap.IsTuple a its.toArray:=p;have ha:a≠j:=λz=>by let⟨o,h1,c1,_⟩:=sQ;let⟨o2,h2,c2,_⟩:=hj;rw[z] at h1;rw[h1] at h2;cases h2;rw[c1] at c2;simp at c2
   let⟨f0,f1,f2,f3,f4,f5⟩:=hf j (by simp);have hl:i=its.toArray.size:=by have:=rv.length;simp;lia
   exact wpAny_pyNext_enum_endD (GU (show X.A.in1.handled=none from I.ok.hd hc) j a ha its.toArray) he #[hl▸hj,sQ] λh2 eb=>#[rfl,I.turned (t':=s.toks) (λb o hb q=>eb b o hb q) f0 f1 f3 f4 f5]
 self:=λ_ _ _ _ _ st h=>let ⟨⟨_,he⟩,_⟩:=st;wpAny_pyIter_enum he h
def yS {P:gA}{w:gB}{K:gg}{C1:cz Expr}{x1}{pos:Pos}(a e j:dw)(O8:e≠j):sY P w K (.Tuple C1 x1 pos) (Ht K a) [e,j] e (λi h=>(∃old,IsEnum h e j i old) /\ h.IsListIter j a i) where
 mem:=by simp
 obj:=λi h st b hb=>by let⟨⟨old,he⟩,o,hj,c,d⟩:=st;obtain rfl | hb:=aL.mp hb;show#[_,he,λv z=>nomatch z];rw[aK.mp hb];show#[o,hj,λv z=>by rw[d] at z;cases z]
 keep:=λi h h' st k=>by let⟨⟨old,he⟩,o,hj,r⟩:=st;show#[#[old,k e (by simp) _ he],o,k j (by simp) o hj,r]
 item := by
  intro X hP hw hK hc i ae s σ H E I hf st hg;subst hP hw hK;let⟨xs,x,hq,hx⟩:=hg;let⟨its,rv,p,hz⟩:=I.list hq;let⟨⟨old,he⟩,hj⟩:=st;have fe:=hf e (by simp);have fj:=hf j (by simp);have sQ:s.heap.IsList a its.toArray:=p.isList;have ha:a≠j:=λz=>by let⟨o,h1,c1,_⟩:=sQ;let⟨o2,h2,c2,_⟩:=hj;rw[z] at h1;rw[h1] at h2;cases h2;rw[c1] at c2;simp at c2
  have YW:a≠e:=λz=>by let⟨o,h1,c1,_⟩:=sQ;rw[z] at h1;rw[he] at h1;cases h1;simp at c1
  have hi:i<its.toArray.size:=by have:=(aB.mp hx).1;have:=rv.length;simp;lia
  exact wpAny_pyNext_enum_itemD (Draws.list (show X.A.in1.handled=none from I.ok.hd hc) j a ha its.toArray) he #[hj,sQ] hi O8 (by simp[O8,bD YW]) λy h' tk hy ho oS ht hsz hk=> ?_;exact#[_,rfl,wpAny_letOwnedTupleGo_enum ho λh2 YR n_=> ?_];let⟨u,hu,ru⟩:=rv.get hx;have eu:u=y:=by have:its.toArray[i]? =some u:= ⇑hu;rw[hy] at this;show(aW this).symm
  subst eu;have To:s.heap.objs.size≠e:=Nat.ne_of_gt (ax he);exact#[.ref s.heap.objs.size,bU H s.heap.objs.size (.tup [.int i,x]),A5 (t':=tk+1) I (λb o hb Mv q=>(n_.2 b hb).trans (hk b o hb Mv q)) fe fj #[by rw[bY];change 2<=16777216;decide,[.int i tk,u], .cons #[_,rfl] (.cons ru .nil),?_],rfl,#[_,x,I.b0.fresh (ak _),rfl,rfl,λys OI=>by rw[I.list_inj OI hq];show hx],#[#[u, ⇑YR],?_],λb hb=> ?_];show#[_,(n_.2 _ To).trans ht,rfl,_,rfl,rfl];let⟨⟨o,h1,r⟩,_⟩:=oS;show#[o,(n_.2 j (bD O8)).trans h1,r];have:H b=none:=(hf b hb).1;rw[bq (λz=> ?_)];show this;let⟨o,h1,_⟩:=hj;obtain rfl | hb:=aL.mp hb;show To z.symm;rw[aK.mp hb] at z;show absurd (ax h1) (by rw[z];show ce _)
 done:=by
   intro X hP hw hK hc i ae s σ H E I hf st hg;subst hP hw hK;let⟨xs,hq,hx⟩:=hg;let⟨its,rv,p,hz⟩:=I.list hq;let⟨⟨old,he⟩,hj⟩:=st;have sQ:s.heap.IsList a its.toArray:=p.isList;have ha:a≠j:=λz=>by let⟨o,h1,c1,_⟩:=sQ;let⟨o2,h2,c2,_⟩:=hj;rw[z] at h1;rw[h1] at h2;cases h2;rw[c1] at c2;simp at c2
   let⟨f0,f1,f2,f3,f4,f5⟩:=hf j (by simp);have hl:i=its.toArray.size:=by have:=rv.length;simp;lia
   exact wpAny_pyNext_enum_endD (Draws.list (show X.A.in1.handled=none from I.ok.hd hc) j a ha its.toArray) he #[hl▸hj,sQ] λh2 eb=>#[rfl,I.turned (t':=s.toks) (λb o hb q=>eb b o hb q) f0 f1 f3 f4 f5]
 self:=λ_ _ _ _ _ st h=>let ⟨⟨_,he⟩,_⟩:=st;wpAny_pyIter_enum he h
section
variable {X:Cx}{C1:cz Expr}{x1:_}{Ee:Pos}
def F_ (K:gg)(tl:TA):TI:=λσ H R=>tl σ H λvs H1=> ∃a,cg (vs= [.ref a]) (∃xs,gH K H1 a xs) (R (Hs K a) H1)
def Ga (K:gg)(tl:TA):TI:=λσ H R=>tl σ H λvs H1=> ∃a,cg (vs= [.ref a]) (∃xs,fh K H1 a xs) (R (Ht K a) H1)
def E4 {l:Expr}{tl:TA}{p pos:Pos}{tg:Expr}(et:tg= .Tuple C1 x1 Ee)(hg:Gl X "enumerate")(hm:X.mg "enumerate" =none)(ha:PA X [l] tl)(hs:starEach [l] X.env= [(false,eval l X.env)]:=by rfl):PI X tg (.Call (.Name "enumerate" p) [l] [] pos) (F_ X.K tl):=by subst et;intro ae s σ H R I h;exact Call_ (nX I hg hm Boot.«enumerate» (PyProof.Rows.callWith_type1 (ci (ha pos ae s σ H _ I h) λus s1 ⟨vs,H1,I1,r1,q1⟩=> ?_) hs rfl));let⟨a,e,⟨xs,hq⟩,q⟩:=q1;subst e;let⟨v,rfl,Xt⟩:=vals1 r1;cases Xt;let⟨its,rv,ht,hz⟩:=I1.tuple hq;exact zP (show s1.heap.IsTuple a its.toArray from ht) λh2 he hj hsz hk=> ?_;have I2:Inv X ae σ H1 {s1 with heap:=h2}:=I1.kept (t':=s1.toks) hk;exact wpAny_pyIter_enum he ?_;exact#[_,[s1.heap.objs.size+1,s1.heap.objs.size],_,_,H1,rfl,I2,yR a (s1.heap.objs.size+1) s1.heap.objs.size (Nat.succ_ne_self _),#[#[_,he],hj],λb hb=> ?_,q];obtain rfl | hb:=aL.mp hb;show I1.vL (Nat.le_succ _) (I1.b0.fresh (Nat.le_succ _));rw[aK.mp hb];show I1.vL (ak _) (I1.b0.fresh (ak _))
def E5 {l:Expr}{tl:TA}{p pos:Pos}{tg:Expr}(et:tg= .Tuple C1 x1 Ee)(hg:Gl X "enumerate")(hm:X.mg "enumerate" =none)(ha:PA X [l] tl)(hs:starEach [l] X.env= [(false,eval l X.env)]:=by rfl):PI X tg (.Call (.Name "enumerate" p) [l] [] pos) (Ga X.K tl):=by subst et;intro ae s σ H R I h;exact Call_ (nX I hg hm Boot.«enumerate» (PyProof.Rows.callWith_type1 (ci (ha pos ae s σ H _ I h) λus s1 ⟨vs,H1,I1,r1,q1⟩=> ?_) hs rfl));let⟨a,e,⟨xs,hq⟩,q⟩:=q1;subst e;let⟨v,rfl,Xt⟩:=vals1 r1;cases Xt;let⟨its,rv,ht,hz⟩:=I1.list hq;exact call_enumerate_list ht.isList λh2 he hj hsz hk=> ?_;have I2:Inv X ae σ H1 {s1 with heap:=h2}:=I1.kept (t':=s1.toks) hk;exact wpAny_pyIter_enum he ?_;exact#[_,[s1.heap.objs.size+1,s1.heap.objs.size],_,_,H1,rfl,I2,yS a (s1.heap.objs.size+1) s1.heap.objs.size (Nat.succ_ne_self _),#[#[_,he],hj],λb hb=> ?_,q];obtain rfl | hb:=aL.mp hb;show I1.vL (Nat.le_succ _) (I1.b0.fresh (Nat.le_succ _));rw[aK.mp hb];show I1.vL (ak _) (I1.b0.fresh (ak _))
end
end EN
namespace WL
open PySem PySem.Spec PyProof.Rows L2 EN
section
variable {X:Cx}
def Sd (K:gg):cz V ->Hp ->VK ->Prop:=λxs H Q=>bX λ(l:dw) (bs:cz Bool)=>cg (xs= [.ref l]) (fh K H l (bs.map V.bl)) (Q (.bl (bs.all id)) H)
def Sc (K:gg):cz V ->Hp ->VK ->Prop:=λxs H Q=>bX λ(l:dw) (bs:cz Bool)=>cg (xs= [.ref l]) (fh K H l (bs.map V.bl)) (Q (.bl (bs.any id)) H)
def FZ {its:cz cG}{bs:cz Bool}(rv:bK (bs.map V.bl) its){i:Nat}{v:cG}(e:its.toArray[i]? =some v):v= .bool (bs.getD i false) /\ i<bs.length:=by
 have e':its[i]? =some v:= ⇑e;have dD:=rv.length;have hi:i<bs.length:=by have:=(aB.mp e').1;rw[ao] at dD;lia
 let⟨w',hw,w8⟩:=rv.get (i:=i) (x:= .bl bs[i]) (by rw[aG,aw hi];rfl);rw[e'] at hw;cases hw;cases w8;show#[by simp[List.getD,hi],hi]
def Cg (bs:cz Bool):(List.range bs.length).all (λi=>bs.getD i false)=bs.all id:=by apply Bool.eq_iff_iff.mpr;rw[List.all_eq_true,List.all_eq_true];symm;intro h x hx;let⟨i,hi,rfl⟩:=List.mem_iff_getElem.mp hx;have:=h i (List.mem_range.mpr hi);simpa [List.getD,hi] using this;intro h i hi;rw[List.mem_range] at hi;have:=h bs[i] (List.getElem_mem hi);simpa [List.getD,hi] using this
def Ce (bs:cz Bool):(List.range bs.length).any (λi=>bs.getD i false)=bs.any id:=by apply Bool.eq_iff_iff.mpr;rw[List.any_eq_true,List.any_eq_true];symm;rintro⟨i,hi,h⟩;rw[List.mem_range] at hi;show#[bs[i],List.getElem_mem hi,by simpa [List.getD,hi] using h];rintro⟨x,hx,h⟩;let⟨i,hi,rfl⟩:=List.mem_iff_getElem.mp hx;show#[i,List.mem_range.mpr hi,by simpa [List.getD,hi] using h]
def Dg (hc:X.calm=true):dU X (.builtin "all") (Sd X.K):=by
 intro ae s σ H xs us Q I r h;let⟨l,bs,rfl,hs,q⟩:=h;let⟨u,rfl,ru⟩:=vals1 r;cases ru;let⟨its,rv,ht,hz⟩:=I.list hs;have hh:X.A.in1.handled=none:=I.ok.hd hc;have dD:its.toArray.size=bs.length:=by have:=rv.length;rw[ao] at this;simpa using this.symm
 have gP:l<s.heap.objs.size:=by let⟨_,e,_⟩:=ht.isList;show ax e
 exact PySem.call_all_walkS (wpAny_pyIter_list ht.isList ?_);exact#[s.heap.objs.size,_,_,_,its.toArray.size,_,_,λi=>bs.getD i false,rfl,(Walks.list hh s.heap.objs.size l (aN gP) its.toArray).toS,#[#[_,aJ _ rfl,rfl,rfl],ht.isList.push _],λi v s' Q' E' e hq=> ?_,λs' hm=> ?_];let⟨rfl,_⟩:=FZ rv e;show c4 hq;have hk: ∀b o,s.heap.get? b=some o ->s'.heap.get? b=some o:=λb o e=>hm.heap b o (λhI=>absurd (ax e) (by rw[aK.mp hI];show ce _)) (ai _ e);rw[Moved.eq_with hm,dD,Cg];show#[.bl _,H,I.kept (t':=s'.toks) hk,rfl,q]
def ux (hc:X.calm=true):dU X (.builtin "any") (Sc X.K):=by
 intro ae s σ H xs us Q I r h;let⟨l,bs,rfl,hs,q⟩:=h;let⟨u,rfl,ru⟩:=vals1 r;cases ru;let⟨its,rv,ht,hz⟩:=I.list hs;have hh:X.A.in1.handled=none:=I.ok.hd hc;have dD:its.toArray.size=bs.length:=by have:=rv.length;rw[ao] at this;simpa using this.symm
 have gP:l<s.heap.objs.size:=by let⟨_,e,_⟩:=ht.isList;show ax e
 exact PySem.call_any_walkS (wpAny_pyIter_list ht.isList ?_);exact#[s.heap.objs.size,_,_,_,its.toArray.size,_,_,λi=>bs.getD i false,rfl,(Walks.list hh s.heap.objs.size l (aN gP) its.toArray).toS,#[#[_,aJ _ rfl,rfl,rfl],ht.isList.push _],λi v s' Q' E' e hq=> ?_,λs' hm=> ?_];let⟨rfl,_⟩:=FZ rv e;show c4 hq;have hk: ∀b o,s.heap.get? b=some o ->s'.heap.get? b=some o:=λb o e=>hm.heap b o (λhI=>absurd (ax e) (by rw[aK.mp hI];show ce _)) (ai _ e);rw[Moved.eq_with hm,dD,Ce];show#[.bl _,H,I.kept (t':=s'.toks) hk,rfl,q]
variable {K:gg}
theorem bW.bools {H:Hp}: ∀ {bs:cz Bool} {vs:cz V},bW K H (bs.map wb) vs ->vs=bs.map V.bl
 | [],vs,h=>by simpa only[bL,bW] using h
 | n::r,vs,h=>by simp![az,bW] at h;let⟨v,t,rfl,h1,h2⟩:=h;rw[bW.bools h2,h1.eq];rfl
def W0:yi:=λxs M q=>bX λ(a:dw) (bs:cz Bool)=>cg (xs= [wr a]) (M a=some (.lst (bs.map wb))) (q (wb (bs.all id)) M)
def WY:yi:=λxs M q=>bX λ(a:dw) (bs:cz Bool)=>cg (xs= [wr a]) (M a=some (.lst (bs.map wb))) (q (wb (bs.any id)) M)
instance:IC K (Sd K) W0 where
 imp:=by rintro xs v M H q Q m r1 ⟨a,ns,rfl,hl,h⟩ k;let⟨v,rfl,r⟩:=r1.one;cases r.eq;let⟨vs,hv,rr⟩:=m a _ hl;cases rr.bools;show#[a,ns,rfl,fh.of hv,k _ M _ H h (aS.refl H) m WR.v]
instance:IC K (Sc K) WY where
 imp:=by rintro xs v M H q Q m r1 ⟨a,ns,rfl,hl,h⟩ k;let⟨v,rfl,r⟩:=r1.one;cases r.eq;let⟨vs,hv,rr⟩:=m a _ hl;cases rr.bools;show#[a,ns,rfl,fh.of hv,k _ M _ H h (aS.refl H) m WR.v]
def fE (l:cz W):cz W:=(List.range l.length).map λ(i:Nat)=> .tup [wi i,l.getD i wn]
def xO {l:cz W}:(fE l).length=l.length:=by simp[fE]
def Ks {l:cz W}{i:Nat}{y:W}(h:l[i]? =some y):(fE l)[i]? =some (.tup [wi i,y]):=by let⟨hi,rfl⟩:=aB.mp h;unfold fE;rw[aG,List.getElem?_range hi];simp[List.getD,hi]
def zy (a:WA):WI:=λρ M q=>a ρ M λxs M1=> ∃l,xs= [.tup l] /\ q (fE l) (λ_=>True) M1
def zz (a:WA):WI:=λρ M q=>a ρ M λxs M1=>bX λp l=>cg (xs= [wr p]) (M1 p=some (.lst l)) (q (fE l) (λM'=>M' p=some (.lst l)) M1)
def xG {M:Mp}{H:Hp}{i:Nat}{l:cz W}{vs:cz V}{p:dw}{x:V}(m:d6 K M H)(rr:bW K H l vs)(hi:vs[i]? =some x)(hp:H p=none): aS H (bU H p (.tup [.int i,x])) /\ d6 K M (bU H p (.tup [.int i,x])) /\ ∃z,(fE l)[i]? =some z /\ WR K (bU H p (.tup [.int i,x])) z (.ref p):=by let⟨d,hd,r⟩:=rr.back hi;have ts:=L2.dP.ts (bF (o:= .tup [.int i,x]) hp);show#[ts,m.new hp,_,Ks hd,WR.Qp (gH.of bC) (bW.cons WR.v (bW.cons (r.ts ts) bW.nil))]
def zB {H1:Hp}{p:dw}{l:cz W}{vs:cz V}(hv:gH K H1 p vs)(rr:bW K H1 l vs): ∀i M H,aS H1 H ->d6 K M H ->True ->((fE l).length=i ->(Hs K p).stop i H) /\ (i< (fE l).length ->(Hs K p).go i H) /\ ∀v H',i< (fE l).length ->(Hs K p).K_ i H v H' ->aS H H' /\ d6 K M H' /\ ∃x,(fE l)[i]? =some x /\ WR K H' x v:=by intro i M H ts m _;have Gc:=Un.Xk ts hv;have LI:=rr.ts ts;have hl:=LI.length;rw[xO];exact#[λh=>#[vs,Gc, ∅],λh=>#[vs,vs[i]'∅,Gc,by simp],λv H' hi y=> ?_];let⟨q,x,hq,rfl,rfl,y⟩:=y;show xG m LI (y vs Gc) hq
def zC {H1:Hp}{p:dw}{l:cz W}: ∀i M H,aS H1 H ->d6 K M H ->M p=some (.lst l) ->((fE l).length=i ->(Ht K p).stop i H) /\ (i< (fE l).length ->(Ht K p).go i H) /\ ∀v H',i< (fE l).length ->(Ht K p).K_ i H v H' ->aS H H' /\ d6 K M H' /\ ∃x,(fE l)[i]? =some x /\ WR K H' x v:=by intro i M H ts m hk;let⟨vs,hv,rr⟩:=m p _ hk;have hl:=rr.length;rw[xO];exact#[λh=>#[vs,fh.of hv, ∅],λh=>#[vs,vs[i]'∅,fh.of hv,by simp],λv H' hi y=> ?_];let⟨q,x,hq,rfl,rfl,y⟩:=y;show xG m rr (y vs (fh.of hv)) hq
instance {t:TA}{a:WA} [ia:IA K t a]:II K (F_ K t) (zy a) where
 imp:=λρ M σ H q R o h k=>ia.imp ρ M σ H _ _ o h λxs M1 v H1 ⟨l,e,h1⟩ t1 m1 r1=>by subst e;let⟨v,rfl,r⟩:=r1.one;let⟨p,vs,rfl,hv,rr⟩:=r.tup;show#[p,rfl,#[vs,hv],k _ _ _ M1 H1 h1 t1 m1 (zB hv rr)]
instance {t:TA}{a:WA} [ia:IA K t a]:II K (Ga K t) (zz a) where
 imp:=λρ M σ H q R o h k=>ia.imp ρ M σ H _ _ o h λxs M1 v H1 ⟨p,l,e,hp,h1⟩ t1 m1 r1=>by subst e;let⟨v,rfl,r⟩:=r1.one;cases r.eq;let⟨vs,hv,rr⟩:=m1 p _ hp;show#[p,rfl,#[vs,fh.of hv],k _ _ _ M1 H1 h1 t1 m1 zC]
def FW {a:WA}{ρ:b7}{M:Mp}{q:cz W ->(Mp ->Prop) ->Mp ->Prop}:zy a ρ M q=a ρ M λxs M1=>zh xs λx=>tupK x λl=>q (fE l) (λ_=>True) M1:=by unfold zy zh tupK;congr 1;funext xs M1;apply propext;symm;rintro⟨l,h,k⟩;show#[_,h,l,rfl,k];rintro⟨_,h,l,rfl,k⟩;show#[l,h,k]
def FX {a:WA}{ρ:b7}{M:Mp}{q:cz W ->(Mp ->Prop) ->Mp ->Prop}:zz a ρ M q=a ρ M λxs M1=>zh xs λx=>eC x λp=>lstK (M1 p) λl=>q (fE l) (λM'=>M' p=some (.lst l)) M1:=by unfold zz zh eC lstK;congr 1;funext xs M1;apply propext;symm;rintro⟨p,l,h,h2,k⟩;show#[_,h,p,rfl,l,h2,k];rintro⟨_,h,p,rfl,l,h2,k⟩;show#[p,l,h,h2,k]
end
end WL
namespace WL
open PySem L2
def Pw {xs:cz W}{keep:Mp ->Prop}{M1:Mp}{own:Nat}{fr:cz Nat}{ρ:b7}{g:WG}{c:WT}{el:WE}{q:WK}(hz:xs.length<=sizeLine) (h: ∀p,M1 p=none -> ∃I:Nat ->cz W ->Mp ->Prop,eZ (I 0 [] (um M1 p (.lst []))) (∀i ys M,i<=xs.length ->I i ys M ->keep M /\ M p=some (.lst ys) /\ ys.length<=i) (∀i x ys M,xs[i]? =some x ->I i ys M -> ∀N:cz W ->Mp ->Prop,(∀ys M,I (i+1) ys M ->N ys M) ->g x (m8 own fr ρ) M λρ2 M2=>c ρ2 M2 λb M3=>gh b (el ρ2 M3 λy M4=>M4 p=some (.lst ys) /\ N (ys++ [y]) (um M4 p (.lst (ys++ [y])))) (N ys M3)) (∀ys M,I xs.length ys M ->q (wr p) M)):x_ xs keep own fr g c el ρ M1 q:=by exact#[hz,λp hp=> ?_];let⟨I,h0,h1,h2,h3⟩:=h p hp;show#[I,h0,h1,λi x ys M hx hI=>h2 i x ys M hx hI _ λ_ _ z=>z,h3]
end WL
namespace WQ
open PySem L2 WL WP
def ML (p:Int)(l:cz Int):Prop:=(∀x∈l,0<=x /\ x<p) /\ ∀x,l.getLast? =some x ->x≠0
def PH (row:cz Int)(k:Nat)(x:Int):cz Int:=row.set k (row.getD k 0+x)
def fA (row:cz Int)(o:Nat)(l:cz Int)(n:Nat):cz Int:=(List.range n).foldl (λr i=>PH r (o+i) (l.getD i 0)) row
def pw (p s:Int):Nat ->Int
 | 0=>1
 | n+1=>pw p s n*s % p
end WQ
namespace L2
open PySem PySem.Spec PyProof.Rows
def yo.okE {P:gA}{w:gB}{K:gg}{mg:Str ->cT cG}{base:gC}{CX:yK}{x qual:Str}{st:Stmt}{f:dw}{fd:gN}{N ps:cz Str}{k:Nat}{sp:Sp}(F:yo K x qual st f fd)(S:bR N ps (aE st))(len: ∀vs H Q E,sp vs H Q E ->vs.length=ps.length) (ij: ∀ (cdv:cG) (A:hV) (outer:cz Env) (s:cL) (H:Hp) (vs:cz V) (Q:VK) (E:XK),dz k (A.deeper (envOfC qual (aE st) s.heap.objs.size f cdv)) ->sp vs H Q E ->∃t,sC (dE CX P w K mg base N qual (aE st) f cdv A outer s H E) (c6 st) t /\ t {nx:=λ_ H'=>Q .dJ H',rt:=Q} (start N vs) H):bv P w K mg base CX (k+1) f fd ps sp:=by let⟨oc,od,kV,gQ,pm,an,cdv,ct,ze,rfl,lk,A_⟩:=F.ex;show Mw lk A_ S len λA outer s H vs Q E hr CM=>ij cdv A outer s H vs Q E hr CM
end L2
namespace WL
open PySem L2 PySem.Spec PyProof.Rows
abbrev WX:=dw ->Mp ->Prop
abbrev e_:=cz W ->Mp ->WK ->WX ->Prop
section
variable {K:gg}
def up (e:WX):WX:=λC M'=> ∃M0,Sm M0 M' /\ e C M0
def Ex (K:gg)(e:WX):XK:=λcls _ H'=> ∃C M',cls= .ref C /\ e C M' /\ d6 K M' H'
def sw (K:gg)(p:e_):Sp:=λvs H Q E=> ∃ (xs:cz W) (M:Mp) (q:WK) (e:WX),bW K H xs vs /\ d6 K M H /\ p xs M q e /\ (∀x M' v H',q x M' ->aS H H' ->d6 K M' H' ->WR K H' x v ->Q v H') /\ ∀C M' H',e C M' ->d6 K M' H' ->E (.ref C) none H'
def Eb (p:e_)(e:WX)(a:WA):WE:=λρ M q=>a ρ M λxs M1=>p xs M1 q (up e)
instance {p:e_}{e:WX}{t:TA}{a:WA} [ia:IA K t a]:IE K (oB (sw K p) [] (Ex K e) t) (Eb p e a) where
 imp:=λρ M σ H q Q o h k=>ia.imp ρ M σ H _ _ o h λx M1 v H1 h1 t1 m1 r1=>#[x,M1,q,_,by rw[cI];show r1,m1,h1,λy M4 v4 H4 h4 t4 m4 r4=>k y M4 v4 H4 h4 (t1.trans t4) m4 r4,λC M' H' ⟨M0,s,h⟩ m=>#[C,M0,rfl,h,m.sub s]]
def DX (C:dw)(e:WX)(a:WA):WS:=λ_ ρ M=>a ρ M λxs M'=>xs.length<=sizeLine /\ up e C M'
instance {C:dw}{e:WX}{t:TA}{a:WA} [ia:IA K t a]:IS K (yT C (Ex K e) t) (DX C e a) where
 imp:=λρ M σ H D' D o h ends=>ia.imp ρ M σ H _ _ o h λx M1 v H1 ⟨hl,M0,s,h1⟩ t1 m1 r1=>#[by rw[r1.length];show hl,C,M0,rfl,h1,m1.sub s]
def Bc (i:Nat)(D:dA):dA:= {nx:=λσ H=>D.nx (σ.set i none) H,rt:=D.rt,bk:=λσ H=>D.bk (σ.set i none) H,ct:=λσ H=>D.ct (σ.set i none) H}
def BN.EC {H:Hp}{ρ:b7}{σ:L2.St}(h:BN K H ρ σ)(i:Nat):BN K H (ρ.set i none) (σ.set i none):=by exact#[by simp[h.1],λj y e=> ?_];rw[List.getElem?_set] at e ⊢;split at e;split at e<;>cases e;rename_i hj;rw[ah hj];show h.2 j y e
theorem Ok.EC {ρ:b7}{M:Mp}{σ:L2.St}{H:Hp}(o:Ok K ρ M σ H)(i:Nat):Ok K (ρ.set i none) M (σ.set i none) H:=#[o.env.EC i,o.hp]
def Q3 (K:gg):yi:=λxs M q=> ∃a C c cu b,xs= [wr a, .v c] /\ M a=some (.exc C) /\ DD K C /\ RelV c cu /\ (∀u,RelV c u ->u=cu) /\ W.kitOne K (.ref C) cu=some b /\ q (wb b) M
instance:IC K (Ci K) (Q3 K) where
 imp:=by rintro xs v M H q Q m r1 ⟨a,C,c,cu,b,rfl,ha,kc,rc,only,e,h⟩ k;let⟨v,u,rfl,r,r'⟩:=r1.two;cases r.eq;cases r'.eq;show#[a,C,c,cu,b,rfl,m a _ ha,kc,rc,only,e,k _ M _ H h (aS.refl H) m WR.v]
def xp {P:gA}{w:gB}{mg:Str ->cT cG}{base:gC}{x qual:Str}{st:Stmt}{f:dw}{fd:gN}{N ps:cz Str}{k:Nat}{p:e_}(F:yo K x qual st f fd)(S:bR N ps (aE st))(len: ∀vs M q e,p vs M q e ->vs.length=ps.length) (ij: ∀ (cdv:cG) (A:hV) (outer:cz Env) (s:cL) (H:Hp) (E:XK) (e:WX),dz k (A.deeper (envOfC qual (aE st) s.heap.objs.size f cdv)) ->BQ (dE (gv P w) P w K mg base N qual (aE st) f cdv A outer s H E) (Ex K e) ->fQ (gv P w) (dE (gv P w) P w K mg base N qual (aE st) f cdv A outer s H E) (Ex K e) ->∃ t,sC (dE (gv P w) P w K mg base N qual (aE st) f cdv A outer s H E) (c6 st) t /\ ∃w',IS K t w' /\∀vs M q,p vs M q e ->w' {nx:=λ_ M'=> ∃M0,Sm M0 M' /\ q wn M0,rt:=λx M'=> ∃M0,Sm M0 M' /\ q x M0} (vs.map some++List.replicate (N.length - vs.length) none) M): bv P w K mg base (gv P w) (k+1) f fd ps (sw K p):=by
 exact yo.okE F S (λvs H Q E ⟨xs,M,q,e,r,m,h,_⟩=>by rw[r.length];show len xs M q e h) λcdv A outer s H vs Q E hr h=> ?_;let⟨xs,M,q,e,r,m,h,k',kE⟩:=h;have hE: ∀c d H',Ex K e c d H' ->E c none H':=λc d H' ⟨C,M',ec,he,m'⟩=>by rw[ec];show kE C M' H' he m'
 let⟨t,h1,w',h2,h3⟩:=ij cdv A outer s H E e hr (λae σ H1 s1 h' ea cls us I mk z=>Gy ae σ H1 s1 h' ea cls us I mk (hE _ _ _ z)) (λae σ H1 s1 ev s2 I z=>zd ae σ H1 s1 ev s2 I (by let⟨ea,cls,a0,B,H',r1,r2,r3,r4,r5,r6,r7,r8,r9,r⟩:=z;show#[ea,cls,a0,B,H',r1,r2,r3,r4,r5,r6,r7,r8,r9,hE _ _ _ r]));exact#[t,h1,h2.imp _ M _ H _ _ #[#[?_,λi x e=> ?_],m] (h3 xs M q h) #[?_,?_,λ_ _ _ _ h=>h.elim,λ_ _ _ _ h=>h.elim]];have:=r.length;simp[L2.start,this];have hl:=r.length;unfold L2.start;by_cases hi:i<xs.length;rw[aU ⇑hi,aG] at e;cases ex:xs[i]? with
 | none=>rw[ex] at e;cases e
 | some y=>rw[ex] at e;cases e;let⟨v,hv,rv⟩:=r.at ex;exact#[v,?_,rv];rw[aU (by simp;lia),aG,hv];rfl
 rw[aO ⇑hi,cP] at e;split at e<;>cases e;rintro ρ' M' σ' H' ⟨M0,s,hq⟩ ts o;show k' _ M0 _ H' hq ts (o.hp.sub s) WR.v;rintro x M' v H' ⟨M0,s,hq⟩ ts m' r';show k' x M0 v H' hq ts (m'.sub s) r'
end
end WL
namespace L2
open PySem PySem.Spec PyProof.Rows PySem.Calls
section
variable {X:Cx}
theorem Jt {P:gA}{w:gB}{K:gg}{mg:Str ->cT cG}{base:gC}{N:cz Str}{qual:Str}{scope:Scope}{f:dw}{cd:cG}{A:hV}{outer:cz Env}{s:cL}{H:Hp}{E:XK}: PassesOwn (model P w) (dE (gv P w) P w K mg base N qual scope f cd A outer s H E).A (dE (gv P w) P w K mg base N qual scope f cd A outer s H E).env (dE (gv P w) P w K mg base N qual scope f cd A outer s H E).xe:=PassesOwn.leaving (Q₁:=λe s2=>gv P w outer H s E e s2)
def RA (te:TE):TE:=λσ H Q=>te σ H λv H1=> ∃y,cg (v= .str y) (y.length<=sizeLine) (Q (.str y) H1)
def qD {e:Expr}{te:TE}{pos:Pos}(he:PE X e te):PE X (.FormattedValue e (-1) none pos) (RA te):=by
 intro ae s σ H Q I h;exact FormattedValue_plain (ci (he ae s σ H _ I h) ?_);rintro v s1 ⟨x,H1,I1,r,y,rfl,hy,q⟩;let⟨t,rfl⟩:=(show ∃t,v=Value.str y t from r)
 show formatField_str (λt' tk=>#[.str y,H1,I1.tok tk,#[t',rfl],q]) hy
def RB (te:TE):TE:=λσ H Q=>te σ H λv H1=> ∃i:Int,cg (v= .int i) (i.natAbs.log2<1920) (Q (.str (toString i)) H1)
def E_ {e:Expr}{te:TE}{pos:Pos}(he:PE X e te):PE X (.FormattedValue e (-1) none pos) (RB te):=by
 intro ae s σ H Q I h;exact FormattedValue_plain (ci (he ae s σ H _ I h) ?_);rintro v s1 ⟨x,H1,I1,r,i,rfl,hi,q⟩;let⟨t,rfl⟩:=(show ∃t,v=Value.int i t from r)
 show formatField_int_small hi #[.str _,H1,I1.tok _,#[_,rfl],q]
def tJ0 (out:Str):TE:=λ_ H Q=>out.length<=sizeLine /\ Q (.str out) H
def tJ1 (te:TE)(k:Str ->TE)(out:Str):TE:=λσ H Q=>te σ H λv H1=> ∃y,cg (v= .str y) ((out++y).length<=sizeLine) (k (out++y) σ H1 Q)
def PJ (X:Cx)(es:cz Expr)(k:Str ->TE):Prop:= ∀ (out:Str) (ae:cz (dw×Obj)) (s:cL) (σ:St) (H:Hp) (Q:VK),Inv X ae σ H s ->k out σ H Q ->wpAny (model X.prog X.w) X.A (joinParts out (evalEach es X.env)) (EP X ae σ Q) X.xe s
theorem li:PJ X [] tJ0:=λout ae s σ H Q I ⟨hz,q⟩=>joinParts_nil #[.str out,H,I.tok _,#[_,rfl],q] hz
def dB {e:Expr}{es:cz Expr}{te:TE}{k:Str ->TE}(he:PE X e te)(hk:PJ X es k)(hs:evalEach (e::es) X.env=eval e X.env::evalEach es X.env:=by rfl):PJ X (e::es) (tJ1 te k):=by
 intro out ae s σ H Q I h;rw[hs];exact joinParts_cons (ci (he ae s σ H _ I h) ?_);rintro v s1 ⟨x,H1,I1,r,y,rfl,hz,q⟩;let⟨t,rfl⟩:=(show ∃t,v=Value.str y t from r)
 show#[hz,hk _ ae s1 σ H1 Q I1 q]
theorem iE {e e':Expr}{es:cz Expr}{k:Str ->TE}{pos:Pos}(h:PJ X (e::e'::es) k):PE X (.JoinedStr (e::e'::es) pos) (k Str.empty):=λae s σ H Q I hq=>JoinedStr_many (h Str.empty ae s σ H Q I hq)
end
end L2
namespace WL
open PySem L2 PySem.Spec PyProof.Rows
section
variable {K:gg}
def MU (a:WE):WE:=λρ M q=>a ρ M λx M1=> ∃y,cg (x=ws y) (y.length<=sizeLine) (q (ws y) M1)
instance {t:TE}{a:WE} [ia:IE K t a]:IE K (RA t) (MU a) where
 imp:=λρ M σ H q Q o h k=>ia.imp ρ M σ H _ _ o h λx M1 v H1 ⟨y,e,hz,h1⟩ t1 m1 r1=>by subst e;show#[y,r1.eq,hz,k _ M1 _ H1 h1 t1 m1 WR.v]
def MV (a:WE):WE:=λρ M q=>a ρ M λx M1=> ∃i:Int,cg (x=wi i) (i.natAbs.log2<1920) (q (ws (toString i)) M1)
instance {t:TE}{a:WE} [ia:IE K t a]:IE K (RB t) (MV a) where
 imp:=λρ M σ H q Q o h k=>ia.imp ρ M σ H _ _ o h λx M1 v H1 ⟨y,e,hz,h1⟩ t1 m1 r1=>by subst e;show#[y,r1.eq,hz,k _ M1 _ H1 h1 t1 m1 WR.v]
def wJ0 (out:Str):WE:=λ_ M q=>out.length<=sizeLine /\ q (ws out) M
instance {out:Str}:IE K (tJ0 out) (wJ0 out) where
 imp:=λρ M σ H q Q o ⟨hz,h⟩ k=>#[hz,k _ M _ H h (aS.refl H) o.hp WR.v]
def Wy (a:WE)(f:Str ->WE)(out:Str):WE:=λρ M q=>a ρ M λx M1=> ∃y,cg (x=ws y) ((out++y).length<=sizeLine) (f (out++y) ρ M1 q)
instance {t:TE}{a:WE}{f:Str ->TE}{g:Str ->WE}{out:Str} [ia:IE K t a] [ig: ∀o,IE K (f o) (g o)]:IE K (tJ1 t f out) (Wy a g out) where
 imp:=λρ M σ H q Q o h k=>ia.imp ρ M σ H _ _ o h λx M1 v H1 ⟨y,e,hz,h1⟩ t1 m1 r1=>by subst e;show#[y,r1.eq,hz,(ig _).imp ρ M1 σ H1 q Q (o.mv t1 m1) h1 λx2 M2 v2 H2 q2 t2 m2 r2=>k x2 M2 v2 H2 q2 (t1.trans t2) m2 r2]
end
end WL
namespace L2
open PySem PySem.Spec PyProof.Rows PySem.Calls PySem.W
def X6:cG ->Str
 | .str n _=>n
 | _=> ""
def Iy {K:gg}{mg:Str ->cT cG}{h₀:gC}(m:Mod K mg h₀)(p:gA): ∃oP mb,W.TopRead p oP mg mb h₀:=by let⟨mb,b,hb⟩:=m.blt;let⟨o,es,ep,ho,hd,hs,hn⟩:=m.glob;exact#[es.toList.map (λe=>X6 e.key),mb,m.glob,b,m.nolimit,hb,λx _ hx _ _ _=> ?_];rw[<- hn x];change(es.find? λe=>e.key.isStr x).map _=none;rw[Array.find?_eq_none.mpr];rfl;intro e he hk;let⟨n,q,hq⟩:=hs e he;exact hx (List.mem_map.mpr #[e, ⇑he,?_]);rw[hq] at hk ⊢;first | show beq_iff_eq.mp hk | show(beq_iff_eq.mp hk).symm | show of_decide_eq_true hk | show(of_decide_eq_true hk).symm
def l6 {K:gg}{mg:Str ->cT cG}{h₀:gC}{x:Str}{C:dw}{bmB:cz cG}{LW:String}(m:Mod K mg h₀)(e:nsIn K mainGlobals x=some (some (.ref C)))(q:excIn K C bmB LW=true):OwnCls x C bmB LW mg h₀:=by let⟨_,_,T⟩:=Iy m default;show own_of_in m.Mm T e q
structure nw (K:PySem.W.Frag)(x:Str)(C:Addr):Prop where
 ns:nsIn K mainGlobals x=some (some (.ref C))
 exc:excIn K C Ui "ValueError.__new__" =true
 k:DD K C
section
variable {X:Cx}
theorem eG {E:XK}{x:Str}{C:dw}{np dg pos:Pos}{e₀:Expr}{rest:cz Expr}{t:TA}(hF:BQ X E)(hc:X.calm=true)(hg:Gl X x)(O:nw X.K x C)(ha:PA X (e₀::rest) t) (kU:(x==("__debug__" :Str))=false:=by decide) (he:starEach (e₀::rest) X.env=(false,eval e₀ X.env)::starEach rest X.env:=by rfl) (nA:(backTo dg (starEach rest X.env)).any (·.1)=false:=by rfl): PS X (.Raise (some (.Call (.Name x np) (e₀::rest) [] dg)) none pos) (yT C E t):=λae s σ H D I h=>EY hF hc hg (l6 I.ok.mod O.ns O.exc) ha kU he nA ae s σ H D I h
end
end L2
namespace WQ
open PySem L2 WL WP
def Kt (d:Str×Int):W:= .tup [ws d.1,wi d.2]
def sstep (s:Int×Pt)(d:Str×Int):Int×Pt:=if d.1= "go" then(s.1+d.2,s.2) else(s.1,s.2++ [(s.1,d.2)])
def eP (ds:cz (Str×Int)):Int×Pt:=ds.foldl sstep (0,[])
def nH (ds:cz (Str×Int))(d:Str×Int):eP (ds++ [d])=sstep (eP ds) d:=by unfold eP;rw[List.foldl_append];rfl
def qt (ds:cz (Str×Int)):(eP ds).2.length<=ds.length:=by
 induction ds using j8 with
 | h0=>simp[eP]
 | h1 l a ih=>rw[nH,aV];unfold sstep;split<;>simp<;>lia
def TY {l:cz (Str×Int)}{i:Nat}{x:W}(h:(l.map Kt)[i]? =some x): ∃q,l[i]? =some q /\ x=Kt q:=by
 rw[aG] at h;cases e:l[i]? with
 | none=>rw[e] at h;cases h
 | some q=>rw[e] at h;cases h;show#[q,rfl,rfl]
def Good (d:Str×Int):Prop:=d.1= "go" \/ d.1= "turn"
def NX (C:dw):e_:=λxs M q e=>dY λ(a:dw) (p:Int) (ds:cz (Str×Int))=>MJ (xs= [wi p,wr a]) (M a=some (.lst (ds.map Kt))) (0<p) (KW (eP ds).2) (ds.length<=50000) (∀d∈ds,d.1.length<=100) ((∀d∈ds,Good d) ->q (gd ((eP ds).1,nV p (eP ds).2)) M) ((∃d∈ds,¬Good d) ->e C M)
end WQ
namespace WL
open PySem L2
theorem FR {β:Sort _}{R:b7 ->Mp ->Prop}{G:Prop}(ρ:β ->b7)(M:β ->Mp)(P:β ->Prop)(use:(∀b,P b ->hold R (ρ b) (M b)) ->G)(rest: ∀b,P b ->hold R (ρ b) (M b)):G:=use rest
theorem zK {M:Mp}{q:WK}{x y:W}{d:Dt}(hx:DR M x d)(hy:DR M y d)(hd:vO d<=50)(hs:iy d d=true)(h:q (wb true) M):Q4 x y M q:=#[d,d,hx,hy,hs,hd,by rw[jT];show h]
theorem FC {M:Mp}{q:WK}{x y:W}{d:Dt}(hx:DR M x d)(hy:DR M y d)(hd:vO d<=50)(hs:iy d d=true)(h:q (wb false) M):MS x y M q:=#[d,d,hx,hy,hs,hd,by rw[jT];show h]
def Ps {α:Type}(f:α ->W)(g:α ->Dt):Prop:= ∀a,Pu (f a)=some (g a)
theorem xY {α:Type}{f:α ->W}{g:α ->Dt}(h:Ps f g): ∀l:cz α,sW (l.map f)=some (l.map g)
 | []=>rfl
 | a::l=>by rw[az,sW,h a,xY h l];rfl
theorem DR.list {α:Type}{M:Mp}{a:dw}{f:α ->W}{g:α ->Dt}{l:cz α}(h:Ps f g)(ha:M a=some (.lst (l.map f))):DR M (wr a) (.lst (l.map g)):= .inr #[a,_,_,rfl,ha,xY h l,rfl]
theorem p_ {K:gg}{M:Mp}{q:WK}{a C D:dw}{b:Bool}(ha:M a=some (.exc C))(k:DD K C)(e:W.kitOne K (.ref C) (.ref D)=some b)(h:q (wb b) M):Q3 K [wr a, .v (.ref D)] M q:=#[a,C, .ref D, .ref D,b,rfl,ha,k,rfl,λ_ h=>h,e,h]
end WL
namespace L2
open PySem PySem.Spec PyProof.Rows
def Keeps (S:Nat ->Prop)(g:TG):Prop:= ∀ (σ:St) (v:V) (H:Hp) (Q:St ->Hp ->Prop),g v σ H Q ->g v σ H λσ2 H2=>(σ2.length=σ.length /\ ∀i,¬S i ->σ2[i]? =σ[i]?) /\ Q σ2 H2
def mf {S:Nat ->Prop}{n:Nat}(h:S n):Keeps S (i5 n):=by intro σ v H Q q;exact#[#[by simp,λi hi=> ?_],q];rw[List.getElem?_set_ne];intro e;subst e;show hi h
def A0 {K:gg}{S:Nat ->Prop}{n m:Nat}(h:S n)(h':S m):Keeps S (Km K 2 (uf (i5 n) (uf (i5 m) Kn))):=by rintro σ v H Q ⟨a,xs,e,hs,hl,x,r,rfl,y,r',rfl,rfl,q⟩;exact#[a,_,e,hs,hl,x,_,rfl,y,_,rfl,rfl,#[by simp,λi hi=> ?_],q];rw[List.getElem?_set_ne,List.getElem?_set_ne];intro e;subst e;show hi h;intro e;subst e;show hi h'
def BF {own:Nat}{fr:cz Nat}{σ:St}{i:Nat}{v:V}(h:(ji own fr σ)[i]? =some (some v)):own<=i:=by unfold ji at h;obtain c | c:=Nat.lt_or_ge i own;rw[aU ⇑c,cP,aj c] at h;cases h;show c
def inW (Aa:TI)(g2:TG)(wH:TT)(te:TE)(σ2:St)(p:dw)(H4:Hp)(N:cz V ->Hp ->Prop):Prop:=Aa σ2 H4 λJ2 H5=> ∃Z:Nat ->Nat ->cz V ->Hp ->Prop,(∃m zs,Z 0 m zs H5) /\ ∀j k zs H6,Z j k zs H6 ->H6 p=some (.lst zs) /\((J2.stop j H6 /\ N zs H6) \/ (J2.go j H6 /\ zs.length<sizeLine /\ ∀y H7,J2.K_ j H6 y H7 ->g2 y σ2 H7 λσ3 H8=>wH σ3 H8 λc H9=>if c=true then te σ3 H9 λz QE=> ∃ws,QE p=some (.lst ws) /\ ws.length<sizeLine /\ ∃k',k'<k /\ Z (j+1) k' (ws++ [z]) (bU QE p (.lst (ws++ [z]))) else ∃ws k',k'<k /\ Z (j+1) k' ws H9))
def G6 (J:It)(own:Nat)(fr:cz Nat)(g:TG)(tc:TT)(Aa:TI)(g2:TG)(wH:TT)(te:TE)(σ:St)(p:dw)(H1:Hp)(Q:VK):Prop:=∃ W :Nat ->Nat ->cz V ->Hp ->Prop,(∃m,W 0 m [] (bU H1 p (.lst []))) /\ ∀i m ys H',W i m ys H' ->H' p=some (.lst ys) /\((J.stop i H' /\ Q (.ref p) H') \/ (J.go i H' /\ ∀x H2,J.K_ i H' x H2 ->g x (ji own fr σ) H2 λσ2 H3=>tc σ2 H3 λb H4=>if b=true then inW Aa g2 wH te σ2 p H4 λzs H5=> ∃m',m'<m /\ W (i+1) m' zs H5 else ∃zs m',m'<m /\ W (i+1) m' zs H4))
def yX (wi:TI)(own:Nat)(fr:cz Nat)(g:TG)(tc:TT)(Aa:TI)(g2:TG)(wH:TT)(te:TE):TE:=λσ H Q=>wi σ H λJ H1=> ∀p,H1 p=none ->G6 J own fr g tc Aa g2 wH te σ p H1 Q
section
variable {prog:gA}{w:gB}{A:hV}{R:Result ->cL ->Prop}{s:cL}
abbrev t7 (fF tg iter:Expr)(fD:cz Expr)(gT bZ:Expr)(dO:cz Expr)(scope:Scope)(pos:Pos):Expr:= .ListComp fF [#[tg,iter,fD,0],#[gT,bZ,dO,0]] scope pos
def Iw (fF tg iter:Expr)(fD:cz Expr)(gT bZ:Expr)(dO:cz Expr)(scope:Scope)(pos:Pos)(it d4:cG)(env:Env): compTurn (t7 fF tg iter fD gT bZ dO scope pos) 0 it d4 env=(do
 standAt iter.pos
 let r <- pyNext it
 match r with
 | none=>pure (.done .next)
 | some v=>do
  letOwnedTupleGo tg it v
  assign tg env v
  let ok <- forIn fD true λc r=>if r=true then do let ok <- isTrue c env (eval c env);pure (ForInStep.yield ok) else pure (ForInStep.yield r)
  if ok=true then do
   let x <- eval bZ env
   standAt bZ.pos
   let x <- foldedSetIterable bZ env x
   let i2 <- holding [x] (pyIter x)
   let _ <- runOwn (.compStart (t7 fF tg iter fD gT bZ dO scope pos) 1 i2 d4 env) env
   again (.compLoop (t7 fF tg iter fD gT bZ dO scope pos) 0 it d4 env)
  else again (.compLoop (t7 fF tg iter fD gT bZ dO scope pos) 0 it d4 env)):=by rfl
def Iv (fF tg iter:Expr)(fD:cz Expr)(gT bZ:Expr)(dO:cz Expr)(scope:Scope)(pos:Pos)(it d4:cG)(env:Env): compTurn (t7 fF tg iter fD gT bZ dO scope pos) 1 it d4 env=(do
 standAt bZ.pos
 let r <- pyNext it
 match r with
 | none=>pure (.done .next)
 | some v=>do
  letOwnedTupleGo gT it v
  assign gT env v
  let ok <- forIn dO true λc r=>if r=true then do let ok <- isTrue c env (eval c env);pure (ForInStep.yield ok) else pure (ForInStep.yield r)
  if ok=true then do
   ((do let _ <- call (.builtin "list.append") [d4, <- eval fF env]):Sem Unit)
   again (.compLoop (t7 fF tg iter fD gT bZ dO scope pos) 1 it d4 env)
  else again (.compLoop (t7 fF tg iter fD gT bZ dO scope pos) 1 it d4 env)):=by rfl
def Ev {fF tg iter:Expr}{fD:cz Expr}{gT bZ:Expr}{dO:cz Expr}{scope:Scope}{pos:Pos}{it d4:cG}{env:Env} (h0:codeAny (model prog w) A (.compLoop (t7 fF tg iter fD gT bZ dO scope pos) 1 it d4 env) R s) (h:wpAny (model prog w) A (pyIter it) (λYd s'=>codeAny (model prog w) A (.compLoop (t7 fF tg iter fD gT bZ dO scope pos) 1 Yd d4 env) R s') (notedBy (model prog w) A env λx s'=>R (.error x) s') s): codeAny (model prog w) A (.compStart (t7 fF tg iter fD gT bZ dO scope pos) 1 it d4 env) R s:=by
 exact codeAny_of_tree ?_;change wpAny _ _ ((compStart (t7 fF tg iter fD gT bZ dO scope pos) 1 it d4 env).onRaise (λx=>do noteFrame x env;standAt theWindowsPlace)) _ _ s;exact wpAny_notedAt ?_;unfold compStart;change wpAny _ _ (ask >>=_) _ _ s;exact af (wpAny_askSetting (wpAny_ite ?_));split;first
 | show af (aC (aC (And.intro rfl h0)))
 | show aC (And.intro rfl h0)
 first
 | show af (wpAny_rule (af (wpAny_standAt (af (a9 h (λYd s' h'=>aC (And.intro rfl h')) λ_ _ x=>x)))))
 | (exact af (wpAny_rule ?_);change wpAny _ _ (standAt bZ.pos >>=_) _ _ s;show af (wpAny_standAt (af (a9 h (λYd s' h'=>aC (And.intro rfl h')) λ_ _ x=>x))))
theorem JP {fF tg iter:Expr}{fD:cz Expr}{gT bZ:Expr}{dO:cz Expr}{scope:Scope}{pos:Pos}{it d4:cG}{env:Env}(I:Nat ->cL ->Prop) (turn : ∀n s,I n s ->wpAny (model prog w) A (pyNext it) (λr s₁=>match r with
   | none=>R (.ok .next) s₁
   | some v=>wpAny (model prog w) A (letOwnedTupleGo gT it v) (λ_ s₀=>wpAny (model prog w) A (assign gT env v) (λ_ s₂=>
    wpAny (model prog w) A (forIn dO true λc r=>if r=true then do let ok <- isTrue c env (eval c env);pure (ForInStep.yield ok) else pure (ForInStep.yield r)) (λok s₃=>if ok=true then wpAny (model prog w) A (eval fF env) (λx s₄=>wpAny (model prog w) A (call (.builtin "list.append") [d4,x]) (λ_ s₅=> ∃m,m<n /\ I m s₅) (λ_ _=>False) s₄) (λ_ _=>False) s₃ else ∃m,m<n /\ I m s₃) (λ_ _=>False) s₂)
    (λ_ _=>False) s₀) (λ_ _=>False) s₁) (λ_ _=>False) s)
  (n:Nat) (h:I n s):codeAny (model prog w) A (.compLoop (t7 fF tg iter fD gT bZ dO scope pos) 1 it d4 env) R s:=by
 exact codeAny_loop rfl I (λn s hI=> ?_) n h
 change wpAny _ A ((compTurn (t7 fF tg iter fD gT bZ dO scope pos) 1 it d4 env).onRaise (λx=>do noteFrame x env;theTreesLotGoes x)) _ _ s
 exact wpAny_noted ?_
 rw[Iv]
 exact af (wpAny_standAt (af (a9 (turn n s hI) (λr s₁ h₁=> ?_) λ_ _ h'=>h'.elim)))
 cases r with
 | none=>show aC h₁
 | some v=>
  exact af (a9 h₁ (λ_ s₀ S0=> ?_) λ_ _ h'=>h'.elim);exact af (a9 S0 (λ_ s₂ h₂=> ?_) λ_ _ h'=>h'.elim);exact af (a9 h₂ (λSy s₃ h₃=> ?_) λ_ _ h'=>h'.elim);cases Sy with
  | false=>show aC #[rfl,h₃]
  | true=>show af (af (a9 h₃ (λx s₄ h₄=>af (a9 h₄ (λ_ s₅ h₅=>aC (aC #[rfl,h₅])) λ_ _ h'=>h'.elim)) λ_ _ h'=>h'.elim))
theorem JQ {fF tg iter:Expr}{fD:cz Expr}{gT bZ:Expr}{dO:cz Expr}{scope:Scope}{pos:Pos}{it d4:cG}{env:Env}(I:Nat ->cL ->Prop)(hs: ∀x,foldedSetIterable bZ env x=pure x) (turn : ∀n s,I n s ->wpAny (model prog w) A (pyNext it) (λr s₁=>match r with
   | none=>R (.ok .next) s₁
   | some v=>wpAny (model prog w) A (letOwnedTupleGo tg it v) (λ_ s₀=>wpAny (model prog w) A (assign tg env v) (λ_ s₂=>
    wpAny (model prog w) A (forIn fD true λc r=>if r=true then do let ok <- isTrue c env (eval c env);pure (ForInStep.yield ok) else pure (ForInStep.yield r)) (λok s₃=>if ok=true then wpAny (model prog w) A (eval bZ env) (λx s₄=>wpAny (model prog w) A (pyIter x) (λi2 s₅=>codeAny (model prog w) (A.mark none) (.compStart (t7 fF tg iter fD gT bZ dO scope pos) 1 i2 d4 env) (λr s₆=>match r with | .ok _=> ∃m,m<n /\ I m s₆ | .error _=>False) s₅) (λ_ _=>False) s₄) (λ_ _=>False) s₃ else ∃m,m<n /\ I m s₃) (λ_ _=>False) s₂)
    (λ_ _=>False) s₀) (λ_ _=>False) s₁) (λ_ _=>False) s)
  (n:Nat) (h:I n s):codeAny (model prog w) A (.compLoop (t7 fF tg iter fD gT bZ dO scope pos) 0 it d4 env) R s:=by
 exact codeAny_loop rfl I (λn s hI=> ?_) n h
 change wpAny _ A ((compTurn (t7 fF tg iter fD gT bZ dO scope pos) 0 it d4 env).onRaise (λx=>do noteFrame x env;theTreesLotGoes x)) _ _ s
 exact wpAny_noted ?_
 rw[Iw]
 exact af (wpAny_standAt (af (a9 (turn n s hI) (λr s₁ h₁=> ?_) λ_ _ h'=>h'.elim)))
 cases r with
 | none=>show aC h₁
 | some v=>
  exact af (a9 h₁ (λ_ s₀ S0=> ?_) λ_ _ h'=>h'.elim);exact af (a9 S0 (λ_ s₂ h₂=> ?_) λ_ _ h'=>h'.elim);exact af (a9 h₂ (λSy s₃ h₃=> ?_) λ_ _ h'=>h'.elim);cases Sy with
  | false=>show aC #[rfl,h₃]
  | true=>
   exact af (a9 h₃ (λx s₄ h₄=> ?_) λ_ _ h'=>h'.elim);exact af (wpAny_standAt ?_);rw[hs];exact af (aC (af (wpAny_holding (a9 h₄ (λi2 s₅ h₅=> ?_) λ_ _ h'=>h'.elim))));exact af (wpAny_runOwn ?_);exact codeAny_mono h₅ λr s' z=> ?_;cases r with
   | ok f=>show aC #[rfl,z]
   | error e=>show z.elim
end
section
variable {X:Cx}{ae:cz (dw×Obj)}{σ:St}{H:Hp}{s s3:cL}
def pF {tg iter fF:Expr}{fD:cz Expr}{gT bZ:Expr}{dO:cz Expr}{pos:Pos}{own N':cz Str}{fr:cz Nat}{n1:Nat}{scope:Scope}{cl:cz (Str×dw)}{fp:cz dw}{it:dw}{tn:Nat ->gC ->Prop}{J:It}{g:TG}{tc:TT}{Aa:TI}{g2:TG}{wH:TT}{te:TE}{Q:VK} {E:cG ->cL ->Prop} {RR:cG ->dw ->Result ->cL ->Prop} (gj:X.calm=true) (S:c_ X own fr N' scope) (hg: ∀s3 H3,PG (bu X N' scope cl fp s3 H3) tg g) (OZ:n1<=own.length) (hw:Keeps (λi=>i<n1) g) (hc: ∀s3 H3,Hk (bu X N' scope cl fp s3 H3) fD tc) (Tn: ∀s3 H3,PI (bu X N' scope cl fp s3 H3) gT bZ Aa) (lF: ∀s3 H3,PG (bu X N' scope cl fp s3 H3) gT g2) (S3:Keeps (λi=>n1<=i /\ i<own.length) g2) (Ts: ∀s3 H3,Hk (bu X N' scope cl fp s3 H3) dO wH) (he: ∀s3 H3,PE (bu X N' scope cl fp s3 H3) fF te) (n_: ∀s3 H3 x,foldedSetIterable bZ (bu X N' scope cl fp s3 H3).env x=pure x) (kz: ∀x c,cl.lookup x=some c ->X.env.cells.lookup x=some c) (mq: ∀y∈scope.names,y.2= .free ->(cl.lookup y.1).isSome=true) (I:Inv X ae σ H s) (T:sY X.prog X.w X.K tg J fp it tn) (st:tn 0 s.heap) (xC: ∀b∈fp,iS X ae H b) (h: ∀p,H p=none ->G6 J own.length fr g tc Aa g2 wH te σ p H Q) (fin: ∀ (s3:cL) (H3:Hp),Inv X ae σ H3 s3 ->(∀b∈fp,iS X ae H3 b) -> ∀ (D:dw) (σ':St) (H':Hp) (s':cL) (t:Nat),D<s3.heap.objs.size ->Inv (bu X N' scope cl fp s3 H3) [] σ' H' s' ->Q (.ref D) H' ->RR (.ref D) s3.heap.objs.size (.ok .next) s'): wpAny (model X.prog X.w) X.A (newList []) (λd4 s₃=>wpAny (model X.prog X.w) X.A (newFunctionEnv scope X.env.globals cl [] X.env.qual none .none (some X.env)) (λG9 s₄=>codeAny (model X.prog X.w) X.A (.compStart (t7 fF tg iter fD gT bZ dO scope pos) 0 (.ref it) d4 {G9 with scope:=relabel scope X.env}) (RR d4 G9.locals) s₄) E s₃) E s:=by
 exact wpAny_newObj_type ?_;have hf:H s.heap.objs.size=none:=I.b0.fresh (ak _);let⟨W,⟨m0,w0⟩,turn⟩:=h _ hf;generalize e3:({s with heap:=s.heap.push {cls:= .type "list",dict:=none,data:= .seq ([]:cz cG).toArray}}:cL)=s3;have Nr:s3.heap.objs.size=s.heap.objs.size+1:=by rw[<- e3];show Heap.size_push ..
 have W6: ∀b o,s.heap.get? b=some o ->s3.heap.get? b=some o:=λb o e=>by rw[<- e3];show ai _ e
 have I3:Inv X ae σ (bU H s.heap.objs.size (.lst [])) s3:=by rw[<- e3];show I.laid (t':=s.toks) (λb u e=>ai _ e) (ak _) #[cN _,[],0, .nil,aJ _ rfl]
 have Pj: ∀b∈fp,b<s.heap.objs.size:=λb hb=>by let⟨o,e,_⟩:=T.obj 0 _ st b hb;show ax e
 have zG: ∀b∈fp,iS X ae (bU H s.heap.objs.size (.lst [])) b:=λb hb=>#[by rw[bq (aN (Pj b hb))];show(xC b hb).1,(xC b hb).2]
 exact wpAny_newFunctionEnv S.qL (by intro y hy;simp at hy) (λh₁ OW OQ=> ?_) S.kind;have old: ∀b o,s3.heap.get? b=some o ->h₁.get? b=some o:=λb o e=>OQ.extBut b o (aN (ax e)) (ai _ e);have Ic:=xy (t:=s3.toks+([]:cz (Str×cG)).length) S I3 kz mq zG (λb hb=>by rw[Nr];show Nat.lt_succ_of_lt (Pj b hb)) OW old;have Ca:tn 0 h₁:=T.keep 0 _ _ st λb hb o e=>old b o (W6 b o e);have qv: ∀ {H':Hp},(∀b∈fp,H' b=none) -> ∀b∈fp,iS (bu X N' scope cl fp s3 (bU H s.heap.objs.size (.lst []))) [] H' b:=λhn b hb=>by exact#[hn b hb,?_,?_, .inl hb,λx c e=>(xC b hb).2.2.2.2.1 x c (kz x c e),λp hp=>absurd (show p∈([]:cz (dw×Obj)) from hp) (by simp)];change b≠s3.heap.objs.size;rw[Nr];show aN (Nat.lt_succ_of_lt (Pj b hb));show Ic.ok.zJ b hb
 have loop : codeAny (model X.prog X.w) X.A (.compLoop (t7 fF tg iter fD gT bZ dO scope pos) 0 (.ref it) (.ref s.heap.objs.size) (compEnvC scope cl s3.heap.objs.size X.env)) (RR (.ref s.heap.objs.size) s3.heap.objs.size) {s3 with heap:=h₁,toks:=s3.toks+([]:cz (Str×cG)).length}:=by
  exact JQ (λn s'=>dY λi ys H'=>eZ (Inv (bu X N' scope cl fp s3 (bU H s.heap.objs.size (.lst []))) [] (ji own.length fr σ) H' s') (tn i s'.heap) (∀b∈fp,H' b=none) (W i n ys H')) (n_ s3 H) ?_ m0 #[0,[],_,Ic,Ca,λb hb=>(zG b hb).1,w0];rintro n s4 ⟨i,ys,H4,I4,eN,TC,w4⟩;let⟨vJ,alt⟩:=turn i n ys H4 w4;rcases alt with⟨stop,q⟩ | ⟨go,step⟩
  .exact ci (T.done (bu X N' scope cl fp s3 (bU H s.heap.objs.size (.lst []))) rfl rfl rfl gj i [] s4 _ H4 (λ_ _=>False) I4 (qv TC) eN stop) λr s5 ⟨hr,I5⟩=> ?_;subst hr;show fin s3 _ I3 zG _ _ H4 s5 s5.toks (by rw[Nr];show Nat.lt_succ_self _) I5 q
  exact ci (T.item (bu X N' scope cl fp s3 (bU H s.heap.objs.size (.lst []))) rfl rfl rfl gj i [] s4 _ H4 (λ_ _=>False) I4 (qv TC) eN go) λr s5 ⟨u,hr,h5⟩=> ?_;subst hr;exact ci h5 λ_ s6 ⟨x,H6,I6,r6,y6,Nv,fr6⟩=> ?_;have I6':=I6.pinned (qv fr6) (T.obj _ _ Nv);have Vd:=hw _ x H6 _ (step x H6 y6);exact ci (hg s3 _ _ s6 _ H6 x u _ I6' r6 Vd) λ_ s7 ⟨σ7,H7,I7,wk,q7⟩=> ?_;have wk1: ∀ (j:Nat) v,(ji own.length fr σ)[j]? =some (some v) ->σ7[j]? =some (some v):=λj v e=>by rw[wk.2 j (by have:=BF e;lia)];show e
  have wk2: ∀j,n1<=j ->j<own.length -> ∀v,σ7[j]? ≠some (some v):=λj h1 h2 v e=>by rw[wk.2 j ∅] at e;have:=BF e;lia
  have again: ∀ {σ9:St} {H9:Hp} {s9:cL} {MM:cz V},σ9.length=σ7.length ->(∀ (j:Nat) v,σ7[j]? =some (some v) ->σ9[j]? =some (some v)) ->Inv (bu X N' scope cl fp s3 (bU H s.heap.objs.size (.lst []))) ([]++ge fp s6.heap) σ9 H9 s9 ->(∃m',m'<n /\ W (i+1) m' MM H9) ->∃m,m<n /\ dY λi ys H'=>eZ (Inv (bu X N' scope cl fp s3 (bU H s.heap.objs.size (.lst []))) [] (ji own.length fr σ) H' s9) (tn i s9.heap) (∀b∈fp,H' b=none) (W i m ys H'):=λ{σ9 H9 s9 MM} Ti hv9 I9 ⟨m',hm,w9⟩=>by exact#[m',hm,i+1,MM,H9,(I9.gV).weak ?_ λj v e=>hv9 j v (wk1 j v e),T.keep _ _ _ Nv λb hb o e=>(I9.pin (b,o) (aM _ (aM _ (dX hb e)))).1,λb hb=> ?_,w9];rw[Ti,wk.1];let⟨o,e,d⟩:=T.obj _ _ Nv b hb;show(I9.pin (b,o) (aM _ (aM _ (dX hb e)))).2.1
  exact ci (hc s3 _ _ s7 σ7 H7 _ I7 q7) λok s8 ⟨H8,I8,q8⟩=> ?_;cases ok with
  | false=>simp![av,bp] at q8 ⊢;let⟨zs,q8⟩:=q8;show again rfl (λ_ _ e=>e) I8 q8
  | true =>
   simp![bJ] at q8 ⊢;exact ci (Tn s3 _ _ s8 σ7 H8 _ I8 q8) λv2 s9 h9=>ci h9 λOE Xr Y2=> ?_;let⟨A4,TH,tn2,J2,QE,e10,I10,T2,RJ,f10,Z,⟨mz,z0,hz0⟩,Rj⟩:=Y2;subst e10;have Eu: ∀ {H':Hp},(∀b∈TH,H' b=none) -> ∀b∈TH,iS (bu X N' scope cl fp s3 (bU H s.heap.objs.size (.lst []))) ([]++ge fp s6.heap) H' b:=λhn b hb=>#[hn b hb,(f10 b hb).2]
   have LZ:codeAny (model X.prog X.w) X.A (.compLoop (t7 fF tg iter fD gT bZ dO scope pos) 1 (.ref A4) (.ref s.heap.objs.size) (compEnvC scope cl s3.heap.objs.size X.env)) (λr s₆=>match r with
   | .ok _=> ∃m,m<n /\ dY λi ys H'=>eZ (Inv (bu X N' scope cl fp s3 (bU H s.heap.objs.size (.lst []))) [] (ji own.length fr σ) H' s₆) (tn i s₆.heap) (∀b∈fp,H' b=none) (W i m ys H')
   | .error _=>False) Xr:=by
    exact JP (λk s'=>dY λj zs H'=>eZ (Inv (bu X N' scope cl fp s3 (bU H s.heap.objs.size (.lst []))) ([]++ge fp s6.heap) σ7 H' s') (tn2 j s'.heap) (∀b∈TH,H' b=none) (Z j k zs H')) ?_ mz #[0,z0,QE,I10,RJ,λb hb=>(f10 b hb).1,hz0]
    rintro k s11 ⟨j,zs,H11,I11,RI,TD,z11⟩
    let⟨aeL,ad4⟩:=Rj j k zs H11 z11
    rcases ad4 with⟨RG,qN⟩ | ⟨go2,hsz2,RH⟩
    exact ci (T2.done (bu X N' scope cl fp s3 (bU H s.heap.objs.size (.lst []))) rfl rfl rfl gj j _ s11 _ H11 (λ_ _=>False) I11 (Eu TD) RI RG) λr s12 ⟨hr,I12⟩=> ?_
    subst hr
    show again rfl (λ_ _ e=>e) I12 qN
    exact ci (T2.item (bu X N' scope cl fp s3 (bU H s.heap.objs.size (.lst []))) rfl rfl rfl gj j _ s11 _ H11 (λ_ _=>False) I11 (Eu TD) RI go2) λr s12 ⟨u2,hr,h12⟩=> ?_
    subst hr
    exact ci h12 λ_ s13 ⟨x2,H13,I13,r13,y13,Nw,adM⟩=> ?_
    have ad7:=I13.pinned (Eu adM) (T2.obj _ _ Nw)
    have Xj:=S3 _ x2 H13 _ (RH x2 H13 y13)
    exact ci (lF s3 _ _ s13 _ H13 x2 u2 _ ad7 r13 Xj) λ_ s14 ⟨σ14,H14,I14,QH,q14⟩=> ?_
    have MF: ∀ {H9:Hp} {s9:cL} {ws:cz V},Inv (bu X N' scope cl fp s3 (bU H s.heap.objs.size (.lst []))) (([]++ge fp s6.heap)++ge TH s13.heap) σ14 H9 s9 ->(∃k',k'<k /\ Z (j+1) k' ws H9) ->∃m,m<k /\ dY λj zs H'=>eZ (Inv (bu X N' scope cl fp s3 (bU H s.heap.objs.size (.lst []))) ([]++ge fp s6.heap) σ7 H' s9) (tn2 j s9.heap) (∀b∈TH,H' b=none) (Z j m zs H'):=λ{H9 s9 ws} I9 ⟨k',sx,z9⟩=>by exact#[k',sx,j+1,ws,H9,(I9.gV).weak QH.1.symm λa v e=> ?_,T2.keep _ _ _ Nw λb hb o e=>(I9.pin (b,o) (aM _ (aM _ (dX hb e)))).1,λb hb=> ?_,z9];rw[QH.2 a λhS=>wk2 a hS.1 hS.2 v e];show e;let⟨o,e,d⟩:=T2.obj _ _ Nw b hb;show(I9.pin (b,o) (aM _ (aM _ (dX hb e)))).2.1
    exact ci (Ts s3 _ _ s14 σ14 H14 _ I14 q14) λHG s15 ⟨H15,I15,Qi⟩=> ?_
    cases HG with
    | false=>simp![av,bp] at Qi ⊢;let⟨ws,Qi⟩:=Qi;show MF I15 Qi
    | true=>simp![bJ] at Qi ⊢;exact ci (he s3 _ _ s15 σ14 H15 _ I15 Qi) λy s16 ⟨yv,H16,I16,ry,ws,Yr,Yh,q16⟩=> ?_;exact ci (hW _ s16 σ14 H16 (.ref s.heap.objs.size) [yv] (.ref s.heap.objs.size) [y] (λv H'=>H'=bU H16 s.heap.objs.size (.lst (ws++ [yv]))) I16 rfl (.cons ry .nil) #[_,ws,yv,rfl,rfl,Yr,Yh,rfl]) λv s17 ⟨_,H17,I17,_,e17⟩=> ?_;subst e17;show MF I17 q16
   change codeAny _ X.A _ _ Xr;show Ev LZ (T2.self _ 0 _ _ _ RJ LZ)
 show codeAny_compStart_list loop (T.self _ 0 _ _ _ Ca loop)
end
section
variable {X:Cx}
def Fd {tg iter fF:Expr}{fD:cz Expr}{gT bZ:Expr}{dO:cz Expr}{pos:Pos}{own N':cz Str}{fr:cz Nat}{n1:Nat}{scope:Scope}{wi:TI}{g:TG}{tc:TT}{Aa:TI}{g2:TG}{wH:TT}{te:TE}(gj:X.calm=true)(S:c_ X own fr N' scope)(hi:PI X tg iter wi) (hg: ∀cl fp s3 H3,PG (bu X N' scope cl fp s3 H3) tg g) (OZ:n1<=own.length) (hw:Keeps (λi=>i<n1) g) (hc: ∀cl fp s3 H3,Hk (bu X N' scope cl fp s3 H3) fD tc) (Tn: ∀cl fp s3 H3,PI (bu X N' scope cl fp s3 H3) gT bZ Aa) (lF: ∀cl fp s3 H3,PG (bu X N' scope cl fp s3 H3) gT g2) (S3:Keeps (λi=>n1<=i /\ i<own.length) g2) (Ts: ∀cl fp s3 H3,Hk (bu X N' scope cl fp s3 H3) dO wH) (he: ∀cl fp s3 H3,PE (bu X N' scope cl fp s3 H3) fF te) (hs: ∀x,foldedSetIterable iter X.env x=pure x:=by intro _;rfl) (n_: ∀cl fp s3 H3 x,foldedSetIterable bZ (bu X N' scope cl fp s3 H3).env x=pure x:=by intro _ _ _ _ _;rfl):PE X (.ListComp fF [#[tg,iter,fD,0],#[gT,bZ,dO,0]] scope pos) (yX wi own.length fr g tc Aa g2 wH te):=by intro ae s σ H Q I h;let⟨cl,q0,kz,mq⟩:=iP (I.ok.cellsOf S);rw[eval_ListComp];exact wpAny_comprehension_free (use:=none) rfl hs q0 S.kind S.loc (ci (hi ae s σ H _ I h) λv s1 h1=>ci h1 λOE s2 h2=> ?_);let⟨it,fp,tn,J,H2,e,I2,T,kr,f2,h2⟩:=h2;subst e;exact pF (RR:=λd4 C=>compPost (model X.prog X.w) X.A X.xe none (EP X ae σ Q) d4 C) gj S (hg cl fp) OZ hw (hc cl fp) (Tn cl fp) (lF cl fp) S3 (Ts cl fp) (he cl fp) (n_ cl fp) kz mq I2 T kr f2 h2 ?_;intro s3 H3 I3 f3 D σ' H' s' t hD Ic q;let⟨m,hn,_⟩:=Ic.loc;exact#[m,hn,λh' J8=>#[.ref D,H',?_,rfl,q]];show kf I3 rfl (kg I3 f3 Ic) Ic.free J8
def oK {i:Nat}{x:Str}{tg iter fF:Expr}{fD:cz Expr}{gT bZ:Expr}{dO:cz Expr}{pos Ew fV:Pos}{own N':cz Str}{fr:cz Nat}{n1:Nat}{scope:Scope}{wi:TI}{g:TG}{tc:TT}{Aa:TI}{g2:TG}{wH:TT}{te:TE}(gj:X.calm=true)(hN:X.N.Nodup)(hx:X.N[i]? =some x)(hl:Loc X.env.scope x)(S:c_ X own fr N' scope)(hi:PI X tg iter wi) (hg: ∀cl fp s3 H3,PG (bu X N' scope cl fp s3 H3) tg g) (OZ:n1<=own.length) (hw:Keeps (λi=>i<n1) g) (hc: ∀cl fp s3 H3,Hk (bu X N' scope cl fp s3 H3) fD tc) (Tn: ∀cl fp s3 H3,PI (bu X N' scope cl fp s3 H3) gT bZ Aa) (lF: ∀cl fp s3 H3,PG (bu X N' scope cl fp s3 H3) gT g2) (S3:Keeps (λi=>n1<=i /\ i<own.length) g2) (Ts: ∀cl fp s3 H3,Hk (bu X N' scope cl fp s3 H3) dO wH) (he: ∀cl fp s3 H3,PE (bu X N' scope cl fp s3 H3) fF te) (S8:swapsWith (.ListComp fF [#[tg,iter,fD,0],#[gT,bZ,dO,0]] scope pos) (some (.Name x fV)) Ew.line X.env=pure true) (hs: ∀x,foldedSetIterable iter X.env x=pure x:=by intro _;rfl) (n_: ∀cl fp s3 H3 x,foldedSetIterable bZ (bu X N' scope cl fp s3 H3).env x=pure x:=by intro _ _ _ _ _;rfl) (hf:X.fn x=true \/ X.env.scope.names.lookup x=some .local:=by first | show .inl rfl | show .inr rfl | assumption): PS X (.Assign [.Name x fV] (.ListComp fF [#[tg,iter,fD,0],#[gT,bZ,dO,0]] scope pos) Ew) (BZ (yX wi own.length fr g tc Aa g2 wH te) (i5 i)):=by
 intro ae s σ H D I h;let⟨cl,q0,kz,mq⟩:=iP (I.ok.cellsOf S);rw[exec_Assign_Name_used _ _ _ _ S8];exact af (wpAny_standAt (af ?_));change wpAny _ X.A (do let _ <- comprehension (t7 fF tg iter fD gT bZ dO scope pos) scope X.env _ (newList []) false (eval iter X.env) (some (assign (.Name x fV) X.env))) _ _ s;exact af (ci (wpAny_comprehension_free (use:=some (assign (.Name x fV) X.env)) (Q:=λ_ s'=>SP X ae D .next s') rfl hs q0 S.kind S.loc (ci (hi ae s σ H _ I h) λv s1 h1=>ci h1 λOE s2 h2=> ?_)) λ_ s' hq=>aC (aC hq));let⟨it,fp,tn,J,H2,e,I2,T,kr,f2,h2⟩:=h2;subst e;exact pF (RR:=λd4 C=>compPost (model X.prog X.w) X.A X.xe (some (assign (.Name x fV) X.env)) (λ_ s'=>SP X ae D .next s') d4 C) gj S (hg cl fp) OZ hw (hc cl fp) (Tn cl fp) (lF cl fp) S3 (Ts cl fp) (he cl fp) (n_ cl fp) kz mq I2 T kr f2 h2 ?_;intro s3 H3 I3 f3 Da σ' H' s' t hD Ic q;let⟨m,hn,_⟩:=Ic.loc;have I5:=kg I3 f3 Ic;change wpAny _ X.A (assign (.Name x fV) X.env (.ref Da)) _ _ s';exact wpAny_assign_Name (nJ I5 hN hx hl (show RelV (.ref Da) (.ref Da) from rfl) (λs6 I6 J8=> ?_) hf);let⟨a,sb,ha⟩:=J8;have jm:s3.heap.objs.size≠a:=by obtain rfl | ha:=ha;show Nat.ne_of_gt I3.lt;let⟨v,z⟩:=I3.cell x a ha;show Nat.ne_of_gt z.lt
 exact#[m,hn.sameBut sb jm,λh' OR=>#[_,H',kf I3 rfl I6 Ic.free OR,q]]
end
end L2
namespace WL
open PySem L2
section
variable {K:gg}
def SV (z8:cz W)(i0:Mp ->Prop)(g2:WG)(c2:WT)(el:WE)(ρ2:b7)(p:dw)(ys:cz W)(M4:Mp)(N:cz W ->Mp ->Prop):Prop:=∃I2:Nat ->cz W ->Mp ->Prop,eZ (I2 0 ys M4) (∀j zs M,j<=z8.length ->I2 j zs M ->i0 M /\ M p=some (.lst zs) /\ zs.length<sizeLine) (∀j y zs M,z8[j]? =some y ->I2 j zs M ->g2 y ρ2 M λρ3 M5=>c2 ρ3 M5 λb M6=>if b=true then el ρ3 M6 λz M7=>M7 p=some (.lst zs) /\ I2 (j+1) (zs++ [z]) (um M7 p (.lst (zs++ [z]))) else I2 (j+1) zs M6) (∀zs M,I2 z8.length zs M ->N zs M)
def zN (xs:cz W)(keep:Mp ->Prop)(own:Nat)(fr:cz Nat)(g:WG)(c:WT)(A4:WI)(g2:WG)(c2:WT)(el:WE)(ρ:b7)(M1:Mp)(q:WK):Prop:= ∀p,M1 p=none -> ∃I:Nat ->cz W ->Mp ->Prop,eZ (I 0 [] (um M1 p (.lst []))) (∀i ys M,i<=xs.length ->I i ys M ->keep M /\ M p=some (.lst ys)) (∀i x ys M,xs[i]? =some x ->I i ys M ->g x (m8 own fr ρ) M λρ2 M2=>c ρ2 M2 λb M3=>if b=true then A4 ρ2 M3 λz8 i0 M4=>SV z8 i0 g2 c2 el ρ2 p ys M4 (I (i+1)) else I (i+1) ys M3) (∀ys M,I xs.length ys M ->q (wr p) M)
def D_ (it:WI)(own:Nat)(fr:cz Nat)(g:WG)(c:WT)(A4:WI)(g2:WG)(c2:WT)(el:WE):WE:=λρ M q=>it ρ M λxs keep M1=>zN xs keep own fr g c A4 g2 c2 el ρ M1 q
theorem Q7 {it:WI}{own:Nat}{fr:cz Nat}{g:WG}{c:WT}{A4:WI}{g2:WG}{c2:WT}{el:WE}{ρ:b7}{M:Mp}{q:WK}:D_ it own fr g c A4 g2 c2 el ρ M q=it ρ M λxs keep M1=>zN xs keep own fr g c A4 g2 c2 el ρ M1 q:=rfl
instance {ti:TI}{own:Nat}{fr:cz Nat}{g:TG}{tc:TT}{ti2:TI}{g2:TG}{wH:TT}{te:TE}{it:WI}{w:WG}{c:WT}{A4:WI}{w2:WG}{c2:WT}{el:WE} [ii:II K ti it] [ig:IG K g w] [ic:IT K tc c] [ii2:II K ti2 A4] [ig2:IG K g2 w2] [ic2:IT K wH c2] [ie:IE K te el]: IE K (yX ti own fr g tc ti2 g2 wH te) (D_ it own fr w c A4 w2 c2 el) where
 imp := λρ M σ H q Q o h k=>ii.imp ρ M σ H _ _ o h λxs keep J M1 H1 h1 t1 m1 ok=>by
  intro p hp;let⟨I,h0,hk,hs,hd⟩:=h1 p (m1.fresh hp);have tp:=L2.dP.ts (bF (o:= .lst []) hp);exact#[λi m vs H'=>m=xs.length - i /\ i<=xs.length /\ bX λys M'=>d9 (I i ys M') (aS H1 H') (d6 K M' H') (bW K H' ys vs) (H' p=some (.lst vs)),#[_,rfl,cN _,[],_,h0,tp,m1.sN hp bW.nil,bW.nil,bC],?_];rintro i m vs H' ⟨rfl,hi,ys,M',hI,ts,m',rv,hv⟩;exact#[hv,?_];let⟨kp,hMp⟩:=hk i ys M' hi hI;let⟨k1,k2,k3⟩:=ok i M' H' ts m' kp;by_cases gP:i<xs.length;exact .inr #[k2 gP,λv H2 y=> ?_];let⟨ty,my,x,hx,r⟩:=k3 v H2 gP y;replace ts:=ts.trans ty;have oc:Ok K (m8 own fr ρ) M' (ji own fr σ) H2:=#[(o.env.ts (t1.trans ts)).Qz own fr,my]
  exact ig.imp x v _ M' _ H2 _ _ oc r (hs i x ys M' hx hI) λρ3 M3 σ3 H3 h3 t3 o3=>ic.imp ρ3 M3 σ3 H3 _ _ o3 h3 λb M4 H4 h4 t4 m4=> ?_;cases b with
  | true=>
   simp![bJ] at h4 ⊢;exact ii2.imp ρ3 M4 σ3 H4 _ _ (o3.mv t4 m4) h4 λz8 i0 J2 M5 H5 h5 t5 m5 HG=> ?_;let⟨I2,Y1,Tl,n_,O9⟩:=h5;have tt5:=ts.trans ((t3.trans t4).trans t5);have at5: ∀ {M6:Mp} {H6:Hp} {zs:cz W},M6 p=some (.lst zs) ->d6 K M6 H6 -> ∃vs,H6 p=some (.lst vs) /\ bW K H6 zs vs:=λh m=>by let⟨vs,hv,rr⟩:=m p _ h;show#[vs,hv,rr]
   let⟨Lm,J7,IW⟩:=at5 (Tl 0 ys M5 (cN _) Y1).2.1 m5;exact#[λj m vs H'=>m=z8.length - j /\ j<=z8.length /\ bX λzs M'=>d9 (I2 j zs M') (aS H5 H') (d6 K M' H') (bW K H' zs vs) (H' p=some (.lst vs)),#[_,Lm,rfl,cN _,ys,M5,Y1,aS.refl _,m5,IW,J7],?_];rintro j m2 vs6 H6 ⟨rfl,hj,zs,M6,YZ,Rk,m6,rv6,hv6⟩;exact#[hv6,?_];let⟨kp2,aeQ,VH⟩:=Tl j zs M6 hj YZ;let⟨a1,a2,a3⟩:=HG j M6 H6 Rk m6 kp2;by_cases Gh:j<z8.length;exact .inr #[a2 Gh,by rw[rv6.length];show VH,λu7 H7 y7=> ?_];let⟨W8,my7,x7,hx7,r7⟩:=a3 u7 H7 Gh y7;have o7:Ok K ρ3 M6 σ3 H7:=#[o3.env.ts ((t4.trans t5).trans (Rk.trans W8)),my7]
   exact ig2.imp x7 u7 ρ3 M6 σ3 H7 _ _ o7 r7 (n_ j x7 zs M6 hx7 YZ) λρ8 M8 σ8 H8 h8 t8 o8=>ic2.imp ρ8 M8 σ8 H8 _ _ o8 h8 λb9 M9 H9 h9 t9 m9=> ?_;cases b9 with
   | true=>simp![bJ] at h9 ⊢;exact ie.imp ρ8 M9 σ8 H9 _ _ (o8.mv t9 m9) h9 λz M10 u QE ⟨Y2,h11⟩ t10 m10 r10=> ?_;let⟨Iu,Gb,EJ⟩:=m10 p _ Y2;have t11:=jr (u:= .lst (Iu++ [u])) Gb;exact#[Iu,Gb,by rw[EJ.length];show VH,_,?_,rfl,Gh,_,_,h11,((((Rk.trans W8).trans t8).trans t9).trans t10).trans t11,m10.putL Gb (EJ.snoc r10),(EJ.snoc r10).ts t11,bC];lia
   | false=>simp![av,bp] at h9 ⊢;let⟨Iu,Gb,EJ⟩:=at5 (Tl (j+1) zs M9 Gh h9).2.1 m9;exact#[Iu,_,?_,rfl,Gh,_,_,h9,((Rk.trans W8).trans t8).trans t9,m9,EJ,Gb];lia
   have e':j=z8.length:= ∅;subst e';exact .inl #[a1 rfl,_,?_,rfl,gP,zs,M6,O9 zs M6 YZ,tt5.trans Rk,m6,rv6,hv6];lia
  | false=>simp![av,bp] at h4 ⊢;let⟨Lm,J7,IW⟩:=m4 p _ (hk (i+1) ys M4 gP h4).2;exact#[Lm,_,?_,rfl,gP,_,_,h4,ts.trans (t3.trans t4),m4,IW,J7];lia
  have e':i=xs.length:= ∅;subst e';show .inl #[k1 rfl,k _ M' _ H' (hd ys M' hI) (t1.trans ts) m' WR.v]
def zp {α:Type}{f:α ->W}{l:cz α}{i:Nat}{x:W}(h:(l.map f)[i]? =some x): ∃a,l[i]? =some a /\ x=f a:=by
 rw[aG] at h;cases e:l[i]? with
 | none=>rw[e] at h;cases h
 | some a=>rw[e] at h;cases h;show#[a,rfl,rfl]
def uv {α β:Type}{l:cz α}{fW:α ->W}(cr:α ->cz β)(gW:β ->W)(eW:α ->β ->W){keep:Mp ->Prop}{M1:Mp}{own:Nat}{fr:cz Nat}{ρ:b7}{g:WG}{c:WT}{A4:WI}{g2:WG}{c2:WT}{el:WE}{q:WK} (hz:(l.map λa=>(cr a).length).sum<sizeLine) (mn: ∀M,Sm M1 M ->keep M) (hs: ∀a∈l, ∀M,Sm M1 M -> ∀ (B:b7 ->cz W ->(Mp ->Prop) ->Mp ->Prop) (N0:Mp ->Prop),(∀ρ2 i0,(∀M',Sm M1 M' ->i0 M') ->(∀b∈cr a, ∀M',Sm M1 M' -> ∀N:cT W ->Mp ->Prop,N (some (eW a b)) M' ->g2 (gW b) ρ2 M' λρ3 M5=>c2 ρ3 M5 λb M6=>gh b (el ρ3 M6 λz M7=>N (some z) M7) (N none M6)) ->B ρ2 ((cr a).map gW) i0 M) ->g (fW a) (m8 own fr ρ) M λρ2 M2=>c ρ2 M2 λb M3=>gh b (A4 ρ2 M3 λz8 i0 M4=>B ρ2 z8 i0 M4) (N0 M3)) (hq: ∀p,M1 p=none ->q (wr p) (um M1 p (.lst (l.map λa=>(cr a).map (eW a)).flatten))): zN (l.map fW) keep own fr g c A4 g2 c2 el ρ M1 q:=by
 intro p hp;have dD: ∀k:cz α,(k.map λa=>(cr a).map (eW a)).flatten.length=(k.map λa=>(cr a).length).sum:=λk=>by rw[List.length_flatten,bw];congr 1;apply List.map_congr_left;intro a _;simp
 have S4: ∀i:Nat,((l.take i).map λa=>(cr a).length).sum<=(l.map λa=>(cr a).length).sum:=λi=>by
  have e:(l.map λa=>(cr a).length)=((l.take i).map λa=>(cr a).length)++((l.drop i).map λa=>(cr a).length):=by rw[<- bA,br]
  rw[e,List.sum_append];lia
 exact#[λi ys M=>M=um M1 p (.lst ys) /\ ys=((l.take i).map λa=>(cr a).map (eW a)).flatten,#[rfl,by simp],?_,?_,?_];rintro i ys M hi ⟨rfl,rfl⟩;show#[mn _ (bn hp),aq];rintro i x ys M hx ⟨rfl,rfl⟩;let⟨a,ha,rfl⟩:=zp hx;have e:l.take (i+1)=l.take i++ [a]:=by rw[List.take_add_one,ha];rfl
 have eF:((l.take (i+1)).map λa=>(cr a).map (eW a)).flatten=((l.take i).map λa=>(cr a).map (eW a)).flatten++(cr a).map (eW a):=by rw[e,bA,List.flatten_append];simp
 have eS:((l.take (i+1)).map λa=>(cr a).length).sum=((l.take i).map λa=>(cr a).length).sum+(cr a).length:=by rw[e,bA,List.sum_append];simp
 exact hs a (aY ha) _ (bn hp) (λρ2 z8 i0 M4=>SV z8 i0 g2 c2 el ρ2 p ((l.take i).map λa=>(cr a).map (eW a)).flatten M4 λys M=>M=um M1 p (.lst ys) /\ ys=((l.take (i+1)).map λa=>(cr a).map (eW a)).flatten) (λM=>M=um M1 p (.lst ((l.take i).map λa=>(cr a).map (eW a)).flatten) /\ ((l.take i).map λa=>(cr a).map (eW a)).flatten=((l.take (i+1)).map λa=>(cr a).map (eW a)).flatten) ?_;intro ρ2 i0 Tl n_;exact#[λj zs M=>M=um M1 p (.lst zs) /\ zs=((l.take i).map λa=>(cr a).map (eW a)).flatten++((cr a).take j).map (eW a),#[rfl,by simp],?_,?_,?_];rintro j zs M hj ⟨rfl,rfl⟩;exact#[Tl _ (bn hp),aq,?_];rw[aV,dD,ao,bM];have b3:=S4 (i+1);rw[eS] at b3;lia;rintro j y zs M hy ⟨rfl,rfl⟩;let⟨b,hb,rfl⟩:=zp hy;have e2:(cr a).take (j+1)=(cr a).take j++ [b]:=by rw[List.take_add_one,hb];rfl
 exact n_ b (aY hb) _ (bn hp) (λo M4=>match o with
 | some z=>M4 p=some (.lst (((l.take i).map λa=>(cr a).map (eW a)).flatten++((cr a).take j).map (eW a))) /\ (um M4 p (.lst (((l.take i).map λa=>(cr a).map (eW a)).flatten++((cr a).take j).map (eW a)++ [z]))=um M1 p (.lst (((l.take i).map λa=>(cr a).map (eW a)).flatten++((cr a).take j).map (eW a)++ [z])) /\ ((l.take i).map λa=>(cr a).map (eW a)).flatten++((cr a).take j).map (eW a)++ [z]=((l.take i).map λa=>(cr a).map (eW a)).flatten++((cr a).take (j+1)).map (eW a))
 | none=>M4=um M1 p (.lst (((l.take i).map λa=>(cr a).map (eW a)).flatten++((cr a).take j).map (eW a))) /\ ((l.take i).map λa=>(cr a).map (eW a)).flatten++((cr a).take j).map (eW a)=((l.take i).map λa=>(cr a).map (eW a)).flatten++((cr a).take (j+1)).map (eW a)) ?_
 show#[aq,gx,by rw[e2,bA];simp];rintro zs M ⟨rfl,rfl⟩;show#[rfl,by rw[eF,ao,List.take_length]];rintro ys M ⟨rfl,rfl⟩;rw[ao,List.take_length];show hq p hp
def G5 {α:Type}{l:cz α}{fW:α ->W}(pr:α ->Bool)(eW:α ->W){keep:Mp ->Prop}{M1:Mp}{own:Nat}{fr:cz Nat}{ρ:b7}{g:WG}{c:WT}{el:WE}{q:WK}(hz:l.length<=sizeLine)(mn: ∀M,Sm M1 M ->keep M) (hs: ∀a∈l, ∀ (M:Mp) (N:cT W ->Mp ->Prop),Sm M1 M ->N (if pr a=true then some (eW a) else none) M ->g (fW a) (m8 own fr ρ) M λρ2 M2=>c ρ2 M2 λb M3=>gh b (el ρ2 M3 λy M4=>N (some y) M4) (N none M3)) (hq: ∀p,M1 p=none ->q (wr p) (um M1 p (.lst ((l.filter pr).map eW)))):x_ (l.map fW) keep own fr g c el ρ M1 q:=by
 exact#[by rw[ao];show hz,λp hp=>#[λi ys M=>M=um M1 p (.lst ys) /\ ys=((l.take i).filter pr).map eW,#[rfl,by simp],?_,?_,?_]];rintro i ys M hi ⟨rfl,rfl⟩;exact#[mn _ (bn hp),aq,?_];rw[ao];exact aH (List.length_filter_le _ _) ?_;rw[bM];lia;rintro i x ys M hx ⟨rfl,rfl⟩;let⟨a,ha,rfl⟩:=zp hx;have e:l.take (i+1)=l.take i++ [a]:=by rw[List.take_add_one,ha];rfl
 exact hs a (aY ha) _ (λo M4=>match o with
 | some y=>M4 p=some (.lst (((l.take i).filter pr).map eW)) /\ (um M4 p (.lst (((l.take i).filter pr).map eW++ [y]))=um M1 p (.lst (((l.take i).filter pr).map eW++ [y])) /\ ((l.take i).filter pr).map eW++ [y]=((l.take (i+1)).filter pr).map eW)
 | none=>M4=um M1 p (.lst (((l.take i).filter pr).map eW)) /\ ((l.take i).filter pr).map eW=((l.take (i+1)).filter pr).map eW) (bn hp) ?_
 cases hf:pr a with
 | false=>rw[ah (by simp)];show#[rfl,by rw[e,List.filter_append];simp[hf]]
 | true=>rw[aj rfl];show#[aq,gx,by rw[e,List.filter_append];simp[hf]]
 rintro ys M ⟨rfl,rfl⟩;rw[ao,List.take_length];show hq p hp
def fH {α:Type}{l:cz α}{fW:α ->W}(eW:α ->W){keep:Mp ->Prop}{M1:Mp}{own:Nat}{fr:cz Nat}{ρ:b7}{g:WG}{c:WT}{el:WE}{q:WK}(hz:l.length<=sizeLine)(mn: ∀M,Sm M1 M ->keep M) (hs: ∀a∈l, ∀ (M:Mp) (N:cT W ->Mp ->Prop),Sm M1 M ->N (some (eW a)) M ->g (fW a) (m8 own fr ρ) M λρ2 M2=>c ρ2 M2 λb M3=>gh b (el ρ2 M3 λy M4=>N (some y) M4) (N none M3)) (hq: ∀p,M1 p=none ->q (wr p) (um M1 p (.lst (l.map eW)))):x_ (l.map fW) keep own fr g c el ρ M1 q:=by exact G5 (λ_=>true) eW hz mn (λa ha M N s h=>hs a ha M N s ⇑h) λp hp=> ?_;have e:l.filter (λ_=>true)=l:=List.filter_eq_self.mpr λ_ _=>rfl;rw[e];show hq p hp
end
def Fl:e9:=λ_ _ _=>False
theorem Gw {P:gA}{w:gB}{K:gg}{mg:Str ->cT cG}{base:gC}{CX:yK}{k:Nat}{f:dw}{fd:gN}{ps:cz Str}:bv P w K mg base CX k f fd ps (fw K Fl):=#[λvs H Q E ⟨_,_,_,_,_,h,_⟩=>h.elim,λA outer s H args us vs Q E hr=>by
 intros;rename_i h;first
 | (let⟨_,_,_,_,_,h,_⟩:=h;show h.elim)]
end WL
namespace WQ
open PySem L2 WL WP
def fL (f:Int ->Int)(e:Int):Nat ->Int ->Int
 | 0,_=>0
 | n+1,x=>fL f e n x+f (x - e*n)
def lf (f:Int ->Int)(e:Int):Nat ->Int ->Int
 | 0,_=>0
 | n+1,x=>lf f e n x - f (x+e*(n+1:Nat))
def nI (f:Int ->Int)(e n x:Int):Int:=if n<0 then lf f e (-n).toNat x else fL f e n.toNat x
def tL (f:Int ->Int)(e n x:Int):nI f e (n+1) x=nI f e n x+f (x - e*n):=by
 unfold nI;by_cases h:n<0;rw[aj h];let⟨m,hm⟩: ∃m:Nat,(-n).toNat=m+1:=#[(-n).toNat - 1, ∅]
 have en:n= -((m:Int)+1):= ∅;have ex:x - e*n=x+e*((m+1:Nat):Int):=by rw[en,Int.mul_neg];push_cast;lia
 rw[hm,lf,ex];by_cases h1:n+1<0;rw[aj h1,show(-(n+1)).toNat=m by lia];lia;rw[ah h1,show(n+1).toNat=0 by lia];have:m=0:= ∅;subst this;simp![fL,lf];lia;rw[ah h,ah ∅,show(n+1).toNat=n.toNat+1 by lia,fL];have:((n.toNat:Nat):Int)=n:= ∅;rw[this]
theorem B0 (f:Int ->Int)(e:Int): ∀ (n:Nat) (x:Int),nI f e n x+nI f e (-n) (x - e*n)=0
 | 0,x=>rfl
 | n + 1,x=>by
  have ih:=B0 f e n x;have h1:=tL f e n x;have h2:=tL f e (-(n+1:Nat)) (x - e*(n+1:Nat));have e1:(-((n+1:Nat):Int))+1= -(n:Int):= ∅;rw[e1] at h2;have e2:(((n+1:Nat)):Int)=(n:Int)+1:= ∅;rw[e2] at h2 ⊢;have e3:x - e*((n:Int)+1) - e* -((n:Int)+1)=x:=by rw[Int.mul_neg];lia
  rw[e3] at h2;have sh: ∀ (m:Nat) (z:Int),lf f e m (z - e)=lf f e m z - f z+f (z+e*m):=by
   intro m;induction m with
   | zero=>intro z;simp![lf];rw[Int.ofNat_zero,Int.mul_zero,Int.add_zero];lia
   | succ m ihm=>
    intro z;have a1:z - e+e*((m+1:Nat):Int)=z+e*m:=by
     push_cast;rw[Int.mul_add,Int.mul_one];lia
    rw[lf,ihm,lf,a1];lia
  have hs:=sh (n+1) (x - e*n);have n_:nI f e (-((n:Int)+1)) (x - e*((n:Int)+1))=lf f e (n+1) (x - e*n - e):=by unfold nI;rw[aj ∅,show(- -((n:Int)+1)).toNat=n+1 by lia];congr 1;rw[Int.mul_add,Int.mul_one];lia
  have hs3:nI f e (-(n:Int)) (x - e*n)=lf f e n (x - e*n):=by unfold nI;by_cases h0:n=0;subst h0;rfl;rw[aj ∅,show(- -(n:Int)).toNat=n by lia]
  have hs4:lf f e (n+1) (x - e*n)=lf f e n (x - e*n) - f (x - e*n+e*((n+1:Nat):Int)):=rfl;have e5:x - e*n+e*((n+1:Nat):Int)=x+e:=by push_cast;rw[Int.mul_add,Int.mul_one];lia
  rw[n_,hs,hs4,e5,h1];rw[hs3] at ih;lia
theorem wN {f g:Int ->Int}{e:Int}(h: ∀x,g x= -f (x+e)): ∀ (n:Nat) (x:Int),fL g (-e) n x=lf f e n x
 | 0,_=>rfl
 | n +1,x=>by
  rw[fL,lf,wN h n x,h];have:x - -e*n+e=x+e*((n+1:Nat):Int):=by rw[Int.neg_mul];push_cast;rw[Int.mul_add,Int.mul_one];lia
  rw[this];lia
theorem wO {p:Int}{f g:Int ->Int}{e:Int}(h: ∀x,f x % p=g x % p): ∀ (n:Nat) (x:Int),fL f e n x % p=fL g e n x % p
 | 0,_=>rfl
 | n+1,x=>by rw[fL,fL,Int.add_emod,wO h n x,h, <- Int.add_emod]
theorem qu (f:Int ->Int)(x:Int): ∀n:Nat,fL f 0 n x=f x*n
 | 0=>by simp[fL]
 | n+1=>by rw[fL,qu f x n,Int.zero_mul,Int.sub_zero];push_cast;rw[Int.mul_add,Int.mul_one]
structure rR (p:Int)(a:Rd)(n:Int)(r:Rd):Prop where
 en:r.1=a.1*n
 pt:de p r.2
 at_: ∀x,fR r.2 x=nI (fR a.2) a.1 n x % p
def rR.JA {p:Int}(hp:0<p){a r:Rd}{n:Int}(hn:n<0)(h:rR p (bk p a) (-n) r):rR p a n r:=by exact#[?_,h.pt,λx=> ?_];rw[h.en];change -a.1* -n=a.1*n;rw[Int.neg_mul_neg];rw[h.at_];unfold nI;rw[ah ∅,aj hn];change fL (fR (bk p a).2) (-a.1) (-n).toNat x % p=_;rw[<- wN (f:=fR a.2) (g:=λx=> -fR a.2 (x+a.1)) (λ_=>rfl)];show wO (λy=>by rw[No hp,Int.emod_emod_of_dvd _ (Int.dvd_refl p)]) _ _
def lY (e:Int)(n:Nat)(q:Int×Int):Pt:=(List.range n).map λ(k:Nat)=>(q.1+e*k,q.2)
def jN (e:Int)(n:Nat)(l:Pt):Pt:=(l.map (lY e n)).flatten
theorem wE (e x:Int)(q:Int×Int): ∀n:Nat,fR (lY e n q) x=fL (fR [q]) e n x
 | 0=>rfl
 | n +1=>by
  have:lY e (n+1) q=lY e n q++ [(q.1+e*n,q.2)]:=by unfold lY;rw[List.range_succ,bA];rfl
  rw[this,iw,wE e x q n,fL];congr 1;simp![fR];by_cases c:q.1+e*n=x;rw[aj c,aj ∅];rw[ah c,ah ∅]
theorem wP (f g:Int ->Int)(e x:Int): ∀n:Nat,fL (λy=>f y+g y) e n x=fL f e n x+fL g e n x
 | 0=>rfl
 | n+1=>by rw[fL,fL,fL,wP f g e x n];lia
theorem wM (e x:Int): ∀n:Nat,fL (λ_=>0) e n x=0
 | 0=>rfl
 | n+1=>by rw[fL,wM e x n];rfl
theorem wF (e:Int)(n:Nat)(x:Int): ∀l:Pt,fR (jN e n l) x=fL (fR l) e n x
 | []=>by have:fR ([]:Pt)=λ_=>0:=rfl;rw[this,wM];rfl
 | q ::l=>by
  have e1:jN e n (q::l)=lY e n q++jN e n l:=rfl;have e2:fR (q::l)=λy=>fR [q] y+fR l y:=by funext y;have:=iw [q] l y;show this
  rw[e1,iw,wE,wF e n x l,e2,wP]
theorem qO (e:Int)(n:Nat): ∀l:Pt,(jN e n l).length=l.length*n
 | []=>by simp[jN]
 | q::l=>by have e1:jN e n (q::l)=lY e n q++jN e n l:=rfl;rw[e1,aV,qO e n l,lY,ao,List.length_range,aI,Nat.succ_mul];lia
def LR:e9:=λxs M q=>dY λ(p:Int) (a:Rd) (n:Int)=>MJ (xs= [wi p,gd a,wi n]) (0<p) (p<1000) (de p a.2) (a.2.length<=40000) (0<=n) (a.1≠0 ->n<100000 /\ a.2.length*n.toNat<=100000) (∀r:Rd,rR p a n r ->(a.1=0 ->r.2.length<=a.2.length) ->(a.1≠0 ->r.2.length<=a.2.length*n.natAbs) ->q (gd r) M)
def So:e9:=λxs M q=>dY λ(p:Int) (a:Rd) (n:Int)=>PL (xs= [wi p,gd a,wi n]) (0<p) (p<1000) (de p a.2) (a.2.length<=40000) (a.1≠0 -> -100000<n /\ n<100000 /\ a.2.length*n.natAbs<=100000) (∀r:Rd,rR p a n r ->(a.1=0 ->r.2.length<=a.2.length) ->(a.1≠0 ->r.2.length<=a.2.length*n.natAbs) ->q (gd r) M)
def cv (a b:cz Int):Nat ->Nat ->Int
 | 0,_=>0
 | k+1,n=>cv a b k n+if k<=n then a.getD k 0*b.getD (n - k) 0 else 0
structure IsPart (p:Int)(one other q r:List Int):Prop where
 qs:ML p q
 rs:ML p r
 len:r.length<other.length
 ql:q.length<=one.length
 eq: ∀n,one.getD n 0 % p=(cv q other q.length n+r.getD n 0) % p
end WQ
namespace L2
open PySem PySem.Spec PyProof.Rows
theorem tI: ∀ {ss:cz Str} {us:cz cG},bK (ss.map V.str) us -> ∃l:cz (Str×Tok),us=strValues l /\ l.map (·.1)=ss
 | [],_,h=>by cases h;show#[[],rfl,rfl]
 | x ::r,_,h=>by
  cases h with
  | cons h1 h2=>let⟨t,rfl⟩:=h1;let⟨l,rfl,e⟩:=tI h2;show#[(x,t)::l,rfl,by rw[az,e]]
section
variable {X:Cx}
def LN (K:gg):V ->cz V ->Hp ->VK ->Prop:=λx vs H Q=>dY λ(ix:Str) (b:dw) (ss:cz Str)=>oq (x= .str ix) (vs= [.ref b]) (fh K H b (ss.map V.str)) (Builtin.Str.tooLong (ss.toArray.foldl (· + ·.length+ix.length) 0)=false) ((Builtin.Str.glued ix ss).length<=sizeLine) (Q (.str (Builtin.Str.glued ix ss)) H)
def JN:MtR X "str.join" (LN X.K):=by
 intro ae s σ H x xs v us Q I rx rv h;let⟨ix,b,ss,rfl,rfl,hb,hl,hg,q⟩:=h;let⟨t,rfl⟩:=rx;let⟨u,rfl,ru⟩:=vals1 rv;cases ru;let⟨its,r,p,hz⟩:=I.list hb;let⟨l,rfl,e⟩:=tI r;exact call_meets PySem.F.slot_str_join (typeIs_str _ _ _) PySem.F.entry_str_join (PySem.F.args_str_join_2 _ _) (meets_str_join_list ix t b l (by rw[e];show hl)) #[p.isList,?_];match l,e with
 | [],e=>have e:ss= []:=e.symm;subst e;show#[hg, .str _,H,I.tok _,#[_,rfl],q]
 | [y],e=>have e:ss= [y.1]:=e.symm;subst e;show#[.str y.1,H,I,#[y.2,rfl],q]
 | y::z::l',e=>subst e;show#[hg, .str _,H,I.tok _,#[_,rfl],q]
def LP:R2:=λx y H Q=>bX λi j=>eZ (x= .str i) (y= .str j) (i.length+j.length<=sizeLine) (Q (.str (i++j)) H)
theorem AO:kB X (binaryOp .Add) LP:=zg
end
end L2
namespace WL
open PySem L2
section
variable {K:gg}
def MZ (r:WM)(a:WE)(b:WA):WE:=λρ M q=>a ρ M λx M1=> ∃y,x=ws y /\ b ρ M1 λxs M2=>r x xs M2 q
instance {r:V ->cz V ->Hp ->VK ->Prop}{w:WM}{t:TE}{u:TA}{a:WE}{b:WA} [ir:IM K r w] [ia:IE K t a] [ib:IA K u b]:IE K (Xg K "str" r t u) (MZ w a b) where
 imp :=λρ M σ H q Q o h k=>ia.imp ρ M σ H _ _ o h λx M1 v H1 ⟨y,e,h1⟩ t1 m1 r1=>by subst e;cases r1.eq;show#[rfl,ib.imp ρ M1 σ H1 _ _ (o.mv t1 m1) h1 λz M2 u H2 h2 t2 m2 r2=>ir.imp (ws y) (.str y) z u M2 H2 _ _ m2 WR.v r2 h2 λz M3 v3 H3 h3 t3 m3 r3=>k z M3 v3 H3 h3 ((t1.trans t2).trans t3) m3 r3]
theorem bW.strs {H:Hp}: ∀ {ss:cz Str} {vs:cz V},bW K H (ss.map ws) vs ->vs=ss.map V.str
 | [],vs,h=>by simpa only[bL,bW] using h
 | n::r,vs,h=>by simp![az,bW] at h;let⟨v,t,rfl,h1,h2⟩:=h;rw[bW.strs h2,h1.eq];rfl
def Lf:WM:=λx ys M q=>dY λ(ix:Str) (b:dw) (ss:cz Str)=>oq (x=ws ix) (ys= [wr b]) (M b=some (.lst (ss.map ws))) (Builtin.Str.tooLong (ss.toArray.foldl (· + ·.length+ix.length) 0)=false) ((Builtin.Str.glued ix ss).length<=sizeLine) (q (ws (Builtin.Str.glued ix ss)) M)
instance:IM K (LN K) Lf where
 imp:=by rintro x v ys us M H q Q m r1 r2 ⟨ix,b,ss,rfl,rfl,hb,hl,hg,h⟩ k;cases r1.eq;let⟨u,rfl,r⟩:=r2.one;cases r.eq;let⟨vs,hv,rr⟩:=m b _ hb;cases rr.strs;show#[ix,b,ss,rfl,rfl,fh.of hv,hl,hg,k _ M _ H h (aS.refl H) m WR.v]
def Ll:nB:=λx y M q=>bX λi j=>eZ (x=ws i) (y=ws j) (i.length+j.length<=sizeLine) (q (ws (i++j)) M)
instance:IR K LP Ll where
 imp:=by rintro x y v u M H q Q m r1 r2 ⟨i,j,rfl,rfl,hz,h⟩ k;cases r1.eq;cases r2.eq;show#[i,j,rfl,rfl,hz,k _ M _ H h (aS.refl H) m WR.v]
def U8 {i j:Str}{M:Mp}{q:WK}:Ll (.v (.str i)) (.v (.str j)) M q=dI (i.length+j.length<=sizeLine) (q (ws (i++j)) M):=by apply propext;symm;rintro⟨_,_,h1,h2,h3,k⟩;cases h1;cases h2;show#[h3,k];rintro⟨h3,k⟩;show#[_,_,rfl,rfl,h3,k]
def uT (x:W)(k:Str ->Prop):Prop:= ∃y,x=ws y /\ k y
def Xi {y:Str}{k:Str ->Prop}:uT (.v (.str y)) k=k y:=by apply propext;symm;rintro⟨_,h,k⟩;cases h;show k;intro h;show#[_,rfl,h]
def WV {r:WM}{a:WE}{b:WA}{ρ:b7}{M:Mp}{q:WK}:MZ r a b ρ M q=a ρ M λx M1=>uT x λy=>b ρ M1 λxs M2=>r (ws y) xs M2 q:=by unfold MZ uT;congr 1;funext x M1;apply propext;symm;rintro⟨y,rfl,h⟩;show#[y,rfl,h];rintro⟨y,rfl,h⟩;show#[y,rfl,h]
def WH {a:WE}{ρ:b7}{M:Mp}{q:WK}:MV a ρ M q=a ρ M λx M1=>CK x λi=>dI (i.natAbs.log2<1920) (q (ws (toString i)) M1):=by unfold MV CK dI;congr 1;funext x M1;show propext #[λ⟨i,a,b,c⟩=>#[i,a,b,c],λ⟨i,a,b,c⟩=>#[i,a,b,c]]
def WF {a:WE}{ρ:b7}{M:Mp}{q:WK}:MU a ρ M q=a ρ M λx M1=>uT x λy=>dI (y.length<=sizeLine) (q (ws y) M1):=by unfold MU uT dI;congr 1;funext x M1;show propext #[λ⟨i,a,b,c⟩=>#[i,a,b,c],λ⟨i,a,b,c⟩=>#[i,a,b,c]]
theorem aef {out:Str}{ρ:b7}{M:Mp}{q:WK}:wJ0 out ρ M q=dI (out.length<=sizeLine) (q (ws out) M):=rfl
def aee {a:WE}{f:Str ->WE}{out:Str}{ρ:b7}{M:Mp}{q:WK}:Wy a f out ρ M q=a ρ M λx M1=>uT x λy=>dI ((out++y).length<=sizeLine) (f (out++y) ρ M1 q):=by unfold Wy uT dI;congr 1;funext x M1;show propext #[λ⟨i,a,b,c⟩=>#[i,a,b,c],λ⟨i,a,b,c⟩=>#[i,a,b,c]]
end
end WL
namespace WQ
open PySem L2 WL WP
def IH {a b:Str}(h:a.cps.toList=b.cps.toList):a=b:=by cases a;cases b;congr 1;show Array.toList_inj.mp h
def BE (a b:Str):(a++b).cps.toList=a.cps.toList++b.cps.toList:=by change(a.cps++b.cps).toList=_;simp
def str_len (a:Str):a.length=a.cps.toList.length:=by change a.cps.size=_;simp
def j9 (a b:Str):(a++b).length=a.length+b.length:=by rw[str_len,BE,aV, <- str_len, <- str_len]
def ue (ix:Str): ∀ (x:Str) (ss:cz Str),(Builtin.Str.glued ix (x::ss)).cps.toList=x.cps.toList++(ss.map λy=>ix.cps.toList++y.cps.toList).flatten:=by
 intro x ss;unfold Builtin.Str.glued;change(ss.foldl (λd4 p=>d4++ix.cps++p.cps) x.cps).toList=_;generalize x.cps=a;induction ss generalizing a with
 | nil=>simp
 | cons y ss ih=>rw[List.foldl_cons,ih,az,List.flatten_cons];simp
theorem ud (ix:Str):Builtin.Str.glued ix []=Str.empty:=rfl
theorem mw (ix:Str){c:Nat}: ∀ (ss:cz Str),(∀x∈ss,x.length<=c) ->(Builtin.Str.glued ix ss).length<=ss.length*(c+ix.length)
 | [],_=>by rw[ud];show cN _
 | x :: ss,h=>by
  rw[str_len,ue,aV, <- str_len];have h1:=h x (by simp);have h2:((ss.map λy=>ix.cps.toList++y.cps.toList).flatten).length<=ss.length*(c+ix.length):=by
   have: ∀l:cz Str,(∀y∈l,y.length<=c) ->((l.map λy=>ix.cps.toList++y.cps.toList).flatten).length<=l.length*(c+ix.length):=by
    intro l hl;induction l with
    | nil=>simp
    | cons y l ih=>rw[az,List.flatten_cons,aV,aV, <- str_len, <- str_len,aI,Nat.succ_mul];have:=hl y (by simp);have:=ih λz hz=>hl z (by simp[hz]);lia
   show this ss λy hy=>h y (by simp[hy])
  rw[aI,Nat.succ_mul];lia
def Ro (ix:Str){c:Nat}(ss:cz Str)(h: ∀x∈ss,x.length<=c)(hz:ss.length*(c+ix.length) <=sizeLine):Builtin.Str.tooLong (ss.toArray.foldl (· + ·.length+ix.length) 0)=false:=by
 have: ∀ (l:cz Str) (n:Nat),(∀y∈l,y.length<=c) ->l.foldl (λ(a:Nat) (y:Str)=>a+y.length+ix.length) n<=n+l.length*(c+ix.length):=by
  intro l;induction l with
  | nil=>intro n _;simp
  | cons y l ih=>intro n hl;rw[List.foldl_cons,aI,Nat.succ_mul];have h1:=hl y (by simp);have h2:=ih (n+y.length+ix.length) λz hz=>hl z (by simp[hz]);lia
 have h1:=this ss 0 h;unfold Builtin.Str.tooLong;rw[decide_eq_false_iff_not,List.foldl_toArray];lia
theorem OC {M:Mp}{q:WK}{ix:Str}{b:dw}{ss:cz Str}{c:Nat}(hb:M b=some (.lst (ss.map ws)))(h: ∀x∈ss,x.length<=c)(hz:ss.length*(c+ix.length) <=sizeLine)(k:q (ws (Builtin.Str.glued ix ss)) M):Lf (ws ix) [wr b] M q:=#[ix,b,ss,rfl,rfl,hb,Ro ix ss h hz,aH (mw ix ss h) hz,k]
theorem df {n:Nat}(h:n<=5000):n<=sizeLine:=aH h (by rw[bY];decide)
def cs (n r:Int)(l:Pt):Int:=((l.filter λz=>decide (z.1 % n=r)).map (·.2)).sum
end WQ
namespace L2
open PySem PySem.Spec PyProof.Rows
section
variable {X:Cx}{tg l:Expr}{tl:TE}{K:gg}
def E3 (hK:X.K=K)(hl:PE X l tl):PI X tg l (F' K tl):=by subst hK;show ed hl
end
end L2
namespace WQ
open PySem L2 WL WP
abbrev Cf:=Nat ->Int
def V5:Nat ->Cf ->Cf ->Int
 | 0,f,g=>f 0*g 0
 | n+1,f,g=>f 0*g (n+1)+V5 n (λi=>f (i+1)) g
def co (l:cz Int):Cf:=λi=>l.getD i 0
def Mult (p:Int)(a g:Cf):Prop:=bX λ(E:Cf) (N:Nat)=>(∀i,N<=i ->E i % p=0) /\ ∀n,a n % p=V5 n E g % p
def uD (p:Int)(a g h:Cf):Prop:=dY λ(A B:Cf) (N:Nat)=>(∀i,N<=i ->A i % p=0 /\ B i % p=0) /\ ∀n,a n % p=(V5 n A g+V5 n B h) % p
def FV (p:Int)(a:Rd)(v:Int):Prop:=bX λlo hi=>cg (UC (Lx a) lo) (UD (Lx a) hi) (v=fwv p a lo hi)
open Classical in
noncomputable def fv (p:Int) (a:Rd):Int:=if h: ∃v,FV p a v then h.choose else 0
def names:cz Str:= ["on","back","up","down"]
def Vd (p:Int)(s:Str):Rd:=if s= "on" then(1,[]) else if s= "back" then(-1,[]) else if s= "up" then(0,[(0,1)]) else(0,[(0,p - 1)])
end WQ
namespace L2
open PySem
def Ob {X:Cx}{K:gg}(hK:X.K=K):kB X (compareOp .In) (Vk K false):=by subst hK;show g_
end L2
namespace WQ
open PySem L2 WL WP
def pairsOf (p:Int)(z:Int×Int):Pt:=if z.2<=p - z.2 then List.replicate z.2.toNat (z.1,1) else List.replicate (p - z.2).toNat (z.1, -1)
def Wf:Int ->Pt ->Int
 | _,[]=>0
 | here,z::r=>Uo (here - z.1)+Wf z.1 r
end WQ
namespace L2
open PySem PySem.Spec PyProof.Rows
def Inv.freeze {X:Cx}{ae:cz (dw×Obj)}{σ:St}{H:Hp}{s:cL}{d:dw}{v:HO}{o:Obj}(I:Inv X ae σ H s)(e:H d=some v)(ho:s.heap.get? d=some o)(n1: ∀xs,HO.tup xs≠v:=by intro _ q;cases q)(n2: ∀a b,HO.mx a b≠v:=by intro _ _ q;cases q)(n3: ∀a,HO.own a≠v:=by intro _ q;cases q)(n4: ∀a,HO.IB a≠v:=by intro _ q;cases q): Inv X ae σ (bU H d (.mx o v)) s:=by
 have ne: ∀ {b u},H b=some u ->u≠v ->b≠d:=λ{b u} h n z=>by subst z;rw[e] at h;show n (aW h).symm
 have JJ: ∀ {b},H b=none ->b≠d:=λ{b} h z=>by subst z;rw[e] at h;cases h
 exact#[I.ok,I.os,I.bare,#[I.base.keep,I.base.slot,λb u h1 h2 h3=> ?_,I.base.there,λb xs h=> ?_,λb o' u h=> ?_,λb ps h=> ?_],I.loc,I.cell,?_,λx c h=> ?_,λp hp=> ?_,λb u h=> ?_,I.len];have z:=I.base.free b u h1 h2 h3;rw[bq (JJ z)];show z;have z:=I.base.jg b xs h;rw[bq (ne z (n1 _))];show z;have z:=I.base.ik b o' u h;rw[bq (ne z (n2 _ _))];show z;let⟨more,z⟩:=I.base.jt b ps h;show#[more,by rw[bq (ne z (n4 _))];show z];rw[bq (JJ I.free)];show I.free;rw[bq (JJ (I.fg x c h))];show I.fg x c h;let⟨a1,a2,a3⟩:=I.pin p hp;show#[a1,by rw[bq (JJ a2)];show a2,a3];have ow: ∀c,H c=some (.own b) ->bU H d (.mx o v) c=some (.own b):=λc r=>by rw[bq (ne r (n3 _))];show r
 have tu: ∀c xs,H c=some (.tup xs) ->bU H d (.mx o v) c=some (.tup xs):=λc xs r=>by rw[bq (ne r (n1 _))];show r
 by_cases hb:b=d;subst hb;rw[bC] at h;cases h;show#[ho,(I.b0 b _ e).lL (λ_ _ _ h=>h) ow tu];rw[bq hb] at h;show(I.b0 b u h).lL (λ_ _ _ h=>h) ow tu
def V' (d:dw)(o:Obj)(kvs:cz (bH×V)):It:=#[λi H=>i<kvs.length /\ H d=some (.mx o (.dK kvs)),λi H x H'=>H'=H /\ ∃kv,kvs[i]? =some kv /\ x=kv.2,λi H=>kvs.length<=i /\ H d=some (.mx o (.dK kvs))]
theorem L6: ∀ {kvs:cz (bH×V)} {vs:cz (bH×cG)} {i:Nat} {q:bH×cG},KV kvs vs ->vs[i]? =some q -> ∃p,kvs[i]? =some p /\ RelV p.2 q.2
 | _,_,0,_, .cons ⟨_,r⟩ _,e=>by cases e;show#[_,rfl,r]
 | _,_,i+1,q, .cons _ t,e=>by have e':_=some q:=e;rw[List.getElem?_cons_succ] at e' ⊢;show L6 t e'
def Gv {X:Cx}{ae:cz (dw×Obj)}{σ:St}{H:Hp}{s:cL}{d:dw}{o:Obj}{kvs:cz (bH×V)}{es:ft DictEntry}{ep:Nat}(I:Inv X ae σ H s)(ho:o.data= .dict es ep)(e:H d=some (.mx o (.dK kvs))): ∃vs,KV kvs vs /\ s.heap.DictAt (bQ X.prog X.w) d vs ep:=by
 let⟨h0,_,_,vs,fk,o',VZ,V0,h1,h2,h3,h4⟩:=(show dF X.prog X.w H s.heap d (.mx o (.dK kvs)) from I.b0 d _ e)
 rw[h0] at h1;cases h1;rw[ho] at h3;cases h3;show#[vs,fk,o,es,h0,h2,ho,h4]
def BW {P:gA}{w:gB}{K:gg}{tg:Expr}{d it:dw}{o:Obj}{kvs:cz (bH×V)}{es:ft DictEntry}{ep:Nat}(ho:o.data= .dict es ep): sY P w K tg (V' d o kvs) [it] it (λi h=>h.IsValIter it d i kvs.length ep) where
 mem:=by simp
 obj:=λi h st b hb=>by have e:b=it:= ⇑hb;subst e;let⟨o,e,c,d⟩:=st;show#[o,e,λv z=>by rw[d] at z;cases z]
 keep:=λi h h' st k=>st.at λo e=>k it (by simp) o e
 item:=by
  intro X hP hw hK hc i ae s σ H E I hf st hg;subst hP hw hK;let⟨hi,hH⟩:=hg;let⟨vs,fk,hd⟩:=Gv I ho hH;have hl:=fk.length;rw[hl] at st hi;let⟨f0,f1,f2,f3,f4,f5⟩:=hf it (by simp);let⟨⟨k,x⟩,hx⟩: ∃q,vs[i]? =some q:=#[vs[i],by simp[hi]]
  let⟨p,hp,rp⟩:=L6 fk hx;exact wpAny_pyNext_values_item st hd hx λh' Gk fo=> ?_;have I1:Inv X ae σ H {s with heap:=h'}:=I.turned (t':=s.toks) (λb o hb e=>(fo.2 b hb).trans e) f0 f1 f3 f4 f5;let⟨oo,e,c,dd⟩:=id Gk;rw[<- hl] at Gk;show#[x,rfl,xF (s:= {s with heap:=h'}) e c dd ⋯ #[p.2,H,I1,rp,#[rfl,p,hp,rfl],Gk,λb hb=>(hf b hb).1]]
 done:=by intro X hP hw hK hc i ae s σ H E I hf st hg;subst hP hw hK;let⟨hi,hH⟩:=hg;let⟨vs,fk,hd⟩:=Gv I ho hH;have hl:=fk.length;rw[hl] at st hi;let⟨f0,f1,f2,f3,f4,f5⟩:=hf it (by simp);show wpAny_pyNext_values_end (I.ok.hd hc) st hd (by simp;omega) λh' eb=>#[rfl,I.turned (t':=s.toks) (λb o hb e=>eb b o hb e) f0 f1 f3 f4 f5]
 self:=λ_ _ _ _ _ st h=>wpAny_pyIter_valiter st h
section
variable {X:Cx}{tg o:Expr}{td:TE}{dh dg:Pos}
def Mn (td:TE):TI:=λσ H R=>td σ H λx H1=>bX λd kvs=>cg (x= .ref d) (H1 d=some (.dK kvs)) (∀o,R (V' d o kvs) (bU H1 d (.mx o (.dK kvs))))
def Jc (ho:PE X o td)(xD:attributeBase o "values" X.env (eval o X.env)=eval o X.env:=by rfl)(xB:(dh.endLine==dg.line)=true:=by rfl):PI X tg (.Call (.Attribute o "values" dh) [] [] dg) (Mn td):=by
 intro ae s σ H R I h;exact wpAny_Call_method0_late xD xB (ci (ho ae s σ H _ I h) λv s1 ⟨x,H1,I1,r1,d,kvs,ex,hd,q1⟩=> ?_);subst ex;obtain rfl:v=Value.ref d:=r1;let⟨t1,t2,sys⟩:=zE I1 (.inl #[kvs, .inl hd]);exact#["dict","dict.values",PySem.F.plainAttrs_dict,PySem.F.slot_dict_values,PySem.F.type_dict_values,t1,t2,Calls.callWith_builtin rfl (PySem.evalArgs_none ?_)];let⟨z,OL,vs,fk,dd⟩:=mP I1.b0 (.inl hd);exact call_meetsIn PySem.F.slot_dict_values dd.typeIs PySem.F.entry_dict_values (PySem.F.args_dict_values_1 _) (meets_dict_values (bQ X.prog X.w) d OL) #[#[vs,dd],?_];let⟨ob,es,ep,g1,g2,g3,g4⟩:=dd;have da:s1.heap.DictAt (bQ X.prog X.w) d vs ep:=#[ob,es,g1,g2,g3,g4]
 exact wpAny_pyIter_values (d:=d) (kvs:=vs) (ep:=ep) (knd:=bQ X.prog X.w) #[_,aJ _ rfl,rfl,rfl] (da.push _) ?_;have I2:=I1.freeze hd g1;exact#[_,[_],_,V' d ob kvs,_,rfl,I2.kept (t':=s1.toks) λb o e=>ai _ (ai _ e),BW g3,?_,λb hb=> ?_,q1 ob];rw[fk.length];show#[_,aJ _ rfl,rfl,rfl];have I3:Inv X ae σ (bU H1 d (.mx ob (.dK kvs))) {s1 with heap:=s1.heap.push {cls:= .type "dict_values",data:= .fields #[.ref d]}}:=I2.kept (t':=s1.toks) λb o e=>ai _ e;have e:=aK.mp hb;subst e;show I3.vL (ak _) (I3.b0.fresh (ak _))
end
end L2
namespace WL
open PySem L2
variable {K:gg}
def FS (a:WE):WI:=λρ M q=>a ρ M λx M1=>bX λd kvs=>cg (x=wr d) (M1 d=some (.dK kvs)) (∀o ks,q (kvs.map (·.2)) (λM'=>M' d=some (.fz o ks kvs)) (um M1 d (.fz o ks kvs)))
theorem L7: ∀ {H:Hp} {kvs:cz (bH×W)} {vs:cz (bH×V)} {i:Nat} {q:bH×V},KR K H kvs vs ->vs[i]? =some q -> ∃p,kvs[i]? =some p /\ WR K H p.2 q.2
 | _,_,_,0,_, .cons ⟨_,r⟩ _,e=>by cases e;show#[_,rfl,r]
 | _,_,_,i+1,q, .cons _ t,e=>by have e':_=some q:=e;rw[List.getElem?_cons_succ] at e' ⊢;show L7 t e'
theorem qT {H:Hp}: ∀ {kvs:cz (bH×W)} {vs:cz (bH×V)},KR K H kvs vs ->kvs.length=vs.length
 | _,_, .nil=>rfl
 | _,_, .cons _ t=>by rw[aI,aI,qT t]
def CH {H1:Hp}{d:dw}{o:Obj}{kvs:cz (bH×W)}{ks:cz (bH×V)}:Dq K H1 (V' d o ks) (kvs.map (·.2)) (λM'=>M' d=some (.fz o ks kvs)):=by intro i M H t m hM;let⟨e1,r1⟩:=m d _ hM;have hl:=qT r1;rw[ao];exact#[λh=>#[by omega,e1],λh=>#[by omega,e1],λv H' hi ⟨e2,kv,hk,e3⟩=> ?_];subst e2 e3;let⟨p,hp,rp⟩:=L7 r1 hk;show#[aS.refl _,m,p.2,by rw[aG,hp];rfl,rp]
instance {t:TE}{a:WE} [ia:IE K t a]:II K (Mn t) (FS a) where
 imp:=λρ M σ H q R o h k=>ia.imp ρ M σ H _ _ o h λx M1 v H1 ⟨d,kvs,ex,hd,h1⟩ t1 m1 r1=>by subst ex;let⟨ks,e,r⟩:=m1 d _ hd;exact#[d,ks,r1.eq,e,λob=>k _ _ _ _ _ (h1 ob ks) (t1.trans (oA e)) (m1.put (oA e) #[bC,KR.ts (oA e) r]) CH]
def VD {a:WE}{ρ:b7}{M:Mp}{q:cz W ->(Mp ->Prop) ->Mp ->Prop}:FS a ρ M q=a ρ M λx M1=>eC x λd=>iO (M1 d) λkvs=> ∀o ks,q (kvs.map (·.2)) (λM'=>M' d=some (.fz o ks kvs)) (um M1 d (.fz o ks kvs)):=by unfold FS eC iO;congr 1;funext x M1;apply propext;symm;(· rintro⟨p,l,h1,h2,h⟩;show#[p,h1,l,h2,h]);(· rintro⟨p,h1,l,h2,h⟩;show#[p,l,h1,h2,h])
end WL
namespace WQ
open PySem L2 WL WP
def T9 (n:Int):Pt ->Int ->Int
 | [],_=>0
 | z::r,k=>(if z.1 % n=k then z.2 else 0)+T9 n r k
def TK {P:gA}{w:gB}{K:gg}{mg:Str ->cT cG}{base:gC}{CX:yK}{k:Nat}{f:dw}{fd:gN}{ps:cz Str}{p1 p2 p3:e9}(F1:bv P w K mg base CX k f fd ps (fw K p1))(F2:bv P w K mg base CX k f fd ps (fw K p2)) (h: ∀xs M q,p3 xs M q ->p1 xs M q \/ p2 xs M q):bv P w K mg base CX k f fd ps (fw K p3):=by exact#[λvs H Q E ⟨xs,M,q,r,m,h3,k⟩=> ?_,λA outer s H args us vs Q E hr e b v ⟨xs,M,q,r,m,h3,k⟩=> ?_];obtain h4 | h4:=h xs M q h3;show F1.len vs H Q E #[xs,M,q,r,m,h4,k];show F2.len vs H Q E #[xs,M,q,r,m,h4,k];obtain h4 | h4:=h xs M q h3;show F1.run A outer s H args us vs Q E hr e b v #[xs,M,q,r,m,h4,k];show F2.run A outer s H args us vs Q E hr e b v #[xs,M,q,r,m,h4,k]
def fl (p:Int)(m:Nat)(f:Pt):cz Int:=(List.range m).map λ(k:Nat)=>T9 m f k % p
end WQ
namespace L2
open PySem PySem.Spec PyProof.Rows
theorem Fb {X:Cx}{pos:Pos}{k v:Expr}{tk tv:TE}(hk:PE X k tk)(hv:PE X v tv):PE X (.Dict [some k] [v] pos) (En [(tk,tv)]):=Jg (E2 hk hv Jb) rfl rfl (by simp) (by simp)
end L2
namespace WL
open PySem L2
variable {K:gg}
def D7 (a b:WE):WE:=λρ M q=> ∀p,M p=none ->a ρ (um M p (.dK [])) λx M1=>b ρ M1 λy M2=>M2 p=some (.dK []) /\ ∃k,x=gO k /\ q (wr p) (um M2 p (.dK [(k,y)]))
instance {tk tv:TE}{a b:WE} [ia:IE K tk a] [ib:IE K tv b]:IE K (En [(tk,tv)]) (D7 a b) where
 imp :=λρ M σ H q Q o h k=>λp hp=>by
  have t0:aS H (bU H p (.dK [])):=L2.dP.ts (bF hp);have m0:d6 K (um M p (.dK [])) (bU H p (.dK [])):=o.hp.put t0 #[[],bC, .nil];exact ia.imp ρ _ σ _ _ _ (o.mv t0 m0) (h p (o.hp.fresh hp)) λx M1 v H1 h1 t1 m1 r1=> ?_;exact ib.imp ρ M1 σ H1 _ _ (o.mv (t0.trans t1) m1) h1 λy M2 u H2 ⟨e1,ky,e2,h2⟩ t2 m2 r2=> ?_;subst e2;let⟨ks,hk,rr⟩:=m2 p _ e1;cases rr;have ev:v=kV ky:=by
   cases ky with
   | inl i=>show r1.eq
   | inr z=>show r1.eq
  exact#[hk,[(ky,u)],by rw[ev];rfl,by simp,?_];have t3:=oA (u:= .dK (jL [] [(ky,u)])) hk;exact k _ _ _ _ h2 (((t0.trans t1).trans t2).trans t3) (m2.put t3 #[_,bC,?_]) WR.v;change KR K _ [(ky,y)] (jL [] [(ky,u)]);have em:jL [] [(ky,u)]= [(ky,u)]:=rfl;rw[em];show .cons #[rfl,r2.ts t3] .nil
theorem D0 {a b:WE}{ρ:b7}{M:Mp}{q:WK}:D7 a b ρ M q=zm M λp=>a ρ (um M p (.dK [])) λx M1=>b ρ M1 λy M2=>M2 p=some (.dK []) /\ ∃k,x=gO k /\ q (wr p) (um M2 p (.dK [(k,y)])):=rfl
end WL
namespace L2
open PySem PySem.Spec PyProof.Rows
section
variable {X:Cx}{k:Nat}{f:dw}{fd:gN}{ps:cz Str}{sp:Sp}{E:XK}{x:Str}{p pos:Pos}{e:Expr}{es:cz Expr}{t:TA}{st:Stmt}
theorem nR (hP:fQ (gv X.prog X.w) X E)(C:gu X.K X.mg x ps st f fd)(F:bv X.prog X.w X.K X.mg X.base (gv X.prog X.w) k f fd ps sp)(hr:dz k X.A)(hg:Gl X x) (ha:PA X (e::es) t) (kU:(x==("__debug__" :Str))=false:=by decide) (he:starEach (e::es) X.env=(false,eval e X.env)::starEach es X.env:=by rfl) (nA:(backTo pos (starEach es X.env)).any (·.1)=false:=by rfl): PE X (.Call (.Name x p) (e::es) [] pos) (oB sp [] E t):=AK F hr hg C.at_ C.fn.kp C.bd .nil hP ha kU he nA
end
end L2
namespace WQ
open PySem L2 WL WP
def adS (s x:Int):Int:=if s=0 then x else x % s
def hI (s x:Int):Int:=if s=0 then 0 else x / s
def Ow:cz Int ->Int
 | []=>0
 | a::r=>r.foldl (λm x=>if x<m then x else m) a
def plc (l:Pt):cz Int:=l.map (·.1)
def V6 (d:dw)(M M':Mp):Prop:= ∀b o,b≠d ->M b=some o ->M' b=some o
theorem V6.trans {d:dw}{M M1 M2:Mp}(a:V6 d M M1)(b:V6 d M1 M2):V6 d M M2:=λc o n h=>b c o n (a c o n h)
end WQ
namespace L2
open PySem
structure K9 (K:PySem.W.Frag)(mg:Str ->Option Value)(x qual:Str)(ps:List Str)(st:Stmt)(C f:Addr)(fd:FuncData):Prop where
 at_:mg x=some (.ref C)
 mkr:Mk K C f
 cl:yJ K C
 fn:yo K "__init__" qual st f fd
 bd:Binds K fd ps []
section
variable {X:Cx}{k:Nat}{f C:dw}{fd:gN}{ps:cz Str}{sp:Sp}{x qual:Str}{st:Stmt}{p pos:Pos}{e:Expr}{es:cz Expr}{t:TA}
theorem fB (M:K9 X.K X.mg x qual ps st C f fd)(F:bv X.prog X.w X.K X.mg X.base ez k f fd ps sp)(hr:dz (k+1) X.A)(hg:Gl X x) (ha:PA X (e::es) t) (kU:(x==("__debug__" :Str))=false:=by decide) (he:starEach (e::es) X.env=(false,eval e X.env)::starEach es X.env:=by rfl) (nA:(backTo pos (starEach es X.env)).any (·.1)=false:=by rfl): PE X (.Call (.Name x p) (e::es) [] pos) (Em C sp [] E0 t):=Je M.mkr F hr hg M.at_ M.bd .nil xh ha kU he nA
end
end L2
namespace WL
open PySem L2
section
variable {K:gg}
theorem xw {H:Hp}{f:Str}{x:W}: ∀ {fs:cz (Str×W)} {ks:cz (Str×V)},KR K H fs ks ->fs.lookup f=Option.some x -> ∃v,ks.lookup f=Option.some v /\ WR K H x v
 | _,_, .nil,h=>by cases h
 | (g,y)::fs,(g',v)::ks, .cons ⟨e,r⟩ t,h=>by
  cases (show g=g' from e);rw[List.lookup_cons] at h ⊢;cases hb:f==g with
  | true=>rw[hb] at h;cases h;show#[v,rfl,r]
  | false=>rw[hb] at h;show xw t h
def dQ (f:Str)(v:W):cz (Str×W) ->cz (Str×W)
 | []=> [(f,v)]
 | (g,x)::r=>if g=f then(g,v)::r else(g,x)::dQ f v r
theorem AW {H:Hp}{f:Str}{x:W}{v:V}(rx:WR K H x v): ∀ {fs:cz (Str×W)} {ks:cz (Str×V)},KR K H fs ks ->KR K H (dQ f x fs) (L2.gZ f v ks)
 | _,_, .nil=> .cons #[rfl,rx] .nil
 | (g,y)::fs,(g',u)::ks, .cons ⟨e,r⟩ t=>by cases (show g=g' from e);unfold dQ L2.gZ;split;show .cons #[rfl,rx] t;show .cons #[rfl,r] (AW rx t)
theorem AX {H:Hp}: ∀ {kvs:cz (Str×W)} {vs:cz (Str×V)},KR K H kvs vs ->kvs.length=vs.length
 | _,_, .nil=>rfl
 | _,_, .cons _ t=>by rw[aI,aI,AX t]
def MW (K:gg)(a:WE)(f:Str):WE:=λρ M q=>a ρ M λx M1=>rN λp C dx fs v=>oq (x=wr p) (M1 p=some (.ins C dx fs)) (yJ K C) (b8 K C f) (fs.lookup f=some v) (q v M1)
instance {t:TE}{a:WE}{f:Str} [ia:IE K t a]:IE K (Nq K t f) (MW K a f) where
 imp:=λρ M σ H q Q o h k=>ia.imp ρ M σ H _ _ o h λx M1 v H1 ⟨p,C,dx,fs,y,ex,hp,hc,hn,hl,h1⟩ t1 m1 r1=>by subst ex;let⟨ks,e,r⟩:=m1 p _ hp;let⟨u,hu,ru⟩:=xw r hl;show#[p,C,dx,ks,u,r1.eq,e,hc,hn,hu,k _ _ _ _ h1 t1 m1 ru]
def EH (K:gg)(a b:WE)(f:Str):WS:=λD ρ M=>b ρ M λy M1=>a ρ M1 λx M2=>gs λp C dx fs=>oq (x=wr p) (M2 p=some (.ins C dx fs)) (yJ K C) (b8 K C f) (fs.length<1000) (D.nx ρ (um M2 p (.ins C dx (dQ f y fs))))
instance {t u:TE}{a b:WE}{f:Str} [ia:IE K t a] [ib:IE K u b]:IS K (RU K t u f) (EH K a b f) where
 imp:=λρ M σ H D' D o h e=>ib.imp ρ M σ H _ _ o h λy M1 v1 H1 h1 t1 m1 r1=>ia.imp ρ M1 σ H1 _ _ (o.mv t1 m1) h1 λx M2 v2 H2 ⟨p,C,dx,fs,ex,hp,hc,hn,hl,h2⟩ t2 m2 r2=>by subst ex;let⟨ks,ek,r⟩:=m2 p _ hp;have ts:=Ni (u:= .ins C dx (gZ f v1 ks)) ek;exact#[p,C,dx,ks,r2.eq,ek,hc,hn,by rw[<- AX r];show hl,e.nx ρ _ σ _ h2 ((t1.trans t2).trans ts) (o.mv ((t1.trans t2).trans ts) (m2.put ts #[_,bC,KR.ts ts (AW (r1.ts t2) r)]))]
def Ld (C:dw)(p:e9)(a:WA):WE:=λρ M q=>a ρ M λxs M1=> ∀x dx,M1 x=none ->M1 dx=none ->dx≠x ->p (wr x::xs) (um M1 x (.ins C dx [])) λv M2=>v=wn /\ q (wr x) M2
instance {C:dw}{p:e9}{E:XK}{t:TA}{a:WA} [ia:IA K t a]:IE K (Em C (fw K p) [] E t) (Ld C p a) where
 imp:=λρ M σ H q Q o h k=>ia.imp ρ M σ H _ _ o h λxs M1 vs H1 h1 t1 m1 r1=>λx dx hx Gp jm=>by
  have Yj:bU H1 dx (.own x) x=none:=by rw[bq (bD jm)];show hx
  have ts1:aS H1 (bU H1 dx (.own x)):=L2.dP.ts (bF Gp);have Rl:aS (bU H1 dx (.own x)) (bU (bU H1 dx (.own x)) x (.ins C dx [])):=L2.dP.ts (bF Yj);exact#[wr x::xs,um M1 x (.ins C dx []),λv M2=>v=wn /\ q (wr x) M2,bW.cons WR.v (by rw[cI];show r1.ts (ts1.trans Rl)),(m1.new Gp).put Rl #[[],bC, .nil],h1 x dx (m1.fresh hx) (m1.fresh Gp) jm,?_];rintro y M' u H' ⟨rfl,hq⟩ ts m' r';show#[r'.eq,k _ _ _ _ hq (t1.trans ((ts1.trans Rl).trans ts)) m' WR.v]
def vG (o:cT MO)(k:dw ->dw ->cz (Str×W) ->Prop):Prop:=dY λC dx fs=>o=some (.ins C dx fs) /\ k C dx fs
def Yf {C dx:dw}{fs:cz (Str×W)}{k:dw ->dw ->cz (Str×W) ->Prop}:vG (some (.ins C dx fs)) k=k C dx fs:=by apply propext;symm;rintro⟨_,_,_,e,h⟩;cases e;show h;intro h;show#[_,_,_,rfl,h]
def WJ {a:WE}{f:Str}{ρ:b7}{M:Mp}{q:WK}:MW K a f ρ M q=a ρ M λx M1=>eC x λp=>vG (M1 p) λC dx fs=>dI (yJ K C) (dI (b8 K C f) (vm (fs.lookup f) λv=>q v M1)):=by unfold MW eC vG dI vm;congr 1;funext x M1;apply propext;symm;rintro⟨p,C,dx,fs,v,e1,e2,e3,e4,e5,h⟩;show#[p,e1,C,dx,fs,e2,e3,e4,v,e5,h];rintro⟨p,e1,C,dx,fs,e2,e3,e4,v,e5,h⟩;show#[p,C,dx,fs,v,e1,e2,e3,e4,e5,h]
def Vg {a b:WE}{f:Str}{D:dA}{ρ:b7}{M:Mp}:EH K a b f D ρ M=b ρ M λy M1=>a ρ M1 λx M2=>eC x λp=>vG (M2 p) λC dx fs=>dI (yJ K C) (dI (b8 K C f) (dI (fs.length<1000) (D.nx ρ (um M2 p (.ins C dx (dQ f y fs)))))):=by unfold EH eC vG dI;congr 1;funext y M1;congr 1;funext x M2;apply propext;symm;rintro⟨p,C,dx,fs,e1,e2,e3,e4,e5,h⟩;show#[p,e1,C,dx,fs,e2,e3,e4,e5,h];rintro⟨p,e1,C,dx,fs,e2,e3,e4,e5,h⟩;show#[p,C,dx,fs,e1,e2,e3,e4,e5,h]
theorem gw {C:dw}{p:e9}{a:WA}{ρ:b7}{M:Mp}{q:WK}:Ld C p a ρ M q=a ρ M λxs M1=> ∀x dx,M1 x=none ->M1 dx=none ->dx≠x ->yc p (wr x::xs) (um M1 x (.ins C dx [])) λv M2=>v=wn /\ q (wr x) M2:=rfl
end
end WL
namespace L2
open PySem
nonrec def di (s:Stmt)(j:Nat):Stmt:=match s with
 | .ClassDef _ _ _ b _ _ _ _ _ _ _=>b.getD j (.Pass #[0,0,0,0])
 | _=> .Pass #[0,0,0,0]
end L2
namespace L2
open PySem PySem.Spec PyProof.Rows
theorem FJ: ∀ {kvs:cz (bH×V)} {vs:cz (bH×cG)} {i:Nat} {q:bH×cG},KV kvs vs ->vs[i]? =some q -> ∃p,cg (kvs[i]? =some p) (p.1=q.1) (RelV p.2 q.2)
 | _,_,0,_, .cons ⟨e0,r⟩ _,e=>by cases e;show#[_,rfl,e0,r]
 | _,_,i+1,q, .cons _ t,e=>by have e':_=some q:=e;rw[List.getElem?_cons_succ] at e' ⊢;show FJ t e'
def J1 {k:bH}{u:cG}(h:mj k u=true):RelV (kV k) u:=by
 rcases cM h with⟨i,t,rfl,rfl⟩ | ⟨x,t,rfl,rfl⟩
 show#[t,rfl];show#[t,rfl]
def Inv.Xe {X:Cx}{ae:cz (dw×Obj)}{σ:St}{H:Hp}{s:cL}{d:dw}{kvs:cz (bH×V)}{o:Obj}(I:Inv X ae σ H s)(e:H d=some (.mx o (.dK kvs)))(h0: ∀o u,X.H₀ d≠some (.mx o u)): Inv X ae σ (bU H d (.dK kvs)) s:=by
 have ne: ∀ {b u},H b=some u ->u≠ .mx o (.dK kvs) ->b≠d:=λ{b u} h n z=>by subst z;rw[e] at h;show n (aW h).symm
 have JJ: ∀ {b},H b=none ->b≠d:=λ{b} h z=>by subst z;rw[e] at h;cases h
 exact#[I.ok,I.os,I.bare,#[I.base.keep,I.base.slot,λb u h1 h2 h3=> ?_,I.base.there,λb xs h=> ?_,λb o' u h=> ?_,λb ps h=> ?_],I.loc,I.cell,?_,λx c h=> ?_,λp hp=> ?_,λb u h=> ?_,I.len];have z:=I.base.free b u h1 h2 h3;rw[bq (JJ z)];show z;have z:=I.base.jg b xs h;rw[bq (ne z (λq=>nomatch q))];show z;have z:=I.base.ik b o' u h;have nb:b≠d:=λz=>h0 o' u (z▸h);rw[bq nb];show z;let⟨more,z⟩:=I.base.jt b ps h;show#[more,by rw[bq (ne z (λq=>nomatch q))];show z];rw[bq (JJ I.free)];show I.free;rw[bq (JJ (I.fg x c h))];show I.fg x c h;let⟨a1,a2,a3⟩:=I.pin p hp;show#[a1,by rw[bq (JJ a2)];show a2,a3];have ow: ∀c,H c=some (.own b) ->bU H d (.dK kvs) c=some (.own b):=λc r=>by rw[bq (ne r (λq=>nomatch q))];show r
 have tu: ∀c xs,H c=some (.tup xs) ->bU H d (.dK kvs) c=some (.tup xs):=λc xs r=>by rw[bq (ne r (λq=>nomatch q))];show r
 by_cases hb:b=d;subst hb;rw[bC] at h;cases h;have z:=(I.b0 b _ e).lL (H':=bU H b (.dK kvs)) (h':=s.heap) (λ_ _ _ h=>h) ow tu;show z.2;rw[bq hb] at h;show(I.b0 b u h).lL (λ_ _ _ h=>h) ow tu
end L2
namespace WL
open PySem L2
variable {K:gg}
theorem FL: ∀ {H:Hp} {kvs:cz (bH×W)} {vs:cz (bH×V)} {i:Nat} {q:bH×V},KR K H kvs vs ->vs[i]? =some q -> ∃p,cg (kvs[i]? =some p) (p.1=q.1) (WR K H p.2 q.2)
 | _,_,_,0,_, .cons ⟨e0,r⟩ _,e=>by cases e;show#[_,rfl,e0,r]
 | _,_,_,i+1,q, .cons _ t,e=>by have e':_=some q:=e;rw[List.getElem?_cons_succ] at e' ⊢;show FL t e'
theorem Nj {H:Hp}{a:dw}{o:Obj}{xs:cz (bH×V)}{u:HO}(h:H a=some (.mx o (.dK xs))):aS H (bU H a u):=Ag h (λ_ z=>nomatch z) λ_ _ z=>nomatch z
end WL
set_option maxHeartbeats 4000000
namespace DC
open PySem PySem.Spec PyProof.Rows
def JR:typeLookup (.type "tuple") "keys" =pure none:=by rw[typeLookup_type,builtinLookup_eq_fast];kernel_rfl
theorem rh:entryFor table "dict.update.loop" =some Builtin.«dict.update.loop» :=entryFor_of_tree (by kernel_rfl)
def iD:plainId "dict.update.loop" =true:=by decide+kernel
section
variable {prog:gA}{w:gB}{A:hV}{E:cG ->cL ->Prop}{s:cL}
def JG {a:dw}{xs:ft cG}{k:Nat}{sl:ft (cT cG)}{Q:cT cG ->cL ->Prop}(hx:s.heap.get? a=some #[.type "tuple",none, .seq xs k,sl])(hA:A.handled=none) (h: ∀h' tk,(∀b o,s.heap.get? b=some o ->h'.get? b=some o) ->Q none {s with heap:=h',toks:=tk}):wpAny (model prog w) A (getAttr? (.ref a) "keys") Q E s:=by
 let⟨hp,g,d,tk,os⟩:=s;have hT: ∀Qf,(#[hp,g,d,Qf,os]:cL).TypeIs (.ref a) "tuple" :=λ_=>#[_,hx,rfl]
 have f1:=sub_AttributeError;have f3:=F.slot_tuple_getattribute.lookup;have f4:=F.slot_tuple_getattribute.bind (.ref a);have f5:=am_tuple_getattr_none;unfold getAttr? getAttrBy? getAttrBy;repeat (any_goals (first | assumption | show hT _ | ((with_reducible change wpAny _ _ (call (Value.builtin "tuple.__getattribute__") _ _) _ _ _);exact call_meets F.slot_tuple_getattribute (hT _) am_entry_tuple_getattribute (F.args_tuple_getattribute_2 _ _) (meets_getattribute_miss_tuple a xs k sl "keys" _ JR (by decide+kernel) (by size_fits)) #[hx,hA,λh' Qf e HQ=> ?_]) | wp_step))
 let⟨t',u',he⟩:=HQ.there;change wpAny _ _ (getattributeRaised _ _ _ _ _ _ _) _ _ _;unfold getattributeRaised;repeat (any_goals (first | assumption | wp_step))
 show h h' _ HQ.keeps
end
section
variable {prog:gA}{w:gB}{κ:Type} [DecidableEq κ]{knd:PySem.KeyKind prog w κ}{A:hV}{E:cG ->cL ->Prop}
structure MK (knd:PySem.KeyKind prog w κ)(h:Heap)(its:Array Value)(ps:List (κ×Value)):Prop where
 len:its.size=ps.length
 at_: ∀ (i:Nat) (p:κ×Value),ps[i]? =some p -> ∃a key,its[i]? =some (.ref a) /\ knd.is p.1 key=true /\ h.IsTuple a (List.toArray [key,p.2])
theorem MK.keeps {h h':gC}{its:ft cG}{ps:cz (κ×cG)}{x:dw}(P:MK knd h its ps)(hk: ∀b o,b≠x ->h.get? b=some o ->h'.get? b=some o)(hx: ∀o its n,h.get? x=some o ->o.data≠ .seq its n):MK knd h' its ps:=#[P.len,λi p e=>by let⟨a,key,h1,h2,o,ho,hc,n,r⟩:=P.at_ i p e;show#[a,key,h1,h2,o,hk a o (λz=>hx o _ n (z▸ho) r) ho,hc,n,r]]
def putAll (kvs:cz (κ×cG))(ps:cz (κ×cG)):cz (κ×cG):=ps.foldl (λm p=>stored m p.1 p.2) kvs
def yY (kvs:cz (κ×cG))(k:κ)(v:cG):(stored kvs k v).length<=kvs.length+1:=by unfold stored;split;simp;simp
def loop {its:ft cG}{ps:cz (κ×cG)}{t:dw}{R:Result ->cL ->Prop}(hA:A.in1.handled=none)(hn:ps.length<=1000000): ∀ (k i:Nat) {s:cL} (it d:dw) (tk:Tok) (kvs:cz (κ×cG)),ps.length - i=k ->i<=ps.length ->kvs.length<=i ->s.heap.IsTupleIter it t i ->s.heap.IsTuple t its ->MK knd s.heap its ps ->s.heap.DictOf knd d kvs ->d≠it ->d≠t ->t≠it ->(∀h' Qf,h'.DictOf knd d (putAll kvs (ps.drop i)) ->(∀b o,b≠d ->b≠it ->s.heap.get? b=some o ->h'.get? b=some o) ->R (.ok (.ret .none)) {s with heap:=h',toks:=Qf}) ->codeAny (model prog w) A (.builtin "dict.update.loop" #[[.ref d, .ref it, .int i tk, .none],[]]) R s:=by
 intro k;induction k with
 | zero=>
  intro i s it d tk kvs hk hi hl sQ ht hP hd n1 n2 n3 hR;have e:i=ps.length:=by omega
  exact codeAny_builtin rh ?_;rw[Around.under_plainId iD _];change wpAny _ A.in1 (pyNext (.ref it) >>=_) _ _ s;exact af (wpAny_pyNext_tuple_end hA sQ ht (by rw[Array.getElem?_eq_none];rw[hP.len];omega) λh' hx=> ?_);change wpAny _ A.in1 (Builtin.Dict.addKeywords d [] >>=_) _ _ _;exact af (aC (aC ?_));have e2:ps.drop i= []:=List.drop_eq_nil_of_le (by omega);exact hR h' s.toks ?_ λb o _ n4 eb=>hx b o n4 eb;rw[e2];show hd.extBut hx n1
 | succ k ih=>
  intro i s it d tk kvs hk hi hl sQ ht hP hd n1 n2 n3 hR;have gP:i<ps.length:=by omega
  let⟨p,hp⟩: ∃p,ps[i]? =some p:=#[ps[i],aw gP]
  let⟨a,key,h1,h2,h3⟩:=hP.at_ i p hp;exact codeAny_builtin rh ?_;rw[Around.under_plainId iD _];change wpAny _ A.in1 (pyNext (.ref it) >>=_) _ _ s;exact af (wpAny_pyNext_tuple_item sQ ht h1 λh' Gk fo=> ?_);have nc: ∀o its n,s.heap.get? it=some o ->o.data≠ .seq its n:=λo its n eo z=>by let⟨o2,e2,_,c2⟩:=sQ;rw[eo] at e2;cases e2;rw[z] at c2;cases c2
  have hP':MK knd h' its ps:=hP.keeps (λb o n4 e4=>fo.extBut b o n4 e4) nc;have DL:h'.DictOf knd d kvs:=hd.extBut fo.extBut n1;have xz:h'.IsTuple t its:=by let⟨o,ho,r⟩:=ht;show#[o,fo.extBut t o n3 ho,r]
  let⟨a',SN,Ph,HV,h3'⟩:=hP'.at_ i p hp;let⟨oa,hoa,hca,na,hda⟩:=h3';have ea:a'=a:=by rw[h1] at Ph;cases Ph;rfl
  subst ea;have hT:(#[h',s.gens,s.drawn,s.toks,s.os]:cL).TypeIs (.ref a') "tuple" :=#[oa,hoa,hca]
  change wpAny _ A.in1 (holding [.ref a'] _ >>=_) _ _ _;exact af (wpAny_holding (af (wpAny_tryCatch ?_)));unfold Builtin.Dict.pairItems;exact af (wpAny_typeOf hT ?_);rw[aj (by simp)];exact af (wpAny_seqItems hoa hda ?_);exact aC ?_;change wpAny _ A.in1 (holding [SN,p.2] (dictSet d SN p.2)) _ _ _;exact wpAny_holding (wpAny_dictSet_pairs HV DL (λh2 O9 n_=> ?_) (by rw[bY];omega));exact aC #[plainId_quiet iD _,?_];have ei:(rawInt ((i:Int)+1))=Value.int ((i+1:Nat):Int) 0:=by simp[rawInt]
  rw[ei];have Pe:MK knd h2 its ps:=hP'.keeps (x:=d) (λb o n4 e4=>n_.extBut b o n4 e4) (λo its n eo z=>by let⟨o2,_,_,e2,_,c2,_⟩:=DL;rw[eo] at e2;cases e2;rw[z] at c2;cases c2);exact ih (i+1) it d 0 (stored kvs p.1 p.2) (by omega) gP (by have:=yY kvs p.1 p.2;omega) ?_ ?_ Pe O9 n1 n2 n3 λh3 tk3 hd3 hk3=> ?_;let⟨o,ho,r⟩:=Gk;show#[o,n_.extBut it o (bD n1) ho,r];let⟨o,ho,r⟩:=xz;show#[o,n_.extBut t o (bD n2) ho,r];exact hR h3 tk3 ?_ λb o n4 n5 eb=>hk3 b o n4 n5 (n_.extBut b o n4 (fo.extBut b o n5 eb));have:ps.drop i=p::ps.drop (i+1):=by have:=cZ gP;rw[this];rw[aw gP] at hp;cases hp;rfl
  rw[this];show hd3
def ly {its:ft cG}{ps:cz (κ×cG)}{t:dw}{n:Nat}{sl:ft (cT cG)}{s:cL}{Q:cG ->cL ->Prop}(hA:A.in1.handled=none)(hn:ps.length<=1000000) (hx:s.heap.get? t=some #[.type "tuple",none, .seq its n,sl]) (hP:MK knd s.heap its ps) (h: ∀h' tk,h'.DictOf knd s.heap.objs.size (putAll [] ps) ->(∀b o,s.heap.get? b=some o ->h'.get? b=some o) ->Q (.ref s.heap.objs.size) {s with heap:=h',toks:=tk}): wpAny (model prog w) A (call (.type "dict") [.ref t]) Q E s:=by
 exact callType_codes (Q₁:=λobj s₁=>obj= .ref s.heap.objs.size /\ s₁= {s with heap:=s.heap.push {cls:= .type "dict",data:= .dict #[]}}) PySem.F.kt_called_dict (PySem.F.kt_typeCall_dict_1 _) PySem.F.entry_dict_init (PySem.kt_code_dict_new _ #[rfl,rfl]) ?_;rintro obj s₁ ⟨rfl,rfl⟩;have Kb:(s.heap.push {cls:= .type "dict",data:= .dict #[]}).DictOf knd s.heap.objs.size []:=Heap.DictOf.new s.heap;have OK:(s.heap.push {cls:= .type "dict",data:= .dict #[]}).get? t=some #[.type "tuple",none, .seq its n,sl]:=ai _ hx;have gP:t<s.heap.objs.size:=ax hx;exact#[Kb.typeIs,PySem.F.args_dict_init_2 _ _,?_];unfold Builtin.«dict.__init__»;exact af ?_;unfold Builtin.Dict.selfAndRest;exact af (wpAny_notOrdered_dict Kb.typeIs ?_);change wpAny _ _ (pure (s.heap.objs.size,[Value.ref t])) _ _ _;exact aC ?_;change wpAny _ _ (Builtin.Dict.updateFrom "dict.__init__" s.heap.objs.size (.ref t) [] .none) _ _ _;unfold Builtin.Dict.updateFrom;exact af (wpAny_typeOf (T:= "tuple") #[_,OK,rfl] ?_);rw[aj ⋯];exact af (JG OK hA λh1 tk1 Qu=> ?_);rw[aj (show(none:cT cG).isNone=true from rfl)];exact af (wpAny_rule (af ?_));have S6:h1.IsTuple t its:=#[_,Qu t _ OK,rfl,n,rfl]
 exact wpAny_pyIter_tuple S6 ?_;exact aC #[plainId_quiet iD _,?_];have O_:h1.DictOf knd s.heap.objs.size []:=by let⟨o,es,ep,ho,r⟩:=Kb;show#[o,es,ep,Qu _ _ ho,r]
 have hs1:s.heap.objs.size<h1.objs.size:=by let⟨o,es,ep,ho,r⟩:=O_;show ax ho
 have Pf:MK knd (h1.push {cls:= .type "tuple_iterator",data:= .fields (List.toArray [.ref t, .int 0 0])}) its ps:=#[hP.len,λi p e=>by let⟨a,key,e1,e2,o,ho,r⟩:=hP.at_ i p e;show#[a,key,e1,e2,o,ai _ (Qu a o (ai _ ho)),r]]
 have ei:(rawInt 0)=Value.int ((0:Nat):Int) 0:=rfl;rw[ei];have htn:t≠h1.objs.size:=aN (ax (Qu t _ OK));have ht4:(h1.push {cls:= .type "tuple_iterator",data:= .fields (List.toArray [.ref t, .int 0 0])}).IsTuple t its:=let ⟨o,ho,r⟩:=S6;#[o,ai _ ho,r]
 have sQ:(h1.push {cls:= .type "tuple_iterator",data:= .fields (List.toArray [.ref t, .int 0 0])}).IsTupleIter h1.objs.size t 0:=#[_,aJ _ rfl,rfl,rfl]
 have O9:=O_.push {cls:= .type "tuple_iterator",data:= .fields (List.toArray [.ref t, .int 0 0])};exact loop (A:=A.in1) (knd:=knd) (ps:=ps) (its:=its) (t:=t) (s:= {s with heap:=h1.push {cls:= .type "tuple_iterator",data:= .fields (List.toArray [.ref t, .int 0 0])},toks:=tk1}) hA hn ps.length 0 h1.objs.size s.heap.objs.size 0 [] (by omega) (cN _) (ak _) sQ ht4 Pf O9 (aN hs1) (Nat.ne_of_gt gP) htn λh' Qf DL sx=> ?_;exact#[rfl,h h' Qf ?_ λb o eb=>sx b o (aN (ax eb)) (aN (ax (Qu b o (ai _ eb)))) (ai _ (Qu b o (ai _ eb)))];simpa using DL
end
end DC
namespace L2
open PySem PySem.Spec PyProof.Rows
section
variable {X:Cx}{ae:cz (dw×Obj)}{σ:St}{H H':Hp}{s:cL}{h':gC}
def Inv.more {t':Nat}(I:Inv X ae σ H s)(k: ∀b o,s.heap.get? b=some o ->h'.get? b=some o)(hx: ∀b o,H b=some o ->H' b=some o)(hn: ∀b,b<s.heap.objs.size ->H b=none ->H' b=none)(b0:jk X.prog X.w H' h'): Inv X ae σ H' {s with heap:=h',toks:=t'}:=by exact I.call (ch:= []) (g':=s.gens) (d':=s.drawn) #[λb o q n _ _=>k b o q,λb o q n _ _=>#[o.slots,k b o q],λb o q n _=>hn b (ax q) n,λb o q _=>#[o,k b o q],λb ys q=>hx b _ q,λb o u q=>hx b _ q,λb ps q=>#[#[],by rw[hx b _ q];simp]] b0 I.bare λb hb=>nomatch hb
def EQ (K:gg):cz V ->Hp ->VK ->Prop:=λxs H Q=> ∃ (a:dw) (vs:cz V) (ps:cz (bH×V)),xs= [.ref a] /\ gH K H a vs /\ ps.length<=1000000 /\ vs.length=ps.length /\ (∀ (i:Nat) p,ps[i]? =some p -> ∃b,vs[i]? =some (.ref b) /\ gH K H b [kV p.1,p.2]) /\ ∀q,H q=none ->Q (.ref q) (bU H q (.dK (ps.foldl (λm p=>fA m p.1 p.2) [])))
theorem EZ {K:gg}{h:gC}(tup: ∀ {b:dw} {xs:cz V},gH K H b xs -> ∃its:cz cG,bK xs its /\ h.IsTuple b its.toArray): ∀ {ps:cz (bH×V)} {vs:cz V} {its:cz cG},vs.length=ps.length ->(∀ (i:Nat) p,ps[i]? =some p -> ∃b,vs[i]? =some (.ref b) /\ gH K H b [kV p.1,p.2]) ->bK vs its ->∃qs:cz (bH×cG),KV ps qs /\ ∀ (i:Nat) q,qs[i]? =some q -> ∃a key,its[i]? =some (.ref a) /\ (bQ X.prog X.w).is q.1 key=true /\ h.IsTuple a (List.toArray [key,q.2])
 | [],vs,its,hl,_,r=>by exact#[[], .nil,λi q e=> ?_];simp at e
 | p::ps,[],its,hl,_,r=>by simp at hl
 | p :: ps,v::vs,its,hl,ha,r=>by
  cases r with
  | @cons _ u _ us r1 r2=>
   let⟨qs,hq,Yp⟩:=EZ tup (ps:=ps) (vs:=vs) (its:=us) ⇑hl (λi p e=> ⇑(ha (i+1) p ⇑e)) r2;let⟨b,hb,hs⟩:=ha 0 p rfl;have Mv:v= .ref b:= ⇑hb;subst Mv;have eu:u=Value.ref b:=r1;subst eu;let⟨js,rj,tj⟩:=tup hs;cases rj with
   | cons k1 k2=>
    cases k2 with
    | cons k3 k4=>
     cases k4;rename_i key val;exact#[(p.1,val)::qs, .cons #[rfl,k3] hq,λi q e=> ?_];cases i with
     | zero=>simp at e;subst e;show#[b,key,rfl,ml k1,tj]
     | succ i=>simpa using Yp i q ⇑e
theorem t_: ∀ {ps:cz (bH×V)} {qs:cz (bH×cG)} {m:cz (bH×V)} {n:cz (bH×cG)},KV ps qs ->KV m n ->KV (ps.foldl (λm p=>fA m p.1 p.2) m) (DC.putAll n qs)
 | _,_,_,_, .nil,r=>r
 | _,_,_,_, .cons ⟨e,rv⟩ t,r=>by rw[List.foldl_cons];exact t_ (n:=stored _ _ _) t ?_;rw[e];show r.put _ rv
theorem tY: ∀ (ps:cz (bH×V)) (m:cz (bH×V)),(ps.foldl (λm p=>fA m p.1 p.2) m).length<=m.length+ps.length
 | [],m=>by simp
 | p::ps,m=>by rw[List.foldl_cons,aI];have:=tY ps (fA m p.1 p.2);have:=gD m p.1 p.2;omega
def ly (hc:X.calm=true):dU X (.type "dict") (EQ X.K):=by intro ae s σ H xs us Q I r h;let⟨a,vs,ps,rfl,hq,hn,hl,hps,q⟩:=h;let⟨u,rfl,ru⟩:=vals1 r;cases ru;let⟨its,rv,⟨o,ho,hco,n,hd,hdd⟩,hz⟩:=I.Nf hq;let⟨qs,hk,Yp⟩:=EZ (X:=X) (h:=s.heap) (λ{b xs} hs=>by let⟨js,rj,tj,_⟩:=I.tuple hs;show#[js,rj,tj]) hl hps rv;have dD:qs.length=ps.length:=hk.length.symm;let⟨c,V1,dat,sl⟩:=o;simp only at hco hd hdd;subst hco hd hdd;exact DC.ly (knd:=bQ X.prog X.w) (ps:=qs) (show X.A.in1.handled=none from I.ok.hd hc) (by rw[dD];show hn) ho #[by have:=rv.length;simp;omega,λi p e=> ⇑(Yp i p e)] λh' tk DL O3=> ?_;exact#[.ref s.heap.objs.size,_,I.laid (t':=tk) O3 (ak _) (vP ?_ (beq_eq_false_iff_ne.mpr (bD (aN I.big))) (t_ hk .nil) DL),rfl,q _ (I.b0.fresh (ak _))];have:=tY ps [];rw[bY];simp at this;omega
end
section
variable {X:Cx}{o:Expr}{td:TE}{dh dg p1 Xz:Pos}
theorem tJ: ∀as:cz dw,bK (as.map V.ref) (as.map Value.ref)
 | []=> .nil
 | a::r=> .cons rfl (tJ r)
def Ak (td:TE):TE:=λσ H Q=>td σ H λx H1=>bX λd kvs=>cg (x= .ref d) (Rd H1 d (.dK kvs)) (∀ (l:dw) (vs:cz V) (H2:Hp),H1 l=none ->dP H1 H2 ->H2 l=some (.lst vs) ->vs.length=kvs.length ->(∀ (i:Nat) kv,kvs[i]? =some kv -> ∃a,vs[i]? =some (.ref a) /\ H2 a=some (.tup [kV kv.1,kv.2])) ->(∀b u,H2 b=some u ->H1 b=some u \/ H1 b=none /\ (b=l \/ ∃xs,u= .tup xs)) ->Q (.ref l) H2)
def tU (hgl:Gl X "list")(hml:X.mg "list" =none)(hc:X.calm=true)(ho:PE X o td)(xD:attributeBase o "items" X.env (eval o X.env)=eval o X.env:=by rfl)(xB:(dh.endLine==dg.line)=true:=by rfl) (ht:starEach [.Call (.Attribute o "items" dh) [] [] dg] X.env= [(false,eval (.Call (.Attribute o "items" dh) [] [] dg) X.env)]:=by rfl): PE X (.Call (.Name "list" p1) [.Call (.Attribute o "items" dh) [] [] dg] [] Xz) (Ak td):=by
 intro ae s σ H Q I h;exact Call_ (nX I hgl hml boot_list (PyProof.Rows.callWith_type1 ?_ ht rfl));rw[ht];exact Calls.spliced_cons (wpAny_Call_method0_late xD xB (ci (ho ae s σ H _ I h) λv s1 ⟨x,H1,I1,r1,d,kvs,ex,hd,q1⟩=> ?_));subst ex;obtain rfl:v=Value.ref d:=r1;let⟨t1,t2,sys⟩:=zE I1 (.inl #[kvs,hd]);exact#["dict","dict.items",PySem.F.plainAttrs_dict,PySem.F.slot_dict_items,PySem.F.type_dict_items,t1,t2,Calls.callWith_builtin rfl (PySem.evalArgs_none ?_)];let⟨z,OL,vs,fk,dd⟩:=mP I1.b0 hd;exact call_meetsIn PySem.F.slot_dict_items dd.typeIs PySem.F.entry_dict_items (PySem.F.args_dict_items_1 _) (meets_dict_items (bQ X.prog X.w) d OL) #[#[vs,dd],?_];exact Calls.spliced_nil ?_;let⟨ep,Pd⟩:=dd.dictAt;exact W.kdx_call (knd:=bQ X.prog X.w) (kvs:=vs) (ep:=ep) (I1.ok.hd hc) #[_,aJ _ rfl,rfl,rfl] (Pd.push _) (by rw[<- fk.length];show z) λh' tk d4 c as hk hg hl hG vJ=> ?_;have hsz:(s1.heap.push {cls:= .type "dict_items",data:= .fields #[.ref d]}).objs.size=s1.heap.objs.size+1:=Heap.size_push ..;generalize hL:(s1.heap.push {cls:= .type "dict_items",data:= .fields #[.ref d]}).objs.size=L at hg hG ⊢;have VX:s1.heap.objs.size<L:=by omega
 have YH:as.length=kvs.length:=by rw[hl,fk.length]
 have Tb:as.Nodup:=hG.rise.imp λh=>aN h;let H2:Hp:=λb=>if b=L then some (.lst (as.map V.ref)) else match kvs[as.idxOf b]? with | some kv=>some (.tup [kV kv.1,kv.2]) | none=>H1 b
 have eL:H2 L=some (.lst (as.map V.ref)):=aj rfl;have eA: ∀ (j:Nat) a,as[j]? =some a -> ∃kv,kvs[j]? =some kv /\ H2 a=some (.tup [kV kv.1,kv.2]):=λj a e=>by
  have hj:j<as.length:=(aB.mp e).1;let⟨kv,O2⟩: ∃kv,kvs[j]? =some kv:=#[kvs[j],aw (by omega)]
  have ej:as.idxOf a=j:=by have:=(aB.mp e).2;rw[<- this];show Tb.idxOf_getElem j hj
  exact#[kv,O2,?_];have na:a≠L:=Nat.ne_of_gt (hG.above a (aY e));change(if a=L then _ else _)=_;rw[ah na,ej,O2]
 have eO: ∀b,b≠L ->b∉as ->H2 b=H1 b:=λb n1 n2=>by change(if b=L then _ else _)=_;rw[ah n1,List.idxOf_eq_length n2,List.getElem?_eq_none (by omega)]
 have out: ∀b,b<s1.heap.objs.size ->b≠L /\ b∉as:=λb hb=>#[by omega,λz=>absurd (Nat.lt_trans hb (Nat.lt_trans VX (hG.above b z))) (ce _)]
 have same:dP H1 H2:=λb u e=>by let⟨n1,n2⟩:=out b (I1.b0.lt e);rw[eO b n1 n2];show e
 have keep: ∀b ob,s1.heap.get? b=some ob ->h'.get? b=some ob:=λb ob e=>hk b ob (ai _ e);have b0:jk X.prog X.w H2 h':=λb u e=>by by_cases n1:b=L;subst n1;rw[eL] at e;cases e;show#[by rw[ao,YH];show z,as.map Value.ref,c,tJ as,by rw[<- vJ];simpa using hg];by_cases n2:b∈as;let⟨j,hj⟩:=List.mem_iff_getElem?.mp n2;let⟨kv,O2,e2⟩:=eA j b hj;rw[e2] at e;cases e;let⟨key,k,x,hx,O5,ht⟩:=hG.pairs j b hj;let⟨p,hp,ep1,rp⟩:=FJ fk hx;rw[O2] at hp;cases hp;exact#[by rw[bY];change 2<=16777216;decide,[key,x], .cons (by rw[ep1];show J1 O5) (.cons rp .nil),_,ht,rfl,_,rfl,rfl];rw[eO b n1 n2] at e;show(I1.b0 b u e).lL (λc v _ r=>keep c v r) (λc r=>same c _ r) λc ys r=>same c _ r
 exact#[.ref L,H2,I1.more (t':=tk) keep (λb u e=>same b u e) (λb hb e=>by let⟨n1,n2⟩:=out b hb;rw[eO b n1 n2];show e) b0,rfl,q1 L (as.map V.ref) H2 (I1.b0.fresh (Nat.le_of_lt VX)) same eL (by rw[ao,YH]) (λi kv e=> ?_) λb u e=> ?_];let⟨a,ha⟩: ∃a,as[i]? =some a:=#[as[i]'(by have:=(aB.mp e).1;omega),aw _]
 let⟨kv',h1,h2⟩:=eA i a ha;rw[e] at h1;cases h1;show#[a,by rw[aG,ha];rfl,h2];by_cases n1:b=L;show .inr #[by rw[n1];show I1.b0.fresh (Nat.le_of_lt VX), .inl n1];by_cases n2:b∈as;let⟨j,hj⟩:=List.mem_iff_getElem?.mp n2;let⟨kv,O2,e2⟩:=eA j b hj;rw[e2] at e;cases e;show .inr #[I1.b0.fresh (Nat.le_of_lt (Nat.lt_trans VX (hG.above b n2))), .inr #[_,rfl]];rw[eO b n1 n2] at e;show .inl e
end
end L2
namespace WL
open PySem L2
variable {K:gg}
def MX:yi:=λxs M q=> ∃l:cz (bH×W),cg (xs= [.tup (l.map λp=> .tup [gO p.1,p.2])]) (l.length<=1000000) (∀p,M p=none ->q (wr p) (um M p (.dK (l.foldl (λm p=>l3 m p.1 p.2) []))))
def WR.key {H:Hp}{k:bH}{v:V}(h:WR K H (gO k) v):v=kV k:=by cases k<;>show h.eq
theorem xj {H:Hp}: ∀ {l:cz (bH×W)} {vs:cz V},bW K H (l.map λp=> .tup [gO p.1,p.2]) vs -> ∃ps:cz (bH×V),cg (KR K H l ps) (vs.length=ps.length) (∀ (i:Nat) p,ps[i]? =some p -> ∃b,vs[i]? =some (.ref b) /\ gH K H b [kV p.1,p.2])
 | [],vs,h=>by simp![bL,bW] at h;subst h;show#[[], .nil,rfl,λi p e=>by simp at e]
 | (k,x)::l,vs,h=>by
  simp![az,bW] at h;let⟨v,t,rfl,h1,h2⟩:=h;let⟨ps,r,hl,hp⟩:=xj h2;let⟨b,us,rfl,hs,hr⟩:=h1.tup;let⟨u1,u2,rfl,g1,g2⟩:=hr.two;cases g1.key;exact#[(k,u2)::ps, .cons #[rfl,g2] r,by simp[hl],λi p e=> ?_];cases i with
  | zero=>simp at e;subst e;show#[b,rfl,hs]
  | succ i=>simpa using hp i p ⇑e
theorem AZ {H:Hp}: ∀ {l:cz (bH×W)} {ps:cz (bH×V)} {m:cz (bH×W)} {n:cz (bH×V)},KR K H l ps ->KR K H m n ->KR K H (l.foldl (λm p=>l3 m p.1 p.2) m) (ps.foldl (λm p=>fA m p.1 p.2) n)
 | _,_,_,_, .nil,r=>r
 | _,_,_,_, .cons (a:=a) (b:=b) ⟨e,rv⟩ t,r=>by rw[List.foldl_cons,List.foldl_cons];exact AZ t ?_;rw[e];show KR.put rv r
instance:IC K (EQ K) MX where
 imp:=by rintro xs v M H q Q m r1 ⟨l,rfl,hl,h⟩ k;let⟨v,rfl,r⟩:=r1.one;let⟨a,vs,rfl,hv,rr⟩:=r.tup;let⟨ps,hr,dD,hp⟩:=xj rr;exact#[a,vs,ps,rfl,hv,by rw[<- qT hr];show hl,dD,hp,λp hp=> ?_];have ts:=L2.dP.ts (bF (o:= .dK (ps.foldl (λm p=>fA m p.1 p.2) [])) hp);show k _ _ _ _ (h p (m.fresh hp)) ts (m.put ts #[_,bC,KR.ts ts (AZ hr .nil)]) WR.v
def uN (a:WE):WE:=λρ M q=>a ρ M λx M1=>bX λd kvs=>cg (x=wr d) (M1 d=some (.dK kvs)) (∀p,M1 p=none ->q (wr p) (um M1 p (.lst (kvs.map λkv=> .tup [gO kv.1,kv.2]))))
def Qa {a:WE}{ρ:b7}{M:Mp}{q:WK}:uN a ρ M q=a ρ M λx M1=>eC x λd=>iO (M1 d) λkvs=>zm M1 λp=>q (wr p) (um M1 p (.lst (kvs.map λkv=> .tup [gO kv.1,kv.2]))):=by unfold uN eC iO zm;congr 1;funext x M1;apply propext;symm;rintro⟨d,kvs,e1,e2,h⟩;show#[d,e1,kvs,e2,h];rintro⟨d,e1,kvs,e2,h⟩;show#[d,kvs,e1,e2,h]
instance {t:TE}{a:WE} [ia:IE K t a]:IE K (Ak t) (uN a) where
 imp :=λρ M σ H q Q o h k=>ia.imp ρ M σ H _ _ o h λx M1 v H1 ⟨d,kvs,ex,hd,h1⟩ t1 m1 r1=>by
  subst ex;let⟨ks,ek,rr⟩:=m1 d _ hd;exact#[d,ks,r1.eq, .inl ek,λl vs H2 hl sm el dD Pd Kb=> ?_];have ts:aS H1 H2:=L2.dP.ts sm;exact k _ _ _ _ (h1 l (m1.fresh hl)) (t1.trans ts) (λb x e=> ?_) WR.v;by_cases hb:b=l;subst hb;rw[aq] at e;cases e;exact#[vs,el,bW.mk (by rw[dD,ao,qT rr]) λj d' v' e1 e2=> ?_];rw[aG] at e1;cases e3:kvs[j]? with
  | none=>rw[e3] at e1;cases e1
  | some kv=>
   rw[e3] at e1;cases e1;let⟨VC,e4⟩: ∃VC,ks[j]? =some VC:=#[ks[j]'(by rw[<- qT rr];show(aB.mp e3).1),aw _]
   let⟨p2,e5,e6,rp⟩:=FL rr e4;rw[e3] at e5;cases e5;let⟨a2,e7,e8⟩:=Pd j VC e4;rw[e2] at e7;cases e7;exact WR.Qp (gH.of e8) (bW.cons ?_ (bW.cons (rp.ts ts) bW.nil));rw[e6];cases VC.1<;>show WR.v
  rw[aT hb] at e;have hm:=m1 b x e;let⟨u,hu⟩:=hm.some;show hm.mv ts (by rw[hu];show sm b u hu)
end WL
namespace WQ
open PySem L2 WL WP
def GD (p:Int)(m:Pt):Prop:=(m.map (·.1)).Nodup /\ ∀z∈m,0<z.2 /\ z.2<p
def NV (C:dw):e9:=λxs M q=>gs λ(s dx:dw) (l r:W)=>cg (xs= [wr s,l,r]) (M s=some (.ins C dx [])) (q wn (um M s (.ins C dx [("lamps",l),("parts",r)])))
end WQ
namespace WL
open PySem L2
def RW {a b:WE}{D:dA}{ρ:b7}{M:Mp}:y_ a b D ρ M=a ρ M λx M1=>b ρ M1 λy M2=>eC x λp=>mh y λk=>iO (M2 p) λkvs=>dI ((fu kvs k).isSome=true) (D.nx ρ (um M2 p (.dK (rB kvs k)))):=by unfold y_ eC mh iO dI;congr 1;funext x M1;congr 1;funext y M2;apply propext;symm;rintro⟨p,kvs,k,e1,e2,e3,e4,h⟩;show#[p,e1,k,e3,kvs,e2,e4,h];rintro⟨p,e1,k,e3,kvs,e2,e4,h⟩;show#[p,kvs,k,e1,e2,e3,e4,h]
end WL
namespace WQ
open PySem L2 WL WP
def KU (M M':Mp)(L:cz dw):Prop:= ∀d o,M d=some o ->d∉L ->M' d=some o
theorem KU.trans {M M1 M2:Mp}{L L':cz dw}(h:KU M M1 L)(h':KU M1 M2 L')(hs: ∀x∈L',x∈L \/ M x=none):KU M M2 L:=λd o e n=>h' d o (h d o e n) λhd=>(hs d hd).elim n λz=>by rw[e] at z;cases z
def cop (g:Int ->Int)(js:cz (Int×Int)):Int:=js.foldr (λj r=>g j.1*j.2+r) 0
abbrev Uw:=Int×Int×Int
def ET {m:Pt}{x v:Int}(h:x∉m.map (·.1)):pL m x v=m++ [(x,v)]:=by unfold pL;rw[ah (λe=>h (no.mp e))]
def NH (m:Pt):cz (bH×W):=m.map λz=>((Sum.inl z.1:bH),wi z.2)
def Kv (m:Pt)(nd:(m.map (·.1)).Nodup):(NH m).foldl (λm p=>l3 m p.1 p.2) []=me m:=by
 have key: ∀ (b a:Pt),((a++b).map (·.1)).Nodup ->(NH b).foldl (λm p=>l3 m p.1 p.2) (me a)=me (a++b):=by
  intro b;induction b with
  | nil=>intro a _;rw[cI];rfl
  | cons z r ih=>
   intro a h;have hx:z.1∉a.map (·.1):=λhm=>by rw[bA,az] at h;show(List.nodup_append.mp h).2.2 _ hm _ List.mem_cons_self rfl
   change(NH r).foldl _ (l3 (me a) (.inl z.1) (wi z.2))=_;rw[AE,ET hx,ih (a++ [z]) (by rw[bz];show h),bz];rfl
 show key m [] nd
def Jh (m:Pt):fO m= .tup ((NH m).map λp=> .tup [gO p.1,p.2]):=by unfold fO NH;rw[bw];rfl
theorem NL {p:Int}{m:Pt}(h:de p m):GD p m:=#[(List.pairwise_map.mpr h.2).imp λh e=>by rw[e] at h;show absurd h (Int.lt_irrefl _),h.1]
def putL (s:Int)(fS:cz Pt)(tl:cz Uw):Pt:=tl.flatMap λt=>(fS.getD t.1.toNat []).map λz=>(z.1+t.2.1*s,z.2*t.2.2)
def gZ (s x:Int)(fS:cz Pt)(t:Uw):Int:=fR (fS.getD t.1.toNat []) (x - t.2.1*s)*t.2.2
end WQ
namespace L2
open PySem
def z7:Nat ->(cz cG ->Prop) ->Prop
 | 0,p=>p []
 | n+1,p=> ∀v,z7 n λus=>p (v::us)
theorem z7.to: ∀ {n:Nat} {p:cz cG ->Prop},z7 n p -> ∀us,us.length=n ->p us
 | 0,_,h,[],_=>h
 | _+1,_,h,v::us,e=>z7.to (h v) us (Nat.succ.inj e)
section
variable {K:gg}{h:gC}{mg:Str ->cT cG}{x:Str}{ps:cz Str}{st:Stmt}{f C:dw}{oc:cG}{od an:cT dw}{ze:ft (cT cG)}{kV gQ pm cdv ct:cG}
theorem bG (X:K.In h)(G:h.Ns mainGlobals mg)(a:W.nsIn K mainGlobals x=some (some (.ref f))) (l:K.lookup f=some #[oc,od, .func (W.fnOf x x (dS st) (c6 st) (aE st) .none kV gQ pm an cdv ct),ze]) (c:W.codeIn K cdv x=true) (k:W.keepIn K (.ref f)=true) (b: ∀ (kV gQ pm:cG) (an:cT dw) (cdv ct:cG),z7 ps.length λus=>bindArgs (W.fnOf x x (dS st) (c6 st) (aE st) .none kV gQ pm an cdv ct) #[us,[]]=pure (ps.zip us):=by(repeat intro _);rfl): gu K mg x ps st f (W.fnOf x x (dS st) (c6 st) (aE st) .none kV gQ pm an cdv ct):=#[W.mg_of X G a,og l c k,(og (st:=st) l c k).binds λkV gQ pm an cdv ct us e=>(b kV gQ pm an cdv ct).to us e]
theorem rH {q:Str}(X:K.In h)(G:h.Ns mainGlobals mg)(a:W.nsIn K mainGlobals x=some (some (.ref C)))(g:W.findIn K (.ref C) "__init__" =some (some (.ref f))) (l:K.lookup f=some #[oc,od, .func (W.fnOf "__init__" q (dS st) (c6 st) (aE st) .none kV gQ pm an cdv ct),ze]) (c:W.codeIn K cdv q=true) (k:W.keepIn K (.ref f)=true) (h1:W.makesIn K C=true) (h2:W.isFn K (.ref f)=true) (h3:W.keepIn K (.ref C)=true) (h4:W.plainGet K C Str.empty=true) (h5:W.hasDictIn K C=true) (h6:W.plainOver K C=true) (h7:W.findIn K (.ref C) "__setattr__" =some (some (.builtin "object.__setattr__"))) (b: ∀ (kV gQ pm:cG) (an:cT dw) (cdv ct:cG),z7 ps.length λus=>bindArgs (W.fnOf "__init__" q (dS st) (c6 st) (aE st) .none kV gQ pm an cdv ct) #[us,[]]=pure (ps.zip us):=by(repeat intro _);rfl): K9 K mg x q ps st C f (W.fnOf "__init__" q (dS st) (c6 st) (aE st) .none kV gQ pm an cdv ct):=#[W.mg_of X G a,#[h1,g,h2,h3],#[h4,h5,h6,h7],og l c k,(og (st:=st) l c k).binds λkV gQ pm an cdv ct us e=>(b kV gQ pm an cdv ct).to us e]
theorem d3 {q:Str}{fd:gN}(_:K9 K mg x q ps st C f fd)(a:Str)(e:W.findIn K (.ref C) a=some none):b8 K C a:=e
theorem QF {cd:ClassData}(a:W.nsIn K mainGlobals x=some (some (.ref C)))(e:W.excIn K C Ui "ValueError.__new__" =true)(k1:W.clsIn K C=some cd)(k2:W.findIn K (.ref C) "__getattribute__" =some (some (.builtin "BaseException.__getattribute__")))(k3:W.findIn K (.ref C) "__getattr__" =some none)(k4:W.findIn K (.ref C) "__class__" =some (some (.builtin "object.__class__")))(k5:W.mroIn K C (.type "object")=some true)(k6:W.mroIn K C (.type "BaseException")=some true):nw K x C:=#[a,e,(by rw[k1];rfl),k2,k3,k4,k5,k6]
def Ox {l:W.OpenLaw}{w:gB}{fa:dw}{fd:gN}{p:Str}{kd:Nat}(T:gu K mg "law" [p] st f fd)(hfa:mg "law" =some (.ref fa))(hb: ∀ (kV gQ pm:cG) (an:cT dw) (cdv ct v:cG),bindArgs (W.fnOf "law" "law" (dS st) (c6 st) (aE st) .none kV gQ pm an cdv ct) #[[v],[]]=pure [(p,v)]) (ok: ∀base,bv l.prog w K mg base ez kd f fd [p] (WQ.wQ K)): ∃fd:gN,(∀ (s:cL) (v:cG),BindsTo s fd #[[v],[]] [(p,v)]) /\ ∀base:gC,K.In base ->base.Ns mainGlobals mg ->bv l.prog w K mg base ez kd fa fd [p] (WQ.wQ K):=by have e:=hfa.symm.trans T.at_;cases e;let⟨oc,od,kV,gQ,pm,an,cdv,ct,ze,rfl,lk,A_⟩:=T.fn.ex;show#[_,λs v=> .of_eq (hb kV gQ pm an cdv ct v),λbase _ _=>ok base]
end
end L2
namespace WQ
open PySem L2 WL WP
section
variable {s p:Int}{fS:cz Pt}{f g:Int ->Int}
end
def fam (s:Int)(b:Pt):Int ->Nat ->cz (Int ->Int)
 | _,0=> []
 | lo,n+1=>(λx=>look b (x - s*lo))::fam s b (lo+1) n
def cps (s:Int)(G:cz (Pt×Int×Nat)):cz (Int ->Int):=G.flatMap λg=>fam s g.1 g.2.1 g.2.2
def TN (q js:Pt):Pt:=js.flatMap λj=>tm j.2 (mv j.1 q)
def ahd (s c:Int):Int:=if s=0 then 0 else c
def Xv (s Z c:Int):Nat:=if s=0 then(Z - c+1).toNat else(s - c).toNat
section
variable {s Z K w KP c c2 dr:Int}{a c1:Pt}{P P1:Pq}{L:cz Sta}{t:Sta}
def eA (s K w c:Int):Int:=w+2*K*ahd s c
variable {p:Int}{js:Pt}{ms:cz Int}
end
def fW (s:Int)(a:Pt):W:=if plc a= [] then wn else wi (Ow ((plc a).map (adS s)))
def mz (s Z K c:Int)(q:Nat):Nat:=Xv s Z c*(K.toNat+2)+q
end WQ
namespace L2
open PySem
def p7 {X:Cx}{K:gg}{e:Expr}{f:Str}{pos:Pos}{ta:TE}(hK:X.K=K)(he:PE X e ta)(hb:attributeBase e f X.env (eval e X.env)=eval e X.env):PE X (.Attribute e f pos) (Nq K ta f):=by subst hK;show a6 he hb
end L2
namespace WQ
open PySem L2 WL WP
section
variable {s p D:Int}{A B C fS B7:cz Pt}
end
end WQ
namespace L2
open PySem
structure lG (K:PySem.W.Frag)(m qual:Str)(ps:List Str)(st:Stmt)(C f:Addr)(fd:FuncData):Prop where
 SG:Hn K C m f
 cl:yJ K C
 fn:yo K m qual st f fd
 bd:Binds K fd ps []
section
variable {X:Cx}{k:Nat}{f C:dw}{fd:gN}{ps:cz Str}{sp:Sp}{m qual:Str}{st:Stmt}{pos dh:Pos}{o e:Expr}{es:cz Expr}{ta:TE}{t:TA}
theorem cK {pl:Sem Bool}(M:lG X.K m qual ps st C f fd)(F:bv X.prog X.w X.K X.mg X.base ez k f fd ps sp)(hr:dz k X.A)(he:PE X o ta)(ha:PA X (e::es) t) (oS:starEach (e::es) X.env=(false,eval e X.env)::starEach es X.env:=by rfl) (nA:(backTo pos (starEach es X.env)).any (·.1)=false:=by rfl) (ht:eval (.Call (.Attribute o m dh) (e::es) [] pos) X.env=(do
  let ov <- eval o X.env
  standAt dh.atName
  let (f,first) <- holding [ov] (getMethod ov m pl)
  callWith pos f first (backTo pos (starEach (e::es) X.env)) (backToKw pos (keywordEach [] X.env))):=by rfl):
 PE X (.Call (.Attribute o m dh) (e::es) [] pos) (qq C m sp [] E0 ta t):=AJ he M.cl M.SG F hr M.bd .nil xh ha oS nA ht
theorem j7 {pl:Sem Bool}(M:lG X.K m qual ps st C f fd)(F:bv X.prog X.w X.K X.mg X.base ez k f fd ps sp)(hr:dz k X.A)(he:PE X o ta) (ht:eval (.Call (.Attribute o m dh) [] [] pos) X.env=(do
  let ov <- eval o X.env
  standAt dh.atName
  let (f,first) <- holding [ov] (getMethod ov m pl)
  callWith pos f first (backTo pos (starEach [] X.env)) (backToKw pos (keywordEach [] X.env))):=by rfl):
 PE X (.Call (.Attribute o m dh) [] [] pos) (qq C m sp [] E0 ta yV):=E8 he M.cl M.SG F hr M.bd .nil xh ht
end
section
variable {K:gg}{h:gC}{mg:Str ->cT cG}{x:Str}{ps:cz Str}{st:Stmt}{f g C:dw}{oc:cG}{od an:cT dw}{ze:ft (cT cG)}{kV gQ pm cdv ct:cG}
theorem qX {n:Int}{t:Tok}(X:K.In h)(G:h.Ns mainGlobals mg)(a:W.nsIn K mainGlobals x=some (some (.int n t))): ∃t,mg x=some (.int n t):=#[t,W.mg_of X G a]
theorem c8 {m q q':Str}{ps':cz Str}{bt:Stmt}{fd':gN}(c0:K9 K mg x q' ps' bt C g fd')(a:W.findIn K (.ref C) m=some (some (.ref f))) (l:K.lookup f=some #[oc,od, .func (W.fnOf m q (dS st) (c6 st) (aE st) .none kV gQ pm an cdv ct),ze]) (c:W.codeIn K cdv q=true) (k:W.keepIn K (.ref f)=true) (h2:W.isFn K (.ref f)=true) (b: ∀ (kV gQ pm:cG) (an:cT dw) (cdv ct:cG),z7 ps.length λus=>bindArgs (W.fnOf m q (dS st) (c6 st) (aE st) .none kV gQ pm an cdv ct) #[us,[]]=pure (ps.zip us):=by(repeat intro _);rfl): lG K m q ps st C f (W.fnOf m q (dS st) (c6 st) (aE st) .none kV gQ pm an cdv ct):=#[#[a,h2,k],c0.cl,og l c k,(og (st:=st) l c k).binds λkV gQ pm an cdv ct us e=>(b kV gQ pm an cdv ct).to us e]
end
end L2
namespace WL
open PySem L2
section
variable {K:gg}
theorem qS {H:Hp}{f:Str}: ∀ {fs:cz (Str×W)} {ks:cz (Str×V)},KR K H fs ks ->fs.lookup f=Option.none ->ks.lookup f=Option.none
 | _,_, .nil,_=>rfl
 | (g,y)::fs,(g',v)::ks, .cons ⟨e,r⟩ t,h=>by
  cases (show g=g' from e);rw[List.lookup_cons] at h ⊢;cases hb:f==g with
  | true=>rw[hb] at h;cases h
  | false=>rw[hb] at h;show qS t h
def DZ (C:dw)(m:Str)(p:e9)(a:WE)(b:WA):WE:=λρ M q=>a ρ M λx M1=>dY λ(o dx:dw) (fs:cz (Str×W))=>eZ (x=wr o) (M1 o=some (.ins C dx fs)) (fs.lookup m=none) (b ρ M1 λxs M2=>p (x::xs) M2 q)
instance {C:dw}{m:Str}{p:e9}{E:XK}{t:TE}{u:TA}{a:WE}{b:WA} [ia:IE K t a] [ib:IA K u b]:IE K (qq C m (fw K p) [] E t u) (DZ C m p a b) where
 imp:=λρ M σ H q Q o h k=>ia.imp ρ M σ H _ _ o h λx M1 v H1 ⟨ad,dx,fs,ex,hp,hl,h1⟩ t1 m1 r1=>by subst ex;let⟨ks,e,r⟩:=m1 ad _ hp;exact#[ad,dx,ks,r1.eq,e,qS r hl,ib.imp ρ M1 σ H1 _ _ (o.mv t1 m1) h1 λxs M2 vs H2 h2 t2 m2 r2=> ?_];exact#[wr ad::xs,M2,q,bW.cons (r1.ts t2) (by rw[cI];show r2),m2,h2,?_];intro y M' u H' hq ts m' r';show k _ _ _ _ hq ((t1.trans t2).trans ts) m' r'
def uM {C:dw}{m:Str}{p:e9}{a:WE}{b:WA}{ρ:b7}{M:Mp}{q:WK}:DZ C m p a b ρ M q=a ρ M λx M1=>eC x λo=>vG (M1 o) λC' _ fs=>dI (C'=C /\ fs.lookup m=none) (b ρ M1 λxs M2=>yc p (x::xs) M2 q):=by unfold DZ eC vG dI yc;congr 1;funext x M1;apply propext;symm;rintro⟨o,dx,fs,e1,e2,e3,h⟩;show#[o,e1,C,dx,fs,e2,#[rfl,e3],h];rintro⟨o,e1,C',dx,fs,e2,⟨rfl,e3⟩,h⟩;show#[o,dx,fs,e1,e2,e3,h]
end
end WL
namespace WQ
open PySem L2 WL WP
def JS (s e:Int):Int:=if s=0 then 0 else e / s
def Sr (C:dw):e9:=λxs M q=>rN λ(o dx:dw) (fs:cz (Str×W)) (s e:Int)=>d9 (xs= [wr o,wi e]) (M o=some (.ins C dx fs)) (fs.lookup ("stride" :Str)=some (wi s)) (0<=s /\ s<1000) (q (wi (JS s e)) M)
def KC (p:Int)(ms:cz Rd):cz (Str×W):= [(("p" :Str),wi p),(("rounds" :Str), .tup (ms.map gd))]
def Ie (p:Int)(ms:cz Rd)(s:Int):cz (Str×W):=KC p ms++ [(("stride" :Str),wi s)]
def G8 (p:Int)(ms:cz Rd)(s:Int)(v:dw):cz (Str×W):=Ie p ms s++ [(("way" :Str),wr v)]
def V4 (p:Int)(ms:cz Rd)(s:Int)(v:dw)(fS:cz Pt):cz (Str×W):=G8 p ms s v++ [(("stairs" :Str), .tup (fS.map fO))]
def KA (p:Int)(ms:cz Rd)(s:Int)(v:dw)(fS:cz Pt)(w:dw):cz (Str×W):=V4 p ms s v fS++ [(("makers" :Str),wr w)]
def V3 (p:Int)(ms:cz Rd)(s:Int)(v:dw)(fS:cz Pt)(w:dw)(rest:Pt):cz (Str×W):=KA p ms s v fS w++ [(("head" :Str),gd (s,rest))]
def G4 (p s:Int)(ms:cz Rd)(v w z:dw)(fS:cz Pt)(rest:Pt):cz (Str×W):=V3 p ms s v fS w rest++ [(("surplus" :Str),wr z)]
section
variable {p s:Int}{ms:cz Rd}{v w z:dw}{fS:cz Pt}{rest:Pt}
theorem adY:dQ "way" (wr v) (Ie p ms s)=G8 p ms s v:=rfl
theorem adX:dQ "makers" (wr w) (V4 p ms s v fS)=KA p ms s v fS w:=rfl
theorem adW:dQ "head" (.tup [wi s,fO rest]) (KA p ms s v fS w)=V3 p ms s v fS w rest:=rfl
theorem adV:dQ "surplus" (wr z) (V3 p ms s v fS w rest)=G4 p s ms v w z fS rest:=rfl
theorem adU:(Ie p ms s).lookup ("stride" :Str)=some (wi s):=rfl
theorem adT:(G8 p ms s v).lookup ("stride" :Str)=some (wi s):=rfl
theorem Uh:(G8 p ms s v).lookup ("way" :Str)=some (wr v):=rfl
theorem Ug:(KA p ms s v fS w).lookup ("stride" :Str)=some (wi s):=rfl
theorem Uf:(KC p ms).length=2:=rfl
theorem Ue:(Ie p ms s).length=3:=rfl
theorem Ud:(G8 p ms s v).length=4:=rfl
theorem Uc:(V4 p ms s v fS).length=5:=rfl
theorem Ub:(KA p ms s v fS w).length=6:=rfl
theorem Ua:(V3 p ms s v fS w rest).length=7:=rfl
end
theorem T_ {p s:Int}{ms:cz Rd}{v w z:dw}{fS:cz Pt}{rest:Pt}:(G4 p s ms v w z fS rest).lookup ("stride" :Str)=some (wi s):=rfl
theorem adQ {p s:Int}{ms:cz Rd}{v w z:dw}{fS:cz Pt}{rest:Pt}:(G4 p s ms v w z fS rest).lookup ("stairs" :Str)=some (.tup (fS.map fO)):=rfl
theorem adR {p s:Int}{ms:cz Rd}{v w z:dw}{fS:cz Pt}{rest:Pt}:(G4 p s ms v w z fS rest).lookup ("head" :Str)=some (gd (s,rest)):=rfl
def LQ:e9:=λxs M q=>dY λ(p:Int) (a:Rd) (n:Int)=>MJ (xs= [wi p,gd a,wi n]) (0<p) (p<1000) (de p a.2) (a.2.length<=40000) (n<0) (a.1≠0 -> -100000<n /\ n<100000 /\ a.2.length*n.natAbs<=100000) (∀r:Rd,rR p a n r ->(a.1=0 ->r.2.length<=a.2.length) ->(a.1≠0 ->r.2.length<=a.2.length*n.natAbs) ->q (gd r) M)
def Jm {xs:cz W}{M:Mp}{q:WK}:So xs M q ->LR xs M q \/ LQ xs M q:=by rintro⟨p,a,n,rfl,p0,p1,hP,hl,hb,k⟩;by_cases hn:n<0;show .inr #[p,a,n,rfl,p0,p1,hP,hl,hn,hb,k];exact .inl #[p,a,n,rfl,p0,p1,hP,hl, ∅,λh=> ?_,k];let⟨_,h2,h3⟩:=hb h;have e:n.toNat=n.natAbs:= ∅;rw[e];show#[h2,h3]
end WQ
namespace L2
open PySem PyProof.Rows PyProof.V PySem.Calls PySem.Spec
inductive Uy (X:Cx):List ExceptHandler ->List (Addr×TS) ->Prop
 | nil:Uy X [] []
 | cons {x:Str} {np sP:Pos} {b₀:Stmt} {iT:List Stmt} {C:Addr} {ts:TS} {rest:List ExceptHandler} {al:List (Addr×TS)} (hg:Gl X x) (O:nw X.K x C) (Mq: ∀ea,sC (X.gE (.ref ea)) (b₀::iT) ts) (r:Uy X rest al) (kU:(x==("__debug__" :Str))=false:=by decide): Uy X (.ExceptHandler (some (.Name x np)) none (b₀::iT) sP::rest) ((C,ts)::al)
def Am (K:gg):cz (dw×TS) ->dw ->TS
 | [],_=>λ_ _ _=>False
 | (D,ts)::r,C=>λE σ H=> ∃b,cg (W.kitOne K (.ref C) (.ref D)=some b) (b=true ->ts E σ H) (b=false ->Am K r C E σ H)
def Bp {K:gg}{M:Model}{h:gC}{C D e:dw}{b:Bool}{oe:Obj}(X:K.In h)(kD:DD K D)(jm:C≠D)(he:h.get? e=some oe)(hc:oe.cls= .ref C)(hk:W.kitOne K (.ref C) (.ref D)=some b): W.Looks M h (excMatches (.ref e) (.ref D)) b:=by
 exact W.exm_one (cls:= .ref C) X (oh he hc) ?_;have e1:(W.subIn K (.ref D) (.type "BaseException")==some true)=true:=by change(W.mroIn K D (.type "BaseException")==some true)=true;rw[kD.mb];rfl
 unfold W.exmOne;rw[aj e1];unfold W.kitOne at hk;rwa [ah (λz=>jm (Value.ref.inj (beq_iff_eq.mp z)))] at hk
section
variable {X:Cx}{ae:cz (dw×Obj)}{σ:St}{s':cL}
def yb {E0:XK}{ev:cG}{H1:Hp}{s1:cL}{D:jl}{hs:cz ExceptHandler}{al:cz (dw×TS)}(oS:X.stack=X.env::X.outer)(zF:X.env.frame=some X.env.locals) (I:Inv X ae σ H1 s1) (fl:gv X.prog X.w X.stack H1 s1 E0 ev s') (ph:Uy X hs al) (k: ∀cls d H',E0 cls d H' -> ∃C,cls= .ref C /\ ∀ea,H' ea=none ->aS H1 (bU H' ea (.ext (fi ea C))) ->Am X.K al C D σ (bU H' ea (.ext (fi ea C)))): wpAny (model X.prog X.w) X.A (noteFrame ev X.env) (λ_ s₂=>wpAny (model X.prog X.w) X.A (setFlight ev none) (λ_ s₃=>wpAny (model X.prog X.w) X.A (handleBy ev X.env hs) (SP X ae D) X.xe s₃) X.xe s₂) X.xe s':=by
 let⟨ea,cls,a0,B,H2,rfl,os,bare,fl,b0,sR,un,kb,kt,hE⟩:=fl;let⟨C,rfl,kk⟩:=k _ _ _ hE;exact wpAny_looks_onW (by rw[I.ok.frames,oS]) zF (oS▸fl) λh₄ Go Qe=> ?_;exact wpAny_landsW Go λh₅ HX Qd=> ?_;rw[<- oS] at HX;let⟨I5,W'⟩:=gi I os bare fl b0 sR un kb kt HX (Qe.trans Qd) (tk:=s'.toks);let⟨ob,S_,Gf⟩:=HX.there;have key:=kk ea sR W';clear kk k;induction ph with
 | nil=>show key.elim
 | @cons x np sP b₀ iT D' ts rest al' hg O Mq r kU ih=>
  let⟨b,hk,ht,hf⟩:=key;have O':=l6 I.ok.mod O.ns O.exc;exact wpAny_handleBy_cons (codeAny_handlers_test (vD I5 hg O'.bound ?_ kU)) (by intro q;cases q);have good:b=true ->codeAny (model X.prog X.w) (X.A.mark (some (.ref ea))) (.handlers (.ref ea) [.ExceptHandler none none (b₀::iT) sP] X.env) (λr s₂=>match r with
  | .ok f=>SP X ae D f s₂
  | .error x=>cameBackBy (model X.prog X.w) X.A X.env X.xe x s₂) {s' with heap:=h₅}:=λhb=>by
   exact codeAny_handlers_suite ?_
   exact PyProof.Rows.lands_againW HX λh₆ TM Ri=> ?_
   let⟨I6,ts⟩:=gi I os bare fl b0 sR un kb kt TM ((Qe.trans Qd).trans Ri) (tk:=s'.toks)
   exact a9 (Mq ea ae _ σ _ D (I6.gE (.ref ea)) (ht hb)) (λf s8 h8=> ?_) λ_ _ z=>z.elim
   cases f with
   | next=>let⟨σ',H3,I8,q⟩:=h8;show#[_,_,I8.iF I.ok,q]
   | brk=>let⟨σ',H3,I8,q⟩:=h8;show#[_,_,I8.iF I.ok,q]
   | cont=>let⟨σ',H3,I8,q⟩:=h8;show#[_,_,I8.iF I.ok,q]
   | ret u=>let⟨v,σ',H3,I8,r,q⟩:=h8;show#[v,_,_,I8.iF I.ok,r,q]
  by_cases Tv:C=D';subst Tv;have hb:b=true:=by unfold W.kitOne at hk;rw[aj (beq_self_eq_true _)] at hk;show(aW hk).symm
  let⟨bm,N,nm,qn,bs,hdct,sn,sub,ab,col,dd,k0,k1,k2,k3,k5,mN,hC,Kg,Yx,TL⟩:=(O'.keeps I5.bk).obj;exact wpAny_excMatches_sub_self hC S_ Gf (TL.hasType (by decide+kernel)) ?_;show good hb;exact(Bp (M:=model X.prog X.w) I5.qU O.k Tv S_ Gf hk).here ?_;cases b with
  | true=>show good rfl
  | false=>show ih (hf rfl)
end
section
variable {X:Cx}
def Ru (K:gg)(C:dw)(m:Str)(sp:Sp)(te:TE)(ta:TA)(al:cz (dw×TS)):TS:=λD σ H=>te σ H λx H0=>dY λ(a dx:dw) (fs:cz (Str×V))=>eZ (x= .ref a) (H0 a=some (.ins C dx fs)) (fs.lookup m=none) (ta σ H0 λvs H1=>sp (.ref a::(vs++ [])) H1 (λv H2=>D.nx σ H2) λcls _ H'=> ∃C,cls= .ref C /\ ∀ea,H' ea=none ->aS H1 (bU H' ea (.ext (fi ea C))) ->Am K al C D σ (bU H' ea (.ext (fi ea C))))
theorem Vl {k:Nat}{f C:dw}{fd:gN}{ps:cz Str}{sp:Sp}{m qual:Str}{dg dh TW pos:Pos}{o e₀:Expr}{es:cz Expr}{te:TE}{ta:TA}{h₀:ExceptHandler}{hs:cz ExceptHandler}{al:cz (dw×TS)}{st:Stmt}{pl:Sem Bool} (oS:X.stack=X.env::X.outer) (zF:X.env.frame=some X.env.locals) (M:lG X.K m qual ps st C f fd) (F:bv X.prog X.w X.K X.mg X.base (gv X.prog X.w) k f fd ps sp) (hr:dz k X.A) (ho:PE X.Fx o te) (ha:PA X.Fx (e₀::es) ta) (ph:Uy X (h₀::hs) al) (he:starEach (e₀::es) X.env=(false,eval e₀ X.env)::starEach es X.env:=by rfl) (nA:(backTo dg (starEach es X.env)).any (·.1)=false:=by rfl) (ht:eval (.Call (.Attribute o m dh) (e₀::es) [] dg) X.env=(do
   let ov <- eval o X.env
   standAt dh.atName
   let (f,first) <- holding [ov] (getMethod ov m pl)
   callWith dg f first (backTo dg (starEach (e₀::es) X.env)) (backToKw dg (keywordEach [] X.env))):=by rfl)
  (S8:swapsWith (.Call (.Attribute o m dh) (e₀::es) [] dg) none TW.line X.env=pure false:=by rfl):
  PS X (.Try [.Expr (.Call (.Attribute o m dh) (e₀::es) [] dg) TW] (h₀::hs) [] [] pos) (Ru X.K C m sp te ta al):=by
 intro ae s σ H D I h
 exact wpAny_Try_except (wpAny_execs_cons (wpAny_Expr_any ?_ I.quiet S8))
 exact W.methodCall_KW (pl:=pl) (a9 (ho ae s σ H _ (I.nC _) h) (λu s1 ⟨x,H0,I0,rx,a,dx,fs,ex,ea,l,q⟩=> ?_) λ_ _ z=>z.elim) ht
 subst ex
 obtain rfl:u=Value.ref a:=rx
 have I0:=I0.f8
 exact iM I0 ea M.cl M.SG l ?_
 exact W.callWith_K (first:= [.ref a]) (h₀:=X.base) I.ok.mod.Mm M.SG.kp (a9 (ha dg ae s1 σ H0 _ (I0.nC _) q) (λus s2 ⟨vs,H1,I1,r,q⟩=>#[I1.qU,?_]) λ_ _ z=>z.elim) he nA
 have I1:=I1.f8
 have r2:bK (.ref a::(vs++ [])) (.ref a::us++ []):= .cons rfl (r.append .nil)
 have hl:(Value.ref a::us++ []).length=ps.length:=by rw[<- r2.length];show F.len _ _ _ _ q
 exact wpAny_call (codeAny_mono (F.run X.A X.stack s2 H1 #[.ref a::us,[]] (.ref a::us++ []) (.ref a::(vs++ [])) _ _ hr I1.Kr (M.bd s2 (.ref a::us) I1.qU hl) r2 q) λr s3 hq=> ?_)
 cases r with
 | error ev=>have hq2:gv X.prog X.w X.stack H1 s2 (λcls _ H'=> ∃C,cls= .ref C /\ ∀ea,H' ea=none ->aS H1 (bU H' ea (.ext (fi ea C))) ->Am X.K al C D σ (bU H' ea (.ext (fi ea C)))) ev s3:=hq;show yb oS zF I1 hq2 ph λcls d H' z=>z
 | ok fl=>
  cases fl with
  | ret u=>let⟨v,H2,I2,r,q2⟩:=I1.after hq;show wpAny_execs_nil (wpAny_execs_nil #[_,_,I2,q2])
  | next=>show False.elim hq
  | brk=>show False.elim hq
  | cont=>show False.elim hq
end
section
variable {X:Cx}{k:Nat}{f C:dw}{fd:gN}{ps:cz Str}{sp:Sp}{E:XK}{m qual:Str}{st:Stmt}{pos dh:Pos}{o e:Expr}{es:cz Expr}{ta:TE}{t:TA}
theorem cB {pl:Sem Bool}(hP:fQ (gv X.prog X.w) X E)(M:lG X.K m qual ps st C f fd)(F:bv X.prog X.w X.K X.mg X.base (gv X.prog X.w) k f fd ps sp)(hr:dz k X.A)(he:PE X o ta)(ha:PA X (e::es) t) (oS:starEach (e::es) X.env=(false,eval e X.env)::starEach es X.env:=by rfl) (nA:(backTo pos (starEach es X.env)).any (·.1)=false:=by rfl) (ht:eval (.Call (.Attribute o m dh) (e::es) [] pos) X.env=(do
  let ov <- eval o X.env
  standAt dh.atName
  let (f,first) <- holding [ov] (getMethod ov m pl)
  callWith pos f first (backTo pos (starEach (e::es) X.env)) (backToKw pos (keywordEach [] X.env))):=by rfl):
 PE X (.Call (.Attribute o m dh) (e::es) [] pos) (qq C m sp [] E ta t):=AJ he M.cl M.SG F hr M.bd .nil hP ha oS nA ht
theorem bv.calm {P:gA}{w:gB}{K:gg}{mg:Str ->cT cG}{base:gC}{sp RK:Sp}(F:bv P w K mg base (gv P w) k f fd ps sp)(h: ∀vs H Q E,RK vs H Q E ->sp vs H Q E0):bv P w K mg base ez k f fd ps RK:=#[λvs H Q E z=>F.len vs H Q _ (h vs H Q E z),λA outer s H args us vs Q E hr e0 hb hv z=>codeAny_mono (F.run A outer s H args us vs Q E0 hr e0 hb hv (h vs H Q E z)) λr s' hq=>by
 cases r with
 | error ev=>let⟨_,_,_,_,_,_,_,_,_,_,_,_,_,_,q⟩:=(show gv P w outer H s E0 ev s' from hq);show q.elim
 | ok fl=>cases fl<;>show hq]
end
end L2
namespace WL
open PySem L2
section
variable {K:gg}
def RO (p:e_):e9:=λxs M q=>p xs M q λ_ _=>False
theorem BG {P:gA}{w:gB}{mg:Str ->cT cG}{base:gC}{k:Nat}{f:dw}{fd:gN}{ps:cz Str}{p:e_}(F:bv P w K mg base (gv P w) k f fd ps (sw K p)):bv P w K mg base ez k f fd ps (fw K (RO p)):=F.calm λvs H Q E ⟨xs,M,q,r,m,h,k⟩=>#[xs,M,q,_,r,m,h,k,λ_ _ _ z=>z.elim]
def yN (C:dw)(m:Str)(p:e_)(e:WX)(a:WE)(b:WA):WE:=λρ M q=>a ρ M λx M1=>dY λ(o dx:dw) (fs:cz (Str×W))=>eZ (x=wr o) (M1 o=some (.ins C dx fs)) (fs.lookup m=none) (b ρ M1 λxs M2=>p (x::xs) M2 q (up e))
instance {C:dw}{m:Str}{p:e_}{e:WX}{t:TE}{u:TA}{a:WE}{b:WA} [ia:IE K t a] [ib:IA K u b]:IE K (qq C m (sw K p) [] (Ex K e) t u) (yN C m p e a b) where
 imp :=λρ M σ H q Q o h k=>ia.imp ρ M σ H _ _ o h λx M1 v H1 ⟨ad,dx,fs,ex,hp,hl,h1⟩ t1 m1 r1=>by subst ex;let⟨ks,e,r⟩:=m1 ad _ hp;exact#[ad,dx,ks,r1.eq,e,qS r hl,ib.imp ρ M1 σ H1 _ _ (o.mv t1 m1) h1 λxs M2 vs H2 h2 t2 m2 r2=> ?_];exact#[wr ad::xs,M2,q,_,bW.cons (r1.ts t2) (by rw[cI];show r2),m2,h2,?_,?_];intro y M' u H' hq ts m' r';show k _ _ _ _ hq ((t1.trans t2).trans ts) m' r';rintro C M' H' ⟨M0,s,h⟩ m;show#[C,M0,rfl,h,m.sub s]
def BH (p:e_)(xs:cz W)(M:Mp)(q:WK)(e:WX):Prop:=p xs M q e
def QY {C:dw}{m:Str}{p:e_}{e:WX}{a:WE}{b:WA}{ρ:b7}{M:Mp}{q:WK}:yN C m p e a b ρ M q=a ρ M λx M1=>eC x λo=>vG (M1 o) λC' _ fs=>dI (C'=C /\ fs.lookup m=none) (b ρ M1 λxs M2=>BH p (x::xs) M2 q (up e)):=by unfold yN eC vG dI BH;congr 1;funext x M1;apply propext;symm;rintro⟨o,dx,fs,e1,e2,e3,h⟩;show#[o,e1,C,dx,fs,e2,#[rfl,e3],h];rintro⟨o,e1,C',dx,fs,e2,⟨rfl,e3⟩,h⟩;show#[o,dx,fs,e1,e2,e3,h]
theorem Q_ {p:e_}{e:WX}{a:WA}{ρ:b7}{M:Mp}{q:WK}:Eb p e a ρ M q=a ρ M λxs M1=>BH p xs M1 q (up e):=rfl
theorem QP {C:dw}{e:WX}{a:WA}{D:dA}{ρ:b7}{M:Mp}:DX C e a D ρ M=a ρ M λxs M'=>dI (xs.length<=sizeLine) (up e C M'):=rfl
theorem gR.of {H H1 H2:Hp}{D':dA}{D:jl}(e:gR K H D' D)(t1:aS H H1)(t2:aS H1 H2):gR K H2 D' D:=(e.mv t1).mv t2
end
end WL
namespace L2
open PySem PySem.Spec PyProof.Rows
section
variable {X:Cx}{tg:Expr}
def R0:V ->cT Int ->cT Int ->Hp ->VK ->Prop:=λx lo hi H Q=> ∃z:Str,cg (x= .str z) (z.length<=sizeLine) (Q (.str (Txt.slice z lo hi)) H)
def Ey:SlR X R0:=by
 intro ae s σ H x v vl vu lo hi sl Q I rx hs pl pu h;let⟨z,rfl,hz,q⟩:=h;let⟨t,rfl⟩:=rx;exact#["str",_,F.slot_str_getitem.lookup,typeIs_str _ _ _,?_];have fin: ∀t' k,EP X ae σ Q (.str (Txt.slice z lo hi) t') {s with toks:=k}:=λt' k=>#[.str (Txt.slice z lo hi),H,I.tok _,#[_,rfl],q]
 cases pl with
 | none=>
  cases pu with
  | none=>show wpAny_getItem_str_slice (l:=none) (u:=none) (st:=none) hs rfl (post_val_or_str #[aH (Txt.slice_le z _ _) hz,fin])
  | int j tj=>show wpAny_getItem_str_slice (l:=none) (u:=some (j,tj)) (st:=none) hs rfl (post_val_or_str #[aH (Txt.slice_le z _ _) hz,fin])
 | int i ti=>
  cases pu with
  | none=>show wpAny_getItem_str_slice (l:=some (i,ti)) (u:=none) (st:=none) hs rfl (post_val_or_str #[aH (Txt.slice_le z _ _) hz,fin])
  | int j tj=>show wpAny_getItem_str_slice (l:=some (i,ti)) (u:=some (j,tj)) (st:=none) hs rfl (post_val_or_str #[aH (Txt.slice_le z _ _) hz,fin])
def dM (z:Str)(n:Nat):Str:=if n=0 then Str.empty else if n=1 \/ z.length=0 then z else⟨(List.replicate n z.cps).foldl (· ++ ·) #[]⟩
def AA (z:Str)(n:Nat):(⟨(List.replicate n z.cps).foldl (· ++ ·) #[]⟩:Str).length=n*z.length:=by
 have: ∀ (n:Nat) (a:ft Nat),((List.replicate n z.cps).foldl (· ++ ·) a).size=a.size+n*z.cps.size:=by
  intro n;induction n with
  | zero=>intro a;simp
  | succ n ih=>intro a;rw[List.replicate_succ,List.foldl_cons,ih,Array.size_append,Nat.succ_mul];omega
 change((List.replicate n z.cps).foldl (· ++ ·) #[]).size=n*z.cps.size;rw[this];simp
def LL:R2:=λx y H Q=>bX λ(z:Str) (n:Nat)=>d9 (x= .str z) (y= .int n) (n<=1000) (z.length<=1000) (Q (.str (dM z n)) H)
def Ju:kB X (binaryOp .Mult) LL:=by
 intro ae s σ H x y v u Q I rx ry h;let⟨z,n,rfl,rfl,hn,hz,q⟩:=h;let⟨t,rfl⟩:=rx;let⟨t',rfl⟩:=ry;have hs:z.length*n<=sizeLine:=aH (Nat.mul_le_mul hz hn) (by rw[bY];decide);exact PySem.P.mul_str ?_ (λ_ _=> ?_) (λ_ _=> ?_) ?_;have e1:decide ((n:Int) < -(2 ^ 63:Int))=false:=bg (by omega);have e2:decide ((n:Int)≥2 ^ 63)=false:=bg (by omega);rw[e1,e2];rfl;intro h;have h1:(2 ^ 63 - 1:Int) / 1000<=(2 ^ 63 - 1) / n:=by rw[Int.le_ediv_iff_mul_le (by omega)];have:((2 ^ 63 - 1:Int) / 1000)*n<=((2 ^ 63 - 1:Int) / 1000)*1000:=Int.mul_le_mul_of_nonneg_left (by omega) ⋯;omega
 omega;unfold Builtin.Str.tooLong;rw[decide_eq_false_iff_not];have:(n:Int).toNat=n:=rfl;rw[this];omega;unfold dM at q;by_cases h0:n=0;subst h0;rw[aj rfl] at q;rw[aj ⋯];show#[⋯,#[.str _,H,I.tok _,#[_,rfl],q]];rw [ah h0] at q;rw[ah (by omega)];by_cases h1:n=1 \/ z.length=0;rw[aj h1] at q;rw[aj (by obtain h | h:=h1 <;>simp[h])];show#[.str z,H,I,#[t,rfl],q];rw[ah h1] at q;rw[ah (by intro c;rw[Bool.or_eq_true,beq_iff_eq,beq_iff_eq] at c;show h1 (c.imp (by omega) id))];have e:(n:Int).toNat=n:=rfl;rw[e];exact#[?_,#[.str _,H,I.tok _,#[_,rfl],q]];rw[AA];rw[Nat.mul_comm];show hs
def ItS (z:Str):It:=#[λi _=>i<z.cps.size,λi H x H'=>H'=H /\ ∃c,z.cps[i]? =some c /\ x= .str ⟨#[c]⟩,λi _=>z.cps.size<=i]
def Ed {P:gA}{w:gB}{K:gg}{tg:Expr}(z:Str)(t:Tok)(it:dw):sY P w K tg (ItS z) [it] it (λi h=>h.IsStrIter it "str_ascii_iterator" z t i) where
 mem:=by simp
 obj:=λi h st b hb=>by have e:b=it:= ⇑hb;subst e;let⟨o,e,c,d⟩:=st;show#[o,e,λv z=>by rw[d] at z;cases z]
 keep:=λi h h' ⟨o,ho,r⟩ k=>#[o,k it (by simp) o ho,r]
 item:=by intro X hP hw hK hc i ae s σ H E I hf st hg;subst hP hw hK;let⟨f0,f1,f2,f3,f4,f5⟩:=hf it (by simp);have hg:i<z.cps.size:=hg;exact wpAny_pyNext_ascii_item st (c:=z.cps[i]) (by simp[hg]) λh' bt sb=> ?_;have I1:Inv X ae σ H {s with heap:=h',toks:=s.toks+1}:=I.turned (t':=s.toks+1) (λb o hb e=>(sb.2 b hb).trans e) f0 f1 f3 f4 f5;let⟨o,e,c,d⟩:=id bt;show#[_,rfl,xF (s:= {s with heap:=h',toks:=s.toks+1}) e c d ⋯ #[.str ⟨#[z.cps[i]]⟩,H,I1,#[_,rfl],#[rfl,_,by simp[hg],rfl],bt,λb hb=>(hf b hb).1]]
 done:=by intro X hP hw hK hc i ae s σ H E I hf st hg;subst hP hw hK;let⟨f0,f1,f2,f3,f4,f5⟩:=hf it (by simp);have hg:z.cps.size<=i:=hg;show wpAny_pyNext_ascii_end (I.ok.hd hc) st (by simp[hg]) λh' eb=>#[rfl,I.turned (t':=s.toks) (λb o hb e=>eb b o hb e) f0 f1 f3 f4 f5]
 self:=λ_ _ _ _ _ st h=>wpAny_pyIter_striter_ascii st h
def SY (tl:TE):TI:=λσ H R=>tl σ H λx H1=> ∃z:Str,cg (x= .str z) (z.cps.all (· <128)=true) (R (ItS z) H1)
def NI {l:Expr}{tl:TE}(hl:PE X l tl):PI X tg l (SY tl):=by intro ae s σ H R I h;exact ci (hl ae s σ H _ I h) λv s1 ⟨x,H1,I1,r1,q1⟩=> ?_;let⟨z,e,ha,q⟩:=q1;subst e;let⟨t,rfl⟩:=r1;exact wpAny_pyIter_ascii ha ?_;exact#[s1.heap.objs.size,[s1.heap.objs.size],_,_,H1,rfl,I1.kept (t':=s1.toks) λb o e=>ai _ e,Ed z t _,#[_,aJ _ rfl,rfl,rfl],λb hb=> ?_,q];have e:b=s1.heap.objs.size:= ⇑hb;subst e;show I1.vL (ak _) (I1.b0.fresh (ak _))
def LM:cz V ->Hp ->VK ->Prop:=λxs H Q=> ∃z,cg (xs= [.str z]) (z.length<=sizeLine) (Q (.int z.length) H)
theorem uw:dU X (.builtin "len") LM:=vS
def JC (i j:Str):Bool:= !(Builtin.Str.occurrences j i 0 j.length 1).isEmpty
def AB:R2:=λx y H Q=>bX λi j=>cg (x= .str i) (y= .str j) (Q (.bl (!JC i j)) H)
theorem Cn:kB X (compareOp .NotIn) AB:=vn
end
end L2
namespace WL
open PySem L2
section
variable {K:gg}
def Q1:nB:=λx y M q=>dY λz i c=>d9 (x=ws z) (y=wi i) (z.length<=sizeLine) (kZ z.cps.toList i=some c) (q (ws ⟨#[c]⟩) M)
instance:IR K R_ Q1 where
 imp:=by rintro x y v u M H q Q m r1 r2 ⟨z,i,c,rfl,rfl,hz,e,h⟩ k;cases r1.eq;cases r2.eq;show#[z,i,c,rfl,rfl,hz,e,k _ M _ H h (aS.refl H) m WR.v]
def WB {z:Str}{i:Int}{M:Mp}{q:WK}:Q1 (.v (.str z)) (.v (.int i)) M q=dI (z.length<=sizeLine) (vm (kZ z.cps.toList i) λc=>q (ws ⟨#[c]⟩) M):=by apply propext;symm;rintro⟨_,_,c,h1,h2,h3,h4,k⟩;cases h1;cases h2;show#[h3,c,h4,k];rintro⟨h3,c,h4,k⟩;show#[_,_,c,rfl,rfl,h3,h4,k]
def QN:Uq:=λx lo hi M q=> ∃z:Str,cg (x=ws z) (z.length<=sizeLine) (q (ws (Txt.slice z lo hi)) M)
instance:ISl K R0 QN where
 imp:=by rintro x v lo hi M H q Q m r1 ⟨z,rfl,hz,h⟩ k;cases r1.eq;show#[z,rfl,hz,k _ M _ H h (aS.refl H) m WR.v]
def Wt {z:Str}{lo hi:cT Int}{M:Mp}{q:WK}:QN (.v (.str z)) lo hi M q=dI (z.length<=sizeLine) (q (ws (Txt.slice z lo hi)) M):=by apply propext;symm;rintro⟨_,h1,h3,k⟩;cases h1;show#[h3,k];rintro⟨h3,k⟩;show#[_,rfl,h3,k]
def QO:nB:=λx y M q=>bX λ(z:Str) (n:Nat)=>d9 (x=ws z) (y=wi n) (n<=1000) (z.length<=1000) (q (ws (dM z n)) M)
instance:IR K LL QO where
 imp:=by rintro x y v u M H q Q m r1 r2 ⟨z,n,rfl,rfl,hn,hz,h⟩ k;cases r1.eq;cases r2.eq;show#[z,n,rfl,rfl,hn,hz,k _ M _ H h (aS.refl H) m WR.v]
def Ab:nB:=λx y M q=>bX λi j=>cg (x=ws i) (y=ws j) (q (wb (!JC i j)) M)
instance:IR K AB Ab where
 imp:=by rintro x y v u M H q Q m r1 r2 ⟨i,j,rfl,rfl,h⟩ k;cases r1.eq;cases r2.eq;show#[i,j,rfl,rfl,k _ M _ H h (aS.refl H) m WR.v]
def P9 {i j:Str}{M:Mp}{q:WK}:Ab (.v (.str i)) (.v (.str j)) M q=q (wb (!JC i j)) M:=by apply propext;symm;rintro⟨_,_,h1,h2,k⟩;cases h1;cases h2;show k;intro k;show#[_,_,rfl,rfl,k]
def Le:yi:=λxs M q=> ∃z,cg (xs= [ws z]) (z.length<=sizeLine) (q (wi z.length) M)
instance:IC K LM Le where
 imp:=by rintro xs v M H q Q m r1 ⟨z,rfl,hz,h⟩ k;let⟨v,rfl,r⟩:=r1.one;cases r.eq;show#[z,rfl,hz,k _ M _ H h (aS.refl H) m WR.v]
def U0 {z:Str}{M:Mp}{q:WK}:Le [.v (.str z)] M q=dI (z.length<=sizeLine) (q (wi z.length) M):=by apply propext;symm;rintro⟨_,h1,h3,k⟩;cases h1;show#[h3,k];rintro⟨h3,k⟩;show#[_,rfl,h3,k]
def EA (z:Str):cz Str:=z.cps.toList.map λc=>⟨#[c]⟩
def OD (a:WE):WI:=λρ M q=>a ρ M λx M1=> ∃z:Str,cg (x=ws z) (z.cps.all (· <128)=true) (q ((EA z).map ws) (λ_=>True) M1)
def F3 {H1:Hp}{z:Str}:Dq K H1 (ItS z) ((EA z).map ws) (λ_=>True):=by
 intro i M H ts m _;have hl:((EA z).map ws).length=z.cps.size:=by unfold EA;simp
 exact#[λh=>by change z.cps.size<=i;omega,λh=>by change i<z.cps.size;omega,λv H' hi y=> ?_];let⟨rfl,c,hc,rfl⟩:=y;exact#[aS.refl _,m,ws ⟨#[c]⟩,?_,WR.v];unfold EA;rw[bw,aG,Array.getElem?_toList,hc];rfl
instance {t:TE}{a:WE} [ia:IE K t a]:II K (SY t) (OD a) where
 imp:=λρ M σ H q R o h k=>ia.imp ρ M σ H _ _ o h λx M1 v H1 ⟨z,e,ha,h1⟩ t1 m1 r1=>by subst e;show#[z,r1.eq,ha,k _ _ _ M1 H1 h1 t1 m1 F3]
def Ya {a:WE}{ρ:b7}{M:Mp}{q:cz W ->(Mp ->Prop) ->Mp ->Prop}:OD a ρ M q=a ρ M λx M1=>uT x λz=>dI (z.cps.all (· <128)=true) (q ((EA z).map ws) (λ_=>True) M1):=by unfold OD uT dI;congr 1;funext x M1;show propext #[λ⟨i,a,b,c⟩=>#[i,a,b,c],λ⟨i,a,b,c⟩=>#[i,a,b,c]]
end
end WL
namespace TS
open PySem PyProof.Rows
def qQ (x y:eI):Bool:=decide ((strOf x.1).cps.toList< (strOf y.1).cps.toList)
def XB:Ord qQ:=by exact#[λx y h=> ?_,λx y z h1 h2=> ?_];unfold qQ at*;rw[decide_eq_true_eq] at h;show bg λh'=>List.lt_irrefl _ (List.lt_trans h h');unfold LE qQ at*;rw[decide_eq_false_iff_not] at*;show λh=>(List.le_trans (List.not_lt.mp h1) (List.not_lt.mp h2)) h
section
variable {prog:gA}{w:gB}{A:hV}{E:cG ->cL ->Prop}{s:cL}
def ltS {vs:cz cG}(h0: ∀v,v∈vs -> ∃x t,v= .str x t):gt prog w A E s oneType' (pairsOf vs) qQ:=by
 intro x y st Q hx hy hk hq;have hm: ∀p:eI,p∈(pairsOf vs).toList -> ∃a t,p.1= .str a t:=λp hp=>by rw[pairsOf_toList] at hp;show h0 _ (mem_zip_self hp).2
 let⟨n,t,e1⟩:=hm x hx;let⟨m,u,e2⟩:=hm y hy;rw[lt'_eq];exact au (wpS_get ?_);rw[hk,keyLt'_oneType,e1,e2];exact au (wpS_lift (wpAny_attempt (oneLt_str #[rfl,?_])));have e:qQ x y=decide (n.cps.toList<m.cps.toList):=by unfold qQ;rw[e1,e2];rfl
 rw[e] at hq;show aA hq
def tM {a:dw}{vs:cz cG}{ss:cz Str}{n:Nat}{P:Fin ->cL ->Prop}(ho:s.heap.get? a=some (seqObj "list" vs.toArray n)) (hI:StrsAre vs ss) (hsz:vs.length<=sizeLine) (h: ∀ (out:ft cG) (ss':cz Str),StrsAre out.toList ss' ->ss'.Perm ss ->ss'.Pairwise (λx y=>¬y.cps.toList<x.cps.toList) ->P (.done (.ret .none)) {s with heap:=sortedHeap s.heap a vs out}): wpAny (model prog w) A (Builtin.«list.sort» #[[.ref a],[]]) P E s:=by
 exact wS XB ho hsz (kd:=oneType') (λh2 Q hq=> ?_) (ltS hI.all) λus hp hs=> ?_;let⟨v₁,v₂,rest,rfl⟩:dY λv₁ v₂ rest=>vs=v₁::v₂::rest:=by
  match vs,h2 with
  | [],h2=>simp at h2
  | [_],h2=>simp at h2
  | v₁::v₂::rest,_=>show#[v₁,v₂,rest,rfl]
 rw[keyKind_strs hI];show aC hq;have zH: ∀v,v∈us -> ∃x t,v= .str x t:=λv hv=>hI.all v (hp.mem_iff.mp hv);exact h us.toArray (us.map strOf) ⇑(strsAre_map us zH) ?_ ?_;have:=hp.map strOf;rwa [hI.strs] at this;rw[List.pairwise_map];exact hs.imp λ{x y} e=> ?_;unfold qQ at e;rw[decide_eq_false_iff_not] at e;show e
end
end TS
namespace L2
open PySem PySem.Spec PyProof.Rows
theorem Ao: ∀ {ks:cz Str} {vs:cz cG},vs.length=ks.length ->(∀ (j:Nat) (v:cG),vs[j]? =some v ->bX λ(k:Str) (t:Tok)=>ks[j]? =some k /\ v= .str k t) ->StrsAre vs ks
 | [],[],_,_=> .nil
 | [],_::_,h,_=>by simp at h
 | _::_,[],h,_=>by simp at h
 | k::ks,v::vs,h,hv=>by let⟨k',t,e1,e2⟩:=hv 0 v rfl;simp at e1;subst e1 e2;show .cons k t (Ao ⇑h λj u e=> ⇑(hv (j+1) u ⇑e))
theorem iq: ∀ {ks:cz Str} {vs:cz cG},StrsAre vs ks ->bK (ks.map V.str) vs
 | _,_, .nil=> .nil
 | _,_, .cons x t r=> .cons #[t,rfl] (iq r)
section
variable {X:Cx}{tg o e:Expr}{td ty:TE}{dh dg:Pos}
def xb:cz V ->Hp ->VK ->Prop:=λxs H Q=>dY λ(d:dw) (kvs:cz (bH×V)) (ks:cz Str)=>d9 (xs= [.ref d]) (H d=some (.dK kvs)) (kvs.map (·.1)=ks.map Sum.inr) (ks.length<=sizeLine) (∀ (p:dw) (ns:cz Str),H p=none ->ns.Perm ks ->ns.Pairwise (λx y=>¬y.cps.toList<x.cps.toList) ->Q (.ref p) (bU H p (.lst (ns.map V.str))))
def ng (hc:X.calm=true):dU X (.builtin "sorted") xb:=by
 intro ae s σ H xs us Q I r h;let⟨d,kvs,ks,rfl,hd,hk,Gs,q⟩:=h;let⟨u,rfl,ru⟩:=vals1 r;cases ru;have hh:X.A.in1.handled=none:=I.ok.hd hc;let⟨hz,lo,vs,fk,dd⟩:=uo I.b0 hd;let⟨ep,Pd⟩:=dd.dictAt;have dD:vs.length=ks.length:=by have e1:=congrArg List.length hk;rw[ao,ao] at e1;rw[<- fk.length,e1]
 exact Calls.call_function_entry kind_sorted plain_sorted entry_sorted (args_sorted1 _) ?_;unfold Builtin.«sorted»;exact af (m:=checkCount "sorted" 1 1 _) (aC ?_);exact af (W.kdu_collect (A:=X.A.in1) (W.kdl_dict (knd:=bQ X.prog X.w) (kvs:=vs) (ep:=ep) lo) hh Pd (by rw[<- fk.length];show hz) λh' tk d4 O3 vJ=> ?_);have hl:d4.toList.length=ks.length:=by rw[bT,vJ.1,dD]
 have hI:StrsAre d4.toList ks:=Ao hl λj v e=>by
  let⟨k,x,hx,Tk⟩:=vJ.2 j v (by rw[<- Array.getElem?_toList];show e);have Gj:(kvs.map (·.1))[j]? =some k:=by
   have:(vs.map (·.1))[j]? =some k:=by rw[aG,hx];rfl
   rw[<- fk.keys] at this;show this
  rw[hk,aG] at Gj;cases e2:ks[j]? with
  | none=>rw[e2] at Gj;cases Gj
  | some n=>
   rw[e2] at Gj;cases Gj;have O4:mj (Sum.inr n) v=true:=Tk;rcases cM O4 with⟨i,t,e3,e4⟩ | ⟨x,t,e3,e4⟩
   cases e3;cases e3;show#[n,t,rfl,e4]
 exact af (wpAny_newList ?_ (by rw[hl];show Gs));have ho:(h'.push (seqObj "list" d4.toList.toArray 0)).get? h'.objs.size=some (seqObj "list" d4.toList.toArray 0):=aJ _ rfl;exact af (wpAny_holding (wpAny_call_entry slot_list_sort #[_,ho,rfl] entry_list_sort (TS.tM (s:= {s with heap:=h'.push (seqObj "list" d4.toList.toArray 0),toks:=tk}) ho hI (by rw[hl];show Gs) λout DH a1 a2 a3=>#[_,rfl,?_]) (args_list_sort _)));let⟨ee,Gq⟩:=sortedHeap_at (out:=out) ho;have I':Inv X ae σ H {s with heap:=h',toks:=tk}:=I.kept (t':=tk) O3;exact aC #[_,rfl, .ref h'.objs.size,_,I'.laid (t':=tk) (o:= .lst (DH.map V.str)) (λb o hb=> ?_) (ak _) ?_,rfl,q _ DH (I'.b0.fresh (ak _)) a2 a3];have gP:b<h'.objs.size:=ax hb;rw[sortedHeap_old (aN gP) (by rw[Heap.size_push];show Nat.lt_succ_of_lt gP)];show ai _ hb;exact#[?_,out.toList,ee,iq a1, ⇑Gq];rw[ao,a2.length_eq];show Gs
def ER:cz V ->Hp ->VK ->Prop:=λxs H Q=>bX λ(d:dw) (kvs:cz (bH×V))=>cg (xs= [.ref d]) (H d=some (.dK kvs)) (∀p,H p=none ->Q (.ref p) (bU H p (.dK kvs)))
def rL:dU X (.type "dict") ER:=by intro ae s σ H xs us Q I r h;let⟨d,kvs,rfl,hd,q⟩:=h;let⟨u,rfl,ru⟩:=vals1 r;cases ru;let⟨hz,lo,vs,fk,dd⟩:=uo I.b0 hd;exact kt_call_dict lo dd (by rw[<- fk.length];show hz) λh' DL sb=> ?_;have big:=I.big;exact#[.ref s.heap.objs.size,_,I.laid (a:=s.heap.objs.size) (o:= .dK kvs) (t':=s.toks) (λb u e=> ?_) (ak _) #[hz,?_,vs,fk,DL],rfl,q _ (I.b0.fresh (ak _))];rw[sb.2 b (aN (ax e))];show ai _ e;show beq_eq_false_iff_ne.mpr (λz=>by rw[z] at big;show ce _ big)
def Lq (t:TE):TE:=λσ H Q=>bX λd kvs=>H d=some (.dK kvs) /\ t σ H λv H'=>bX λo us=>H' d=some (.mx o (.dK us)) /\ Q v (bU H' d (.dK us))
def Jd {e:Expr}{t:TE}(h:PE X e t):PE X e (Lq t):=by
 rintro ae s σ H Q I ⟨d,kvs,hd,ht⟩;have h0: ∀o u,X.H₀ d≠some (.mx o u):=λo u e=>by have:=I.base.ik d o u e;rw[hd] at this;cases this
 exact ci (h ae s σ H _ I ht) λv s' ⟨x,H',I',r,o,us,e,q⟩=>#[x,_,I'.Xe e h0,?_,q]
 show r
structure PM (K:PySem.W.Frag)(mg:Str ->Option Value)(x:Str)(ns:List Int):Prop where
 ex: ∃a,mg x=some (.ref a) /\ ∀H,gH K H a (ns.map V.int)
def tGT (K:gg)(ns:cz Int):TE:=λ_ H Q=> ∀a,gH K H a (ns.map V.int) ->Q (.ref a) H
def Jf {x:Str}{ns:cz Int}{pos:Pos}(hg:Gl X x)(T:PM X.K X.mg x ns)(hd:(x==("__debug__" :Str))=false:=by decide):PE X (.Name x pos) (tGT X.K ns):=by let⟨a,hm,hs⟩:=T.ex;intro ae s σ H Q I h;show dR (v:= .ref a) hg hm rfl hd ae s σ H Q I (h a (hs H))
end
end L2
namespace WL
open PySem L2
section
variable {K:gg}
def wGT (ns:cz Int):WE:=λ_ M q=>q (.tup (ns.map wi)) M
instance {ns:cz Int}:IE K (tGT K ns) (wGT ns) where
 imp:=λρ M σ H q Q o h k=>λa hs=>k _ M _ H h (aS.refl H) o.hp (WR.Qp hs (by
  exact bW.mk (by simp) λj d v e1 e2=> ?_;rw[aG] at e1 e2;cases hj:ns[j]? with
  | none=>rw[hj] at e1;cases e1
  | some n=>rw[hj] at e1 e2;cases e1;cases e2;show WR.v))
theorem aei {ns:cz Int}{ρ:b7}{M:Mp}{q:WK}:wGT ns ρ M q=q (.tup (ns.map wi)) M:=rfl
def DV:yi:=λxs M q=>dY λ(d:dw) (kvs:cz (bH×W)) (ks:cz Str)=>d9 (xs= [wr d]) (M d=some (.dK kvs)) (kvs.map (·.1)=ks.map Sum.inr) (ks.length<=sizeLine) (∀ (p:dw) (ns:cz Str),M p=none ->ns.Perm ks ->ns.Pairwise (λx y=>¬y.cps.toList<x.cps.toList) ->q (wr p) (um M p (.lst (ns.map ws))))
theorem AY {H:Hp}: ∀ {kvs:cz (bH×W)} {vs:cz (bH×V)},KR K H kvs vs ->kvs.map (·.1)=vs.map (·.1)
 | _,_, .nil=>rfl
 | _,_, .cons ⟨e,_⟩ t=>by rw[az,az,AY t,e]
theorem wx {H:Hp}: ∀ (ns:cz Str),bW K H (ns.map ws) (ns.map V.str)
 | []=>bW.nil
 | _::r=>bW.cons WR.v (wx r)
instance:IC K xb DV where
 imp:=by rintro xs v M H q Q m r1 ⟨d,kvs,ks,rfl,hd,hk,hl,h⟩ k;let⟨v,rfl,r⟩:=r1.one;cases r.eq;let⟨us,e,rr⟩:=m d _ hd;show#[d,us,ks,rfl,e,by rw[<- AY rr];show hk,hl,λp ns hp h1 h2=>k _ _ _ _ (h p ns (m.fresh hp) h1 h2) (L2.dP.ts (bF hp)) (m.sN hp (wx ns)) WR.v]
def D8:yi:=λxs M q=>bX λ(d:dw) (kvs:cz (bH×W))=>cg (xs= [wr d]) (M d=some (.dK kvs)) (∀p,M p=none ->q (wr p) (um M p (.dK kvs)))
instance:IC K ER D8 where
 imp:=by rintro xs v M H q Q m r1 ⟨d,kvs,rfl,hd,h⟩ k;let⟨v,rfl,r⟩:=r1.one;cases r.eq;let⟨us,e,rr⟩:=m d _ hd;show#[d,us,rfl,e,λp hp=>k _ _ _ _ (h p (m.fresh hp)) (L2.dP.ts (bF hp)) (m.put (L2.dP.ts (bF hp)) #[us,bC,KR.ts (L2.dP.ts (bF hp)) rr]) WR.v]
def Q5 {d:dw}{M:Mp}{q:WK}:D8 [.v (.ref d)] M q=iO (M d) λkvs=> ∀p,M p=none ->q (wr p) (um M p (.dK kvs)):=by apply propext;symm;rintro⟨_,kvs,h1,h2,k⟩;cases h1;show#[kvs,h2,k];rintro⟨kvs,h2,k⟩;show#[_,kvs,rfl,h2,k]
def QM (t:WE):WE:=λρ M q=>bX λd kvs=>M d=some (.dK kvs) /\ t ρ M λv M'=>dY λo ks us=>M' d=some (.fz o ks us) /\ q v (um M' d (.dK us))
instance {t:TE}{a:WE} [ia:IE K t a]:IE K (Lq t) (QM a) where
 imp:=λρ M σ H q Q o ⟨d,kvs,hd,h⟩ k=>by let⟨ks,ek,r⟩:=o.hp d _ hd;exact#[d,ks,ek,ia.imp ρ M σ H _ _ o h ?_];rintro x M' v H' ⟨ob,us,ws,hM,hq⟩ ts m' r';let⟨e1,r1⟩:=m' d _ hM;have t2:=Nj (u:= .dK us) e1;show#[ob,us,e1,k _ _ _ _ hq (ts.trans t2) (m'.put t2 #[us,bC,KR.ts t2 r1]) (r'.ts t2)]
end
end WL
namespace L2
open PySem
theorem jY {K:gg}{h:gC}{mg:Str ->cT cG}{x:Str}{C:dw}(X:K.In h)(G:h.Ns mainGlobals mg)(a:W.nsIn K mainGlobals x=some (some (.ref C))):mg x=some (.ref C):=W.mg_of X G a
theorem lb {K:gg}{h:gC}{x:Str}{C:dw}{cd:ClassData}(_:K.In h)(a:W.nsIn K mainGlobals x=some (some (.ref C)))(e:W.excIn K C Ui "ValueError.__new__" =true)(k1:W.clsIn K C=some cd)(k2:W.findIn K (.ref C) "__getattribute__" =some (some (.builtin "BaseException.__getattribute__")))(k3:W.findIn K (.ref C) "__getattr__" =some none)(k4:W.findIn K (.ref C) "__class__" =some (some (.builtin "object.__class__")))(k5:W.mroIn K C (.type "object")=some true)(k6:W.mroIn K C (.type "BaseException")=some true):nw K x C:=QF a e k1 k2 k3 k4 k5 k6
theorem Nt {K:gg}{h:gC}{mg:Str ->cT cG}{x z:Str}{t:Tok}(X:K.In h)(G:h.Ns mainGlobals mg)(a:W.nsIn K mainGlobals x=some (some (.str z t))): ∃t,mg x=some (.str z t):=#[t,W.mg_of X G a]
theorem Nh {K:gg}{h:gC}{mg:Str ->cT cG}{x:Str}{ad:dw}{n1 n2 n3 n4:Int}{t1 t2 t3 t4:Tok}{n:Nat}{sl:ft (cT cG)}(X:K.In h)(G:h.Ns mainGlobals mg)(a:W.nsIn K mainGlobals x=some (some (.ref ad))) (l:K.lookup ad=some #[.type "tuple",none, .seq (List.toArray [.int n1 t1, .int n2 t2, .int n3 t3, .int n4 t4]) n,sl]):PM K mg x [n1,n2,n3,n4]:=#[ad,W.mg_of X G a,λH=> .inr #[_,_,_,l,rfl,rfl,rfl,by change 4<=sizeLine;decide, .cons #[_,rfl] (.cons #[_,rfl] (.cons #[_,rfl] (.cons #[_,rfl] .nil)))]]
end L2
namespace WQ
open PySem L2 WL WP
section
variable {α:Type}
def pX (f:α ->W)(l:cz (Str×α)):cz (bH×W):=l.map λz=>(.inr z.1,f z.2)
def cA (l:cz (Str×α))(n:Str):cT α:=(l.find? λz=>decide (z.1=n)).map (·.2)
def l4 (l:cz (Str×α))(n:Str)(a:α):cz (Str×α):=if(l.any λz=>decide (z.1=n))=true then l.map (λz=>if z.1=n then(z.1,a) else z) else l++ [(n,a)]
def im (l:cz (Str×α))(n:Str):cz (Str×α):=l.filter λz=>decide (z.1≠n)
theorem qc {a b:Str}:((Sum.inr a:bH)= .inr b)↔a=b:=#[Sum.inr.inj,λh=>by rw[h]]
def iu (f:α ->W)(l:cz (Str×α))(n:Str):fu (pX f l) (.inr n)=(cA l n).map f:=by
 unfold fu pX cA;induction l with
 | nil=>rfl
 | cons z l ih=>rw[az,cH,cH];simp![qc];by_cases h:z.1=n;simp[h];simpa [h] using ih
def ve (f:α ->W)(l:cz (Str×α))(n:Str)(a:α):l3 (pX f l) (.inr n) (f a)=pX f (l4 l n a):=by
 have e:((pX f l).any λkv=>decide (kv.1= .inr n))=(l.any λz=>decide (z.1=n)):=by unfold pX;rw[List.any_map];congr 1;funext z;simp![Function.comp,qc]
 unfold l3 l4;rw[e];split;unfold pX;rw[bw,bw];apply List.map_congr_left;intro z _;simp![Function.comp,qc];split<;>rfl;unfold pX;rw[bA];rfl
def xP (f:α ->W)(l:cz (Str×α))(n:Str):rB (pX f l) (.inr n)=pX f (im l n):=by unfold rB pX im;rw[List.filter_map];congr 2;funext z;simp![Function.comp,ne_eq,qc]
def wL (f:α ->W)(l:cz (Str×α)):(pX f l).map (·.1)=(l.map (·.1)).map Sum.inr:=by unfold pX;rw[bw,bw];rfl
def uS (f:α ->W)(l:cz (Str×α)):(pX f l).length=l.length:=by unfold pX;rw[ao]
theorem Bs (l:cz (Str×α))(n:Str):(im l n).length<=l.length:=List.length_filter_le _ _
def vK {l:cz (Str×α)}{n:Str}{a:α}(h:cA l n=some a): ∃z∈l,z.1=n /\ z.2=a:=by
 unfold cA at h;cases e:l.find? λz=>decide (z.1=n) with
 | none=>rw[e] at h;cases h
 | some z=>rw[e] at h;cases h;show#[z,List.mem_of_find?_eq_some e, ⇑(List.find?_some e),rfl]
def Kj {l:cz (Str×α)}{z:Str×α}(h:z∈l): ∃a,cA l z.1=some a:=by
 unfold cA;cases e:l.find? λy=>decide (y.1=z.1) with
 | none=>simpa using List.find?_eq_none.mp e z h
 | some y=>show#[_,rfl]
def wR {a b c:cz Str}(h1:a.Perm c)(h2:b.Perm c)(s1:a.Pairwise λx y=>¬y.cps.toList<x.cps.toList)(s2:b.Pairwise λx y=>¬y.cps.toList<x.cps.toList):a=b:=by exact List.Perm.eq_of_pairwise (le:=λx y=>¬y.cps.toList<x.cps.toList) (λx y _ _ VI hyx=> ?_) s1 s2 (h1.trans h2.symm);show IH (List.le_antisymm VI hyx)
end
inductive Rf where
 | BadName | NoDeed | NoRound | NoCrew | Taken | InUse | BO | TooFar | PP | KO
abbrev Ij:Str:= "abcdefghijklmnopqrstuvwxyz"
abbrev Rm:=cz (Str×Rd)
abbrev Tm:=cz (Str×cz Str)
def lI (l:cz Str):W:= .tup (l.map ws)
abbrev rmW (R:Rm):cz (bH×W):=pX gd R
abbrev tmW (T:Tm):cz (bH×W):=pX lI T
def OH (n:Str)(l:cz Str):Bool:=DJ (.str n) (l.map V.str)
def wB (T:Tm)(n:Str):Bool:=T.any λz=>OH n z.2
def dc (n:Str):Bool:=decide (1<=n.length) && decide (n.length<=12) && (EA n).all λc=>JC c Ij
def pQ (a:Rd)(m r:Int):Bool:= !(decide ((if a.1<0 then -a.1 else a.1) <=m) && a.2.all λz=>decide ((if z.1<0 then -z.1 else z.1) <=r))
abbrev jf (n:Str):Prop:=n.cps.all (· <128)=true
def jE (r t:dw):cz (Str×W):= [("rounds",wr r),("teams",wr t)]
def dH (p:Int)(now la lu lh:dw):cz (Str×W):= [("p",wi p),("now",wr now),("past",wr la),("undone",wr lu),("held",wr lh)]
section
variable {p:Int}{r t now la lu lh x:dw}
theorem l5:(jE r t).lookup ("rounds" :Str)=some (wr r):=rfl
theorem lj:(jE r t).lookup ("teams" :Str)=some (wr t):=rfl
theorem Uj:(dH p now la lu lh).lookup ("p" :Str)=some (wi p):=rfl
theorem io:(dH p now la lu lh).lookup ("now" :Str)=some (wr now):=rfl
theorem ad2:(dH p now la lu lh).lookup ("past" :Str)=some (wr la):=rfl
theorem ad0:dQ "now" (wr x) (dH p now la lu lh)=dH p x la lu lh:=rfl
theorem adZ:dQ "undone" (wr x) (dH p now la lu lh)=dH p now la x lh:=rfl
theorem ad1:((dH p now la lu lh).length<1000)=True:=ar (by change 5<1000;decide)
theorem gq:(dH p now la lu lh).lookup ("turn_to" :Str)=none:=rfl
theorem Px:(dH p now la lu lh).lookup ("put" :Str)=none:=rfl
theorem yd:(dH p now la lu lh).lookup ("put_team" :Str)=none:=rfl
theorem pH:(dH p now la lu lh).lookup ("enlisted" :Str)=none:=rfl
theorem vW:(dH p now la lu lh).lookup ("team" :Str)=none:=rfl
theorem BJ:(dH p now la lu lh).lookup ("tell" :Str)=none:=rfl
theorem KD:(dH p now la lu lh).lookup ("drop" :Str)=none:=rfl
theorem ye:(dH p now la lu lh).lookup ("found" :Str)=none:=rfl
theorem zR:(dH p now la lu lh).lookup ("disband" :Str)=none:=rfl
theorem Hc:(dH p now la lu lh).lookup ("names" :Str)=none:=rfl
theorem Hd:(dH p now la lu lh).lookup ("crews" :Str)=none:=rfl
theorem pG:(dH p now la lu lh).lookup ("round_of" :Str)=none:=rfl
theorem zQ:(dH p now la lu lh).lookup ("members" :Str)=none:=rfl
end
def Eh {α:Type}(f:α ->W)(l:cz (Str×α)):(pX f l).map (λx=>x.2)=l.map λz=>f z.2:=by unfold pX;rw[bw];rfl
def CT (l:cz Str):(l.map V.str).all i6=true:=by rw[List.all_map];show List.all_eq_true.mpr λ_ _=>rfl
theorem J5 {n:Str}{l:cz Str}{M:Mp}{q:WK}(h:q (wb (OH n l)) M):wIn false (ws n) (lI l) M q:=#[.str n,l.map V.str,rfl, .inl (by unfold lI;rw[bw];rfl),rfl,CT l,h]
theorem Iz {M:Mp}{t u:dw}{o f:MO}{l:MO}(h:M t=some o)(hu:um M t f u=none):Sm M (um (um (um M t f) u l) t o):=λa x e=>by by_cases ht:a=t;subst ht;rw[aq];rw[h] at e;show e;rw[aT ht,aT (cR (M:=um M t f) (by rw[aT ht];show e) hu),aT ht];show e
def Pg (C:dw)(M:Mp)(a:dw)(R:Rm)(T:Tm):Prop:=dY λ(dx r t:dw)=>cg (M a=some (.ins C dx (jE r t))) (M r=some (.dK (rmW R))) (M t=some (.dK (tmW T)))
structure Bk (B C:Addr)(M:Mp)(b la lu lh:Addr)(p:Int)(now:Addr)(pa un he:List Addr)(R:Rm)(T:Tm):Prop where
 ob: ∃dx,M b=some (.ins B dx (dH p now la lu lh))
 pa:M la=some (.lst (pa.map wr))
 un:M lu=some (.lst (un.map wr))
 he:M lh=some (.lst (he.map wr))
 ne:la≠lu /\ la≠lh /\ lu≠lh
 pg:Pg C M now R T
def Ds (b la:dw)(M M':Mp):Prop:= ∀a o,M a=some o ->a≠b ->a≠la ->M' a=some o
def Pg.sm {C a:dw}{M M':Mp}{R:Rm}{T:Tm}(h:Pg C M a R T)(s:Sm M M'):Pg C M' a R T:=by let⟨dx,r,t,h1,h2,h3⟩:=h;show#[dx,r,t,s _ _ h1,s _ _ h2,s _ _ h3]
def Bk.sm {B C b la lu lh now:dw}{M M':Mp}{p:Int}{pa un he:cz dw}{R:Rm}{T:Tm}(h:Bk B C M b la lu lh p now pa un he R T)(s:Sm M M'):Bk B C M' b la lu lh p now pa un he R T:=by let⟨⟨dx,h1⟩,h2,h3,h4,h5,h6⟩:=h;show#[#[dx,s _ _ h1],s _ _ h2,s _ _ h3,s _ _ h4,h5,h6.sm s]
theorem Ds.sm {b la:dw}{M M1 M':Mp}(F:Ds b la M1 M')(s:Sm M M1):Ds b la M M':=λa o h n1 n2=>F a o (s a o h) n1 n2
theorem Ds.dic {b la:dw}{M M':Mp}(F:Ds b la M M'){B dx:dw}{fs:cz (Str×W)}{l:cz W}(hb:M b=some (.ins B dx fs))(ha:M la=some (.lst l)){r:dw}{kvs:cz (bH×W)}(h:M r=some (.dK kvs)):M' r=some (.dK kvs):=F _ _ h (λz=>by subst z;rw[hb] at h;cases h) λz=>by subst z;rw[ha] at h;cases h
def Ds.pg {b la:dw}{M M':Mp}(F:Ds b la M M'){B C dx now la' lu lh a:dw}{p:Int}{l:cz W}{R:Rm}{T:Tm}(hb:M b=some (.ins B dx (dH p now la' lu lh)))(ha:M la=some (.lst l))(h:Pg C M a R T):Pg C M' a R T:=by let⟨kA,r,t,h1,h2,h3⟩:=h;exact#[kA,r,t,F _ _ h1 (λz=> ?_) (λz=> ?_),F.dic hb ha h2,F.dic hb ha h3];subst z;rw[hb] at h1;injection h1 with h1;injection h1 with _ _ h1;have:=congrArg List.length h1;revert this;change 5=2 ->False;decide;subst z;rw[ha] at h1;cases h1
def Fs (s:dw)(M M':Mp):Prop:= ∀a o,M a=some o ->a≠s ->M' a=some o
theorem Fs.trans {s:dw}{M M1 M2:Mp}(f:Fs s M M1)(g:Fs s M1 M2):Fs s M M2:=λa o h n=>g a o (f a o h n) n
theorem Fs.self {s:dw}{M:Mp}{o:MO}:Fs s M (um M s o):=λa u h n=>by rw[aT n];show h
theorem Fs.new {s p:dw}{M M':Mp}{o:MO}(f:Fs s M M')(hp:M' p=none):Fs s M (um M' p o):=λa u h n=>by rw[aT (cR (f a u h n) hp)];show f a u h n
theorem Fs.put {s:dw}{M M':Mp}{o:MO}(f:Fs s M M'):Fs s M (um M' s o):=λa u h n=>by rw[aT n];show f a u h n
def Fs.free {s p:dw}{M M':Mp}(f:Fs s M M')(hp:M' p=none)(n:p≠s):M p=none:=by
 cases e:M p with
 | none=>rfl
 | some o=>rw[f p o e n] at hp;cases hp
structure Uv (p:Int)(R:Rm):Prop where
 nd:(R.map (·.1)).Nodup
 len:R.length<=1000
 ok: ∀z∈R,de p z.2.2 /\ z.2.2.length<=401 /\ pQ z.2 200 200=false
def N6 (C:dw):e_:=λxs M q e=> ∃n:Str,d9 (xs= [ws n]) (jf n) (n.length<=100) (dc n=true ->q wn M) (dc n=false ->e C M)
def NN:e9:=λxs M q=>gs λ(d:dw) (kvs:cz (bH×W)) (n:Str) (x:W)=>eZ (xs= [wr d,ws n,x]) (M d=some (.dK kvs)) (kvs.length<=2000) (∀r,M r=none ->q (wr r) (um M r (.dK (l3 kvs (.inr n) x))))
def Fh:e9:=λxs M q=>dY λ(d:dw) (kvs:cz (bH×W)) (n:Str)=>eZ (xs= [wr d,ws n]) (M d=some (.dK kvs)) ((fu kvs (.inr n)).isSome=true) (∀r,M r=none ->q (wr r) (um M r (.dK (rB kvs (.inr n)))))
def Sq (C:dw):e9:=λxs M q=>gs λ(s dx r t:dw)=>cg (xs= [wr s,wr r,wr t]) (M s=some (.ins C dx [])) (q wn (um M s (.ins C dx (jE r t))))
def Su (B C:dw):e9:=λxs M q=>dY λ(s dx:dw) (p:Int)=>eZ (xs= [wr s,wi p]) (p=2 \/ p=3 \/ p=5 \/ p=7) (M s=some (.ins B dx [])) (∀M' la lu lh now,Bk B C M' s la lu lh p now [] [] [] [] [] ->Fs s M M' ->M la=none ->M lu=none ->M lh=none ->la≠s ->q wn M')
def Si (B C:dw):e9:=λxs M q=>PK λ(b la lu lh now pg:dw)=>gs λ(p:Int) (pa un he:cz dw)=>gs λ(R:Rm) (T:Tm) (R':Rm) (T':Tm)=>d9 (xs= [wr b,wr pg]) (Bk B C M b la lu lh p now pa un he R T) (Pg C M pg R' T') (pa.length<=1000) (∀M' kx,Bk B C M' b la kx lh p pg (pa++ [now]) [] he R' T' ->Ds b la M M' ->M kx=none ->q wn M')
def Cm (B C:dw):e9:=λxs M q=>rN λ(b la lu lh now:dw)=>gs λ(p:Int) (pa un he:cz dw)=>dY λ(R:Rm) (T:Tm) (n:Str)=>eZ (xs= [wr b,ws n]) (Bk B C M b la lu lh p now pa un he R T) (T.length<=1000) (q (wb (wB T n)) M)
def gK (T:Tm)(n:Str)(a:Rd):Bool:=pQ a 200 200 || (wB T n && pQ a 8 24)
def NT (B C X:dw):e_:=λxs M q e=>rN λ(b la lu lh now:dw)=>gs λ(p:Int) (pa un he:cz dw)=>gs λ(R:Rm) (T:Tm) (n:Str) (a:Rd)=>MJ (xs= [wr b,ws n,gd a]) (Bk B C M b la lu lh p now pa un he R T) (pa.length<=1000) (R.length<=1000) (T.length<=1000) (a.2.length<=1000000) (gK T n a=false -> ∀M' kx pg,Bk B C M' b la kx lh p pg (pa++ [now]) [] he (l4 R n a) T ->Ds b la M M' ->M kx=none ->M pg=none ->q wn M') (gK T n a=true ->e X M)
def Fi:e9:=λxs M q=>dY λ(a:Rd) (e r:Int)=>cg (xs= [gd a,wi e,wi r]) (a.2.length<=1000000) (q (wb (!pQ a e r)) M)
def N1:e9:=λxs M q=> ∃a:Rd,cg (xs= [gd a]) (a.2.length<=1000000) (q (wb (!pQ a 8 24)) M)
inductive su where
 | tell (n:Str) (ds:List (Str×Int)) | join (n x y:Str) | back (n x:Str) | times (n x:Str) (k:Int) | drop (n:Str)
inductive Oc (α:Type) where
 | ok (R:α) | bad (r:Rf)
noncomputable def Xu (p:Int) (a:Rd) (n:Int):Rd:=Classical.epsilon λr=>rR p a n r
def lq (ds:cz (Str×Int)):Bool:=ds.all λd=>decide (d.1= "go") || decide (d.1= "turn")
def q_ {ds:cz (Str×Int)}:lq ds=true↔ ∀d∈ds,Good d:=by unfold lq Good;rw[List.all_eq_true];simp![Bool.or_eq_true,decide_eq_true_eq]
def sM (R:Rm)(T:Tm)(n:Str)(a:Rd):Oc Rm:=if gK T n a=true then .bad .TooFar else .ok (l4 R n a)
noncomputable def iZ (p:Int) (R:Rm) (T:Tm):su ->Oc Rm
 | .tell n ds=>if dc n=false then .bad .BadName else if lq ds=false then .bad .NoDeed else sM R T n ((eP ds).1,nV p (eP ds).2)
 | .join n x y=>if dc n=false then .bad .BadName else match cA R x,cA R y with
  | some a,some b=>sM R T n (jn p a b)
  | _,_=> .bad .NoRound
 | .back n x=>if dc n=false then .bad .BadName else match cA R x with
  | some a=>sM R T n (bk p a)
  | none=> .bad .NoRound
 | .times n x k=>if dc n=false then .bad .BadName else match cA R x with
  | some a=>sM R T n (Xu p a k)
  | none=> .bad .NoRound
 | .drop n=>match cA R n with
  | none=> .bad .NoRound
  | some _=>if wB T n=true then .bad .InUse else .ok (im R n)
structure Nm (n:Str):Prop where
 as:jf n
 len:n.length<=100
def P8:su ->Prop
 | .tell n ds=>cg (Nm n) (ds.length<=50) (∀d∈ds,d.1.length<=100)
 | .join n x y=>cg (Nm n) (Nm x) (Nm y)
 | .back n x=>Nm n /\ Nm x
 | .times n x k=>eZ (Nm n) (Nm x) (-100<=k) (k<=100)
 | .drop n=>Nm n
structure K' (p:Int)(R:Rm)(T:Tm)(pa:List Addr):Prop where
 p4:p=2 \/ p=3 \/ p=5 \/ p=7
 pa:pa.length<=900
 r:Uv p R
 t:T.length<=900
def BR (B C:dw)(M:Mp)(b la lh:dw)(p:Int)(now:dw)(pa he:cz dw)(R:Rm)(T:Tm)(q:WK):Prop:=∀M' kx pg,Bk B C M' b la kx lh p pg (pa++ [now]) [] he R T ->Ds b la M M' ->M kx=none ->M pg=none ->q wn M'
def pDo (B C:dw)(Ha:Rf ->dw)(f:cz W ->Mp ->su ->Prop):e_:=λxs M q e=>rN λ(b la lu lh now:dw)=>gs λ(p:Int) (pa un he:cz dw)=>gs λ(R:Rm) (T:Tm) (dd:su) (ys:cz W)=>PL (xs=wr b::ys) (f ys M dd) (P8 dd) (Bk B C M b la lu lh p now pa un he R T) (K' p R T pa) (∀R',iZ p R T dd= .ok R' ->BR B C M b la lh p now pa he R' T q) (∀r,iZ p R T dd= .bad r ->e (Ha r) M)
def ND {B C X:dw}{M:Mp}{b la lu lh now:dw}{p:Int}{pa un he:cz dw}{R:Rm}{T:Tm}{n:Str}{a:Rd}{O:Oc Rm}{q:WK}{e:WX}{Ha:Rf ->dw}(hB:Bk B C M b la lu lh p now pa un he R T)(hS:K' p R T pa)(hl:a.2.length<=1000000)(ho:O=sM R T n a) (kq: ∀R',O= .ok R' ->BR B C M b la lh p now pa he R' T q) (ke: ∀r,O= .bad r ->up e (Ha r) M) (hX:X=Ha .TooFar:=by rfl):NT B C X [wr b,ws n,gd a] M (λ_ M1=> ∃M0,Sm M0 M1 /\ q wn M0) (up e):=by have h1:=hS.pa;have h2:=hS.r.len;have h3:=hS.t;exact#[b,la,lu,lh,now,p,pa,un,he,R,T,n,a,rfl,hB,by omega,h2,by omega,hl,λhb M' kx pg B' F hu hp=>fK (kq _ (by rw[ho,sM,ah (by rw[hb];decide)]) M' kx pg B' F hu hp),λhb=> ?_];rw[hX];show ke .TooFar (by rw[ho,sM,aj hb])
def TU (ys:cz W)(M:Mp)(dd:su):Prop:=dY λ(n:Str) (a:dw) (ds:cz (Str×Int))=>cg (ys= [ws n,wr a]) (dd= .tell n ds) (M a=some (.lst (ds.map Kt)))
def TV (ys:cz W)(_:Mp)(dd:su):Prop:= ∃n:Str,ys= [ws n] /\ dd= .drop n
def Fj (B C X:dw):e_:=λxs M q e=>rN λ(b la lu lh now:dw)=>gs λ(p:Int) (pa un he:cz dw)=>dY λ(R:Rm) (T:Tm) (n:Str)=>d9 (xs= [wr b,ws n]) (Bk B C M b la lu lh p now pa un he R T) (n.length<=100) (∀a,cA R n=some a ->q (gd a) M) (cA R n=none ->e X M)
def Jn (B C:dw):e9:=λxs M q=>rN λ(b la lu lh now:dw)=>gs λ(p:Int) (pa un he:cz dw)=>bX λ(R:Rm) (T:Tm)=>eZ (xs= [wr b]) (Bk B C M b la lu lh p now pa un he R T) (R.length<=1000) (∀ (u:dw) (ns:cz Str),M u=none ->ns.Perm (R.map (·.1)) ->ns.Pairwise (λx y=>¬y.cps.toList<x.cps.toList) ->q (wr u) (um M u (.lst (ns.map ws))))
def Jq (B C:dw):e9:=λxs M q=>rN λ(b la lu lh now:dw)=>gs λ(p:Int) (pa un he:cz dw)=>bX λ(R:Rm) (T:Tm)=>eZ (xs= [wr b]) (Bk B C M b la lu lh p now pa un he R T) (T.length<=1000) (∀ (u:dw) (ns:cz Str),M u=none ->ns.Perm (T.map (·.1)) ->ns.Pairwise (λx y=>¬y.cps.toList<x.cps.toList) ->q (wr u) (um M u (.lst (ns.map ws))))
theorem Tz {a n:Str}(h:a.length<=100)(hn:n.length<=100):(a++n).length<=sizeLine:=df (by rw[j9];omega)
theorem Tx {a n c:Str}(h:a.length<=100)(hn:n.length<=100)(hc:c.length<=100):(a++n++c).length<=sizeLine:=df (by rw[j9,j9];omega)
def rM {x:Str}:jf x↔ ∀c∈x.cps.toList,c<128:=by unfold jf;rw[<- Array.all_toList,List.all_eq_true];simp![decide_eq_true_eq]
def Nm.app {x y:Str}(hx:jf x)(hy:jf y):jf (x++y):=by rw[rM] at*;intro c hc;rw[BE] at hc;show(bh.mp hc).elim (hx c) (hy c)
def yh {x:Str}{lo hi:cT Int}(hx:jf x):jf (Txt.slice x lo hi):=by unfold Txt.slice;split;show hx;rw[rM] at*;intro c hc;rw[List.mem_filterMap] at hc;let⟨i,_,hi⟩:=hc;show hx c (Array.mem_toList_iff.mpr (Array.mem_of_getElem? hi))
def Hg {x:Str}{n:Nat}(hx:jf x):jf (dM x n):=by
 unfold dM;split;decide+kernel;split;show hx;rw [rM] at*;have: ∀ (n:Nat) (a:ft Nat),(∀c∈a.toList,c<128) -> ∀c∈((List.replicate n x.cps).foldl (· ++ ·) a).toList,c<128:=by
  intro n;induction n with
  | zero=>intro a ha c hc;show ha c hc
  | succ n ih=>intro a ha c hc;rw[List.replicate_succ,List.foldl_cons] at hc;exact ih (a++x.cps) (λc hc=> ?_) c hc;rw[bB] at hc;show(bh.mp hc).elim (ha c) (hx c)
 show this n #[] (by simp)
def BY {x:Str}{n:Nat}:(dM x n).length<=n*x.length:=by unfold dM;split;change 0<=_;omega;split;rename_i h0 h;obtain h | h:=h;subst h;omega;rw[h];omega;rw[AA];show ak _
theorem vQ:Ps ws Dt.str:=λ_=>rfl
def GW (l:cz Str):vO (.lst (l.map Dt.str)) <=50:=by
 have: ∀l:cz Str,sU (l.map Dt.str) <=1:=λl=>by
  induction l with
  | nil=>simp[sU]
  | cons x l ih=>simp[sU,vO];omega
 have:=this l;simp![vO];omega
theorem nK {p:e_}{xs:cz W}{M:Mp}{q:WK}(h:p xs M q λ_ _=>False):yc (RO p) xs M q:=h
structure Uu (T:Tm):Prop where
 nd:(T.map (·.1)).Nodup
 len:T.length<=900
 key: ∀z∈T,z.1.length<=100
 mem: ∀z∈T,z.2.length<=100
def Vj (M:Mp)(h:dw):Mp:=λa=>if a=h then none else M a
theorem va {M:Mp}{h a:dw}(n:a≠h):Vj M h a=M a:=ah n
def Bk.Vj {B C b la lu lh now h:dw}{M:Mp}{p:Int}{pa un he:cz dw}{R:Rm}{T:Tm}{l:cz W}(hB:Bk B C M b la lu lh p now pa un he R T)(hh:M h=some (.lst l))(n1:la≠h)(n2:lu≠h)(n3:lh≠h):Bk B C (Vj M h) b la lu lh p now pa un he R T:=by
 let⟨⟨dx,h1⟩,h2,h3,h4,h5,kA,r,t,h6,h7,h8⟩:=hB;have ni: ∀ {a:dw} {o:MO},M a=some o ->(∀l,o≠ .lst l) ->WQ.Vj M h a=some o:=λ{a o} e n=>by rw[va (λz=>by subst z;rw[e] at hh;cases hh;show n _ rfl)];show e
 show#[#[dx,ni h1 (λ_ z=>nomatch z)],by rw[va n1];show h2,by rw[va n2];show h3,by rw[va n3];show h4,h5,kA,r,t,ni h6 (λ_ z=>nomatch z),ni h7 (λ_ z=>nomatch z),ni h8 (λ_ z=>nomatch z)]
def Sk (B C X:dw):e_:=λxs M q e=>rN λ(b la lu lh now:dw)=>gs λ(p:Int) (pa un he:cz dw)=>dY λ(R:Rm) (T:Tm) (n:Str)=>d9 (xs= [wr b,ws n]) (Bk B C M b la lu lh p now pa un he R T) (n.length<=100) (∀a,cA T n=some a ->q (lI a) M) (cA T n=none ->e X M)
def Fn (B C X:dw):e_:=λxs M q e=>rN λ(b la lu lh now:dw)=>gs λ(p:Int) (pa un he:cz dw)=>dY λ(R:Rm) (T:Tm) (n:Str)=>d9 (xs= [wr b,ws n]) (Bk B C M b la lu lh p now pa un he R T) (n.length<=100) (∀a,cA T n=some a -> ∀u,M u=none ->q (wr u) (um M u (.lst (a.map ws)))) (cA T n=none ->e X M)
def Bk.fs {B C b la lu lh now d:dw}{M M':Mp}{p:Int}{pa un he:cz dw}{R:Rm}{T:Tm}{x:cz W}(hB:Bk B C M b la lu lh p now pa un he R T)(F:Fs d M M')(hd:M d=some (.lst x))(n1:la≠d)(n2:lu≠d)(n3:lh≠d):Bk B C M' b la lu lh p now pa un he R T:=by let⟨⟨dx,h1⟩,h2,h3,h4,h5,kA,r,t,h6,h7,h8⟩:=hB;have ni: ∀ {a:dw} {o:MO},M a=some o ->(∀l,o≠ .lst l) ->M' a=some o:=λ{a o} e n=>F a o e (λz=>by subst z;rw[e] at hd;cases hd;show n _ rfl);show#[#[dx,ni h1 (λ_ z=>nomatch z)],F _ _ h2 n1,F _ _ h3 n2,F _ _ h4 n3,h5,kA,r,t,ni h6 (λ_ z=>nomatch z),ni h7 (λ_ z=>nomatch z),ni h8 (λ_ z=>nomatch z)]
def MA {M M':Mp}{d l:dw}(h:Dr M d l)(s:Sm M M'):Dr M' d l:=by let⟨ns,i,c,sd,h1,h2,h3,h4⟩:=h;show#[ns,i,c,sd,s _ _ h1,s _ _ h2,h3,h4]
def Pp {M M':Mp}{d l b la B dx:dw}{fs:cz (Str×W)}(h:Dr M d l)(F:Ds b la M M')(hb:M b=some (.ins B dx fs))(n1:la≠d)(n2:la≠l):Dr M' d l:=by let⟨ns,i,c,sd,h1,h2,h3,h4⟩:=h;show#[ns,i,c,sd,F _ _ h1 (λz=>by subst z;rw[hb] at h1;cases h1) n1.symm,F _ _ h2 (λz=>by subst z;rw[hb] at h2;cases h2) n2.symm,h3,h4]
def GV {M:Mp}{d l:dw}(h:Dr M d l): ∃x,M d=some (.lst x):=by let⟨ns,i,c,sd,h1,h2,h3,h4⟩:=h;show#[_,h1]
inductive rZ where
 | found (c:Str) | disband (c:Str) | GQ (c n:Str) | Bq (c n:Str)
def kO (R:Rm)(T:Tm):rZ ->Oc Tm
 | .found c=>if dc c=false then .bad .BadName else match cA T c with
  | some _=> .bad .Taken
  | none=> .ok (l4 T c [])
 | .disband c=>match cA T c with
  | none=> .bad .NoCrew
  | some _=> .ok (im T c)
 | .GQ c n=>match cA T c with
  | none=> .bad .NoCrew
  | some l=>match cA R n with
   | none=> .bad .NoRound
   | some a=>if OH n l=true then .bad .Taken else if 6<=l.length then .bad .BO else if pQ a 8 24=true then .bad .TooFar else .ok (l4 T c (l++ [n]))
 | .Bq c n=>match cA T c with
  | none=> .bad .NoCrew
  | some l=>if OH n l=false then .bad .NoRound else .ok (l4 T c (l.filter λm=>decide (m≠n)))
def ad9:rZ ->Prop
 | .found c=>Nm c
 | .disband c=>Nm c
 | .GQ c n=>Nm c /\ Nm n
 | .Bq c n=>Nm c /\ Nm n
def Fk (B C:dw):e9:=λxs M q=>rN λ(b la lu lh now:dw)=>gs λ(p:Int) (pa un he:cz dw)=>gs λ(R:Rm) (T:Tm) (c:Str) (l:cz Str)=>d9 (xs= [wr b,ws c,lI l]) (Bk B C M b la lu lh p now pa un he R T) (pa.length<=900) (T.length<=900) (BR B C M b la lh p now pa he R (l4 T c l) q)
def AL (B C:dw)(Ha:Rf ->dw)(f:cz W ->rZ ->Prop):e_:=λxs M q e=>rN λ(b la lu lh now:dw)=>gs λ(p:Int) (pa un he:cz dw)=>gs λ(R:Rm) (T:Tm) (dd:rZ) (ys:cz W)=>MJ (xs=wr b::ys) (f ys dd) (ad9 dd) (Bk B C M b la lu lh p now pa un he R T) (K' p R T pa) (Uu T) (∀T',kO R T dd= .ok T' ->BR B C M b la lh p now pa he R T' q) (∀r,kO R T dd= .bad r ->e (Ha r) M)
def Pm (ys:cz W)(dd:rZ):Prop:= ∃c:Str,ys= [ws c] /\ dd= .found c
def GH (ys:cz W)(dd:rZ):Prop:= ∃c:Str,ys= [ws c] /\ dd= .disband c
inductive UI where
 | r (d:su) | c (d:rZ) | aeE | aeG | hold | ret (k:Int)
def aeI:UI ->Prop
 | .r _=>True | .c _=>True | _=>False
structure SBk where
 R:Rm
 T:Tm
 past:List (Addr×Rm×Tm)
 und:List (Addr×Rm×Tm)
 held:List (Addr×Rm×Tm)
def keep (s:SBk)(now:dw):SBk:= {s with past:=s.past++ [(now,s.R,s.T)],und:= []}
structure Ap (x la lu lh:Addr):Prop where
 a:la≠x
 u:lu≠x
 h:lh≠x
def TZ {M:Mp}{d l:dw}(h:Dr M d l): ∃x,M l=some (.lst x):=by let⟨ns,i,c,sd,h1,h2,h3,h4⟩:=h;show#[_,h2]
section
variable {i:Nat}{s k:Str}{l:cz W}{a rest:WS}{D:dA}{ρ:b7}{M:Mp}
def Ig {q:WK}(hρ:ρ[i]? =some (some (.tup (ws k::l))))(h:q (wb (decide (k=s))) M):QT U1 (QT MT (eB i) (wC (W.v (V.int 0)))) (wC (W.v (V.str s))) ρ M q:=by
 unfold QT eB wC;rw[hρ];exact#[_,0,_,rfl,rfl,Ul,_,_,rfl,rfl,rfl,?_];have e:decide (V.str k=V.str s)=decide (k=s):=by simp
 rw[e];show h
end
end WQ
namespace WL
open PySem L2
section
variable {M:Mp}{ρ:b7}{q:WK}{a b c:WE}{D:dA}{x y z:W}
def kb (b:WT)(q:Bool ->Mp ->Prop):b7 ->Mp ->Prop:=λρ M=>b ρ M q
def kq (q:Bool ->Mp ->Prop)(c:Bool):b7 ->Mp ->Prop:=λ_ M=>q c M
def sN (q:WK)(M:Mp)(o:MO):Prop:= ∀p,M p=none ->q (wr p) (um M p o)
end
end WL
namespace L2
open PySem PyProof.Rows PyProof.V PySem.Calls PySem.Spec
abbrev XH:=Hp ->XK
abbrev TR:=St ->Hp ->VK ->XH ->Prop
abbrev QB:=jl ->(St ->XH) ->St ->Hp ->Prop
def XP (X:Cx)(ae:cz (dw×Obj))(σ:St)(E:XH)(ev:cG)(s':cL):Prop:=bX λH1 s1=>Inv X ae σ H1 s1 /\ gv X.prog X.w X.stack H1 s1 (E H1) ev s'
def PR (X:Cx)(e:Expr)(t:TR):Prop:=∀ (ae:cz (dw×Obj)) (s:cL) (σ:St) (H:Hp) (Q:VK) (E:XH),Inv X ae σ H s ->t σ H Q E ->wpAny (model X.prog X.w) X.A (eval e X.env) (EP X ae σ Q) (XP X ae σ E) s
def PRS (X:Cx)(st:Stmt)(t:QB):Prop:=∀ (ae:cz (dw×Obj)) (s:cL) (σ:St) (H:Hp) (D:jl) (E:St ->XH),Inv X ae σ H s ->t D E σ H ->wpAny (model X.prog X.w) X.A (exec st X.env) (SP X ae D) (λev s'=> ∃σ',XP X ae σ' (E σ') ev s') s
def tRC (sp:Sp)(t:TA):TR:=λσ H Q E=>t σ H λvs H1=>sp (vs++ []) H1 Q (E H1)
def tRD (t:TR):QB:=λD E σ H=>t σ H (λ_ H1=>D.nx σ H1) (E σ)
section
variable {X:Cx}{k:Nat}{f C:dw}{fd:gN}{ps:cz Str}{sp:Sp}{x m qual:Str}{p pos dh:Pos}{e o:Expr}{es:cz Expr}{te:TE}{ta:TA}{t:TR}{st:Stmt}
theorem NM {es:cz Expr}{t:TA}(h:PA X.Fx es t){E:cG ->cL ->Prop}{pos:Pos}{ae:cz (dw×Obj)}{s:cL}{σ:St}{H:Hp}{Q:cz V ->Hp ->Prop}(I:Inv X ae σ H s)(hw:t σ H Q):wpAny (model X.prog X.w) X.A (spliced (backTo pos (starEach es X.env))) (AP X ae σ Q) E s:=a9 (h pos ae s σ H Q (I.nC _) hw) (λ_ _ ⟨v,H',I',r,q⟩=>#[v,H',I'.f8,r,q]) λ_ _ z=>False.elim z
def IQ {ae:cz (dw×Obj)}{σ:St}{H:Hp}{s:cL}{Q:VK}{E:XH}{us:cz cG}{vs:cz V}(F:bv X.prog X.w X.K X.mg X.base (gv X.prog X.w) k f fd ps sp)(hr:dz k X.A)(hb:Binds X.K fd ps []) (I:Inv X ae σ H s) (r:bK vs us) (h:sp (vs++ []) H Q (E H)):wpAny (model X.prog X.w) X.A (call (.ref f) us) (EP X ae σ Q) (XP X ae σ E) s:=by
 have r2:bK (vs++ []) (us++ []):=r.append .nil;have hl:(us++ []).length=ps.length:=by rw[<- r2.length];show F.len _ _ _ _ h
 exact wpAny_call (codeAny_mono (F.run X.A X.stack s H #[us,[]] (us++ []) (vs++ []) Q _ hr I.Kr (hb s us I.qU hl) r2 h) λr s' hq=> ?_);cases r with
 | error e=>show#[H,s,I,hq]
 | ok fl=>
  cases fl with
  | ret u=>show I.after hq
  | next=>show False.elim hq
  | brk=>show False.elim hq
  | cont=>show False.elim hq
def Ja (C:gu X.K X.mg x ps st f fd)(F:bv X.prog X.w X.K X.mg X.base (gv X.prog X.w) k f fd ps sp)(hr:dz k X.A)(hg:Gl X x)(ha:PA X.Fx (e::es) ta) (kU:(x==("__debug__" :Str))=false:=by decide) (he:starEach (e::es) X.env=(false,eval e X.env)::starEach es X.env:=by rfl) (nA:(backTo pos (starEach es X.env)).any (·.1)=false:=by rfl): PR X (.Call (.Name x p) (e::es) [] pos) (tRC sp ta):=by intro ae s σ H Q E I h;exact wpAny_Call_Name_kw (j_ I hg C.at_ ?_ kU);exact W.callWith_K (h₀:=X.base) I.ok.mod.Mm C.fn.kp (ci (NM ha I h) λus s1 ⟨vs,H1,I1,r,q⟩=>#[I1.qU,?_]) he nA;show IQ F hr C.bd I1 r q
def E1 (he:PR X e t)(hs:swapsWith e none pos.line X.env=pure false:=by rfl):PRS X (.Expr e pos) (tRD t):=by intro ae s σ H D E I h;show wpAny_Expr_any (a9 (he ae s σ H _ _ I h) (λv s1 ⟨x,H1,I1,r1,q1⟩=>#[σ,H1,I1,q1]) λev s2 z=>#[σ,z]) I.quiet hs
end
def asN (i:Nat)(ts:TS):dw ->TS:=λea D σ H=>ts (xE i D) (σ.set i (some (.ref ea))) H
def asU (ts:TS):dw ->TS:=λ_=>ts
inductive Ii (X:Cx):List ExceptHandler ->List (Addr× (Addr ->TS)) ->Prop
 | nil:Ii X [] []
 | cons {x:Str} {np sP:Pos} {b₀:Stmt} {iT:List Stmt} {C:Addr} {ts:TS} {rest:List ExceptHandler} {al:List (Addr× (Addr ->TS))} (hg:Gl X x) (O:nw X.K x C) (Mq: ∀ea,sC (X.gE (.ref ea)) (b₀::iT) ts) (r:Ii X rest al) (kU:(x==("__debug__" :Str))=false:=by decide): Ii X (.ExceptHandler (some (.Name x np)) none (b₀::iT) sP::rest) ((C,asU ts)::al)
 | name {x n:Str} {i:Nat} {np sP:Pos} {b₀:Stmt} {iT:List Stmt} {C:Addr} {ts:TS} {rest:List ExceptHandler} {al:List (Addr× (Addr ->TS))} (hg:Gl X x) (O:nw X.K x C) (hN:X.N.Nodup) (hi:X.N[i]? =some n) (hk:X.env.kindOf n=some .local) (Mq: ∀ea,sC (X.gE (.ref ea)) (b₀::iT) ts) (r:Ii X rest al) (kU:(x==("__debug__" :Str))=false:=by decide): Ii X (.ExceptHandler (some (.Name x np)) (some n) (b₀::iT) sP::rest) ((C,asN i ts)::al)
def An (K:gg):cz (dw× (dw ->TS)) ->dw ->dw ->TS
 | [],_,_=>λ_ _ _=>False
 | (D,ts)::r,C,ea=>λE σ H=> ∃b,cg (W.kitOne K (.ref C) (.ref D)=some b) (b=true ->ts ea E σ H) (b=false ->An K r C ea E σ H)
section
variable {X:Cx}{ae:cz (dw×Obj)}{σ:St}{s':cL}
def zO {E0:XK}{ev:cG}{H1:Hp}{s1:cL}{D:jl}{hs:cz ExceptHandler}{al:cz (dw× (dw ->TS))}(oS:X.stack=X.env::X.outer)(zF:X.env.frame=some X.env.locals) (I:Inv X ae σ H1 s1) (fl:gv X.prog X.w X.stack H1 s1 E0 ev s') (ph:Ii X hs al) (k: ∀cls d H',E0 cls d H' -> ∃C,cls= .ref C /\ ∀ea,H' ea=none ->aS H1 (bU H' ea (.ext (fi ea C))) ->An X.K al C ea D σ (bU H' ea (.ext (fi ea C)))): wpAny (model X.prog X.w) X.A (noteFrame ev X.env) (λ_ s₂=>wpAny (model X.prog X.w) X.A (setFlight ev none) (λ_ s₃=>wpAny (model X.prog X.w) X.A (handleBy ev X.env hs) (SP X ae D) X.xe s₃) X.xe s₂) X.xe s':=by
 let⟨ea,cls,a0,B,H2,rfl,os,bare,fl,b0,sR,un,kb,kt,hE⟩:=fl;let⟨C,rfl,kk⟩:=k _ _ _ hE;exact wpAny_looks_onW (by rw[I.ok.frames,oS]) zF (oS▸fl) λh₄ Go Qe=> ?_;exact wpAny_landsW Go λh₅ HX Qd=> ?_;rw[<- oS] at HX;let⟨I5,W'⟩:=gi I os bare fl b0 sR un kb kt HX (Qe.trans Qd) (tk:=s'.toks);let⟨ob,S_,Gf⟩:=HX.there;have key:=kk ea sR W';clear kk k;have matched: ∀ {A:hV} {b:Bool} {x:Str} {D':dw} {Q:Bool ->cL ->Prop} {E:cG ->cL ->Prop},nw X.K x D' ->W.kitOne X.K (.ref C) (.ref D')=some b ->Q b {s' with heap:=h₅} ->wpAny (model X.prog X.w) A (excMatches (.ref ea) (.ref D')) Q E {s' with heap:=h₅}:=λ{A b x D' Q E} O hk hq=>by
  have O':=l6 I.ok.mod O.ns O.exc;by_cases Tv:C=D';subst Tv;have hb:b=true:=by unfold W.kitOne at hk;rw[aj (beq_self_eq_true _)] at hk;show(aW hk).symm
  let⟨bm,N,nm,qn,bs,hdct,sn,sub,ab,col,dd,k0,k1,k2,k3,k5,mN,hC,Kg,Yx,TL⟩:=(O'.keeps I5.bk).obj;subst hb;show wpAny_excMatches_sub_self hC S_ Gf (TL.hasType (by decide+kernel)) hq;show(Bp (M:=model X.prog X.w) I5.qU O.k Tv S_ Gf hk).here hq
 induction ph with
 | nil=>show key.elim
 | @cons x np sP b₀ iT D' ts rest al' hg O Mq r kU ih=>
  let⟨b,hk,ht,hf⟩:=key;have O':=l6 I.ok.mod O.ns O.exc;exact wpAny_handleBy_cons (codeAny_handlers_test (vD I5 hg O'.bound ?_ kU)) (by intro q;cases q);exact matched O hk ?_;cases b with
  | false=>show ih (hf rfl)
  | true=>
   exact codeAny_handlers_suite ?_;exact PyProof.Rows.lands_againW HX λh₆ TM Ri=> ?_;let⟨I6,ts⟩:=gi I os bare fl b0 sR un kb kt TM ((Qe.trans Qd).trans Ri) (tk:=s'.toks);exact a9 (Mq ea ae _ σ _ D (I6.gE (.ref ea)) (ht rfl)) (λf s8 h8=> ?_) λ_ _ z=>z.elim;cases f with
   | next=>let⟨σ',H3,I8,q⟩:=h8;show#[_,_,I8.iF I.ok,q]
   | brk=>let⟨σ',H3,I8,q⟩:=h8;show#[_,_,I8.iF I.ok,q]
   | cont=>let⟨σ',H3,I8,q⟩:=h8;show#[_,_,I8.iF I.ok,q]
   | ret u=>let⟨v,σ',H3,I8,r,q⟩:=h8;show#[v,_,_,I8.iF I.ok,r,q]
 | @name x n i np sP b₀ iT D' ts rest al' hg O hN hi sx Mq r kU ih=>
  let⟨b,hk,ht,hf⟩:=key;have O':=l6 I.ok.mod O.ns O.exc;exact wpAny_handleBy_cons (codeAny_handlers_test (vD I5 hg O'.bound ?_ kU)) (by intro q;cases q);exact matched O hk ?_;cases b with
  | false=>show ih (hf rfl)
  | true=>
   exact codeAny_handlers_suite_as ?_;exact PyProof.Rows.lands_againW HX λh₆ TM Ri=> ?_;let⟨I6,ts⟩:=gi I os bare fl b0 sR un kb kt TM ((Qe.trans Qd).trans Ri) (tk:=s'.toks);exact lK (X:=X.gE (.ref ea)) (I6.gE (.ref ea)) hN hi (.inl sx) (v:= .ref ea) (by rfl) (λs7 I7=> ?_) (.inr sx);exact a9 (Mq ea ae s7 _ _ _ I7 (ht rfl)) (λf s8 h8=> ?_) λ_ _ z=>z.elim;have fin: ∀ {σ':St} {H3:Hp} {Q:Unit ->cL ->Prop},Inv (X.gE (.ref ea)) ae σ' H3 s8 ->(∀s9,Inv X ae (σ'.set i none) H3 s9 ->Q () s9) ->wpAny (model X.prog X.w) X.A (do bindName X.env n .none;unbindBehindTheSuite X.env n sP) Q X.xe s8:=λI8 hq=>Kh (I8.iF I.ok) hN hi sx hq;cases f with
   | next=>let⟨σ',H3,I8,q⟩:=h8;show fin I8 λs9 I9=>#[_,_,I9,q]
   | brk=>let⟨σ',H3,I8,q⟩:=h8;show fin I8 λs9 I9=>#[_,_,I9,q]
   | cont=>let⟨σ',H3,I8,q⟩:=h8;show fin I8 λs9 I9=>#[_,_,I9,q]
   | ret u=>let⟨v,σ',H3,I8,r,q⟩:=h8;show fin I8 λs9 I9=>#[v,_,_,I9,r,q]
def Lp (K:gg)(tb:QB)(al:cz (dw× (dw ->TS))):TS:=λD σ H=>tb D (λσ' H1 cls _ H'=> ∃C,cls= .ref C /\ ∀ea,H' ea=none ->aS H1 (bU H' ea (.ext (fi ea C))) ->An K al C ea D σ' (bU H' ea (.ext (fi ea C)))) σ H
def IZ {st:Stmt}{h₀:ExceptHandler}{hs:cz ExceptHandler}{pos:Pos}{tb:QB}{al:cz (dw× (dw ->TS))}(oS:X.stack=X.env::X.outer)(zF:X.env.frame=some X.env.locals)(hb:PRS X st tb)(ph:Ii X (h₀::hs) al): PS X (.Try [st] (h₀::hs) [] [] pos) (Lp X.K tb al):=by
 intro ae s σ H D I h;exact wpAny_Try_except (wpAny_execs_cons (a9 (hb ae s σ H D _ I h) (λf s1 q=> ?_) λev s1 ⟨σ',H1,s0,I1,fl⟩=>zO oS zF I1 fl ph λcls d H' z=>z));cases f with
 | next=>show wpAny_execs_nil (wpAny_execs_nil q)
 | brk=>show q
 | cont=>show q
 | ret u=>show q
end
end L2
namespace WL
open PySem L2
abbrev Ur:=b7 ->Mp ->WK ->WX ->Prop
abbrev Us:=dA ->(b7 ->WX) ->b7 ->Mp ->Prop
class IRE (K:PySem.W.Frag) (t:TR) (w:outParam Ur):Prop where
 imp: ∀ (ρ:b7) (M:Mp) (σ:L2.St) (H:Hp) (q:WK) (Q:VK) (e:WX) (E:XH),Ok K ρ M σ H ->w ρ M q e ->(∀x M' v H',q x M' ->aS H H' ->d6 K M' H' ->WR K H' x v ->Q v H') ->(∀C M' H1 H',e C M' ->aS H H1 ->d6 K M' H' ->E H1 (.ref C) none H') ->t σ H Q E
class IRS (K:PySem.W.Frag) (t:QB) (w:outParam Us):Prop where
 imp: ∀ (ρ:b7) (M:Mp) (σ:L2.St) (H:Hp) (D':dA) (D:jl) (e:b7 ->WX) (E:L2.St ->XH),Ok K ρ M σ H ->w D' e ρ M ->gR K H D' D ->(∀C ρ' M' σ' H1 H',e ρ' C M' ->aS H H1 ->BN K H1 ρ' σ' ->d6 K M' H' ->E σ' H1 (.ref C) none H') ->t D E σ H
section
variable {K:gg}
def wRC (p:e_)(a:WA):Ur:=λρ M q e=>a ρ M λxs M1=>p xs M1 q e
instance {p:e_}{t:TA}{a:WA} [ia:IA K t a]:IRE K (tRC (sw K p) t) (wRC p a) where
 imp:=λρ M σ H q Q e E o h k kE=>ia.imp ρ M σ H _ _ o h λx M1 v H1 h1 t1 m1 r1=>#[x,M1,q,e,by rw[cI];show r1,m1,h1,λy M4 v4 H4 h4 t4 m4 r4=>k y M4 v4 H4 h4 (t1.trans t4) m4 r4,λC M' H' h m=>kE C M' H1 H' h t1 m]
def wRD (a:Ur):Us:=λD e ρ M=>a ρ M (λ_ M1=>D.nx ρ M1) (e ρ)
instance {t:TR}{a:Ur} [ia:IRE K t a]:IRS K (tRD t) (wRD a) where
 imp:=λρ M σ H D' D e E o h ends kE=>ia.imp ρ M σ H _ _ (e ρ) (E σ) o h (λx M1 v H1 h1 t1 m1 r1=>ends.nx _ _ _ _ h1 t1 #[o.env.ts t1,m1]) λC M' H1 H' h t1 m=>kE C ρ M' σ H1 H' h t1 (o.env.ts t1) m
def M_ (i:Nat)(s:WS):dw ->WS:=λea D ρ M=>s (Bc i D) (ρ.set i (some (wr ea))) M
class IAs (K:PySem.W.Frag) (t:Addr ->TS) (w:outParam (Addr ->WS)):Prop where
 imp: ∀ (ea:Addr) (ρ:b7) (M:Mp) (σ:L2.St) (H:Hp) (D':dA) (D:jl),Ok K ρ M σ H ->w ea D' ρ M ->gR K H D' D ->t ea D σ H
instance {i:Nat}{t:TS}{s:WS} [is:IS K t s]:IAs K (asN i t) (M_ i s) where
 imp:=λea ρ M σ H D' D o h ends=>is.imp _ M _ H (Bc i D') (xE i D) #[o.env.set i WR.v,o.hp] h #[λρ' M5 σ' H5 h5 t5 o5=>ends.nx _ _ _ _ h5 t5 (o5.EC i),ends.rt,λρ' M5 σ' H5 h5 t5 o5=>ends.bk _ _ _ _ h5 t5 (o5.EC i),λρ' M5 σ' H5 h5 t5 o5=>ends.ct _ _ _ _ h5 t5 (o5.EC i)]
def oz (K:gg):cz (dw× (dw ->WS)) ->dw ->dw ->WS
 | [],_,_=>λ_ _ _=>False
 | (D,s)::r,C,ea=>λE ρ M=> ∃b,cg (W.kitOne K (.ref C) (.ref D)=some b) (b=true ->s ea E ρ M) (b=false ->oz K r C ea E ρ M)
class Wa (K:PySem.W.Frag) (t:List (Addr× (Addr ->TS))) (w:outParam (List (Addr× (Addr ->WS)))):Prop where
 imp: ∀ (C ea:Addr) (ρ:b7) (M:Mp) (σ:L2.St) (H:Hp) (D':dA) (D:jl),Ok K ρ M σ H ->oz K w C ea D' ρ M ->gR K H D' D ->An K t C ea D σ H
instance:Wa K [] [] where
 imp:=λ_ _ _ _ _ _ _ _ _ h _=>h.elim
instance {D:dw}{t:dw ->TS}{s:dw ->WS}{r:cz (dw× (dw ->TS))}{r':cz (dw× (dw ->WS))} [is:IAs K t s] [ir:Wa K r r']:Wa K ((D,t)::r) ((D,s)::r') where
 imp:=λC ea ρ M σ H D' D o ⟨b,hk,h1,h2⟩ e=>#[b,hk,λhb=>is.imp ea ρ M σ H D' D o (h1 hb) e,λhb=>ir.imp C ea ρ M σ H D' D o (h2 hb) e]
theorem PD {D C ea:dw}{s:dw ->WS}{r:cz (dw× (dw ->WS))}{E:dA}{ρ:b7}{M:Mp}(hk:W.kitOne K (.ref C) (.ref D)=some true)(h:s ea E ρ M):oz K ((D,s)::r) C ea E ρ M:=#[true, .mk hk (λ_=>h) λz=>nomatch z]
theorem PF {D C ea:dw}{s:dw ->WS}{r:cz (dw× (dw ->WS))}{E:dA}{ρ:b7}{M:Mp}(hk:W.kitOne K (.ref C) (.ref D)=some false)(h:oz K r C ea E ρ M):oz K ((D,s)::r) C ea E ρ M:=#[false, .mk hk (λz=>nomatch z) λ_=>h]
theorem Hh {C ea:dw}{s:dw ->WS}{r:cz (dw× (dw ->WS))}{E:dA}{ρ:b7}{M:Mp}(h:s ea E ρ M):oz K ((C,s)::r) C ea E ρ M:=PD (by unfold W.kitOne;rw[aj (beq_self_eq_true _)]) h
def La (K:gg)(b:Us)(al:cz (dw× (dw ->WS))):WS:=λD ρ M=>b D (λρ' C M'=> ∀ea,M' ea=none ->oz K al C ea D ρ' (um M' ea (.exc C))) ρ M
instance {tb:QB}{b:Us}{al:cz (dw× (dw ->TS))}{wl:cz (dw× (dw ->WS))} [ib:IRS K tb b] [il:Wa K al wl]:IS K (Lp K tb al) (La K b wl) where
 imp:=λρ M σ H D' D o h ends=>ib.imp ρ M σ H D' D _ _ o h ends λC ρ' M' σ' H1 H' h t1 en m=>#[C,rfl,λea sR tsm=>il.imp C ea ρ' (um M' ea (.exc C)) σ' _ D' D #[en.ts tsm,m.put (L2.dP.ts (bF sR)) bC] (h ea (m.fresh sR)) (ends.of t1 tsm)]
theorem QQ {a:Ur}{D:dA}{e:b7 ->WX}{ρ:b7}{M:Mp}:wRD a D e ρ M=a ρ M (λ_ M1=>D.nx ρ M1) (e ρ):=rfl
theorem QR {p:e_}{a:WA}{ρ:b7}{M:Mp}{q:WK}{e:WX}:wRC p a ρ M q e=a ρ M λxs M1=>BH p xs M1 q e:=rfl
theorem Ir {b:Us}{al:cz (dw× (dw ->WS))}{D:dA}{ρ:b7}{M:Mp}:La K b al D ρ M=b D (λρ' C M'=> ∀ea,M' ea=none ->oz K al C ea D ρ' (um M' ea (.exc C))) ρ M:=rfl
end
section
variable {K:gg}
theorem bW.ofStrs {H:Hp}: ∀ {ss:cz Str},bW K H (ss.map ws) (ss.map V.str)
 | []=> .nil
 | n::r=>bW.cons WR.v bW.ofStrs
end
end WL
namespace WQ
open PySem L2 WL WP PySem.W.KIN PySem.NumText PyProof.Rows
theorem qw (x:Str)(l u:cT Int):Txt.slice x l u=StrLaws.sliceText x l u:=rfl
theorem p9 (x:Str):x.cps.toList.length=x.length:=bT
end WQ
namespace WQ
open PySem L2 WL WP PySem.W.KIN PySem.NumText PyProof.Rows Builtin.Str
def BM (a b:Str):(a++b).cps.toList=a.cps.toList++b.cps.toList:=by rw[PySem.Str.cps_append,bB]
def qY (len a b:Nat):strSliceIndices (some (a:Int)) (some (b:Int)) 1 len=strSliceIndices (some ((min a len:Nat):Int)) (some ((min b len:Nat):Int)) 1 len:=by
 have e: ∀a:Nat,max (0:Int) (min (a:Int) (len:Int))=max (0:Int) (min ((min a len:Nat):Int) (len:Int)):=λa=>by omega
 have n: ∀a:Nat,¬((a:Int) <0):=λa=>by omega
 have e1:=e a;have e2:=e b;simp![strSliceIndices,ah (n _)];rw[aj ⋯,aj ⋯,aj ⋯,aj ⋯,e1,e2]
def Ez (x:Str){a b:Nat}(h:a<=b):(Txt.slice x (some (a:Int)) (some (b:Int))).cps.toList=(x.cps.toList.drop a).take (b - a):=by
 have e:Txt.slice x (some (a:Int)) (some (b:Int))=StrLaws.sliceText x (some ((min a x.length:Nat):Int)) (some ((min b x.length:Nat):Int)):=by rw[qw];unfold StrLaws.sliceText;rw[qY x.length a b]
 rw[e,StrLaws.sliceText_nat x (by omega) (by omega)];change((x.cps.toList.drop (min a x.length)).take (min b x.length - min a x.length))=_;have hl:=p9 x;by_cases ha:a<=x.length;rw[Nat.min_eq_left ha];by_cases hb:b<=x.length;rw[Nat.min_eq_left hb];rw[Nat.min_eq_right (by omega),List.take_of_length_le (by rw[List.length_drop];omega),List.take_of_length_le (by rw[List.length_drop];omega)];rw[Nat.min_eq_right (by omega),List.drop_eq_nil_of_le (by omega),List.drop_eq_nil_of_le (by omega)];simp
def RL (x:Str)(b:Nat):(Txt.slice x none (some (b:Int))).cps.toList=x.cps.toList.take b:=by
 have e:Txt.slice x none (some (b:Int))=Txt.slice x (some ((0:Nat):Int)) (some (b:Int)):=by rw[qw,qw];unfold StrLaws.sliceText;rw[StrLaws.sliceIdx_none_lo];rfl
 rw[e,Ez x (cN _)];rfl
def RM (x:Str)(a:Nat):(Txt.slice x (some (a:Int)) none).cps.toList=x.cps.toList.drop a:=by
 have hl:=p9 x;have e:Txt.slice x (some (a:Int)) none=Txt.slice x (some (a:Int)) (some ((a+x.length:Nat):Int)):=by rw[qw,qw];unfold StrLaws.sliceText;rw[StrLaws.sliceIdx_none_hi,qY x.length a x.length,qY x.length a (a+x.length),Nat.min_self,Nat.min_eq_right (Nat.le_add_left ..)]
 rw[e,Ez x (by omega),List.take_of_length_le (by rw[List.length_drop];omega)]
end WQ
namespace WL
open PySem L2
section
variable {K:gg}
def DY:WM:=λx ys M q=>gs λa l i y=>PL (x=wr a) (ys= [wi i]) (M a=some (.lst l)) (0<=i) (i<1000) (l[i.toNat]? =some y) (q y (um M a (.lst (l.eraseIdx i.toNat))))
instance:IM K EO DY where
 imp :=by rintro x v ys us M H q Q m r1 r2 ⟨a,l,i,y,rfl,rfl,hl,h0,h1,hy,h⟩ k;cases r1.eq;let⟨u,rfl,r⟩:=r2.one;cases r.eq;let⟨vs,hv,rr⟩:=m a _ hl;let⟨u,hu,ru⟩:=rr.at hy;have gP:=(aB.mp hu).1;exact#[a,vs,i,i.toNat,u,rfl,rfl,hv,by omega,by omega,?_,hu,k _ _ _ _ h (jr hv) (m.putL hv ?_) (ru.ts (jr hv))];unfold seqIndex?;simp;omega;rw[List.eraseIdx_eq_take_drop_succ,List.eraseIdx_eq_take_drop_succ];show(rr.take _).append (rr.drop _)
theorem wz {a:dw}{l:cz W}{i:Int}{y:W}{M:Mp}{q:WK}(hl:M a=some (.lst l))(h0:0<=i)(h1:i<1000)(hy:l[i.toNat]? =some y)(h:q y (um M a (.lst (l.eraseIdx i.toNat)))):DY (wr a) [wi i] M q:=#[a,l,i,y,rfl,rfl,hl,h0,h1,hy,h]
end
end WL
namespace L2
open PySem PyProof.Rows PySem.Spec
section
variable {X:Cx}{op:cG ->cG ->Sem cG}{r1 r2:R2}
def R1 (r1 r2:R2):R2:=λx y H Q=>r1 x y H Q \/ r2 x y H Q
theorem N9 (h1:kB X op r1)(h2:kB X op r2):kB X op (R1 r1 r2):=λae s σ H x y v u Q I rx ry h=>h.elim (h1 ae s σ H x y v u Q I rx ry) (h2 ae s σ H x y v u Q I rx ry)
end
end L2
namespace WL
open PySem L2
def QS (a b:nB):nB:=λx y M q=>a x y M q \/ b x y M q
instance {K:gg}{r1 r2:R2}{a b:nB} [ia:IR K r1 a] [ib:IR K r2 b]:IR K (R1 r1 r2) (QS a b) where
 imp:=λx y v u M H q Q m r1 r2 h k=>h.elim (λh=> .inl (ia.imp x y v u M H q Q m r1 r2 h k)) λh=> .inr (ib.imp x y v u M H q Q m r1 r2 h k)
end WL
namespace WQ
open PySem L2 WL WP
def Kz (p:Int)(v w z:dw):cz (Str×W):=G4 p 0 [] v w z [] []
def XA:e9:=λxs M q=> ∃u:dw,cg (xs= [wr u]) (M u=some (.lst [])) (q (wi 0) M)
def Ss:e9:=λxs M q=> ∃u:dw,cg (xs= [wr u]) (M u=some (.lst [])) (q wn M)
def Sn:e9:=λxs M q=> ∃u:dw,cg (xs= [wr u,wi 0]) (M u=some (.lst [])) (∀ (v:dw) (M':Mp),M v=none ->Sm M M' ->M' v=some (.lst []) ->q (wr v) M')
def NY:e9:=λxs M q=>dY λ(p:Int) (u v:dw)=>cg (xs= [wi p,wr u,wr v]) (M v=some (.lst [])) (q (gd (0,[])) M)
def Js:e9:=λxs M q=>bX λ(p:Int) (u:dw)=>cg (xs= [wi p,wi 0,wr u]) (M u=some (.lst [])) (∀ (v:dw) (M':Mp),M v=none ->Sm M M' ->M' v=some (.lst []) ->q (.tup [.tup [],wr v]) M')
def Ji:e9:=λxs M q=>dY λ(p n:Int) (d:dw)=>cg (xs= [wi p,wr d,wi n]) (M d=some (.dK [])) (∀ (v:dw) (M':Mp),M v=none ->Sm M M' ->M' v=some (.lst []) ->q (wr v) M')
def Jk:e9:=λxs M q=>bX λ(p:Int) (pt:Pt)=>d9 (xs= [wi p,wi 0, .tup [],fO pt]) (0<p) (de p pt) (pt.length<=1000) (∀ (v:dw) (M':Mp),M v=none ->Sm M M' ->M' v=some (.lst []) ->q (.tup [fO pt,wr v]) M')
def NS:e9:=λxs M q=>bX λ(p:Int) (pt:Pt)=>d9 (xs= [wi p,wi 0, .tup [],fO pt]) (0<p) (de p pt) (pt.length<=1000) (q (fO pt) M)
def Pl (p:Int)(a:Rd):Prop:=cg (p=2 \/ p=3 \/ p=5 \/ p=7) (de p a.2) (a.2.length<=1000)
def Jo (C:dw):e9:=λxs M q=>Up λ(o dx:dw) (p:Int) (v w z:dw) (fs:cz (Str×W)) (a:Rd)=>d9 (xs= [wr o,gd (0,[]),gd a]) (M o=some (.ins C dx fs)) (fs=Kz p v w z) (Pl p a) (q (gd a) M)
def NR (C:dw):e9:=λxs M q=>Up λ(o dx:dw) (p:Int) (v w z:dw) (fs:cz (Str×W)) (a:Rd)=>d9 (xs= [wr o,gd a]) (M o=some (.ins C dx fs)) (fs=Kz p v w z) (Pl p a) (q (gd a) M)
def NW (C:dw):e9:=λxs M q=>Up λ(o dx:dw) (p:Int) (v w z:dw) (fs:cz (Str×W)) (a:Rd)=>oq (xs= [wr o,gd a]) (M o=some (.ins C dx fs)) (fs=Kz p v w z) (Pl p a) (a≠(0,[])) (q wn M)
def NZ (C:dw):e9:=λxs M q=>PK λ(o dx:dw) (p:Int) (v w z:dw)=>cg (xs= [wr o]) (M o=some (.ins C dx (Kz p v w z))) (q (.tup [wi 0,gd (0,[]), .tup []]) M)
def Jl (C:dw):e9:=λxs M q=>PK λ(o dx:dw) (p:Int) (v w z:dw)=>cg (xs= [wr o]) (M o=some (.ins C dx (Kz p v w z))) (q wn M)
def N5 (C:dw):e9:=λxs M q=>gs λ(o dx u:dw) (p:Int)=>oq (xs= [wr o,wi p,wr u]) (M o=some (.ins C dx [])) (M u=some (.lst [])) (o≠u) (p=2 \/ p=3 \/ p=5 \/ p=7) (∀ (M':Mp) (v w z:dw),M' o=some (.ins C dx (Kz p v w z)) ->(∀b ob,b≠o ->M b=some ob ->M' b=some ob) ->q wn M')
structure PZ (B C:Addr)(M:Mp)(b:Addr)(p:Int)(R:Rm)(T:Tm):Prop where
 bk:rN λla lu lh now pa=>bX λun he=>Bk B C M b la lu lh p now pa un he R T
 p4:p=2 \/ p=3 \/ p=5 \/ p=7
 em: ∀c t,cA T c=some t ->t= []
 rd: ∀n a,cA R n=some a ->Pl p a /\ a≠(0,[])
 sz:R.length<=10 /\ T.length<=10
def Jr (B C D X:dw):e_:=λxs M q e=>rN λ(b:dw) (p:Int) (R:Rm) (T:Tm) (c:Str)=>d9 (xs= [wr b,ws c]) (PZ B C M b p R T) (c.length<=100) (cA T c≠none -> ∀ (o dx v w z:dw) (M':Mp),Sm M M' ->M' o=some (.ins D dx (Kz p v w z)) ->q (wr o) M') (cA T c=none ->e X M)
def pQ1 (B C X:dw)(ans:W):e_:=λxs M q e=>rN λ(b:dw) (p:Int) (R:Rm) (T:Tm) (c:Str)=>d9 (xs= [wr b,ws c]) (PZ B C M b p R T) (c.length<=100) (cA T c≠none ->q ans M) (cA T c=none ->e X M)
def pQ2 (B C X Y:dw):e_:=λxs M q e=>PK λ(b:dw) (p:Int) (R:Rm) (T:Tm) (c n:Str)=>d9 (xs= [wr b,ws c,ws n]) (PZ B C M b p R T) (c.length<=100 /\ n.length<=100) (cA T c≠none ->cA R n≠none -> ∀v,q v M) (cg (cA T c=none ->e X M) (cA T c≠none ->cA R n=none ->e Y M) True)
def NQ (B C X:dw):e_:=λxs M q e=>PK λ(b:dw) (p:Int) (R:Rm) (T:Tm) (c n:Str)=>d9 (xs= [wr b,ws c,ws n]) (PZ B C M b p R T) (c.length<=100 /\ n.length<=100) (cA T c≠none ->cA T n≠none ->q (wb true) M) ((cA T c=none \/ cA T n=none) ->e X M)
inductive Rq where | ok | nr | nc
open Classical in
noncomputable def fG (R:Rm) (T:Tm) (k:Int) (c n:Str):Rq:=if 0<k /\ cA T c=none then .nc else if k=6 /\ cA T n=none then .nc else if(k=0 \/ k=4 \/ k=5) /\ cA R n=none then .nr else .ok
def N7 (B C X Y:dw):e_:=λxs M q e=>XE7 λ(b:dw) (p:Int) (R:Rm) (T:Tm) (k:Int) (c n:Str)=>PL (xs= [wr b,wi k,ws c,ws n]) (PZ B C M b p R T) (c.length<=100 /\ n.length<=100) (0<=k /\ k<7) (fG R T k c n= .ok -> ∀ (v:W) (M':Mp),Sm M M' ->q v M') (fG R T k c n= .nc ->e X M) (fG R T k c n= .nr ->e Y M)
def qW:Rq ->W
 | .ok=>ws (Str.ofString "answer") | .nr=> .tup [ws (Str.ofString "NoRound"),wb true,wb false] | .nc=> .tup [ws (Str.ofString "NoCrew"),wb true,wb false]
def Jj (B C:dw):e9:=λxs M q=>XE7 λ(b:dw) (p:Int) (R:Rm) (T:Tm) (k:Int) (c n:Str)=>d9 (xs= [wr b,wi k,ws c,ws n]) (PZ B C M b p R T) (c.length<=100 /\ n.length<=100) (0<=k /\ k<7) (q (qW (fG R T k c n)) M)
open Classical in
noncomputable def sT (k:Int) (x y:Bool):Rq:=if 0<k /\ x=false then .nc else if k=6 /\ y=false then .nc else if(k=0 \/ k=4 \/ k=5) /\ y=false then .nr else .ok
def N4:e9:=λxs M q=>dY λ(k:Int) (x y:Bool)=>cg (xs= [wi k,wb x,wb y]) (0<=k /\ k<7) (q (qW (sT k x y)) M)
def J6 (k:Int):DJ (.int k) [.int 0, .int 4, .int 5]=decide (k=0 \/ k=4 \/ k=5):=by
 change(yI (.int 0) (.int k) || (yI (.int 4) (.int k) || (yI (.int 5) (.int k) || false)))=_;have e: ∀y:Int,yI (.int y) (.int k)=true↔k=y:=λy=>by simp[yI];show eq_comm
 rw[Bool.or_false,Bool.eq_iff_iff,Bool.or_eq_true,Bool.or_eq_true,decide_eq_true_eq,e,e,e]
def GR {R:Rm}{T:Tm}{k:Int}{c n:Str}{x y:Bool}(hx:x=true↔cA T c≠none)(hy:y=true↔(if k=6 then cA T n≠none else cA R n≠none)):sT k x y=fG R T k c n:=by
 unfold sT fG;have HQ:x=false↔cA T c=none:=by rw[<- Bool.not_eq_true,hx];simp
 by_cases h1:0<k /\ cA T c=none;rw[aj h1,aj #[h1.1,HQ.mpr h1.2]];have g1:¬(0<k /\ x=false):=λz=>h1 #[z.1,HQ.mp z.2];rw[ah h1,ah g1];by_cases h6:k=6;rw[aj h6] at hy;have OJ:y=false↔cA T n=none:=by rw[<- Bool.not_eq_true,hy];simp
 by_cases h2:k=6 /\ cA T n=none;rw[aj h2,aj #[h6,OJ.mpr h2.2]];have g2:¬(k=6 /\ y=false):=λz=>h2 #[z.1,OJ.mp z.2];rw[ah h2,ah g2,ah (by omega),ah (by omega)];rw[ah h6] at hy;have OJ:y=false↔cA R n=none:=by rw[<- Bool.not_eq_true,hy];simp
 have g2:¬(k=6 /\ y=false):=λz=>h6 z.1;have g3:¬(k=6 /\ cA T n=none):=λz=>h6 z.1;rw[ah g2,ah g3];by_cases h3:(k=0 \/ k=4 \/ k=5) /\ cA R n=none;rw[aj h3,aj #[h3.1,OJ.mpr h3.2]];have g4:¬((k=0 \/ k=4 \/ k=5) /\ y=false):=λz=>h3 #[z.1,OJ.mp z.2];rw[ah h3,ah g4]
end WQ
namespace L2
open PySem PyProof.Rows PySem.Spec PySem.Builtin PySem.Builtin.Dict
section
variable {X:Cx}
theorem lJ: ∀ {ss:cz Str} {its:cz cG},bK (ss.map V.str) its ->StrsAre its ss
 | [],its,r=>by cases r;show .nil
 | n ::ss,its,r=>by
  let⟨v,vs,rfl,h1,h2⟩: ∃v vs,its=v::vs /\ RelV (.str n) v /\ bK (ss.map V.str) vs:=by
   cases r with
   | cons h1 h2=>show#[_,_,rfl,h1,h2]
  let⟨t,rfl⟩:=h1;show .cons n t (lJ h2)
def EM (K:gg):cz V ->Hp ->VK ->Prop:=λxs H Q=>bX λ(a:dw) (ks:cz Str)=>cg (xs= [.ref a]) (fh K H a (ks.map V.str)) (∀ (p:dw) (ns:cz Str),H p=none ->ns.Perm ks ->ns.Pairwise (λx y=>¬y.cps.toList<x.cps.toList) ->Q (.ref p) (bU H p (.lst (ns.map V.str))))
def rK:dU X (.builtin "sorted") (EM X.K):=by
 intro ae s σ H xs us Q I r h;let⟨a,ks,rfl,hs,q⟩:=h;let⟨u,rfl,ru⟩:=vals1 r;cases ru;let⟨its,rv,ht,hz⟩:=I.list hs;have hI:StrsAre its ks:=lJ rv;have hl:its.length=ks.length:=by have:=rv.length;rw[ao] at this;show this.symm
 rw[ao] at hz;exact Calls.call_function_entry kind_sorted plain_sorted entry_sorted (args_sorted1 _) ?_;unfold Builtin.«sorted»;exact af (m:=checkCount "sorted" 1 1 _) (aC ?_);let⟨o,ho,hc,n,hd⟩:=ht.isList;exact af (wpAny_collect_seq a (.inl rfl) ho hc hd (λh' O3=> ?_) (by simp![aF];lia));simp![List.toList_toArray];exact af (wpAny_newList ?_ (by rw[hl];show hz));have ho:(h'.push (seqObj "list" its.toArray 0)).get? h'.objs.size=some (seqObj "list" its.toArray 0):=aJ _ rfl;exact af (wpAny_holding (wpAny_call_entry slot_list_sort #[_,ho,rfl] entry_list_sort (TS.tM (s:= {s with heap:=h'.push (seqObj "list" its.toArray 0)}) ho hI (by rw[hl];show hz) λout DH a1 a2 a3=>#[_,rfl,?_]) (args_list_sort _)));let⟨ee,Gq⟩:=sortedHeap_at (out:=out) ho;have I':Inv X ae σ H {s with heap:=h'}:=I.kept (t':=s.toks) O3;exact aC #[_,rfl, .ref h'.objs.size,_,I'.laid (t':=s.toks) (o:= .lst (DH.map V.str)) (λb o hb=> ?_) (ak _) ?_,rfl,q _ DH (I'.b0.fresh (ak _)) a2 a3];have gP:b<h'.objs.size:=ax hb;rw[sortedHeap_old (aN gP) (by rw[Heap.size_push];show Nat.lt_succ_of_lt gP)];show ai _ hb;exact#[?_,out.toList,ee,iq a1, ⇑Gq];rw[ao,a2.length_eq];show hz
end
end L2
namespace WL
open PySem L2
section
variable {K:gg}
def MQ:yi:=λxs M q=>bX λ(a:dw) (ks:cz Str)=>cg (xs= [wr a]) (M a=some (.lst (ks.map ws))) (∀ (p:dw) (ns:cz Str),M p=none ->ns.Perm ks ->ns.Pairwise (λx y=>¬y.cps.toList<x.cps.toList) ->q (wr p) (um M p (.lst (ns.map ws))))
instance:IC K (EM K) MQ where
 imp:=by rintro xs v M H q Q m r1 ⟨a,ks,rfl,hl,h⟩ k;let⟨v,rfl,r⟩:=r1.one;cases r.eq;let⟨vs,hv,rr⟩:=m a _ hl;cases rr.strs;show#[a,ks,rfl,fh.of hv,λp ns hp h1 h2=>k _ _ _ _ (h p ns (m.fresh hp) h1 h2) (L2.dP.ts (bF hp)) (m.sN hp bW.ofStrs) WR.v]
end
end WL
namespace WQ
open PySem L2 WL WP
def AT {i:Int}(h0:0<=i)(h1:i<26):kZ Ij.cps.toList i=some (97+i.toNat):=by
 have h: ∀j:Nat,j<26 ->Ij.cps.toList[j]? =some (97+j):=by decide+kernel
 show qh h0 (h i.toNat (by omega))
def Eg (c:Nat){n:Nat}(h:n=1 \/ n=2):(dM ⟨#[c]⟩ n).cps.toList=List.replicate n c:=by obtain rfl | rfl:=h;unfold dM;rfl;unfold dM;rfl
def DM (c:Nat):Prop:=97<=c /\ c<=122
def JB {c:Nat}(h:DM c):JC ⟨#[c]⟩ Ij=true:=by
 unfold JC;rw[StrLaws.found_one];have: ∀j:Nat,j<26 ->(97+j)∈Ij.cps.toList:=by decide+kernel
 have h2:=this (c - 97) (by unfold DM at h;omega);rw[show 97+(c - 97)=c by unfold DM at h;omega] at h2;simpa using h2
def Ct {n:Str}(h: ∀c∈n.cps.toList,DM c)(h1:1<=n.length)(h2:n.length<=12):dc n=true:=by unfold dc;rw[b_ h1,b_ h2,Bool.true_and,Bool.true_and,List.all_eq_true];intro s hs;unfold EA at hs;let⟨c,hc,rfl⟩:=List.mem_map.mp hs;show JB (h c hc)
def UA (cu:Nat)(yF:Int)(n:Str)(k:Nat):Prop:=n.cps.toList[cu]? =some (97+((yF+7*(k:Int)) % 26).toNat)
def Fm:e9:=λxs M q=>dY λ(d l:dw) (m:Int)=>d9 (xs= [wr d,wi m]) (Dr M d l) (0<=m) (m<=20) (∀ (u:dw) (ns:cz Str) (M':Mp),M' u=some (.lst (ns.map ws)) ->(ns.length:Int)=m ->(∀n∈ns,Nm n /\ dc n=true) ->ns.Nodup ->u≠d ->u≠l ->Dr M' d l ->q (wr u) M')
def JF {ns:cz Str}{cu:Nat}{yF:Int}(Y1:ns.length<=20)(h: ∀ (j:Nat) (n:Str),ns[j]? =some n ->UA cu yF n j):ns.Nodup:=by rw[List.nodup_iff_pairwise_ne,List.pairwise_iff_getElem];intro i j hi hj iL e;have h1:=h i _ (aw hi);have h2:=h j _ (aw hj);unfold UA at h1 h2;rw[e,h2] at h1;have:=aW h1;omega
theorem mm (s:Str): ∀l:cz Str,DJ (.str s) (l.map .str)=decide (s∈l)
 | []=>by simp[DJ]
 | a ::l=>by
  have ih:=mm s l;unfold DJ at ih ⊢;rw[az,List.any_cons,ih];by_cases h:s=a;subst h;simp[yI];have:yI (.str a) (.str s)=false:=by simp[yI];show λe=>h e.symm
  rw[this];simp[h]
def j6 {p:Int}(hp:p=2 \/ p=3 \/ p=5 \/ p=7):nV p (eP [("turn",1)]).2= [(0,1)] /\ (eP [("turn",1)]).1=0:=by obtain rfl | rfl | rfl | rfl:=hp <;>decide+kernel
def Ah {p:Int}(hp:p=2 \/ p=3 \/ p=5 \/ p=7):nV p (eP [("go",1)]).2= [] /\ (eP [("go",1)]).1=1:=by obtain rfl | rfl | rfl | rfl:=hp <;>decide+kernel
def CQ {ss:cz Str}(h: ∀x∈ss, ∃c,x=⟨#[c]⟩ /\ DM c): ∀c∈(Builtin.Str.glued (Str.ofString "") ss).cps.toList,DM c:=by
 have e0:(Str.ofString "").cps.toList= []:=by decide+kernel
 cases ss with
 | nil=>intro c hc;rw[ud] at hc;cases hc
 | cons x ss=>
  intro c hc;rw[ue,bh] at hc;have one: ∀y∈x::ss,c∈y.cps.toList ->DM c:=λy hy hcy=>by let⟨d,rfl,hd⟩:=h y hy;rw[aK.mp (show c∈ [d] from hcy)];show hd
  obtain hc | hc:=hc;show one x (by simp) hc;let⟨l,hl,hc⟩:=List.mem_flatten.mp hc;let⟨y,hy,rfl⟩:=List.mem_map.mp hl;rw[e0,List.nil_append] at hc;show one y (by simp[hy]) hc
def AR {bo:Str}{cu yF:Int}{w k:Nat}(hb: ∀c∈bo.cps.toList,DM c)(hl:bo.length<=10)(c0:0<=cu)(c1:cu<=bo.length)(hw:w<2): dc (Txt.slice bo none (some cu)++dM ⟨#[97+((yF+7*(k:Int)) % 26).toNat]⟩ (1+w)++Txt.slice bo (some cu) none)=true /\ UA cu.toNat yF (Txt.slice bo none (some cu)++dM ⟨#[97+((yF+7*(k:Int)) % 26).toNat]⟩ (1+w)++Txt.slice bo (some cu) none) k:=by
 let⟨u,rfl⟩:=Int.eq_ofNat_of_zero_le c0;have e1:=RL bo u;have e2:=RM bo u;have e3:=Eg (97+((yF+7*(k:Int)) % 26).toNat) (n:=1+w) (by omega);have Th:=p9 bo;have e:(Txt.slice bo none (some (u:Int))++dM ⟨#[97+((yF+7*(k:Int)) % 26).toNat]⟩ (1+w)++Txt.slice bo (some (u:Int)) none).cps.toList=bo.cps.toList.take u++List.replicate (1+w) (97+((yF+7*(k:Int)) % 26).toNat)++bo.cps.toList.drop u:=by rw[BM,BM,e1,e2,e3]
 have hll:(Txt.slice bo none (some (u:Int))++dM ⟨#[97+((yF+7*(k:Int)) % 26).toNat]⟩ (1+w)++Txt.slice bo (some (u:Int)) none).length=bo.length+(1+w):=by rw[<- p9,e];simp![aV,bM,List.length_replicate,List.length_drop];omega
 exact#[Ct (λc hc=> ?_) (by rw[hll];omega) (by rw[hll];omega),?_];rw[e] at hc;obtain hc | hc:=bh.mp hc;obtain hc | hc:=bh.mp hc;show hb c (List.mem_of_mem_take hc);rw[(List.mem_replicate.mp hc).2];unfold DM;omega;show hb c (List.mem_of_mem_drop hc);unfold UA;rw[e,bz,aO (by rw[bM];omega),bM];rw[show((u:Int)).toNat - min u bo.cps.toList.length=0 by omega];rw[Nat.add_comm 1 w,List.replicate_succ];rfl
structure sB (B C:Addr)(M:Mp)(d l b la lu lh now:Addr)(p:Int)(pa un he:List Addr)(R:Rm)(T:Tm)(xs:List (Addr×List Str)):Prop where
 bk:Bk B C M b la lu lh p now pa un he R T
 dr:Dr M d l
 ap:Ap d la lu lh
 al:Ap l la lu lh
 Ig: ∀z∈xs,eZ (M z.1=some (.lst (z.2.map ws))) (z.1≠d) (z.1≠l) (Ap z.1 la lu lh)
 nd:(xs.map (·.1)).Nodup
section
variable {B C d l b la lu lh now:dw}{M M':Mp}{p:Int}{pa un he:cz dw}{R:Rm}{T:Tm}{xs:cz (dw×cz Str)}
theorem sB.sm (h:sB B C M d l b la lu lh now p pa un he R T xs)(s:Sm M M'):sB B C M' d l b la lu lh now p pa un he R T xs:=#[h.bk.sm s,MA h.dr s,h.ap,h.al,λz hz=>by let⟨h1,h2,h3,h4⟩:=h.Ig z hz;show#[s _ _ h1,h2,h3,h4],h.nd]
def sB.nb (h:sB B C M d l b la lu lh now p pa un he R T xs)(D:Dr M' d l)(n:NB d M M'):sB B C M' d l b la lu lh now p pa un he R T xs:=by let⟨x,hx⟩:=GV h.dr;show#[h.bk.fs (λa o e z=>by rw[n a z];show e) hx h.ap.a h.ap.u h.ap.h,D,h.ap,h.al,λz hz=>by let⟨h1,h2,h3,h4⟩:=h.Ig z hz;show#[by rw[n _ h2];show h1,h2,h3,h4],h.nd]
def sB.ls (h:sB B C M d l b la lu lh now p pa un he R T xs){u:dw}{ss:cz Str}(hm:(u,ss)∈xs):M u=some (.lst (ss.map ws)):=by let⟨h1,_⟩:=h.Ig _ hm;show h1
def sB.next {kx pg:dw}{R':Rm}{T':Tm}(h:sB B C M d l b la lu lh now p pa un he R T xs)(B':Bk B C M' b la kx lh p pg (pa++ [now]) [] he R' T')(F:Ds b la M M')(hu:M kx=none):sB B C M' d l b la kx lh pg p (pa++ [now]) [] he R' T' xs:=by let⟨x,hx⟩:=GV h.dr;let⟨y,hy⟩:=TZ h.dr;let⟨dx,hb⟩:=h.bk.ob;exact#[B',Pp h.dr F hb h.ap.a h.al.a,#[h.ap.a,(cR hx hu).symm,h.ap.h],#[h.al.a,(cR hy hu).symm,h.al.h],λz hz=> ?_,h.nd];let⟨h1,h2,h3,h4⟩:=h.Ig z hz;show#[F _ _ h1 (λe=>by rw[e,hb] at h1;cases h1) h4.a.symm,h2,h3,#[h4.a,(cR h1 hu).symm,h4.h]]
def sB.add {u:dw}{ss:cz Str}(h:sB B C M d l b la lu lh now p pa un he R T xs)(hu:M u=none):sB B C (um M u (.lst (ss.map ws))) d l b la lu lh now p pa un he R T ((u,ss)::xs):=by have h':=h.sm (bn (o:= .lst (ss.map ws)) hu);let⟨n1,n2⟩:=h.dr.ne hu;exact#[h'.bk,h'.dr,h.ap,h.al,λz hz=> ?_,?_];obtain rfl | hz:=aL.mp hz;show#[aq,n1,n2,#[cR h.bk.pa hu,cR h.bk.un hu,cR h.bk.he hu]];show h'.Ig z hz;rw[az,cY];exact#[λhm=> ?_,h.nd];let⟨z,hz,e⟩:=List.mem_map.mp hm;let⟨h1,_⟩:=h.Ig z hz;rw[e,hu] at h1;cases h1
theorem sB.perm {ys:cz (dw×cz Str)}(h:sB B C M d l b la lu lh now p pa un he R T xs)(hp:xs.Perm ys):sB B C M d l b la lu lh now p pa un he R T ys:=#[h.bk,h.dr,h.ap,h.al,λz hz=>h.Ig z (hp.mem_iff.mpr hz),(hp.map (·.1)).nodup_iff.mp h.nd]
def sB.set {u:dw}{ss ss':cz Str}(h:sB B C M d l b la lu lh now p pa un he R T ((u,ss)::xs)):sB B C (um M u (.lst (ss'.map ws))) d l b la lu lh now p pa un he R T ((u,ss')::xs):=by let⟨h1,h2,h3,h4⟩:=h.Ig (u,ss) (by simp);have F:Fs u M (um M u (.lst (ss'.map ws))):=Fs.self;exact#[h.bk.fs F h1 h4.a h4.u h4.h,h.dr.NE h2 h3,h.ap,h.al,λz hz=> ?_,h.nd];obtain rfl | hz:=aL.mp hz;show#[aq,h2,h3,h4];let⟨g1,g2,g3,g4⟩:=h.Ig z (cc _ hz);have hn:=h.nd;rw[az,cY] at hn;show#[by rw[aT (λe=>hn.1 (List.mem_map.mpr #[z,hz,e]))];show g1,g2,g3,g4]
structure pJ (p:Int)(R:Rm)(T:Tm):Prop where
 r: ∀z∈R,d9 (de p z.2.2) (z.2.2.length<=401) (z.2≠(0,[])) (pQ z.2 200 200=false) (dc z.1=true)
 t: ∀z∈T,z.2= [] /\ z.1.length<=100
 rn:(R.map (·.1)).Nodup
 tn:(T.map (·.1)).Nodup
 sz:R.length<=10 /\ T.length<=10
theorem pJ.rm (h:pJ p R T):Uv p R:=#[h.rn,by have:=h.sz.1;omega,λz hz=>by let⟨h1,h2,_,h4,_⟩:=h.r z hz;show#[h1,h2,h4]]
theorem pJ.tm (h:pJ p R T):Uu T:=#[h.tn,by have:=h.sz.2;omega,λz hz=>(h.t z hz).2,λz hz=>by rw[(h.t z hz).1];decide]
theorem pJ.bk (h:pJ p R T)(hp:p=2 \/ p=3 \/ p=5 \/ p=7)(hl:pa.length<=900):K' p R T pa:=#[hp,hl,h.rm,by have:=h.sz.2;omega]
def pJ.us (h:pJ p R T)(n:Str):wB T n=false:=by unfold wB;rw[List.any_eq_false];intro z hz;rw[(h.t z hz).1];simp[OH,DJ]
theorem pJ.bk0 (h:pJ p R T)(hp:p=2 \/ p=3 \/ p=5 \/ p=7)(hB:Bk B C M b la lu lh p now pa un he R T):PZ B C M b p R T:=#[#[la,lu,lh,now,pa,un,he,hB],hp,λc t hg=>by
 let⟨z,hz,_,rfl⟩:=vK hg;show(h.t z hz).1,λn a hg=>by
 let⟨z,hz,_,rfl⟩:=vK hg;let⟨h1,h2,h3,_,_⟩:=h.r z hz;show#[#[hp,h1,by omega],h3],h.sz]
def xf {α:Type}{R:cz (Str×α)}{n:Str}{a:α}(h:n∉R.map (·.1)):l4 R n a=R++ [(n,a)]:=by unfold l4;rw[ah];rw[Bool.not_eq_true,List.any_eq_false];intro z hz;show λe=>h (List.mem_map.mpr #[z,hz,of_decide_eq_true e])
def pJ.put (h:pJ p R T){n:Str}{a:Rd}(hn:dc n=true)(ha:de p a.2)(hl:a.2.length<=401)(h0:a≠(0,[]))(hf:pQ a 200 200=false)(hk:n∉R.map (·.1))(h9:R.length<=9):pJ p (R++ [(n,a)]) T:=by exact#[λz hz=> ?_,h.t,?_,h.tn,by simp;omega,h.sz.2];obtain hz | hz:=bh.mp hz;show h.r z hz;rw[aK.mp hz];show#[ha,hl,h0,hf,hn];rw[bA,List.nodup_append];show#[h.rn,by simp,λx hx y hy e=>hk (by simp at hy;rw[<- hy, <- e];show hx)]
def pJ.Sh (h:pJ p R T){c:Str}(hc:c.length<=100)(hk:c∉T.map (·.1))(h9:T.length<=9):pJ p R (T++ [(c,[])]):=by exact#[h.r,λz hz=> ?_,h.rn,?_,h.sz.1,by simp;omega];obtain hz | hz:=bh.mp hz;show h.t z hz;rw[aK.mp hz];show#[rfl,hc];rw[bA,List.nodup_append];show#[h.tn,by simp,λx hx y hy e=>hk (by simp at hy;rw[<- hy, <- e];show hx)]
theorem pJ.del (h:pJ p R T)(n:Str):pJ p (im R n) T:=#[λz hz=>h.r z (List.mem_filter.mp hz).1,h.t,h.rn.sublist (List.Sublist.map _ List.filter_sublist),h.tn,aH (Bs R n) h.sz.1,h.sz.2]
theorem pJ.adO (h:pJ p R T)(n:Str):pJ p R (im T n):=#[h.r,λz hz=>h.t z (List.mem_filter.mp hz).1,h.rn,h.tn.sublist (List.Sublist.map _ List.filter_sublist),h.sz.1,aH (Bs T n) h.sz.2]
def xS {α:Type}{l:cz (Str×α)}(h:(l.map (·.1)).Nodup){j:Nat}{n:Str}(hj:(l.map (·.1))[j]? =some n):(im l n).map (·.1)=(l.map (·.1)).eraseIdx j:=by
 induction l generalizing j with
 | nil=>simp at hj
 | cons z l ih=>
  rw[az,cY] at h;cases j with
  | zero=>
   simp at hj;subst hj;have:im l z.1=l:=by unfold im;rw[List.filter_eq_self];intro y hy;show b_ λe=>h.1 (List.mem_map.mpr #[y,hy,e])
   unfold im at this ⊢;rw[List.filter_cons_of_neg (by simp),this];rfl
  | succ j=>rw[az,List.getElem?_cons_succ] at hj;have jm:z.1≠n:=λe=>h.1 (by rw[e];show aY hj);have:=ih h.2 hj;unfold im at this ⊢;rw[List.filter_cons_of_pos ⇑jm,az,this];rfl
def d0 {α:Type}{l:cz (Str×α)}{n:Str}:cA l n≠none↔n∈l.map (·.1):=by
 symm;intro h;cases e:cA l n with
 | none=>show absurd e h
 | some a=>let⟨z,hz,rfl,_⟩:=vK e;show List.mem_map.mpr #[z,hz,rfl]
 intro h;let⟨z,hz,rfl⟩:=List.mem_map.mp h;let⟨a,ha⟩:=Kj hz;rw[ha];show λe=>nomatch e
def uQ {n:Str}{ds:cz (Str×Int)}{a:Rd}(hg:pJ p R T)(hn:dc n=true)(hd:lq ds=true)(ha:a=((eP ds).1,nV p (eP ds).2))(hf:pQ a 200 200=false)(hk:n∉R.map (·.1)):iZ p R T (.tell n ds)= .ok (R++ [(n,a)]):=by change(if dc n=false then Oc.bad .BadName else if lq ds=false then .bad .NoDeed else sM R T n ((eP ds).1,nV p (eP ds).2))=_;rw[<- ha,ah (by rw[hn];decide),ah (by rw[hd];decide)];unfold sM gK;rw[hg.us n,hf,xf hk,ah (by simp)]
def xH {c:Str}(hn:dc c=true)(hk:c∉T.map (·.1)):kO R T (.found c)= .ok (T++ [(c,[])]):=by
 have:cA T c=none:=by
  cases e:cA T c with
  | none=>rfl
  | some a=>show absurd (d0.mp (by rw[e];show λz=>nomatch z)) hk
 change(if dc c=false then Oc.bad .BadName else match cA T c with | some _=> .bad .Taken | none=> .ok (l4 T c []))=_;rw[ah (by rw[hn];decide),this,xf hk]
def Ku {n:Str}(hg:pJ p R T)(hk:n∈R.map (·.1)):iZ p R T (.drop n)= .ok (im R n):=by
 change(match cA R n with | none=>Oc.bad .NoRound | some _=>if wB T n=true then .bad .InUse else .ok (im R n))=_;cases e:cA R n with
 | none=>show absurd e (d0.mpr hk)
 | some a=>show ah (by rw[hg.us n];decide)
def zM {c:Str}(hk:c∈T.map (·.1)):kO R T (.disband c)= .ok (im T c):=by
 change(match cA T c with | none=>Oc.bad .NoCrew | some _=> .ok (im T c))=_;cases e:cA T c with
 | none=>show absurd e (d0.mpr hk)
 | some a=>rfl
end
def ul (l:cz Str)(j:Nat):(l.map ws).eraseIdx j=(l.eraseIdx j).map ws:=by rw[List.eraseIdx_eq_take_drop_succ,List.eraseIdx_eq_take_drop_succ,bA,List.map_take,List.map_drop]
def vZ (B C d l b la lh r5 r6:dw)(p:Int)(rs cs:cz Str)(ys:cz (dw×cz Str))(m:Nat)(M:Mp):Prop:=PK λ(lu now:dw) (pa un:cz dw) (R:Rm) (T:Tm)=>d9 (sB B C M d l b la lu lh now p pa un [] R T ((r5,rs)::(r6,cs)::ys)) (pJ p R T) (R.map (·.1)=rs) (T.map (·.1)=cs) (pa.length<=m)
section
variable {B C d l b la lh r5 r6:dw}{M M':Mp}{p:Int}{rs cs:cz Str}{ys:cz (dw×cz Str)}{m:Nat}
def vZ.nb (h:vZ B C d l b la lh r5 r6 p rs cs ys m M)(D:Dr M' d l)(n:NB d M M'):vZ B C d l b la lh r5 r6 p rs cs ys m M':=by let⟨lu,now,pa,un,R,T,q,g,e1,e2,h5⟩:=h;show#[lu,now,pa,un,R,T,q.nb D n,g,e1,e2,h5]
def vZ.sm (h:vZ B C d l b la lh r5 r6 p rs cs ys m M)(s:Sm M M'):vZ B C d l b la lh r5 r6 p rs cs ys m M':=by let⟨lu,now,pa,un,R,T,q,g,e1,e2,h5⟩:=h;show#[lu,now,pa,un,R,T,q.sm s,g,e1,e2,h5]
def vZ.add {u:dw}{ss:cz Str}(h:vZ B C d l b la lh r5 r6 p rs cs ys m M)(hu:M u=none):vZ B C d l b la lh r5 r6 p rs cs ((u,ss)::ys) m (um M u (.lst (ss.map ws))):=by let⟨lu,now,pa,un,R,T,q,g,e1,e2,h5⟩:=h;exact#[lu,now,pa,un,R,T,(q.add hu).perm ?_,g,e1,e2,h5];show(List.Perm.swap _ _ _).trans ((List.Perm.swap _ _ _).cons _)
def vZ.dr (h:vZ B C d l b la lh r5 r6 p rs cs ys m M):Dr M d l:=by let⟨lu,now,pa,un,R,T,q,_⟩:=h;show q.dr
def vZ.ls (h:vZ B C d l b la lh r5 r6 p rs cs ys m M){u:dw}{ss:cz Str}(hm:(u,ss)∈(r5,rs)::(r6,cs)::ys):M u=some (.lst (ss.map ws)):=by let⟨lu,now,pa,un,R,T,q,_⟩:=h;show q.ls hm
def vZ.ob (h:vZ B C d l b la lh r5 r6 p rs cs ys m M):dY λdx lu now=>M b=some (.ins B dx (dH p now la lu lh)):=by let⟨lu,now,pa,un,R,T,q,_⟩:=h;let⟨dx,hb⟩:=q.bk.ob;show#[dx,lu,now,hb]
end
def Sf (z:Rq){M:Mp}{q:WK}(h:q (wb false) M):QS QX MS (qW z) (qW z) M q:=by cases z;left;change QX (ws (Str.ofString "answer")) (ws (Str.ofString "answer")) M q;rw[QW];rw[show(!decide (Str.ofString "answer" =Str.ofString "answer"))=false by simp];show h;show .inr (FC (.inl rfl) (.inl rfl) (by simp[vO,sU]) rfl h);show .inr (FC (.inl rfl) (.inl rfl) (by simp[vO,sU]) rfl h)
def lv (l:cz Str):(l.map V.str).all i6=true:=by rw[List.all_map,List.all_eq_true];intro x _;rfl
def qM (l:cz Str):(l.map V.str).map W.v=l.map ws:=by rw[bw];rfl
end WQ
set_option synthInstance.maxSize 100000
set_option synthInstance.maxHeartbeats 0
open PySem L2 WL WP WQ EN PyProof.Rows
local macro_rules | `(tactic| simp? [$xs,*]) => do let a <- ("X3 adN XD ad3 Yb Yc aet Xw W9 Xa W_ X8 X7 Wr Wq Wp Wo Wn Wm Wl Wj Wi Wh UW UV UU UT US UR UQ UP UO UN UM UL UK UJ aeD aec ad' aeC aeh aeB aek aed aej QW UX WZ aeb Wu U7 aeg Q8 Wv U4 Ws Ww WC Wz P' Ye UZ aea ael U6 Wx W1 P_ MP aem Qc WU QL U2 U3 WN Qb Q6 Ve Vh Xn aen Xq Xp RV Xo RQ U9 W5 U' W3 W4 UY VF X_ XG VE U5 Wg Q7 U8 Xi WV WH WF aef aee WJ Vg Yf Qa RW Ya WB Wt P9 U0 Q5 VD aei QY uM Q_ QP".splitOn " ").toArray.mapM λs => `(Lean.Parser.Tactic.simpLemma| ↓ $(Lean.mkIdent s.toName):term); let b <- ("Ml JY L_ HM JX J0 HP JZ FQ HN L9 JU L8 HJ JT CD A2 CC zx A1 HI FO HH DI FN JW HL JV FP HK sl1 Xl sl3 sl4 sl8 sl0 List.map_cons List.map_nil List.length_cons List.length_nil Nat.zero_add List.cons_append List.nil_append List.set_cons_zero List.set_cons_succ aq gx Ul aez aey aex aer aeq aep Bool.not_true Bool.not_false List.getElem?_cons_zero List.getElem?_cons_succ Option.join_some and_self and_true true_and Option.getD_some Option.getD_none m8".splitOn " ").toArray.mapM λs => `(Lean.Parser.Tactic.simpLemma| $(Lean.mkIdent s.toName):term); `(tactic| try simp only [$a,*, $b,*, Nat.reduceAdd, Nat.reduceSub, List.reduceReplicate, $xs,*])
local macro_rules | `(tactic| dsimp? [$xs,*]) => `(tactic| (simp? [↓dj, $xs,*]; repeat (with_reducible refine eV ?_; simp? [↓dj, $xs,*])))
local macro_rules | `(tactic| trivial) => `(tactic| first | exact Or.inl rfl | exact Or.inr rfl)
local macro_rules | `(tactic| right) => `(tactic| decide +kernel)
local macro_rules | `(tactic| left) => `(tactic| (intro _ _ _ h; (repeat (cases h; rename_i h)); subst_vars; rfl))
set_option hygiene false
local macro_rules | `(tactic| exists $a, $n, $c) => `(tactic| (have nd : List.Nodup ($n : List Str) := (by decide +kernel); refine Vt (N := $n) $a ⟨rfl, rfl, rfl, nd, rfl, by decide +kernel, by decide +kernel⟩ (by left) λcdv A' outer s H E hr => ?_; refine ⟨_, $c, ?_⟩; (try dsimp only [dE]); refine ⟨_, inferInstance, ?_⟩))
set_option hygiene true
set_option hygiene false
local macro_rules | `($a ∩ $b) => `(cW (show QD _ (NC K) from cD) $a $b (λ_ _ => rfl))
local macro_rules | `($a ∪ $b) => `(cW (show QD _ (NA K) from iK) $a $b (λ_ _ => rfl))
local macro_rules | `($i \ $e) => `(NF (i := $i) nd rfl (by trivial) $e)
set_option hygiene true
namespace dL
open PySem L2 WL WP WQ EN PyProof.Rows
nonrec def top (i:Nat):Stmt:=PySem.Challenge.pw_duskround_k48_questions_refused.main.body.getD i (.Pass #[0,0,0,0])
nonrec abbrev y0:Stmt:=top 13
nonrec abbrev Ax:Stmt:=top 14
nonrec abbrev uZ:Stmt:=top 15
nonrec abbrev uX:Stmt:=top 16
nonrec abbrev uY:Stmt:=top 18
nonrec abbrev y3:Stmt:=top 19
nonrec abbrev w5:Stmt:=top 20
nonrec abbrev qz:Stmt:=top 21
nonrec abbrev f9:Stmt:=top 22
nonrec abbrev gI:Stmt:=top 23
nonrec abbrev tR:Stmt:=top 25
nonrec abbrev LC:Stmt:=di (top 27) 0
nonrec abbrev Ay:Stmt:=di (top 28) 0
nonrec abbrev w6:Stmt:=top 29
nonrec abbrev ju:Stmt:=top 30
nonrec abbrev tS:Stmt:=top 31
nonrec abbrev kI:Stmt:=top 33
nonrec abbrev oF:Stmt:=top 34
nonrec abbrev gz:Stmt:=top 35
nonrec abbrev LA:Stmt:=top 36
nonrec abbrev Av:Stmt:=top 37
nonrec abbrev iz:Stmt:=top 38
nonrec abbrev Au:Stmt:=top 39
nonrec abbrev tP:Stmt:=top 40
nonrec abbrev tO:Stmt:=top 41
nonrec abbrev tQ:Stmt:=top 42
nonrec abbrev pZ:Stmt:=top 43
nonrec abbrev oE:Stmt:=top 52
nonrec abbrev iX:Stmt:=top 53
nonrec abbrev f':Stmt:=top 54
nonrec abbrev wX:Stmt:=top 55
nonrec abbrev qy:Stmt:=top 56
nonrec abbrev u9:Stmt:=di (top 57) 0
nonrec abbrev oJ:Stmt:=di (top 57) 1
nonrec abbrev oI:Stmt:=di (top 57) 2
nonrec abbrev lV:Stmt:=di (top 57) 3
nonrec abbrev oG:Stmt:=di (top 57) 5
nonrec abbrev oH:Stmt:=di (top 57) 6
nonrec abbrev lU:Stmt:=di (top 57) 7
nonrec abbrev fU:Stmt:=top 63
nonrec abbrev lT:Stmt:=top 64
nonrec abbrev tN:Stmt:=top 65
nonrec abbrev EF:Stmt:=di (top 66) 0
nonrec abbrev EG:Stmt:=di (top 67) 0
nonrec abbrev jv:Stmt:=di (top 67) 2
nonrec abbrev lg:Stmt:=di (top 67) 3
nonrec abbrev iY:Stmt:=di (top 67) 4
nonrec abbrev fN:Stmt:=di (top 67) 5
nonrec abbrev jx:Stmt:=di (top 67) 6
nonrec abbrev jw:Stmt:=di (top 67) 7
nonrec abbrev jC:Stmt:=di (top 67) 11
nonrec abbrev iB:Stmt:=di (top 67) 12
nonrec abbrev gb:Stmt:=di (top 67) 13
nonrec abbrev lW:Stmt:=di (top 67) 21
nonrec abbrev lX:Stmt:=di (top 67) 22
nonrec abbrev fM:Stmt:=di (top 67) 23
nonrec abbrev f_:Stmt:=di (top 67) 24
nonrec abbrev eQ:Stmt:=di (top 67) 25
nonrec abbrev jB:Stmt:=di (top 67) 26
nonrec abbrev iA:Stmt:=di (top 67) 27
nonrec abbrev jz:Stmt:=di (top 67) 28
nonrec abbrev jA:Stmt:=di (top 67) 29
nonrec abbrev jy:Stmt:=di (top 67) 30
nonrec abbrev nM:Stmt:=top 69
nonrec abbrev wZ:Stmt:=top 70
nonrec abbrev Lz:Stmt:=top 71
nonrec abbrev nL:Stmt:=top 72
nonrec abbrev u8:Stmt:=top 73
nonrec abbrev wY:Stmt:=top 74
nonrec abbrev Aw:Stmt:=top 75
nonrec abbrev EE:Stmt:=top 76
set_option genInjectivity false in
set_option genSizeOf false in
structure Wd where
 Gz:Addr
 GY:FuncData
 Bn:Addr
 BD:FuncData
 Bi:Addr
 Bz:FuncData
 Bd:Addr
 Bw:FuncData
 Bh:Addr
 By:FuncData
 GA:Addr
 GZ:FuncData
 xL:Addr
 xW:FuncData
 re:Addr
 rE:FuncData
 gk:Addr
 gm:FuncData
 kW:Addr
 kX:FuncData
 CW:Addr
 C6:FuncData
 Mz:Addr
 MD:FuncData
 Kp:Addr
 Ky:FuncData
 GB:Addr
 G0:FuncData
 rb:Addr
 rD:FuncData
 CY:Addr
 C7:FuncData
 sS:Addr
 sV:FuncData
 xM:Addr
 xX:FuncData
 mE:Addr
 mR:FuncData
 TQ:Addr
 T8:FuncData
 Ko:Addr
 Kw:FuncData
 mF:Addr
 mS:FuncData
 Be:Addr
 Bx:FuncData
 ui:Addr
 ur:FuncData
 CU:Addr
 C3:FuncData
 CV:Addr
 C5:FuncData
 Bm:Addr
 BC:FuncData
 oT:Addr
 pi:FuncData
 i7:Addr
 ja:FuncData
 gl:Addr
 gp:FuncData
 xI:Addr
 xT:FuncData
 ra:Addr
 rC:FuncData
 GF:Addr
 G2:FuncData
 oX:Addr
 px:FuncData
 oW:Addr
 pq:FuncData
 mI:Addr
 mV:FuncData
 oU:Addr
 pj:FuncData
 oV:Addr
 pk:FuncData
 mH:Addr
 mU:FuncData
 mG:Addr
 mT:FuncData
 mD:Addr
 mQ:FuncData
 uh:Addr
 uq:FuncData
 GC:Addr
 G1:FuncData
 GG:Addr
 G3:FuncData
 jP:Addr
 jU:FuncData
 rf:Addr
 rF:FuncData
 i9:Addr
 jd:FuncData
 i_:Addr
 je:FuncData
 oZ:Addr
 pz:FuncData
 oY:Addr
 py:FuncData
 pe:Addr
 pE:FuncData
 mL:Addr
 mY:FuncData
 jR:Addr
 jW:FuncData
 mK:Addr
 mX:FuncData
 mM:Addr
 mZ:FuncData
 i8:Addr
 jc:FuncData
 jQ:Addr
 jV:FuncData
 jS:Addr
 jX:FuncData
 pd:Addr
 pD:FuncData
 mJ:Addr
 mW:FuncData
 o_:Addr
 pB:FuncData
 pc:Addr
 pC:FuncData
 o0:Addr
 pA:FuncData
 uk:Addr
 uu:FuncData
 xK:Addr
 xV:FuncData
 My:Addr
 MC:FuncData
 uj:Addr
 ut:FuncData
 Bl:Addr
 BB:FuncData
 xJ:Addr
 xU:FuncData
 Bj:Addr
 BA:FuncData
 Mx:Addr
 MB:FuncData
 kj:Addr
 vV:Addr
 cC:Addr
 nj:Addr
 dn:Addr
 d8:Addr
 vU:Addr
 jZ:Addr
 kY:Addr
 ki:Addr
 bE:Addr
 bx:Addr
 aZ:Addr
structure eK (K:PySem.W.Frag)(mg:Str ->Option Value)(A:Wd):Prop where
 BL:mg "abs" =none
 Uk:mg "all" =none
 MG:mg "any" =none
 zT:mg "dict" =none
 pI:mg "enumerate" =none
 fY:mg "isinstance" =none
 yf:mg "len" =none
 om:mg "list" =none
 aew:mg "min" =none
 nk:mg "range" =none
 fI:mg "sorted" =none
 qg:mg "tuple" =none
 tidy:gu K mg "tidy" ["p","pairs"] y0 A.Gz A.GY
 added:gu K mg "added" ["p","one","other"] Ax A.Bn A.BD
 moved:gu K mg "moved" ["pattern","by"] uZ A.Bi A.Bz
 timed:gu K mg "timed" ["p","pattern","n"] uX A.Bd A.Bw
 still:gu K mg "still" [] uY A.Bh A.By
 gone:gu K mg "gone" ["p","deeds"] y3 A.GA A.GZ
 joined:gu K mg "joined" ["p","one","other"] w5 A.xL A.xW
 backward:gu K mg "backward" ["p","one"] qz A.re A.rE
 repeated:gu K mg "repeated" ["p","one","n"] f9 A.gk A.gm
 lies_within:gu K mg "lies_within" ["one","farthest_end","farthest_place"] gI A.kW A.kX
 inverse:gu K mg "inverse" ["p","setting"] tR A.CW A.C6
 Row:K9 K mg "Row" "Row.__init__" ["self","lamps","parts"] LC A.kY A.Mz A.MD
 Stair:K9 K mg "Stair" "Stair.__init__" ["self","row","first","length","foot"] Ay A.ki A.Kp A.Ky
 column:gu K mg "column" ["place","stride"] w6 A.GB A.G0
 first_column:gu K mg "first_column" ["places","stride"] ju A.rb A.rD
 heights:gu K mg "heights" ["places","stride","first"] tS A.CY A.C7
 add_shifted:gu K mg "add_shifted" ["p","held","others","by","n"] kI A.sS A.sV
 add_moved:gu K mg "add_moved" ["p","stride","row","other","shift","n"] oF A.xM A.xX
 too_high_or_low:gu K mg "too_high_or_low" ["found","length"] gz A.mE A.mR
 cut:gu K mg "cut" ["p","stride","row","stair"] LA A.TQ A.T8
 stood:gu K mg "stood" ["p","stride","row"] Av A.Ko A.Kw
 told_parts:gu K mg "told_parts" ["p","parts","n"] iz A.mF A.mS
 taken:gu K mg "taken" ["p","stride","stairs","pattern"] Au A.Be A.Bx
 rest_of:gu K mg "rest_of" ["p","stride","stairs","pattern"] tP A.ui A.ur
 take_in:gu K mg "take_in" ["p","stride","held","row"] tO A.CU A.C3
 lie_low:gu K mg "lie_low" ["p","stride","held"] tQ A.CV A.C5
 built:gu K mg "built" ["p","stride","patterns"] pZ A.Bm A.BC
 fits_crew:gu K mg "fits_crew" ["one"] oE A.oT A.pi
 check_members:gu K mg "check_members" ["members"] iX A.i7 A.ja
 greatest_divisor:gu K mg "greatest_divisor" ["ends"] f' A.gl A.gp
 row_to:gu K mg "row_to" ["ends","stride"] wX A.xI A.xT
 gone_row:gu K mg "gone_row" ["p","members","row"] qy A.ra A.rC
 Crew:K9 K mg "Crew" "Crew.__init__" ["self","p","members"] u9 A.bE A.GF A.G2
 uG:lG K "form" "Crew.form" ["self"] oJ A.bE A.oX A.px
 ou:lG K "laps" "Crew.laps" ["self","end"] oI A.bE A.oW A.pq
 lD:lG K "level" "Crew.level" ["self","lap","one"] lV A.bE A.mI A.mV
 uE:lG K "room" "Crew.room" ["self","one"] oG A.bE A.oU A.pj
 uF:lG K "made" "Crew.made" ["self","one"] oH A.bE A.oV A.pk
 rY:lG K "rooms" "Crew.rooms" ["self"] lU A.bE A.mH A.mU
 check_name:gu K mg "check_name" ["name"] fU A.mG A.mT
 with_thing:gu K mg "with_thing" ["things","name","thing"] lT A.mD A.mQ
 without:gu K mg "without" ["things","name"] tN A.uh A.uq
 Page:K9 K mg "Page" "Page.__init__" ["self","rounds","teams"] EF A.bx A.GC A.G1
 Book:K9 K mg "Book" "Book.__init__" ["self","p"] EG A.aZ A.GG A.G3
 eX:lG K "turn_to" "Book.turn_to" ["self","page"] jv A.aZ A.jP A.jU
 yE:lG K "put" "Book.put" ["self","name","one"] lg A.aZ A.rf A.rF
 k_:lG K "put_team" "Book.put_team" ["self","crew","team"] iY A.aZ A.i9 A.jd
 gS:lG K "enlisted" "Book.enlisted" ["self","name"] fN A.aZ A.i_ A.je
 kn:lG K "team" "Book.team" ["self","crew"] jx A.aZ A.oZ A.pz
 oy:lG K "tell" "Book.tell" ["self","name","deeds"] jw A.aZ A.oY A.py
 uK:lG K "drop" "Book.drop" ["self","name"] jC A.aZ A.pe A.pE
 lE:lG K "found" "Book.found" ["self","crew"] iB A.aZ A.mL A.mY
 nz:lG K "disband" "Book.disband" ["self","crew"] gb A.aZ A.jR A.jW
 sq:lG K "names" "Book.names" ["self"] lW A.aZ A.mK A.mX
 sr:lG K "crews" "Book.crews" ["self"] lX A.aZ A.mM A.mZ
 d_:lG K "round_of" "Book.round_of" ["self","name"] fM A.aZ A.i8 A.jc
 ny:lG K "members" "Book.members" ["self","crew"] f_ A.aZ A.jQ A.jV
 eY:lG K "crew_of" "Book.crew_of" ["self","crew"] eQ A.aZ A.jS A.jX
 ko:lG K "form" "Book.form" ["self","crew"] jB A.aZ A.pd A.pD
 r_:lG K "rooms" "Book.rooms" ["self","crew"] iA A.aZ A.mJ A.mW
 uI:lG K "room" "Book.room" ["self","crew","name"] jz A.aZ A.o_ A.pB
 uJ:lG K "made" "Book.made" ["self","crew","name"] jA A.aZ A.pc A.pC
 uH:lG K "same" "Book.same" ["self","crew","other"] jy A.aZ A.o0 A.pA
 AV:gu K mg "_law_begin" ["_law_script"] nM A.uk A.uu
 fm:gu K mg "_law_take" ["_law_draw","_law_many"] wZ A.xK A.xV
 l_p:gu K mg "_law_p" ["_law_draw"] Lz A.My A.MC
 AU:gu K mg "_law_names" ["_law_draw","_law_many"] nL A.uj A.ut
 L5:gu K mg "_law_ask" ["_law_book","_law_way","_law_crew","_law_name"] u8 A.Bl A.BB
 FI:gu K mg "_law_told" ["_law_book","_law_way","_law_crew","_law_name"] wY A.xJ A.xU
 L4:gu K mg "_law_due" ["_law_way","_law_crew_there","_law_name_there"] Aw A.Bj A.BA
 law:gu K mg "law" ["_law_script"] EE A.Mx A.MB
 n_Book_held:b8 K A.aZ "held"
 n_Book_now:b8 K A.aZ "now"
 n_Book_p:b8 K A.aZ "p"
 n_Book_past:b8 K A.aZ "past"
 n_Book_undone:b8 K A.aZ "undone"
 n_Crew_head:b8 K A.bE "head"
 n_Crew_makers:b8 K A.bE "makers"
 n_Crew_p:b8 K A.bE "p"
 n_Crew_rounds:b8 K A.bE "rounds"
 n_Crew_stairs:b8 K A.bE "stairs"
 n_Crew_stride:b8 K A.bE "stride"
 n_Crew_surplus:b8 K A.bE "surplus"
 n_Crew_way:b8 K A.bE "way"
 n_Page_rounds:b8 K A.bx "rounds"
 n_Page_teams:b8 K A.bx "teams"
 n_Row_lamps:b8 K A.kY "lamps"
 n_Row_parts:b8 K A.kY "parts"
 n_Stair_first:b8 K A.ki "first"
 n_Stair_foot:b8 K A.ki "foot"
 n_Stair_lamps:b8 K A.ki "lamps"
 n_Stair_length:b8 K A.ki "length"
 n_Stair_parts:b8 K A.ki "parts"
 lc: ∃t,mg "FARTHEST" =some (.int 200 t)
 qo: ∃t,mg "FARTHEST_END" =some (.int 8 t)
 nE: ∃t,mg "FARTHEST_PLACE" =some (.int 24 t)
 jp: ∃t,mg "LONGEST_NAME" =some (.int 12 t)
 qm: ∃t,mg "MOST_MEMBERS" =some (.int 6 t)
 BV: ∃t,mg "LETTERS" =some (.str "abcdefghijklmnopqrstuvwxyz" t)
 Ei:PM K mg "COUNTS" [2,3,5,7]
 Qq:mg "BadName" =some (.ref A.kj)
 VA:mg "InUse" =some (.ref A.vV)
 FF:mg "NoCrew" =some (.ref A.cC)
 SJ:mg "NoDeed" =some (.ref A.nj)
 Cv:mg "NoRound" =some (.ref A.dn)
 kS:mg "StreetError" =some (.ref A.d8)
 Vz:mg "Taken" =some (.ref A.vU)
 SI:mg "TooFar" =some (.ref A.jZ)
 BS:nw K "BadName" A.kj
 Il:nw K "InUse" A.vV
 lH:nw K "NoCrew" A.cC
 DN:nw K "NoDeed" A.nj
 j5:nw K "NoRound" A.dn
 Ik:nw K "Taken" A.vU
 wv:nw K "TooFar" A.jZ
 hZ:PySem.W.kitOne K (.ref A.cC) (.ref A.dn)=some false
 jO:PySem.W.kitOne K (.ref A.cC) (.ref A.d8)=some true
 n9:PySem.W.kitOne K (.ref A.dn) (.ref A.cC)=some false
 jh:PySem.W.kitOne K (.ref A.dn) (.ref A.d8)=some true
theorem wV:bR [] [] (aE uY):=#[rfl,rfl,rfl,by right,rfl,by right,by right]
theorem At:bR ["p","deeds","place","pairs","deed","word"] ["p","deeds"] (aE y3):=#[rfl,rfl,rfl,by right,rfl,by right,by right]
theorem gy:bR ["p","one","n","end","pattern","pairs"] ["p","one","n"] (aE f9):=#[rfl,rfl,rfl,by right,rfl,by right,by right]
theorem kF:bR ["name"] ["name"] (aE fU):=#[rfl,rfl,rfl,by right,rfl,by right,by right]
theorem oC:bR ["self","name","one"] ["self","name","one"] (aE lg):=#[rfl,rfl,rfl,by right,rfl,by right,by right]
theorem lN:bR ["self","crew"] ["self","crew"] (aE jx):=#[rfl,rfl,rfl,by right,rfl,by right,by right]
theorem lM:bR ["self","name","deeds"] ["self","name","deeds"] (aE jw):=#[rfl,rfl,rfl,by right,rfl,by right,by right]
theorem lS:bR ["self","name"] ["self","name"] (aE jC):=#[rfl,rfl,rfl,by right,rfl,by right,by right]
theorem kH:bR ["self","crew"] ["self","crew"] (aE iB):=#[rfl,rfl,rfl,by right,rfl,by right,by right]
theorem iV:bR ["self","crew"] ["self","crew"] (aE gb):=#[rfl,rfl,rfl,by right,rfl,by right,by right]
theorem gY:bR ["self","name"] ["self","name"] (aE fM):=#[rfl,rfl,rfl,by right,rfl,by right,by right]
theorem iU:bR ["self","crew"] ["self","crew"] (aE f_):=#[rfl,rfl,rfl,by right,rfl,by right,by right]
theorem iW:bR ["self","crew"] ["self","crew"] (aE eQ):=#[rfl,rfl,rfl,by right,rfl,by right,by right]
theorem lR:bR ["self","crew"] ["self","crew"] (aE jB):=#[rfl,rfl,rfl,by right,rfl,by right,by right]
theorem kG:bR ["self","crew"] ["self","crew"] (aE iA):=#[rfl,rfl,rfl,by right,rfl,by right,by right]
theorem lP:bR ["self","crew","name","asked"] ["self","crew","name"] (aE jz):=#[rfl,rfl,rfl,by right,rfl,by right,by right]
theorem lQ:bR ["self","crew","name","asked"] ["self","crew","name"] (aE jA):=#[rfl,rfl,rfl,by right,rfl,by right,by right]
theorem lO:bR ["self","crew","other"] ["self","crew","other"] (aE jy):=#[rfl,rfl,rfl,by right,rfl,by right,by right]
theorem qx:bR ["_law_script"] ["_law_script"] (aE nM):=#[rfl,rfl,rfl,by right,rfl,by right,by right]
theorem wW:bR ["_law_book","_law_way","_law_crew","_law_name"] ["_law_book","_law_way","_law_crew","_law_name"] (aE u8):=#[rfl,rfl,rfl,by right,rfl,by right,by right]
theorem ED:bR ["_law_script","_law_draw","_law_p_here","_law_names_here","_law_book","_law_rounds","_law_crews","_law_some","_law_way","_law_crew","_law_name","_law_there"] ["_law_script"] (aE EE):=#[rfl,rfl,rfl,by right,rfl,by right,by right]
def Ha (A:Wd):Rf ->dw
 | .BadName=>A.kj | .NoDeed=>A.nj | .NoRound=>A.dn | .NoCrew=>A.cC | .Taken=>A.vU | .InUse=>A.vV | .BO=>A.cC | .TooFar=>A.jZ | .PP=>A.cC | .KO=>A.cC
section
variable {P:gA}{w:gB}{K:gg}{mg:Str ->cT cG}{base:gC}{A:Wd}
def zk (T:eK K mg A):bv P w K mg base ez 1 A.uk A.uu ["_law_script"] (Ar K):=by
 exact T.AV.fn.ok qx (λvs H Q E h=> ?_) (λcdv A' outer s H vs Q E hr h=> ?_);let⟨a,ns,rfl,_⟩:=h;rfl;let⟨a,ns,rfl,hs,k⟩:=h;have nd:=qx.nd;exact#[_,(ay (a_ (eR (aa (dC iR (by rfl) T.om Boot.«list» (aa (qC IJ (pv 0) vi (vh aD)) ag)) (aa aD (aa aD (aa aD ag))))))),?_];have ec: ∃ms:cz Int,C_ (ns.map V.int) none (some 63)=ms.map V.int:=by exact#[(ns.drop (HT.wt (ns.map V.int).length 0 none)).take (HT.wt (ns.map V.int).length (ns.map V.int).length (some 63) - HT.wt (ns.map V.int).length 0 none),?_];unfold C_;rw[List.map_take,List.map_drop]
 let⟨ms,em⟩:=ec;exact#[_,rfl,_,rfl,_,_,rfl,hs,λp hp=>#[_,_,rfl, .inl (fh.of bC),λl hl=>#[by change 4<=sizeLine;decide,λd hd=> ?_]]];have hld:l≠d:=λe=>by rw[e,bC] at hd;cases hd
 exact k d l ms _ hld.symm bC ?_;rw[bq hld,bC,em]
def dm (T:eK K mg A):bv P w K mg base ez 1 A.xK A.xV ["_law_draw","_law_many"] (fw K Sl):=by
 exists T.fm.fn,["_law_draw","_law_many","_law_number","_law_got"],(am (db (qB (bO xk (cW cD (pv 0) aD (λ_ _=>rfl)) (pv 1) (cj _)) (l0 (bO xk (cW cD (pv 0) aD (λ_ _=>rfl)) (bP ol (by rfl) T.yf Boot.«len» (aa (cW cD (pv 0) aD (λ_ _=>rfl)) ag)) (cj _)))).pt (am (2\(cW cD (cW cD (pv 0) aD (λ_ _=>rfl)) (cW cD (pv 0) aD (λ_ _=>rfl)) (λ_ _=>rfl))) (am (dW (cJ fP (cW cD (pv 0) aD (λ_ _=>rfl)) aD) (nQ (pv 0) aD gX)) (am (dW aD (nQ (pv 0) aD gX)) (ay (db (bO LU (bP kh (by rfl) T.BL Boot.«abs» (aa (pv 2) ag)) (cJ N_ aD aD) (cj _)) (ay (dW (bP kh (by rfl) T.BL Boot.«abs» (aa (pv 2) ag)) (nQ (pv 0) aD gX))) (ay (dW (cJ jG (cJ fP (cJ fP (cJ gL (cW cD (pv 0) aD (λ_ _=>rfl)) aD) (cJ gL (cJ jG (pv 2) aD) aD)) aD) aD) (nQ (pv 0) aD gX)))))))) bN) (am (db (bO LU (cW cD (pv 0) aD (λ_ _=>rfl)) (pv 1) (cj _)) (am (3\(cJ jG (cW cD (pv 0) aD (λ_ _=>rfl)) (pv 1))) (am (dW (cJ vp (cW cD (pv 0) aD (λ_ _=>rfl)) (pv 1)) (nQ (pv 0) aD gX)) (ay (a_ (pv 3))))) bN) (am (dW (cJ jG (cJ fP (cJ gL (cW cD (pv 0) aD (λ_ _=>rfl)) aD) aD) aD) (nQ (pv 0) aD gX)) (ay (a_ (cJ jG (cJ vp (cW cD (pv 0) aD (λ_ _=>rfl)) aD) (pv 1)))))))
 rintro vs M q ⟨d,l,n,rfl,⟨ns,i,c,sd,hd,hl,hi,jm⟩,n0,n1,k⟩;exact vH (λρ M'=>rN λ(o1 o2:cT W) (i' c' s':Int)=>eZ (ρ= [some (wr d),some (wi n),o1,o2]) (M' d=some (.lst [wr l,wi i',wi c',wi s'])) (NB d M M') (0<=i')) ?_ λN hN=> ?_;rintro ρ M' ⟨o1,o2,i',c',s',rfl,h,nb,sy⟩;have fin: ∀ (r c' s':Int),0<=r ->r<n -> ∃M0,Sm M0 (um M' d (.lst [wr l,wi i',wi c',wi s'])) /\ q (wi r) M0:=λr c' s' h0 h1=>fK (k r _ h0 h1 #[ns,i',c',s',aq,by rw[aT (bD jm),nb l (bD jm)];show hl,sy,jm] (nb.trans NB.put));have cm3: ∀x,ox x 16807=True:=λx=>by simp[ox]
 have cd1: ∀x,DG x n=True:=λx=>by simp[DG,n0,n1]
 have cd2: ∀x,DG x 64=True:=λx=>by simp[DG]
 have z2:((0:Int) <2147483647)=True:=⋯
 dsimp? [h];exact dN (λ_=> ?_) λ_=> ?_;dsimp? [h,n0,cd1];show fin _ _ _ (Int.emod_nonneg _ ∅) (Int.emod_lt_of_pos _ n0);dsimp? [h,aq,n0,cm3,cd2,z2];show fin _ _ _ (Int.emod_nonneg _ ∅) (Int.emod_lt_of_pos _ n0);have nx: ∀ (o1 o2:cT W) (i' c' s':Int),0<=i' ->N [some (wr d),some (wi n),o1,o2] (um M d (.lst [wr l,wi i',wi c',wi s'])):=λ_ _ _ _ _ h=>hN _ _ #[_,_,_,_,_,rfl,aq,NB.put,h];have Vu: ∀ (o1 o2:cT W),N [some (wr d),some (wi n),o1,o2] M:=λ_ _=>hN _ _ #[_,_,_,_,_,rfl,hd,NB.refl d M,hi];have cp:PY 10 18=True:=by simp[PY]
 have cm: ∀x,ox x 48271=True:=λx=>by simp[ox]
 have cm2: ∀x,ox x 69621=True:=λx=>by simp[ox]
 have z1:((0:Int) <2147483629)=True:=⋯
 have z2:((0:Int) <2147483647)=True:=⋯
 by_cases gP:i<ns.length;have hx:kZ (ns.map wi) i=some (wi (ns[i.toNat]'∅)):=qh hi (by rw[aG,aw ∅];rfl);dsimp? [hd,hl,ao];exact dN (λ_=> ?_) λ_=>Vu _ _;exact dN (λ_=> ?_) λ_=>Vu _ _;dsimp? [hd,hl,hx,aq,aT jm.symm,cp];exact dN (λ_=> ?_) λ_=> ?_;dsimp? [aq];show nx _ _ _ _ _ ∅;dsimp? [aq,cm,cm2,z1,z2];show nx _ _ _ _ _ ∅;dsimp? [hd,hl,gP,ao,decide_false];show dN (λ_=>Vu _ _) λ_=>Vu _ _
def Of (T:eK K mg A):bv P w K mg base ez 2 A.My A.MC ["_law_draw"] (fw K pP):=by
 exists T.l_p.fn,["_law_draw"],(ay (a_ (cW iK (cx (aa aD (aa aD (aa aD (aa aD ag))))) (aR T.fm (dm T) hr (aa (pv 0) (aa aD ag))) (λ_ _=>rfl))))
 rintro vs M q ⟨d,l,rfl,hD,k⟩;simp? [↓cQ];exact#[d,l,4,rfl,hD,⋯,⋯,λr M1 r0 r1 D1 b1=> ?_];have hr4:r=0 \/ r=1 \/ r=2 \/ r=3:=by omega
 obtain rfl | rfl | rfl | rfl:=hr4 <;> simp? [↓cQ];show fK (k 2 _ ⋯ D1 b1);show fK (k 3 _ ⋯ D1 b1);show fK (k 5 _ ⋯ D1 b1);show fK (k 7 _ ⋯ D1 b1)
def iG (T:eK K mg A):bv P w K mg base ez 1 A.Gz A.GY ["p","pairs"] (fw K Sj):=by
 exists T.tidy.fn,["p","pairs","turned","place","setting"],(am (2\jF) (am (iC PassesOwn.never rfl (ed (pv 1)) (dv (n:=2) rfl (a8 (aX (i:=3) nd rfl (by trivial)) (a8 (aX (i:=4) nd rfl (by trivial)) cS))) (ay (AG (fc hr) (pv 2) (pv 3) (cJ jG (cJ fP (Fc (fc hr) (pv 2) (pv 3) aD #[by rfl,by rfl,by rfl,by rfl]) (pv 4)) (pv 0)) rfl))) (ay (a_ (dC gG (by rfl) T.qg Boot.«tuple» (aa (eU rfl (c_.of (sc:=aE y0) (N:= ["p","pairs","turned","place","setting"]) (own:= ["place"]) (fr:= [2]) (N':= ["place","turned"])) (ed (bP (fX rfl) (by rfl) T.fI Boot.«sorted» (aa (pv 2) ag))) (λ_ _ _ _=>(aX (i:=0) (by change(["place","turned"]:cz Str).Nodup;decide+kernel) rfl (by trivial))) eJ (λ_ _ _ _=>(IY (bO Fo (eT (fc hr) (pv 1) (pv 0) (λ_ _=>rfl)) aD (cj _)))) (λ_ _ _ _=>(cx (aa (pv 0) (aa (eT (fc hr) (pv 1) (pv 0) (λ_ _=>rfl)) ag))))) ag))))))
 rintro vs M q ⟨a,p,ps,rfl,ha,p0,Gs,aeP,k⟩;simp? [↓cQ];intro d hd;have nad:a≠d:=cR ha hd;simp? [↓cQ,aT nad,ha];exact mB (λi ρ M'=>dY λ(o1 o2:cT W) (m:Pt)=>oq (ρ= [some (wi p),some (wr a),some (wr d),o1,o2]) (M'=um M d (.dK (me m))) ((m.map (·.1)).Nodup) (m.length<=i) (∀x,look m x=fR (ps.take i) x % p) (∀k∈m.map (·.1), ∃q∈ps,q.1=k)) #[none,none,[],rfl,rfl,List.nodup_nil,ak _,λx=>by simp[look,fR],by simp] ?_ ?_ ?_;rintro i ρ M' _ ⟨o1,o2,m,rfl,rfl,_⟩;rw[aT nad];show ha;rintro i x ρ M' hx ⟨o1,o2,m,rfl,rfl,hn,hl,ht,HS⟩ N hN;let⟨z,hz,rfl⟩:=pairs_at hx;have hil:=(aB.mp hz).1;have hs:((me m).length<sizeLine)=True:=by rw[me,ao];show ar (zS (by omega))
 simp? [↓cQ,du,Kk,p0,hs,AE];exact hN _ _ #[_,_,_,rfl,rfl,JK hn,aH FG (by omega),λx=> ?_,λk hk=>(FD hk).elim (λe=>#[z,aY hz,e.symm]) (HS k)];rw[CA,List.take_add_one,hz];change _=fR (ps.take i++ [z]) x % p;rw[wD];by_cases hx:x=z.1;subst hx;rw[aj rfl,aj rfl,ht,Int.emod_add_emod];rw[ah hx,ah (bD hx),Int.add_zero];show ht x;rintro ρ M' ⟨o1,o2,m,rfl,rfl,hn,hl,ht,HS⟩;rw[ao] at hl ht;rw[List.take_length] at ht;simp? [↓cQ];exact#[d,me m,m.map (·.1),rfl,aq,FK m,(by rw[ao];show big (by omega)),λsp ns CM h_ Gd=> ?_];have YT:d≠sp:=cR aq CM;have xA:ns.length<=16000000:=by rw[h_.length_eq,ao];omega
 simp? [↓cQ];exact lx (λx=>match x with | .v (.int n)=>if look m n=0 then none else some (du (n,look m n)) | _=>none) (by rw[ao];show big xA) (λM3 s3=>s3 _ _ aq) ?_ λt ht0=> ?_;intro i x hx M3 N s3 hN;let⟨n,O0,rfl⟩:=F7 hx;have hdM:M3 d=some (.dK (me m)):=s3 _ _ (by rw[aT YT,aq]);have hnk:n∈m.map (·.1):=h_.mem_iff.mp (aY O0);simp? [↓cQ,hdM,Na hnk];exact OF (λh=> ?_) λh=> ?_;simp![h,bp] at hN;show hN;simp![h,bJ] at hN;show hN;simp? [↓cQ];exact#[M,((Sm.um (Sm.refl M) hd).trans (bn CM)).trans (bn ht0),?_];have e:(ns.map wi).filterMap (λx=>match x with | .v (.int n)=>if look m n=0 then none else some (du (n,look m n)) | _=>none)=(nV p ps).map du:=by rw[<- IL p0 hn ht h_ Gd,List.filterMap_map];unfold RP;rw[List.map_filterMap];congr 1;funext n;simp![Function.comp];split<;>rfl
 rw[e];show k
def xm (T:eK K mg A):bv P w K mg base ez 1 A.Bi A.Bz ["pattern","by"] (fw K NU):=by
 exists T.moved.fn,["pattern","by"],(ay (a_ (dC gG (by rfl) T.qg Boot.«tuple» (aa (eU rfl (c_.of (sc:=aE uZ) (N:= ["pattern","by"]) (own:= ["place","setting"]) (fr:= [1]) (N':= ["place","setting","by"])) (nP (pv 0)) (λ_ _ _ _=>(dv (n:=2) rfl (a8 (aX (i:=0) (by change(["place","setting","by"]:cz Str).Nodup;decide+kernel) rfl (by trivial)) (a8 (aX (i:=1) (by change(["place","setting","by"]:cz Str).Nodup;decide+kernel) rfl (by trivial)) cS)))) m_ (λ_ _ _ _=>dq) (λ_ _ _ _=>(cx (aa (cJ fP (pv 0) (pv 2)) (aa (pv 1) ag))))) ag))))
 rintro vs M q ⟨Qj,b,rfl,hl,k⟩;simp? [↓cQ,fO];exact lx (λx=>match x with | .tup [.v (.int x),s]=>some (.tup [wi (x+b),s]) | _=>none) (by rw[ao];show big hl) (λ_ _=>trivial) ?_ λt ht=> ?_;intro i x hx M3 N s3 hN;let⟨z,hz,rfl⟩:=pairs_at hx;simp? [↓cQ,du];show hN;simp? [↓cQ];exact#[M,bn ht,?_];have e:(Qj.map du).filterMap (λx=>match x with | .tup [.v (.int x),s]=>some (.tup [wi (x+b),s]) | _=>none)=(mv b Qj).map du:=by rw[List.filterMap_map,mv,bw];show List.filterMap_eq_map.symm▸rfl
 rw[e];show k
def Fw (T:eK K mg A):bv P w K mg base ez 2 A.Bn A.BD ["p","one","other"] (fw K N8):=by
 exists T.added.fn,["p","one","other"],(ay (a_ (aR T.tidy (iG T) hr (aa (pv 0) (aa (cJ Fp (dC iR (by rfl) T.om Boot.«list» (aa (pv 1) ag)) (dC iR (by rfl) T.om Boot.«list» (aa (pv 2) ag))) ag)))))
 rintro vs M q ⟨p,a,b,rfl,p0,hf,ha,hb,k⟩;simp? [↓cQ,fO];intro u hu;simp? [↓cQ];intro v hv;have huv:u≠v:=cR aq hv;have hs:((a.map du).length+(b.map du).length<=sizeLine)=True:=ar (big (by rw[ao,ao];omega));simp? [↓cQ,aT huv,hs];intro c hc;simp? [↓cQ];exact#[c,p,a++b,rfl,by rw[aq,bA],p0,hf,by rw[aV];omega,?_];show#[M,((bn hu).trans (bn hv)).trans (bn hc),k]
def qG (T:eK K mg A):bv P w K mg base ez 2 A.Bd A.Bw ["p","pattern","n"] (fw K NO):=by
 exists T.timed.fn,["p","pattern","n"],(ay (a_ (aR T.tidy (iG T) hr (aa (pv 0) (aa (eU rfl (c_.of (sc:=aE uX) (N:= ["p","pattern","n"]) (own:= ["place","setting"]) (fr:= [2]) (N':= ["place","setting","n"])) (nP (pv 1)) (λ_ _ _ _=>(dv (n:=2) rfl (a8 (aX (i:=0) (by change(["place","setting","n"]:cz Str).Nodup;decide+kernel) rfl (by trivial)) (a8 (aX (i:=1) (by change(["place","setting","n"]:cz Str).Nodup;decide+kernel) rfl (by trivial)) cS)))) m_ (λ_ _ _ _=>dq) (λ_ _ _ _=>(cx (aa (pv 0) (aa (cJ gL (pv 1) (pv 2)) ag))))) ag)))))
 rintro vs M q ⟨p,a,n,rfl,p0,hf,ha,hz,k⟩;simp? [↓cQ,fO];exact lx (λx=>match x with | .tup [x, .v (.int s)]=>some (.tup [x,wi (s*n)]) | _=>none) (by rw[ao];show big (by omega)) (λ_ _=>trivial) ?_ λt ht=> ?_;intro i x hx M3 N s3 hN;let⟨z,S2,rfl⟩:=pairs_at hx;have:=hz z (aY S2);have cm:ox z.2 n=True:=ar (.inl #[by omega,by omega]);simp? [↓cQ,du,cm];show hN;have e:(a.map du).filterMap (λx=>match x with | .tup [x, .v (.int s)]=>some (.tup [x,wi (s*n)]) | _=>none)=(tm n a).map du:=by rw[List.filterMap_map,tm,bw];show List.filterMap_eq_map.symm▸rfl
 rw[e];simp? [↓cQ];exact#[t,p,tm n a,rfl,aq,p0,hf,by rw[tm,ao];omega,M,bn ht,k]
end
end dL
open PySem L2 WL WP WQ EN PyProof.Rows
namespace dL
open PySem L2 WL WP WQ EN PyProof.Rows
section
variable {P:gA}{w:gB}{K:gg}{mg:Str ->cT cG}{base:gC}{A:Wd}
def tW (T:eK K mg A):bv P w K mg base ez 3 A.xL A.xW ["p","one","other"] (fw K Jp):=by
 exists T.joined.fn,["p","one","other","end","pattern","more","behind"],(am (dW (pv 1) (dv (n:=2) rfl (a8 (aX (i:=3) nd rfl (by trivial)) (a8 (aX (i:=4) nd rfl (by trivial)) cS)))) (am (dW (pv 2) (dv (n:=2) rfl (a8 (aX (i:=5) nd rfl (by trivial)) (a8 (aX (i:=6) nd rfl (by trivial)) cS)))) (ay (a_ (cx (aa (cJ fP (pv 3) (pv 5)) (aa (aR T.added (Fw T) hr (aa (pv 0) (aa (pv 4) (aa (aR T.moved (xm T) hr (aa (pv 6) (aa (pv 3) ag))) ag)))) ag)))))))
 rintro vs M q ⟨p,a,b,rfl,p0,hf,ha,hb,k⟩;simp? [↓cQ,gd];exact#[b.2,a.1,rfl,by omega,?_];simp? [↓cQ];exact#[p,a.2,mv a.1 b.2,rfl,p0,hf,aH ha ⋯,by rw[zn];show aH hb ⋯,?_];simp? [↓cQ];show fK k
def oO (T:eK K mg A):bv P w K mg base ez 3 A.re A.rE ["p","one"] (fw K Sv):=by
 exists T.backward.fn,["p","one","end","pattern"],(am (dW (pv 1) (dv (n:=2) rfl (a8 (aX (i:=2) nd rfl (by trivial)) (a8 (aX (i:=3) nd rfl (by trivial)) cS)))) (ay (a_ (cx (aa (oM jq (pv 2)) (aa (aR T.timed (qG T) hr (aa (pv 0) (aa (aR T.moved (xm T) hr (aa (pv 3) (aa (oM jq (pv 2)) ag))) (aa (oM jq aD) ag)))) ag))))))
 rintro vs M q ⟨p,a,rfl,p0,hf,ha,hz,k⟩;simp? [↓cQ,gd];exact#[a.2, -a.1,rfl,by omega,?_];simp? [↓cQ];exact#[p,mv (-a.1) a.2, -1,rfl,p0,Pk hf,by rw[zn];show ha,λz S2=> ?_,?_];let⟨y,hy,rfl⟩:=List.mem_map.mp S2;show hz y hy;simp? [↓cQ];show fK k
def Jw (T:eK K mg A):bv P w K mg base (gv P w) 2 A.GA A.GZ ["p","deeds"] (sw K (NX A.nj)):=by
 exact xp T.gone.fn At (by rintro vs M q e ⟨a,p,ds,rfl,_⟩;rfl) λcdv A' outer s H E e hr hF hP=> ?_;have nd:=At.nd;exact#[_,(am (2\aD) (am (3\(eR ag)) (am (iC Jt rfl (ed (pv 1)) (aX (i:=4) nd rfl (by trivial)) (am (5\(cW iK (pv 4) aD (λ_ _=>rfl))) (ay (db (bO gf (pv 5) cV (cj _)) (ay (NG (i:=2) nd rfl (Or.inl rfl) (cW iK (pv 4) aD (λ_ _=>rfl)) OG)) (ay (db (bO gf (pv 5) cV (cj _)) (ay (c5 (tV PySem.F.plainAttrs_list PySem.F.slot_list_append PySem.F.type_list_append hW (pv 3) (aa (cx (aa (pv 2) (aa (cW iK (pv 4) aD (λ_ _=>rfl)) ag))) ag)))) (ay (eG hF rfl (by rfl) T.DN (aa (iE (dB cV (dB (qD (pv 5)) li))) ag))))))))) (ay (a_ (cx (aa (pv 2) (aa (aR T.tidy (iG T) hr (aa (pv 0) (aa (pv 3) ag))) ag)))))))),?_];try dsimp only[dE]
 exact#[_,inferInstance,?_];rintro vs M q ⟨a,p,ds,rfl,ha,p0,hf,hl,hw,kq,ke⟩;simp? [↓dj];exact eV ?_; simp? [↓dj];intro b hb;have Gr:a≠b:=cR ha hb;exact eV ?_; simp? [↓dj,aT Gr,ha];exact mB (λi ρ M'=> ∃ (o1 o2:cT W),(∀d∈ds.take i,Good d) /\ ρ= [some (wi p),some (wr a),some (wi (eP (ds.take i)).1),some (wr b),o1,o2] /\ M'=um M b (.lst ((eP (ds.take i)).2.map du))) #[none,none,by simp,rfl,rfl] ?_ ?_ ?_;rintro i ρ M' _ ⟨o1,o2,_,rfl,rfl⟩;rw[aT Gr];show ha
 .rintro i x ρ M' hx ⟨o1,o2,YM,rfl,rfl⟩ N hN;let⟨z,hz,rfl⟩:=TY hx;have hil:=(aB.mp hz).1;have et:ds.take (i+1)=ds.take i++ [z]:=by rw[List.take_add_one,hz];rfl
  have dD:(((eP (ds.take i)).2.map du).length<sizeLine)=True:=ar (zS (by have:=qt (ds.take i);rw[ao];rw[bM] at this;omega));have Kd:Good z -> ∀d∈ds.take (i+1),Good d:=λhg d hd=>by rw[et,bh] at hd;obtain hd | hd:=hd;show YM d hd;simp at hd;rw[hd];show hg
  have hzm:z∈ds:=aY hz;let⟨z1,z2⟩:=z;have VH:=hw _ hzm;have e3:decide (("go" :Str)= "go")=true:=by right
  have e1:decide (("turn" :Str)= "go")=false:=by right
  have e2:decide (("turn" :Str)= "turn")=true:=by right
  by_cases h1:z1= "go";subst h1;have hs:sstep (eP (ds.take i)) ("go",z2)=((eP (ds.take i)).1+z2,(eP (ds.take i)).2):=aj rfl;simp? [↓dj,Kt];exact eV ?_; simp? [↓dj,e3];simp![et,nH,hs] at hN Kd;show hN _ _ #[_,_,Kd (.inl rfl),rfl,rfl];by_cases h2:z1= "turn";subst h2;have hs:sstep (eP (ds.take i)) ("turn",z2)=((eP (ds.take i)).1,(eP (ds.take i)).2++ [((eP (ds.take i)).1,z2)]):=ah (show ¬((("turn" :Str),z2).1=("go" :Str)) from(by right:¬(("turn" :Str)=("go" :Str))));simp? [↓dj,Kt];exact eV ?_; simp? [↓dj,e1,e2,dD];simp![et,nH,hs,bA,az,bL] at hN Kd;show hN _ _ #[_,_,Kd (.inr rfl),rfl,rfl];have f1:decide (z1= "go")=false:=bg h1;have f2:decide (z1= "turn")=false:=bg h2;simp? [↓dj,Kt];exact eV ?_; simp? [↓dj,f1,f2];have S1:z1.length<=100:=VH;(repeat (exact#[by first | decide | decide+kernel | show df (by omega) | show Tz (by right) S1 | show Tx (by right) S1 (by right),?_]));show#[M,bn hb,ke #[(z1,z2),hzm,λh=>h.elim h1 h2]]
 rintro ρ M' ⟨o1,o2,YM,rfl,rfl⟩;rw[ao,List.take_length] at*;dsimp only;exact eV ?_; simp? [↓dj];have:=qt ds;exact#[b,p,(eP ds).2,rfl,aq,p0,hf,by omega,?_];simp? [↓dj];show#[M,bn hb,kq YM]
def l7 (T:eK K mg A):bv P w K mg base ez 4 A.gk A.gm ["p","one","n"] (fw K LR):=by
 have lA:bv P w K mg base ez 3 A.gk A.gm ["p","one","n"] (fw K Fl):=Gw;exact Vt T.repeated.fn gy (by left) λcdv A' outer s H E hr=> ?_;have nd:=gy.nd;exact#[_,(am (db (bO xk (pv 2) aD (cj _)) (ay (a_ (aR T.repeated lA hr (aa (pv 0) (aa (aR T.backward (oO T) hr (aa (pv 0) (aa (pv 1) ag))) (aa (oM jq (pv 2)) ag)))))) bN) (am (dW (pv 1) (dv (n:=2) rfl (a8 (aX (i:=3) nd rfl (by trivial)) (a8 (aX (i:=4) nd rfl (by trivial)) cS)))) (am (db (bO gf (pv 3) aD (cj _)) (ay (a_ (cx (aa aD (aa (aR T.timed (qG T) hr (aa (pv 0) (aa (pv 4) (aa (pv 2) ag)))) ag))))) bN) (am (oK (i:=5) (n1:=2) rfl nd rfl (Or.inl rfl) (c_.of (sc:=aE f9) (N:= ["p","one","n","end","pattern","pairs"]) (own:= ["place","setting","k"]) (fr:= [3,2]) (N':= ["place","setting","k","end","n"])) (nP (pv 4)) (λ_ _ _ _=>(dv (n:=2) rfl (a8 (aX (i:=0) (by change(["place","setting","k","end","n"]:cz Str).Nodup;decide+kernel) rfl (by trivial)) (a8 (aX (i:=1) (by change(["place","setting","k","end","n"]:cz Str).Nodup;decide+kernel) rfl (by trivial)) cS)))) ⋯ (A0 (by change _<_;decide) (by change _<_;decide)) (λ_ _ _ _=>dq) (λ_ _ _ _=>(g0 (by rfl) T.nk (aa (pv 4) ag))) (λ_ _ _ _=>(aX (i:=2) (by change(["place","setting","k","end","n"]:cz Str).Nodup;decide+kernel) rfl (by trivial))) (mf (by change _<=_ /\ _<_;decide)) (λ_ _ _ _=>dq) (λ_ _ _ _=>(cx (aa (cJ fP (pv 0) (cJ gL (pv 3) (pv 2))) (aa (pv 1) ag)))) rfl) (ay (a_ (cx (aa (cJ gL (pv 3) (pv 2)) (aa (aR T.tidy (iG T) hr (aa (pv 0) (aa (pv 5) ag))) ag))))))))),?_];try dsimp only[dE]
 exact#[_,inferInstance,?_];rintro vs M q ⟨p,a,n,rfl,p0,p1,hP,hl,n0,hb,k⟩;have OX:decide (n<0)=false:=bg (by omega);have sA:=wT hP p1;dsimp? [gd,OX];exact dN (λh=> ?_) λh=> ?_;simp? [↓dj];exact#[p,a.2,n,rfl,p0,HY,hl,sA,?_];simp? [↓dj];exact fK (k (0,nV p (tm n a.2)) #[?_,iJ p0 _,λx=> ?_] (λ_=> ?_) λh'=>absurd h h');rw[h,Int.zero_mul];rw[uP p0,Ef];unfold nI;rw[ah (by omega),h,qu];have:((n.toNat:Nat):Int)=n:=by omega
 rw[this];show aH (p8 _ _) (by rw[tm,ao];show ak _);let⟨nb,dD⟩:=hb h;have cm: ∀j:Int,j<100000 ->0<=j ->ox a.1 j=True:=λj h1 h2=>ar (.inr #[by omega,by omega]);dsimp? [fO];exact uv (λ_=>List.range n.toNat) (λ(k:Nat)=>wi (0+(k:Int))) (λz k=>du (z.1+a.1*(0+(k:Int)),z.2)) ?_ (λ_ _=>trivial) ?_ λt ht=> ?_;exact zS ?_;simp![List.length_range];rw[List.map_const',List.sum_replicate_nat];show aH dD ⋯;intro z hz M3 s3 B N0 hB;simp? [↓cQ,du];exact#[#[by omega,by omega],hB _ _ (λ_ _=>trivial) ?_];intro j hj M4 s4 N hN;have hj:=List.mem_range.mp hj;simp? [↓cQ,cm (0+(j:Int)) (by omega) (by omega)];show hN;have e:(a.2.map λz=>(List.range n.toNat).map λ(k:Nat)=>du (z.1+a.1*(0+(k:Int)),z.2)).flatten=(jN a.1 n.toNat a.2).map du:=by rw[jN,List.map_flatten,bw];congr 1;apply List.map_congr_left;intro z _;simp![Function.comp_apply,lY,bw];apply List.map_congr_left;intro j _;rw[Int.zero_add];rfl
 rw[e];have cn:ox a.1 n=True:=cm n nb n0;dsimp? [cn];exact#[t,p,jN a.1 n.toNat a.2,rfl,aq,p0,HY,by rw[qO];show aH dD ⋯,?_];simp? [↓dj];exact#[M,bn ht,k (a.1*n,nV p (jN a.1 n.toNat a.2)) #[rfl,iJ p0 _,λx=> ?_] (λh'=>absurd h' h) λ_=> ?_];rw[uP p0,wF];unfold nI;rw[ah (by omega)];exact aH (p8 _ _) ?_;rw[qO];have:n.toNat=n.natAbs:=by omega
 rw[this];show ak _
def vq (T:eK K mg A):bv P w K mg base ez 5 A.gk A.gm ["p","one","n"] (fw K LQ):=by
 have lA:=l7 (P:=P) (w:=w) (base:=base) T;exact Vt T.repeated.fn gy (by left) λcdv A' outer s H E hr=> ?_;have nd:=gy.nd;exact#[_,(am (db (bO xk (pv 2) aD (cj _)) (ay (a_ (aR T.repeated lA hr (aa (pv 0) (aa (aR T.backward (oO T) hr (aa (pv 0) (aa (pv 1) ag))) (aa (oM jq (pv 2)) ag)))))) bN) (am (dW (pv 1) (dv (n:=2) rfl (a8 (aX (i:=3) nd rfl (by trivial)) (a8 (aX (i:=4) nd rfl (by trivial)) cS)))) (am (db (bO gf (pv 3) aD (cj _)) (ay (a_ (cx (aa aD (aa (aR T.timed (qG T) hr (aa (pv 0) (aa (pv 4) (aa (pv 2) ag)))) ag))))) bN) (am (oK (i:=5) (n1:=2) rfl nd rfl (Or.inl rfl) (c_.of (sc:=aE f9) (N:= ["p","one","n","end","pattern","pairs"]) (own:= ["place","setting","k"]) (fr:= [3,2]) (N':= ["place","setting","k","end","n"])) (nP (pv 4)) (λ_ _ _ _=>(dv (n:=2) rfl (a8 (aX (i:=0) (by change(["place","setting","k","end","n"]:cz Str).Nodup;decide+kernel) rfl (by trivial)) (a8 (aX (i:=1) (by change(["place","setting","k","end","n"]:cz Str).Nodup;decide+kernel) rfl (by trivial)) cS)))) ⋯ (A0 (by change _<_;decide) (by change _<_;decide)) (λ_ _ _ _=>dq) (λ_ _ _ _=>(g0 (by rfl) T.nk (aa (pv 4) ag))) (λ_ _ _ _=>(aX (i:=2) (by change(["place","setting","k","end","n"]:cz Str).Nodup;decide+kernel) rfl (by trivial))) (mf (by change _<=_ /\ _<_;decide)) (λ_ _ _ _=>dq) (λ_ _ _ _=>(cx (aa (cJ fP (pv 0) (cJ gL (pv 3) (pv 2))) (aa (pv 1) ag)))) rfl) (ay (a_ (cx (aa (cJ gL (pv 3) (pv 2)) (aa (aR T.tidy (iG T) hr (aa (pv 0) (aa (pv 5) ag))) ag))))))))),?_];try dsimp only[dE]
 exact#[_,inferInstance,?_];rintro vs M q ⟨p,a,n,rfl,p0,p1,hP,hl,hn,hb,k⟩;have OX:decide (n<0)=true:=b_ hn;have sA:=wT hP p1;dsimp? [OX];exact#[p,a,rfl,p0,HY,hl,sA,?_];dsimp? [];have hB:=Pz p a;exact#[p,bk p a, -n,rfl,p0,p1,Py p0 a,by omega,by omega,λhe=> ?_,λr hr YA Te=> ?_];have he':a.1≠0:=λz=>he (by change -a.1=0;omega);let⟨h1,h2,h3⟩:=hb he';exact#[by omega,aH (Nat.mul_le_mul hB (Nat.le_of_eq ?_)) h3];omega;dsimp? [];have e:(-n).natAbs=n.natAbs:=by omega
 rw[e] at Te;have hm:(bk p a).2.length*n.natAbs<=a.2.length*n.natAbs:=Nat.mul_le_mul_right _ hB;show fK (k r (hr.JA p0 hn) (λh=>aH (YA (by change -a.1=0;omega)) hB) λh=>aH (Te (by change -a.1≠0;omega)) hm)
theorem oN (T:eK K mg A):bv P w K mg base ez 5 A.gk A.gm ["p","one","n"] (fw K So):=TK ((l7 T).mono ⋯) (vq T) λ_ _ _=>Jm
def Fq (T:eK K mg A):bv P w K mg base ez 1 A.Bh A.By [] (fw K NP):=by
 exact Vt T.still.fn wV (by rintro vs M q ⟨rfl,_⟩;rfl) λcdv A' outer s H E hr=> ?_;have nd:=wV.nd;exact#[_,(ay (a_ (cx (aa aD (aa (cx ag) ag))))),?_];try dsimp only[dE]
 exact#[_,inferInstance,?_];rintro vs M q ⟨rfl,k⟩;simp? [↓cQ];show fK k
def Og (T:eK K mg A):bv P w K mg base ez 1 A.Mz A.MD ["self","lamps","parts"] (fw K (NV A.kY)):=by
 have cl:=ar T.Row.cl;have n1:=ar T.n_Row_lamps;have n2:=ar T.n_Row_parts;exists T.Row.fn,["self","lamps","parts"],(am (dG (pv 0) (pv 1) rfl) (ay (dG (pv 0) (pv 2) rfl)))
 rintro vs M q ⟨s,dx,l,r,rfl,hs,k⟩;have e1:dQ "lamps" l []= [(("lamps" :Str),l)]:=rfl;have e2:dQ "parts" r [(("lamps" :Str),l)]= [(("lamps" :Str),l),(("parts" :Str),r)]:=rfl;dsimp? [hs,cl,n1,n2,e1,e2,Nat.reduceLT];show fK k
def nT (T:eK K mg A):bv P w K mg base ez 3 A.i7 A.ja ["members"] (fw K Ss):=by
 exists T.check_members.fn,["members","one"],(am (db (bO LS (bP ol (by rfl) T.yf Boot.«len» (aa (pv 0) ag)) (dR (by rfl) T.qm.choose_spec (show RelV (.int 6) _ from#[_,rfl])) (cj _)) (ay xg) bN) (ay (iC PassesOwn.never rfl (ed (pv 0)) (aX (i:=1) nd rfl (by trivial)) eE)))
 rintro vs M q ⟨u,rfl,hu,k⟩;have h1:decide (6< ((0:Nat):Int))=false:=⋯
 dsimp? [hu,h1];exact mB (λi ρ M'=> ∃o:cT W,ρ= [some (wr u),o] /\ M'=M) #[none,rfl,rfl] (λ_ _ _ _ h=>by let⟨_,_,rfl⟩:=h;show hu) ?_ ?_;intro i x ρ M' hx;cases hx;rintro ρ M' ⟨o,rfl,rfl⟩;dsimp? [];show fK k
def ku (T:eK K mg A):bv P w K mg base ez 1 A.gl A.gp ["ends"] (fw K XA):=by
 exists T.greatest_divisor.fn,["ends","greatest","end","left"],(am (1\aD) (am (iC PassesOwn.never rfl (ed (pv 0)) (aX (i:=2) nd rfl (by trivial)) eE) (ay (a_ (pv 1)))))
 rintro vs M q ⟨u,rfl,hu,k⟩;dsimp? [hu];exact mB (λi ρ M'=>bX λ(o2 o3:cT W)=>ρ= [some (wr u),some (wi 0),o2,o3] /\ M'=M) #[none,none,rfl,rfl] (λ_ _ _ _ h=>by let⟨_,_,_,rfl⟩:=h;show hu) ?_ ?_;intro i x ρ M' hx;cases hx;rintro ρ M' ⟨o2,o3,rfl,rfl⟩;dsimp? [];show fK k
def Co (T:eK K mg A):bv P w K mg base ez 1 A.xI A.xT ["ends","stride"] (fw K Sn):=by
 exists T.row_to.fn,["ends","stride","rows","edge","reached","here","k","end","way","there"],(am (2\(Fb aD (eR ag))) (am (3\(eR (aa aD ag))) (am (EX PassesOwn.never (vg (nS (fc hr) (pv 1) (pv 2))) eE) (ay (a_ (eT (fc hr) (pv 2) (pv 1) (λ_ _=>rfl)))))))
 rintro vs M q ⟨u,rfl,hu,k⟩;dsimp? [D0];intro rd frd;dsimp? [];intro r0 fr0;have nr0:=cR aq fr0;dsimp? [aT nr0];exact#[.inl 0,rfl,?_];dsimp? [];intro e0 VY;have nre:=cR aq VY;have TF:M r0=none:=(bn frd).free fr0;have sE:Sm M (um (um (um (um M rd (.dK [])) r0 (.lst [])) rd (.dK [(.inl 0,wr r0)])) e0 (.lst [W.v (V.int 0)])):=((((Sm.refl M).um frd).um TF).um frd).trans (bn VY);have Yo:um (um (um (um M rd (.dK [])) r0 (.lst [])) rd (.dK [(.inl 0,wr r0)])) e0 (.lst [W.v (V.int 0)]) rd=some (.dK [(.inl 0,wr r0)]):=bn VY _ _ aq;have Qt:um (um (um (um M rd (.dK [])) r0 (.lst [])) rd (.dK [(.inl 0,wr r0)])) e0 (.lst [W.v (V.int 0)]) r0=some (.lst []):=by exact bn VY _ _ ?_;rw[aT (bD nr0),aq]
 generalize um (um (um (um M rd (.dK [])) r0 (.lst [])) rd (.dK [(.inl 0,wr r0)])) e0 (.lst [W.v (V.int 0)])=M1 at sE Yo Qt ⊢;have hv:fu [((.inl 0:bH),wr r0)] (.inl 0)=some (wr r0):=rfl;exact eV (Ip (λ_ ρ M2=>ρ= [some (wr u),some (wi 0),some (wr rd),some (wr e0),none,none,none,none,none,none] /\ M2=M1) 0 #[rfl,rfl] ?_);rintro m ρ M2 ⟨rfl,rfl⟩ N hN;dsimp? [Yo,hv,Option.isSome_some];show fK (k r0 M2 TF sE Qt)
def xn (T:eK K mg A):bv P w K mg base ez 6 A.ra A.rC ["p","members","row"] (fw K NY):=by
 exists T.gone_row.fn,["p","members","row","now","k","way"],(am (3\(Ck T.still (Fq T) (hr.mono ⋯) (by rfl))) (am (iC PassesOwn.never rfl (ed (pv 2)) (dv (n:=2) rfl (a8 (aX (i:=4) nd rfl (by trivial)) (a8 (aX (i:=5) nd rfl (by trivial)) cS))) eE) (ay (a_ (pv 3)))))
 rintro vs M q ⟨p,u,v,rfl,hv,k⟩;dsimp? [];exact#[rfl,?_];dsimp? [hv];exact mB (λi ρ M'=>bX λ(o4 o5:cT W)=>ρ= [some (wi p),some (wr u),some (wr v),some (gd (0,[])),o4,o5] /\ M'=M) #[none,none,rfl,rfl] (λ_ _ _ _ h=>by let⟨_,_,_,rfl⟩:=h;show hv) ?_ ?_;intro i x ρ M' hx;cases hx;rintro ρ M' ⟨o4,o5,rfl,rfl⟩;dsimp? [];show fK k
def kL (T:eK K mg A):bv P w K mg base ez 1 A.mF A.mS ["p","parts","n"] (fw K Ji):=by
 exists T.told_parts.fn,["p","parts","n"],(ay (a_ (Fd (n1:=1) rfl (c_.of (sc:=aE iz) (N:= ["p","parts","n"]) (own:= ["which","shift"]) (fr:= [0,2,1]) (N':= ["which","shift","p","n","parts"])) (ed (bP (fX rfl) (by rfl) T.fI Boot.«sorted» (aa (pv 1) ag))) (λ_ _ _ _=>(aX (i:=0) (by change(["which","shift","p","n","parts"]:cz Str).Nodup;decide+kernel) rfl (by trivial))) ⋯ (mf (by change _<_;decide)) (λ_ _ _ _=>dq) (λ_ _ _ _=>(E3 (K:=K) rfl (bP (fX rfl) (by rfl) T.fI Boot.«sorted» (aa (eT (fc hr) (pv 4) (pv 0) (λ_ _=>rfl)) ag)))) (λ_ _ _ _=>(aX (i:=1) (by change(["which","shift","p","n","parts"]:cz Str).Nodup;decide+kernel) rfl (by trivial))) (mf (by change _<=_ /\ _<_;decide)) (λ_ _ _ _=>dq) (λ_ _ _ _=>(cx (aa (pv 0) (aa (pv 1) (aa (cJ jG (cJ gL (eT (fc hr) (eT (fc hr) (pv 4) (pv 0) (λ_ _=>rfl)) (pv 1) (λ_ _=>rfl)) (pv 3)) (pv 2)) ag))))))))
 rintro vs M q ⟨p,n,d,rfl,hd,k⟩;dsimp? [hd];exact#[d,[],[],rfl,hd,rfl,⋯,λu ws hu h_ _=> ?_];obtain rfl:ws= []:= ⇑h_;dsimp? [aq];exact uv (l:=([]:cz Int)) (fW:=wi) (λ_=>([]:cz Int)) wi (λ_ _=>wn) (zS (by simp)) (λM' s=>s _ _ aq) (λa ha=>nomatch ha) λv hv=> ?_;show fK (k v _ ((bn hu).free hv) ((bn hu).trans (bn hv)) aq)
def Fv (T:eK K mg A):bv P w K mg base ez 6 A.Bm A.BC ["p","stride","patterns"] (fw K Js):=by
 exists T.built.fn,["p","stride","patterns","held","which","pattern","firsts","stairs"],(am (3\jF) (am (iC PassesOwn.never rfl (E5 rfl (by rfl) T.pI (aa (pv 2) ag)) (dv (n:=2) rfl (a8 (aX (i:=4) nd rfl (by trivial)) (a8 (aX (i:=5) nd rfl (by trivial)) cS))) eE) (am (6\(bP (fX rfl) (by rfl) T.fI Boot.«sorted» (aa (pv 3) ag))) (am (7\(dC gG (by rfl) T.qg Boot.«tuple» (aa (eU rfl (c_.of (sc:=aE pZ) (N:= ["p","stride","patterns","held","which","pattern","firsts","stairs"]) (own:= ["first"]) (fr:= [0,3]) (N':= ["first","p","held"])) (ed (pv 6)) (λ_ _ _ _=>(aX (i:=0) (by change(["first","p","held"]:cz Str).Nodup;decide+kernel) rfl (by trivial))) eJ (λ_ _ _ _=>dq) (λ_ _ _ _=>(aR T.tidy (iG T) hr (aa (pv 1) (aa (tU (by rfl) T.om rfl (p7 (K:=K) rfl (eT (fc hr) (pv 2) (pv 0) (λ_ _=>rfl)) rfl)) ag))))) ag))) (ay (a_ (cx (aa (pv 7) (aa (eU rfl (c_.of (sc:=aE pZ) (N:= ["p","stride","patterns","held","which","pattern","firsts","stairs"]) (own:= ["first"]) (fr:= [0,3]) (N':= ["first","p","held"])) (ed (pv 6)) (λ_ _ _ _=>(aX (i:=0) (by change(["first","p","held"]:cz Str).Nodup;decide+kernel) rfl (by trivial))) eJ (λ_ _ _ _=>dq) (λ_ _ _ _=>(aR T.told_parts (kL T) hr (aa (pv 1) (aa (p7 (K:=K) rfl (eT (fc hr) (pv 2) (pv 0) (λ_ _=>rfl)) rfl) (aa aD ag)))))) ag)))))))))
 rintro vs M q ⟨p,u,rfl,hu,k⟩;dsimp? [];intro hd YK;have nuh:u≠hd:=cR hu YK;dsimp? [aT nuh,hu,FX];have hu1:=bn (o:= .dK []) YK _ _ hu;have O_:um M hd (.dK []) hd=some (.dK []):=aq;have s1:=bn (o:= .dK []) YK;generalize um M hd (.dK [])=M1 at hu1 O_ s1 ⊢;exact mB (λi ρ M'=>ρ= [some (wi p),some (wi 0),some (wr u),some (wr hd),none,none,none,none] /\ M'=M1) #[rfl,rfl] (λ_ _ _ _ h=>by let⟨_,rfl⟩:=h;show hu1) ?_ ?_;intro i x ρ M' hx;cases hx;rintro ρ M' ⟨rfl,rfl⟩;dsimp? [O_];exact#[hd,[],[],rfl,O_,rfl,⋯,λv ws hv h_ _=> ?_];obtain rfl:ws= []:= ⇑h_;dsimp? [aq];have Qs:um M' v (.lst []) v=some (.lst []):=aq;have s2:=s1.trans (bn (o:= .lst []) hv);have O9:=bn (o:= .lst []) hv _ _ O_;generalize um M' v (.lst [])=M2 at Qs s2 O9 ⊢;exact fH (l:=([]:cz Int)) (fW:=wi) (λ_=>wn) ⋯ (λM3 s=>s _ _ Qs) (λa ha=>nomatch ha) λt ht=> ?_;have S6:=bn (o:= .lst []) ht _ _ Qs;have s3:=s2.trans (bn (o:= .lst []) ht);dsimp? [aq,bL,S6];exact fH (l:=([]:cz Int)) (fW:=wi) (λ_=>wn) ⋯ (λM3 s=>s _ _ S6) (λa ha=>nomatch ha) λt2 OK=> ?_;show fK (k t2 _ (s3.free OK) (s3.trans (bn OK)) aq)
def qH (T:eK K mg A):bv P w K mg base ez 5 A.Be A.Bx ["p","stride","stairs","pattern"] (fw K Jk):=by
 exists T.taken.fn,["p","stride","stairs","pattern","row","which","stair"],(am (4\(fB T.Row (Og T) (hr.mono ⋯) (by rfl) (aa (dC (ly rfl) (by rfl) T.zT Boot.«dict» (aa (pv 3) ag)) (aa jF ag)))) (am (iC PassesOwn.never rfl (E4 rfl (by rfl) T.pI (aa (pv 2) ag)) (dv (n:=2) rfl (a8 (aX (i:=5) nd rfl (by trivial)) (a8 (aX (i:=6) nd rfl (by trivial)) cS))) eE) (ay (a_ (cx (aa (aR T.tidy (iG T) hr (aa (pv 0) (aa (tU (by rfl) T.om rfl (a6 (pv 4) rfl)) ag))) (aa (aR T.told_parts (kL T) hr (aa (pv 0) (aa (a6 (pv 4) rfl) (aa (oM jq aD) ag)))) ag)))))))
 rintro vs M q ⟨p,pt,rfl,p0,J_,hl,k⟩;have clR:=ar T.Row.cl;have nR1:=ar T.n_Row_lamps;have nR2:=ar T.n_Row_parts;dsimp? [];rw[gw];dsimp? [];have Y3:=NL J_;exact#[NH pt,by rw[Jh],by rw[NH,ao];omega,λl1 hl1=> ?_];rw[Kv pt Y3.1];intro p1 hp1 r dr hr hdr aeO;exact#[r,dr,wr l1,wr p1,rfl,aq,rfl,?_];dsimp? [];have n1:l1≠p1:=cR aq hp1;have n1r:l1≠r:=cR (by rw[aT n1];show aq) hr;have n2r:p1≠r:=cR aq hr;have VR:um (um (um M l1 (.dK (me pt))) p1 (.dK [])) r (.ins A.kY dr [("lamps",wr l1),("parts",wr p1)]) l1=some (.dK (me pt)):=by rw[aT n1r,aT n1];show aq
 have VN:um (um (um M l1 (.dK (me pt))) p1 (.dK [])) r (.ins A.kY dr [("lamps",wr l1),("parts",wr p1)]) p1=some (.dK []):=by rw[aT n2r];show aq
 have Qt:um (um (um M l1 (.dK (me pt))) p1 (.dK [])) r (.ins A.kY dr [("lamps",wr l1),("parts",wr p1)]) r=some (.ins A.kY dr [("lamps",wr l1),("parts",wr p1)]):=aq;have sm0:Sm M (um (um (um M l1 (.dK (me pt))) p1 (.dK [])) r (.ins A.kY dr [("lamps",wr l1),("parts",wr p1)])):=((bn hl1).trans (bn hp1)).trans (bn hr);generalize um (um (um M l1 (.dK (me pt))) p1 (.dK [])) r (.ins A.kY dr [("lamps",wr l1),("parts",wr p1)])=M1 at VR VN Qt sm0 ⊢;have fR1: [(("lamps" :Str),wr l1),(("parts" :Str),wr p1)].lookup ("lamps" :Str)=some (wr l1):=rfl;have fR2: [(("lamps" :Str),wr l1),(("parts" :Str),wr p1)].lookup ("parts" :Str)=some (wr p1):=rfl;rw[FW];dsimp? [];exact mB (λi ρ M'=>ρ= [some (wi p),some (wi 0),some (.tup []),some (fO pt),some (wr r),none,none] /\ M'=M1) #[rfl,rfl] (λ_ _ _ _ _=>trivial) ?_ ?_;intro i x ρ M' hx;cases hx;rintro ρ M' ⟨rfl,rfl⟩;dsimp? [Qt,clR,nR1,nR2,fR1,fR2,VR];intro u hu;have O2:(me pt).map (λkv=>W.tup [gO kv.1,kv.2])=pt.map du:=by unfold me;rw[bw];rfl
 rw[O2];exact#[u,p,pt,rfl,aq,p0,HY,by omega,?_];have hr1:=bn (o:= .lst (pt.map du)) hu _ _ Qt;have hp3:=bn (o:= .lst (pt.map du)) hu _ _ VN;have s2:=sm0.trans (bn (o:= .lst (pt.map du)) hu);generalize um M' u (.lst (pt.map du))=M2 at hr1 hp3 s2 ⊢;dsimp? [hr1,clR,nR1,nR2,fR1,fR2];exact#[p, -1,p1,rfl,hp3,λv M3 hv s3 hv3=> ?_];dsimp? [];rw[qJ p0 J_];show fK (k v M3 (s2.free hv) (s2.trans s3) hv3)
def zi (T:eK K mg A):bv P w K mg base ez 6 A.ui A.ur ["p","stride","stairs","pattern"] (fw K NS):=by
 exists T.rest_of.fn,["p","stride","stairs","pattern"],(ay (a_ (cW iK (aR T.taken (qH T) hr (aa (pv 0) (aa (pv 1) (aa (pv 2) (aa (pv 3) ag))))) aD (λ_ _=>rfl))))
 rintro vs M q ⟨p,pt,rfl,p0,J_,hl,k⟩;dsimp? [];exact#[p,pt,rfl,p0,J_,hl,λv M' _ sm _=> ?_];dsimp? [];show#[M,sm,k]
def l_ (T:eK K mg A):bv P w K mg base ez 1 A.oW A.pq ["self","end"] (fw K (Sr A.bE)):=by
 have cl:=ar T.Crew.cl;have n1:=ar T.n_Crew_stride;exists T.ou.fn,["self","end"],(ay (a_ (E9 (tT (a6 (pv 0) rfl)) (cJ vp (pv 1) (a6 (pv 0) rfl)) aD)))
 rintro vs M q ⟨o,dx,fs,s,e,rfl,ho,hs,s0,k⟩;dsimp? [ho,cl,n1,hs];unfold JS at k;exact vE (λh=> ?_) λh=> ?_;have hz:s≠0:=by simpa using h
 rw[ah hz] at k;show#[by simp[DG];lia,fK k];have hz:s=0:=by simpa using h
 rw[aj hz] at k;show fK k
def kN (T:eK K mg A):bv P w K mg base ez 6 A.mI A.mV ["self","lap","one"] (fw K (Jo A.bE)):=by
 have cl:=ar T.Crew.cl;have n1:=ar T.n_Crew_stride;have n2:=ar T.n_Crew_p;exists T.lD.fn,["self","lap","one"],(ay (a_ (aR T.joined (tW T) hr (aa (a6 (pv 0) rfl) (aa (pv 2) (aa (aR T.repeated (oN T) hr (aa (a6 (pv 0) rfl) (aa (pv 1) (aa (oM jq (cK T.ou (l_ T) (hr.mono ⋯) (pv 0) (aa (cW iK (pv 2) aD (λ_ _=>rfl)) ag))) ag)))) ag))))))
 rintro vs M q ⟨o,dx,p,v,w',z,fs,a,rfl,ho,ef,⟨hp,aP,al⟩,k⟩;have e1:fs.lookup ("p" :Str)=some (wi p):=by rw[ef];rfl
 have e2:fs.lookup ("stride" :Str)=some (wi 0):=by rw[ef];rfl
 have e3:fs.lookup ("laps" :Str)=none:=by rw[ef];rfl
 dsimp? [ho,cl,n1,n2,e1,uM];exact#[e3,?_];dsimp? [gd];exact#[o,dx,fs,0,a.1,rfl,ho,e2,#[⋯,⋯],?_];rw[show JS 0 a.1=0 from aj rfl];have AM:0<p /\ p<1000:=by omega
 dsimp? [];exact#[p,(0,[]), -0,rfl,AM.1,AM.2,de.nil,⋯,λh=>absurd rfl h,λr hr r0 _=> ?_];have er:r=(0,[]):=by have h1:=hr.en;exact Prod.ext ?_ (List.eq_nil_of_length_eq_zero (Nat.le_zero.mp (r0 rfl)));rw[h1];simp
 subst er;dsimp? [];exact#[p,a,(0,[]),rfl,AM.1,HY,by omega,⋯,?_];have e:jn p a (0,[])=a:=by unfold jn;exact Prod.ext (by simp) ?_;change nV p (a.2++mv a.1 [])=a.2;rw[show mv a.1 []= [] from rfl,cI];show qJ AM.1 aP
 rw[e];dsimp? [];show fK k
def vx (T:eK K mg A):bv P w K mg base ez 1 A.oX A.px ["self"] (fw K (NZ A.bE)):=by
 have cl:=ar T.Crew.cl;have n3:=ar T.n_Crew_stride;have n5:=ar T.n_Crew_stairs;have n7:=ar T.n_Crew_head;exists T.uG.fn,["self"],(ay (a_ (cx (aa (a6 (pv 0) rfl) (aa (a6 (pv 0) rfl) (aa (a6 (pv 0) rfl) ag))))))
 rintro vs M q ⟨o,dx,p,v,w,z,rfl,ho,k⟩;dsimp? [ho,cl,n3,n5,n7,Kz,T_,adQ,adR];show fK k
def sH (T:eK K mg A):bv P w K mg base ez 1 A.mH A.mU ["self"] (fw K (Jl A.bE)):=by
 have cl:=ar T.Crew.cl;have n3:=ar T.n_Crew_stride;have n5:=ar T.n_Crew_stairs;have z0:decide ((0:Int)=0)=true:=rfl;exists T.rY.fn,["self","many","place"],(am (db (ES (bO gf (a6 (pv 0) rfl) aD (cj _)) (za (bO xk (bP ol (by rfl) T.yf Boot.«len» (aa (a6 (pv 0) rfl) ag)) (a6 (pv 0) rfl) (cj _)))).pt (ay (a_ E7)) bN) eE)
 rintro vs M q ⟨o,dx,p,v,w,z,rfl,ho,k⟩;dsimp? [ho,cl,n3,n5,Kz,T_,z0];show fK k
def vv (T:eK K mg A):bv P w K mg base ez 7 A.oU A.pj ["self","one"] (fw K (NR A.bE)):=by
 have cl:=ar T.Crew.cl;have n1:=ar T.n_Crew_p;have n3:=ar T.n_Crew_stride;have n5:=ar T.n_Crew_stairs;have n7:=ar T.n_Crew_head;exists T.uE.fn,["self","one","end","pattern"],(am (dW (aR T.joined (tW T) hr (aa (a6 (pv 0) rfl) (aa (aR T.repeated (oN T) hr (aa (a6 (pv 0) rfl) (aa (a6 (pv 0) rfl) (aa (oM jq (cK T.ou (l_ T) (hr.mono ⋯) (pv 0) (aa (cW iK (pv 1) aD (λ_ _=>rfl)) ag))) ag)))) (aa (pv 1) ag)))) (dv (n:=2) rfl (a8 (aX (i:=2) nd rfl (by trivial)) (a8 (aX (i:=3) nd rfl (by trivial)) cS)))) (ay (a_ (cx (aa (pv 2) (aa (aR T.rest_of (zi T) hr (aa (a6 (pv 0) rfl) (aa (a6 (pv 0) rfl) (aa (a6 (pv 0) rfl) (aa (pv 3) ag))))) ag))))))
 rintro vs M q ⟨o,dx,p,v,w',z,fs,a,rfl,ho,ef,⟨hp,aP,al⟩,k⟩;have e1:fs.lookup ("p" :Str)=some (wi p):=by rw[ef];rfl
 have e2:fs.lookup ("stride" :Str)=some (wi 0):=by rw[ef];rfl
 have e3:fs.lookup ("laps" :Str)=none:=by rw[ef];rfl
 have e4:fs.lookup ("head" :Str)=some (gd (0,[])):=by rw[ef];rfl
 have e5:fs.lookup ("stairs" :Str)=some (.tup []):=by rw[ef];rfl
 dsimp? [ho,cl,n1,n3,n5,n7,e1,e2,e4,e5,uM];exact#[e3,?_];dsimp? [gd];exact#[o,dx,fs,0,a.1,rfl,ho,e2,#[⋯,⋯],?_];rw[show JS 0 a.1=0 from aj rfl];have AM:0<p /\ p<1000:=by omega
 dsimp? [];exact#[p,(0,[]), -0,rfl,AM.1,AM.2,de.nil,⋯,λh=>absurd rfl h,λr hr r0 _=> ?_];have er:r=(0,[]):=by have h1:=hr.en;exact Prod.ext ?_ (List.eq_nil_of_length_eq_zero (Nat.le_zero.mp (r0 rfl)));rw[h1];simp
 subst er;dsimp? [];exact#[p,(0,[]),a,rfl,AM.1,HY,⋯,by omega,?_];have e:jn p (0,[]) a=a:=by unfold jn;exact Prod.ext (by simp) ?_;change nV p ([]++mv 0 a.2)=a.2;rw[JM,List.nil_append];show qJ AM.1 aP
 rw[e];dsimp? [gd,ho,cl,n1,n3,n5,e1,e2,e5];exact#[p,a.2,rfl,AM.1,aP,al,?_];dsimp? [];show fK k
def vw (T:eK K mg A):bv P w K mg base ez 7 A.oV A.pk ["self","one"] (fw K (NW A.bE)):=by
 have cl:=ar T.Crew.cl;have n1:=ar T.n_Crew_p;have n3:=ar T.n_Crew_stride;have n5:=ar T.n_Crew_stairs;have n7:=ar T.n_Crew_head;exists T.uF.fn,["self","one","end","pattern","rest","parts","lines","at","ats","draft","things"],(am (dW (cK T.lD (kN T) (hr.mono ⋯) (pv 0) (aa (a6 (pv 0) rfl) (aa (pv 1) ag))) (dv (n:=2) rfl (a8 (aX (i:=2) nd rfl (by trivial)) (a8 (aX (i:=3) nd rfl (by trivial)) cS)))) (am (dW (aR T.taken (qH T) hr (aa (a6 (pv 0) rfl) (aa (a6 (pv 0) rfl) (aa (a6 (pv 0) rfl) (aa (pv 3) ag))))) (dv (n:=2) rfl (a8 (aX (i:=4) nd rfl (by trivial)) (a8 (aX (i:=5) nd rfl (by trivial)) cS)))) (am (db (ES (bO Fo (pv 2) aD (cj _)) (za (tT (pv 4)))).pt (ay (a_ E7)) bN) eE)))
 rintro vs M q ⟨o,dx,p,v,w',z,fs,a,rfl,ho,ef,⟨hp,aP,al⟩,jm,k⟩;have e1:fs.lookup ("p" :Str)=some (wi p):=by rw[ef];rfl
 have e2:fs.lookup ("stride" :Str)=some (wi 0):=by rw[ef];rfl
 have e3:fs.lookup ("level" :Str)=none:=by rw[ef];rfl
 have e4:fs.lookup ("head" :Str)=some (gd (0,[])):=by rw[ef];rfl
 have e5:fs.lookup ("stairs" :Str)=some (.tup []):=by rw[ef];rfl
 dsimp? [ho,cl,n1,n3,n5,n7,e1,e2,e4,e5,uM];exact#[e3,?_];have AM:0<p /\ p<1000:=by omega
 dsimp? [];exact#[o,dx,p,v,w',z,fs,a,rfl,ho,ef,#[hp,aP,al],?_];dsimp? [gd,ho,cl,n1,n3,n5,e1,e2,e5];exact#[p,a.2,rfl,AM.1,aP,al,λt M' _ sm _=> ?_];dsimp? [fO];by_cases h0:a.1=0;have d1:decide (a.1=0)=true:=b_ h0;have h2:a.2≠ []:=λh=>jm (Prod.ext h0 h);have d2:(a.2.map du).isEmpty=false:= ⇑h2;dsimp? [d1,d2,cf,cF];show#[M,sm,k];have d1:decide (a.1=0)=false:=bg h0;dsimp? [d1,cF];show#[M,sm,k]
def Jx (T:eK K mg A):bv P w K mg base ez 8 A.GF A.G2 ["self","p","members"] (fw K (N5 A.bE)):=by
 have cl:=ar T.Crew.cl;have n1:=ar T.n_Crew_p;have n2:=ar T.n_Crew_rounds;have n3:=ar T.n_Crew_stride;have n4:=ar T.n_Crew_way;have n5:=ar T.n_Crew_stairs;have n6:=ar T.n_Crew_makers;have n7:=ar T.n_Crew_head;have n8:=ar T.n_Crew_surplus;exists T.Crew.fn,["self","p","members","ends","lap","stairs","makers","rest","surplus"],(am (c5 (aR T.check_members (nT T) hr (aa (pv 2) ag))) (am (dG (pv 0) (pv 1) rfl) (am (dG (pv 0) (dC gG (by rfl) T.qg Boot.«tuple» (aa (pv 2) ag)) rfl) (am (zc (i:=3) rfl nd rfl (Or.inl rfl) (c_.of (sc:=aE u9) (N:= ["self","p","members","ends","lap","stairs","makers","rest","surplus"]) (own:= ["end","pattern"]) (fr:= []) (N':= ["end","pattern"])) (ed (pv 2)) (λ_ _ _ _=>(dv (n:=2) rfl (a8 (aX (i:=0) (by change(["end","pattern"]:cz Str).Nodup;decide+kernel) rfl (by trivial)) (a8 (aX (i:=1) (by change(["end","pattern"]:cz Str).Nodup;decide+kernel) rfl (by trivial)) cS)))) m_ (λ_ _ _ _=>dq) (λ_ _ _ _=>(pv 0)) rfl) (am (dG (pv 0) (aR T.greatest_divisor (ku T) hr (aa (pv 3) ag)) rfl) (am (dG (pv 0) (aR T.row_to (Co T) hr (aa (pv 3) (aa (a6 (pv 0) rfl) ag))) rfl) (am (4\(aR T.gone_row (xn T) hr (aa (pv 1) (aa (pv 2) (aa (a6 (pv 0) rfl) ag))))) (am (dW (aR T.built (Fv T) hr (aa (pv 1) (aa (a6 (pv 0) rfl) (aa (eU rfl (c_.of (sc:=aE u9) (N:= ["self","p","members","ends","lap","stairs","makers","rest","surplus"]) (own:= ["one"]) (fr:= [4,0]) (N':= ["one","lap","self"])) (ed (pv 2)) (λ_ _ _ _=>(aX (i:=0) (by change(["one","lap","self"]:cz Str).Nodup;decide+kernel) rfl (by trivial))) eJ (λ_ _ _ _=>dq) (λ_ _ _ _=>((cK T.lD (kN T) (hr.mono ⋯) (pv 2) (aa (pv 1) (aa (pv 0) ag)))∪aD))) ag)))) (dv (n:=2) rfl (a8 (aX (i:=5) nd rfl (by trivial)) (a8 (aX (i:=6) nd rfl (by trivial)) cS)))) (am (dG (pv 0) (pv 5) rfl) (am (dG (pv 0) (pv 6) rfl) (am (dW (aR T.taken (qH T) hr (aa (pv 1) (aa (a6 (pv 0) rfl) (aa (pv 5) (aa (cW iK (pv 4) aD (λ_ _=>rfl)) ag))))) (dv (n:=2) rfl (a8 (aX (i:=7) nd rfl (by trivial)) (a8 (aX (i:=8) nd rfl (by trivial)) cS)))) (am (dG (pv 0) (cx (aa (a6 (pv 0) rfl) (aa (pv 7) ag))) rfl) (ay (dG (pv 0) (pv 8) rfl))))))))))))))
 rintro vs M q ⟨o,dx,u,p,rfl,ho,hu,XR,hp,k⟩;have AM:0<p /\ p<1000:=by omega
 have e1:dQ "p" (wi p) []= [(("p" :Str),wi p)]:=rfl;have c1:dQ "rounds" (.tup []) [(("p" :Str),wi p)]=KC p []:=rfl;have c2:dQ "stride" (wi 0) (KC p [])=Ie p [] 0:=rfl;dsimp? [];exact#[u,rfl,hu,?_];dsimp? [ho,cl,n1,n2,e1,c1,Nat.reduceLT,aT (bD XR),hu,bL];have o1:um M o (.ins A.bE dx (KC p [])) o=some (.ins A.bE dx (KC p [])):=aq;have u1:um M o (.ins A.bE dx (KC p [])) u=some (.lst []):=by rw[aT (bD XR)];show hu
 have k1: ∀b ob,b≠o ->M b=some ob ->um M o (.ins A.bE dx (KC p [])) b=some ob:=λb ob n h=>by rw[aT n];show h
 generalize um M o (.ins A.bE dx (KC p []))=M1 at o1 u1 k1 ⊢;exact fH (l:=([]:cz Int)) (fW:=wi) (λ_=>wn) ⋯ (λM s=>s _ _ u1) (λa ha=>nomatch ha) λt ht=> ?_;have nto:o≠t:=cR o1 ht;dsimp? [];exact#[t,rfl,aq,?_];dsimp? [aT nto,o1,cl,n3,c2,Uf,Nat.reduceLT];have o2:um (um M1 t (.lst [])) o (.ins A.bE dx (Ie p [] 0)) o=some (.ins A.bE dx (Ie p [] 0)):=aq;have k2: ∀b ob,b≠o ->M b=some ob ->um (um M1 t (.lst [])) o (.ins A.bE dx (Ie p [] 0)) b=some ob:=λb ob n h=>by rw[aT n];show bn ht _ _ (k1 b ob n h)
 have t2:um (um M1 t (.lst [])) o (.ins A.bE dx (Ie p [] 0)) t=some (.lst []):=by rw[aT (bD nto),aq]
 generalize um (um M1 t (.lst [])) o (.ins A.bE dx (Ie p [] 0))=M2 at o2 k2 t2 ⊢;dsimp? [o2,cl,n3,adU];exact#[t,rfl,t2,λv M3 fv s3 hv=> ?_];have o3:=s3 _ _ o2;have nvo:o≠v:=cR o2 fv;dsimp? [o3,cl,n4,adY,Ue,Nat.reduceLT];have o4:um M3 o (.ins A.bE dx (G8 p [] 0 v)) o=some (.ins A.bE dx (G8 p [] 0 v)):=aq;have k4: ∀b ob,b≠o ->M b=some ob ->um M3 o (.ins A.bE dx (G8 p [] 0 v)) b=some ob:=λb ob n h=>by rw[aT n];show s3 _ _ (k2 b ob n h)
 have v4:um M3 o (.ins A.bE dx (G8 p [] 0 v)) v=some (.lst []):=by rw[aT (bD nvo)];show hv
 generalize um M3 o (.ins A.bE dx (G8 p [] 0 v))=M4 at o4 k4 v4 ⊢;have u4:=k4 u _ (bD XR) hu;dsimp? [o4,cl,n4,Uh];exact#[p,u,v,rfl,v4,?_];dsimp? [o4,cl,n3,adT,u4];exact fH (l:=([]:cz Int)) (fW:=wi) (λ_=>wn) ⋯ (λM s=>s _ _ u4) (λa ha=>nomatch ha) λt' xz=> ?_;have o5:=bn (o:= .lst []) xz _ _ o4;have t5:um M4 t' (.lst []) t'=some (.lst []):=aq;have k5: ∀b ob,b≠o ->M b=some ob ->um M4 t' (.lst []) b=some ob:=λb ob n h=>bn xz _ _ (k4 b ob n h);dsimp? [];exact#[p,t',rfl,t5,λv2 M6 _ s6 Qs=> ?_];have o6:=s6 _ _ o5;have k6: ∀b ob,b≠o ->M b=some ob ->M6 b=some ob:=λb ob n h=>s6 _ _ (k5 b ob n h);have d5:dQ "stairs" (.tup []) (G8 p [] 0 v)=V4 p [] 0 v []:=rfl;dsimp? [o6,cl,n5,n6,d5,adX,Ud,Uc,Nat.reduceLT,aq,gx,n3,Ug,gd];have o7:um M6 o (.ins A.bE dx (KA p [] 0 v [] v2)) o=some (.ins A.bE dx (KA p [] 0 v [] v2)):=aq;have k7: ∀b ob,b≠o ->M b=some ob ->um M6 o (.ins A.bE dx (KA p [] 0 v [] v2)) b=some ob:=λb ob n h=>by rw[aT n];show k6 b ob n h
 generalize um M6 o (.ins A.bE dx (KA p [] 0 v [] v2))=M7 at o7 k7 ⊢;exact#[p,[],rfl,AM.1,de.nil,⋯,λt3 M8 _ s8 _=> ?_];have o8:=s8 _ _ o7;have k8: ∀b ob,b≠o ->M b=some ob ->M8 b=some ob:=λb ob n h=>s8 _ _ (k7 b ob n h);dsimp? [o8,cl,n3,n7,n8,Ug,adW,adV,Ub,Ua,Nat.reduceLT,aq,gx];show fK (k _ v v2 t3 aq λb ob n h=>by rw[aT n];show k8 b ob n h)
def kM (T:eK K mg A):bv P w K mg base (gv P w) 1 A.mG A.mT ["name"] (sw K (N6 A.kj)):=by
 exact xp T.check_name.fn kF (by rintro vs M q e ⟨n,rfl,_⟩;rfl) λcdv A' outer s H E e hr hF hP=> ?_;have nd:=kF.nd;exact#[_,(ay (db (ES (nO (EW AN AN aD (bP uw (by rfl) T.yf Boot.«len» (aa (pv 0) ag)) (dR (by rfl) T.jp.choose_spec (show RelV (.int 12) _ from#[_,rfl])))) (za (jD (bP (ux rfl) (by rfl) T.MG Boot.«any» (aa (eU rfl (c_.of (sc:=aE fU) (N:= ["name"]) (own:= ["sign"]) (fr:= []) (N':= ["sign"])) (NI (pv 0)) (λ_ _ _ _=>(aX (i:=0) (by change(["sign"]:cz Str).Nodup;decide+kernel) rfl (by trivial))) eJ (λ_ _ _ _=>dq) (λ_ _ _ _=>(fq Cn (pv 0) (dR (by rfl) T.BV.choose_spec (show RelV (.str "abcdefghijklmnopqrstuvwxyz") _ from#[_,rfl])) (by rfl)))) ag))))).pt (ay (eG hF rfl (by rfl) T.BS (aa (iE (dB cV (dB (E_ (dR (by rfl) T.jp.choose_spec (show RelV (.int 12) _ from#[_,rfl]))) (dB cV li)))) ag))) bN)),?_];try dsimp only[dE]
 exact#[_,inferInstance,?_];rintro vs M q ⟨n,rfl,ha,hl,kq,ke⟩;have hz:n.length<=sizeLine:=df (by omega);have S2:(n.length<=sizeLine)=True:=ar hz;dsimp? [S2];by_cases h1:1<=n.length
 .have e1:decide (1<=(n.length:Int))=true:=b_ (by omega);by_cases h2:n.length<=12
  .have e2:decide ((n.length:Int) <=12)=true:=b_ (by omega);dsimp? [e1,e2,ha,cf];exact fH (λc=>wb (!JC c Ij)) (by unfold EA;rw[ao, <- str_len];show hz) (λ_ _=>trivial) ?_ λu hu=> ?_;intro c hc M3 N3 s3 Bb;dsimp? [];show Bb;exact#[u,(EA n).map λc=> !JC c Ij,rfl,by rw[aq,bw];rfl,?_];have e3:((EA n).map λc=> !JC c Ij).any id= !dc n:=by have d1:decide (1<=n.length)=true:=b_ h1;have d2:decide (n.length<=12)=true:=b_ h2;unfold dc;rw[d1,d2,List.any_map,Bool.true_and,Bool.true_and,List.not_all_eq_any_not];rfl
   rw[e3];dsimp? [];cases hn:dc n with
   | true=> dsimp? [cf];show#[M,bn hu,kq hn]
   | false=> dsimp? [cF];(repeat (exact#[by first | decide | decide+kernel,?_]));show#[M,bn hu,ke hn]
  .have e2:decide ((n.length:Int) <=12)=false:=bg (by omega);dsimp? [e1,e2,cF];(repeat (exact#[by first | decide | decide+kernel,?_]));show#[M,Sm.refl M,ke (by unfold dc;rw[bg h2];simp)]
 .have e1:decide (1<=(n.length:Int))=false:=bg (by omega);dsimp? [e1];(repeat (exact#[by first | decide | decide+kernel,?_]));show#[M,Sm.refl M,ke (by unfold dc;rw[bg h1];simp)]
def kK (T:eK K mg A):bv P w K mg base ez 1 A.mD A.mQ ["things","name","thing"] (fw K NN):=by
 exists T.with_thing.fn,["things","name","thing","changed"],(am (3\(dC rL (by rfl) T.zT Boot.«dict» (aa (pv 0) ag))) (am (AG (fc hr) (pv 3) (pv 1) (pv 2) rfl) (ay (a_ (pv 3)))))
 rintro vs M q ⟨d,kvs,n,x,rfl,hd,hl,k⟩;dsimp? [hd];intro u hu;have hs:(kvs.length<sizeLine)=True:=ar (zS (by omega));exact eV ?_; simp? [↓dj,hs];show fK (k u hu)
def qF (T:eK K mg A):bv P w K mg base ez 1 A.uh A.uq ["things","name"] (fw K Fh):=by
 exists T.without.fn,["things","name","changed"],(am (2\(dC rL (by rfl) T.zT Boot.«dict» (aa (pv 0) ag))) (am (I_ (pv 2) (pv 1)) (ay (a_ (pv 2)))))
 rintro vs M q ⟨d,kvs,n,rfl,hd,hl,k⟩;dsimp? [hd];intro u hu;exact eV ?_; simp? [↓dj,hl];show fK (k u hu)
def l9 (T:eK K mg A):bv P w K mg base ez 1 A.GC A.G1 ["self","rounds","teams"] (fw K (Sq A.bx)):=by
 have cl:=ar T.Page.cl;have n1:=ar T.n_Page_rounds;have n2:=ar T.n_Page_teams;exists T.Page.fn,["self","rounds","teams"],(am (dG (pv 0) (pv 1) rfl) (ay (dG (pv 0) (pv 2) rfl)))
 rintro vs M q ⟨s,dx,r,t,rfl,hs,k⟩;have e1:dQ "rounds" (wr r) []= [(("rounds" :Str),wr r)]:=rfl;have e2:dQ "teams" (wr t) [(("rounds" :Str),wr r)]=jE r t:=rfl;dsimp? [hs,cl,n1,n2,e1,e2,Nat.reduceLT];show fK k
def Jy (T:eK K mg A):bv P w K mg base ez 3 A.GG A.G3 ["self","p"] (fw K (Su A.aZ A.bx)):=by
 have cl:=ar T.Book.cl;have n1:=ar T.n_Book_p;have n2:=ar T.n_Book_now;have n3:=ar T.n_Book_past;have n4:=ar T.n_Book_undone;have n5:=ar T.n_Book_held;exists T.Book.fn,["self","p"],(am (db (bO vo (pv 1) (Jf (by rfl) T.Ei) (by rfl)) (ay xg) bN) (am (dG (pv 0) (pv 1) rfl) (am (dG (pv 0) (fB T.Page (l9 T) (hr.mono ⋯) (by rfl) (aa jF (aa jF ag))) rfl) (am (dG (pv 0) (eR ag) rfl) (am (dG (pv 0) (eR ag) rfl) (ay (dG (pv 0) (eR ag) rfl)))))))
 rintro vs M q ⟨s,dx,p,rfl,hp,hs,k⟩;dsimp? [];exact#[.int p,[.int 2, .int 3, .int 5, .int 7],rfl, .inl rfl,rfl,rfl,?_];have HS:(if true=true then !DJ (.int p) [.int 2, .int 3, .int 5, .int 7] else DJ (.int p) [.int 2, .int 3, .int 5, .int 7])=false:=by obtain rfl | rfl | rfl | rfl:=hp <;>decide+kernel
 rw[HS];have e1:dQ "p" (wi p) []= [(("p" :Str),wi p)]:=rfl;dsimp? [hs,cl,n1,e1,Nat.reduceLT];intro r qZ;dsimp? [];intro t ht;dsimp? [];intro pg kA lp Gp jm;exact#[pg,kA,r,t,rfl,aq,rfl,?_];have h1:Fs s M (um M s (.ins A.aZ dx [("p",wi p)])):=Fs.self;have h2:=h1.new (o:= .dK []) qZ;have h3:=h2.new (o:= .dK []) ht;have h4:=(h3.new (o:= .ins A.bx kA []) lp)
 have Vx:s≠r:=cR aq qZ;have XQ:s≠t:=cR (by rw[aT Vx];show aq) ht;have nps:s≠pg:=cR (by rw[aT XQ,aT Vx];show aq) lp;have nrt:r≠t:=cR aq ht;have nrp:r≠pg:=cR (by rw[aT nrt];show aq) lp;have ntp:t≠pg:=cR aq lp;have f5:Fs s M (um (um (um (um (um M s (.ins A.aZ dx [("p",wi p)])) r (.dK [])) t (.dK [])) pg (.ins A.bx kA [])) pg (.ins A.bx kA (jE r t))):=by rw[gx];show h3.new lp
 have g1:(um (um (um (um (um M s (.ins A.aZ dx [("p",wi p)])) r (.dK [])) t (.dK [])) pg (.ins A.bx kA [])) pg (.ins A.bx kA (jE r t))) s=some (.ins A.aZ dx [("p",wi p)]):=by rw[gx,aT nps,aT XQ,aT Vx];show aq
 have g2:(um (um (um (um (um M s (.ins A.aZ dx [("p",wi p)])) r (.dK [])) t (.dK [])) pg (.ins A.bx kA [])) pg (.ins A.bx kA (jE r t))) r=some (.dK []):=by rw[gx,aT nrp,aT nrt];show aq
 have g3:(um (um (um (um (um M s (.ins A.aZ dx [("p",wi p)])) r (.dK [])) t (.dK [])) pg (.ins A.bx kA [])) pg (.ins A.bx kA (jE r t))) t=some (.dK []):=by rw[gx,aT ntp];show aq
 have g4:(um (um (um (um (um M s (.ins A.aZ dx [("p",wi p)])) r (.dK [])) t (.dK [])) pg (.ins A.bx kA [])) pg (.ins A.bx kA (jE r t))) pg=some (.ins A.bx kA (jE r t)):=aq;generalize (um (um (um (um (um M s (.ins A.aZ dx [("p",wi p)])) r (.dK [])) t (.dK [])) pg (.ins A.bx kA [])) pg (.ins A.bx kA (jE r t)))=M4 at f5 g1 g2 g3 g4;clear h1 h2 h3 h4 qZ ht lp Gp;have e2:dQ "now" (wr pg) [(("p" :Str),wi p)]= [(("p" :Str),wi p),("now",wr pg)]:=rfl;dsimp? [g1,cl,n2,e2,aI,List.length_nil,Nat.reduceLT];intro la yH;have FA:s≠la:=cR aq yH;have e3:dQ "past" (wr la) [(("p" :Str),wi p),("now",wr pg)]= [(("p" :Str),wi p),("now",wr pg),("past",wr la)]:=rfl;dsimp? [aT FA,cl,n3,e3,aI,List.length_nil,Nat.reduceLT];intro lu uc;have Ol:s≠lu:=cR aq uc;have JI:la≠lu:=cR (by rw[aT FA.symm];show aq) uc;have e4:dQ "undone" (wr lu) [(("p" :Str),wi p),("now",wr pg),("past",wr la)]= [(("p" :Str),wi p),("now",wr pg),("past",wr la),("undone",wr lu)]:=rfl;dsimp? [aT Ol,cl,n4,e4,aI,List.length_nil,Nat.reduceLT];intro lh Gi;have Qm:s≠lh:=cR aq Gi;have Om:la≠lh:=cR (by rw[aT FA.symm,aT JI,aT FA.symm];show aq) Gi;have Oj:lu≠lh:=cR (by rw[aT Ol.symm];show aq) Gi;have e5:dQ "held" (wr lh) [(("p" :Str),wi p),("now",wr pg),("past",wr la),("undone",wr lu)]=dH p pg la lu lh:=rfl;dsimp? [aT Qm,cl,n5,e5,aI,List.length_nil,Nat.reduceLT];have F:=((((((Fs.self (M:=M4) (s:=s)).new yH (o:= .lst [])).put (o:= .ins A.aZ dx [(("p" :Str),wi p),("now",wr pg),("past",wr la)])).new uc (o:= .lst [])).put (o:= .ins A.aZ dx [(("p" :Str),wi p),("now",wr pg),("past",wr la),("undone",wr lu)])).new Gi (o:= .lst [])).put (o:= .ins A.aZ dx (dH p pg la lu lh));exact fK (k _ la lu lh pg #[#[dx,aq],?_,?_,?_,#[JI,Om,Oj],kA,r,t,F _ _ g4 nps.symm,F _ _ g2 Vx.symm,F _ _ g3 XQ.symm] (f5.trans F) ?_ ?_ ?_ FA.symm);rw[aT FA.symm,aT Om,aT FA.symm,aT JI,aT FA.symm];show aq;rw[aT Ol.symm,aT Oj,aT Ol.symm];show aq;rw[aT Qm.symm];show aq;rw[aT FA.symm] at yH;show f5.free yH FA.symm;rw[aT Ol.symm,aT JI.symm,aT Ol.symm] at uc;show f5.free uc Ol.symm;rw[aT Qm.symm,aT Oj.symm,aT Qm.symm,aT Om.symm,aT Qm.symm] at Gi;show f5.free Gi Qm.symm
def jH (T:eK K mg A):bv P w K mg base ez 1 A.kW A.kX ["one","farthest_end","farthest_place"] (fw K Fi):=by
 exists T.lies_within.fn,["one","farthest_end","farthest_place","end","pattern"],(am (dW (pv 0) (dv (n:=2) rfl (a8 (aX (i:=3) nd rfl (by trivial)) (a8 (aX (i:=4) nd rfl (by trivial)) cS)))) (ay (a_ (Ff (fq AN (bP kh (by rfl) T.BL Boot.«abs» (aa (pv 3) ag)) (pv 1) (cj _)) (E6 (bP (Dg rfl) (by rfl) T.Uk Boot.«all» (aa (eU rfl (c_.of (sc:=aE gI) (N:= ["one","farthest_end","farthest_place","end","pattern"]) (own:= ["place","setting"]) (fr:= [2]) (N':= ["place","setting","farthest_place"])) (nP (pv 4)) (λ_ _ _ _=>(dv (n:=2) rfl (a8 (aX (i:=0) (by change(["place","setting","farthest_place"]:cz Str).Nodup;decide+kernel) rfl (by trivial)) (a8 (aX (i:=1) (by change(["place","setting","farthest_place"]:cz Str).Nodup;decide+kernel) rfl (by trivial)) cS)))) m_ (λ_ _ _ _=>dq) (λ_ _ _ _=>(fq AN (bP kh (by rfl) T.BL Boot.«abs» (aa (pv 0) ag)) (pv 2) (cj _)))) ag)))))))
 rintro vs M q ⟨a,e,r,rfl,hl,k⟩;have sm: ∀u o,M u=none ->Sm M (um M u o):=λu o h=>bn h;have ef:pQ a e r= !(decide ((if a.1<0 then -a.1 else a.1) <=e) && a.2.all λz=>decide ((if z.1<0 then -z.1 else z.1) <=r)):=rfl;dsimp? [gd,fO];cases h1:decide ((if a.1<0 then -a.1 else a.1) <=e) with
 | false=>rw[h1,Bool.false_and] at ef;rw[ef] at k;dsimp? [];show fK k
 | true=>rw[h1,Bool.true_and] at ef;rw[ef,Bool.not_not] at k;dsimp? [];exact fH (λz=>wb (decide ((if z.1<0 then -z.1 else z.1) <=r))) (big (by omega)) (λ_ _=>trivial) ?_ λu hu=> ?_;intro z hz M3 N3 s3 Bb;dsimp? [du];show Bb;exact#[u,a.2.map λz=>decide ((if z.1<0 then -z.1 else z.1) <=r),rfl,by rw[aq,bw];rfl,?_];rw[List.all_map];show#[M,bn hu,k]
def vt (T:eK K mg A):bv P w K mg base ez 2 A.oT A.pi ["one"] (fw K N1):=by
 exists T.fits_crew.fn,["one"],(ay (a_ (aR T.lies_within (jH T) hr (aa (pv 0) (aa (dR (by rfl) T.qo.choose_spec (show RelV (.int 8) _ from#[_,rfl])) (aa (dR (by rfl) T.nE.choose_spec (show RelV (.int 24) _ from#[_,rfl])) ag))))))
 rintro vs M q ⟨a,rfl,hl,k⟩;dsimp? [];show#[a,8,24,rfl,hl,fK k]
def eg (T:eK K mg A):bv P w K mg base ez 1 A.jP A.jU ["self","page"] (fw K (Si A.aZ A.bx)):=by
 have cl:=ar T.Book.cl;have n2:=ar T.n_Book_now;have n3:=ar T.n_Book_past;have n4:=ar T.n_Book_undone;exists T.eX.fn,["self","page"],(am (c5 (tV PySem.F.plainAttrs_list PySem.F.slot_list_append PySem.F.type_list_append hW (a6 (pv 0) rfl) (aa (a6 (pv 0) rfl) ag))) (am (dG (pv 0) (eR ag) rfl) (ay (dG (pv 0) (pv 1) rfl))))
 rintro vs M q ⟨b,la,lu,lh,now,pg,p,pa,un,he,R,T',R',T1,rfl,hB,hP,hl,k⟩;let⟨dx,hb⟩:=hB.ob;have hs:((pa.map wr).length<sizeLine)=True:=ar (zS (by rw[ao];omega));have ha:=hB.pa;have XU:b≠la:=λz=>by subst z;rw[hb] at ha;cases ha
 dsimp? [hb,cl,n2,n3,n4,io,ad2,ha,hs];intro kx hu;have XW:la≠kx:=cR aq hu;have nbu:b≠kx:=cR (by rw[aT XU];show hb) hu;dsimp? [aT nbu,aT XU,hb,cl,n2,n4,ad1,adZ,ad0];have Ym:M kx=none:=by rwa [aT XW.symm] at hu
 have F:Ds b la M (um (um (um M la (.lst (pa.map wr++ [wr now]))) kx (.lst [])) b (.ins A.aZ dx (dH p pg la kx lh))):=λa o h n1 n2=>by rw[aT n1,aT (cR h Ym),aT n2];show h
 have hh:=hB.he;exact fK (k _ kx #[#[dx,aq],?_,?_,F _ _ hh (λz=>by subst z;rw[hb] at hh;cases hh) hB.ne.2.1.symm,#[XW,hB.ne.2.1,(cR hh Ym).symm],F.pg hb ha hP] F Ym);rw[aT XU.symm,aT XW,aq,bA];rfl;rw[aT nbu.symm];show aq
def hU (T:eK K mg A):bv P w K mg base ez 1 A.i_ A.je ["self","name"] (fw K (Cm A.aZ A.bx)):=by
 have cl:=ar T.Book.cl;have m7:=ar T.Page.cl;have n2:=ar T.n_Book_now;have n3:=ar T.n_Page_teams;exists T.gS.fn,["self","name"],(ay (a_ (bP (ux rfl) (by rfl) T.MG Boot.«any» (aa (Jd (eU rfl (c_.of (sc:=aE fN) (N:= ["self","name"]) (own:= ["team"]) (fr:= [1]) (N':= ["team","name"])) (Jc (a6 (a6 (pv 0) rfl) rfl)) (λ_ _ _ _=>(aX (i:=0) (by change(["team","name"]:cz Str).Nodup;decide+kernel) rfl (by trivial))) eJ (λ_ _ _ _=>dq) (λ_ _ _ _=>(fq (Ob (K:=K) rfl) (pv 1) (pv 0) (by rfl))))) ag))))
 rintro vs M q ⟨b,la,lu,lh,now,p,pa,un,he,R,T',n,rfl,hB,hl,k⟩;let⟨dx,hb⟩:=hB.ob;let⟨kA,r,t,h1,h2,h3⟩:=hB.pg;dsimp? [];exact#[t,_,h3,?_];dsimp? [hb,h1,cl,m7,n2,n3,io,lj,h3];intro o ks;rw[Eh];exact fH (λz=>wb (OH n z.2)) (big (by omega)) (λM2 s2=>s2 _ _ aq) ?_ λu hu=> ?_;intro z hz M3 N3 s3 Bb;dsimp? [];show J5 Bb;have nut:t≠u:=cR aq hu;exact#[o,ks,_,by rw[aT nut];show aq,u,T'.map λz=>OH n z.2,rfl,by rw[aT nut.symm,aq,bw];rfl,M,Iz h3 hu,?_];rw[List.any_map];show k
def xo (T:eK K mg A):bv P w K mg base (gv P w) 4 A.rf A.rF ["self","name","one"] (sw K (NT A.aZ A.bx A.jZ)):=by
 have cl:=ar T.Book.cl;have m7:=ar T.Page.cl;have n2:=ar T.n_Book_now;have n3:=ar T.n_Page_teams;have n4:=ar T.n_Page_rounds;exact xp T.yE.fn oC (by rintro vs M q e ⟨b,la,lu,lh,now,p,pa,un,he,R,T',n,a,rfl,_⟩;rfl) λcdv A' outer s H E e hr hF hP=> ?_;have nd:=oC.nd;exact#[_,(am (db (nO (jD (aR T.lies_within (jH T) hr (aa (pv 2) (aa (dR (by rfl) T.lc.choose_spec (show RelV (.int 200) _ from#[_,rfl])) (aa (dR (by rfl) T.lc.choose_spec (show RelV (.int 200) _ from#[_,rfl])) ag)))))) (ay (eG hF rfl (by rfl) T.wv (aa (iE (dB cV (dB (E_ (dR (by rfl) T.lc.choose_spec (show RelV (.int 200) _ from#[_,rfl]))) (dB cV li)))) ag))) bN) (am (db (qB (jD (cK T.gS (hU T) (hr.mono ⋯) (pv 0) (aa (pv 1) ag))) (l0 (nO (jD (aR T.fits_crew (vt T) hr (aa (pv 2) ag)))))).pt (ay (eG hF rfl (by rfl) T.wv (aa cV ag))) bN) (ay (c5 (cK T.eX (eg T) (hr.mono ⋯) (pv 0) (aa (fB T.Page (l9 T) (hr.mono ⋯) (by rfl) (aa (aR T.with_thing (kK T) hr (aa (a6 (a6 (pv 0) rfl) rfl) (aa (pv 1) (aa (pv 2) ag)))) (aa (a6 (a6 (pv 0) rfl) rfl) ag))) ag)))))),?_];try dsimp only[dE]
 exact#[_,inferInstance,?_];rintro vs M q ⟨b,la,lu,lh,now,p,pa,un,he,R,T',n,a,rfl,hB,hl,hlR,hlT,yH,kq,ke⟩;let⟨dx,hb⟩:=hB.ob;let⟨kA,r,t,h1,h2,h3⟩:=hB.pg;have up: ∀C,e C M ->WL.up e C M:=λC h=>#[M,Sm.refl M,h]
 dsimp? [];exact#[a,200,200,rfl,yH,?_];cases hf:pQ a 200 200 with
 | true=>dsimp? [cf,cF];(repeat (exact#[by first | decide | decide+kernel,?_]));show up _ (ke (by unfold gK;rw[hf];rfl))
 | false=>
  dsimp? [cf,cF,hb,pH];exact#[b,la,lu,lh,now,p,pa,un,he,R,T',n,rfl,hB,hlT,?_];cases hu:wB T' n with
  | false=>
   have Pc:gK T' n a=false:=by unfold gK;rw[hf,hu];rfl
   dsimp? [hb,h1,cl,m7,n2,n3,n4,io,lj,l5,gq];rw[gw];dsimp? [hb,h1,cl,m7,n2,n3,n4,io,lj,l5];exact#[r,_,n,_,rfl,h2,by rw[uS];omega,λu hu=> ?_];have Tc:=cR hb hu;have wu:=cR h1 hu;dsimp? [aT Tc,aT wu,hb,h1,cl,m7,n2,n3,n4,io,lj,l5];intro pg vN lp Gp jm;rw[ve] at lp ⊢;exact#[pg,vN,u,t,rfl,aq,rfl,?_];rw[gx];have s2:=(bn hu (o:= .dK (pX gd (l4 R n a)))).trans (bn lp (o:= .ins A.bx vN (jE u t)));have JD:=cR aq lp;show#[b,la,lu,lh,now,pg,p,pa,un,he,R,T',_,T',rfl,hB.sm s2,#[vN,u,t,aq,by rw[aT JD];show aq,s2 _ _ h3],hl,λM' kx B' F uc=>fK (kq Pc M' kx pg B' (F.sm s2) (s2.free uc) ((bn hu).free lp))]
  | true=>
   dsimp? [];exact#[a,rfl,yH,?_];cases VT:pQ a 8 24 with
   | true=>dsimp? [cf,cF];(repeat (exact#[by first | decide | decide+kernel,?_]));show up _ (ke (by unfold gK;rw[hu,VT,hf];rfl))
   | false=>
    have Pc:gK T' n a=false:=by unfold gK;rw[hf,hu,VT];rfl
    dsimp? [cf,cF,hb,h1,cl,m7,n2,n3,n4,io,lj,l5,gq];rw[gw];dsimp? [hb,h1,cl,m7,n2,n3,n4,io,lj,l5];exact#[r,_,n,_,rfl,h2,by rw[uS];omega,λu hu=> ?_];have Tc:=cR hb hu;have wu:=cR h1 hu;dsimp? [aT Tc,aT wu,hb,h1,cl,m7,n2,n3,n4,io,lj,l5];intro pg vN lp Gp jm;rw[ve] at lp ⊢;exact#[pg,vN,u,t,rfl,aq,rfl,?_];rw[gx];have s2:=(bn hu (o:= .dK (pX gd (l4 R n a)))).trans (bn lp (o:= .ins A.bx vN (jE u t)));have JD:=cR aq lp;show#[b,la,lu,lh,now,pg,p,pa,un,he,R,T',_,T',rfl,hB.sm s2,#[vN,u,t,aq,by rw[aT JD];show aq,s2 _ _ h3],hl,λM' kx B' F uc=>fK (kq Pc M' kx pg B' (F.sm s2) (s2.free uc) ((bn hu).free lp))]
def dZ (T:eK K mg A):bv P w K mg base (gv P w) 1 A.i8 A.jc ["self","name"] (sw K (Fj A.aZ A.bx A.dn)):=by
 have cl:=ar T.Book.cl;have m7:=ar T.Page.cl;have n2:=ar T.n_Book_now;have n4:=ar T.n_Page_rounds;exact xp T.d_.fn gY (by rintro vs M q e ⟨b,la,lu,lh,now,p,pa,un,he,R,T',n,rfl,_⟩;rfl) λcdv A' outer s H E e hr hF hP=> ?_;have nd:=gY.nd;exact#[_,(am (db (vg (nS (fc hr) (pv 1) (a6 (a6 (pv 0) rfl) rfl))) (ay (eG hF rfl (by rfl) T.j5 (aa (iE (dB cV (dB (qD (pv 1)) li))) ag))) bN) (ay (a_ (eT (fc hr) (a6 (a6 (pv 0) rfl) rfl) (pv 1) (λ_ _=>rfl))))),?_];try dsimp only[dE]
 exact#[_,inferInstance,?_];rintro vs M q ⟨b,la,lu,lh,now,p,pa,un,he,R,T',n,rfl,hB,hl,kq,ke⟩;let⟨dx,hb⟩:=hB.ob;let⟨kA,r,t,h1,h2,h3⟩:=hB.pg;dsimp? [hb,h1,h2,cl,m7,n2,n4,io,l5,iu];cases hg:cA R n with
 | some a=>dsimp? [Option.map_some,Option.isSome_some,cf];dsimp? [hb,h1,h2,cl,m7,n2,n4,io,l5,iu,hg,Option.map_some];show fK (kq a hg)
 | none=>dsimp? [Option.map_none,Option.isSome_none,cF];(repeat (exact#[by first | decide | decide+kernel | show df (by omega) | show Tz (by right) hl | show Tx (by right) hl (by right),?_]));show#[M,Sm.refl M,ke hg]
def sJ (T:eK K mg A):bv P w K mg base ez 1 A.mK A.mX ["self"] (fw K (Jn A.aZ A.bx)):=by
 have cl:=ar T.Book.cl;have m7:=ar T.Page.cl;have n2:=ar T.n_Book_now;have n4:=ar T.n_Page_rounds;exists T.sq.fn,["self"],(ay (a_ (bP (ng rfl) (by rfl) T.fI Boot.«sorted» (aa (a6 (a6 (pv 0) rfl) rfl) ag))))
 rintro vs M q ⟨b,la,lu,lh,now,p,pa,un,he,R,T',rfl,hB,hl,k⟩;let⟨dx,hb⟩:=hB.ob;let⟨kA,r,t,h1,h2,h3⟩:=hB.pg;dsimp? [hb,h1,h2,cl,m7,n2,n4,io,l5];show#[r,_,R.map (·.1),rfl,h2,wL _ _,by rw[ao];show big (by omega),λu ns hu h3 h4=>fK (k u ns hu h3 h4)]
def sL (T:eK K mg A):bv P w K mg base ez 1 A.mM A.mZ ["self"] (fw K (Jq A.aZ A.bx)):=by
 have cl:=ar T.Book.cl;have m7:=ar T.Page.cl;have n2:=ar T.n_Book_now;have n4:=ar T.n_Page_teams;exists T.sr.fn,["self"],(ay (a_ (bP (ng rfl) (by rfl) T.fI Boot.«sorted» (aa (a6 (a6 (pv 0) rfl) rfl) ag))))
 rintro vs M q ⟨b,la,lu,lh,now,p,pa,un,he,R,T',rfl,hB,hl,k⟩;let⟨dx,hb⟩:=hB.ob;let⟨kA,r,t,h1,h2,h3⟩:=hB.pg;dsimp? [hb,h1,h3,cl,m7,n2,n4,io,lj];show#[t,_,T'.map (·.1),rfl,h3,wL _ _,by rw[ao];show big (by omega),λu ns hu h3 h4=>fK (k u ns hu h3 h4)]
def vy (T:eK K mg A):bv P w K mg base (gv P w) 5 A.oY A.py ["self","name","deeds"] (sw K (pDo A.aZ A.bx (Ha A) TU)):=by
 have cl:=ar T.Book.cl;have n1:=ar T.n_Book_p;exact xp T.oy.fn lM (by rintro vs M q e ⟨b,la,lu,lh,now,p,pa,un,he,R,T',dd,ys,rfl,⟨n,a,ds,rfl,_⟩,_⟩;rfl) λcdv A' outer s H E e hr hF hP=> ?_;have nd:=lM.nd;exact#[_,(am (c5 (nR hP T.check_name (kM T) (hr.mono ⋯) (by rfl) (aa (pv 1) ag))) (ay (c5 (cB hP T.yE (xo T) (hr.mono ⋯) (pv 0) (aa (pv 1) (aa (nR hP T.gone (Jw T) (hr.mono ⋯) (by rfl) (aa (a6 (pv 0) rfl) (aa (pv 2) ag))) ag)))))),?_];try dsimp only[dE]
 exact#[_,inferInstance,?_];rintro vs M q ⟨b,la,lu,lh,now,p,pa,un,he,R,T',dd,ys,rfl,⟨n,a,ds,rfl,rfl,ha⟩,⟨hn,hd,hw⟩,hB,hS,kq,ke⟩;let⟨dx,hb⟩:=hB.ob;have p0:0<p:=by have:=hS.p4;omega
 have up: ∀C,e C M ->WL.up e C M:=λC h=>#[M,Sm.refl M,h]
 exact#[n,rfl,hn.as,hn.len,λDK=> ?_,λDK=>up _ (ke .BadName (by rw[iZ,aj DK]))];have Yq: ∀ (a':WQ.Rd),a'.2.length<=1000000 ->iZ p R T' (.tell n ds)=sM R T' n a' ->NT A.aZ A.bx A.jZ [wr b,ws n,gd a'] M (λ_ M1=> ∃M0,Sm M0 M1 /\ q wn M0) (WL.up e):=λa' hl ho=>ND hB hS hl ho kq λr h=>up _ (ke r h);dsimp? [hb,cl,n1,Uj,Px];exact#[a,p,ds,rfl,ha,p0,HY,by omega,hw,λhg=> ?_,λhg=>up _ (ke .NoDeed ?_)];dsimp? [];show Yq _ (aH (p8 _ _) (aH (qt _) (by omega))) (by rw[iZ,ah (by rw[DK];decide),ah (by rw[q_.mpr hg];decide)]);have:lq ds=false:=by
  cases h:lq ds with
  | false=>rfl
  | true=>let⟨d,h1,h2⟩:=hg;show absurd (q_.mp h d h1) h2
 rw[iZ,ah (by rw[DK];decide),aj this]
def vC (T:eK K mg A):bv P w K mg base (gv P w) 3 A.pe A.pE ["self","name"] (sw K (pDo A.aZ A.bx (Ha A) TV)):=by
 have cl:=ar T.Book.cl;have m7:=ar T.Page.cl;have n2:=ar T.n_Book_now;have n3:=ar T.n_Page_teams;have n4:=ar T.n_Page_rounds;exact xp T.uK.fn lS (by rintro vs M q e ⟨b,la,lu,lh,now,p,pa,un,he,R,T',dd,ys,rfl,⟨n,rfl,_⟩,_⟩;rfl) λcdv A' outer s H E e hr hF hP=> ?_;have nd:=lS.nd;exact#[_,(am (c5 (cB hP T.d_ (dZ T) (hr.mono ⋯) (pv 0) (aa (pv 1) ag))) (am (db (jD (cK T.gS (hU T) (hr.mono ⋯) (pv 0) (aa (pv 1) ag))) (ay (eG hF rfl (by rfl) T.Il (aa (iE (dB (qD (pv 1)) (dB cV li))) ag))) bN) (ay (c5 (cK T.eX (eg T) (hr.mono ⋯) (pv 0) (aa (fB T.Page (l9 T) (hr.mono ⋯) (by rfl) (aa (aR T.without (qF T) hr (aa (a6 (a6 (pv 0) rfl) rfl) (aa (pv 1) ag))) (aa (a6 (a6 (pv 0) rfl) rfl) ag))) ag)))))),?_];try dsimp only[dE]
 exact#[_,inferInstance,?_];rintro vs M q ⟨b,la,lu,lh,now,p,pa,un,he,R,T',dd,ys,rfl,⟨n,rfl,rfl⟩,hn,hB,hS,kq,ke⟩;let⟨dx,hb⟩:=hB.ob;let⟨kA,r,t,h1,h2,h3⟩:=hB.pg;have up: ∀C,e C M ->WL.up e C M:=λC h=>#[M,Sm.refl M,h]
 have hT:=hS.t;have hPa:=hS.pa;dsimp? [hb,pG];exact#[b,la,lu,lh,now,p,pa,un,he,R,T',n,rfl,hB,hn.len,λa hg=> ?_,λhg=>up _ (ke .NoRound (by rw[iZ,hg]))];dsimp? [hb,pH];exact#[b,la,lu,lh,now,p,pa,un,he,R,T',n,rfl,hB,by omega,?_];cases hu:wB T' n with
 | true=>dsimp? [];have HR:=hn.len;(repeat (exact#[by first | decide | decide+kernel | show df (by omega) | show Tz (by right) HR | show Tx (by right) HR (by right),?_]));show up _ (ke .InUse (by rw[iZ,hg];show aj hu))
 | false=>
  have ho:iZ p R T' (.drop n)= .ok (im R n):=by rw[iZ,hg];show ah (by rw[hu];decide)
  dsimp? [hb,gq];rw[gw];dsimp? [hb,h1,cl,m7,n2,n3,n4,io,lj,l5];exact#[r,_,n,rfl,h2,by rw[iu,hg];rfl,λu hu=> ?_];have Tc:=cR hb hu;have wu:=cR h1 hu;dsimp? [aT Tc,aT wu,hb,h1,cl,m7,n2,n3,n4,io,lj,l5];intro pg vN lp Gp jm;rw[xP] at lp ⊢;exact#[pg,vN,u,t,rfl,aq,rfl,?_];rw[gx];have s2:=(bn hu (o:= .dK (pX gd (im R n)))).trans (bn lp (o:= .ins A.bx vN (jE u t)));have JD:=cR aq lp;show#[b,la,lu,lh,now,pg,p,pa,un,he,R,T',_,T',rfl,hB.sm s2,#[vN,u,t,aq,by rw[aT JD];show aq,s2 _ _ h3],by omega,λM' kx B' F uc=>fK (kq _ ho M' kx pg B' (F.sm s2) (s2.free uc) ((bn hu).free lp))]
def zj (T:eK K mg A):bv P w K mg base ez 2 A.uj A.ut ["_law_draw","_law_many"] (fw K Fm):=by
 exists T.AU.fn,["_law_draw","_law_many","_law_letters","_law_body","_law_cut","_law_start","_law_names_here","_law_k","_law_sign"],(am (2\cV) (am (3\(tV PySem.F.plainAttrs_str PySem.F.slot_str_join PySem.F.type_str_join JN cV (aa (eU rfl (c_.of (sc:=aE nL) (N:= ["_law_draw","_law_many","_law_letters","_law_body","_law_cut","_law_start","_law_names_here","_law_k","_law_sign"]) (own:= ["_law_k"]) (fr:= [2,0]) (N':= ["_law_k","_law_letters","_law_draw"])) (g0 (by rfl) T.nk (aa (aR T.fm (dm T) hr (aa (pv 0) (aa aD ag))) ag)) (λ_ _ _ _=>(aX (i:=0) (by change(["_law_k","_law_letters","_law_draw"]:cz Str).Nodup;decide+kernel) rfl (by trivial))) eJ (λ_ _ _ _=>dq) (λ_ _ _ _=>(cW FY (pv 1) (aR T.fm (dm T) hr (aa (pv 2) (aa aD ag))) (λ_ _=>rfl)))) ag))) (am (4\(aR T.fm (dm T) hr (aa (pv 0) (aa (cJ fP (bP uw (by rfl) T.yf Boot.«len» (aa (pv 3) ag)) aD) ag)))) (am (5\(aR T.fm (dm T) hr (aa (pv 0) (aa aD ag)))) (am (6\(eR ag)) (am (iC PassesOwn.never rfl (g0 (by rfl) T.nk (aa (pv 1) ag)) (aX (i:=7) nd rfl (by trivial)) (am (8\(cJ Ju (cW FY (pv 2) (cJ jG (cJ fP (pv 5) (cJ gL aD (pv 7))) aD) (λ_ _=>rfl)) (cJ fP aD (aR T.fm (dm T) hr (aa (pv 0) (aa aD ag)))))) (ay (c5 (tV PySem.F.plainAttrs_list PySem.F.slot_list_append PySem.F.type_list_append hW (pv 6) (aa (cJ AO (cJ AO (qC Ey (pv 3) vi (vh (pv 4))) (pv 8)) (qC Ey (pv 3) (vh (pv 4)) vi)) ag)))))) (ay (a_ (pv 6)))))))))
 rintro vs M q ⟨d,l,m,rfl,hD,m0,m1,k⟩;have hLz:(Ij.length<=sizeLine)=True:=ar (by right);dsimp? [];exact#[d,l,11,rfl,hD,⋯,⋯,λj M1 j0 j1 D1 b1=> ?_];dsimp? [];exact#[#[by omega,by omega],Pw (by rw[nN];show big (by omega)) λu hu=> ?_];let⟨nud,nul⟩:=D1.ne hu;exact#[λi ys M'=> ∃ss:cz Str,d9 (ys=ss.map ws) (ss.length=i) (∀x∈ss, ∃c,x=⟨#[c]⟩ /\ DM c) (M' u=some (.lst ys)) (Dr M' d l),#[[],rfl,rfl,by simp,aq,D1.put hu],?_,?_,?_];rintro i ys M' _ ⟨ss,rfl,hl,_,hM,_⟩;show#[trivial,hM,by rw[ao];omega];rintro i x ys M' hx ⟨ss,rfl,hl,hs,hM,D2⟩ N hN;let⟨hi,rfl⟩:=qA hx;dsimp? [];exact#[d,l,26,rfl,D2,⋯,⋯,λr M3 r0 r1 D3 b3=> ?_];have hc:=AT r0 r1;dsimp? [hLz,hc];exact#[by rw[b3 u nud];show hM,hN _ _ #[ss++ [⟨#[97+r.toNat]⟩],by rw[bA];rfl,by simp[hl],λx hx=> ?_,by rw[aq],D3.NE nud nul]];obtain h | h:=bh.mp hx;show hs x h;rw[aK.mp h];show#[_,rfl,by unfold DM;omega];rintro ys M' ⟨ss,rfl,hl,hs,hM,D2⟩;rw[nN] at hl;have h1: ∀x∈ss,x.length=1:=λx hx=>by let⟨c,rfl,_⟩:=hs x hx;rfl
 exact OC hM (c:=1) (λx hx=>by rw[h1 x hx];show ak _) (df (by
  have:(Str.ofString "").length=0:=by right
  rw[this];omega)) ?_
 have Mu:(Builtin.Str.glued (Str.ofString "") ss).length<=10:=aH (mw _ ss (c:=1) λx hx=>by rw[h1 x hx];show ak _) (by
  have:(Str.ofString "").length=0:=by right
  rw[this];omega)
 have VU:=CQ hs;have YX:jf (Builtin.Str.glued (Str.ofString "") ss):=rM.mpr λc hc=>by have:=VU c hc;unfold DM at this;omega
 generalize Builtin.Str.glued (Str.ofString "") ss=bo at Mu YX VU;have hbz:(bo.length<=sizeLine)=True:=ar (df (by omega));clear hM h1 hs hl hu b1 D1;dsimp? [hbz];exact#[d,l,_,rfl,D2,by omega,by omega,λcu M3 c0 c1 D3 b3=> ?_];dsimp? [];exact#[d,l,26,rfl,D3,⋯,⋯,λyF M4 s0 s1 D4 b4=> ?_];dsimp? [];intro v hv;let⟨XN,nvl⟩:=D4.ne hv;dsimp? [];exact#[#[by omega,by omega],mB (λi ρ M'=>dY λ(o1 o2:cT W) (ns:cz Str)=>d9 (ρ= [some (wr d),some (wi m),some (ws Ij),some (ws bo),some (wi cu),some (wi yF),some (wr v),o1,o2]) (ns.length=i) (∀n∈ns,Nm n /\ dc n=true) (M' v=some (.lst (ns.map ws))) (Dr M' d l /\ ∀ (j:Nat) (n:Str),ns[j]? =some n ->UA cu.toNat yF n j)) #[none,none,[],rfl,rfl,by simp,aq,D4.put hv,by simp] (λ_ _ _ _ _=>trivial) ?_ ?_];rintro i x ρ M5 hx ⟨o1,o2,ns,rfl,hl,xA,hM,D5,hk⟩ N hN;let⟨hi,rfl⟩:=qA hx;have cm:ox 7 (0+(i:Int))=True:=ar (.inl #[by omega,by omega]);have h26:((0:Int) <26)=True:=ar ⋯;have hc:=AT (i:=(yF+7*(0+(i:Int))) % 26) (by omega) (by omega);rw[Int.zero_add] at hc cm;generalize Tr:97+((yF+7*(i:Int)) % 26).toNat=c at hc;dsimp? [cm,h26,hLz,hc,Int.zero_add];exact#[d,l,2,rfl,D5,⋯,⋯,λr M6 r0 r1 D6 b6=> ?_];dsimp? [];let⟨w,rfl⟩:=Int.eq_ofNat_of_zero_le r0;exact#[⟨#[c]⟩,1+w,rfl,by push_cast;rfl,by omega,by change 1<=1000;decide,?_];have tl:=BY (x:=⟨#[c]⟩) (n:=1+w);have tl':(dM ⟨#[c]⟩ (1+w)).length<=2:=aH tl (by change(1+w)*1<=2;omega);have l1:=Txt.slice_le bo none (some cu);have l2:=Txt.slice_le bo (some cu) none;have z1:((Txt.slice bo none (some cu)).length+(dM ⟨#[c]⟩ (1+w)).length<=sizeLine)=True:=ar (df (by omega));have z2:(((Txt.slice bo none (some cu))++(dM ⟨#[c]⟩ (1+w))).length+(Txt.slice bo (some cu) none).length<=sizeLine)=True:=ar (df (by rw[j9];omega));have hM6:M6 v=some (.lst (ns.map ws)):=by rw[b6 v XN];show hM
 have hls:((ns.map ws).length<sizeLine)=True:=ar (zS (by rw[ao];omega));dsimp? [hbz,z1,z2,hM6,hls];exact hN _ _ #[_,_,ns++ [Txt.slice bo none (some cu)++dM ⟨#[c]⟩ (1+w)++Txt.slice bo (some cu) none],rfl,by simp[hl],λn hn=> ?_,by rw[aq,bA];rfl,D6.NE XN nvl,λj n hj=> ?_];obtain h | h:=bh.mp hn;show xA n h;rw[aK.mp h];exact#[#[Nm.app (Nm.app (yh YX) (Hg ?_)) (yh YX),by rw[j9,j9];omega],?_];show rM.mpr λd hd=>by rw[aK.mp (show d∈ [c] from hd)];omega
 rw[<- Tr];show(AR VU Mu c0 (by omega) (by omega)).1;by_cases hjl:j<ns.length;rw[aU hjl] at hj;show hk j n hj;rw[aO (by omega)] at hj;obtain rfl:j=i:=by have:=(aB.mp hj).1;simp at this;omega
 rw[show j - ns.length=0 by omega] at hj;cases hj;rw[<- Tr];show(AR VU Mu c0 (by omega) (by omega)).2;rintro ρ M5 ⟨o1,o2,ns,rfl,hl,xA,hM,D5,hk⟩;rw[nN] at hl;dsimp? [];show fK (k v ns M5 hM (by omega) xA (JF (by omega) hk) XN nvl D5)
def iH (T:eK K mg A):bv P w K mg base (gv P w) 1 A.oZ A.pz ["self","crew"] (sw K (Sk A.aZ A.bx A.cC)):=by
 have cl:=ar T.Book.cl;have m7:=ar T.Page.cl;have n2:=ar T.n_Book_now;have n4:=ar T.n_Page_teams;exact xp T.kn.fn lN (by rintro vs M q e ⟨b,la,lu,lh,now,p,pa,un,he,R,T',n,rfl,_⟩;rfl) λcdv A' outer s H E e hr hF hP=> ?_;have nd:=lN.nd;exact#[_,(am (db (vg (nS (fc hr) (pv 1) (a6 (a6 (pv 0) rfl) rfl))) (ay (eG hF rfl (by rfl) T.lH (aa (iE (dB cV (dB (qD (pv 1)) li))) ag))) bN) (ay (a_ (eT (fc hr) (a6 (a6 (pv 0) rfl) rfl) (pv 1) (λ_ _=>rfl))))),?_];try dsimp only[dE]
 exact#[_,inferInstance,?_];rintro vs M q ⟨b,la,lu,lh,now,p,pa,un,he,R,T',n,rfl,hB,hl,kq,ke⟩;let⟨dx,hb⟩:=hB.ob;let⟨kA,r,t,h1,h2,h3⟩:=hB.pg;dsimp? [hb,h1,h3,cl,m7,n2,n4,io,lj,iu];cases hg:cA T' n with
 | some a=>dsimp? [Option.map_some,Option.isSome_some,cf];dsimp? [hb,h1,h3,cl,m7,n2,n4,io,lj,iu,hg,Option.map_some];show fK (kq a hg)
 | none=>dsimp? [Option.map_none,Option.isSome_none,cF];(repeat (exact#[by first | decide | decide+kernel | show df (by omega) | show Tz (by right) hl | show Tx (by right) hl (by right),?_]));show#[M,Sm.refl M,ke hg]
def pM (T:eK K mg A):bv P w K mg base (gv P w) 2 A.jQ A.jV ["self","crew"] (sw K (Fn A.aZ A.bx A.cC)):=by
 exact xp T.ny.fn iU (by rintro vs M q e ⟨b,la,lu,lh,now,p,pa,un,he,R,T',n,rfl,_⟩;rfl) λcdv A' outer s H E e hr hF hP=> ?_;have nd:=iU.nd;exact#[_,(ay (a_ (dC iR (by rfl) T.om Boot.«list» (aa (cB hP T.kn (iH T) (hr.mono ⋯) (pv 0) (aa (pv 1) ag)) ag)))),?_];try dsimp only[dE]
 exact#[_,inferInstance,?_];rintro vs M q ⟨b,la,lu,lh,now,p,pa,un,he,R,T',n,rfl,hB,hl,kq,ke⟩;let⟨dx,hb⟩:=hB.ob;dsimp? [hb,vW];exact#[b,la,lu,lh,now,p,pa,un,he,R,T',n,rfl,hB,hl,λa hg=> ?_,λhg=>#[M,Sm.refl M,ke hg]];dsimp? [lI];show λu hu=>fK (kq a hg u hu)
def nU (T:eK K mg A):bv P w K mg base ez 3 A.i9 A.jd ["self","crew","team"] (fw K (Fk A.aZ A.bx)):=by
 have cl:=ar T.Book.cl;have m7:=ar T.Page.cl;have n2:=ar T.n_Book_now;have n3:=ar T.n_Page_teams;have n4:=ar T.n_Page_rounds;exists T.k_.fn,["self","crew","team"],(ay (c5 (cK T.eX (eg T) (hr.mono ⋯) (pv 0) (aa (fB T.Page (l9 T) (hr.mono ⋯) (by rfl) (aa (a6 (a6 (pv 0) rfl) rfl) (aa (aR T.with_thing (kK T) hr (aa (a6 (a6 (pv 0) rfl) rfl) (aa (pv 1) (aa (pv 2) ag)))) ag))) ag))))
 rintro vs M q ⟨b,la,lu,lh,now,p,pa,un,he,R,T',c,l,rfl,hB,hPa,hT,k⟩;let⟨dx,hb⟩:=hB.ob;let⟨kA,r,t,h1,h2,h3⟩:=hB.pg;dsimp? [hb,gq];rw[gw];dsimp? [hb,h1,cl,m7,n2,n3,n4,io,lj,l5];exact#[t,_,c,_,rfl,h3,by rw[uS];omega,λu hu=> ?_];intro pg vN lp Gp jm;rw[ve] at lp ⊢;exact#[pg,vN,r,u,rfl,aq,rfl,?_];rw[gx];have s2:=(bn hu (o:= .dK (pX lI (l4 T' c l)))).trans (bn lp (o:= .ins A.bx vN (jE r u)));have JD:=cR aq lp;show#[b,la,lu,lh,now,pg,p,pa,un,he,R,T',R,_,rfl,hB.sm s2,#[vN,r,u,aq,s2 _ _ h2,by rw[aT JD];show aq],by omega,λM' kx B' F uc=>fK (k M' kx pg B' (F.sm s2) (s2.free uc) ((bn hu).free lp))]
def sK (T:eK K mg A):bv P w K mg base (gv P w) 4 A.mL A.mY ["self","crew"] (sw K (AL A.aZ A.bx (Ha A) Pm)):=by
 have cl:=ar T.Book.cl;have m7:=ar T.Page.cl;have n2:=ar T.n_Book_now;have n3:=ar T.n_Page_teams;exact xp T.lE.fn kH (by rintro vs M q e ⟨b,la,lu,lh,now,p,pa,un,he,R,T',dd,ys,rfl,⟨c,rfl,_⟩,_⟩;rfl) λcdv A' outer s H E e hr hF hP=> ?_;have nd:=kH.nd;exact#[_,(am (c5 (nR hP T.check_name (kM T) (hr.mono ⋯) (by rfl) (aa (pv 1) ag))) (am (db (vg (NK (fc hr) (pv 1) (a6 (a6 (pv 0) rfl) rfl))) (ay (eG hF rfl (by rfl) T.Ik (aa (iE (dB cV (dB (qD (pv 1)) li))) ag))) bN) (ay (c5 (cK T.k_ (nU T) (hr.mono ⋯) (pv 0) (aa (pv 1) (aa (cx ag) ag))))))),?_];try dsimp only[dE]
 exact#[_,inferInstance,?_];rintro vs M q ⟨b,la,lu,lh,now,p,pa,un,he,R,T',dd,ys,rfl,⟨c,rfl,rfl⟩,hc,hB,hS,hT,kq,ke⟩;let⟨dx,hb⟩:=hB.ob;let⟨kA,r,t,h1,h2,h3⟩:=hB.pg;have kz:=hc.len;have up: ∀C,e C M ->WL.up e C M:=λC h=>#[M,Sm.refl M,h]
 dsimp? [];exact#[c,rfl,hc.as,hc.len,λDK=> ?_,λDK=>up _ (ke .BadName (by rw[kO,aj DK]))];have wu:¬dc c=false:=by rw[DK];decide
 dsimp? [hb,h1,h3,cl,m7,n2,n3,io,lj,iu,Option.isSome_map];cases hg:cA T' c with
 | some l=>dsimp? [Option.isSome_some];(repeat (exact#[by first | decide | decide+kernel | show df (by omega) | show Tz (by right) kz | show Tx (by right) kz (by right),?_]));show up _ (ke .Taken (by rw[kO,ah wu,hg]))
 | none=>dsimp? [Option.isSome_none,hb,yd];show#[b,la,lu,lh,now,p,pa,un,he,R,T',c,[],rfl,hB,hS.pa,hS.t,λM' kx pg B' F h1 h2=>fK (kq _ (by rw[kO,ah wu,hg]) M' kx pg B' F h1 h2)]
def pN (T:eK K mg A):bv P w K mg base (gv P w) 3 A.jR A.jW ["self","crew"] (sw K (AL A.aZ A.bx (Ha A) GH)):=by
 have cl:=ar T.Book.cl;have m7:=ar T.Page.cl;have n2:=ar T.n_Book_now;have n3:=ar T.n_Page_teams;have n4:=ar T.n_Page_rounds;exact xp T.nz.fn iV (by rintro vs M q e ⟨b,la,lu,lh,now,p,pa,un,he,R,T',dd,ys,rfl,⟨c,rfl,_⟩,_⟩;rfl) λcdv A' outer s H E e hr hF hP=> ?_;have nd:=iV.nd;exact#[_,(am (c5 (cB hP T.kn (iH T) (hr.mono ⋯) (pv 0) (aa (pv 1) ag))) (ay (c5 (cK T.eX (eg T) (hr.mono ⋯) (pv 0) (aa (fB T.Page (l9 T) (hr.mono ⋯) (by rfl) (aa (a6 (a6 (pv 0) rfl) rfl) (aa (aR T.without (qF T) hr (aa (a6 (a6 (pv 0) rfl) rfl) (aa (pv 1) ag))) ag))) ag))))),?_];try dsimp only[dE]
 exact#[_,inferInstance,?_];rintro vs M q ⟨b,la,lu,lh,now,p,pa,un,he,R,T',dd,ys,rfl,⟨c,rfl,rfl⟩,hc,hB,hS,hT,kq,ke⟩;let⟨dx,hb⟩:=hB.ob;let⟨kA,r,t,h1,h2,h3⟩:=hB.pg;have hPa:=hS.pa;have up: ∀C,e C M ->WL.up e C M:=λC h=>#[M,Sm.refl M,h]
 dsimp? [hb,vW];exact#[b,la,lu,lh,now,p,pa,un,he,R,T',c,rfl,hB,hc.len,λl hg=> ?_,λhg=>up _ (ke .NoCrew (by rw[kO,hg]))];have ho:kO R T' (.disband c)= .ok (im T' c):=by rw[kO,hg]
 dsimp? [hb,gq];rw[gw];dsimp? [hb,h1,cl,m7,n2,n3,n4,io,lj,l5];exact#[t,_,c,rfl,h3,by rw[iu,hg];rfl,λu hu=> ?_];intro pg vN lp Gp jm;rw[xP] at lp ⊢;exact#[pg,vN,r,u,rfl,aq,rfl,?_];rw[gx];have s2:=(bn hu (o:= .dK (pX lI (im T' c)))).trans (bn lp (o:= .ins A.bx vN (jE r u)));have JD:=cR aq lp;show#[b,la,lu,lh,now,pg,p,pa,un,he,R,T',R,_,rfl,hB.sm s2,#[vN,r,u,aq,s2 _ _ h2,by rw[aT JD];show aq],by omega,λM' kx B' F uc=>fK (kq _ ho M' kx pg B' (F.sm s2) (s2.free uc) ((bn hu).free lp))]
def eh (T:eK K mg A):bv P w K mg base (gv P w) 10 A.jS A.jX ["self","crew"] (sw K (Jr A.aZ A.bx A.bE A.cC)):=by
 have cl:=ar T.Book.cl;have m7:=ar T.Page.cl;have n1:=ar T.n_Book_p;have n2:=ar T.n_Book_now;have n4:=ar T.n_Page_rounds;exact xp T.eY.fn iW (by rintro vs M q e ⟨b,p,R,T',c,rfl,_⟩;rfl) λcdv A' outer s H E e hr hF hP=> ?_;have nd:=iW.nd;exact#[_,(ay (a_ (fB T.Crew (Jx T) (hr.mono ⋯) (by rfl) (aa (a6 (pv 0) rfl) (aa (eU rfl (c_.of (sc:=aE eQ) (N:= ["self","crew"]) (own:= ["name"]) (fr:= [0]) (N':= ["name","self"])) (nP (cB hP T.kn (iH T) (hr.mono ⋯) (pv 0) (aa (pv 1) ag))) (λ_ _ _ _=>(aX (i:=0) (by change(["name","self"]:cz Str).Nodup;decide+kernel) rfl (by trivial))) eJ (λ_ _ _ _=>dq) (λ_ _ _ _=>(eT (fc hr) (p7 (K:=K) rfl (p7 (K:=K) rfl (pv 1) rfl) rfl) (pv 0) (λ_ _=>rfl)))) ag))))),?_];try dsimp only[dE]
 exact#[_,inferInstance,?_];rintro vs M q ⟨b,p,R,T',c,rfl,h0,hl,kq,ke⟩;let⟨la,lu,lh,now,pa,un,he,hB⟩:=h0.bk;let⟨dx,hb⟩:=hB.ob;let⟨kA,r,t,h1,h2,h3⟩:=hB.pg;dsimp? [];rw[gw];dsimp? [hb,h1,h2,cl,m7,n1,n2,n4,io,Uj,l5,vW];exact#[b,la,lu,lh,now,p,pa,un,he,R,T',c,rfl,hB,hl,λa hg=> ?_,λhg=>#[M,Sm.refl M,ke hg]];obtain rfl:=h0.em c a hg;dsimp? [lI,bL];exact fH (l:=([]:cz Int)) (fW:=wi) (λ_=>wn) ⋯ (λ_ _=>trivial) (λa ha=>nomatch ha) λu hu=> ?_;intro o HZ ho Gp jm;have hou:o≠u:=λe=>by rw[e,aq] at ho;cases ho
 exact#[o,HZ,u,p,rfl,aq,by rw[aT (bD hou),aq];rfl,hou,h0.p4,λM' v w' z h4 h5=>#[rfl,?_]];exact fK (kq (by rw[hg];show λe=>nomatch e) o HZ v w' z M' (λa x hx=> ?_) h4);have h6:=bn (o:= .lst []) hu _ _ hx;show h5 a x (cR h6 ho) (bn ho _ _ h6)
def iI (T:eK K mg A):bv P w K mg base (gv P w) 11 A.pd A.pD ["self","crew"] (sw K (pQ1 A.aZ A.bx A.cC (.tup [wi 0,gd (0,[]), .tup []]))):=by
 have cl:=ar T.Book.cl;have V2:=ar T.Crew.cl;exact xp T.ko.fn lR (by rintro vs M q e ⟨b,p,R,T',c,rfl,_⟩;rfl) λcdv A' outer s H E e hr hF hP=> ?_;have nd:=lR.nd;exact#[_,(ay (a_ (j7 T.uG (vx T) (hr.mono ⋯) (cB hP T.eY (eh T) (hr.mono ⋯) (pv 0) (aa (pv 1) ag))))),?_];try dsimp only[dE]
 exact#[_,inferInstance,?_];rintro vs M q ⟨b,p,R,T',c,rfl,h0,hl,kq,ke⟩;let⟨la,lu,lh,now,pa,un,he,hB⟩:=h0.bk;let⟨dx,hb⟩:=hB.ob;have m1:(dH p now la lu lh).lookup ("crew_of" :Str)=none:=rfl;dsimp? [hb,cl,m1];exact#[b,p,R,T',c,rfl,h0,hl,λhg o HZ v w' z M' sm ho=> ?_,λhg=>#[M,Sm.refl M,ke hg]];dsimp? [ho];show#[rfl,o,HZ,p,v,w',z,rfl,ho,M,sm,kq hg]
def sI (T:eK K mg A):bv P w K mg base (gv P w) 11 A.mJ A.mW ["self","crew"] (sw K (pQ1 A.aZ A.bx A.cC wn)):=by
 have cl:=ar T.Book.cl;have V2:=ar T.Crew.cl;exact xp T.r_.fn kG (by rintro vs M q e ⟨b,p,R,T',c,rfl,_⟩;rfl) λcdv A' outer s H E e hr hF hP=> ?_;have nd:=kG.nd;exact#[_,(ay (a_ (j7 T.rY (sH T) (hr.mono ⋯) (cB hP T.eY (eh T) (hr.mono ⋯) (pv 0) (aa (pv 1) ag))))),?_];try dsimp only[dE]
 exact#[_,inferInstance,?_];rintro vs M q ⟨b,p,R,T',c,rfl,h0,hl,kq,ke⟩;let⟨la,lu,lh,now,pa,un,he,hB⟩:=h0.bk;let⟨dx,hb⟩:=hB.ob;have m1:(dH p now la lu lh).lookup ("crew_of" :Str)=none:=rfl;dsimp? [hb,cl,m1];exact#[b,p,R,T',c,rfl,h0,hl,λhg o HZ v w' z M' sm ho=> ?_,λhg=>#[M,Sm.refl M,ke hg]];dsimp? [ho];show#[rfl,o,HZ,p,v,w',z,rfl,ho,M,sm,kq hg]
def vA (T:eK K mg A):bv P w K mg base (gv P w) 11 A.o_ A.pB ["self","crew","name"] (sw K (pQ2 A.aZ A.bx A.cC A.dn)):=by
 have cl:=ar T.Book.cl;have V2:=ar T.Crew.cl;exact xp T.uI.fn lP (by rintro vs M q e ⟨b,p,R,T',c,n,rfl,_⟩;rfl) λcdv A' outer s H E e hr hF hP=> ?_;have nd:=lP.nd;exact#[_,(am (3\(cB hP T.eY (eh T) (hr.mono ⋯) (pv 0) (aa (pv 1) ag))) (ay (a_ (cK T.uE (vv T) (hr.mono ⋯) (pv 3) (aa (cB hP T.d_ (dZ T) (hr.mono ⋯) (pv 0) (aa (pv 2) ag)) ag))))),?_];try dsimp only[dE]
 exact#[_,inferInstance,?_];rintro vs M q ⟨b,p,R,T',c,n,rfl,h0,hl,kq,ke⟩;let⟨la,lu,lh,now,pa,un,he,hB⟩:=h0.bk;let⟨dx,hb⟩:=hB.ob;have m1:(dH p now la lu lh).lookup ("crew_of" :Str)=none:=rfl;have m2:(dH p now la lu lh).lookup ("round_of" :Str)=none:=rfl;let⟨SQ,SO,_⟩:=ke;dsimp? [hb,cl,m1];exact#[b,p,R,T',c,rfl,h0,hl.1,λhg o HZ v w' z M' sm ho=> ?_,λhg=>#[M,Sm.refl M,SQ hg]];have YU:=sm _ _ hb;dsimp? [ho,YU,cl,m2];exact#[rfl,?_];exact#[b,la,lu,lh,now,p,pa,un,he,R,T',n,rfl,hB.sm sm,hl.2,λa lF=> ?_,λlF=>#[M,sm,SO hg lF]];dsimp? [];show#[o,HZ,p,v,w',z,_,a,rfl,ho,rfl,(h0.rd n a lF).1,#[M,sm,kq hg (by rw[lF];show λe=>nomatch e) _]]
def vB (T:eK K mg A):bv P w K mg base (gv P w) 11 A.pc A.pC ["self","crew","name"] (sw K (pQ2 A.aZ A.bx A.cC A.dn)):=by
 have cl:=ar T.Book.cl;have V2:=ar T.Crew.cl;exact xp T.uJ.fn lQ (by rintro vs M q e ⟨b,p,R,T',c,n,rfl,_⟩;rfl) λcdv A' outer s H E e hr hF hP=> ?_;have nd:=lQ.nd;exact#[_,(am (3\(cB hP T.eY (eh T) (hr.mono ⋯) (pv 0) (aa (pv 1) ag))) (ay (a_ (cK T.uF (vw T) (hr.mono ⋯) (pv 3) (aa (cB hP T.d_ (dZ T) (hr.mono ⋯) (pv 0) (aa (pv 2) ag)) ag))))),?_];try dsimp only[dE]
 exact#[_,inferInstance,?_];rintro vs M q ⟨b,p,R,T',c,n,rfl,h0,hl,kq,ke⟩;let⟨la,lu,lh,now,pa,un,he,hB⟩:=h0.bk;let⟨dx,hb⟩:=hB.ob;have m1:(dH p now la lu lh).lookup ("crew_of" :Str)=none:=rfl;have m2:(dH p now la lu lh).lookup ("round_of" :Str)=none:=rfl;let⟨SQ,SO,_⟩:=ke;dsimp? [hb,cl,m1];exact#[b,p,R,T',c,rfl,h0,hl.1,λhg o HZ v w' z M' sm ho=> ?_,λhg=>#[M,Sm.refl M,SQ hg]];have YU:=sm _ _ hb;dsimp? [ho,YU,cl,m2];exact#[rfl,?_];exact#[b,la,lu,lh,now,p,pa,un,he,R,T',n,rfl,hB.sm sm,hl.2,λa lF=> ?_,λlF=>#[M,sm,SO hg lF]];dsimp? [];show#[o,HZ,p,v,w',z,_,a,rfl,ho,rfl,(h0.rd n a lF).1,(h0.rd n a lF).2,#[M,sm,kq hg (by rw[lF];show λe=>nomatch e) _]]
def vz (T:eK K mg A):bv P w K mg base (gv P w) 12 A.o0 A.pA ["self","crew","other"] (sw K (NQ A.aZ A.bx A.cC)):=by
 have cl:=ar T.Book.cl;have V2:=ar T.Crew.cl;exact xp T.uH.fn lO (by rintro vs M q e ⟨b,p,R,T',c,n,rfl,_⟩;rfl) λcdv A' outer s H E e hr hF hP=> ?_;have nd:=lO.nd;exact#[_,(ay (a_ (fq (zf hr.U_) (cB hP T.ko (iI T) (hr.mono ⋯) (pv 0) (aa (pv 1) ag)) (cB hP T.ko (iI T) (hr.mono ⋯) (pv 0) (aa (pv 2) ag)) (cj _)))),?_];try dsimp only[dE]
 exact#[_,inferInstance,?_];rintro vs M q ⟨b,p,R,T',c,n,rfl,h0,hl,kq,ke⟩;let⟨la,lu,lh,now,pa,un,he,hB⟩:=h0.bk;let⟨dx,hb⟩:=hB.ob;have m1:(dH p now la lu lh).lookup ("form" :Str)=none:=rfl;dsimp? [hb,cl,m1];exact#[b,p,R,T',c,rfl,h0,hl.1,λhg=> ?_,λhg=>#[M,Sm.refl M,ke (.inl hg)]];dsimp? [hb,cl,m1];exact#[b,p,R,T',n,rfl,h0,hl.2,λlF=> ?_,λlF=>#[M,Sm.refl M,ke (.inr lF)]];dsimp? [];show zK (d:= .tup [.int 0, .tup [.int 0, .tup []], .tup []]) (.inl rfl) (.inl rfl) ⋯ rfl (fK (kq hg lF))
def Fu (T:eK K mg A):bv P w K mg base (gv P w) 13 A.Bl A.BB ["_law_book","_law_way","_law_crew","_law_name"] (sw K (N7 A.aZ A.bx A.cC A.dn)):=by
 have cl:=ar T.Book.cl;exact xp T.L5.fn wW (by rintro vs M q e ⟨b,p,R,T',k,c,n,rfl,_⟩;rfl) λcdv A' outer s H E e hr hF hP=> ?_;have nd:=wW.nd;exact#[_,(am (db (bO gf (pv 1) aD (cj _)) (ay (a_ (cB hP T.d_ (dZ T) (hr.mono ⋯) (pv 0) (aa (pv 3) ag)))) bN) (am (db (bO gf (pv 1) aD (cj _)) (ay (a_ (cB hP T.ny (pM T) (hr.mono ⋯) (pv 0) (aa (pv 2) ag)))) bN) (am (db (bO gf (pv 1) aD (cj _)) (ay (a_ (cB hP T.ko (iI T) (hr.mono ⋯) (pv 0) (aa (pv 2) ag)))) bN) (am (db (bO gf (pv 1) aD (cj _)) (ay (a_ (cB hP T.r_ (sI T) (hr.mono ⋯) (pv 0) (aa (pv 2) ag)))) bN) (am (db (bO gf (pv 1) aD (cj _)) (ay (a_ (cB hP T.uI (vA T) (hr.mono ⋯) (pv 0) (aa (pv 2) (aa (pv 3) ag))))) bN) (am (db (bO gf (pv 1) aD (cj _)) (ay (a_ (cB hP T.uJ (vB T) (hr.mono ⋯) (pv 0) (aa (pv 2) (aa (pv 3) ag))))) bN) (ay (a_ (cB hP T.uH (vz T) (hr.mono ⋯) (pv 0) (aa (pv 2) (aa (pv 3) ag))))))))))),?_];try dsimp only[dE]
 exact#[_,inferInstance,?_];rintro vs M q ⟨b,p,R,T',k,c,n,rfl,h0,⟨hc,hn⟩,⟨k0,k7⟩,kq,SQ,SO⟩;let⟨la,lu,lh,now,pa,un,he,hB⟩:=h0.bk;let⟨dx,hb⟩:=hB.ob;have m1:(dH p now la lu lh).lookup ("form" :Str)=none:=rfl;have m2:(dH p now la lu lh).lookup ("rooms" :Str)=none:=rfl;have m3:(dH p now la lu lh).lookup ("room" :Str)=none:=rfl;have m4:(dH p now la lu lh).lookup ("made" :Str)=none:=rfl;have m5:(dH p now la lu lh).lookup ("same" :Str)=none:=rfl;have sk: ∀v,fG R T' k c n= .ok -> ∃M0,Sm M0 M /\ q v M0:=λv h=>#[M,Sm.refl M,kq h v M (Sm.refl M)]
 have s1:fG R T' k c n= .nc -> ∃M0,Sm M0 M /\ e A.cC M0:=λh=>#[M,Sm.refl M,SQ h]
 have s2:fG R T' k c n= .nr -> ∃M0,Sm M0 M /\ e A.dn M0:=λh=>#[M,Sm.refl M,SO h]
 dsimp? [];exact dN (λh=> ?_) λh1=> ?_;subst h;dsimp? [hb,cl,pG];show#[b,la,lu,lh,now,p,pa,un,he,R,T',n,rfl,hB,hn,λa hg=>sk _ (by simp[fG,hg]),λhg=>s2 (by simp[fG,hg])];dsimp? [];exact dN (λh=> ?_) λh2=> ?_;subst h;dsimp? [hb,cl,zQ];show#[b,la,lu,lh,now,p,pa,un,he,R,T',c,rfl,hB,hc,λa hg u hu=>#[_,Sm.refl _,kq (by simp[fG,hg]) _ _ (bn hu)],λhg=>s1 (by simp[fG,hg])];dsimp? [];exact dN (λh=> ?_) λh3=> ?_;subst h;dsimp? [hb,cl,m1];show#[b,p,R,T',c,rfl,h0,hc,λhg=>sk _ (by simp[fG,hg]),λhg=>s1 (by simp[fG,hg])];dsimp? [];exact dN (λh=> ?_) λh4=> ?_;subst h;dsimp? [hb,cl,m2];show#[b,p,R,T',c,rfl,h0,hc,λhg=>sk _ (by simp[fG,hg]),λhg=>s1 (by simp[fG,hg])];dsimp? [];exact dN (λh=> ?_) λh5=> ?_;subst h;dsimp? [hb,cl,m3];show#[b,p,R,T',c,n,rfl,h0,#[hc,hn],λhg lF v=>sk _ (by simp[fG,hg,lF]),λhg=>s1 (by simp[fG,hg]),λhg lF=>s2 (by simp[fG,hg,lF]),trivial];dsimp? [];exact dN (λh=> ?_) λh6=> ?_;subst h;dsimp? [hb,cl,m4];show#[b,p,R,T',c,n,rfl,h0,#[hc,hn],λhg lF v=>sk _ (by simp[fG,hg,lF]),λhg=>s1 (by simp[fG,hg]),λhg lF=>s2 (by simp[fG,hg,lF]),trivial];obtain rfl:k=6:=by omega
 dsimp? [hb,cl,m5];show#[b,p,R,T',c,n,rfl,h0,#[hc,hn],λhg lF=>sk _ (by simp[fG,hg,lF]),λhg=>s1 (by by_cases h:cA T' c=none;simp[fG,h];simp[fG,h,hg.resolve_left h])]
def Ft (T:eK K mg A):bv P w K mg base ez 1 A.Bj A.BA ["_law_way","_law_crew_there","_law_name_there"] (fw K N4):=by
 exists T.L4.fn,["_law_way","_law_crew_there","_law_name_there"],(am (db (qB (bO LS (pv 0) aD (cj _)) (l0 (nO (jD (pv 1))))).pt (ay (a_ (cx (aa cV (aa qE (aa qE ag)))))) bN) (am (db (qB (bO gf (pv 0) aD (cj _)) (l0 (nO (jD (pv 2))))).pt (ay (a_ (cx (aa cV (aa qE (aa qE ag)))))) bN) (am (db (qB (bO g_ (pv 0) (cx (aa aD (aa aD (aa aD ag)))) (by rfl)) (l0 (nO (jD (pv 2))))).pt (ay (a_ (cx (aa cV (aa qE (aa qE ag)))))) bN) (ay (a_ cV)))))
 rintro vs M q ⟨k,x,y,rfl,⟨k0,k7⟩,kq⟩;dsimp? [];apply FR (λ_:Unit=> [some (wi k),some (wb x),some (wb y)]) (λ_=>M) (λ_=>¬(0<k /\ x=false));case use=>
  intro key
  exact dN (λh=>vE (λhx=> ?_) λhx=>key () λz=>by rw[z.2] at hx;cases hx) λh=>key () λz=>h z.1
  have e:sT k x y= .nc:=aj #[h, ⇑hx]
  rw[e] at kq
  show fK kq
 intro _ n1;exact eV ?_;dsimp? [];apply FR (λ_:Unit=> [some (wi k),some (wb x),some (wb y)]) (λ_=>M) (λ_=>¬(k=6 /\ y=false));case use=>
  intro key
  exact dN (λh=>vE (λhx=> ?_) λhx=>key () λz=>by rw[z.2] at hx;cases hx) λh=>key () λz=>h z.1
  have e:sT k x y= .nc:=by unfold sT;rw[ah n1,aj #[h, ⇑hx]]
  rw[e] at kq
  show fK kq
 intro _ n2;exact eV ?_;dsimp? [];exact#[.int k,[.int 0, .int 4, .int 5],rfl, .inl rfl,rfl,rfl,?_];rw[ah ⋯,J6];dsimp? [];by_cases h3:(k=0 \/ k=4 \/ k=5) /\ y=false;have e:sT k x y= .nr:=by unfold sT;rw[ah n1,ah n2,aj h3]
 rw[e] at kq;dsimp? [b_ h3.1,h3.2,cF];show fK kq;have e:sT k x y= .ok:=by unfold sT;rw[ah n1,ah n2,ah h3]
 rw[e] at kq;exact dN (λh=>vE (λhx=>absurd #[h, ⇑hx] h3) λhx=> ?_) λh=> ?_;dsimp? [];show fK kq;dsimp? [];show fK kq
def Cp (T:eK K mg A):bv P w K mg base ez 14 A.xJ A.xU ["_law_book","_law_way","_law_crew","_law_name"] (fw K (Jj A.aZ A.bx)):=by
 exists T.FI.fn,["_law_book","_law_way","_law_crew","_law_name","_law_told_here","e"],(am (4\cV) (am (IZ rfl rfl (E1 (Ja T.L5 (Fu T) (hr.mono ⋯) (by rfl) (aa (pv 0) (aa (pv 1) (aa (pv 2) (aa (pv 3) ag)))))) (Ii.name (i:=5) (by rfl) T.j5 nd rfl (by rfl) (λea=>(ay (4\(cx (aa cV (aa (bP (show dU _ _ (Ci K) from nh) (by rfl) T.fY Boot.«isinstance» (aa (pv 5) (aa (dR (by rfl) T.kS (show RelV (.ref A.d8) _ from rfl)) ag))) (aa (bP (show dU _ _ (Ci K) from nh) (by rfl) T.fY Boot.«isinstance» (aa (pv 5) (aa (dR (by rfl) T.FF (show RelV (.ref A.cC) _ from rfl)) ag))) ag))))))) (Ii.name (i:=5) (by rfl) T.lH nd rfl (by rfl) (λea=>(ay (4\(cx (aa cV (aa (bP (show dU _ _ (Ci K) from nh) (by rfl) T.fY Boot.«isinstance» (aa (pv 5) (aa (dR (by rfl) T.kS (show RelV (.ref A.d8) _ from rfl)) ag))) (aa (bP (show dU _ _ (Ci K) from nh) (by rfl) T.fY Boot.«isinstance» (aa (pv 5) (aa (dR (by rfl) T.Cv (show RelV (.ref A.dn) _ from rfl)) ag))) ag))))))) Ii.nil))) (ay (a_ (pv 4)))))
 rintro vs M q ⟨b,p,R,T',k,c,n,rfl,h0,hcn,hk,kq⟩;dsimp? [Ir,QQ,QR];exact#[b,p,R,T',k,c,n,rfl,h0,hcn,hk,λe v M' sm=> ?_,λe=> ?_,λe=> ?_];rw[e] at kq;dsimp? [];show#[M,sm,kq];rw[e] at kq;intro ea sR;exact PF T.hZ (Hh ?_);dsimp? [M_];exact p_ aq T.lH.k T.jO ?_;dsimp? [];exact p_ aq T.lH.k T.hZ ?_;dsimp? [Bc];show#[M,bn sR,kq];rw[e] at kq;intro ea sR;exact Hh ?_;dsimp? [M_];exact p_ aq T.j5.k T.jh ?_;dsimp? [];exact p_ aq T.j5.k T.n9 ?_;dsimp? [Bc];show#[M,bn sR,kq]
def Oe (T:eK K mg A):bv P w K mg base ez 15 A.Mx A.MB ["_law_script"] (wQ K):=by
 have cl:=ar T.Book.cl;have nu:=BG (vy (P:=P) (w:=w) (base:=base) T);have v8:=BG (vC (P:=P) (w:=w) (base:=base) T);have k9:=BG (sK (P:=P) (w:=w) (base:=base) T);have pS:=BG (pN (P:=P) (w:=w) (base:=base) T);exact Sz T.law.fn ED ⋯ λcdv A' outer s H E hr=> ?_;have nd:=ED.nd;exact#[_,(am (1\(aR T.AV (zk T) hr (aa (pv 0) ag))) (am (2\(aR T.l_p (Of T) hr (aa (pv 1) ag))) (am (3\(aR T.AU (zj T) hr (aa (pv 1) (aa aD ag)))) (am (4\(fB T.Book (Jy T) (hr.mono ⋯) (by rfl) (aa (pv 2) ag))) (am (c5 (cK T.oy nu (hr.mono ⋯) (pv 4) (aa (cW cD (pv 3) aD (λ_ _=>rfl)) (aa (eR (aa (cx (aa cV (aa aD ag))) ag)) ag)))) (am (c5 (cK T.oy nu (hr.mono ⋯) (pv 4) (aa (cW cD (pv 3) aD (λ_ _=>rfl)) (aa (eR (aa (cx (aa cV (aa aD ag))) ag)) ag)))) (am (c5 (cK T.lE k9 (hr.mono ⋯) (pv 4) (aa (cW cD (pv 3) aD (λ_ _=>rfl)) ag))) (am (c5 (cK T.lE k9 (hr.mono ⋯) (pv 4) (aa (cW cD (pv 3) aD (λ_ _=>rfl)) ag))) (am (5\(eR (aa (cW cD (pv 3) aD (λ_ _=>rfl)) (aa (cW cD (pv 3) aD (λ_ _=>rfl)) ag)))) (am (6\(eR (aa (cW cD (pv 3) aD (λ_ _=>rfl)) (aa (cW cD (pv 3) aD (λ_ _=>rfl)) ag)))) (am (db (bO gf (aR T.fm (dm T) hr (aa (pv 1) (aa aD ag))) aD (cj _)) (ay (c5 (cK T.uK v8 (hr.mono ⋯) (pv 4) (aa (tV PySem.F.plainAttrs_list PySem.F.slot_list_pop PySem.F.type_list_pop xq (pv 5) (aa (aR T.fm (dm T) hr (aa (pv 1) (aa aD ag))) ag)) ag)))) bN) (am (db (bO gf (aR T.fm (dm T) hr (aa (pv 1) (aa aD ag))) aD (cj _)) (ay (c5 (cK T.nz pS (hr.mono ⋯) (pv 4) (aa (tV PySem.F.plainAttrs_list PySem.F.slot_list_pop PySem.F.type_list_pop xq (pv 6) (aa (aR T.fm (dm T) hr (aa (pv 1) (aa aD ag))) ag)) ag)))) bN) (am (7\(cJ Fp (pv 3) (eR (aa cV (aa cV (aa cV ag)))))) (am (iC PassesOwn.never rfl (g0 (by rfl) T.nk (aa aD ag)) (aX (i:=8) nd rfl (by trivial)) (am (9\(cW cD (pv 7) (aR T.fm (dm T) hr (aa (pv 1) (aa aD ag))) (λ_ _=>rfl))) (am (10\(cW cD (pv 7) (aR T.fm (dm T) hr (aa (pv 1) (aa aD ag))) (λ_ _=>rfl))) (am (11\(fq g_ (pv 10) (pv 5) (by rfl))) (am (db (bO gf (pv 8) aD (cj _)) (ay (11\(fq g_ (pv 10) (pv 6) (by rfl)))) bN) (ay (db (bO (N9 Fo (Oa hr.U_)) (aR T.FI (Cp T) hr (aa (pv 4) (aa (pv 8) (aa (pv 9) (aa (pv 10) ag))))) (aR T.L4 (Ft T) hr (aa (pv 8) (aa (fq g_ (pv 9) (pv 6) (by rfl)) (aa (pv 11) ag)))) (cj _)) (ay (a_ qE)) bN))))))) (ay (a_ (Ff (fq (zf hr.U_) (j7 T.sq (sJ T) (hr.mono ⋯) (pv 4)) (bP rK (by rfl) T.fI Boot.«sorted» (aa (pv 5) ag)) (cj _)) (E6 (fq (zf hr.U_) (j7 T.sr (sL T) (hr.mono ⋯) (pv 4)) (bP rK (by rfl) T.fI Boot.«sorted» (aa (pv 6) ag)) (cj _)))))))))))))))))))),?_];try dsimp only[dE]
 exact#[_,inferInstance,?_];intro d l M hD;dsimp? [];exact#[d,l,rfl,hD,λp M1 hp D1 _=> ?_];dsimp? [];exact#[d,l,5,rfl,D1,⋯,⋯,λnl ns M2 HR hln xA Tb nnd nnl D2=> ?_];let⟨n0,n1,n2,n3,n4,rfl⟩: ∃n0 n1 n2 n3 n4,ns= [n0,n1,n2,n3,n4]:=by
  match ns,hln with
  | [a,b,c,d,e],_=>show#[a,b,c,d,e,rfl]
  | [],h=>cases h
  | [_],h=>cases h
  | [_,_],h=>cases h
  | [_,_,_],h=>cases h
  | [_,_,_,_],h=>cases h
  | _::_::_::_::_::_::_,h=>simp at h;omega
 dsimp? [];rw[gw];dsimp? [];intro b dxb Mu aeN jm;exact#[b,dxb,p,rfl,hp,aq,λM4 la lu lh now B4 F4 yH uc Gi FA=>#[rfl,?_]];have s4:Sm M2 M4:=λa o h=>F4 a o (bn Mu _ _ h) (cR h Mu);have fr: ∀ {a c:dw} {o:MO},um M2 b (.ins A.aZ dxb []) a=none ->M2 c=some o ->a≠c:=λ{a c o} h1 h2 e=>by rw[e,bn Mu _ _ h2] at h1;cases h1
 let⟨xd,VL⟩:=GV D2;let⟨xl,VJ⟩:=TZ D2;have q4:sB A.aZ A.bx M4 d l b la lu lh now p [] [] [] [] [] [(nl,[n0,n1,n2,n3,n4])]:=#[B4,MA D2 s4,#[fr yH VL,fr uc VL,fr Gi VL],#[fr yH VJ,fr uc VJ,fr Gi VJ],λz hz=>by rw[aK.mp hz];show#[s4 _ _ HR,nnd,nnl,#[fr yH HR,fr uc HR,fr Gi HR]],by simp]
 clear s4 fr VL VJ D2 HR yH uc Gi B4 F4 D1 Mu;have g4:pJ p [] []:=#[nofun,nofun,List.nodup_nil,List.nodup_nil,⋯]
 have Oh:=xA n0 (by simp);have Ql:=xA n1 (by simp);have HG:=xA n2 (by simp);have Qk:=xA n3 (by simp);have ok4:=xA n4 (by simp);have XZ:n0≠n1:=λe=>by simp[e] at Tb
 have XY:n2≠n3:=λe=>by simp[e] at Tb
 have e0:kZ [ws n0,ws n1,ws n2,ws n3,ws n4] 0=some (ws n0):=rfl;have e1:kZ [ws n0,ws n1,ws n2,ws n3,ws n4] 1=some (ws n1):=rfl;have e2:kZ [ws n0,ws n1,ws n2,ws n3,ws n4] 2=some (ws n2):=rfl;have e3:kZ [ws n0,ws n1,ws n2,ws n3,ws n4] 3=some (ws n3):=rfl;have p1:0< (1:Int) /\ (1:Int) <p:=by omega
 let⟨dx,hb⟩:=q4.bk.ob;have YF:=q4.ls (u:=nl) (ss:= [n0,n1,n2,n3,n4]) (by simp);simp![az,bL] at YF;dsimp? [YF,e0,hb,BJ];intro a5 ha5;have q5:=q4.sm (bn (o:= .lst [.tup [ws "turn",wi 1]]) ha5);have h5:um M4 a5 (.lst [.tup [ws "turn",wi 1]]) a5=some (.lst ([(("turn" :Str),(1:Int))].map Kt)):=aq;generalize um M4 a5 (.lst [.tup [ws "turn",wi 1]])=M5 at q5 h5 ⊢;have hds:P8 (.tell n0 [("turn",1)]):=#[Oh.1,⋯,⋯]
 exact nK #[b,la,lu,lh,now,p,[],[],[],[],[], .tell n0 [("turn",1)],_,rfl,#[n0,a5,_,rfl,rfl,h5],hds,q5.bk,g4.bk hp ⋯,λR' ho M6 lu6 pg6 B6 F6 hu6 _=> ?_,λr ho=> ?_];rotate_left;rw[uQ (a:=(0,[(0,1)])) g4 Oh.2 (by right) (Prod.ext (j6 hp).2.symm (j6 hp).1.symm) ⋯ (by simp)] at ho;cases ho;rw[uQ (a:=(0,[(0,1)])) g4 Oh.2 (by right) (Prod.ext (j6 hp).2.symm (j6 hp).1.symm) ⋯ (by simp)] at ho;cases ho;have q6:=q5.next B6 F6 hu6;have g6:=g4.put (n:=n0) (a:=(0,[(0,1)])) Oh.2 #[λz hz=>by rw[aK.mp hz];show p1,by simp] ⋯ ⋯ ⋯ (by simp) ⋯;clear q4 YF hb q5 h5 B6 F6 hu6 ha5 g4;simp![List.nil_append] at q6 g6;let⟨dx,hb⟩:=q6.bk.ob;have YE:=q6.ls (u:=nl) (ss:= [n0,n1,n2,n3,n4]) (by simp);simp![az,bL] at YE;dsimp? [YE,e1,hb,BJ];intro a7 Qx;have q7:=q6.sm (bn (o:= .lst [.tup [ws "go",wi 1]]) Qx);have h7:um M6 a7 (.lst [.tup [ws "go",wi 1]]) a7=some (.lst ([(("go" :Str),(1:Int))].map Kt)):=aq;generalize um M6 a7 (.lst [.tup [ws "go",wi 1]])=M7 at q7 h7 ⊢;have Tp:P8 (.tell n1 [("go",1)]):=#[Ql.1,⋯,⋯]
 have Xd:=uQ (ds:= [("go",1)]) (a:=(1,[])) g6 Ql.2 (by right) (Prod.ext (Ah hp).2.symm (Ah hp).1.symm) ⋯ (by simp;show λe=>XZ e.symm);exact nK #[b,la,lu6,lh,pg6,p,[now],[],[],_,[], .tell n1 [("go",1)],_,rfl,#[n1,a7,_,rfl,rfl,h7],Tp,q7.bk,g6.bk hp (by simp),λR' ho M8 lu8 pg8 B8 F8 hu8 _=> ?_,λr ho=> ?_];rotate_left;rw[Xd] at ho;cases ho;rw[Xd] at ho;cases ho;have q8:=q7.next B8 F8 hu8;have g8:=g6.put (n:=n1) (a:=(1,[])) Ql.2 de.nil ⋯ ⋯ ⋯ (by simp;show λe=>XZ e.symm) (by simp);clear q6 YE hb q7 h7 B8 F8 hu8 Qx g6 Xd;let⟨dx,hb⟩:=q8.bk.ob;have YD:=q8.ls (u:=nl) (ss:= [n0,n1,n2,n3,n4]) (by simp);simp![az,bL] at YD;dsimp? [YD,e2,hb,ye];have Xc:=xH (R:= [(n0,(0,[((0:Int),(1:Int))]))]++ [(n1,(1,[]))]) (T:= []) HG.2 (by simp);exact nK #[b,la,lu8,lh,pg8,p,_,[],[],_,[], .found n2,_,rfl,#[n2,rfl,rfl],HG.1,q8.bk,g8.bk hp (by simp),g8.tm,λT' ho M9 lu9 pg9 B9 F9 hu9 _=> ?_,λr ho=> ?_];rotate_left;rw[Xc] at ho;cases ho;rw[Xc] at ho;cases ho;have q9:=q8.next B9 F9 hu9;have g9:=g8.Sh (c:=n2) HG.1.len (by simp) (by simp);clear q8 YD hb B9 F9 hu9 g8 Xc;let⟨dx,hb⟩:=q9.bk.ob;have Ti:=q9.ls (u:=nl) (ss:= [n0,n1,n2,n3,n4]) (by simp);simp![az,bL] at Ti;dsimp? [Ti,e3,hb,ye];have Xb:=xH (R:= [(n0,(0,[((0:Int),(1:Int))]))]++ [(n1,(1,[]))]) (T:= []++ [(n2,[])]) Qk.2 (by simp;show λe=>XY e.symm);exact nK #[b,la,lu9,lh,pg9,p,_,[],[],_,_, .found n3,_,rfl,#[n3,rfl,rfl],Qk.1,q9.bk,g9.bk hp (by simp),g9.tm,λT' ho Ma lua pga Ba Fa hua _=> ?_,λr ho=> ?_];rotate_left;rw[Xb] at ho;cases ho;rw[Xb] at ho;cases ho;have qa:=q9.next Ba Fa hua;have ga:=g9.Sh (c:=n3) Qk.1.len (by simp;show λe=>XY e.symm) (by simp);have yH:=qa.ls (u:=nl) (ss:= [n0,n1,n2,n3,n4]) (by simp);simp![az,bL] at yH;clear q9 Ti hb Ba Fa hua g9 Xb;dsimp? [yH,e0,e1];intro r5 hr5;have qb:=qa.add (ss:= [n0,n1]) hr5;have Th:=qb.ls (u:=nl) (ss:= [n0,n1,n2,n3,n4]) (by simp);simp![az,bL] at Th qb;generalize um Ma r5 (.lst [ws n0,ws n1])=Mb at qb Th ⊢;dsimp? [Th,e2,e3];intro r6 hr6;have sc:vZ A.aZ A.bx d l b la lh r5 r6 p [n0,n1] [n2,n3] [(nl,[n0,n1,n2,n3,n4])] 4 (um Mb r6 (.lst [ws n2,ws n3])):=#[_,_,_,_,_,_,(qb.add (ss:= [n2,n3]) hr6).perm (List.Perm.swap _ _ _),ga,rfl,rfl,by simp]
 generalize um Mb r6 (.lst [ws n2,ws n3])=Mc at sc ⊢;clear qa yH qb Th ga hr5 hr6 hds Tp e0 e1 e2 e3 p1;simp? [↓dj];exact eV (vH (λρ M'=> ∃rs:cz Str,ρ= [none,some (wr d),some (wi p),some (wr nl),some (wr b),some (wr r5),some (wr r6),none,none,none,none,none] /\ vZ A.aZ A.bx d l b la lh r5 r6 p rs [n2,n3] [(nl,[n0,n1,n2,n3,n4])] 5 M') ?_ λN hN=> ?_);rotate_left
 .dsimp? [];exact#[d,l,2,rfl,sc.dr,⋯,⋯,λz Md z0 z1 Dd bd=> ?_];have sd:=sc.nb Dd bd;clear sc Dd bd;dsimp? [];exact dN (λ_=> ?_) λ_=> ?_;rotate_left;let⟨lu,now,pa,un,R,T',q,g,h1,h2,h5⟩:=sd;show hN _ _ #[_,rfl,lu,now,pa,un,R,T',q,g,h1,h2,by omega];let⟨dx,lu,now,hb⟩:=sd.ob;have h5:=sd.ls (u:=r5) (ss:= [n0,n1]) (by simp);dsimp? [hb,h5,KD,cl];exact#[d,l,2,rfl,sd.dr,⋯,⋯,λj Me j0 j1 De be=> ?_];have se:=sd.nb De be;clear sd hb h5 De be;let⟨lu,now,pa,un,R,T',q,g,h1,h2,h3⟩:=se;have h5:=q.ls (u:=r5) (ss:= [n0,n1]) (by simp);let⟨n,hn⟩: ∃n,[n0,n1][j.toNat]? =some n:=#[_,aw (by simp;omega)]
  exact wz h5 j0 (by omega) (by rw[aG,hn];rfl) ?_;rw[ul];have qf:=q.set (ss':= [n0,n1].eraseIdx j.toNat);have DK:n∈R.map (·.1):=by rw[h1];show aY hn
  have XI:Nm n:=by have:=aY hn;simp at this;obtain rfl | rfl:=this;show Oh.1;show Ql.1
  have dk:=Ku g DK;have ek:=xS g.rn (j:=j.toNat) (n:=n) (by rw[h1];show hn);clear q h5;exact nK #[b,la,lu,lh,now,p,_,_,_,_,_, .drop n,_,rfl,#[n,rfl,rfl],XI,qf.bk,g.bk hp (by omega),λR' ho Mg lug pgg Bg Fg Yl _=> ?_,λr ho=> ?_];rotate_left;rw[dk] at ho;cases ho;rw[dk] at ho;cases ho;show hN _ _ #[_,rfl,_,_,_,_,_,_,qf.next Bg Fg Yl,g.del n,by rw[ek,h1],h2,by simp;omega]
 clear sc;rintro ρ Md ⟨rs,rfl,sd⟩;exact vH (λρ M'=> ∃cs:cz Str,ρ= [none,some (wr d),some (wi p),some (wr nl),some (wr b),some (wr r5),some (wr r6),none,none,none,none,none] /\ vZ A.aZ A.bx d l b la lh r5 r6 p rs cs [(nl,[n0,n1,n2,n3,n4])] 6 M') ?_ λN hN=> ?_;rotate_left
 .dsimp? [];exact#[d,l,2,rfl,sd.dr,⋯,⋯,λz Me z0 z1 De be=> ?_];have se:=sd.nb De be;clear sd De be;dsimp? [];exact dN (λ_=> ?_) λ_=> ?_;rotate_left;let⟨lu,now,pa,un,R,T',q,g,h1,h2,h5⟩:=se;show hN _ _ #[_,rfl,lu,now,pa,un,R,T',q,g,h1,h2,by omega];let⟨dx,lu,now,hb⟩:=se.ob;have h6:=se.ls (u:=r6) (ss:= [n2,n3]) (by simp);dsimp? [hb,h6,zR,cl];exact#[d,l,2,rfl,se.dr,⋯,⋯,λj Mf j0 j1 Df bf=> ?_];have sf:=se.nb Df bf;clear se hb h6 Df bf;let⟨lu,now,pa,un,R,T',q,g,h1,h2,h3⟩:=sf;have q':=q.perm (List.Perm.swap _ _ _);have h6:=q.ls (u:=r6) (ss:= [n2,n3]) (by simp);let⟨n,hn⟩: ∃n,[n2,n3][j.toNat]? =some n:=#[_,aw (by simp;omega)]
  exact wz h6 j0 (by omega) (by rw[aG,hn];rfl) ?_;rw[ul];have qf:=(q'.set (ss':= [n2,n3].eraseIdx j.toNat)).perm (List.Perm.swap _ _ _);have DK:n∈T'.map (·.1):=by rw[h2];show aY hn
  have XI:Nm n:=by have:=aY hn;simp at this;obtain rfl | rfl:=this;show HG.1;show Qk.1
  have dk:=zM (R:=R) DK;have ek:=xS g.tn (j:=j.toNat) (n:=n) (by rw[h2];show hn);clear q q' h6;exact nK #[b,la,lu,lh,now,p,_,_,_,_,_, .disband n,_,rfl,#[n,rfl,rfl],XI,qf.bk,g.bk hp (by omega),g.tm,λT2 ho Mg lug pgg Bg Fg Yl _=> ?_,λr ho=> ?_];rotate_left;rw[dk] at ho;cases ho;rw[dk] at ho;cases ho;show hN _ _ #[_,rfl,_,_,_,_,_,_,qf.next Bg Fg Yl,g.adO n,h1,by rw[ek,h2],by simp;omega]
 clear sd;rintro ρ Me ⟨cs,rfl,se⟩;have hle:=se.ls (u:=nl) (ss:= [n0,n1,n2,n3,n4]) (by simp);simp![az,bL] at hle;simp? [↓dj,hle];intro a7 Qx;have h3z:([ws n0,ws n1,ws n2,ws n3,ws n4].length+3<=sizeLine)=True:=ar (df (by simp));have Tg:=bn (o:= .lst [ws (Str.ofString ""),ws (Str.ofString "A b"),ws (Str.ofString "~~")]) Qx _ _ hle;have sf:=se.sm (bn (o:= .lst [ws (Str.ofString ""),ws (Str.ofString "A b"),ws (Str.ofString "~~")]) Qx);simp? [↓dj,Tg,h3z];intro r7 hr7;have sg:=sf.add (ss:= [n0,n1,n2,n3,n4,Str.ofString "",Str.ofString "A b",Str.ofString "~~"]) hr7;have VP: ∀n∈ [n0,n1,n2,n3,n4,Str.ofString "",Str.ofString "A b",Str.ofString "~~"],n.length<=100:=λn hn=>by simp![aL,List.not_mem_nil,or_false] at hn;obtain rfl | rfl | rfl | rfl | rfl | rfl | rfl | rfl:=hn;show Oh.1.len;show Ql.1.len;show HG.1.len;show Qk.1.len;show ok4.1.len;decide+kernel;decide+kernel;decide+kernel
 have l8: [n0,n1,n2,n3,n4,Str.ofString "",Str.ofString "A b",Str.ofString "~~"].length=8:=rfl;change hold _ _ (um _ r7 (.lst ([n0,n1,n2,n3,n4,Str.ofString "",Str.ofString "A b",Str.ofString "~~"].map ws)));revert sg VP l8;generalize [n0,n1,n2,n3,n4,Str.ofString "",Str.ofString "A b",Str.ofString "~~"]=n8;intro sg VP l8;generalize um (um Me a7 (.lst [ws (Str.ofString ""),ws (Str.ofString "A b"),ws (Str.ofString "~~")])) r7 (.lst (n8.map ws))=Mg at sg ⊢;clear se hle Tg h3z sf Qx hr7 Oh Ql HG Qk ok4 XZ XY Tb xA hln;dsimp? [];exact#[#[⋯,⋯],mB (λi ρ M'=>gs λ(o8 o9 XM XJ:cT W)=>ρ= [none,some (wr d),some (wi p),some (wr nl),some (wr b),some (wr r5),some (wr r6),some (wr r7),o8,o9,XM,XJ] /\ vZ A.aZ A.bx d l b la lh r5 r6 p rs cs ((r7,n8):: [(nl,[n0,n1,n2,n3,n4])]) 6 M') #[none,none,none,none,rfl,sg] (λ_ _ _ _ _=>trivial) ?_ ?_]
 .clear sg;rintro i x ρ Mh hx ⟨o8,o9,XM,XJ,rfl,sh⟩ N hN;let⟨hi,rfl⟩:=qA hx;have hi7:i<7:= ⇑hi;have h7:=sh.ls (u:=r7) (ss:=n8) (by simp);dsimp? [h7];exact#[d,l,8,rfl,sh.dr,⋯,⋯,λj Mi j0 j1 Di bi=> ?_];have si:=sh.nb Di bi;clear sh h7 Di bi;have h7:=si.ls (u:=r7) (ss:=n8) (by simp);let⟨c,hc⟩: ∃c,n8[j.toNat]? =some c:=#[_,aw (by omega)]
  have kz:=VP c (aY hc);have ec:kZ (n8.map ws) j=some (ws c):=qh j0 (by rw[aG,hc];rfl);dsimp? [h7,ec];exact#[d,l,8,rfl,si.dr,⋯,⋯,λk Mj k0 k1 Dj bj=> ?_];have sj:=si.nb Dj bj;clear si h7 Dj bj;have h7:=sj.ls (u:=r7) (ss:=n8) (by simp);let⟨n,hn⟩: ∃n,n8[k.toNat]? =some n:=#[_,aw (by omega)]
  have HR:=VP n (aY hn);have en:kZ (n8.map ws) k=some (ws n):=qh k0 (by rw[aG,hn];rfl);have h5:=sj.ls (u:=r5) (ss:=rs) (by simp);have h6:=sj.ls (u:=r6) (ss:=cs) (by simp);dsimp? [h7,en];exact#[.str n,rs.map .str,rfl, .inr #[r5,rfl,by rw[qM];show h5],rfl,lv _,?_];rw[ah (show ¬(false=true) by decide),mm];simp? [↓dj];exact eV (vH (λρ M'=>ρ= [none,some (wr d),some (wi p),some (wr nl),some (wr b),some (wr r5),some (wr r6),some (wr r7),some (wi (0+(i:Int))),some (ws c),some (ws n),some (wb (if(0+(i:Int))=6 then decide (n∈cs) else decide (n∈rs)))] /\ M'=Mj) ?_ λN2 hN2=> ?_);rotate_left;dsimp? [];exact dN (λh=> ?_) λh=>hN2 _ _ #[by rw[ah h],rfl];dsimp? [];exact#[.str n,cs.map .str,rfl, .inr #[r6,rfl,by rw[qM];show h6],rfl,lv _,?_];rw[ah (show ¬(false=true) by decide),mm];dsimp? [];show hN2 _ _ #[by rw[aj h],rfl];rintro ρ M' ⟨rfl,rfl⟩;let⟨lu,now,pa,un,R,T',q,g,h1,h2,h3⟩:=sj;dsimp? [];exact#[b,p,R,T',0+(i:Int),c,n,rfl,g.bk0 hp q.bk,#[kz,HR],#[by omega,by omega],?_];dsimp? [];exact#[.str c,cs.map .str,rfl, .inr #[r6,rfl,by rw[qM];show h6],rfl,lv _,?_];rw[ah (show ¬(false=true) by decide),mm];dsimp? [];exact#[0+(i:Int),decide (c∈cs),_,rfl,#[by omega,by omega],?_];rw[GR (R:=R) (T:=T') (c:=c) (n:=n) (by rw[decide_eq_true_eq,d0,h2]) (by by_cases h:(0+(i:Int))=6;rw[aj h,aj h,decide_eq_true_eq,d0,h2];rw[ah h,ah h,decide_eq_true_eq,d0,h1])];exact Sf _ ?_;dsimp? [];show hN _ _ #[_,_,_,_,rfl,lu,now,pa,un,R,T',q,g,h1,h2,h3]
 clear sg;rintro ρ Mh ⟨o8,o9,XM,XJ,rfl,sh⟩;let⟨lu,now,pa,un,R,T',q,g,h1,h2,h3⟩:=sh;let⟨dx,hb⟩:=q.bk.ob;have h5:=q.ls (u:=r5) (ss:=rs) (by simp);have h6:=q.ls (u:=r6) (ss:=cs) (by simp);dsimp? [hb,Hc,cl];exact#[b,la,lu,lh,now,p,_,_,_,_,_,rfl,q.bk,by have:=g.sz.1;omega,λu ns hu h_ Gd=> ?_];have q2:=q.sm (bn (o:= .lst (ns.map ws)) hu);have VM:um Mh u (.lst (ns.map ws)) u=some (.lst (ns.map ws)):=aq;have h52:=bn (o:= .lst (ns.map ws)) hu _ _ h5;have h62:=bn (o:= .lst (ns.map ws)) hu _ _ h6;generalize um Mh u (.lst (ns.map ws))=Mi at q2 VM h52 h62 ⊢;dsimp? [];exact#[r5,rs,rfl,h52,λv ms hv OU OP=> ?_];obtain rfl:=wR (by rw[h1] at h_;show h_) OU Gd OP;exact zK (DR.list vQ (bn hv _ _ VM)) (DR.list vQ aq) (GW _) rfl ?_;have q3:=q2.sm (bn (o:= .lst (ns.map ws)) hv);have h63:=bn (o:= .lst (ns.map ws)) hv _ _ h62;generalize um Mi v (.lst (ns.map ws))=Mj at q3 h63 ⊢;let⟨dx,hb⟩:=q3.bk.ob;dsimp? [hb,Hd,cl];exact#[b,la,lu,lh,now,p,_,_,_,_,_,rfl,q3.bk,by have:=g.sz.2;omega,λu2 Vw VM Ge OO=> ?_];have hu4:um Mj u2 (.lst (Vw.map ws)) u2=some (.lst (Vw.map ws)):=aq;have Gs:=bn (o:= .lst (Vw.map ws)) VM _ _ h63;generalize um Mj u2 (.lst (Vw.map ws))=Mk at hu4 Gs ⊢;dsimp? [];exact#[r6,cs,rfl,Gs,λv2 ms2 Qs OT ON=> ?_];obtain rfl:=wR (by rw[h2] at Ge;show Ge) OT OO ON;show zK (DR.list vQ (bn Qs _ _ hu4)) (DR.list vQ aq) (GW _) rfl rfl
end
end dL
namespace dL
open PySem L2 WL WQ PyProof.Rows
theorem walk {l:W.OpenLaw}{q:gA}{oP:cz Str}{XP:(Str ->cT cG) ->gC ->Prop}{YP:gB ->gC ->Prop}{d:DefRec}{K:Params ->gg}(hn:l.most=some 63)(Tq:d.params.defaults= []) (hY: ∀ (w:gB) (h:gC),YP w h ->(K w.params).In h) (nm:d.name= "law") (F: ∀ (w:gB) (mg:Str ->cT cG) (h:gC),(K w.params).In h ->h.Ns mainGlobals mg -> ∃A,eK (K w.params) mg A): W.WalkO q oP XP YP l.row.toRowW d [] (λf vs=>PySem.call f vs):=L2.Iq (n:=63) (k:=15) (x:= "_law_script") (CX:=λ_=>ez) (sp:=λw=>wQ (K w.params)) hn ⋯ Tq #[rfl,⋯,⋯] hY (λw mg fa h X G e=>(F w mg h X G).elim λ_ T=>Ox T.law (nm▸e) (λ_ _ _ _ _ _ _=>rfl) λ_=>Oe T) (λ_ _ a ns hl _ hS=>#[a,ns,rfl,hS,λ_=>rfl]) λ_ _ _ _ _ z=>z
end dL
end
def PySem.W.Fast.tw1188721996358349597:Nat:=0
def PySem.W.Fast.tw2424982086541937925:Nat:=0
def PySem.W.Fast.tw200936021528843444:Nat:=0
def PySem.W.Fast.tw16545567176094412084:Nat:=0
def PySem.W.Fast.tw9141419876636227888:Nat:=0
def PySem.W.Fast.tw4659632369509083779:Nat:=0
def PySem.W.Fast.tw15540060621535224445:Nat:=0
def PySem.W.Fast.tw13984315877864595951:Nat:=0
def PySem.W.Fast.tw10828991119678799307:Nat:=0
def PySem.W.Fast.tw2872601044244667132:Nat:=0
def PySem.W.Fast.tw2065799792470575405:Nat:=0
def PySem.W.Fast.tw26249172011040591:Nat:=0
def PySem.W.Fast.tw4494390106973581935:Nat:=0
def PySem.W.Fast.tw7460427878115735720:Nat:=0
def PySem.W.Fast.tw1412028995759666305:Nat:=0
def PySem.W.Fast.tw6708156037424422247:Nat:=0
def PySem.W.Fast.tw8187614271085818895:Nat:=0
def PySem.W.Fast.tw6228963515729411908:Nat:=0
def PySem.W.Fast.tw91267988624891803:Nat:=0
def PySem.W.Fast.tw3164350007792660478:Nat:=0
def PySem.W.Fast.tw7078383705557136598:Nat:=0
def PySem.W.Fast.tw12578221084374391889:Nat:=0
def PySem.W.Fast.tw8496976354681381666:Nat:=0
def PySem.W.Fast.tw4332165590235727974:Nat:=0
def PySem.W.Fast.tw743303166396163698:Nat:=0
def PySem.W.Fast.tw10243856904517652371:Nat:=0
def PySem.W.Fast.tw11848226382967786454:Nat:=0
def PySem.W.Fast.tw15157525081148939083:Nat:=0
def PySem.W.Fast.tw5962818183111436909:Nat:=0
def PySem.W.Fast.tw9324608200854693955:Nat:=0
def PySem.W.Fast.tw6150578327002134868:Nat:=0
def PySem.W.Fast.tw9432665179930372770:Nat:=0
def PySem.W.Fast.tw13251915397957898648:Nat:=0
def PySem.W.Fast.tw15543596282732317880:Nat:=0
def PySem.W.Fast.tw13655443435375011261:Nat:=0
def PySem.W.Fast.tw17827423006442504829:Nat:=0
def PySem.W.Fast.tw12000376672438578036:Nat:=0
def PySem.W.Fast.tw14430876733442022440:Nat:=0
def PySem.W.Fast.tw18135384442458890005:Nat:=0
def PySem.W.Fast.tw3846040409366452135:Nat:=0
def PySem.W.Fast.tw7507069048639703121:Nat:=0
def PySem.W.Fast.tw18282101365997120338:Nat:=0
def PySem.W.Fast.tw3922141537029038016:Nat:=0
def PySem.W.Fast.tw9708784673924885618:Nat:=0
def PySem.W.Fast.tw4687580061277224638:Nat:=0
def PySem.W.Fast.tw14227083297309686161:Nat:=0
def PySem.W.Fast.tw4531187794910078764:Nat:=0
def PySem.W.Fast.tw1302057340086769863:Nat:=0
def PySem.W.Fast.tw16035039224913772527:Nat:=0
def PySem.W.Fast.tw17365141916352661647:Nat:=0
def PySem.W.Fast.tw9595022545767994051:Nat:=0
def PySem.W.Fast.tw7480970625454847599:Nat:=0
def PySem.W.Fast.tw4987304210939044862:Nat:=0
def PySem.W.Fast.tw5809712704757768527:Nat:=0
def PySem.W.Fast.tw1959383741525432554:Nat:=0
def PySem.W.Fast.tw16044603469350485538:Nat:=0
def PySem.W.Fast.tw9600543384956947873:Nat:=0
def PySem.W.Fast.tw2395604783303095953:Nat:=0
def PySem.W.Fast.tw8917239922581918208:Nat:=0
def PySem.W.Fast.tw2467052546543238664:Nat:=0
def PySem.W.Fast.tw9673454674020188146:Nat:=0
def PySem.W.Fast.tw8013496251543696281:Nat:=0
def PySem.W.Fast.tw15265949295620751107:Nat:=0
def PySem.W.Fast.tw11849803555093176721:Nat:=0
def PySem.W.Fast.tw17292545120442871619:Nat:=0
def PySem.W.Fast.tw14979454887090014530:Nat:=0
def PySem.W.Fast.tw7908826124417709389:Nat:=0
def PySem.W.Fast.tw14293810739944150787:Nat:=0
def PySem.W.Fast.tw4057650213545031212:Nat:=0
def PySem.W.Fast.tw195626349523631673:Nat:=0
def PySem.W.Fast.tw2733725070296683227:Nat:=0
def PySem.W.Fast.tw17988458227431461889:Nat:=0
def PySem.W.Fast.tw8446761643383426641:Nat:=0
def PySem.W.Fast.tw5541814530346222568:Nat:=0
def PySem.W.Fast.tw2912444689985825439:Nat:=0
def PySem.W.Fast.tw7105540772799888228:Nat:=0
def PySem.W.Fast.tw5696425670776185326:Nat:=0
def PySem.W.Fast.tw5586988553699761723:Nat:=0
def PySem.W.Fast.tw17592061071537061792:Nat:=0
def PySem.W.Fast.tw5366995061486374221:Nat:=0
def PySem.W.Fast.tw17953065924332961385:Nat:=0
def PySem.W.Fast.tw2261629520682151406:Nat:=0
def PySem.W.Fast.tw16532462070081008514:Nat:=0
def PySem.W.Fast.tw2922451114331338497:Nat:=0
def PySem.W.Fast.tw18157803891136239089:Nat:=0
def PySem.W.Fast.tw13379807640708790083:Nat:=0
def PySem.W.Fast.tw3297276515888600963:Nat:=0
def PySem.W.Fast.tw13377403386222613465:Nat:=0
def PySem.W.Fast.tw14783271167656139406:Nat:=0
def PySem.W.Fast.tw1658623514683750147:Nat:=0
def PySem.W.Fast.tw11645557696881282166:Nat:=0
def PySem.W.Fast.tw17397575470500085855:Nat:=0
def PySem.W.Fast.tw8593805925073397351:Nat:=0
def PySem.W.Fast.tw16518207398935863447:Nat:=0
def PySem.W.Fast.tw2323707306741284787:Nat:=0
def PySem.W.Fast.tw485849886656532943:Nat:=0
def PySem.W.Fast.tw10889792034243154136:Nat:=0
def PySem.W.Fast.tw16500405599440590628:Nat:=0
def PySem.W.Fast.tw7798991663912881702:Nat:=0
def PySem.W.Fast.tw17243896297908498250:Nat:=0
def PySem.W.Fast.tw16828720915323310189:Nat:=0
def PySem.W.Fast.tw1087600949073811150:Nat:=0
def PySem.W.Fast.tw668610527048742504:Nat:=0
def PySem.W.Fast.tw12872951805289879151:Nat:=0
def PySem.W.Fast.tw9284642425954269377:Nat:=0
def PySem.W.Fast.tw6955527833870687837:Nat:=0
def PySem.W.Fast.tw10217391324408593574:Nat:=0
def PySem.W.Fast.tw445626753226442443:Nat:=0
def PySem.W.Fast.tw14640491646981319401:Nat:=0
def PySem.W.Fast.tw3854099578933970681:Nat:=0
def PySem.W.Fast.tw4532048572887389534:Nat:=0
def PySem.W.Fast.tw16428540671809145564:Nat:=0
def PySem.W.Fast.tw10490100731276308080:Nat:=0
def PySem.W.Fast.tw5580502547267055629:Nat:=0
def PySem.W.Fast.tw17827995058673427726:Nat:=0
def PySem.W.Fast.tw1741848804432732449:Nat:=0
def PySem.W.Fast.tw16628260850288848092:Nat:=0
def PySem.W.Fast.tw6207696653823747597:Nat:=0
def PySem.W.Fast.tw7735335192201360243:Nat:=0
def PySem.W.Fast.tw11679833463507848208:Nat:=0
def PySem.W.Fast.tw5753343697782455378:Nat:=0
def PySem.W.Fast.tw13239571604960977398:Nat:=0
def PySem.W.Fast.tw12273900316928981449:Nat:=0
def PySem.W.Fast.tw6418662875545535347:Nat:=0
def PySem.W.Fast.tw10624176155647355890:Nat:=0
def PySem.W.Fast.tw13929334202576462760:Nat:=0
def PySem.W.Fast.tw4282008349664261425:Nat:=0
def PySem.W.Fast.tw15792278888175347759:Nat:=0
def PySem.W.Fast.tw5338594447039507697:Nat:=0
def PySem.W.Fast.tw8883198331256886372:Nat:=0
def PySem.W.Fast.tw17048484650478887621:Nat:=0
def PySem.W.Fast.tw12387321273763179915:Nat:=0
def PySem.W.Fast.tw13257335626512978212:Nat:=0
def PySem.W.Fast.tw16288425520033433050:Nat:=0
def PySem.W.Fast.tw17339558410347980426:Nat:=0
def PySem.W.Fast.tw1664518721231733922:Nat:=0
def PySem.W.Fast.tw5980843127987603386:Nat:=0
def PySem.W.Fast.tw16779351815189229546:Nat:=0
def PySem.W.Fast.tw6930347524714831780:Nat:=0
def PySem.W.Fast.tw15151594029911180698:Nat:=0
def PySem.W.Fast.tw4841621745614487806:Nat:=0
def PySem.W.Fast.tw16210443234509525981:Nat:=0
def PySem.W.Fast.tw12292815939349261737:Nat:=0
def PySem.W.Fast.tw6866747053330559658:Nat:=0
def PySem.W.Fast.tw13964492922761185950:Nat:=0
def PySem.W.Fast.tw8462238178221376599:Nat:=0
def PySem.W.Fast.tw235574913296349101:Nat:=0
def PySem.W.Fast.tw4122293129324755647:Nat:=0
def PySem.W.Fast.tw11273091582130794591:Nat:=0
def PySem.W.Fast.tw7925808663745290478:Nat:=0
def PySem.W.Fast.tw17482546620429022736:Nat:=0
def PySem.W.Fast.tw14743117202855200043:Nat:=0
def PySem.W.Fast.tw14571218559662924848:Nat:=0
def PySem.W.Fast.tw11691299970088697543:Nat:=0
def PySem.W.Fast.tw1917009537322412576:Nat:=0
def PySem.W.Fast.tw11615153530250092164:Nat:=0
def PySem.W.Fast.tw11491909604792972649:Nat:=0
def PySem.W.Fast.tw9603340449015969841:Nat:=0
def PySem.W.Fast.tw3373122946751118958:Nat:=0
def PySem.W.Fast.tw14229780965446544867:Nat:=0
def PySem.W.Fast.tw12739886488165701960:Nat:=0
def PySem.W.Fast.tw15687084055494739147:Nat:=0
def PySem.W.Fast.tw17440086584239126160:Nat:=0
def PySem.W.Fast.tw15130426221957103454:Nat:=0
def PySem.W.Fast.tw17981895015432820309:Nat:=0
def PySem.W.Fast.tw14666553268202048881:Nat:=0
def PySem.W.Fast.tw11651206490512643742:Nat:=0
def PySem.W.Fast.tw9075856467390743776:Nat:=0
def PySem.W.Fast.tw1947564825736317715:Nat:=0
def PySem.W.Fast.tw7835103917097163473:Nat:=0
def PySem.W.Fast.tw14852181737124119960:Nat:=0
def PySem.W.Fast.tw14784648761957239311:Nat:=0
def PySem.W.Fast.tw6867095245382885731:Nat:=0
def PySem.W.Fast.tw1247950647029658530:Nat:=0
def PySem.W.Fast.tw16249500926397493064:Nat:=0
def PySem.W.Fast.tw8820043906548709449:Nat:=0
def PySem.W.Fast.tw9576241030813440524:Nat:=0
def PySem.W.Fast.tw7109333307025585130:Nat:=0
def PySem.W.Fast.tw14863839903486656379:Nat:=0
def PySem.W.Fast.tw7409121401259129577:Nat:=0
def PySem.W.Fast.tw6594111903510423623:Nat:=0
def PySem.W.Fast.tw15295726930599255436:Nat:=0
def PySem.W.Fast.tw1624034028024909898:Nat:=0
def PySem.W.Fast.tw18419344924992631943:Nat:=0
def PySem.W.Fast.tw8662349430651239699:Nat:=0
def PySem.W.Fast.tw15796998177963976779:Nat:=0
open PySem PySem.W PyProof.Rows L2
set_option maxRecDepth 100000 in
set_option maxHeartbeats 0 in
theorem PySem.Challenge.cw_duskround_k48_questions_refused_holds : PySem.Challenge.rw_duskround_k48_questions_refused.Holds := by
 w_on;o_law;k_head;(case hw=>w_witness2)
 k_fill
 refine dL.walk (l:=PySem.Challenge.rw_duskround_k48_questions_refused) rfl rfl (λw h Y=>PySem.W.kIn_of Y) rfl λw mg h X G=> ?_
 have' PQ:=bG (x:= "tidy") (ps:= ["p","pairs"]) (st:=dL.y0) X G ?g13 ?g14 ?g15 ?g16;(case g13 | g14 | g15 | g16=>k_is);have' K6:=bG (x:= "added") (ps:= ["p","one","other"]) (st:=dL.Ax) X G ?g17 ?g18 ?g19 ?g20;(case g17 | g18 | g19 | g20=>k_is);have' K2:=bG (x:= "moved") (ps:= ["pattern","by"]) (st:=dL.uZ) X G ?g21 ?g22 ?g23 ?g24;(case g21 | g22 | g23 | g24=>k_is);have' KY:=bG (x:= "timed") (ps:= ["p","pattern","n"]) (st:=dL.uX) X G ?g25 ?g26 ?g27 ?g28;(case g25 | g26 | g27 | g28=>k_is);have' K1:=bG (x:= "still") (ps:= []) (st:=dL.uY) X G ?g29 ?g30 ?g31 ?g32;(case g29 | g30 | g31 | g32=>k_is);have' PU:=bG (x:= "gone") (ps:= ["p","deeds"]) (st:=dL.y3) X G ?g33 ?g34 ?g35 ?g36;(case g33 | g34 | g35 | g36=>k_is);have' Hx:=bG (x:= "joined") (ps:= ["p","one","other"]) (st:=dL.w5) X G ?g37 ?g38 ?g39 ?g40;(case g37 | g38 | g39 | g40=>k_is);have' zZ:=bG (x:= "backward") (ps:= ["p","one"]) (st:=dL.qz) X G ?g41 ?g42 ?g43 ?g44;(case g41 | g42 | g43 | g44=>k_is);have' zX:=bG (x:= "repeated") (ps:= ["p","one","n"]) (st:=dL.f9) X G ?g45 ?g46 ?g47 ?g48;(case g45 | g46 | g47 | g48=>k_is);have' tG:=bG (x:= "lies_within") (ps:= ["one","farthest_end","farthest_place"]) (st:=dL.gI) X G ?g49 ?g50 ?g51 ?g52;(case g49 | g50 | g51 | g52=>k_is);have' DA:=bG (x:= "inverse") (ps:= ["p","setting"]) (st:=dL.tR) X G ?g53 ?g54 ?g55 ?g56;(case g53 | g54 | g55 | g56=>k_is);have' Hz:=rH (x:= "Row") (ps:= ["self","lamps","parts"]) (st:=dL.LC) X G ?g57 ?g58 ?g59 ?g60 ?g61 ?g62 ?g63 ?g64 ?g65 ?g66 ?g67 ?g68;(case g57 | g58 | g59 | g60 | g61 | g62 | g63 | g64 | g65 | g66 | g67 | g68=>k_is);have' km:=rH (x:= "Stair") (ps:= ["self","row","first","length","foot"]) (st:=dL.Ay) X G ?g69 ?g70 ?g71 ?g72 ?g73 ?g74 ?g75 ?g76 ?g77 ?g78 ?g79 ?g80;(case g69 | g70 | g71 | g72 | g73 | g74 | g75 | g76 | g77 | g78 | g79 | g80=>k_is);have' Hy:=bG (x:= "column") (ps:= ["place","stride"]) (st:=dL.w6) X G ?g81 ?g82 ?g83 ?g84;(case g81 | g82 | g83 | g84=>k_is);have' rS:=bG (x:= "first_column") (ps:= ["places","stride"]) (st:=dL.ju) X G ?g85 ?g86 ?g87 ?g88;(case g85 | g86 | g87 | g88=>k_is);have' DB:=bG (x:= "heights") (ps:= ["places","stride","first"]) (st:=dL.tS) X G ?g89 ?g90 ?g91 ?g92;(case g89 | g90 | g91 | g92=>k_is);have' tH:=bG (x:= "add_shifted") (ps:= ["p","held","others","by","n"]) (st:=dL.kI) X G ?g93 ?g94 ?g95 ?g96;(case g93 | g94 | g95 | g96=>k_is);have' yq:=bG (x:= "add_moved") (ps:= ["p","stride","row","other","shift","n"]) (st:=dL.oF) X G ?g97 ?g98 ?g99 ?g100;(case g97 | g98 | g99 | g100=>k_is);have' nv:=bG (x:= "too_high_or_low") (ps:= ["found","length"]) (st:=dL.gz) X G ?g101 ?g102 ?g103 ?g104;(case g101 | g102 | g103 | g104=>k_is);have' UH:=bG (x:= "cut") (ps:= ["p","stride","row","stair"]) (st:=dL.LA) X G ?g105 ?g106 ?g107 ?g108;(case g105 | g106 | g107 | g108=>k_is);have' K0:=bG (x:= "stood") (ps:= ["p","stride","row"]) (st:=dL.Av) X G ?g109 ?g110 ?g111 ?g112;(case g109 | g110 | g111 | g112=>k_is);have' v_:=bG (x:= "told_parts") (ps:= ["p","parts","n"]) (st:=dL.iz) X G ?g113 ?g114 ?g115 ?g116;(case g113 | g114 | g115 | g116=>k_is);have' KZ:=bG (x:= "taken") (ps:= ["p","stride","stairs","pattern"]) (st:=dL.Au) X G ?g117 ?g118 ?g119 ?g120;(case g117 | g118 | g119 | g120=>k_is);have' Dw:=bG (x:= "rest_of") (ps:= ["p","stride","stairs","pattern"]) (st:=dL.tP) X G ?g121 ?g122 ?g123 ?g124;(case g121 | g122 | g123 | g124=>k_is);have' Dv:=bG (x:= "take_in") (ps:= ["p","stride","held","row"]) (st:=dL.tO) X G ?g125 ?g126 ?g127 ?g128;(case g125 | g126 | g127 | g128=>k_is);have' Dx:=bG (x:= "lie_low") (ps:= ["p","stride","held"]) (st:=dL.tQ) X G ?g129 ?g130 ?g131 ?g132;(case g129 | g130 | g131 | g132=>k_is);have' K5:=bG (x:= "built") (ps:= ["p","stride","patterns"]) (st:=dL.pZ) X G ?g133 ?g134 ?g135 ?g136;(case g133 | g134 | g135 | g136=>k_is);have' yp:=bG (x:= "fits_crew") (ps:= ["one"]) (st:=dL.oE) X G ?g137 ?g138 ?g139 ?g140;(case g137 | g138 | g139 | g140=>k_is);have' pT:=bG (x:= "check_members") (ps:= ["members"]) (st:=dL.iX) X G ?g141 ?g142 ?g143 ?g144;(case g141 | g142 | g143 | g144=>k_is);have' lB:=bG (x:= "greatest_divisor") (ps:= ["ends"]) (st:=dL.f') X G ?g145 ?g146 ?g147 ?g148;(case g145 | g146 | g147 | g148=>k_is);have' Hu:=bG (x:= "row_to") (ps:= ["ends","stride"]) (st:=dL.wX) X G ?g149 ?g150 ?g151 ?g152;(case g149 | g150 | g151 | g152=>k_is);have' zY:=bG (x:= "gone_row") (ps:= ["p","members","row"]) (st:=dL.qy) X G ?g153 ?g154 ?g155 ?g156;(case g153 | g154 | g155 | g156=>k_is);have' eD:=rH (x:= "Crew") (ps:= ["self","p","members"]) (st:=dL.u9) X G ?g157 ?g158 ?g159 ?g160 ?g161 ?g162 ?g163 ?g164 ?g165 ?g166 ?g167 ?g168;(case g157 | g158 | g159 | g160 | g161 | g162 | g163 | g164 | g165 | g166 | g167 | g168=>k_is);have' yw:=c8 (m:= "form") (ps:= ["self"]) (st:=dL.oJ) eD ?g169 ?g170 ?g171 ?g172 ?g173;(case g169 | g170 | g171 | g172 | g173=>k_is);have' yu:=c8 (m:= "laps") (ps:= ["self","end"]) (st:=dL.oI) eD ?g174 ?g175 ?g176 ?g177 ?g178;(case g174 | g175 | g176 | g177 | g178=>k_is);have' we:=c8 (m:= "level") (ps:= ["self","lap","one"]) (st:=dL.lV) eD ?g179 ?g180 ?g181 ?g182 ?g183;(case g179 | g180 | g181 | g182 | g183=>k_is);have' yr:=c8 (m:= "room") (ps:= ["self","one"]) (st:=dL.oG) eD ?g184 ?g185 ?g186 ?g187 ?g188;(case g184 | g185 | g186 | g187 | g188=>k_is);have' yt:=c8 (m:= "made") (ps:= ["self","one"]) (st:=dL.oH) eD ?g189 ?g190 ?g191 ?g192 ?g193;(case g189 | g190 | g191 | g192 | g193=>k_is);have' wd:=c8 (m:= "rooms") (ps:= ["self"]) (st:=dL.lU) eD ?g194 ?g195 ?g196 ?g197 ?g198;(case g194 | g195 | g196 | g197 | g198=>k_is);have' wc:=bG (x:= "check_name") (ps:= ["name"]) (st:=dL.fU) X G ?g199 ?g200 ?g201 ?g202;(case g199 | g200 | g201 | g202=>k_is);have' v9:=bG (x:= "with_thing") (ps:= ["things","name","thing"]) (st:=dL.lT) X G ?g203 ?g204 ?g205 ?g206;(case g203 | g204 | g205 | g206=>k_is);have' Du:=bG (x:= "without") (ps:= ["things","name"]) (st:=dL.tN) X G ?g207 ?g208 ?g209 ?g210;(case g207 | g208 | g209 | g210=>k_is);have' z3:=rH (x:= "Page") (ps:= ["self","rounds","teams"]) (st:=dL.EF) X G ?g211 ?g212 ?g213 ?g214 ?g215 ?g216 ?g217 ?g218 ?g219 ?g220 ?g221 ?g222;(case g211 | g212 | g213 | g214 | g215 | g216 | g217 | g218 | g219 | g220 | g221 | g222=>k_is);have' c9:=rH (x:= "Book") (ps:= ["self","p"]) (st:=dL.EG) X G ?g223 ?g224 ?g225 ?g226 ?g227 ?g228 ?g229 ?g230 ?g231 ?g232 ?g233 ?g234;(case g223 | g224 | g225 | g226 | g227 | g228 | g229 | g230 | g231 | g232 | g233 | g234=>k_is);have' rT:=c8 (m:= "turn_to") (ps:= ["self","page"]) (st:=dL.jv) c9 ?g235 ?g236 ?g237 ?g238 ?g239;(case g235 | g236 | g237 | g238 | g239=>k_is);have' z4:=c8 (m:= "put") (ps:= ["self","name","one"]) (st:=dL.lg) c9 ?g240 ?g241 ?g242 ?g243 ?g244;(case g240 | g241 | g242 | g243 | g244=>k_is);have' pV:=c8 (m:= "put_team") (ps:= ["self","crew","team"]) (st:=dL.iY) c9 ?g245 ?g246 ?g247 ?g248 ?g249;(case g245 | g246 | g247 | g248 | g249=>k_is);have' pW:=c8 (m:= "enlisted") (ps:= ["self","name"]) (st:=dL.fN) c9 ?g250 ?g251 ?g252 ?g253 ?g254;(case g250 | g251 | g252 | g253 | g254=>k_is);have' yy:=c8 (m:= "team") (ps:= ["self","crew"]) (st:=dL.jx) c9 ?g255 ?g256 ?g257 ?g258 ?g259;(case g255 | g256 | g257 | g258 | g259=>k_is);have' yx:=c8 (m:= "tell") (ps:= ["self","name","deeds"]) (st:=dL.jw) c9 ?g260 ?g261 ?g262 ?g263 ?g264;(case g260 | g261 | g262 | g263 | g264=>k_is);have' yD:=c8 (m:= "drop") (ps:= ["self","name"]) (st:=dL.jC) c9 ?g265 ?g266 ?g267 ?g268 ?g269;(case g265 | g266 | g267 | g268 | g269=>k_is);have' wo:=c8 (m:= "found") (ps:= ["self","crew"]) (st:=dL.iB) c9 ?g270 ?g271 ?g272 ?g273 ?g274;(case g270 | g271 | g272 | g273 | g274=>k_is);have' rW:=c8 (m:= "disband") (ps:= ["self","crew"]) (st:=dL.gb) c9 ?g275 ?g276 ?g277 ?g278 ?g279;(case g275 | g276 | g277 | g278 | g279=>k_is);have' wj:=c8 (m:= "names") (ps:= ["self"]) (st:=dL.lW) c9 ?g280 ?g281 ?g282 ?g283 ?g284;(case g280 | g281 | g282 | g283 | g284=>k_is);have' wq:=c8 (m:= "crews") (ps:= ["self"]) (st:=dL.lX) c9 ?g285 ?g286 ?g287 ?g288 ?g289;(case g285 | g286 | g287 | g288 | g289=>k_is);have' pU:=c8 (m:= "round_of") (ps:= ["self","name"]) (st:=dL.fM) c9 ?g290 ?g291 ?g292 ?g293 ?g294;(case g290 | g291 | g292 | g293 | g294=>k_is);have' rV:=c8 (m:= "members") (ps:= ["self","crew"]) (st:=dL.f_) c9 ?g295 ?g296 ?g297 ?g298 ?g299;(case g295 | g296 | g297 | g298 | g299=>k_is);have' rX:=c8 (m:= "crew_of") (ps:= ["self","crew"]) (st:=dL.eQ) c9 ?g300 ?g301 ?g302 ?g303 ?g304;(case g300 | g301 | g302 | g303 | g304=>k_is);have' yC:=c8 (m:= "form") (ps:= ["self","crew"]) (st:=dL.jB) c9 ?g305 ?g306 ?g307 ?g308 ?g309;(case g305 | g306 | g307 | g308 | g309=>k_is);have' wg:=c8 (m:= "rooms") (ps:= ["self","crew"]) (st:=dL.iA) c9 ?g310 ?g311 ?g312 ?g313 ?g314;(case g310 | g311 | g312 | g313 | g314=>k_is);have' yA:=c8 (m:= "room") (ps:= ["self","crew","name"]) (st:=dL.jz) c9 ?g315 ?g316 ?g317 ?g318 ?g319;(case g315 | g316 | g317 | g318 | g319=>k_is);have' yB:=c8 (m:= "made") (ps:= ["self","crew","name"]) (st:=dL.jA) c9 ?g320 ?g321 ?g322 ?g323 ?g324;(case g320 | g321 | g322 | g323 | g324=>k_is);have' yz:=c8 (m:= "same") (ps:= ["self","crew","other"]) (st:=dL.jy) c9 ?g325 ?g326 ?g327 ?g328 ?g329;(case g325 | g326 | g327 | g328 | g329=>k_is);have' Dz:=bG (x:= "_law_begin") (ps:= ["_law_script"]) (st:=dL.nM) X G ?g330 ?g331 ?g332 ?g333;(case g330 | g331 | g332 | g333=>k_is);have' Hw:=bG (x:= "_law_take") (ps:= ["_law_draw","_law_many"]) (st:=dL.wZ) X G ?g334 ?g335 ?g336 ?g337;(case g334 | g335 | g336 | g337=>k_is);have' UG:=bG (x:= "_law_p") (ps:= ["_law_draw"]) (st:=dL.Lz) X G ?g338 ?g339 ?g340 ?g341;(case g338 | g339 | g340 | g341=>k_is);have' Dy:=bG (x:= "_law_names") (ps:= ["_law_draw","_law_many"]) (st:=dL.nL) X G ?g342 ?g343 ?g344 ?g345;(case g342 | g343 | g344 | g345=>k_is);have' K4:=bG (x:= "_law_ask") (ps:= ["_law_book","_law_way","_law_crew","_law_name"]) (st:=dL.u8) X G ?g346 ?g347 ?g348 ?g349;(case g346 | g347 | g348 | g349=>k_is);have' Hv:=bG (x:= "_law_told") (ps:= ["_law_book","_law_way","_law_crew","_law_name"]) (st:=dL.wY) X G ?g350 ?g351 ?g352 ?g353;(case g350 | g351 | g352 | g353=>k_is);have' K3:=bG (x:= "_law_due") (ps:= ["_law_way","_law_crew_there","_law_name_there"]) (st:=dL.Aw) X G ?g354 ?g355 ?g356 ?g357;(case g354 | g355 | g356 | g357=>k_is);have' UF:=bG (x:= "law") (ps:= ["_law_script"]) (st:=dL.EE) X G ?g358 ?g359 ?g360 ?g361;(case g358 | g359 | g360 | g361=>k_is);have' yn:=d3 c9 "held" ?n_Book_held;(case n_Book_held=>k_is);have' zW:=d3 c9 "now" ?n_Book_now;(case n_Book_now=>k_is);have' Hm:=d3 c9 "p" ?n_Book_p;(case n_Book_p=>k_is);have' ym:=d3 c9 "past" ?n_Book_past;(case n_Book_past=>k_is);have' tE:=d3 c9 "undone" ?n_Book_undone;(case n_Book_undone=>k_is);have' yl:=d3 eD "head" ?n_Crew_head;(case n_Crew_head=>k_is);have' tD:=d3 eD "makers" ?n_Crew_makers;(case n_Crew_makers=>k_is);have' Hl:=d3 eD "p" ?n_Crew_p;(case n_Crew_p=>k_is);have' tz:=d3 eD "rounds" ?n_Crew_rounds;(case n_Crew_rounds=>k_is);have' tw:=d3 eD "stairs" ?n_Crew_stairs;(case n_Crew_stairs=>k_is);have' tt:=d3 eD "stride" ?n_Crew_stride;(case n_Crew_stride=>k_is);have' rQ:=d3 eD "surplus" ?n_Crew_surplus;(case n_Crew_surplus=>k_is);have' zV:=d3 eD "way" ?n_Crew_way;(case n_Crew_way=>k_is);have' tq:=d3 z3 "rounds" ?n_Page_rounds;(case n_Page_rounds=>k_is);have' v6:=d3 z3 "teams" ?n_Page_teams;(case n_Page_teams=>k_is);have' yk:=d3 Hz "lamps" ?n_Row_lamps;(case n_Row_lamps=>k_is);have' yj:=d3 Hz "parts" ?n_Row_parts;(case n_Row_parts=>k_is);have' tf:=d3 km "first" ?n_Stair_first;(case n_Stair_first=>k_is);have' v0:=d3 km "foot" ?n_Stair_foot;(case n_Stair_foot=>k_is);have' s_:=d3 km "lamps" ?n_Stair_lamps;(case n_Stair_lamps=>k_is);have' rP:=d3 km "length" ?n_Stair_length;(case n_Stair_length=>k_is);have' sZ:=d3 km "parts" ?n_Stair_parts;(case n_Stair_parts=>k_is);have' Dp:=jY (x:= "BadName") X G ?g370;(case g370=>k_is);have' KS:=jY (x:= "InUse") X G ?g371;(case g371=>k_is);have' Hr:=jY (x:= "NoCrew") X G ?g372;(case g372=>k_is);have' Hq:=jY (x:= "NoDeed") X G ?g373;(case g373=>k_is);have' Dn:=jY (x:= "NoRound") X G ?g374;(case g374=>k_is);have' tF:=jY (x:= "StreetError") X G ?g375;(case g375=>k_is);have' KQ:=jY (x:= "Taken") X G ?g376;(case g376=>k_is);have' Ho:=jY (x:= "TooFar") X G ?g377;(case g377=>k_is);have' DF:=lb (x:= "BadName") X ?g378 ?g379 ?g380 ?g381 ?g382 ?g383 ?g384 ?g385;(case g378=>k_is);(case g379=>k_exc);(case g380 | g381 | g382 | g383 | g384 | g385=>k_is);have' K8:=lb (x:= "InUse") X ?g386 ?g387 ?g388 ?g389 ?g390 ?g391 ?g392 ?g393;(case g386=>k_is);(case g387=>k_exc);(case g388 | g389 | g390 | g391 | g392 | g393=>k_is);have' HC:=lb (x:= "NoCrew") X ?g394 ?g395 ?g396 ?g397 ?g398 ?g399 ?g400 ?g401;(case g394=>k_is);(case g395=>k_exc);(case g396 | g397 | g398 | g399 | g400 | g401=>k_is);have' HB:=lb (x:= "NoDeed") X ?g402 ?g403 ?g404 ?g405 ?g406 ?g407 ?g408 ?g409;(case g402=>k_is);(case g403=>k_exc);(case g404 | g405 | g406 | g407 | g408 | g409=>k_is);have' DE:=lb (x:= "NoRound") X ?g410 ?g411 ?g412 ?g413 ?g414 ?g415 ?g416 ?g417;(case g410=>k_is);(case g411=>k_exc);(case g412 | g413 | g414 | g415 | g416 | g417=>k_is);have' K7:=lb (x:= "Taken") X ?g418 ?g419 ?g420 ?g421 ?g422 ?g423 ?g424 ?g425;(case g418=>k_is);(case g419=>k_exc);(case g420 | g421 | g422 | g423 | g424 | g425=>k_is);have' HA:=lb (x:= "TooFar") X ?g426 ?g427 ?g428 ?g429 ?g430 ?g431 ?g432 ?g433;(case g426=>k_is);(case g427=>k_exc);(case g428 | g429 | g430 | g431 | g432 | g433=>k_is)
 refine' ⟨⟨_,_,_,_,_,_,_,_,_,_,_,_,_,_,_,_,_,_,_,_,_,_,_,_,_,_,_,_,_,_,_,_,_,_,_,_,_,_,_,_,_,_,_,_,_,_,_,_,_,_,_,_,_,_,_,_,_,_,_,_,_,_,_,_,_,_,_,_,_,_,_,_,_,_,_,_,_,_,_,_,_,_,_,_,_,_,_,_,_,_,_,_,_,_,_,_,_,_,_,_,_,_,_,_,_,_,_,_,_,_,_,_,_,_,_,_,_,_,_,_,_,_,_,_,_,_,_,_,_,_,_,_,_,_,_,_,_,_,_,_,_,_,_,_,_,_,_,_,_,_,_,_,_,_,_⟩,bI X G ?g1,bI X G ?g2,bI X G ?g3,bI X G ?g4,bI X G ?g5,bI X G ?g6,bI X G ?g7,bI X G ?g8,bI X G ?g9,bI X G ?g10,bI X G ?g11,bI X G ?g12,PQ,K6,K2,KY,K1,PU,Hx,zZ,zX,tG,DA,Hz,km,Hy,rS,DB,tH,yq,nv,UH,K0,v_,KZ,Dw,Dv,Dx,K5,yp,pT,lB,Hu,zY,eD,yw,yu,we,yr,yt,wd,wc,v9,Du,z3,c9,rT,z4,pV,pW,yy,yx,yD,wo,rW,wj,wq,pU,rV,rX,yC,wg,yA,yB,yz,Dz,Hw,UG,Dy,K4,Hv,K3,UF,yn,zW,Hm,ym,tE,yl,tD,Hl,tz,tw,tt,rQ,zV,tq,v6,yk,yj,tf,v0,s_,rP,sZ,qX X G ?g362,qX X G ?g363,qX X G ?g364,qX X G ?g365,qX X G ?g366,Nt X G ?g367,Nh X G ?g368 ?g369,Dp,KS,Hr,Hq,Dn,tF,KQ,Ho,DF,K8,HC,HB,DE,K7,HA,?g434,?g435,?g436,?g437⟩
 (case g1 | g2 | g3 | g4 | g5 | g6 | g7 | g8 | g9 | g10 | g11 | g12 | g362 | g363 | g364 | g365 | g366 | g367 | g368 | g369=>k_is);(case g434 | g435 | g436 | g437=>kit_is)
