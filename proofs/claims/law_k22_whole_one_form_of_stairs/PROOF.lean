import PyProof.Rows.All
import Wide.All
import OpenK.AllK
import Wide.FinOn
import Lean
import PyProof.EqAt
import PyProof.EqKinds
import PyProof.TupleCall
import PyProof.NeKinds
import PyProof.SumAny
import PyProof.ConsumeS
import PyProof.WalkInts
import PyProof.Draws
import PyProof.EnumMake
import PyProof.Rows.Range3
import PyProof.MeetsStr
import KE.KDictLaws
import PyProof.Rows.CallKwBuiltin
import PyProof.DictItems
import KE.KPairComp
import PyProof.AttrMissHeap
import KE.KDictOf
import KE.KItemsList
import PySem.Challenge.RW_duskround_k22_whole_one_form_of_stairs
set_option Elab.async false
set_option linter.all false
set_option maxRecDepth 100000
set_option genSizeOf false
set_option genInjectivity false
def aa:=@List.length_map
def ae:=@List.getElem?_eq_getElem
def af:=@List.mem_map
def ag:=@List.getElem?_eq_some_iff
def ah:=@List.mem_singleton
def ai:=@List.mem_of_getElem?
def aj:=@if_neg
def ak:=@if_pos
def ao:=@PySem.wpAny_bind
def aq:=@Nat.le_refl
def ar:=@PySem.Heap.get?_push_of_some
def au:=@Decidable.byContradiction
def av:=@List.mem_cons
def aw:=@List.mem_cons_of_mem
def ax:=@List.mem_append
def ay:=@Bool.false_eq_true
def az:=@PyProof.Rows.wpS_bind
def aA:=@List.getElem?_map
def aB:=@PySem.Heap.lt_size
def aD:=@List.map_map
def aE:=@List.mem_cons_self
def aF:=@PyProof.Rows.wpS_pure
def aG:=@List.length_cons
def aH:=@List.map_cons
def aL:=@List.length_append
def aM:=@PySem.wpAny_pure
def aN:=@List.map_append
def aO:=@List.size_toArray
def aP:=@List.mem_filter
def aS:=@PySem.Heap.get?_push_size
def aT:=@List.mem_append_right
def aU:=@List.getElem?_append_right
def aV:=@Int.le_refl
def aW:=@Bool.false_ne_true
def aX:=@Nat.ne_of_lt
def aZ:=@Int.mul_le_mul_of_nonneg_left
def a4:=@Nat.le_trans
def a5:=@Ne.symm
def a6:=@List.length_take
def a7:=@eq_true
def a8:=@List.take_append_drop
def a9:=@List.getElem?_append_left
def bf:=@if_false
def bg:=@Int.mul_le_mul_of_nonneg_right
def bj:=@List.pairwise_iff_getElem
def br:=@Option.some.inj
def bu:=@Int.add_zero
def bw:=@List.nodup_cons
def bA:=@List.mem_iff_getElem?
def bD:=@List.take_add_one
def bE:=@Nat.lt_of_lt_of_le
def bF:=@List.map_congr_left
def bG:=@Int.zero_mul
def bH:=@Int.add_emod
def bI:=@List.getD_eq_getElem?_getD
def bJ:=@PySem.wpAny_mono
def bK:=@Int.mul_comm
def bN:=@if_true
def bO:=@PyProof.Rows.callWith_type1
def bP:=@Int.zero_add
def bR:=@List.append_assoc
def bS:=@PySem.W.mg_none_of
def bT:=@List.pairwise_cons
def bW:=@List.getElem_mem
def bY:=@List.pairwise_map
def bZ:=@Int.mul_emod
def cb:=@Nat.lt_irrefl
def cc:=@Int.emod_eq_emod_iff_emod_sub_eq_zero
def cg:=@Array.toList_append
def cn:=@List.take_length
def cq:=@decide_eq_true_eq
def cw:=@PySem.PassesOwn.never
def cx:=@List.pairwise_append
def cz:=@Int.emod_lt_of_pos
def cB:=@PyProof.Rows.wpS_forRange
def cC:=@PySem.sizeLine_eq
def cD:=@PySem.W.kia_one
def cE:=@Int.emod_emod
def cI:=@List.length_eq_zero_iff
def cM:=@List.find?_cons
def cN:=@Int.emod_nonneg
def cT:=@Array.length_toList
def cU:=@Nat.zero_le
def cV:=@List.length_range
def cW:=@Int.emod_eq_of_lt
def cY:=@List.length_singleton
def cZ:=@List.getElem?_eq_none
namespace TS
open PySem PyProof.Rows
def LE (less:Keyed ->Keyed ->Bool)(x y:Keyed):Prop:=less y x=false
structure Ord (less:Keyed ->Keyed ->Bool):Prop where
 Q9: ∀x y,less x y=true ->less y x=false
 trans: ∀x y z,LE less x y ->LE less y z ->LE less x z
section
variable {less:Keyed ->Keyed ->Bool}
theorem Ord.refl (O:Ord less)(x:Keyed):LE less x x:=by
 unfold LE;cases h:less x x with
 | false=>rfl
 | true=>exact(O.Q9 x x h).symm.trans h▸rfl
theorem Ord.le (O:Ord less){x y:Keyed}(h:less x y=true):LE less x y:=O.Q9 x y h
theorem Ord.PJ (O:Ord less){x y z:Keyed}(h:LE less x y)(h':less y z=true):less x z=true:=by
 cases e:less x z with
 | true=>rfl
 | false=>have:=O.trans z x y e h;unfold LE at this;rw[h'] at this;cases this
end
def cG (xs:Array Keyed)(i:Nat):Keyed:=(xs[i]?).getD (.none, .none)
theorem Fv {xs:Array Keyed}{i:Nat}(h:i<xs.size):xs[i]? =some (cG xs i):=by unfold cG;rw[getElem?_pos xs i h];rfl
theorem iQ {xs ys:Array Keyed}{i j:Nat}(h:xs[i]? =ys[j]?):cG xs i=cG ys j:=by unfold cG;rw[h]
theorem ua {xs:Array Keyed}{i:Nat}(h:i<xs.size):cG xs i∈xs.toList:=by unfold cG;rw[getElem?_pos xs i h];simp
def Sg (less:Keyed ->Keyed ->Bool)(xs:Array Keyed)(lo hi:Nat):Prop:= ∀i j,lo<=i ->i<=j ->j<hi ->LE less (cG xs i) (cG xs j)
def Ng (less:Keyed ->Keyed ->Bool)(xs:Array Keyed)(lo hi:Nat):Prop:= ∀i j,lo<=i ->i<=j ->j<hi ->LE less (cG xs j) (cG xs i)
structure SB (kd:SortKind)(a₀:Array Keyed)(st:SortSt):Prop where
 perm:(arrOf st).Perm a₀
 kd:kindOf st=kd
 fl:failedOf st=none
theorem SB.size {kd:SortKind}{a₀:Array Keyed}{st:SortSt}(h:SB kd a₀ st):(arrOf st).size=a₀.size:=h.perm.size_eq
theorem SB.mem {kd:SortKind}{a₀:Array Keyed}{st:SortSt}(h:SB kd a₀ st){i:Nat}(hi:i<a₀.size):cG (arrOf st) i∈a₀.toList:=(Array.perm_iff_toList_perm.mp h.perm).mem_iff.mp (ua (by rw[h.size];exact hi))
theorem SB.arr {kd:SortKind}{a₀:Array Keyed}{st:SortSt}(h:SB kd a₀ st){xs:Array Keyed}(hp:xs.Perm (arrOf st)):SB kd a₀ (setArr st xs):=⟨hp.trans h.perm,h.kd,h.fl⟩
def gY (prog:Program)(w:World)(A:Around)(E:Value ->Shared ->Prop)(s:Shared)(kd:SortKind)(a₀:Array Keyed)(less:Keyed ->Keyed ->Bool):Prop:=∀ (x y:Keyed) (st:SortSt) (Q:Option Bool ->SortSt ->Prop),x∈a₀.toList ->y∈a₀.toList ->kindOf st=kd ->Q (some (less x y)) st ->wpS (model prog w) A E s (lt' x y) Q st
section
variable {prog:Program}{w:World}{A:Around}{E:Value ->Shared ->Prop}{s:Shared}{kd:SortKind}{a₀:Array Keyed}{less:Keyed ->Keyed ->Bool}
theorem wp_elem {xs:Array Keyed}{i:Nat}{Q:Keyed ->SortSt ->Prop}{st:SortSt}(hi:i<xs.size)(h:Q (cG xs i) st):wpS (model prog w) A E s (elem' xs i) Q st:=by rw[elem'_eq,Fv hi];exact aF h
theorem wp_lt (L:gY prog w A E s kd a₀ less){st:SortSt}{i j:Nat}{Q:Option Bool ->SortSt ->Prop}(B:SB kd a₀ st)(hi:i<a₀.size)(hj:j<a₀.size) (h:Q (some (less (cG (arrOf st) i) (cG (arrOf st) j))) st):wpS (model prog w) A E s (ltAt' i j) Q st:=by rw[ltAt'_eq];refine az (wpS_get ?_);exact az (wp_elem (by rw[B.size];exact hi) (az (wp_elem (by rw[B.size];exact hj) (L _ _ _ _ (B.mem hi) (B.mem hj) B.kd h))))
theorem wp_rev {st:SortSt}{i j:Nat}{Q:Unit ->SortSt ->Prop}(h:Q () (setArr st (mirror (arrOf st) i j ((j - i) / 2)))):wpS (model prog w) A E s (reverseSlice' i j) Q st:=by rw[reverseSlice'_eq];exact wpS_modify h
theorem dP {xs:Array Keyed}{i j:Nat}(hj:j<=xs.size)(k:Nat):cG (mirror xs i j ((j - i) / 2)) k=if i<=k /\ k<j then cG xs (i+j - 1 - k) else cG xs k:=by
 have e:=getElem?_mirror_all (i:=i) hj k;by_cases c:i<=k /\ k<j
 ·rw[ak c] at e ⊢;exact iQ e
 ·rw[aj c] at e ⊢;exact iQ e
theorem kX {xs:Array Keyed}{src d:Nat}(hs:src<xs.size)(hd:d<=src)(k:Nat):cG (bubble xs src d) k=if k=src - d then cG xs src else if src - d<k /\ k<=src then cG xs (k - 1) else cG xs k:=by
 have e:=getElem?_bubble hs d hd k;by_cases c:k=src - d
 ·rw[ak c] at e ⊢;exact iQ e
 ·rw[aj c] at e ⊢;by_cases c':src - d<k /\ k<=src
  ·rw[ak c'] at e ⊢;exact iQ e
  ·rw[aj c'] at e ⊢;exact iQ e
def Fx (lo a dq:Nat):StateT SortSt Sem AscSt:=forIn [a:dq] ((none,a):AscSt) λ_ c=>do
 let x <- ltAt' (lo+c.snd) (lo+c.snd - 1)
 match x with
 | some b=>if b=true then pure (ForInStep.done (none,c.snd)) else pure (ForInStep.yield (none,c.snd+1))
 | _=>pure (ForInStep.done (some none,c.snd))
def uD (lo n dq:Nat):StateT SortSt Sem (Option Nat):=do
 reverseSlice' lo (lo+n)
 let c <- Fx lo n dq
 match c.fst with
 | some r=>pure r
 | none=>pure (some c.snd)
def zP (lo n dq:Nat):StateT SortSt Sem DescSt:=forIn [n:dq] ((none,n,0):DescSt) λ_ c=>do
 let x <- ltAt' (lo+c.snd.fst) (lo+c.snd.fst - 1)
 match x with
 | some b=>
  if b=true then
   if c.snd.snd >0 then do
    reverseSlice' (lo+c.snd.fst - (c.snd.snd+1)) (lo+c.snd.fst)
    pure (ForInStep.yield (none,c.snd.fst+1,0))
   else pure (ForInStep.yield (none,c.snd.fst+1,0))
  else do
   let y <- ltAt' (lo+c.snd.fst - 1) (lo+c.snd.fst)
   match y with
   | some d=>
    if d=true then pure (ForInStep.done (none,c.snd.fst,c.snd.snd))
    else pure (ForInStep.yield (none,c.snd.fst+1,c.snd.snd+1))
   | _=>pure (ForInStep.done (some none,c.snd.fst,c.snd.snd))
 | _=>pure (ForInStep.done (some none,c.snd.fst,c.snd.snd))
def u5 (lo n dq:Nat):StateT SortSt Sem (Option Nat):=do
 liftM (rule "list.sort.descending-run")
 let c <- zP lo (n+1) dq
 match c.fst with
 | some r=>pure r
 | none=>
  if c.snd.snd >0 then do
   reverseSlice' (lo+c.snd.fst - (c.snd.snd+1)) (lo+c.snd.fst)
   uD lo c.snd.fst dq
  else uD lo c.snd.fst dq
theorem Gs (lo dq:Nat):countRun' lo dq=(do
  let c <- Fx lo 1 dq
  match c.fst with
  | some r=>pure r
  | none =>
   if(c.snd==dq)=true then pure (some c.snd)
   else if c.snd >1 then do
    let x <- ltAt' lo (lo+c.snd - 1)
    match x with
    | some b=>if b=true then pure (some c.snd) else do
     reverseSlice' lo (lo+c.snd)
     u5 lo c.snd dq
    | _=>pure none
   else u5 lo c.snd dq):=by
 rw[countRun'_eq]
 dsimp only
 unfold u5 uD zP Fx
 congr 1
 funext c
 obtain⟨r,n⟩:=c
 cases r with
 | some r=>rfl
 | none =>
  dsimp only;split
  ·rfl
  ·split
   ·congr 1;funext x;cases x with
    | none=>rfl
    | some b=>
     dsimp only;split
     ·rfl
     ·congr 1;funext _r;congr 1;funext _u;congr 1;congr 1;funext s2;obtain⟨r2,n2,q2⟩:=s2;cases r2 with
      | some r2=>rfl
      | none=>
       dsimp only;split
       ·congr 1;funext _v;congr 1;funext _w;congr 1;funext s3;obtain⟨r3,n3⟩:=s3;cases r3<;>rfl
       ·congr 1;funext _w;congr 1;funext s3;obtain⟨r3,n3⟩:=s3;cases r3<;>rfl
   ·congr 1;funext _u;congr 1;congr 1;funext s2;obtain⟨r2,n2,q2⟩:=s2;cases r2 with
    | some r2=>rfl
    | none=>
     dsimp only;split
     ·congr 1;funext _v;congr 1;funext _w;congr 1;funext s3;obtain⟨r3,n3⟩:=s3;cases r3<;>rfl
     ·congr 1;funext _w;congr 1;funext s3;obtain⟨r3,n3⟩:=s3;cases r3<;>rfl
def Out (lo hi:Nat)(xs ys:Array Keyed):Prop:= ∀k,k<lo \/ hi<=k ->cG ys k=cG xs k
theorem Out.refl {lo hi:Nat}{xs:Array Keyed}:Out lo hi xs xs:=λ_ _=>rfl
theorem Out.trans {lo hi:Nat}{xs ys zs:Array Keyed}(a:Out lo hi xs ys)(b:Out lo hi ys zs):Out lo hi xs zs:=λk h=>(b k h).trans (a k h)
theorem wp_ascL (O:Ord less)(L:gY prog w A E s kd a₀ less){st:SortSt}{lo a dq:Nat}{Q:AscSt ->SortSt ->Prop}(hn:lo+dq<=a₀.size)(ha:1<=a)(han:a<=dq)(B:SB kd a₀ st) (hs:Sg less (arrOf st) lo (lo+a)) (h: ∀n,a<=n ->n<=dq ->Sg less (arrOf st) lo (lo+n) ->(n=dq \/ less (cG (arrOf st) (lo+n)) (cG (arrOf st) (lo+n - 1))=true) ->Q (none,n) st): wpS (model prog w) A E s (Fx lo a dq) Q st:=by
 unfold Fx;refine cB (I:=λx c bB=>bB=st /\ c=(none,x) /\ Sg less (arrOf st) lo (lo+x)) ?step ?fin ⟨rfl,rfl,hs⟩;case fin=>
  rintro c bB ⟨rfl,rfl,fO⟩
  rw[show max a dq=dq by lia] at fO ⊢
  exact h dq han (aq _) fO (.inl rfl)
 case step=>
  rintro x c bB Vc Z2 ⟨rfl,rfl,fO⟩
  dsimp only
  refine az (wp_lt L B (by lia) (by lia) ?_)
  cases e:less (cG (arrOf bB) (lo+x)) (cG (arrOf bB) (lo+x - 1)) with
  | true=>simp only[bN];exact aF (h x Vc (by lia) fO (.inr e))
  | false=>
   simp only[ay,bf];refine aF ⟨rfl,rfl,λi j hi fY hj=> ?_⟩;by_cases c:j<lo+x
   ·exact fO i j hi fY c
   ·have:j=lo+x:=by lia
    subst this;by_cases c2:i=lo+x
    ·subst c2;exact O.refl _
    ·exact O.trans _ _ _ (fO i (lo+x - 1) hi (by lia) (by lia)) e
theorem wp_tailL (O:Ord less)(L:gY prog w A E s kd a₀ less){st:SortSt}{lo n dq:Nat}{Q:Option Nat ->SortSt ->Prop}(hn:lo+dq<=a₀.size)(h1:1<=n)(Hl:n<=dq)(B:SB kd a₀ st) (hs:Ng less (arrOf st) lo (lo+n)) (h: ∀m bB,SB kd a₀ bB ->1<=m ->m<=dq ->Sg less (arrOf bB) lo (lo+m) ->pendingOf bB=pendingOf st ->Out lo (lo+dq) (arrOf st) (arrOf bB) ->Q (some m) bB): wpS (model prog w) A E s (uD lo n dq) Q st:=by
 unfold uD;have hsz:lo+n<=(arrOf st).size:=by rw[B.size];lia
 refine az (wp_rev ?_);have B':SB kd a₀ (setArr st (mirror (arrOf st) lo (lo+n) ((lo+n - lo) / 2))):=B.arr (mirror_perm _ _ _ _);refine az (wp_ascL O L hn h1 Hl B' ?_ λm UJ Sf hsm _=>aF (h m _ B' (by lia) Sf hsm rfl ?_))
 ·intro i j hi fY hj;show LE less (cG (mirror (arrOf st) lo (lo+n) ((lo+n - lo) / 2)) i) (cG (mirror (arrOf st) lo (lo+n) ((lo+n - lo) / 2)) j);rw[dP hsz,dP hsz,ak (by lia),ak (by lia)];exact hs _ _ (by lia) (by lia) (by lia)
 ·intro k hk;show cG (mirror (arrOf st) lo (lo+n) ((lo+n - lo) / 2)) k=_;rw[dP hsz,aj (by lia)]
theorem mY (O:Ord less){xs:Array Keyed}{lo i m:Nat}(hj:m<=xs.size)(hli:lo<=i)(hs:Ng less xs lo m)(he: ∀k,i<=k ->k<m ->LE less (cG xs k) (cG xs (m - 1))):Ng less (mirror xs i m ((m - i) / 2)) lo m:=by
 intro a b ha EX hb;rw[dP hj,dP hj];by_cases c1:i<=a
 ·rw[ak (by lia),ak (by lia)];refine O.trans _ _ _ (he (i+m - 1 - b) (by lia) (by lia)) (hs _ _ (by lia) (by lia) (by lia))
 ·rw[aj (show ¬(i<=a /\ a<m) by lia)];by_cases c2:i<=b
  ·rw[ak (by lia)];exact hs _ _ (by lia) (by lia) (by lia)
  ·rw[aj (by lia)];exact hs _ _ (by lia) (by lia) (by lia)
theorem kJ {xs:Array Keyed}{lo hi i j:Nat}(hj:j<=xs.size)(h1:lo<=i)(h2:j<=hi):Out lo hi xs (mirror xs i j ((j - i) / 2)):=λk hk=>by rw[dP hj,aj (by lia)]
theorem wp_descL (O:Ord less)(L:gY prog w A E s kd a₀ less){st:SortSt}{lo n dq:Nat}{Q:DescSt ->SortSt ->Prop}(hn:lo+dq<=a₀.size)(h1:1<=n)(Hl:n<=dq)(B:SB kd a₀ st) (hs:Ng less (arrOf st) lo (lo+n)) (h: ∀m qS bB,SB kd a₀ bB ->n<=m ->m<=dq ->Ng less (arrOf bB) lo (lo+m) ->qS+1<=m ->(∀i,lo+m - (qS+1) <=i ->i<lo+m ->LE less (cG (arrOf bB) i) (cG (arrOf bB) (lo+m - 1))) ->pendingOf bB=pendingOf st ->Out lo (lo+dq) (arrOf st) (arrOf bB) ->Q (none,m,qS) bB): wpS (model prog w) A E s (zP lo n dq) Q st:=by
 unfold zP;refine cB (I:=λx c bB=> ∃qS,c=(none,x,qS) /\ SB kd a₀ bB /\ Ng less (arrOf bB) lo (lo+x) /\ qS+1<=x /\(∀i,lo+x - (qS+1) <=i ->i<lo+x ->LE less (cG (arrOf bB) i) (cG (arrOf bB) (lo+x - 1))) /\ pendingOf bB=pendingOf st /\ Out lo (lo+dq) (arrOf st) (arrOf bB)) ?step ?fin ⟨0,rfl,B,hs,by lia,λi h1 h2=>by rw[show i=lo+n - 1 by lia];exact O.refl _,rfl,Out.refl⟩;case fin=>
  rintro c bB ⟨qS,rfl,B',fO,hq,he,hp,ho⟩
  rw[show max n dq=dq by lia] at fO hq he ⊢
  exact h dq qS bB B' Hl (aq _) fO hq he hp ho
 case step =>
  rintro x c bB Vc Z2 ⟨qS,rfl,B',fO,hq,he,hp,ho⟩
  dsimp only
  have hsz:lo+x<=(arrOf bB).size:=by rw[B'.size];lia
  refine az (wp_lt L B' (by lia) (by lia) ?_)
  cases e:less (cG (arrOf bB) (lo+x)) (cG (arrOf bB) (lo+x - 1)) with
  | true =>
   simp only[bN];by_cases EG:qS >0
   ·rw [ak EG];refine az (wp_rev (aF ⟨0,rfl,B'.arr (mirror_perm _ _ _ _),?_,by lia,λi h1 h2=>by rw[show i=lo+(x+1) - 1 by lia];exact O.refl _,hp,ho.trans (kJ hsz (by lia) (by lia))⟩));have hm:=mY O (i:=lo+x - (qS+1)) hsz (by lia) fO he;intro i j hi fY hj;by_cases c:j<lo+x
    ·exact hm i j hi fY c
    ·have:j=lo+x:=by lia
     subst this;by_cases c2:i=lo+x
     ·subst c2;exact O.refl _
     ·refine O.trans _ _ _ ?_ (hm i (lo+x - 1) hi (by lia) (by lia));show LE less (cG (mirror (arrOf bB) (lo+x - (qS+1)) (lo+x) ((lo+x - (lo+x - (qS+1))) / 2)) (lo+x)) (cG (mirror (arrOf bB) (lo+x - (qS+1)) (lo+x) ((lo+x - (lo+x - (qS+1))) / 2)) (lo+x - 1));rw[dP hsz,dP hsz,aj (by lia),ak (by lia)];exact O.trans _ _ _ (O.le e) (fO _ _ (by lia) (by lia) (by lia))
   ·rw[aj EG];refine aF ⟨0,rfl,B',λi j hi fY hj=> ?_,by lia,λi h1 h2=>by rw[show i=lo+(x+1) - 1 by lia];exact O.refl _,hp,ho⟩;by_cases c:j<lo+x
    ·exact fO i j hi fY c
    ·have:j=lo+x:=by lia
     subst this;by_cases c2:i=lo+x
     ·subst c2;exact O.refl _
     ·exact O.trans _ _ _ (O.le e) (fO i (lo+x - 1) hi (by lia) (by lia))
  | false =>
   simp only[ay,bf];refine az (wp_lt L B' (by lia) (by lia) ?_);cases e2:less (cG (arrOf bB) (lo+x - 1)) (cG (arrOf bB) (lo+x)) with
   | true=>simp only[bN];exact aF (h x qS bB B' Vc (by lia) fO hq he hp ho)
   | false=>
    simp only[ay,bf];refine aF ⟨qS+1,rfl,B',λi j hi fY hj=> ?_,by lia,λi h1 h2=> ?_,hp,ho⟩
    ·by_cases c:j<lo+x
     ·exact fO i j hi fY c
     ·have:j=lo+x:=by lia
      subst this;by_cases c2:i=lo+x
      ·subst c2;exact O.refl _
      ·exact O.trans _ _ _ e2 (fO i (lo+x - 1) hi (by lia) (by lia))
    ·rw[show lo+(x+1) - 1=lo+x by lia];by_cases c:i=lo+x
     ·subst c;exact O.refl _
     ·exact O.trans _ _ _ (he i (by lia) (by lia)) e
theorem wp_partL (O:Ord less)(L:gY prog w A E s kd a₀ less){st:SortSt}{lo n dq:Nat}{Q:Option Nat ->SortSt ->Prop}(hn:lo+dq<=a₀.size)(Hl:n+1<=dq)(B:SB kd a₀ st) (hs:Ng less (arrOf st) lo (lo+(n+1))) (h: ∀m bB,SB kd a₀ bB ->1<=m ->m<=dq ->Sg less (arrOf bB) lo (lo+m) ->pendingOf bB=pendingOf st ->Out lo (lo+dq) (arrOf st) (arrOf bB) ->Q (some m) bB): wpS (model prog w) A E s (u5 lo n dq) Q st:=by
 unfold u5;refine az (wpS_lift (wpAny_rule ⟨rfl,?_⟩));refine az (wp_descL O L hn (by lia) Hl B hs λm qS bB B' UJ Sf fO hq he hp ho=> ?_);dsimp only;have hsz:lo+m<=(arrOf bB).size:=by rw[B'.size];lia
 by_cases EG:qS >0
 ·rw[ak EG];refine az (wp_rev (wp_tailL O L hn (by lia) Sf (B'.arr (mirror_perm _ _ _ _)) (mY O hsz (by lia) fO he) λm2 lu b1 b2 b3 b4 b5 b6=>h m2 lu b1 b2 b3 b4 (b5.trans hp) (ho.trans ((kJ hsz (by lia) (by lia)).trans b6))))
 ·rw[aj EG];exact wp_tailL O L hn (by lia) Sf B' fO λm2 lu b1 b2 b3 b4 b5 b6=>h m2 lu b1 b2 b3 b4 (b5.trans hp) (ho.trans b6)
theorem wp_run (O:Ord less)(L:gY prog w A E s kd a₀ less){st:SortSt}{lo dq:Nat}{Q:Option Nat ->SortSt ->Prop}(hn:lo+dq<=a₀.size)(h1:1<=dq)(B:SB kd a₀ st) (h: ∀m bB,SB kd a₀ bB ->1<=m ->m<=dq ->Sg less (arrOf bB) lo (lo+m) ->pendingOf bB=pendingOf st ->Out lo (lo+dq) (arrOf st) (arrOf bB) ->Q (some m) bB): wpS (model prog w) A E s (countRun' lo dq) Q st:=by
 rw[Gs];refine az (wp_ascL O L hn (aq 1) h1 B (λi j hi fY hj=>by rw[show i=j by lia];exact O.refl _) λn Qn L3 Qd Qk=> ?_);dsimp only;by_cases Hl:n=dq
 ·rw[ak (by simpa using Hl)];exact aF (h n st B Qn L3 Qd rfl Out.refl)
 ·rw [aj (by simpa using Hl)];have eX:=Qk.resolve_left Hl;have hsz:lo+n<=(arrOf st).size:=by rw[B.size];lia
  by_cases n9:n >1
  ·rw [ak n9];refine az (wp_lt L B (by lia) (by lia) ?_);cases e:less (cG (arrOf st) lo) (cG (arrOf st) (lo+n - 1)) with
   | true=>simp only[bN];exact aF (h n st B Qn L3 Qd rfl Out.refl)
   | false=>
    simp only[ay,bf];have Yf:Ng less (arrOf st) lo (lo+n):=λi j hi fY hj=>O.trans _ _ _ (O.trans _ _ _ (Qd j (lo+n - 1) (by lia) (by lia) (by lia)) e) (Qd lo i (aq _) hi (by lia));refine az (wp_rev (wp_partL O L hn (by lia) (B.arr (mirror_perm _ _ _ _)) ?_ λm2 lu b1 b2 b3 b4 b5 b6=>h m2 lu b1 b2 b3 b4 b5 ((kJ hsz (by lia) (by lia)).trans b6)));have hm:=mY O (i:=lo) hsz (aq _) Yf λk _ _=>Qd k (lo+n - 1) (by lia) (by lia) (by lia);intro i j hi fY hj;by_cases c:j<lo+n
    ·exact hm i j hi fY c
    ·have:j=lo+n:=by lia
     subst this;by_cases c2:i=lo+n
     ·subst c2;exact O.refl _
     ·refine O.trans _ _ _ ?_ (hm i (lo+n - 1) hi (by lia) (by lia));show LE less (cG (mirror (arrOf st) lo (lo+n) ((lo+n - lo) / 2)) (lo+n)) (cG (mirror (arrOf st) lo (lo+n) ((lo+n - lo) / 2)) (lo+n - 1));rw[dP hsz,dP hsz,aj (by lia),ak (by lia)];exact O.trans _ _ _ (O.le eX) (Yf _ _ (by lia) (by lia) (by lia))
  ·rw[aj n9];have UH:n=1:=by lia
   subst UH;refine wp_partL O L hn (by lia) B (λi j hi fY hj=> ?_) h;by_cases c:i=j
   ·subst c;exact O.refl _
   ·rw[show i=lo+1 - 1 by lia,show j=lo+1 by lia];exact O.le eX
theorem wp_bin (O:Ord less)(L:gY prog w A E s kd a₀ less){st:SortSt}{lo n ok:Nat}{Q:Bool ->SortSt ->Prop}(hn:lo+n<=a₀.size)(c7:ok<=n)(B:SB kd a₀ st)(hs:Sg less (arrOf st) lo (lo+ok)) (h: ∀bB,SB kd a₀ bB ->Sg less (arrOf bB) lo (lo+n) ->pendingOf bB=pendingOf st ->Out lo (lo+n) (arrOf st) (arrOf bB) ->Q true bB):wpS (model prog w) A E s (binarySort' lo n ok) Q st:=by
 rw[binarySort'_eq];refine az (wpS_mono (cB (I:=λk c bB=>c=(none,()) /\ SB kd a₀ bB /\ Sg less (arrOf bB) lo (lo+min k n) /\ pendingOf bB=pendingOf st /\ Out lo (lo+n) (arrOf st) (arrOf bB)) (Q:=λc bB=>c=(none,()) /\ SB kd a₀ bB /\ Sg less (arrOf bB) lo (lo+n) /\ pendingOf bB=pendingOf st /\ Out lo (lo+n) (arrOf st) (arrOf bB)) ?step ?fin ?init) ?post);case post=>
  rintro c bB ⟨rfl,B',fO,hp,ho⟩
  exact aF (h bB B' fO hp ho)
 case init=>
  refine⟨rfl,B,λi j hi fY hj=> ?_,rfl,Out.refl⟩
  by_cases c:ok=0
  ·rw[show i=j by lia];exact O.refl _
  ·exact hs i j hi fY (by lia)
 case fin=>
  rintro c bB ⟨hc,B',fO,hp,ho⟩
  refine⟨hc,B',?_,hp,ho⟩
  rwa [show min (max (max ok 1) n) n=n by lia] at fO
 case step=>
  rintro k c bB hak hkn ⟨rfl,B',fO,hp,ho⟩
  rw[show min k n=k by lia] at fO
  have hk:lo+k<a₀.size:=by lia
  refine az (wpS_mono (cB (I:=λx c fC=>fC=bB /\ ∃l r,c=(none,l,r) /\ l<=r /\ r<=k /\ r - l<=k - x /\(∀i,i<l ->LE less (cG (arrOf bB) (lo+i)) (cG (arrOf bB) (lo+k))) /\ (∀i,r<=i ->i<k ->LE less (cG (arrOf bB) (lo+k)) (cG (arrOf bB) (lo+i)))) (Q:=λc fC=>fC=bB /\ ∃l r,c=(none,l,r) /\ l<=k /\(∀i,i<l ->LE less (cG (arrOf bB) (lo+i)) (cG (arrOf bB) (lo+k))) /\ (∀i,l<=i ->i<k ->LE less (cG (arrOf bB) (lo+k)) (cG (arrOf bB) (lo+i)))) ?PU ?Ud ?PY) ?PX)
  case PY=>exact⟨rfl,0,k,rfl,by lia,by lia,by lia,λi hi=>by lia,λi h1 h2=>by lia⟩
  case Ud=>
   rintro c fC ⟨rfl,l,r,rfl,hlr,Us,hm,L7,ND⟩
   have:l=r:=by lia
   subst this
   exact⟨rfl,l,l,rfl,Us,L7,ND⟩
  case PU=>
   rintro x c fC _ hxk ⟨rfl,l,r,rfl,hlr,Us,hm,L7,ND⟩
   dsimp only
   by_cases BP:l≥r
   ·rw[ak BP];have:l=r:=by lia
    subst this;exact aF ⟨rfl,l,l,rfl,Us,L7,ND⟩
   ·rw[aj BP];refine az (wp_lt L B' hk (by lia) ?_);cases e:less (cG (arrOf fC) (lo+k)) (cG (arrOf fC) (lo+(l+r) / 2)) with
    | true=>simp only[bN];refine aF ⟨rfl,l,(l+r) / 2,rfl,by lia,by lia,by lia,L7,λi h1 h2=> ?_⟩;exact O.trans _ _ _ (O.le e) (fO _ _ (by lia) (by lia) (by lia))
    | false=>simp only[ay,bf];refine aF ⟨rfl,(l+r) / 2+1,r,rfl,by lia,by lia,by lia,λi h1=> ?_,ND⟩;exact O.trans _ _ _ (fO (lo+i) (lo+(l+r) / 2) (by lia) (by lia) (by lia)) e
  case PX=>
   rintro c fC ⟨rfl,l,r,rfl,Hr,L7,ND⟩
   show wpS _ _ _ _ (do moveDown' (lo+k) (lo+l);pure (ForInStep.yield (none,()))) _ _
   rw[moveDown'_eq]
   have UQ:lo+k< (arrOf fC).size:=by rw[B'.size];exact hk
   refine az (wpS_modify (aF ⟨rfl,B'.arr (bubble_perm _ _ _),?_,hp,ho.trans λj hj=> ?_⟩))
   ·rw[show min (k+1) n=k+1 by lia];intro i j hi fY hj;show LE less (cG (bubble (arrOf fC) (lo+k) (lo+k - (lo+l))) i) (cG (bubble (arrOf fC) (lo+k) (lo+k - (lo+l))) j);rw[kX UQ (by lia),kX UQ (by lia),show lo+k - (lo+k - (lo+l))=lo+l by lia];have UM: ∀i,lo<=i ->i<lo+l ->LE less (cG (arrOf fC) i) (cG (arrOf fC) (lo+k)):=λi h1 h2=>by have:=L7 (i - lo) (by lia);rwa [show lo+(i - lo)=i by lia] at this
    have U0: ∀i,lo+l<=i ->i<lo+k ->LE less (cG (arrOf fC) (lo+k)) (cG (arrOf fC) i):=λi h1 h2=>by have:=ND (i - lo) (by lia) (by lia);rwa [show lo+(i - lo)=i by lia] at this
    repeat' split
    all_goals first
    | (exfalso;lia)
    | exact O.refl _
    | exact UM _ (by lia) (by lia)
    | exact U0 _ (by lia) (by lia)
    | exact fO _ _ (by lia) (by lia) (by lia)
   ·show cG (bubble (arrOf fC) (lo+k) (lo+k - (lo+l))) j=_;rw[kX UQ (by lia),aj (by lia),aj (by lia)]
end
def uw:Bool ->Keyed ->Array Keyed ->Nat ->Nat ->Nat ->StateT SortSt Sem (Option Nat):=sortPriv% PySem.Builtin.gallop
def RV:Array Keyed ->Array Keyed ->StateT SortSt Sem (Array Keyed):=sortPriv% PySem.Builtin.mergeLo
def RW:Array Keyed ->Array Keyed ->StateT SortSt Sem (Array Keyed):=sortPriv% PySem.Builtin.mergeHi
abbrev cy (st:SortSt)(g:Nat):SortSt:=SortSt.mk' (kindOf st) (arrOf st) (pendingOf st) g (failedOf st)
def ML (left:Bool)(key:Keyed)(arr:Array Keyed)(base i:Nat):StateT SortSt Sem (Option Bool):=do
 let x <- elem' arr (base+i)
 if left then lt' x key else return(<- lt' key x).map (!·)
theorem Mu (left:Bool)(key:Keyed)(arr:Array Keyed)(base n hint:Nat):uw left key arr base n hint=(do
 let mut la:=0
 let mut f:=1
 let mut lo:=0
 let mut hi:=0
 let some g <- ML left key arr base hint | return none
 if g then
  let mx:=n - hint
  for _ in [0:n] do
   if f≥mx then break
   let some g <- ML left key arr base (hint+f) | return none
   if !g then break
   la:=f
   f:=2*f+1
  lo:=hint+la+1
  hi:=hint+min f mx
 else
  let mx:=hint+1
  for _ in [0:n] do
   if f≥mx then break
   let some g <- ML left key arr base (hint - f) | return none
   if g then break
   la:=f
   f:=2*f+1
  lo:=hint+1 - min f mx
  hi:=hint - la
 for _ in [0:n] do
  if lo≥hi then break
  let m:=lo+(hi - lo) / 2
  let some g <- ML left key arr base m | return none
  if g then lo:=m+1 else hi:=m
 return some hi):=rfl
section
variable {prog:Program}{w:World}{A:Around}{E:Value ->Shared ->Prop}{s:Shared}{kd:SortKind}{a₀:Array Keyed}{less:Keyed ->Keyed ->Bool}
theorem wp_gal0 {st:SortSt}{left:Bool}{key:Keyed}{arr:Array Keyed}{base n hint:Nat}{Q:Option Nat ->SortSt ->Prop}(Bf:Nat ->Bool)(hh:hint<n) (hb: ∀i,i<n -> ∀Q':Option Bool ->SortSt ->Prop,Q' (some (Bf i)) st ->wpS (model prog w) A E s (ML left key arr base i) Q' st) (mono: ∀i j,i<=j ->j<n ->Bf j=true ->Bf i=true) (h: ∀k,k<=n ->(∀i,i<k ->Bf i=true) ->(∀i,k<=i ->i<n ->Bf i=false) ->Q (some k) st): wpS (model prog w) A E s (uw left key arr base n hint) Q st:=by
 have zh: ∀i j,i<=j ->j<n ->Bf i=false ->Bf j=false:=λi j fY hj e=>by
  cases e2:Bf j with
  | false=>rfl
  | true=>rw[mono i j fY hj e2] at e;cases e
 rw[Mu];dsimp only;refine az (hb hint hh _ ?_);dsimp only;cases hB:Bf hint with
 | true =>
  simp only[bN];refine az (wpS_mono (cB (I:=λi c bB=>bB=st /\ ∃la f,c=(none,la,f) /\ i+1<=f /\ la<f /\ hint+la<n /\ Bf (hint+la)=true) (Q:=λc bB=>bB=st /\ ∃la f,c=(none,la,f) /\ la<f /\ hint+la<n /\ Bf (hint+la)=true /\ (n - hint<=f \/ (hint+f<n /\ Bf (hint+f)=false))) ?_ ?_ ⟨rfl,0,1,rfl,by omega,by omega,by omega,hB⟩) ?_)
  ·rintro i c bB _ hi ⟨rfl,la,f,rfl,h1,h2,h3,h4⟩;dsimp only;by_cases c1:f≥n - hint
   ·rw[ak c1];exact aF ⟨rfl,la,f,rfl,h2,h3,h4, .inl c1⟩
   ·rw[aj c1];refine az (hb _ (by omega) _ ?_);cases e:Bf (hint+f) with
    | true=>simp only[Bool.not_true,ay,bf];exact aF ⟨rfl,f,2*f+1,rfl,by omega,by omega,by omega,e⟩
    | false=>simp only[Bool.not_false,bN];exact aF ⟨rfl,la,f,rfl,h2,h3,h4, .inr ⟨by omega,e⟩⟩
  ·rintro c bB ⟨rfl,la,f,rfl,h1,h2,h3,h4⟩;exact⟨rfl,la,f,rfl,h2,h3,h4, .inl (by omega)⟩
  ·rintro c bB ⟨rfl,la,f,rfl,h2,h3,h4,h5⟩;dsimp only;refine az (wpS_mono (cB (I:=λi c fC=>fC=bB /\ ∃lo hi,c=(none,lo,hi) /\ lo<=hi /\ hi<=n /\ hi - lo<=n - i /\ (∀i,i<lo ->Bf i=true) /\ (∀i,hi<=i ->i<n ->Bf i=false)) (Q:=λc fC=>fC=bB /\ ∃lo hi,c=(none,lo,hi) /\ hi<=n /\ (∀i,i<hi ->Bf i=true) /\ (∀i,hi<=i ->i<n ->Bf i=false)) ?_ ?_ ⟨rfl,_,_,rfl,by omega,by omega,by omega,λi hi=>mono i (hint+la) (by omega) h3 h4,λi hi gU=> ?_⟩) ?_)
   ·rintro i c fC _ hi ⟨rfl,lo,ko,rfl,g1,g2,g3,g4,g5⟩;dsimp only;by_cases c1:lo≥ko
    ·rw[ak c1];have:lo=ko:=by omega
     subst this;exact aF ⟨rfl,_,_,rfl,g2,g4,g5⟩
    ·rw[aj c1];refine az (hb _ (by omega) _ ?_);cases e:Bf (lo+(ko - lo) / 2) with
     | true=>simp only[bN];exact aF ⟨rfl,_,_,rfl,by omega,g2,by omega,λj hj=>mono j _ (by omega) (by omega) e,g5⟩
     | false=>simp only[ay,bf];exact aF ⟨rfl,_,_,rfl,by omega,by omega,by omega,g4,λj hj UU=>zh _ j hj UU e⟩
   ·rintro c fC ⟨rfl,lo,ko,rfl,g1,g2,g3,g4,g5⟩;have:lo=ko:=by omega
    subst this;exact⟨rfl,_,_,rfl,g2,g4,g5⟩
   ·rcases h5 with h5 | ⟨h5,h6⟩
    ·omega
    ·exact zh (hint+f) i (by omega) gU h6
   ·rintro c fC ⟨rfl,lo,ko,rfl,g2,g4,g5⟩;exact aF (h _ g2 g4 g5)
 | false =>
  simp only[ay,bf];refine az (wpS_mono (cB (I:=λi c bB=>bB=st /\ ∃la f,c=(none,la,f) /\ i+1<=f /\ la<f /\ la<=hint /\ Bf (hint - la)=false) (Q:=λc bB=>bB=st /\ ∃la f,c=(none,la,f) /\ la<f /\ la<=hint /\ Bf (hint - la)=false /\ (hint+1<=f \/ (f<=hint /\ Bf (hint - f)=true))) ?_ ?_ ⟨rfl,0,1,rfl,by omega,by omega,by omega,hB⟩) ?_)
  ·rintro i c bB _ hi ⟨rfl,la,f,rfl,h1,h2,h3,h4⟩;dsimp only;by_cases c1:f≥hint+1
   ·rw[ak c1];exact aF ⟨rfl,la,f,rfl,h2,h3,h4, .inl c1⟩
   ·rw[aj c1];refine az (hb _ (by omega) _ ?_);cases e:Bf (hint - f) with
    | false=>simp only[ay,bf];exact aF ⟨rfl,f,2*f+1,rfl,by omega,by omega,by omega,e⟩
    | true=>simp only[bN];exact aF ⟨rfl,la,f,rfl,h2,h3,h4, .inr ⟨by omega,e⟩⟩
  ·rintro c bB ⟨rfl,la,f,rfl,h1,h2,h3,h4⟩;exact⟨rfl,la,f,rfl,h2,h3,h4, .inl (by omega)⟩
  ·rintro c bB ⟨rfl,la,f,rfl,h2,h3,h4,h5⟩;dsimp only;refine az (wpS_mono (cB (I:=λi c fC=>fC=bB /\ ∃lo hi,c=(none,lo,hi) /\ lo<=hi /\ hi<=n /\ hi - lo<=n - i /\ (∀i,i<lo ->Bf i=true) /\ (∀i,hi<=i ->i<n ->Bf i=false)) (Q:=λc fC=>fC=bB /\ ∃lo hi,c=(none,lo,hi) /\ hi<=n /\ (∀i,i<hi ->Bf i=true) /\ (∀i,hi<=i ->i<n ->Bf i=false)) ?_ ?_ ⟨rfl,_,_,rfl,by omega,by omega,by omega,λi hi=> ?_,λi hi gU=>zh (hint - la) i (by omega) gU h4⟩) ?_)
   ·rintro i c fC _ hi ⟨rfl,lo,ko,rfl,g1,g2,g3,g4,g5⟩;dsimp only;by_cases c1:lo≥ko
    ·rw[ak c1];have:lo=ko:=by omega
     subst this;exact aF ⟨rfl,_,_,rfl,g2,g4,g5⟩
    ·rw[aj c1];refine az (hb _ (by omega) _ ?_);cases e:Bf (lo+(ko - lo) / 2) with
     | true=>simp only[bN];exact aF ⟨rfl,_,_,rfl,by omega,g2,by omega,λj hj=>mono j _ (by omega) (by omega) e,g5⟩
     | false=>simp only[ay,bf];exact aF ⟨rfl,_,_,rfl,by omega,by omega,by omega,g4,λj hj UU=>zh _ j hj UU e⟩
   ·rintro c fC ⟨rfl,lo,ko,rfl,g1,g2,g3,g4,g5⟩;have:lo=ko:=by omega
    subst this;exact⟨rfl,_,_,rfl,g2,g4,g5⟩
   ·rcases h5 with h5 | ⟨h5,h6⟩
    ·omega
    ·exact mono i (hint - f) (by omega) (by omega) h6
   ·rintro c fC ⟨rfl,lo,ko,rfl,g2,g4,g5⟩;exact aF (h _ g2 g4 g5)
theorem wp_galL (O:Ord less)(L:gY prog w A E s kd a₀ less){st:SortSt}{key:Keyed}{arr:Array Keyed}{base n hint:Nat}{Q:Option Nat ->SortSt ->Prop}(B:kindOf st=kd)(hk:key∈a₀.toList) (hm: ∀i,i<n ->base+i<arr.size /\ cG arr (base+i)∈a₀.toList) (hh:hint<n) (hs:Sg less arr base (base+n)) (h: ∀k,k<=n ->(∀i,i<k ->less (cG arr (base+i)) key=true) ->(∀i,k<=i ->i<n ->LE less key (cG arr (base+i))) ->Q (some k) st): wpS (model prog w) A E s (uw true key arr base n hint) Q st:=by refine wp_gal0 (λi=>less (cG arr (base+i)) key) hh (λi hi Q' hq=> ?_) (λi j fY hj e=>O.PJ (hs (base+i) (base+j) (by omega) (by omega) (by omega)) e) h;unfold ML;refine az (wp_elem (hm i hi).1 ?_);simp only[bN];exact L _ _ _ _ (hm i hi).2 hk B hq
theorem wp_galR (O:Ord less)(L:gY prog w A E s kd a₀ less){st:SortSt}{key:Keyed}{arr:Array Keyed}{base n hint:Nat}{Q:Option Nat ->SortSt ->Prop}(B:kindOf st=kd)(hk:key∈a₀.toList) (hm: ∀i,i<n ->base+i<arr.size /\ cG arr (base+i)∈a₀.toList) (hh:hint<n) (hs:Sg less arr base (base+n)) (h: ∀k,k<=n ->(∀i,i<k ->LE less (cG arr (base+i)) key) ->(∀i,k<=i ->i<n ->less key (cG arr (base+i))=true) ->Q (some k) st): wpS (model prog w) A E s (uw false key arr base n hint) Q st:=by
 refine wp_gal0 (λi=> !less key (cG arr (base+i))) hh (λi hi Q' hq=> ?_) (λi j fY hj e=> ?_) (λk h1 h2 h3=>h k h1 (λi hi=> ?_) λi h4 h5=> ?_)
 ·unfold ML;refine az (wp_elem (hm i hi).1 ?_);simp only[ay,bf];exact az (L _ _ _ _ hk (hm i hi).2 B (aF hq))
 ·simp only[Bool.not_eq_true'] at e ⊢;exact O.trans _ _ _ (hs (base+i) (base+j) (by omega) (by omega) (by omega)) e
 ·have:=h2 i hi;simp only[Bool.not_eq_true'] at this;exact this
 ·have:=h3 i h4 h5;simpa using this
theorem LA (a b:Array Keyed):RV a b=(do
 rule "list.sort.merge-lo"
 let tt:=a.size+b.size
 let dn (o:Array Keyed) (i j:Nat):=o++a.extract i a.size++b.extract j b.size
 let la (o:Array Keyed) (i j:Nat):=o++b.extract j b.size++a.extract i a.size
 let mut o:Array Keyed:= #[<- elem' b 0]
 let mut i:=0
 let mut j:=1
 if j==b.size then return dn o i j
 if i+1==a.size then return la o i j
 let mut mg:=gallopOf (<- get)
 for _ in [0:tt] do
  let mut ac:=0
  let mut bc:=0
  for _ in [0:tt] do
   let some g <- lt' (<- elem' b j) (<- elem' a i) | return dn o i j
   if g then
    o:=o.push (<- elem' b j);j:=j+1;bc:=bc+1;ac:=0
    if j==b.size then return dn o i j
    if bc≥mg then break
   else
    o:=o.push (<- elem' a i);i:=i+1;ac:=ac+1;bc:=0
    if i+1==a.size then return la o i j
    if ac≥mg then break
  rule "list.sort.gallop"
  mg:=mg+1
  for _ in [0:tt] do
   if mg >1 then mg:=mg - 1
   modify λs=>cy s mg
   let some k <- uw false (<- elem' b j) a i (a.size - i) 0 | return dn o i j
   ac:=k
   if k >0 then
    o:=o++a.extract i (i+k);i:=i+k
    if i+1==a.size then return la o i j
    if i==a.size then return dn o i j
   o:=o.push (<- elem' b j);j:=j+1
   if j==b.size then return dn o i j
   let some k <- uw true (<- elem' a i) b j (b.size - j) 0 | return dn o i j
   bc:=k
   if k >0 then
    o:=o++b.extract j (j+k);j:=j+k
    if j==b.size then return dn o i j
   o:=o.push (<- elem' a i);i:=i+1
   if i+1==a.size then return la o i j
   if ac<7 && bc<7 then break
  mg:=mg+1
  modify λs=>cy s mg
 unsupported "internal:list.sort.merge-bound"):=rfl
theorem LB (a b:Array Keyed):RW a b=(do
 rule "list.sort.merge-hi"
 let tt:=a.size+b.size
 let dn (o:Array Keyed) (i j:Nat):=a.extract 0 i++b.extract 0 j++o.reverse
 let fb (o:Array Keyed) (i j:Nat):=b.extract 0 j++a.extract 0 i++o.reverse
 let mut i:=a.size - 1
 let mut j:=b.size
 let mut o:Array Keyed:= #[<- elem' a i]
 if i==0 then return dn o i j
 if j==1 then return fb o i j
 let mut mg:=gallopOf (<- get)
 for _ in [0:tt] do
  let mut ac:=0
  let mut bc:=0
  for _ in [0:tt] do
   let some g <- lt' (<- elem' b (j - 1)) (<- elem' a (i - 1)) | return dn o i j
   if g then
    i:=i - 1;o:=o.push (<- elem' a i);ac:=ac+1;bc:=0
    if i==0 then return dn o i j
    if ac≥mg then break
   else
    j:=j - 1;o:=o.push (<- elem' b j);bc:=bc+1;ac:=0
    if j==1 then return fb o i j
    if bc≥mg then break
  rule "list.sort.gallop"
  mg:=mg+1
  for _ in [0:tt] do
   if mg >1 then mg:=mg - 1
   modify λs=>cy s mg
   let some at_ <- uw false (<- elem' b (j - 1)) a 0 i (i - 1) | return dn o i j
   let k:=i - at_
   ac:=k
   if k >0 then
    o:=o++(a.extract at_ i).reverse;i:=at_
    if i==0 then return dn o i j
   j:=j - 1;o:=o.push (<- elem' b j)
   if j==1 then return fb o i j
   let some at_ <- uw true (<- elem' a (i - 1)) b 0 j (j - 1) | return dn o i j
   let k:=j - at_
   bc:=k
   if k >0 then
    o:=o++(b.extract at_ j).reverse;j:=at_
    if j==1 then return fb o i j
    if j==0 then return dn o i j
   i:=i - 1;o:=o.push (<- elem' a i)
   if i==0 then return dn o i j
   if ac<7 && bc<7 then break
  mg:=mg+1
  modify λs=>cy s mg
 unsupported "internal:list.sort.merge-bound"):=rfl
end
structure MI (less:Keyed ->Keyed ->Bool)(al bl o:List Keyed)(i j:Nat):Prop where
 pm:o.Perm (al.take i++bl.take j)
 so:o.Pairwise (LE less)
 ba: ∀x∈o, ∀y∈al.drop i,LE less x y
 bb: ∀x∈o, ∀y∈bl.drop j,LE less x y
section
variable {less:Keyed ->Keyed ->Bool}{al bl o:List Keyed}{i j:Nat}
theorem MI.swap (h:MI less al bl o i j):MI less bl al o j i:=⟨h.pm.trans List.perm_append_comm,h.so,h.bb,h.ba⟩
theorem take_add {α:Type}(l:List α)(i k:Nat):l.take (i+k)=l.take i++(l.drop i).take k:=by rw[List.take_add]
theorem MI.HK (h:MI less al bl o i j)(sa:al.Pairwise (LE less))(k:Nat)(hk: ∀x∈(al.drop i).take k, ∀y∈bl.drop j,LE less x y):MI less al bl (o++(al.drop i).take k) (i+k) j:=by
 have sd:(al.drop i).Pairwise (LE less):=sa.sublist (List.drop_sublist _ _);have e:(al.drop i).take k++al.drop (i+k)=al.drop i:=by rw[<- List.drop_drop,a8]
 have K3:=sd;rw[<- e,cx] at K3;refine⟨?_,?_,?_,?_⟩
 ·rw[take_add,bR];refine(h.pm.append_right _).trans ?_;rw[bR];exact List.Perm.append_left _ List.perm_append_comm
 ·rw[cx];exact⟨h.so,K3.1,λx hx y hy=>h.ba x hx y (List.mem_of_mem_take hy)⟩
 ·intro x hx y hy;rcases ax.mp hx with hx | hx
  ·exact h.ba x hx y (by rw[<- e];exact aT _ hy)
  ·exact K3.2.2 x hx y hy
 ·intro x hx y hy;rcases ax.mp hx with hx | hx
  ·exact h.bb x hx y hy
  ·exact hk x hx y hy
theorem MI.fin (h:MI less al bl o i j)(sa:al.Pairwise (LE less))(sb:bl.Pairwise (LE less))(hk: ∀x∈bl.drop j, ∀y∈al.drop i,LE less x y):(o++bl.drop j++al.drop i).Perm (al++bl) /\ (o++bl.drop j++al.drop i).Pairwise (LE less):=by
 constructor
 ·rw[bR];refine(h.pm.append_right _).trans ?_;have e1:(al++bl).Perm ((al.take i++al.drop i)++(bl.take j++bl.drop j)):=by rw[a8,a8]
  refine List.Perm.trans ?_ e1.symm;rw[bR,bR];refine List.Perm.append_left _ ?_;rw[<- bR];exact List.perm_append_comm
 ·rw[cx,cx];refine⟨⟨h.so,sb.sublist (List.drop_sublist _ _),h.bb⟩,sa.sublist (List.drop_sublist _ _),λx hx y hy=> ?_⟩;rcases ax.mp hx with hx | hx
  ·exact h.ba x hx y hy
  ·exact hk x hx y hy
structure MH (less:Keyed ->Keyed ->Bool)(al bl t:List Keyed)(i j:Nat):Prop where
 pm:t.Perm (al.drop i++bl.drop j)
 so:t.Pairwise (LE less)
 ba: ∀x∈t, ∀y∈al.take i,LE less y x
 bb: ∀x∈t, ∀y∈bl.take j,LE less y x
theorem MH.swap {t:List Keyed}(h:MH less al bl t i j):MH less bl al t j i:=⟨h.pm.trans List.perm_append_comm,h.so,h.bb,h.ba⟩
theorem MH.HK {t:List Keyed}(h:MH less al bl t i j)(sa:al.Pairwise (LE less)){k:Nat}(Qv:k<=i)(hk: ∀x∈(al.take i).drop k, ∀y∈bl.take j,LE less y x):MH less al bl ((al.take i).drop k++t) k j:=by
 have sd:(al.take i).Pairwise (LE less):=sa.sublist (List.take_sublist _ _);have e0:(al.take i).take k=al.take k:=by rw[List.take_take,Nat.min_eq_left Qv]
 have e:al.take k++(al.take i).drop k=al.take i:=by rw[<- e0,a8]
 have K3:=sd;rw[<- e,cx] at K3;have e3:al.drop k=(al.take i).drop k++al.drop i:=by
  have:=a8 i al;have e4:al.drop k=(al.take i++al.drop i).drop k:=by rw[this]
  rw[e4];by_cases c:i<=al.length
  ·rw[List.drop_append_of_le_length (by rw[a6];lia)]
  ·have z:al.drop i= []:=List.drop_eq_nil_of_le (by lia);rw[z,List.append_nil,List.append_nil]
 refine⟨?_,?_,?_,?_⟩
 ·rw[e3,bR];exact List.Perm.append_left _ h.pm
 ·rw[cx];exact⟨K3.2.1,h.so,λx hx y hy=>h.ba y hy x (by rw[<- e];exact aT _ hx)⟩
 ·intro x hx y hy;rcases ax.mp hx with hx | hx
  ·exact K3.2.2 y hy x hx
  ·exact h.ba x hx y (by rw[<- e];exact List.mem_append_left _ hy)
 ·intro x hx y hy;rcases ax.mp hx with hx | hx
  ·exact hk x hx y hy
  ·exact h.bb x hx y hy
theorem MH.fin {t:List Keyed}(h:MH less al bl t i j)(sa:al.Pairwise (LE less))(sb:bl.Pairwise (LE less))(hk: ∀x∈al.take i, ∀y∈bl.take j,LE less x y):(al.take i++bl.take j++t).Perm (al++bl) /\ (al.take i++bl.take j++t).Pairwise (LE less):=by
 constructor
 ·refine(List.Perm.append_left _ h.pm).trans ?_;have e1:(al++bl).Perm ((al.take i++al.drop i)++(bl.take j++bl.drop j)):=by rw[a8,a8]
  refine List.Perm.trans ?_ e1.symm;rw[bR,bR];refine List.Perm.append_left _ ?_;rw[<- bR, <- bR];exact List.Perm.append_right _ List.perm_append_comm
 ·rw[cx,cx];refine⟨⟨sa.sublist (List.take_sublist _ _),sb.sublist (List.take_sublist _ _),hk⟩,h.so,λx hx y hy=> ?_⟩;rcases ax.mp hx with hx | hx
  ·exact h.ba y hy x hx
  ·exact h.bb y hy x hx
end
abbrev R5:=Option (Array Keyed)×Array Keyed×Nat×Nat×Nat
abbrev R6:=Option (Array Keyed)×Array Keyed×Nat×Nat×Nat×Nat
abbrev R7:=Option (Array Keyed)×Array Keyed×Nat×Nat×Nat×Nat×Nat
section
variable (a b:Array Keyed)
abbrev ya (o:Array Keyed)(i j:Nat):Array Keyed:=o++a.extract i a.size++b.extract j b.size
abbrev Jq (o:Array Keyed)(i j:Nat):Array Keyed:=o++b.extract j b.size++a.extract i a.size
def Ll (mg:Nat)(o:Array Keyed)(i j ac bc:Nat):StateT SortSt Sem (ForInStep R6):=do
 let x <- elem' b j
 let y <- elem' a i
 let g <- lt' x y
 match g with
 | some g=>
  if g=true then do
   let x <- elem' b j
   if(j+1==b.size)=true then pure (.done (some (ya a b (o.push x) i (j+1)),o.push x,i,j+1,0,bc+1))
   else if bc+1≥mg then pure (.done (none,o.push x,i,j+1,0,bc+1))
   else pure (.yield (none,o.push x,i,j+1,0,bc+1))
  else do
   let x <- elem' a i
   if(i+1+1==a.size)=true then pure (.done (some (Jq a b (o.push x) (i+1) j),o.push x,i+1,j,ac+1,0))
   else if ac+1≥mg then pure (.done (none,o.push x,i+1,j,ac+1,0))
   else pure (.yield (none,o.push x,i+1,j,ac+1,0))
 | _=>pure (.done (some (ya a b o i j),o,i,j,ac,bc))
def RF (mg ac bc:Nat)(o:Array Keyed)(i j:Nat):StateT SortSt Sem (ForInStep R7):=do
 let x <- elem' a i
 if(i+1+1==a.size)=true then pure (.done (some (Jq a b (o.push x) (i+1) j),o.push x,i+1,j,mg,ac,bc))
 else if(decide (ac<7) && decide (bc<7))=true then pure (.done (none,o.push x,i+1,j,mg,ac,bc))
 else pure (.yield (none,o.push x,i+1,j,mg,ac,bc))
def RH (mg ac bc:Nat)(o:Array Keyed)(i j:Nat):StateT SortSt Sem (ForInStep R7):=do
 let x <- elem' b j
 if(j+1==b.size)=true then pure (.done (some (ya a b (o.push x) i (j+1)),o.push x,i,j+1,mg,ac,bc))
 else do
  let y <- elem' a i
  let r <- uw true y b (j+1) (b.size - (j+1)) 0
  match r with
  | some k=>
   if k >0 then
    if(j+1+k==b.size)=true then pure (.done (some (ya a b (o.push x++b.extract (j+1) (j+1+k)) i (j+1+k)),o.push x++b.extract (j+1) (j+1+k),i,j+1+k,mg,ac,k))
    else RF a b mg ac k (o.push x++b.extract (j+1) (j+1+k)) i (j+1+k)
   else RF a b mg ac k (o.push x) i (j+1)
  | _=>pure (.done (some (ya a b (o.push x) i (j+1)),o.push x,i,j+1,mg,ac,bc))
def Pd (mg ac bc:Nat)(o:Array Keyed)(i j:Nat):StateT SortSt Sem (ForInStep R7):=do
 modify λs=>cy s mg
 let x <- elem' b j
 let r <- uw false x a i (a.size - i) 0
 match r with
 | some k=>
  if k >0 then
   if(i+k+1==a.size)=true then pure (.done (some (Jq a b (o++a.extract i (i+k)) (i+k) j),o++a.extract i (i+k),i+k,j,mg,k,bc))
   else if(i+k==a.size)=true then pure (.done (some (ya a b (o++a.extract i (i+k)) (i+k) j),o++a.extract i (i+k),i+k,j,mg,k,bc))
   else RH a b mg k bc (o++a.extract i (i+k)) (i+k) j
  else RH a b mg k bc o i j
 | _=>pure (.done (some (ya a b o i j),o,i,j,mg,ac,bc))
def Pf (c:R5):StateT SortSt Sem (ForInStep R5):=do
 let d <- forIn [:a.size+b.size] ((none,c.2.1,c.2.2.1,c.2.2.2.1,0,0):R6) λ_ d=>Ll a b c.2.2.2.2 d.2.1 d.2.2.1 d.2.2.2.1 d.2.2.2.2.1 d.2.2.2.2.2
 match d.1 with
 | some r=>pure (.done (some r,d.2.1,d.2.2.1,d.2.2.2.1,c.2.2.2.2))
 | none=>do
  liftM (rule "list.sort.gallop")
  let e <- forIn [:a.size+b.size] ((none,d.2.1,d.2.2.1,d.2.2.2.1,c.2.2.2.2+1,d.2.2.2.2.1,d.2.2.2.2.2):R7) λ_ e=>if e.2.2.2.2.1 >1 then Pd a b (e.2.2.2.2.1 - 1) e.2.2.2.2.2.1 e.2.2.2.2.2.2 e.2.1 e.2.2.1 e.2.2.2.1 else Pd a b e.2.2.2.2.1 e.2.2.2.2.2.1 e.2.2.2.2.2.2 e.2.1 e.2.2.1 e.2.2.2.1
  match e.1 with
  | some r=>pure (.done (some r,e.2.1,e.2.2.1,e.2.2.2.1,e.2.2.2.2.1))
  | none=>do
   modify λs=>cy s (e.2.2.2.2.1+1)
   pure (.yield (none,e.2.1,e.2.2.1,e.2.2.2.1,e.2.2.2.2.1+1))
end
theorem rR {σ α β:Type}{m:StateT σ Sem α}{f g:α ->StateT σ Sem β}(h: ∀x,f x=g x):(m >>=f)=(m >>=g):=by rw[funext h]
theorem Bs {σ α β:Type}{m m':StateT σ Sem α}{f g:α ->StateT σ Sem β}(e:m=m')(h: ∀x,f x=g x):(m >>=f)=(m' >>=g):=by rw[e,funext h]
theorem AY {α:Sort _}{c:Prop} [Decidable c]{x y x' y':α}(h:x=x')(h':y=y'):(if c then x else y)=(if c then x' else y'):=by rw[h,h']
theorem Bb {σ β:Type}{r:Std.Legacy.Range}{c:β}{f g:Nat ->β ->StateT σ Sem (ForInStep β)}(h: ∀i c,f i c=g i c):forIn r c f=forIn r c g:=by rw[funext λi=>funext (h i)]
section
variable (a b:Array Keyed)
theorem ze (mg ac bc:Nat)(o:Array Keyed)(i j:Nat):(do
  modify λs=>cy s mg
  let Bx <- elem' b j
  let WJ <- uw false Bx a i (a.size - i) 0
  match WJ with
  | some k =>
   have ac:=k
   have jp :=λ(WN:Unit) (o:Array Keyed) (i:Nat)=>do
    let x <- elem' b j
    have o:Array Keyed:=o.push x
    have j:Nat:=j+1
    if(j==b.size)=true then pure (ForInStep.done ((some (ya a b o i j),o,i,j,mg,ac,bc):R7))
    else do
     let y <- elem' a i
     let WJ <- uw true y b j (b.size - j) 0
     match WJ with
     | some k=>
      have bc:=k
      have jp:=λ(WN:Unit) (o:Array Keyed) (j:Nat)=>do
       let x <- elem' a i
       have o:Array Keyed:=o.push x
       have i:Nat:=i+1
       if(i+1==a.size)=true then pure (ForInStep.done ((some (Jq a b o i j),o,i,j,mg,ac,bc):R7))
       else if(decide (ac<7) && decide (bc<7))=true then pure (.done (none,o,i,j,mg,ac,bc))
       else pure (.yield (none,o,i,j,mg,ac,bc))
      if k >0 then
       have o:=o++b.extract j (j+k)
       have j:=j+k
       if(j==b.size)=true then pure (.done (some (ya a b o i j),o,i,j,mg,ac,bc)) else jp () o j
      else jp () o j
     | _=>pure (.done (some (ya a b o i j),o,i,j,mg,ac,bc))
   if k >0 then
    have o:=o++a.extract i (i+k)
    have i:=i+k
    if(i+1==a.size)=true then pure (.done (some (Jq a b o i j),o,i,j,mg,ac,bc))
    else if(i==a.size)=true then pure (.done (some (ya a b o i j),o,i,j,mg,ac,bc)) else jp () o i
   else jp () o i
  | _=>pure (.done (some (ya a b o i j),o,i,j,mg,ac,bc)))=Pd a b mg ac bc o i j:=by
 refine rR λ_=>rR λx=>rR λr=> ?_
 cases r with
 | none=>rfl
 | some k=>
  refine AY (AY rfl (AY rfl ?_)) ?_;all_goals
   refine rR λy=>AY rfl (rR λz=>rR λr=> ?_)
   cases r with
   | none=>rfl
   | some k=>rfl
theorem AK:RV a b=(do
  liftM (rule "list.sort.merge-lo")
  let x <- elem' b 0
  if(1==b.size)=true then pure (ya a b #[x] 0 1)
  else if(0+1==a.size)=true then pure (Jq a b #[x] 0 1)
  else do
   let g <- get
   let c <- forIn [:a.size+b.size] ((none, #[x],0,1,gallopOf g):R5) λ_ c=>Pf a b c
   match c.1 with
   | some r=>pure r
   | none=>unsupported "internal:list.sort.merge-bound"):=by
 rw[LA]
 refine rR λ_=> ?_
 refine rR λx=> ?_
 refine AY rfl (AY rfl (rR λg=>Bs (Bb λ_ c=> ?_) λc=> ?_))
 ·refine Bs (Bb λ_ d=>rfl) λd=> ?_;obtain⟨r,d⟩:=d;cases r with
  | some r=>rfl
  | none=>
   refine rR λ_=>Bs (Bb λ_ e=> ?_) λe=> ?_
   ·refine AY ?_ ?_
    ·exact ze a b _ _ _ _ _ _
    ·exact ze a b _ _ _ _ _ _
   ·obtain⟨r,e⟩:=e;cases r<;>rfl
 ·obtain⟨r,c⟩:=c;cases r<;>rfl
abbrev yb (o:Array Keyed)(i j:Nat):Array Keyed:=a.extract 0 i++b.extract 0 j++o.reverse
abbrev JW (o:Array Keyed)(i j:Nat):Array Keyed:=b.extract 0 j++a.extract 0 i++o.reverse
def Kw (mg:Nat)(i j:Nat)(o:Array Keyed)(ac bc:Nat):StateT SortSt Sem (ForInStep (Option (Array Keyed)×Nat×Nat×Array Keyed×Nat×Nat)):=do
 let x <- elem' b (j - 1)
 let y <- elem' a (i - 1)
 let g <- lt' x y
 match g with
 | some g=>
  if g=true then do
   let x <- elem' a (i - 1)
   if(i - 1==0)=true then pure (.done (some (yb a b (o.push x) (i - 1) j),i - 1,j,o.push x,ac+1,0))
   else if ac+1≥mg then pure (.done (none,i - 1,j,o.push x,ac+1,0))
   else pure (.yield (none,i - 1,j,o.push x,ac+1,0))
  else do
   let x <- elem' b (j - 1)
   if(j - 1==1)=true then pure (.done (some (JW a b (o.push x) i (j - 1)),i,j - 1,o.push x,0,bc+1))
   else if bc+1≥mg then pure (.done (none,i,j - 1,o.push x,0,bc+1))
   else pure (.yield (none,i,j - 1,o.push x,0,bc+1))
 | _=>pure (.done (some (yb a b o i j),i,j,o,ac,bc))
abbrev S7:=Option (Array Keyed)×Nat×Nat×Array Keyed×Nat×Nat×Nat
def RG (mg ac bc:Nat)(i j:Nat)(o:Array Keyed):StateT SortSt Sem (ForInStep S7):=do
 let x <- elem' a (i - 1)
 if(i - 1==0)=true then pure (.done (some (yb a b (o.push x) (i - 1) j),i - 1,j,o.push x,mg,ac,bc))
 else if(decide (ac<7) && decide (bc<7))=true then pure (.done (none,i - 1,j,o.push x,mg,ac,bc))
 else pure (.yield (none,i - 1,j,o.push x,mg,ac,bc))
def RI (mg ac bc:Nat)(i j:Nat)(o:Array Keyed):StateT SortSt Sem (ForInStep S7):=do
 let x <- elem' b (j - 1)
 if(j - 1==1)=true then pure (.done (some (JW a b (o.push x) i (j - 1)),i,j - 1,o.push x,mg,ac,bc))
 else do
  let y <- elem' a (i - 1)
  let r <- uw true y b 0 (j - 1) (j - 1 - 1)
  match r with
  | some k=>
   if j - 1 - k >0 then
    if(k==1)=true then pure (.done (some (JW a b (o.push x++(b.extract k (j - 1)).reverse) i k),i,k,o.push x++(b.extract k (j - 1)).reverse,mg,ac,j - 1 - k))
    else if(k==0)=true then pure (.done (some (yb a b (o.push x++(b.extract k (j - 1)).reverse) i k),i,k,o.push x++(b.extract k (j - 1)).reverse,mg,ac,j - 1 - k))
    else RG a b mg ac (j - 1 - k) i k (o.push x++(b.extract k (j - 1)).reverse)
   else RG a b mg ac (j - 1 - k) i (j - 1) (o.push x)
  | _=>pure (.done (some (yb a b (o.push x) i (j - 1)),i,j - 1,o.push x,mg,ac,bc))
def Pe (mg ac bc:Nat)(i j:Nat)(o:Array Keyed):StateT SortSt Sem (ForInStep S7):=do
 modify λs=>cy s mg
 let x <- elem' b (j - 1)
 let r <- uw false x a 0 i (i - 1)
 match r with
 | some k=>
  if i - k >0 then
   if(k==0)=true then pure (.done (some (yb a b (o++(a.extract k i).reverse) k j),k,j,o++(a.extract k i).reverse,mg,i - k,bc))
   else RI a b mg (i - k) bc k j (o++(a.extract k i).reverse)
  else RI a b mg (i - k) bc i j o
 | _=>pure (.done (some (yb a b o i j),i,j,o,mg,ac,bc))
abbrev S5:=Option (Array Keyed)×Nat×Nat×Array Keyed×Nat
def GS (c:S5):StateT SortSt Sem (ForInStep S5):=do
 let d <- forIn [:a.size+b.size] ((none,c.2.1,c.2.2.1,c.2.2.2.1,0,0):Option (Array Keyed)×Nat×Nat×Array Keyed×Nat×Nat) λ_ d=>Kw a b c.2.2.2.2 d.2.1 d.2.2.1 d.2.2.2.1 d.2.2.2.2.1 d.2.2.2.2.2
 match d.1 with
 | some r=>pure (.done (some r,d.2.1,d.2.2.1,d.2.2.2.1,c.2.2.2.2))
 | none=>do
  liftM (rule "list.sort.gallop")
  let e <- forIn [:a.size+b.size] ((none,d.2.1,d.2.2.1,d.2.2.2.1,c.2.2.2.2+1,d.2.2.2.2.1,d.2.2.2.2.2):S7) λ_ e=>if e.2.2.2.2.1 >1 then Pe a b (e.2.2.2.2.1 - 1) e.2.2.2.2.2.1 e.2.2.2.2.2.2 e.2.1 e.2.2.1 e.2.2.2.1 else Pe a b e.2.2.2.2.1 e.2.2.2.2.2.1 e.2.2.2.2.2.2 e.2.1 e.2.2.1 e.2.2.2.1
  match e.1 with
  | some r=>pure (.done (some r,e.2.1,e.2.2.1,e.2.2.2.1,e.2.2.2.2.1))
  | none=>do
   modify λs=>cy s (e.2.2.2.2.1+1)
   pure (.yield (none,e.2.1,e.2.2.1,e.2.2.2.1,e.2.2.2.2.1+1))
theorem u9 (mg ac bc:Nat)(i j:Nat)(o:Array Keyed):(do
  modify λs=>cy s mg
  let x <- elem' b (j - 1)
  let r <- uw false x a 0 i (i - 1)
  match r with
  | some at_=>
   have k:=i - at_
   have ac:=k
   have jp :=λ(WN:Unit) (i:Nat) (o:Array Keyed)=>do
    have j:Nat:=j - 1
    let x <- elem' b j
    have o:Array Keyed:=o.push x
    if(j==1)=true then pure (ForInStep.done ((some (JW a b o i j),i,j,o,mg,ac,bc):S7))
    else do
     let y <- elem' a (i - 1)
     let r <- uw true y b 0 j (j - 1)
     match r with
     | some at_=>
      have k:=j - at_
      have bc:=k
      have jp:=λ(WN:Unit) (j:Nat) (o:Array Keyed)=>do
       have i:Nat:=i - 1
       let x <- elem' a i
       have o:Array Keyed:=o.push x
       if(i==0)=true then pure (ForInStep.done ((some (yb a b o i j),i,j,o,mg,ac,bc):S7))
       else if(decide (ac<7) && decide (bc<7))=true then pure (.done (none,i,j,o,mg,ac,bc))
       else pure (.yield (none,i,j,o,mg,ac,bc))
      if k >0 then
       have o:=o++(b.extract at_ j).reverse
       have j:=at_
       if(j==1)=true then pure (.done (some (JW a b o i j),i,j,o,mg,ac,bc)) else if(j==0)=true then pure (.done (some (yb a b o i j),i,j,o,mg,ac,bc)) else jp () j o
      else jp () j o
     | _=>pure (.done (some (yb a b o i j),i,j,o,mg,ac,bc))
   if k >0 then
    have o:=o++(a.extract at_ i).reverse
    have i:=at_
    if(i==0)=true then pure (.done (some (yb a b o i j),i,j,o,mg,ac,bc)) else jp () i o
   else jp () i o
  | _=>pure (.done (some (yb a b o i j),i,j,o,mg,ac,bc)))=Pe a b mg ac bc i j o:=by
 refine rR λ_=>rR λx=>rR λr=> ?_
 cases r with
 | none=>rfl
 | some k=>
  refine AY (AY rfl ?_) ?_;all_goals
   refine rR λy=>AY rfl (rR λz=>rR λr=> ?_)
   cases r with
   | none=>rfl
   | some k=>rfl
theorem AL:RW a b=(do
  liftM (rule "list.sort.merge-hi")
  let x <- elem' a (a.size - 1)
  if(a.size - 1==0)=true then pure (yb a b #[x] (a.size - 1) b.size)
  else if(b.size==1)=true then pure (JW a b #[x] (a.size - 1) b.size)
  else do
   let g <- get
   let c <- forIn [:a.size+b.size] ((none,a.size - 1,b.size, #[x],gallopOf g):S5) λ_ c=>GS a b c
   match c.1 with
   | some r=>pure r
   | none=>unsupported "internal:list.sort.merge-bound"):=by
 rw[LB]
 refine rR λ_=> ?_
 refine rR λx=> ?_
 refine AY rfl (AY rfl (rR λg=>Bs (Bb λ_ c=> ?_) λc=> ?_))
 ·refine Bs (Bb λ_ d=>rfl) λd=> ?_;obtain⟨r,d⟩:=d;cases r with
  | some r=>rfl
  | none=>
   refine rR λ_=>Bs (Bb λ_ e=> ?_) λe=> ?_
   ·refine AY ?_ ?_
    ·exact u9 a b _ _ _ _ _ _
    ·exact u9 a b _ _ _ _ _ _
   ·obtain⟨r,e⟩:=e;cases r<;>rfl
 ·obtain⟨r,c⟩:=c;cases r<;>rfl
end
theorem gj {xs:Array Keyed}{i:Nat}(h:i<xs.size):xs.toList[i]? =some (cG xs i):=by rw[<- Fv h];simp
theorem drop_cons {xs:Array Keyed}{i:Nat}(h:i<xs.size):xs.toList.drop i=cG xs i::xs.toList.drop (i+1):=by
 have h':i<xs.toList.length:=by simpa using h
 have e:=gj h;rw[ae h'] at e;rw[List.drop_eq_getElem_cons h',br e]
theorem take1 {xs:Array Keyed}{i:Nat}(h:i<xs.size):(xs.toList.drop i).take 1= [cG xs i]:=by rw[drop_cons h];rfl
theorem ip {xs:Array Keyed}{i:Nat}{y:Keyed}(h:y∈xs.toList.drop i): ∃k,i<=k /\ k<xs.size /\ y=cG xs k:=by
 obtain⟨n,hn⟩:=bA.mp h;rw[List.getElem?_drop] at hn;have hl:=(ag.mp hn).1;have pK:i+n<xs.size:=by simpa using hl
 rw[gj pK] at hn;exact⟨i+n,by lia,pK,(br hn).symm⟩
theorem sD {xs:Array Keyed}{i k:Nat}{y:Keyed}(h:y∈(xs.toList.drop i).take k): ∃n,i<=n /\ n<i+k /\ n<xs.size /\ y=cG xs n:=by
 obtain⟨n,hn⟩:=bA.mp h;rw[List.getElem?_take] at hn;split at hn
 ·rename_i hk;rw[List.getElem?_drop] at hn;have hl:=(ag.mp hn).1;have pK:i+n<xs.size:=by simpa using hl
  rw[gj pK] at hn;exact⟨i+n,by lia,by lia,pK,(br hn).symm⟩
 ·cases hn
theorem km {less:Keyed ->Keyed ->Bool}(O:Ord less){xs:Array Keyed}(h:xs.toList.Pairwise (LE less)){i j:Nat}(fY:i<=j)(hj:j<xs.size):LE less (cG xs i) (cG xs j):=by
 by_cases c:i=j
 ·subst c;exact O.refl _
 ·rw[bj] at h;have ko:i<xs.toList.length:=by simp;lia
  have gX:j<xs.toList.length:=by simpa using hj
  have:=h i j ko gX (by lia);have e1:=gj (xs:=xs) (i:=i) (by lia);have e2:=gj hj;rw[ae ko] at e1;rw[ae gX] at e2;rwa [br e1,br e2] at this
theorem sH {less:Keyed ->Keyed ->Bool}(O:Ord less){xs:Array Keyed}(h:xs.toList.Pairwise (LE less)){i n:Nat}(hn:i+n<=xs.size):Sg less xs i (i+n):=λx y _ X1 hy=>km O h X1 (by lia)
theorem vH (xs:Array Keyed)(i k:Nat):(xs.extract i (i+k)).toList=(xs.toList.drop i).take k:=by rw[Array.toList_extract,List.extract_eq_take_drop];congr 1;lia
theorem oG (xs:Array Keyed)(i:Nat):(xs.extract i xs.size).toList=xs.toList.drop i:=by rw[Array.toList_extract,List.extract_eq_take_drop];exact List.take_of_length_le (by simp)
section
variable {prog:Program}{w:World}{A:Around}{E:Value ->Shared ->Prop}{s:Shared}{kd:SortKind}{a₀:Array Keyed}{less:Keyed ->Keyed ->Bool}
structure r8 (less:Keyed ->Keyed ->Bool)(a₀ a b:Array Keyed):Prop where
 sa:a.toList.Pairwise (LE less)
 sb:b.toList.Pairwise (LE less)
 ma: ∀i,i<a.size ->cG a i∈a₀.toList
 mb: ∀i,i<b.size ->cG b i∈a₀.toList
 na:1<=a.size
 nb:1<=b.size
 h0:less (cG b 0) (cG a 0)=true
 hl: ∀j,j<b.size ->less (cG b j) (cG a (a.size - 1))=true
def Res (less:Keyed ->Keyed ->Bool)(a b r:Array Keyed):Prop:=r.toList.Perm (a.toList++b.toList) /\ r.toList.Pairwise (LE less)
structure JL (less:Keyed ->Keyed ->Bool)(a b o:Array Keyed)(i j:Nat):Prop where
 mi:MI less a.toList b.toList o.toList i j
 hi:i+1<a.size
 hj:j<b.size
variable {a b:Array Keyed}
theorem sP (T:r8 less a₀ a b){o:Array Keyed}{i j:Nat}(h:MI less a.toList b.toList o.toList i j)(hj:b.size<=j \/ a.size<=i):Res less a b (ya a b o i j):=by
 unfold Res ya;rw[cg,cg,oG,oG];have:=h.swap.fin T.sb T.sa λx hx y hy=>by
  rcases hj with hj | hj
  ·obtain⟨k,h1,h2,_⟩:=ip hy;lia
  ·obtain⟨k,h1,h2,_⟩:=ip hx;lia
 exact⟨this.1.trans List.perm_append_comm,this.2⟩
theorem sO (O:Ord less)(T:r8 less a₀ a b){o:Array Keyed}{i j:Nat}(h:MI less a.toList b.toList o.toList i j)(hi:i+1=a.size):Res less a b (Jq a b o i j):=by unfold Res Jq;rw[cg,cg,oG,oG];refine h.fin T.sa T.sb λx hx y hy=> ?_;obtain⟨k,h1,h2,rfl⟩:=ip hx;obtain⟨k',Mt,F1,rfl⟩:=ip hy;rw[show k'=a.size - 1 by lia];exact O.le (T.hl k h2)
theorem xl (O:Ord less)(T:r8 less a₀ a b){o:Array Keyed}{i j:Nat}(h:MI less a.toList b.toList o.toList i j)(hj:j<b.size)(hc:i<a.size ->LE less (cG b j) (cG a i)):MI less a.toList b.toList (o.push (cG b j)).toList i (j+1):=by have:=(h.swap.HK T.sb 1 λx hx y hy=>by rw[take1 hj] at hx;rw[ah.mp hx];obtain⟨k,h1,h2,rfl⟩:=ip hy;exact O.trans _ _ _ (hc (by lia)) (km O T.sa h1 h2)).swap;rw[take1 hj] at this;rwa [Array.toList_push]
theorem Dj (O:Ord less)(T:r8 less a₀ a b){o:Array Keyed}{i j:Nat}(h:MI less a.toList b.toList o.toList i j)(hi:i<a.size)(hc:j<b.size ->LE less (cG a i) (cG b j)):MI less a.toList b.toList (o.push (cG a i)).toList (i+1) j:=by
 have:=h.HK T.sa 1 λx hx y hy=>by rw[take1 hi] at hx;rw[ah.mp hx];obtain⟨k,h1,h2,rfl⟩:=ip hy;exact O.trans _ _ _ (hc (by lia)) (km O T.sb h1 h2)
 rw[take1 hi] at this;rwa [Array.toList_push]
def MX (less:Keyed ->Keyed ->Bool)(a b:Array Keyed)(st:SortSt)(N:Nat)(r:ForInStep R7)(bB:SortSt):Prop:=(∃g,bB=cy st g) /\ ((∃x c,r= .done (some x,c) /\ Res less a b x) \/ (∃o i j c,(r= .done (none,o,i,j,c) \/ r= .yield (none,o,i,j,c)) /\ JL less a b o i j /\ N<=i+j))
theorem wp_p3L (O:Ord less)(T:r8 less a₀ a b){st bB:SortSt}{mg ac bc N:Nat}{o:Array Keyed}{i j:Nat}(hg: ∃g,bB=cy st g)(J:JL less a b o i j)(hc:LE less (cG a i) (cG b j))(hN:N<=i+j):wpS (model prog w) A E s (RF a b mg ac bc o i j) (MX less a b st N) bB:=by
 unfold RF;have hi:=J.hi;refine az (wp_elem (by lia) ?_);have m:=Dj O T J.mi (by lia) λ_=>hc;by_cases c:i+1+1=a.size
 ·rw[ak (by simpa using c)];exact aF ⟨hg, .inl ⟨_,_,rfl,sO O T m c⟩⟩
 ·rw[aj (by simpa using c)];have J':JL less a b (o.push (cG a i)) (i+1) j:=⟨m,by lia,J.hj⟩
  split
  ·exact aF ⟨hg, .inr ⟨_,_,_,_, .inl rfl,J',by lia⟩⟩
  ·exact aF ⟨hg, .inr ⟨_,_,_,_, .inr rfl,J',by lia⟩⟩
theorem wp_p2L (O:Ord less)(L:gY prog w A E s kd a₀ less)(T:r8 less a₀ a b){st bB:SortSt}{mg ac bc N:Nat}{o:Array Keyed}{i j:Nat}(hk:kindOf bB=kd)(hg: ∃g,bB=cy st g)(J:JL less a b o i j)(hc:less (cG b j) (cG a i)=true)(hN:N<=i+j):wpS (model prog w) A E s (RH a b mg ac bc o i j) (MX less a b st N) bB:=by
 unfold RH;have hi:=J.hi;have hj:=J.hj;refine az (wp_elem hj ?_);have m:=xl O T J.mi hj λ_=>O.le hc;by_cases c:j+1=b.size
 ·rw[ak (by simpa using c)];exact aF ⟨hg, .inl ⟨_,_,rfl,sP T m (.inl (by lia))⟩⟩
 ·rw [aj (by simpa using c)];refine az (wp_elem (by lia) ?_);refine az (wp_galL O L hk (T.ma i (by lia)) (λk hk=>⟨by lia,T.mb _ (by lia)⟩) (by lia) (sH O T.sb (by lia)) λk h1 h2 h3=> ?_);dsimp only;by_cases ck:k >0
  ·rw[ak ck];have m2:MI less a.toList b.toList (o.push (cG b j)++b.extract (j+1) (j+1+k)).toList i (j+1+k):=by rw[cg,vH];refine(m.swap.HK T.sb k λx hx y hy=> ?_).swap;obtain⟨n,n1,n2,n3,rfl⟩:=sD hx;obtain⟨k',k1,k2,rfl⟩:=ip hy;have:=h2 (n - (j+1)) (by lia);rw[show j+1+(n - (j+1))=n by lia] at this;exact O.trans _ _ _ (O.le this) (km O T.sa k1 k2)
   by_cases c2:j+1+k=b.size
   ·rw[ak (by simpa using c2)];exact aF ⟨hg, .inl ⟨_,_,rfl,sP T m2 (.inl (by lia))⟩⟩
   ·rw[aj (by simpa using c2)];exact wp_p3L O T hg ⟨m2,hi,by lia⟩ (h3 k (aq _) (by lia)) (by lia)
  ·rw[aj ck];have:k=0:=by lia
   subst this;exact wp_p3L O T hg ⟨m,hi,by lia⟩ (h3 0 (aq _) (by lia)) (by lia)
theorem wp_p1L (O:Ord less)(L:gY prog w A E s kd a₀ less)(T:r8 less a₀ a b){st bB:SortSt}{mg ac bc N:Nat}{o:Array Keyed}{i j:Nat}(hk:kindOf st=kd)(hg: ∃g,bB=cy st g)(J:JL less a b o i j)(hN:N<=i+j):wpS (model prog w) A E s (Pd a b mg ac bc o i j) (MX less a b st N) bB:=by
 unfold Pd;have hi:=J.hi;have hj:=J.hj;refine az (wpS_modify ?_);have ER: ∃g,cy bB mg=cy st g:=by obtain⟨g,rfl⟩:=hg;exact⟨mg,rfl⟩
 have uv:kindOf (cy bB mg)=kd:=by obtain⟨g,rfl⟩:=hg;exact hk
 refine az (wp_elem hj ?_);refine az (wp_galR O L uv (T.mb j hj) (λk hk=>⟨by lia,T.ma _ (by lia)⟩) (by lia) (sH O T.sa (by lia)) λk h1 h2 h3=> ?_);dsimp only;have Sh:i+k<a.size:=by
  by_cases c:i+k<a.size
  ·exact c
  ·have:=h2 (a.size - 1 - i) (by lia);rw[show i+(a.size - 1 - i)=a.size - 1 by lia] at this;unfold LE at this;rw[T.hl j hj] at this;cases this
 have JG:=h3 k (aq _) (by lia);by_cases ck:k >0
 ·rw[ak ck];have m2:MI less a.toList b.toList (o++a.extract i (i+k)).toList (i+k) j:=by rw[cg,vH];refine J.mi.HK T.sa k λx hx y hy=> ?_;obtain⟨n,n1,n2,n3,rfl⟩:=sD hx;obtain⟨k',k1,k2,rfl⟩:=ip hy;have:=h2 (n - i) (by lia);rw[show i+(n - i)=n by lia] at this;exact O.trans _ _ _ this (km O T.sb k1 k2)
  by_cases c2:i+k+1=a.size
  ·rw[ak (by simpa using c2)];exact aF ⟨ER, .inl ⟨_,_,rfl,sO O T m2 c2⟩⟩
  ·rw[aj (by simpa using c2),aj (by simp;lia)];exact wp_p2L O L T uv ER ⟨m2,by lia,hj⟩ JG (by lia)
 ·rw[aj ck];have:k=0:=by lia
  subst this;exact wp_p2L O L T uv ER J JG hN
theorem wp_one1 (O:Ord less)(L:gY prog w A E s kd a₀ less)(T:r8 less a₀ a b){bB:SortSt}{mg ac bc:Nat}{o:Array Keyed}{i j:Nat}{Q:ForInStep R6 ->SortSt ->Prop}(hk:kindOf bB=kd)(J:JL less a b o i j) (h1: ∀x c,Res less a b x ->Q (.done (some x,c)) bB) (h2: ∀o i' j' c,JL less a b o i' j' ->i'+j'=i+j+1 ->Q (.done (none,o,i',j',c)) bB /\ Q (.yield (none,o,i',j',c)) bB): wpS (model prog w) A E s (Ll a b mg o i j ac bc) Q bB:=by
 unfold Ll;have hi:=J.hi;have hj:=J.hj;refine az (wp_elem hj (az (wp_elem (by lia) (az (L _ _ _ _ (T.mb j hj) (T.ma i (by lia)) hk ?_)))));dsimp only;cases e:less (cG b j) (cG a i) with
 | true=>
  simp only[bN];refine az (wp_elem hj ?_);have m:=xl O T J.mi hj λ_=>O.le e;by_cases c:j+1=b.size
  ·rw[ak (by simpa using c)];exact aF (h1 _ _ (sP T m (.inl (by lia))))
  ·rw[aj (by simpa using c)];have:=h2 _ i (j+1) (0,bc+1) ⟨m,hi,by lia⟩ (by lia);split
   ·exact aF this.1
   ·exact aF this.2
 | false=>
  simp only[ay,bf];refine az (wp_elem (by lia) ?_);have m:=Dj O T J.mi (by lia) λ_=>e;by_cases c:i+1+1=a.size
  ·rw[ak (by simpa using c)];exact aF (h1 _ _ (sO O T m c))
  ·rw[aj (by simpa using c)];have:=h2 _ (i+1) j (ac+1,0) ⟨m,by lia,hj⟩ (by lia);split
   ·exact aF this.1
   ·exact aF this.2
theorem wp_mLo (O:Ord less)(L:gY prog w A E s kd a₀ less)(T:r8 less a₀ a b){st:SortSt}{Q:Array Keyed ->SortSt ->Prop}(hk:kindOf st=kd)(h: ∀r g,Res less a b r ->Q r (cy st g)):wpS (model prog w) A E s (RV a b) Q st:=by
 rw[AK];have na:=T.na;have nb:=T.nb;refine az (wpS_lift (wpAny_rule ⟨rfl,?_⟩));refine az (wp_elem (by lia) ?_);have h': ∀r,Res less a b r ->Q r st:=λr hr=>h r (gallopOf st) hr;have m:MI less a.toList b.toList (#[cG b 0]:Array Keyed).toList 0 1:=by
  have m0:MI less a.toList b.toList (#[]:Array Keyed).toList 0 0:=⟨by simp,by simp,by simp,by simp⟩
  exact xl O T m0 (by lia) λ_=>O.le T.h0
 by_cases c:1=b.size
 ·rw[ak (by simpa using c)];exact aF (h' _ (sP T m (.inl (by lia))))
 rw[aj (by simpa using c)];by_cases c2:0+1=a.size
 ·rw[ak (by simpa using c2)];exact aF (h' _ (sO O T m c2))
 rw[aj (by simpa using c2)];refine az (wpS_get ?_);refine az (wpS_mono (cB (I:=λn c bB=>(∃g,bB=cy st g) /\ ∃o i j mg,c=(none,o,i,j,mg) /\ JL less a b o i j /\ n+1<=i+j) (Q:=λc bB=>(∃g,bB=cy st g) /\ ∃x d,c=(some x,d) /\ Res less a b x) ?_ ?_ ⟨⟨gallopOf st,rfl⟩,_,0,1,_,rfl,⟨m,by lia,by lia⟩,by lia⟩) ?_)
 ·rintro n c bB _ hn ⟨hg,o,i,j,mg,rfl,J,hN⟩;unfold Pf;dsimp only;have uv:kindOf bB=kd:=by obtain⟨g,rfl⟩:=hg;exact hk
  refine az (wpS_mono (cB (I:=λx c lu=>lu=bB /\ ∃o' i' j' d,c=(none,o',i',j',d) /\ JL less a b o' i' j' /\ i'+j'=i+j+x) (Q:=λc lu=>lu=bB /\ ((∃x d,c=(some x,d) /\ Res less a b x) \/ ∃o' i' j' d,c=(none,o',i',j',d) /\ JL less a b o' i' j' /\ i+j+1<=i'+j')) ?_ ?_ ⟨rfl,o,i,j,_,rfl,J,rfl⟩) ?_)
  ·rintro x c lu _ hx ⟨rfl,o',i',j',⟨ac,bc⟩,rfl,J',Mo⟩;dsimp only;refine wp_one1 O L T uv J' (λx c hr=>⟨rfl, .inl ⟨x,c,rfl,hr⟩⟩) λo2 i2 j2 c J2 h2=>⟨⟨rfl, .inr ⟨o2,i2,j2,c,rfl,J2,by lia⟩⟩,⟨rfl,o2,i2,j2,c,rfl,J2,by lia⟩⟩
  ·rintro c lu ⟨rfl,o',i',j',d,rfl,J',Mo⟩;exact⟨rfl, .inr ⟨o',i',j',d,rfl,J',by lia⟩⟩
  ·rintro c lu ⟨rfl,⟨x,d,rfl,hr⟩ | ⟨o',i',j',⟨ac,bc⟩,rfl,J',Mo⟩⟩
   ·exact aF ⟨hg,x,_,rfl,hr⟩
   ·dsimp only;refine az (wpS_lift (wpAny_rule ⟨rfl,?_⟩));refine az (wpS_mono (cB (I:=λx c nB=>(∃g,nB=cy st g) /\ ∃o' i' j' d,c=(none,o',i',j',d) /\ JL less a b o' i' j' /\ i+j+1<=i'+j') (Q:=λc nB=>(∃g,nB=cy st g) /\ ((∃x d,c=(some x,d) /\ Res less a b x) \/ ∃o' i' j' d,c=(none,o',i',j',d) /\ JL less a b o' i' j' /\ i+j+1<=i'+j')) ?_ ?_ ⟨hg,o',i',j',_,rfl,J',Mo⟩) ?_)
    ·rintro x c nB _ hx ⟨A6,o3,i3,j3,⟨TZ,WC,Wz⟩,rfl,J3,JS⟩;dsimp only;split;all_goals
      refine wpS_mono (wp_p1L O L T hk A6 J3 JS) ?_
      rintro r fq ⟨Mb,⟨x,c,rfl,hr⟩ | ⟨o,i,j,c,rfl | rfl,J4,h4⟩⟩
      ·exact⟨Mb, .inl ⟨x,c,rfl,hr⟩⟩
      ·exact⟨Mb, .inr ⟨o,i,j,c,rfl,J4,h4⟩⟩
      ·exact⟨Mb,o,i,j,c,rfl,J4,h4⟩
    ·rintro c nB ⟨A6,o3,i3,j3,d,rfl,J3,JS⟩;exact⟨A6, .inr ⟨o3,i3,j3,d,rfl,J3,JS⟩⟩
    ·rintro c nB ⟨A6,⟨x,d,rfl,hr⟩ | ⟨o3,i3,j3,⟨TZ,WC,Wz⟩,rfl,J3,JS⟩⟩
     ·exact aF ⟨A6,x,_,rfl,hr⟩
     ·dsimp only;refine az (wpS_modify (aF ⟨?_,o3,i3,j3,_,rfl,J3,by lia⟩));obtain⟨g,rfl⟩:=A6;exact⟨_,rfl⟩
 ·rintro c bB ⟨hg,o,i,j,mg,rfl,J,hN⟩;have:=J.hi;have:=J.hj;lia
 ·rintro c bB ⟨⟨g,rfl⟩,x,d,rfl,hr⟩;exact aF (h x g hr)
end
theorem qE {xs:Array Keyed}{i:Nat}{y:Keyed}(h:y∈xs.toList.take i): ∃n,n<i /\ n<xs.size /\ y=cG xs n:=by
 obtain⟨n,hn⟩:=bA.mp h;rw[List.getElem?_take] at hn;split at hn
 ·have hl:=(ag.mp hn).1;have pK:n<xs.size:=by simpa using hl
  rw[gj pK] at hn;exact⟨n,by lia,pK,(br hn).symm⟩
 ·cases hn
theorem yz {xs:Array Keyed}{i k:Nat}{y:Keyed}(h:y∈(xs.toList.take i).drop k): ∃n,k<=n /\ n<i /\ n<xs.size /\ y=cG xs n:=by rw[List.drop_take] at h;obtain⟨n,h1,h2,h3,e⟩:=sD h;exact⟨n,h1,by lia,h3,e⟩
theorem RA {xs:Array Keyed}{i:Nat}(h0:1<=i)(h:i<=xs.size):(xs.toList.take i).drop (i - 1)= [cG xs (i - 1)]:=by rw[List.drop_take,show i - (i - 1)=1 by lia,take1 (by lia)]
theorem kS (xs:Array Keyed)(k i:Nat):(xs.extract k i).toList=(xs.toList.take i).drop k:=by rw[Array.toList_extract,List.extract_eq_take_drop,List.drop_take]
theorem zL (xs:Array Keyed)(i:Nat):(xs.extract 0 i).toList=xs.toList.take i:=by rw[kS,List.drop_zero]
section
variable {prog:Program}{w:World}{A:Around}{E:Value ->Shared ->Prop}{s:Shared}{kd:SortKind}{a₀:Array Keyed}{less:Keyed ->Keyed ->Bool}
structure JH (less:Keyed ->Keyed ->Bool)(a b o:Array Keyed)(i j:Nat):Prop where
 mi:MH less a.toList b.toList o.toList.reverse i j
 hi:1<=i
 hj:2<=j
 ia:i<=a.size
 jb:j<=b.size
variable {a b:Array Keyed}
theorem lG (T:r8 less a₀ a b){o:Array Keyed}{i j:Nat}(h:MH less a.toList b.toList o.toList.reverse i j)(hj:i=0 \/ j=0):Res less a b (yb a b o i j):=by
 unfold Res yb;rw[cg,cg,zL,zL,Array.toList_reverse];refine h.fin T.sa T.sb λx hx y hy=> ?_;rcases hj with hj | hj
 ·subst hj;simp at hx
 ·subst hj;simp at hy
theorem ox (O:Ord less)(T:r8 less a₀ a b){o:Array Keyed}{i j:Nat}(h:MH less a.toList b.toList o.toList.reverse i j)(hj:j=1):Res less a b (JW a b o i j):=by
 unfold Res JW;rw[cg,cg,zL,zL,Array.toList_reverse];have:=h.swap.fin T.sb T.sa λx hx y hy=>by obtain⟨n,n1,n2,rfl⟩:=qE hx;obtain⟨k,k1,k2,rfl⟩:=qE hy;rw[show n=0 by lia];exact O.trans _ _ _ (O.le T.h0) (km O T.sa (cU _) k2)
 exact⟨this.1.trans List.perm_append_comm,this.2⟩
theorem sT (O:Ord less)(T:r8 less a₀ a b){o:Array Keyed}{i j:Nat}(h:MH less a.toList b.toList o.toList.reverse i j)(h1:1<=i)(hi:i<=a.size)(hj:j<=b.size)(hc:1<=j ->LE less (cG b (j - 1)) (cG a (i - 1))):MH less a.toList b.toList (o.push (cG a (i - 1))).toList.reverse (i - 1) j:=by
 have:=h.HK T.sa (k:=i - 1) (by lia) λx hx y hy=>by rw[RA h1 hi] at hx;rw[ah.mp hx];obtain⟨k,k1,k2,rfl⟩:=qE hy;exact O.trans _ _ _ (km O T.sb (show k<=j - 1 by lia) (by lia)) (hc (by lia))
 rw[RA h1 hi] at this;rw[Array.toList_push,List.reverse_append];exact this
theorem yX (O:Ord less)(T:r8 less a₀ a b){o:Array Keyed}{i j:Nat}(h:MH less a.toList b.toList o.toList.reverse i j)(h1:1<=j)(hi:i<=a.size)(hj:j<=b.size)(hc:1<=i ->LE less (cG a (i - 1)) (cG b (j - 1))):MH less a.toList b.toList (o.push (cG b (j - 1))).toList.reverse i (j - 1):=by have:=(h.swap.HK T.sb (k:=j - 1) (by lia) λx hx y hy=>by rw[RA h1 hj] at hx;rw[ah.mp hx];obtain⟨k,k1,k2,rfl⟩:=qE hy;exact O.trans _ _ _ (km O T.sa (show k<=i - 1 by lia) (by lia)) (hc (by lia))).swap;rw[RA h1 hj] at this;rw[Array.toList_push,List.reverse_append];exact this
theorem yT (o x:Array Keyed):(o++x.reverse).toList.reverse=x.toList++o.toList.reverse:=by rw[cg,Array.toList_reverse,List.reverse_append,List.reverse_reverse]
def MW (less:Keyed ->Keyed ->Bool)(a b:Array Keyed)(st:SortSt)(N:Nat)(r:ForInStep S7)(bB:SortSt):Prop:=(∃g,bB=cy st g) /\ ((∃x c,r= .done (some x,c) /\ Res less a b x) \/ (∃i j o c,(r= .done (none,i,j,o,c) \/ r= .yield (none,i,j,o,c)) /\ JH less a b o i j /\ i+j<=N))
theorem wp_p3H (O:Ord less)(T:r8 less a₀ a b){st bB:SortSt}{mg ac bc N:Nat}{o:Array Keyed}{i j:Nat}(hg: ∃g,bB=cy st g)(J:JH less a b o i j)(hc:LE less (cG b (j - 1)) (cG a (i - 1)))(hN:i+j<=N):wpS (model prog w) A E s (RG a b mg ac bc i j o) (MW less a b st N) bB:=by
 unfold RG;have hi:=J.hi;have ia:=J.ia;refine az (wp_elem (by lia) ?_);have m:=sT O T J.mi J.hi J.ia J.jb λ_=>hc;by_cases c:i - 1=0
 ·rw[ak (by simpa using c)];exact aF ⟨hg, .inl ⟨_,_,rfl,lG T m (.inl c)⟩⟩
 ·rw[aj (by simpa using c)];have J':JH less a b (o.push (cG a (i - 1))) (i - 1) j:=⟨m,by lia,J.hj,by lia,J.jb⟩
  split
  ·exact aF ⟨hg, .inr ⟨_,_,_,_, .inl rfl,J',by lia⟩⟩
  ·exact aF ⟨hg, .inr ⟨_,_,_,_, .inr rfl,J',by lia⟩⟩
theorem wp_p2H (O:Ord less)(L:gY prog w A E s kd a₀ less)(T:r8 less a₀ a b){st bB:SortSt}{mg ac bc N:Nat}{o:Array Keyed}{i j:Nat}(hk:kindOf bB=kd)(hg: ∃g,bB=cy st g)(J:JH less a b o i j)(hc:LE less (cG a (i - 1)) (cG b (j - 1)))(hN:i+j<=N):wpS (model prog w) A E s (RI a b mg ac bc i j o) (MW less a b st N) bB:=by
 unfold RI;have hi:=J.hi;have hj:=J.hj;have ia:=J.ia;have jb:=J.jb;refine az (wp_elem (by lia) ?_);have m:=yX O T J.mi (by lia) ia jb λ_=>hc;by_cases c:j - 1=1
 ·rw[ak (by simpa using c)];exact aF ⟨hg, .inl ⟨_,_,rfl,ox O T m c⟩⟩
 ·rw [aj (by simpa using c)];refine az (wp_elem (by lia) ?_);have sg:=sH O T.sb (i:=0) (n:=j - 1) (by lia);refine az (wp_galL O L hk (T.ma (i - 1) (by lia)) (λk hk=>⟨by lia,T.mb _ (by lia)⟩) (by lia) sg λk h1 h2 h3=> ?_);dsimp only;simp only[Nat.zero_add] at h2 h3;by_cases ck:j - 1 - k >0
  ·rw[ak ck];have m2:MH less a.toList b.toList (o.push (cG b (j - 1))++(b.extract k (j - 1)).reverse).toList.reverse i k:=by rw[yT,kS];refine(m.swap.HK T.sb (by lia) λx hx y hy=> ?_).swap;obtain⟨n,n1,n2,n3,rfl⟩:=yz hx;obtain⟨k',k1,k2,rfl⟩:=qE hy;exact O.trans _ _ _ (km O T.sa (show k'<=i - 1 by lia) (by lia)) (h3 n n1 n2)
   by_cases c2:k=1
   ·rw[ak (by simpa using c2)];exact aF ⟨hg, .inl ⟨_,_,rfl,ox O T m2 c2⟩⟩
   rw[aj (by simpa using c2)];by_cases c3:k=0
   ·rw[ak (by simpa using c3)];exact aF ⟨hg, .inl ⟨_,_,rfl,lG T m2 (.inr c3)⟩⟩
   ·rw[aj (by simpa using c3)];exact wp_p3H O T hg ⟨m2,hi,by lia,ia,by lia⟩ (O.le (h2 (k - 1) (by lia))) (by lia)
  ·rw[aj ck];exact wp_p3H O T hg ⟨m,hi,by lia,ia,by lia⟩ (O.le (h2 (j - 1 - 1) (by lia))) (by lia)
theorem wp_p1H (O:Ord less)(L:gY prog w A E s kd a₀ less)(T:r8 less a₀ a b){st bB:SortSt}{mg ac bc N:Nat}{o:Array Keyed}{i j:Nat}(hk:kindOf st=kd)(hg: ∃g,bB=cy st g)(J:JH less a b o i j)(hN:i+j<=N):wpS (model prog w) A E s (Pe a b mg ac bc i j o) (MW less a b st N) bB:=by
 unfold Pe;have hi:=J.hi;have hj:=J.hj;have ia:=J.ia;have jb:=J.jb;refine az (wpS_modify ?_);have ER: ∃g,cy bB mg=cy st g:=by obtain⟨g,rfl⟩:=hg;exact⟨mg,rfl⟩
 have uv:kindOf (cy bB mg)=kd:=by obtain⟨g,rfl⟩:=hg;exact hk
 refine az (wp_elem (by lia) ?_);have sg:=sH O T.sa (i:=0) (n:=i) (by lia);refine az (wp_galR O L uv (T.mb (j - 1) (by lia)) (λk hk=>⟨by lia,T.ma _ (by lia)⟩) (by lia) sg λk h1 h2 h3=> ?_);dsimp only;simp only[Nat.zero_add] at h2 h3;by_cases ck:i - k >0
 ·rw[ak ck];have m2:MH less a.toList b.toList (o++(a.extract k i).reverse).toList.reverse k j:=by rw[yT,kS];refine J.mi.HK T.sa (by lia) λx hx y hy=> ?_;obtain⟨n,n1,n2,n3,rfl⟩:=yz hx;obtain⟨k',k1,k2,rfl⟩:=qE hy;exact O.trans _ _ _ (km O T.sb (show k'<=j - 1 by lia) (by lia)) (O.le (h3 n n1 n2))
  by_cases c2:k=0
  ·rw[ak (by simpa using c2)];exact aF ⟨ER, .inl ⟨_,_,rfl,lG T m2 (.inl c2)⟩⟩
  ·rw[aj (by simpa using c2)];exact wp_p2H O L T uv ER ⟨m2,by lia,hj,by lia,jb⟩ (h2 (k - 1) (by lia)) (by lia)
 ·rw[aj ck];exact wp_p2H O L T uv ER J (h2 (i - 1) (by lia)) hN
theorem wp_two1 (O:Ord less)(L:gY prog w A E s kd a₀ less)(T:r8 less a₀ a b){bB:SortSt}{mg ac bc:Nat}{o:Array Keyed}{i j:Nat}{Q:ForInStep (Option (Array Keyed)×Nat×Nat×Array Keyed×Nat×Nat) ->SortSt ->Prop}(hk:kindOf bB=kd)(J:JH less a b o i j) (h1: ∀x c,Res less a b x ->Q (.done (some x,c)) bB) (h2: ∀i' j' o c,JH less a b o i' j' ->i'+j'+1=i+j ->Q (.done (none,i',j',o,c)) bB /\ Q (.yield (none,i',j',o,c)) bB): wpS (model prog w) A E s (Kw a b mg i j o ac bc) Q bB:=by
 unfold Kw;have hi:=J.hi;have hj:=J.hj;have ia:=J.ia;have jb:=J.jb;refine az (wp_elem (by lia) (az (wp_elem (by lia) (az (L _ _ _ _ (T.mb (j - 1) (by lia)) (T.ma (i - 1) (by lia)) hk ?_)))));dsimp only;cases e:less (cG b (j - 1)) (cG a (i - 1)) with
 | true=>
  simp only[bN];refine az (wp_elem (by lia) ?_);have m:=sT O T J.mi hi ia jb λ_=>O.le e;by_cases c:i - 1=0
  ·rw[ak (by simpa using c)];exact aF (h1 _ _ (lG T m (.inl c)))
  ·rw[aj (by simpa using c)];have:=h2 (i - 1) j _ (ac+1,0) ⟨m,by lia,hj,by lia,jb⟩ (by lia);split
   ·exact aF this.1
   ·exact aF this.2
 | false=>
  simp only[ay,bf];refine az (wp_elem (by lia) ?_);have m:=yX O T J.mi (by lia) ia jb λ_=>e;by_cases c:j - 1=1
  ·rw[ak (by simpa using c)];exact aF (h1 _ _ (ox O T m c))
  ·rw[aj (by simpa using c)];have:=h2 i (j - 1) _ (0,bc+1) ⟨m,hi,by lia,ia,by lia⟩ (by lia);split
   ·exact aF this.1
   ·exact aF this.2
theorem wp_mHi (O:Ord less)(L:gY prog w A E s kd a₀ less)(T:r8 less a₀ a b){st:SortSt}{Q:Array Keyed ->SortSt ->Prop}(hk:kindOf st=kd)(h: ∀r g,Res less a b r ->Q r (cy st g)):wpS (model prog w) A E s (RW a b) Q st:=by
 rw[AL];have na:=T.na;have nb:=T.nb;refine az (wpS_lift (wpAny_rule ⟨rfl,?_⟩));refine az (wp_elem (by lia) ?_);have h': ∀r,Res less a b r ->Q r st:=λr hr=>h r (gallopOf st) hr;have m:MH less a.toList b.toList (#[cG a (a.size - 1)]:Array Keyed).toList.reverse (a.size - 1) b.size:=by
  have m0:MH less a.toList b.toList (#[]:Array Keyed).toList.reverse a.size b.size:=⟨by simp,by simp,by simp,by simp⟩
  exact sT O T m0 (by lia) (aq _) (aq _) λ_=>O.le (T.hl _ (by lia))
 by_cases c:a.size - 1=0
 ·rw[ak (by simpa using c)];exact aF (h' _ (lG T m (.inl c)))
 rw[aj (by simpa using c)];by_cases c2:b.size=1
 ·rw[ak (by simpa using c2)];exact aF (h' _ (ox O T m c2))
 rw[aj (by simpa using c2)];refine az (wpS_get ?_);refine az (wpS_mono (cB (I:=λn c bB=>(∃g,bB=cy st g) /\ ∃i j o mg,c=(none,i,j,o,mg) /\ JH less a b o i j /\ i+j+n<a.size+b.size) (Q:=λc bB=>(∃g,bB=cy st g) /\ ∃x d,c=(some x,d) /\ Res less a b x) ?_ ?_ ⟨⟨gallopOf st,rfl⟩,_,_,_,_,rfl,⟨m,by lia,by lia,by lia,by lia⟩,by lia⟩) ?_)
 ·rintro n c bB _ hn ⟨hg,i,j,o,mg,rfl,J,hN⟩;unfold GS;dsimp only;have uv:kindOf bB=kd:=by obtain⟨g,rfl⟩:=hg;exact hk
  refine az (wpS_mono (cB (I:=λx c lu=>lu=bB /\ ∃i' j' o' d,c=(none,i',j',o',d) /\ JH less a b o' i' j' /\ i'+j'+x=i+j) (Q:=λc lu=>lu=bB /\ ((∃x d,c=(some x,d) /\ Res less a b x) \/ ∃i' j' o' d,c=(none,i',j',o',d) /\ JH less a b o' i' j' /\ i'+j'+1<=i+j)) ?_ ?_ ⟨rfl,i,j,o,_,rfl,J,rfl⟩) ?_)
  ·rintro x c lu _ hx ⟨rfl,i',j',o',⟨ac,bc⟩,rfl,J',Mo⟩;dsimp only;refine wp_two1 O L T uv J' (λx c hr=>⟨rfl, .inl ⟨x,c,rfl,hr⟩⟩) λi2 j2 o2 c J2 h2=>⟨⟨rfl, .inr ⟨i2,j2,o2,c,rfl,J2,by lia⟩⟩,⟨rfl,i2,j2,o2,c,rfl,J2,by lia⟩⟩
  ·rintro c lu ⟨rfl,i',j',o',d,rfl,J',Mo⟩;exact⟨rfl, .inr ⟨i',j',o',d,rfl,J',by lia⟩⟩
  ·rintro c lu ⟨rfl,⟨x,d,rfl,hr⟩ | ⟨i',j',o',⟨ac,bc⟩,rfl,J',Mo⟩⟩
   ·exact aF ⟨hg,x,_,rfl,hr⟩
   ·dsimp only;refine az (wpS_lift (wpAny_rule ⟨rfl,?_⟩));refine az (wpS_mono (cB (I:=λx c nB=>(∃g,nB=cy st g) /\ ∃i' j' o' d,c=(none,i',j',o',d) /\ JH less a b o' i' j' /\ i'+j'+1<=i+j) (Q:=λc nB=>(∃g,nB=cy st g) /\ ((∃x d,c=(some x,d) /\ Res less a b x) \/ ∃i' j' o' d,c=(none,i',j',o',d) /\ JH less a b o' i' j' /\ i'+j'+1<=i+j)) ?_ ?_ ⟨hg,i',j',o',_,rfl,J',Mo⟩) ?_)
    ·rintro x c nB _ hx ⟨A6,i3,j3,o3,⟨TZ,WC,Wz⟩,rfl,J3,JS⟩;dsimp only;split;all_goals
      refine wpS_mono (wp_p1H O L T (N:=i+j - 1) hk A6 J3 (by lia)) ?_
      rintro r fq ⟨Mb,⟨x,c,rfl,hr⟩ | ⟨i4,j4,o4,c,rfl | rfl,J4,h4⟩⟩
      ·exact⟨Mb, .inl ⟨x,c,rfl,hr⟩⟩
      ·exact⟨Mb, .inr ⟨i4,j4,o4,c,rfl,J4,by lia⟩⟩
      ·exact⟨Mb,i4,j4,o4,c,rfl,J4,by lia⟩
    ·rintro c nB ⟨A6,i3,j3,o3,d,rfl,J3,JS⟩;exact⟨A6, .inr ⟨i3,j3,o3,d,rfl,J3,JS⟩⟩
    ·rintro c nB ⟨A6,⟨x,d,rfl,hr⟩ | ⟨i3,j3,o3,⟨TZ,WC,Wz⟩,rfl,J3,JS⟩⟩
     ·exact aF ⟨A6,x,_,rfl,hr⟩
     ·dsimp only;refine az (wpS_modify (aF ⟨?_,i3,j3,o3,_,rfl,J3,by lia⟩));obtain⟨g,rfl⟩:=A6;exact⟨_,rfl⟩
 ·rintro c bB ⟨hg,i,j,o,mg,rfl,J,hN⟩;have:=J.hi;have:=J.hj;lia
 ·rintro c bB ⟨⟨g,rfl⟩,x,d,rfl,hr⟩;exact aF (h x g hr)
end
def yo (xs:Array Keyed)(at_:Nat)(l:List (Keyed×Nat)):Array Keyed:=l.foldl (λa (p,j)=>a.setIfInBounds (at_+j) p) xs
theorem wH (at_ n:Nat): ∀ (ms:List Keyed) (k:Nat) (xs:Array Keyed),at_+k+ms.length<=xs.size ->(yo xs at_ (ms.zipIdx k))[n]? =if at_+k<=n /\ n<at_+k+ms.length then ms[n - (at_+k)]? else xs[n]?
 | [],k,xs,h=>by rw[aj (by simp)];rfl
 | p ::ms,k,xs,h=>by
  rw[aG] at h;show(yo (xs.setIfInBounds (at_+k) p) at_ (ms.zipIdx (k+1)))[n]? =_;rw[wH at_ n ms (k+1) _ (by rw[Array.size_setIfInBounds];lia)];rw[aG];by_cases c:n=at_+k
  ·subst c;rw[aj (by lia),ak (by lia),Array.getElem?_setIfInBounds_self_of_lt (by lia)];simp
  ·rw[Array.getElem?_setIfInBounds_ne (a5 c)];by_cases c2:at_+(k+1) <=n /\ n<at_+(k+1)+ms.length
   ·rw[ak c2,ak (by lia),show n - (at_+k)=(n - (at_+(k+1)))+1 by lia,List.getElem?_cons_succ]
   ·rw[aj c2,aj (by lia)]
theorem BW {xs:Array Keyed}{at_:Nat}{ms:List Keyed}(h:at_+ms.length<=xs.size):(yo xs at_ ms.zipIdx).toList=xs.toList.take at_++(ms++xs.toList.drop (at_+ms.length)):=by
 apply List.ext_getElem?;intro n;have e:=wH at_ n ms 0 xs (by lia);rw[Nat.add_zero] at e;have e':(yo xs at_ ms.zipIdx).toList[n]? =(yo xs at_ ms.zipIdx)[n]? :=by simp
 rw[e',e];have hx: ∀k:Nat,xs.toList[k]? =xs[k]? :=λk=>Array.getElem?_toList ..;by_cases c1:n<at_
 ·rw[aj (by lia),a9 (by rw[a6];simp;lia),List.getElem?_take,ak c1,hx]
 ·have lt:(xs.toList.take at_).length=at_:=by rw[a6];simp;lia
  rw[aU (by lia),lt];by_cases c2:n<at_+ms.length
  ·rw[ak (by lia),a9 (by lia)]
  ·rw[aj (by lia),aU (by lia),List.getElem?_drop,hx];congr 1;lia
theorem three (l:List Keyed)(i j k:Nat)(fY:i<=j)(hjk:j<=k)(hk:k<=l.length):l=l.take i++((l.take j).drop i++((l.take k).drop j++l.drop k)):=by
 have e1:(l.take k).drop j++l.drop k=l.drop j:=by rw[List.drop_take];have:=a8 (k - j) (l.drop j);rw[List.drop_drop,show j+(k - j)=k by lia] at this;exact this
 have e2:(l.take j).drop i++l.drop j=l.drop i:=by rw[List.drop_take];have:=a8 (j - i) (l.drop i);rw[List.drop_drop,show i+(j - i)=j by lia] at this;exact this
 rw[e1,e2,a8]
theorem E6 {less:Keyed ->Keyed ->Bool}(O:Ord less){xs:Array Keyed}{i j lo hi:Nat}(h:Sg less xs lo hi)(h1:lo<=i)(h2:j<=hi)(h3:hi<=xs.size):(xs.extract i j).toList.Pairwise (LE less):=by
 rw[bj];intro x y hx hy X1;have e: ∀n (hn:n< (xs.extract i j).toList.length),(xs.extract i j).toList[n]=cG xs (i+n):=λn hn=>by
  have L4:n< (xs.extract i j).size:=by rw[cT] at hn;exact hn
  rw[Array.size_extract] at L4;unfold cG;rw[getElem?_pos xs (i+n) (by lia)];simp
 rw[e x hx,e y hy];have Nt:y< (xs.extract i j).size:=by rw[cT] at hy;exact hy
 rw[Array.size_extract] at Nt;exact h _ _ (by lia) (by lia) (by lia)
theorem ka {xs:Array Keyed}{i j n:Nat}(h:n< (xs.extract i j).size):cG (xs.extract i j) n=cG xs (i+n):=by unfold cG;rw[Array.size_extract] at h;rw[Array.getElem?_extract,ak (by lia)]
section
variable {prog:Program}{w:World}{A:Around}{E:Value ->Shared ->Prop}{s:Shared}{kd:SortKind}{a₀:Array Keyed}{less:Keyed ->Keyed ->Bool}
abbrev Rn:=Nat×Nat×Nat
theorem LC (i:Nat):mergeAt' i=(do
 let s <- get
 let (some (sa,na,pw),some (sb,nb,_)):=((pendingOf s)[i]?,(pendingOf s)[i+1]?) | unsupported "internal:list.sort.pending"
 set (setPending s (((pendingOf s).setIfInBounds i (sa,na+nb,pw)).eraseIdxIfInBounds (i+1)))
 let some k <- uw false (<- elem' (arrOf s) sb) (arrOf s) sa na 0 | return false
 let (sa,na):=(sa+k,na - k)
 if na==0 then return true
 let some nb <- uw true (<- elem' (arrOf s) (sa+na - 1)) (arrOf s) sb nb (nb - 1) | return false
 if nb==0 then return true
 let x:=(arrOf s).extract sa sb
 let y:=(arrOf s).extract sb (sb+nb)
 let r <- if na<=nb then RV x y else RW x y
 modify λs=>setArr s (yo (arrOf s) sa r.toList.zipIdx)
 return(failedOf (<- get)).isNone):=rfl
theorem F7 {σ:Type}{M:Model}{v:σ}{Q:PUnit ->σ ->Prop}{st:σ}(h:Q ⟨⟩ v):wpS M A E s (set v:StateT σ Sem PUnit) Q st:=by unfold wpS;rw[StateT.run_set];exact aM ⟨rfl,h⟩
theorem wp_mAt (O:Ord less)(L:gY prog w A E s kd a₀ less){st:SortSt}{Q:Bool ->SortSt ->Prop}{l1 l2:List Rn}{sa na pw sb nb Ti i:Nat}(B:SB kd a₀ st)(hp:pendingOf st=(l1++(sa,na,pw)::(sb,nb,Ti)::l2).toArray)(hi:i=l1.length) (Qf:sb=sa+na) (h1:1<=na) (h2:1<=nb) (hz:sb+nb<=a₀.size) (s1:Sg less (arrOf st) sa sb) (s2:Sg less (arrOf st) sb (sb+nb)) (h: ∀bB,SB kd a₀ bB ->pendingOf bB=(l1++(sa,na+nb,pw)::l2).toArray ->Sg less (arrOf bB) sa (sb+nb) ->Out sa (sb+nb) (arrOf st) (arrOf bB) ->Q true bB):wpS (model prog w) A E s (mergeAt' i) Q st:=by
 subst hi;rw[LC];refine az (wpS_get ?_);have p1:(pendingOf st)[l1.length]? =some (sa,na,pw):=by rw[hp];simp
 have p2:(pendingOf st)[l1.length+1]? =some (sb,nb,Ti):=by rw[hp];simp[aU]
 rw[p1,p2];dsimp only;refine az (F7 ?_);have hpd:((pendingOf st).setIfInBounds l1.length (sa,na+nb,pw)).eraseIdxIfInBounds (l1.length+1)=(l1++(sa,na+nb,pw)::l2).toArray:=by rw[hp];simp only[List.setIfInBounds_toArray,List.eraseIdxIfInBounds_toArray];congr 1;rw[List.set_append_right _ _ (aq _),Nat.sub_self,List.set_cons_zero];rw[List.eraseIdx_append_of_length_le (by lia),show l1.length+1 - l1.length=1 by lia];rfl
 rw[hpd];let Av:SortSt:=setPending st (l1++(sa,na+nb,pw)::l2).toArray
 have B1:SB kd a₀ Av:=⟨B.perm,B.kd,B.fl⟩
 have hsz:=B.size;show wpS _ _ _ _ _ Q Av;refine az (wp_elem (by lia) ?_);refine az (wp_galR O L B.kd (B.mem (by lia)) (λk hk=>⟨by lia,B.mem (by lia)⟩) (by lia) (by rw[<- Qf];exact s1) λk g1 g2 g3=> ?_);dsimp only;by_cases c1:na - k=0
 ·rw [ak (by simpa using c1)];refine aF (h Av B1 rfl (λi j hi fY hj=> ?_) Out.refl);show LE less (cG (arrOf st) i) (cG (arrOf st) j);by_cases c2:j<sb
  ·exact s1 i j hi fY c2
  ·by_cases c3:sb<=i
   ·exact s2 i j c3 fY hj
   ·have:=g2 (i - sa) (by lia);rw[show sa+(i - sa)=i by lia] at this;exact O.trans _ _ _ this (s2 sb j (aq _) (by lia) hj)
 ·rw [aj (by simpa using c1)];refine az (wp_elem (by lia) ?_);rw[show sa+k+(na - k) - 1=sb - 1 by lia];refine az (wp_galL O L B.kd (B.mem (by lia)) (λk hk=>⟨by lia,B.mem (by lia)⟩) (by lia) s2 λm f1 f2 f3=> ?_);dsimp only;by_cases c2:m=0
  ·rw [ak (by simpa using c2)];refine aF (h Av B1 rfl (λi j hi fY hj=> ?_) Out.refl);show LE less (cG (arrOf st) i) (cG (arrOf st) j);by_cases c2:j<sb
   ·exact s1 i j hi fY c2
   ·by_cases c3:sb<=i
    ·exact s2 i j c3 fY hj
    ·have:=f3 (j - sb) (by lia) (by lia);rw[show sb+(j - sb)=j by lia] at this;exact O.trans _ _ _ (s1 i (sb - 1) hi (by lia) (by lia)) this
  ·rw [aj (by simpa using c2)];have Jv:((arrOf st).extract (sa+k) sb).size=na - k:=by rw[Array.size_extract];lia
   have EB:((arrOf st).extract sb (sb+m)).size=m:=by rw[Array.size_extract];lia
   have T:r8 less a₀ ((arrOf st).extract (sa+k) sb) ((arrOf st).extract sb (sb+m)):=by
    refine⟨E6 O s1 (by lia) (aq _) (by lia),E6 O s2 (aq _) (by lia) (by lia),λi hi=> ?_,λi hi=> ?_,by lia,by lia,?_,λj hj=> ?_⟩
    ·rw[ka hi];rw[Jv] at hi;exact B.mem (by lia)
    ·rw[ka hi];rw[EB] at hi;exact B.mem (by lia)
    ·rw[ka (by lia),ka (by lia)];exact g3 k (aq _) (by lia)
    ·rw[ka hj,ka (by lia)];rw[EB] at hj;rw[Jv,show sa+k+(na - k - 1)=sb - 1 by lia];exact f2 j hj
   have fin : ∀ (r:Array Keyed) (g:Nat),Res less ((arrOf st).extract (sa+k) sb) ((arrOf st).extract sb (sb+m)) r ->wpS (model prog w) A E s (do modify λs=>setArr s (yo (arrOf s) (sa+k) r.toList.zipIdx);return(failedOf (<- get)).isNone) Q (cy Av g):=by
    rintro r g ⟨rp,rs⟩;have rl:r.toList.length=sb+m - (sa+k):=by
     rw[rp.length_eq,aL];have e1:((arrOf st).extract (sa+k) sb).toList.length=na - k:=by rw[cT];exact Jv
     have e2:((arrOf st).extract sb (sb+m)).toList.length=m:=by rw[cT];exact EB
     rw[e1,e2];lia
    have wl:=BW (xs:=arrOf st) (at_:=sa+k) (ms:=r.toList) (by rw[rl,hsz];lia);rw[rl,show sa+k+(sb+m - (sa+k))=sb+m by lia] at wl;have wa: ∀n,cG (yo (arrOf st) (sa+k) r.toList.zipIdx) n=if sa+k<=n /\ n<sb+m then(r.toList[n - (sa+k)]?).getD (.none, .none) else cG (arrOf st) n:=λn=>by have e:=wH (sa+k) n r.toList 0 (arrOf st) (by rw[rl,hsz];lia);rw[Nat.add_zero,rl,show sa+k+(sb+m - (sa+k))=sb+m by lia] at e;unfold cG;rw[e];split<;>rfl
    have wm: ∀n,sa+k<=n ->n<sb+m -> ∃n',sa+k<=n' /\ n'<sb+m /\ cG (yo (arrOf st) (sa+k) r.toList.zipIdx) n=cG (arrOf st) n':=λn n1 n2=>by
     rw[wa,ak ⟨n1,n2⟩,ae (by lia)];have hm:=rp.mem_iff.mp (bW (l:=r.toList) (n:=n - (sa+k)) (by lia));rcases ax.mp hm with hm | hm
     ·rw[kS] at hm;obtain⟨q,q1,q2,q3,e⟩:=yz hm;exact⟨q,q1,by lia,e⟩
     ·rw[kS] at hm;obtain⟨q,q1,q2,q3,e⟩:=yz hm;exact⟨q,by lia,q2,e⟩
    refine az (wpS_modify ?_);refine az (wpS_get (aF ?_));have ef:(failedOf (setArr (cy Av g) (yo (arrOf (cy Av g)) (sa+k) r.toList.zipIdx))).isNone=true:=by show(failedOf st).isNone=true;rw[B.fl];rfl
    rw[ef];refine h _ ⟨?_,B.kd,B.fl⟩ rfl (λi j hi fY hj=> ?_) (λn hn=> ?_)
    ·show(yo (arrOf st) (sa+k) r.toList.zipIdx).Perm a₀;refine Array.Perm.trans ?_ B.perm;rw[Array.perm_iff_toList_perm,wl];have e3:=three (arrOf st).toList (sa+k) sb (sb+m) (by lia) (by lia) (by simp;lia);refine List.Perm.trans ?_ (List.Perm.of_eq e3.symm);refine List.Perm.append_left _ ?_;rw[<- bR];refine List.Perm.append_right _ ?_;rw[kS,kS] at rp;exact rp
    ·show LE less (cG (yo (arrOf st) (sa+k) r.toList.zipIdx) i) (cG (yo (arrOf st) (sa+k) r.toList.zipIdx) j);have Hc: ∀x y,sa<=x ->x<sa+k ->sa+k<=y ->y<sb+nb ->LE less (cG (arrOf st) x) (cG (arrOf st) y):=λx y x1 x2 y1 y2=>by
      by_cases c:y<sb
      ·exact s1 x y x1 (by lia) c
      ·have:=g2 (x - sa) (by lia);rw[show sa+(x - sa)=x by lia] at this;exact O.trans _ _ _ this (s2 sb y (aq _) (by lia) y2)
     have Ua: ∀x y,sa+k<=x ->x<sb+m ->sb+m<=y ->y<sb+nb ->LE less (cG (arrOf st) x) (cG (arrOf st) y):=λx y x1 x2 y1 y2=>by
      by_cases c:x<sb
      ·have:=f3 (y - sb) (by lia) (by lia);rw[show sb+(y - sb)=y by lia] at this;exact O.trans _ _ _ (s1 x (sb - 1) (by lia) (by lia) (by lia)) this
      ·exact s2 x y (by lia) (by lia) y2
     by_cases i1:i<sa+k
     ·have ei:=wa i;rw[aj (by lia)] at ei;rw[ei];by_cases j1:j<sa+k
      ·have ej:=wa j;rw[aj (by lia)] at ej;rw[ej];exact s1 i j hi fY (by lia)
      ·by_cases j2:j<sb+m
       ·obtain⟨n',n1,n2,e⟩:=wm j (by lia) j2;rw[e];exact Hc i n' hi i1 n1 (by lia)
       ·have ej:=wa j;rw[aj (by lia)] at ej;rw[ej];exact Hc i j hi i1 (by lia) hj
     ·by_cases i2:i<sb+m
      ·by_cases j2:j<sb+m
       ·rw[wa i,wa j,ak (by lia),ak (by lia),ae (by lia),ae (by lia)];by_cases cij:i=j
        ·subst cij;exact O.refl _
        ·exact bj.mp rs _ _ (by lia) (by lia) (by lia)
       ·obtain⟨n',n1,n2,e⟩:=wm i (by lia) i2;have ej:=wa j;rw[aj (by lia)] at ej;rw[e,ej];exact Ua n' j n1 n2 (by lia) hj
      ·have ei:=wa i;have ej:=wa j;rw[aj (by lia)] at ei ej;rw[ei,ej];exact s2 i j (by lia) fY hj
    ·show cG (yo (arrOf st) (sa+k) r.toList.zipIdx) n=_;rw[wa n,aj (by lia)]
   by_cases c3:na - k<=m
   ·rw[ak c3];exact az (wp_mLo O L T B.kd λr g hr=>fin r g hr)
   ·rw[aj c3];exact az (wp_mHi O L T B.kd λr g hr=>fin r g hr)
end
def Runs (less:Keyed ->Keyed ->Bool)(xs:Array Keyed):List Rn ->Nat ->Nat ->Prop
 | [],lo,hi=>lo=hi
 | (a,n,_)::r,lo,hi=>a=lo /\ 1<=n /\ Sg less xs lo (lo+n) /\ Runs less xs r (lo+n) hi
section
variable {less:Keyed ->Keyed ->Bool}{xs ys:Array Keyed}
theorem Runs.le: ∀ {l:List Rn} {lo hi:Nat},Runs less xs l lo hi ->lo+l.length<=hi
 | [],lo,hi,h=>Nat.le_of_eq h
 | (a,n,p)::r,lo,hi,h=>by have:=Runs.le h.2.2.2;have:=h.2.1;rw[aG];lia
theorem Runs.app: ∀ {l1 l2:List Rn} {lo hi:Nat},Runs less xs (l1++l2) lo hi↔ ∃m,Runs less xs l1 lo m /\ Runs less xs l2 m hi
 | [],l2,lo,hi=>⟨λh=>⟨lo,rfl,h⟩,λ⟨m,e,h⟩=>by cases e;exact h⟩
 | (a,n,p)::r,l2,lo,hi=>by
  constructor
  ·rintro⟨h1,h2,h3,h4⟩;obtain⟨m,a1,a2⟩:=Runs.app.mp h4;exact⟨m,⟨h1,h2,h3,a1⟩,a2⟩
  ·rintro⟨m,⟨h1,h2,h3,a1⟩,a2⟩;exact⟨h1,h2,h3,Runs.app.mpr ⟨m,a1,a2⟩⟩
theorem Runs.out {e1 e2:Nat}(o:Out e1 e2 xs ys): ∀ {l:List Rn} {lo hi:Nat},(hi<=e1 \/ e2<=lo) ->Runs less xs l lo hi ->Runs less ys l lo hi
 | [],lo,hi,_,h=>h
 | (a,n,p)::r,lo,hi,hc,⟨h1,h2,h3,h4⟩=>by have:=Runs.le h4;refine⟨h1,h2,λi j hi fY hj=> ?_,Runs.out o (by lia) h4⟩;rw[o i (by lia),o j (by lia)];exact h3 i j hi fY hj
theorem CT {e1 e2 lo hi:Nat}(o:Out e1 e2 xs ys)(hc:hi<=e1 \/ e2<=lo)(h:Sg less xs lo hi):Sg less ys lo hi:=λi j hi fY hj=>by rw[o i (by lia),o j (by lia)];exact h i j hi fY hj
theorem Ck {α:Type}{l:List α}(h:2<=l.length): ∃l1 x y,l=l1++ [x,y]:=by
 refine⟨l.take (l.length - 2),l[l.length - 2],l[l.length - 1],?_⟩;have:=a8 (l.length - 2) l;rw[List.drop_eq_getElem_cons (by lia),List.drop_eq_getElem_cons (by lia),List.drop_eq_nil_of_le (by lia)] at this;have e:l.length - 2+1=l.length - 1:=by lia
 simp only[e] at this;exact this.symm
theorem yL {α:Type}{l:List α}(h:l≠ []): ∃l1 x,l=l1++ [x]:=⟨l.dropLast,l.getLast h,(List.dropLast_concat_getLast h).symm⟩
end
section
variable {prog:Program}{w:World}{A:Around}{E:Value ->Shared ->Prop}{s:Shared}{kd:SortKind}{a₀:Array Keyed}{less:Keyed ->Keyed ->Bool}
theorem ve (l1:List Rn)(x:Rn)(f:Rn ->Rn):(l1++ [x]).modify l1.length f=l1++ [f x]:=by
 induction l1 with
 | nil=>rfl
 | cons a l ih=>rw[List.cons_append,aG,List.modify_succ_cons,ih];rfl
theorem wp_mR (O:Ord less)(L:gY prog w A E s kd a₀ less){st:SortSt}{Q:Bool ->SortSt ->Prop}{l1 l2:List Rn}{x y:Rn}{i lo:Nat}(B:SB kd a₀ st)(hp:pendingOf st=(l1++x::y::l2).toArray)(hi:i=l1.length)(hz:lo<=a₀.size)(R:Runs less (arrOf st) (l1++x::y::l2) 0 lo) (h: ∀bB z,SB kd a₀ bB ->pendingOf bB=(l1++z::l2).toArray ->Runs less (arrOf bB) (l1++z::l2) 0 lo ->Out 0 lo (arrOf st) (arrOf bB) ->Q true bB):wpS (model prog w) A E s (mergeAt' i) Q st:=by
 obtain⟨sa,na,pw⟩:=x;obtain⟨sb,nb,Ti⟩:=y;obtain⟨m,r1,rfl,h1,s1,rfl,h2,s2,r2⟩:=Runs.app.mp R;have hle:=r2.le;refine wp_mAt O L B hp hi rfl h1 h2 (by lia) s1 s2 λbB B' JC s' o'=>h bB _ B' JC ?_ λk hk=>o' k (by lia);refine Runs.app.mpr ⟨_,r1.out o' (.inl (aq _)),rfl,by lia,?_,?_⟩
 ·rw[<- Nat.add_assoc];exact s'
 ·rw[<- Nat.add_assoc];exact r2.out o' (.inr (aq _))
theorem uR {xs:Array Keyed}{l1:List Rn}{a n p q lo hi:Nat}(h:Runs less xs (l1++ [(a,n,p)]) lo hi):Runs less xs (l1++ [(a,n,q)]) lo hi:=by obtain⟨m,r1,h1,h2,h3,h4⟩:=Runs.app.mp h;exact Runs.app.mpr ⟨m,r1,h1,h2,h3,h4⟩
theorem wp_sort (O:Ord less)(L:gY prog w A E s kd a₀ less){st:SortSt}{Q:Unit ->SortSt ->Prop}(B:SB kd a₀ st)(Uz:pendingOf st= #[])(h2:2<=a₀.size) (h: ∀bB,(arrOf bB).Perm a₀ ->failedOf bB=none ->Sg less (arrOf bB) 0 a₀.size ->Q () bB):wpS (model prog w) A E s sortRuns' Q st:=by
 rw[sortRuns'_eq];refine az (wpS_get ?_);dsimp only;simp only[B.size];generalize minRun' a₀.size a₀.size 0=mr;refine az (wpS_mono (cB (I:=λx c bB=> ∃lo pl,c=(none,lo) /\ x<=lo /\ lo<=a₀.size /\ SB kd a₀ bB /\ pendingOf bB=pl.toArray /\ Runs less (arrOf bB) pl 0 lo) (Q:=λc bB=> ∃pl,c=(none,a₀.size) /\ SB kd a₀ bB /\ pendingOf bB=pl.toArray /\ Runs less (arrOf bB) pl 0 a₀.size) ?step ?fin ⟨0,[],rfl,aq _,cU _,B,Uz,rfl⟩) ?post);case fin=>
  rintro c bB ⟨lo,pl,rfl,h1,F1,B',hp,R⟩
  have:lo=a₀.size:=by lia
  subst this
  exact⟨pl,rfl,B',hp,R⟩
 case step =>
  rintro x c bB _ hx ⟨lo,pl,rfl,h1,F1,B',hp,R⟩
  dsimp only
  by_cases c1:lo≥a₀.size
  ·rw[ak c1];have:lo=a₀.size:=by lia
   subst this;exact aF ⟨pl,rfl,B',hp,R⟩
  rw[aj c1]
  refine az (wp_run O L (by lia) (by lia) B' λm lu B2 m1 m2 s2 p2 o2=> ?_)
  dsimp only
  have R2:Runs less (arrOf lu) pl 0 lo:=R.out o2 (.inl (aq _))
  by_cases c2:m<mr
  ·rw [ak c2];refine az (wpS_lift (wpAny_rule ⟨rfl,?_⟩));refine az (wp_bin O L (by lia) (by lia) B2 s2 λnB B3 s3 p3 o3=> ?_);simp only[Bool.not_true,ay,bf];have R3:=R2.out o3 (.inl (aq _));have n1:1<=min (a₀.size - lo) mr:=by lia
   have n2:lo+min (a₀.size - lo) mr<=a₀.size:=by lia
   rw[p2,hp] at p3;clear o3;revert s3 n1 n2;generalize min (a₀.size - lo) mr=n;intro s3 n1 n2;refine az (wpS_get ?_);cases hb:(pendingOf nB).back? with
   | none=>dsimp only;refine az (wpS_modify (aF ⟨lo+n,pl++ [(lo,n,0)],rfl,by lia,n2,⟨B3.perm,B3.kd,B3.fl⟩,?_,Runs.app.mpr ⟨lo,R3,rfl,n1,s3,rfl⟩⟩));show(pendingOf nB).push (lo,n,0)=_;rw[p3];simp
   | some q=>
    obtain⟨s1,Lx,p1⟩:=q;dsimp only;have c8:pl≠ []:=λe=>by subst e;rw[p3] at hb;simp at hb
    refine az (wpS_mono (cB (I:=λ_ c fq=>c=(none,()) /\ ∃pl,pl≠ [] /\ SB kd a₀ fq /\ Sg less (arrOf fq) lo (lo+n) /\ pendingOf fq=pl.toArray /\ Runs less (arrOf fq) pl 0 lo) (Q:=λc fq=>c=(none,()) /\ ∃pl,pl≠ [] /\ SB kd a₀ fq /\ Sg less (arrOf fq) lo (lo+n) /\ pendingOf fq=pl.toArray /\ Runs less (arrOf fq) pl 0 lo) ?_ (λc fq h=>h) ⟨rfl,pl,c8,B3,s3,p3,R3⟩) ?_)
    ·rintro y c fq _ hy ⟨rfl,sW,ne4,B4,s4,p4,R4⟩;refine az (wpS_get ?_);by_cases c2:(pendingOf fq).size >1
     ·rw[ak c2];have hl:2<=sW.length:=by rw[p4] at c2;simp at c2;lia
      obtain⟨l1,u,v,e4⟩:=Ck hl;have e5:(pendingOf fq).size - 2=l1.length:=by rw[p4,e4];simp
      have e6:(pendingOf fq)[(pendingOf fq).size - 2]? =some u:=by rw[e5,p4,e4];simp
      rw[e6];obtain⟨u1,u2,u3⟩:=u;dsimp only;split
      ·exact aF ⟨rfl,sW,ne4,B4,s4,p4,R4⟩
      ·subst e4;refine az (wp_mR O L (l2:= []) B4 p4 e5 (by lia) R4 λNc z B5 p5 R5 o5=> ?_);simp only[Bool.not_true,ay,bf];exact aF ⟨rfl,_,by simp,B5,CT o5 (.inr (aq _)) s4,p5,R5⟩
     ·rw[aj c2];exact aF ⟨rfl,sW,ne4,B4,s4,p4,R4⟩
    ·rintro c fq ⟨rfl,sW,ne4,B4,s4,p4,R4⟩;dsimp only;refine az (wpS_modify (az (wpS_modify (aF ?_))));obtain⟨l1,⟨u1,u2,u3⟩,rfl⟩:=yL ne4;refine⟨lo+n,(l1++ [(u1,u2,power' a₀.size (2*s1+Lx) (2*s1+Lx+Lx+n) a₀.size)])++ [(lo,n,0)],rfl,by lia,n2,⟨B4.perm,B4.kd,B4.fl⟩,?_,Runs.app.mpr ⟨lo,uR R4,rfl,n1,s4,rfl⟩⟩;show((pendingOf fq).modify ((pendingOf fq).size - 1) _).push (lo,n,0)=_;rw[p4];simp only[List.modify_toArray,List.push_toArray,aO];congr 2;rw[aL,cY,Nat.add_sub_cancel];exact ve l1 _ _
  ·rw [aj c2];have s3:=s2;have n1:=m1;have n2:lo+m<=a₀.size:=by lia
   have p3:pendingOf lu=pl.toArray:=by rw[p2,hp]
   have B3:=B2;have R3:=R2;clear p2 o2 B2 R2 s2 m1 m2 c2;revert s3 n1 n2;generalize m=n;intro s3 n1 n2;revert p3 B3 R3 s3;generalize lu=nB;intro p3 B3 R3 s3;refine az (wpS_get ?_);cases hb:(pendingOf nB).back? with
   | none=>dsimp only;refine az (wpS_modify (aF ⟨lo+n,pl++ [(lo,n,0)],rfl,by lia,n2,⟨B3.perm,B3.kd,B3.fl⟩,?_,Runs.app.mpr ⟨lo,R3,rfl,n1,s3,rfl⟩⟩));show(pendingOf nB).push (lo,n,0)=_;rw[p3];simp
   | some q=>
    obtain⟨s1,Lx,p1⟩:=q;dsimp only;have c8:pl≠ []:=λe=>by subst e;rw[p3] at hb;simp at hb
    refine az (wpS_mono (cB (I:=λ_ c fq=>c=(none,()) /\ ∃pl,pl≠ [] /\ SB kd a₀ fq /\ Sg less (arrOf fq) lo (lo+n) /\ pendingOf fq=pl.toArray /\ Runs less (arrOf fq) pl 0 lo) (Q:=λc fq=>c=(none,()) /\ ∃pl,pl≠ [] /\ SB kd a₀ fq /\ Sg less (arrOf fq) lo (lo+n) /\ pendingOf fq=pl.toArray /\ Runs less (arrOf fq) pl 0 lo) ?_ (λc fq h=>h) ⟨rfl,pl,c8,B3,s3,p3,R3⟩) ?_)
    ·rintro y c fq _ hy ⟨rfl,sW,ne4,B4,s4,p4,R4⟩;refine az (wpS_get ?_);by_cases c2:(pendingOf fq).size >1
     ·rw[ak c2];have hl:2<=sW.length:=by rw[p4] at c2;simp at c2;lia
      obtain⟨l1,u,v,e4⟩:=Ck hl;have e5:(pendingOf fq).size - 2=l1.length:=by rw[p4,e4];simp
      have e6:(pendingOf fq)[(pendingOf fq).size - 2]? =some u:=by rw[e5,p4,e4];simp
      rw[e6];obtain⟨u1,u2,u3⟩:=u;dsimp only;split
      ·exact aF ⟨rfl,sW,ne4,B4,s4,p4,R4⟩
      ·subst e4;refine az (wp_mR O L (l2:= []) B4 p4 e5 (by lia) R4 λNc z B5 p5 R5 o5=> ?_);simp only[Bool.not_true,ay,bf];exact aF ⟨rfl,_,by simp,B5,CT o5 (.inr (aq _)) s4,p5,R5⟩
     ·rw[aj c2];exact aF ⟨rfl,sW,ne4,B4,s4,p4,R4⟩
    ·rintro c fq ⟨rfl,sW,ne4,B4,s4,p4,R4⟩;dsimp only;refine az (wpS_modify (az (wpS_modify (aF ?_))));obtain⟨l1,⟨u1,u2,u3⟩,rfl⟩:=yL ne4;refine⟨lo+n,(l1++ [(u1,u2,power' a₀.size (2*s1+Lx) (2*s1+Lx+Lx+n) a₀.size)])++ [(lo,n,0)],rfl,by lia,n2,⟨B4.perm,B4.kd,B4.fl⟩,?_,Runs.app.mpr ⟨lo,uR R4,rfl,n1,s4,rfl⟩⟩;show((pendingOf fq).modify ((pendingOf fq).size - 1) _).push (lo,n,0)=_;rw[p4];simp only[List.modify_toArray,List.push_toArray,aO];congr 2;rw[aL,cY,Nat.add_sub_cancel];exact ve l1 _ _
 case post =>
  rintro c bB ⟨pl,rfl,B',hp,R⟩
  dsimp only
  have hle:=R.le
  refine az (wpS_mono (cB (I:=λx c fq=>c=(none,()) /\ ∃pl,SB kd a₀ fq /\ pendingOf fq=pl.toArray /\ Runs less (arrOf fq) pl 0 a₀.size /\ (pl.length<=1 \/ pl.length+x<=a₀.size)) (Q:=λc fq=>c=(none,()) /\ ∃pl,SB kd a₀ fq /\ Runs less (arrOf fq) pl 0 a₀.size /\ pl.length<=1) ?_ ?_ ⟨rfl,pl,B',hp,R, .inr (by lia)⟩) ?_)
  ·rintro x c fq _ hx ⟨rfl,sW,B4,p4,R4,hl⟩;refine az (wpS_get ?_);have esz:(pendingOf fq).size=sW.length:=by rw[p4];simp
   by_cases c1:(pendingOf fq).size<=1
   ·rw[ak c1];exact aF ⟨rfl,sW,B4,R4,by lia⟩
   ·rw [aj c1];generalize Yl:Option.any _ _=cnd;have mk: ∀k,k+2<=sW.length -> ∀ (Q':ForInStep (Option Unit×Unit) ->SortSt ->Prop),(∀bB pl,SB kd a₀ bB ->pendingOf bB=pl.toArray ->Runs less (arrOf bB) pl 0 a₀.size ->(pl.length<=1 \/ pl.length+(x+1) <=a₀.size) ->Q' (.yield (none,())) bB) ->wpS (model prog w) A E s (do
      let b <- mergeAt' k
      if(!b)=true then pure (ForInStep.done ((some (),()):Option Unit×Unit)) else pure (ForInStep.yield (none,()))) Q' fq:=by
     intro k hk Q' hQ
     have e:=a8 k sW
     rw[List.drop_eq_getElem_cons (by lia),List.drop_eq_getElem_cons (by lia)] at e
     have uv:(sW.take k).length=k:=by rw[a6];lia
     rw[<- e] at p4 R4
     refine az (wp_mR O L B4 p4 uv.symm (aq _) R4 λNc z B5 p5 R5 o5=> ?_)
     simp only[Bool.not_true,ay,bf]
     refine aF (hQ _ _ B5 p5 R5 (.inr ?_))
     rw[aL,uv,aG,List.length_drop]
     lia
    cases cnd with
    | true=>simp only[bN];exact mk ((pendingOf fq).size - 2 - 1) (by lia) _ λbB pl b1 b2 b3 b4=>⟨rfl,pl,b1,b2,b3,b4⟩
    | false=>simp only[ay,bf];exact mk ((pendingOf fq).size - 2) (by lia) _ λbB pl b1 b2 b3 b4=>⟨rfl,pl,b1,b2,b3,b4⟩
  ·rintro c fq ⟨rfl,sW,B4,p4,R4,hl⟩;exact⟨rfl,sW,B4,R4,by lia⟩
  ·rintro c fq ⟨rfl,sW,B4,R4,hl⟩;refine aF (h _ B4.perm B4.fl ?_);match sW,R4,hl with
   | [],R4,_=>exact absurd R4 (by show ¬(0=a₀.size);lia)
   | [(u1,u2,u3)],⟨_,_,h3,h4⟩,_=>have h4:0+u2=a₀.size:=h4;rw[h4] at h3;exact h3
   | _::_::_,_,hl=>simp at hl
end
def AJ (h:Heap)(a:Addr)(vs:List Value):Heap:=((h.update a (Obj.mapSeq λ_=> #[])).push (seqObj "tuple" vs.toArray 0)).push (seqObj "list" #[] 0)
theorem G6 {h:Heap}{a:Addr}{vs:List Value}{n:Nat}(ho:h.get? a=some (seqObj "list" vs.toArray n)):(AJ h a vs).get? a=some (seqObj "list" #[] (if((#[]:Array Value)).size==vs.toArray.size then n else n+1)):=by have ha:=aB ho;unfold AJ;rw[Heap.get?_push_ne _ _ _ (by rw[size_push',Heap.size_update];exact aX (Nat.lt_succ_of_lt ha)),Heap.get?_push_ne _ _ _ (by rw[Heap.size_update];exact aX ha)];exact get?_update_seq ho (λ_=> #[])
section
variable {prog:Program}{w:World}{A:Around}{E:Value ->Shared ->Prop}{s:Shared}
theorem CO {a:Addr}{vs:List Value}{n:Nat}{P:Fin ->Shared ->Prop}{kd:SortKind}{less:Keyed ->Keyed ->Bool}(O:Ord less)(ho:s.heap.get? a=some (seqObj "list" vs.toArray n))(hsz:vs.length<=sizeLine) (hk:2<=vs.length -> ∀ (Q:SortKind ->Shared ->Prop),Q kd {s with heap:=AJ s.heap a vs} ->wpAny (model prog w) A (keyKind' vs.toArray) Q E {s with heap:=AJ s.heap a vs}) (L:gY prog w A E {s with heap:=AJ s.heap a vs} kd (pairsOf vs) less) (h: ∀ (us:List Value),us.Perm vs ->us.Pairwise (λx y=>less (y,y) (x,x)=false) ->P (.done (.ret .none)) {s with heap:=sortedHeap s.heap a vs us.toArray}): wpAny (model prog w) A (Builtin.«list.sort» ⟨[.ref a],[]⟩) P E s:=by
 rw[list_sort_plain];refine ao (listItems_at ho rfl ?_);refine ao (listUpdate_at ho rfl ?_ (hsz:=by simpa using hsz));refine ao (seqEpoch_at (get?_update_seq ho (λ_=> #[])) rfl ?_);refine ao (wpAny_newTuple ?_);refine ao (wpAny_newList ?_);refine wpAny_holding ?_;have Sb:=G6 ho;show wpAny (model prog w) A _ P E {s with heap:=AJ s.heap a vs};dsimp only;have fin: ∀xs:Array Keyed,xs.Perm (pairsOf vs) ->Sg less xs 0 (pairsOf vs).size ->P (.done (.ret .none)) {s with heap:=sortedHeap s.heap a vs (xs.map (·.2))}:=by
  intro xs hp hs;have hl:xs.toList.Perm (vs.zip vs):=by rw[<- pairsOf_toList];exact Array.perm_iff_toList_perm.mp hp
  have A3: ∀p,p∈xs.toList ->p.1=p.2 /\ p.1∈vs:=λp JC=>mem_zip_self (hl.mem_iff.mp JC);have:=h (xs.toList.map (·.2)) ?_ ?_
  ·have e:(xs.toList.map (·.2)).toArray=xs.map (·.2):=by apply Array.toList_inj.mp;simp
   rwa [e] at this
  ·have h1:=hl.map (λp:Keyed=>p.2);rwa [List.map_snd_zip (aq _)] at h1
  ·rw[bj];intro i j hi hj fY;have ko:i<xs.size:=by simpa using hi
   have gX:j<xs.size:=by simpa using hj
   have h1:=hs i j (cU _) (Nat.le_of_lt fY) (by rw[<- hp.size_eq];exact gX);have e1:cG xs i=((xs.toList.map (·.2))[i],(xs.toList.map (·.2))[i]):=by rw[List.getElem_map];have hm:=ua ko;have e:=gj ko;rw[ae (by simpa using ko)] at e;have e:=br e;rw[e];exact Prod.ext (A3 _ hm).1 rfl
   have e2:cG xs j=((xs.toList.map (·.2))[j],(xs.toList.map (·.2))[j]):=by rw[List.getElem_map];have hm:=ua gX;have e:=gj gX;rw[ae (by simpa using gX)] at e;have e:=br e;rw[e];exact Prod.ext (A3 _ hm).1 rfl
   rw[e1,e2] at h1;exact h1
 have aaa:vs.toArray.size=vs.length:=by simp
 by_cases h2:vs.toArray.size<2
 ·rw[ak h2,ak h2];refine ao (aM ?_);rw[StateT.run_pure];refine ao (aM ?_);dsimp only;refine ao (seqEpoch_at Sb rfl ?_);refine ao (listUpdate_at Sb rfl ?_ (hsz2:=by rw[Array.size_map];show(pairsOf vs).size<=_;rw[pairsOf_size];lia));simp only[bne_self_eq_false,ay,bf];refine aM (fin (pairsOf vs) (Array.Perm.refl _) ?_);intro i j _ fY hj;have:i=j:=by rw[pairsOf_size] at hj;lia
  subst this;exact O.refl _
 ·rw[aj h2,aj h2];refine ao (hk (by lia) _ ?_);refine ao (bJ (wp_sort O L (st:=SortSt.mk' kd (vs.toArray.zip vs.toArray) #[] 7 none) (Q:=λ_ bB=>(arrOf bB).Perm (pairsOf vs) /\ failedOf bB=none /\ Sg less (arrOf bB) 0 (pairsOf vs).size) ⟨Array.Perm.refl _,rfl,rfl⟩ rfl (by rw[pairsOf_size];lia) λbB a1 a2 a3=>⟨a1,a2,a3⟩) ?_ λ_ _ e=>e);rintro⟨⟨⟩,bB⟩ s' ⟨rfl,hp,hf,hs⟩;dsimp only;refine ao (seqEpoch_at Sb rfl ?_);refine ao (listUpdate_at Sb rfl ?_ (hsz2:=by refine a4 (Nat.le_of_eq ((Array.size_map ..).trans (hp.size_eq.trans (pairsOf_size _)))) ?_;lia));rw[hf];simp only[bne_self_eq_false,ay,bf];exact aM (fin _ hp hs)
def pD (x y:Keyed):Bool:=decide (numOf x.1<numOf y.1)
theorem Tv:Ord pD:=by
 refine⟨λx y h=> ?_,λx y z h1 h2=> ?_⟩
 ·unfold pD at*;rw[cq] at h;exact decide_eq_false (by lia)
 ·unfold LE pD at*;rw[decide_eq_false_iff_not] at*;lia
theorem ltI {a₀:Array Keyed}(h0:IntKeys a₀):gY prog w A E s oneType' a₀ pD:=by
 intro x y st Q hx hy hk hq;obtain⟨n,t,e1⟩:=h0 x hx;obtain⟨m,u,e2⟩:=h0 y hy;rw[lt'_eq];refine az (wpS_get ?_);rw[hk,keyLt'_oneType,e1,e2];refine az (wpS_lift (wpAny_attempt (oneLt_int ⟨rfl,?_⟩)));have e:pD x y=decide (n<m):=by unfold pD;rw[e1,e2];rfl
 rw[e] at hq;exact aF hq
theorem qH {a:Addr}{vs:List Value}{ns:List Int}{n:Nat}{P:Fin ->Shared ->Prop}(ho:s.heap.get? a=some (seqObj "list" vs.toArray n)) (hI:IntsAre vs ns) (hsz:vs.length<=sizeLine) (h: ∀ (out:Array Value) (GZ:List Int),IntsAre out.toList GZ ->GZ.Perm ns ->GZ.Pairwise (· <= ·) ->P (.done (.ret .none)) {s with heap:=sortedHeap s.heap a vs out}): wpAny (model prog w) A (Builtin.«list.sort» ⟨[.ref a],[]⟩) P E s:=by
 refine CO Tv ho hsz (kd:=oneType') (λh2 Q hq=> ?_) (ltI hI.intKeys) λus hp hs=> ?_
 ·obtain⟨v₁,v₂,rest,rfl⟩: ∃v₁ v₂ rest,vs=v₁::v₂::rest:=by
   match vs,h2 with
   | [],h2=>simp at h2
   | [_],h2=>simp at h2
   | v₁::v₂::rest,_=>exact⟨v₁,v₂,rest,rfl⟩
  rw[keyKind_ints hI];exact aM hq
 ·have xT: ∀v,v∈us -> ∃n t,v= .int n t:=λv hv=>hI.all v (hp.mem_iff.mp hv);refine h us.toArray (us.map numOf) (by simpa using intsAre_map us xT) ?_ ?_
  ·have:=hp.map numOf;rwa [hI.nums] at this
  ·rw[bY];refine hs.imp λ{x y} e=> ?_;unfold pD at e;rw[decide_eq_false_iff_not] at e;simp only at e;lia
end
end TS
namespace L2
open PySem PySem.Spec PyProof.Rows
abbrev Key:=Sum Int Str
def lU:Key ->Value ->Bool
 | .inl k,v=>Value.isInt k v
 | .inr x,v=>Value.isStrOf x v
def T' (w:World):Key ->Int
 | .inl k=>hashInt k
 | .inr x=>hashStr w x
theorem dt: ∀ {k:Key} {v:Value},lU k v=true ->(∃i t,k=Sum.inl i /\ v=Value.int i t) \/ (∃x t,k=Sum.inr x /\ v=Value.str x t)
 | .inl i,v,h=>by obtain⟨t,e⟩:=Value.isInt_shape (k:=i) (v:=v) h;exact .inl ⟨i,t,rfl,e⟩
 | .inr x,v,h=>by obtain⟨t,e⟩:=Value.isStrOf_shape (x:=x) (v:=v) h;exact .inr ⟨x,t,rfl,e⟩
theorem AS (i:Int)(t:Tok):lU (.inl i) (.int i t)=true:=by simp[lU,Value.isInt]
theorem AR (x:Str)(t:Tok):lU (.inr x) (.str x t)=true:=by simp[lU,Value.isStrOf]
theorem LP (a b:Int):decide ((Sum.inl a:Key)=Sum.inl b)=(a==b):=by
 by_cases e:a=b
 ·subst e;simp
 ·have h:¬(Sum.inl a:Key)=Sum.inl b:=λq=>e (Sum.inl.inj q);rw[decide_eq_false h];exact(beq_eq_false_iff_ne.mpr e).symm
theorem LM (a b:Str):decide ((Sum.inr a:Key)=Sum.inr b)=decide (a=b):=by
 by_cases e:a=b
 ·subst e;simp
 ·have h:¬(Sum.inr a:Key)=Sum.inr b:=λq=>e (Sum.inr.inj q);rw[decide_eq_false h,decide_eq_false e]
theorem LO (a:Int)(b:Str):decide ((Sum.inl a:Key)=Sum.inr b)=false:=decide_eq_false (λq=>nomatch q)
theorem LN (a:Str)(b:Int):decide ((Sum.inr a:Key)=Sum.inl b)=false:=decide_eq_false (λq=>nomatch q)
def cu (prog:Program)(w:World):PySem.KeyKind prog w Key where
 is:=lU
 hash:=T' w
 inj :=λv a b ha hb=>by
  rcases dt ha with⟨i,t,rfl,rfl⟩ | ⟨x,t,rfl,rfl⟩
  ·rcases dt hb with⟨j,u,rfl,e⟩ | ⟨y,u,rfl,e⟩
   ·injection e with e1 _;rw[e1]
   ·exact nomatch e
  ·rcases dt hb with⟨j,u,rfl,e⟩ | ⟨y,u,rfl,e⟩
   ·exact nomatch e
   ·injection e with e1 _;rw[e1]
 byValue:=λk v h=>by rcases dt h with⟨i,t,rfl,rfl⟩ | ⟨x,t,rfl,rfl⟩ <;>rfl
 pyHash:=λhv h=>by
  rcases dt hv with⟨i,t,rfl,rfl⟩ | ⟨x,t,rfl,rfl⟩
  ·exact wpAny_pyHash_int h
  ·exact wpAny_pyHash_str h
 eqBool:=λhu hv h=>by
  rcases dt hu with⟨i,t,rfl,rfl⟩ | ⟨x,t,rfl,rfl⟩
  ·rcases dt hv with⟨j,u,rfl,rfl⟩ | ⟨y,u,rfl,rfl⟩
   ·rw[LP] at h;exact wpAny_eqBool_int h
   ·rw[LO] at h;exact SeqAt.EqAt.int_str i t y u _ _ _ _ h
  ·rcases dt hv with⟨j,u,rfl,rfl⟩ | ⟨y,u,rfl,rfl⟩
   ·rw[LN] at h;exact SeqAt.EqAt.str_int x t j u _ _ _ _ h
   ·rw[LM] at h;exact wpAny_eqBool_str h
 «strs» :=λk x t v h=>by
  rcases dt h with⟨i,u,rfl,e⟩ | ⟨y,u,rfl,e⟩
  ·exact nomatch e
  ·injection e with e1 _;subst e1;cases v<;>rfl
theorem vg (prog:Program)(w:World)(i:Int)(t:Tok):(cu prog w).is (.inl i) (.int i t)=true:=AS i t
theorem vf (prog:Program)(w:World)(x:Str)(t:Tok):(cu prog w).is (.inr x) (.str x t)=true:=AR x t
set_option genInjectivity true in
inductive V where
  | dB | bl (b:Bool) | int (i:Int) | str (x:Str) | yg (b:Array UInt8) | zF (b:UInt64) | ref (a:Addr) | ty (n:String)
 deriving DecidableEq
def RelV:V ->Value ->Prop
 | .dB,u=>u=Value.none
 | .bl b,u=>u=Value.bool b
 | .int i,u=> ∃t,u=Value.int i t
 | .str x,u=> ∃t,u=Value.str x t
 | .yg b,u=> ∃t,u=Value.bytes b t
 | .zF b,u=> ∃t,u=Value.float b t
 | .ref a,u=>u=Value.ref a
 | .ty n,u=>u=Value.type n
abbrev Vals:List V ->List Value ->Prop:=Paired RelV
theorem Vals.length {xs:List V}{us:List Value}(r:Vals xs us):xs.length=us.length:=Paired.length r
theorem Vals.get: ∀ {xs:List V} {us:List Value} {i:Nat} {x:V},Vals xs us ->xs[i]? =some x -> ∃u,us[i]? =some u /\ RelV x u
 | _,_,_,_, .nil,e=>by simp at e
 | _,_,0,_, .cons r _,e=>by simp at e;subst e;exact⟨_,rfl,r⟩
 | _,_,i+1,x, .cons _ t,e=>by obtain⟨u,h1,h2⟩:=Vals.get (i:=i) (x:=x) t (by simpa using e);exact⟨u,by simpa using h1,h2⟩
theorem Vals.set {x:V}{u:Value}(r:RelV x u): ∀ {xs:List V} {us:List Value} (i:Nat),Vals xs us ->Vals (xs.set i x) (us.set i u)
 | _,_,_, .nil=> .nil
 | _,_,0, .cons _ t=> .cons r t
 | _,_,i+1, .cons q t=> .cons q (Vals.set r i t)
theorem Vals.append: ∀ {xs ys:List V} {us ws:List Value},Vals xs us ->Vals ys ws ->Vals (xs++ys) (us++ws)
 | _,_,_,_, .nil,s=>s
 | _,_,_,_, .cons r t,s=> .cons r (Vals.append t s)
theorem Vals.take: ∀ {xs:List V} {us:List Value} (n:Nat),Vals xs us ->Vals (xs.take n) (us.take n)
 | _,_,0,_=> .nil
 | _,_,_+1, .nil=> .nil
 | _,_,n+1, .cons r t=> .cons r (Vals.take n t)
theorem Vals.drop: ∀ {xs:List V} {us:List Value} (n:Nat),Vals xs us ->Vals (xs.drop n) (us.drop n)
 | _,_,0,r=>r
 | _,_,_+1, .nil=> .nil
 | _,_,n+1, .cons _ t=>Vals.drop n t
def kZ:Option V ->Option Value ->Prop
 | some v,some u=>RelV v u
 | none,none=>True
 | _,_=>False
def KV {κ:Type}:List (κ×V) ->List (κ×Value) ->Prop:=Paired λ(p:κ×V) (q:κ×Value)=>p.1=q.1 /\ RelV p.2 q.2
def kV:Key ->V
 | .inl i=> .int i
 | .inr x=> .str x
set_option genInjectivity true in
inductive HO where
 /-- a list -/
 | lst (xs:List V)
 /-- a tuple (never changes) -/
 | tup (xs:List V)
 /-- a dict NV keys are ints and texts;one NV keys are tuples of ints and texts (Nb empty one is both) -/
 | dK (kvs:List (Key×V)) | dT (kvs:List (List Key×V))
 /-- a set of ints:its members,its size -/
 | set (S:Int ->Bool) (n:Nat)
 /-- an instance of Nb class at C,its dict at dx,its attributes -/
 | ins (C dx:Addr) (fs:List (Str×V))
 /-- Nb dict of Nb instance at x -/
 | own (x:Addr)
 /-- Nb dict of an exception -/
 | xd (fs:List (Str×V))
 /-- a bound method,f of x -/
 | met (f x:Addr)
 /-- a range object lo,lo+1, .. below hi -/
 | Tg (lo hi:Int)
 /-- a Ou Zd is known to Nb object (Nb Tc;a dict while a loop walks it):read,never written while it is so -/
 | kR (o:Obj) (u:HO)
 /-- a code Pl table -/
 | KI (ps:Array Value)
 /-- any other Ou,by Y6 is true of its one object (a def of XE own:aaq a S n:=HO.ext λh=> ..) -/
 | ext (φ:Heap ->Prop)
abbrev Hp:=Addr ->Option HO
def upd (H:Hp)(a:Addr)(o:HO):Hp:=λb=>if b=a then some o else H b
theorem bU {H:Hp}{a:Addr}{o:HO}:upd H a o a=some o:=by unfold upd;rw[ak rfl]
theorem bC {H:Hp}{a b:Addr}{o:HO}(h:b≠a):upd H a o b=H b:=by unfold upd;rw[aj h]
theorem Po {H:Hp}{a b:Addr}{o u:HO}(h:H a=some o)(h':H b=some u)(d:o≠u):a≠b:=by intro e;subst e;rw[h] at h';exact d (br h')
theorem dc {H:Hp}{a b:Addr}{o:HO}(h:H a=some o)(h':H b=none):a≠b:=by intro e;subst e;rw[h] at h';cases h'
def ud (h:Heap)(a:Addr)(its:Array Value):Prop:= ∃o,h.get? a=some o /\ o.cls= .type "tuple" /\ ∃n,o.data= .seq its n /\ o.dict=none
theorem ud.t {h:Heap}{a:Addr}{its:Array Value}(x:ud h a its):IsTup h a its:=let ⟨o,e,c,n,d,_⟩:=x;⟨o,e,c,n,d⟩
theorem ud.lt {h:Heap}{a:Addr}{its:Array Value}(x:ud h a its):a<h.objs.size:=let ⟨_,e,_⟩:=x;aB e
theorem ud.new (h:Heap)(its:Array Value):ud (h.push {cls:= .type "tuple",data:= .seq its}) h.objs.size its:=⟨_,aS _ rfl,rfl,_,rfl,rfl⟩
section
variable (P:Program)(w:World)
def dF (H:Hp)(h:Heap)(a:Addr):HO ->Prop
 | .lst xs=>xs.length<=sizeLine /\ ∃ (its:List Value) (n:Nat),Vals xs its /\ h.get? a=some {cls:= .type "list",data:= .seq its.toArray n}
 | .tup xs=>xs.length<=sizeLine /\ ∃its:List Value,Vals xs its /\ ud h a its.toArray
 | .dK kvs=>kvs.length<=sizeLine /\ (a==sysModules)=false /\ ∃vs,KV kvs vs /\ h.DictOf (cu P w) a vs
 | .dT kvs=>kvs.length<=sizeLine /\ (a==sysModules)=false /\ ∃xs:List (List Key×Addr×Value),Paired (λ(p:List Key×V) (q:List Key×Addr×Value)=>p.1=q.1 /\ H q.2.1=some (.tup (p.1.map kV)) /\ RelV p.2 q.2.2) kvs xs /\∃o es ep,h.get? a=some o /\ o.ExactDict /\ o.data= .dict es ep /\ es.toList=xs.map (entryOfKey (tupleKind (cu P w))) /\ (xs.map (·.1)).Nodup
 | .set S n=>h.SetOf (intKind P w) a S n
 | .ins C dx fs=>H dx=some (.own a) /\ fs.length<=1000 /\ dx≠a /\ h.get? a=some (PySem.W.instObj C dx) /\∃mA,h.Ns1 dx mA /\ (∀f,kZ (fs.lookup f) (mA f)) /\ PySem.Within mA (fs.map (·.1))
 | .own _=> ∃o,h.get? a=some o
 | .xd fs=> ∃mA,h.Ns1 a mA /\ ∀f,kZ (fs.lookup f) (mA f)
 | .Tg lo hi=> ∃t u v,h.get? a=some {cls:= .type "range",data:= .fields #[.int lo t, .int hi u, .int 1 v]}
 | .kR o u=>h.get? a=some o /\ dF H h a u
 | .KI ps=>h.get? a=some {cls:= .none,data:= .fields ps}
 | .met f x=>h.get? a=some (PySem.W.methodObj (.ref f) (.ref x))
 | .ext φ=>φ h /\ (∃o,h.get? a=some o) /\ ∀h1 h2:Heap,φ h1 ->(∀o,h1.get? a=some o ->h2.get? a=some o) ->φ h2
def kx (H:Hp)(h:Heap):Prop:= ∀a o,H a=some o ->dF P w H h a o
end
section
variable {P:Program}{w:World}{H H':Hp}{h h':Heap}{a:Addr}{o:HO}
theorem dF.lt (x:dF P w H h a o):a<h.objs.size:=by
 cases o with
 | lst xs=>obtain⟨_,_,_,_,e⟩:=x;exact aB e
 | tup xs=>obtain⟨_,_,_,p⟩:=x;exact p.lt
 | dK kvs=>obtain⟨_,_,_,_,o,_,_,e,_⟩:=x;exact aB e
 | dT kvs=>obtain⟨_,_,_,_,o,_,_,e,_⟩:=x;exact aB e
 | set S n=>obtain⟨o,_,_,_,e,_⟩:=x;exact aB e
 | ins C dx fs=>obtain⟨_,_,_,e,_⟩:=x;exact aB e
 | own y=>obtain⟨_,e⟩:=x;exact aB e
 | xd fs=>obtain⟨_,⟨_,_,_,e,_⟩,_⟩:=x;exact aB e
 | Tg lo hi=>obtain⟨_,_,_,e⟩:=x;exact aB e
 | kR ob u=>obtain⟨e,_⟩:=x;exact aB e
 | KI ps=>exact aB (show h.get? a=some _ from x)
 | met f y=>exact aB (show h.get? a=some _ from x)
 | ext φ=>obtain⟨_,⟨_,e⟩,_⟩:=x;exact aB e
theorem Paired.Lz {α β:Type}{F G:α ->β ->Prop}: ∀ {l₁:List α} {l₂:List β},Paired F l₁ l₂ ->(∀a b,F a b ->G a b) ->Paired G l₁ l₂
 | _,_, .nil,_=> .nil
 | _,_, .cons r t,f=> .cons (f _ _ r) (Paired.Lz t f)
theorem dF.oN (x:dF P w H h a o)(k: ∀b u,(b=a \/ H b=some (.own a)) ->h.get? b=some u ->h'.get? b=some u) (ho: ∀b,H b=some (.own a) ->H' b=some (.own a)) (ht: ∀b xs,H b=some (.tup xs) ->H' b=some (.tup xs)):dF P w H' h' a o:=by
 induction o with
 | lst xs=>obtain⟨z,its,n,r,e⟩:=x;exact⟨z,its,n,r,k _ _ (.inl rfl) e⟩
 | tup xs=>obtain⟨z,its,r,ob,e,c⟩:=x;exact⟨z,its,r,ob,k _ _ (.inl rfl) e,c⟩
 | dK kvs=>obtain⟨z,y,vs,r,ob,es,ep,e,c⟩:=x;exact⟨z,y,vs,r,ob,es,ep,k _ _ (.inl rfl) e,c⟩
 | dT kvs=>obtain⟨z,y,xs,r,ob,es,ep,e,c⟩:=x;exact⟨z,y,xs,Paired.Lz r λp q z=>⟨z.1,ht _ _ z.2.1,z.2.2⟩,ob,es,ep,k _ _ (.inl rfl) e,c⟩
 | set S n=>obtain⟨ob,es,ep,t,e,c⟩:=x;exact⟨ob,es,ep,t,k _ _ (.inl rfl) e,c⟩
 | ins C dx fs=>obtain⟨d,z,ne,e,mA,⟨od,es,ep,e2,c⟩,r⟩:=x;exact⟨ho _ d,z,ne,k _ _ (.inl rfl) e,mA,⟨od,es,ep,k _ _ (.inr d) e2,c⟩,r⟩
 | own y=>obtain⟨ob,e⟩:=x;exact⟨ob,k _ _ (.inl rfl) e⟩
 | xd fs=>obtain⟨mA,⟨od,es,ep,e,c⟩,r⟩:=x;exact⟨mA,⟨od,es,ep,k _ _ (.inl rfl) e,c⟩,r⟩
 | Tg lo hi=>obtain⟨t,u,v,e⟩:=x;exact⟨t,u,v,k _ _ (.inl rfl) e⟩
 | kR ob u ih=>obtain⟨e,q⟩:=x;exact⟨k _ _ (.inl rfl) e,ih q⟩
 | KI ps=>have e:h.get? a=some {cls:= .none,data:= .fields ps}:=x;show h'.get? a=some {cls:= .none,data:= .fields ps};exact k a _ (.inl rfl) e
 | met f y=>have e:h.get? a=some (PySem.W.methodObj (.ref f) (.ref y)):=x;show h'.get? a=some (PySem.W.methodObj (.ref f) (.ref y));exact k a _ (.inl rfl) e
 | ext φ=>obtain⟨p,⟨o,e⟩,st⟩:=x;exact⟨st _ _ p λo q=>k _ _ (.inl rfl) q,⟨o,k _ _ (.inl rfl) e⟩,st⟩
theorem kx.lt (x:kx P w H h)(e:H a=some o):a<h.objs.size:=(x a o e).lt
theorem kx.fresh (x:kx P w H h)(e:h.objs.size<=a):H a=none:=by
 cases q:H a with
 | none=>rfl
 | some u=>exact absurd (bE (x.lt q) e) (cb _)
theorem kx.kept (x:kx P w H h)(k: ∀b u,h.get? b=some u ->h'.get? b=some u):kx P w H h':=λa o e=>(x a o e).oN (λb u _ q=>k b u q) (λ_ q=>q) λ_ _ q=>q
theorem kx.laid (x:kx P w H h)(k: ∀b u,h.get? b=some u ->h'.get? b=some u)(hp:h.objs.size<=a)(new:dF P w (upd H a o) h' a o):kx P w (upd H a o) h':=λb u e=>by
 have hn:=x.fresh hp;by_cases hb:b=a
 ·subst hb;rw[bU] at e;cases e;exact new
 ·rw[bC hb] at e;exact(x b u e).oN (λc v _ q=>k c v q) (λc q=>by rw[bC (dc q hn)];exact q) λc xs q=>by rw[bC (dc q hn)];exact q
end
def Rd (H:Hp)(a:Addr)(u:HO):Prop:=H a=some u \/ ∃o,H a=some (.kR o u)
theorem Rd.ok {P:Program}{w:World}{H:Hp}{h:Heap}{a:Addr}{u:HO}(r:Rd H a u)(x:kx P w H h):dF P w H h a u:=by
 rcases r with r | ⟨o,r⟩
 ·exact x a u r
 ·obtain⟨_,q⟩:=x a _ r;exact q
def Rk:Option HO ->Prop
 | some (.lst _)=>True
 | some (.dK _)=>True
 | some (.dT _)=>True
 | some (.set _ _)=>True
 | some (.ins _ _ _)=>True
 | some (.ext _)=>True
 | _=>False
section
variable {P:Program}{w:World}{H:Hp}{h h':Heap}{x e:Addr}{o':HO}
theorem kx.write (ok:kx P w H h)(mu:Rk (H x))(he:e=x \/ H e=some (.own x))(k: ∀b u,b≠e ->h.get? b=some u ->h'.get? b=some u)(NF: ∃u,h'.get? e=some u) (new:dF P w (upd H x o') h' x o'):kx P w (upd H x o') h':=λb u q=>by
 have Pm: ∀c y,H c=some (.own y) ->c≠x:=λc y r z=>by subst z;rw[r] at mu;exact mu
 have TF: ∀c xs,H c=some (.tup xs) ->c≠x:=λc xs r z=>by subst z;rw[r] at mu;exact mu
 by_cases hb:b=x
 ·subst hb;rw[bU] at q;cases q;exact new
 ·rw [bC hb] at q;by_cases Mi:b=e
  ·have q':H b=some (.own x):=by
    rcases he with z | z
    ·exact absurd (Mi.trans z) hb
    ·rw[Mi];exact z
   rw[q] at q';cases q';obtain⟨v,hv⟩:=NF;exact⟨v,by rw[Mi];exact hv⟩
  ·refine(ok b u q).oN (λc v hc r=>k c v ?_ r) (λc r=>by rw[bC (Pm c b r)];exact r) λc xs r=>by rw[bC (TF c xs r)];exact r
   rcases hc with rfl | hc
   ·exact Mi
   ·rintro rfl;rcases he with z | z
    ·exact Pm c b hc z
    ·rw[hc] at z;cases z;exact hb rfl
end
structure Un (fs ex:List Addr)(H H':Hp)(h h':Heap):Prop where
 keep: ∀b o,h.get? b=some o ->H b=none ->b∉fs ->b∉ex ->h'.get? b=some o
 slot: ∀b o,h.get? b=some o ->H b=none ->b∈fs ->b∉ex -> ∃sl,h'.get? b=some {o with slots:=sl}
 free: ∀b o,h.get? b=some o ->H b=none ->b∉ex ->H' b=none
 there: ∀b o,h.get? b=some o ->b∉ex -> ∃o',h'.get? b=some o'
 mN: ∀b xs,H b=some (.tup xs) ->H' b=some (.tup xs)
 kQ: ∀b o u,H b=some (.kR o u) ->H' b=some (.kR o u)
 mP: ∀b ps,H b=some (.KI ps) -> ∃more,H' b=some (.KI (ps++more))
section
variable {fs Ba ex ex':List Addr}{H H1 H2:Hp}{h h1 h2 h':Heap}{a x e:Addr}{o:HO}
theorem Un.any (u:Un fs ex H H1 h h1){b:Addr}{ob:Obj}(q:h.get? b=some ob)(n:H b=none)(hx:b∉ex): ∃sl,h1.get? b=some {ob with slots:=sl}:=by
 by_cases hb:b∈fs
 ·exact u.slot b ob q n hb hx
 ·exact⟨ob.slots,u.keep b ob q n hb hx⟩
theorem Un.trans (a:Un fs ex H H1 h h1)(b:Un fs ex H1 H2 h1 h2):Un fs ex H H2 h h2 where
 keep:=λc ob q n hc hx=>b.keep c ob (a.keep c ob q n hc hx) (a.free c ob q n hx) hc hx
 slot:=λc ob q n hc hx=>by obtain⟨sl,e1⟩:=a.slot c ob q n hc hx;obtain⟨Ta,e2⟩:=b.slot c _ e1 (a.free c ob q n hx) hc hx;exact⟨Ta,e2⟩
 free:=λc ob q n hx=>by obtain⟨o',e1⟩:=a.there c ob q hx;exact b.free c o' e1 (a.free c ob q n hx) hx
 there:=λc ob q hx=>by obtain⟨o',e1⟩:=a.there c ob q hx;exact b.there c o' e1 hx
 mN:=λc xs q=>b.mN c xs (a.mN c xs q)
 kQ:=λc ob xs q=>b.kQ c ob xs (a.kQ c ob xs q)
 mP:=λc ps q=>by obtain⟨m1,e1⟩:=a.mP c ps q;obtain⟨m2,e2⟩:=b.mP c _ e1;exact⟨m1++m2,by rw[e2,Array.append_assoc]⟩
theorem Un.kept (k: ∀b u,h.get? b=some u ->h'.get? b=some u):Un fs ex H H h h':=⟨λb ob q _ _ _=>k b ob q,λb ob q _ _ _=>⟨ob.slots,k b ob q⟩,λ_ _ _ n _=>n,λb ob q _=>⟨ob,k b ob q⟩,λ_ _ q=>q,λ_ _ _ q=>q,λ_ ps q=>⟨#[],by rw[q];simp⟩⟩
theorem Un.refl:Un fs ex H H h h:=Un.kept λ_ _ q=>q
theorem Un.laid (k: ∀b u,h.get? b=some u ->h'.get? b=some u)(hp:h.objs.size<=a)(hn:H a=none):Un fs ex H (upd H a o) h h' where
 keep:=λb u q _ _ _=>k b u q
 slot:=λb u q _ _ _=>⟨u.slots,k b u q⟩
 free:=λb u q n _=>by rw[bC (aX (bE (aB q) hp))];exact n
 there:=λb u q _=>⟨u,k b u q⟩
 mN:=λb xs q=>by rw[bC (dc q hn)];exact q
 kQ:=λb u xs q=>by rw[bC (dc q hn)];exact q
 mP:=λb ps q=>⟨#[],by rw[bC (dc q hn),q];simp⟩
theorem Un.write (mu:Rk (H x))(he:e=x \/ H e=some (.own x))(k: ∀b u,b≠e ->h.get? b=some u ->h'.get? b=some u)(NF: ∃u,h'.get? e=some u):Un fs ex H (upd H x o) h h':=by
 have hx: ∀b,H b=none ->b≠x:=λb n z=>by subst z;rw[n] at mu;exact mu
 have hb: ∀b,H b=none ->b≠e:=λb n z=>by
  subst z;rcases he with r | r
  ·exact hx b n r
  ·rw[n] at r;cases r
 have hm: ∀b u,H b=some u ->¬Rk (some u) ->b≠x:=λb u q nm z=>by subst z;rw[q] at mu;exact nm mu
 refine⟨λb u q n _ _=>k b u (hb b n) q,λb u q n _ _=>⟨u.slots,k b u (hb b n) q⟩,λb u q n _=>by rw[bC (hx b n)];exact n,λb u q _=> ?_,λb xs q=>by rw[bC (hm b _ q λz=>z)];exact q,λb u xs q=>by rw[bC (hm b _ q λz=>z)];exact q,λb ps q=>⟨#[],by rw[bC (hm b _ q λz=>z),q];simp⟩⟩;by_cases Mi:b=e
 ·subst Mi;exact NF
 ·exact⟨u,k b u Mi q⟩
end
def Rx (h:Heap)(H:Hp):List Addr:=(List.range h.objs.size).filter λa=>(H a).isSome
def tO (h:Heap)(H:Hp):Heap:=PySem.W.hideAll h (Rx h H)
theorem A5 (h:Heap)(H:Hp):(tO h H).objs.size=h.objs.size:=PySem.W.hideAll_size _ _
theorem EO {h:Heap}{H:Hp}{b:Addr}{o:Obj}(e:h.get? b=some o)(n:H b=none):(tO h H).get? b=some o:=PySem.W.hideAll_get _ e λhm=>by have q:(H b).isSome=true:=(aP.mp hm).2;rw[n] at q;simp at q
theorem GY {h:Heap}{H:Hp}{b:Addr}{o:Obj}(e:(tO h H).get? b=some o):h.get? b=some o /\ H b=none:=by
 have e':h.get? b=some o:=PySem.W.of_hideAll (Rx h H) e;refine⟨e',?_⟩;cases q:H b with
 | none=>rfl
 | some x=>have hm:b∈Rx h H:=aP.mpr ⟨List.mem_range.mpr (aB e'),by simp[q]⟩;have z:(tO h H).get? b=none:=PySem.W.hideAll_none (Rx h H) hm;rw[z] at e;cases e
def HP (g h:Heap)(L:Addr):List (Addr×Obj):=(List.range h.objs.size).filterMap λa=>if a=L \/ (g.get? a).isSome=true then none else(h.get? a).map λo=>(a,o)
def rest (g h:Heap)(L d:Addr):List (Addr×Obj):=(HP g h L).filter λp=>decide (p.1≠d)
structure Mod (K:PySem.W.Frag)(mg:Str ->Option Value)(base:Heap):Prop where
 RZ:K.In base
 glob:base.Ns mainGlobals mg
 blt: ∃mb,base.Ns builtinsNs mb /\ ∀x:Str,x≠ "__name__" ->mb x=bootBuiltins x
 nolimit:base.NoLimit
structure Cx where
 prog:Program
 w:World
 K:PySem.W.Frag
 mg:Str ->Option Value
 base:Heap
 A:Around
 N:List Str
 s₀:Shared
 H₀:Hp
 env:Env
 outer:List Env
 stack:List Env
 ex:List Addr
 fn:Str ->Bool
 calm:Bool
 pn:List (Addr×Obj)
 xe:Value ->Shared ->Prop
def E2 (l:List Env):List Addr:=l.filterMap (·.frame)
abbrev Cx.fs (X:Cx):List Addr:=E2 X.outer
def SI (sc:Scope)(x:Str):Prop:=sc.names.lookup x=some .local \/ sc.names.lookup x=some .cell \/ sc.names.lookup x=some .free
def Loc (sc:Scope)(x:Str):Prop:=sc.names.lookup x=some .local \/ sc.names.lookup x=some .cell
def Look (env:Env)(h:Heap)(m:Str ->Option Value)(x:Str)(u:Value):Prop:=(env.kindOf x=some .local /\ m x=some u) \/ ((env.kindOf x=some .cell \/ env.kindOf x=some .free) /\ ∃c,env.cells.lookup x=some c /\ h.IsCell c (some u))
structure Cx.Ok (X:Cx):Prop where
 mod:Mod X.K X.mg X.base
 kind:X.env.scope.kind= .function
 glob:X.env.globals=mainGlobals
 blt:X.env.builtins=builtinsNs
 above:X.s₀.heap.objs.size<=X.env.locals
 inj: ∀x y c,X.env.cells.lookup x=some c ->X.env.cells.lookup y=some c ->x=y
 has: ∀x,(X.env.kindOf x=some .cell \/ X.env.kindOf x=some .free) -> ∃c,X.env.cells.lookup x=some c
 Q4: ∀x c,X.fn x=true ->X.env.cells.lookup x=some c ->X.s₀.heap.objs.size<=c
 hd:X.calm=true ->X.A.handled=none
 frames:X.A.frames=some X.stack
 RD:X.stack=X.outer \/ (X.stack=X.env::X.outer /\ X.env.frame=some X.env.locals)
 YH: ∀b∈X.ex,b≠X.env.locals /\ ∀x c,X.env.cells.lookup x=some c ->c≠b
 bs: ∀b o,X.base.get? b=some o ->X.s₀.heap.get? b=some o /\ X.H₀ b=none
 F3:X.base.objs.size<=X.s₀.heap.objs.size
 DZ: ∀b o,X.base.get? b=some o ->b∉X.ex
 Bc: ∀b∈X.ex,b∉X.fs
 oh:X.s₀.heap.FunFrames X.base X.outer
 My: ∀b∈X.fs,X.H₀ b=none
structure Inv (X:Cx)(pins:List (Addr×Obj))(σ:List (Option V))(H:Hp)(s:Shared):Prop where
 ok:X.Ok
 os:s.os=X.s₀.os
 bare:AllBare s.gens
 base:Un X.fs X.ex X.H₀ H X.s₀.heap s.heap
 loc: ∃m,s.heap.Ns X.env.locals m /\ ∀ (i:Nat) (x:Str) (v:V),X.N[i]? =some x ->σ[i]? =some (some v) ->SI X.env.scope x -> ∃u,RelV v u /\ Look X.env s.heap m x u
 cell: ∀x c,X.env.cells.lookup x=some c -> ∃v,s.heap.IsCell c v
 free:H X.env.locals=none
 gN: ∀x c,X.env.cells.lookup x=some c ->H c=none
 pin: ∀p∈X.pn++pins,s.heap.get? p.1=some p.2 /\ H p.1=none /\ p.1≠X.env.locals /\ p.1∉X.fs /\ ∀v,p.2.data≠ .cell v
 c7:kx X.prog X.w H s.heap
 len:σ.length=X.N.length
section
variable {X:Cx}{pins:List (Addr×Obj)}{σ:List (Option V)}{H H':Hp}{s:Shared}{h':Heap}
theorem Cx.Ok.TQ (ok:X.Ok){b:Addr}{o:Obj}(e:X.base.get? b=some o):b∉X.fs:=λhb=>by have:=(ok.oh.mem hb).1;rw[e] at this;cases this
theorem Inv.bs (I:Inv X pins σ H s): ∀b o,X.base.get? b=some o ->s.heap.get? b=some o /\ H b=none:=λb o e=>⟨I.base.keep b o (I.ok.bs b o e).1 (I.ok.bs b o e).2 (I.ok.TQ e) (I.ok.DZ b o e),I.base.free b o (I.ok.bs b o e).1 (I.ok.bs b o e).2 (I.ok.DZ b o e)⟩
theorem Inv.bk (I:Inv X pins σ H s): ∀b o,X.base.get? b=some o ->s.heap.get? b=some o:=λb o e=>(I.bs b o e).1
theorem Inv.mod (I:Inv X pins σ H s):Mod X.K X.mg X.base:=I.ok.mod
theorem Inv.nZ (I:Inv X pins σ H s):X.K.In s.heap:=I.ok.mod.RZ.keeps I.bk
theorem Inv.fr (I:Inv X pins σ H s): ∃m,Fr X.base X.env.locals s.heap m:=
 let ⟨m,hn,_⟩:=I.loc
 ⟨m,hn,I.bk,a4 I.ok.F3 I.ok.above⟩
theorem Inv.lt (I:Inv X pins σ H s):X.env.locals<s.heap.objs.size:=let ⟨_,hn,_⟩:=I.loc;hn.lt
theorem Inv.sz (I:Inv X pins σ H s):X.s₀.heap.objs.size<=s.heap.objs.size:=a4 I.ok.above (Nat.le_of_lt I.lt)
theorem Inv.TN (I:Inv X pins σ H s){a:Addr}(h:s.heap.objs.size<=a):a∉X.fs:=λhb=>by obtain⟨_,o,ho,_⟩:=I.ok.oh.mem hb;exact absurd (bE (aB ho) (a4 I.sz h)) (cb _)
theorem Inv.MJ (I:Inv X pins σ H s): ∀x c,X.env.cells.lookup x=some c ->c≠X.env.locals:=λx c e z=>by obtain⟨v,o,ho,hd⟩:=I.cell x c e;obtain⟨m,⟨o',es,ep,Hk,kh,_⟩,_⟩:=I.loc;rw[z,Hk] at ho;cases ho;rw[kh] at hd;cases hd
theorem Inv.oh (I:Inv X pins σ H s):s.heap.FunFrames X.base X.outer:=by
 have all: ∀ (l:List Env),(∀b∈E2 l,b∈X.fs) ->X.s₀.heap.FunFrames X.base l ->s.heap.FunFrames X.base l:=by
  intro l;induction l with
  | nil=>intro _ _;trivial
  | cons env r ih=>intro hs hl;obtain⟨hk,⟨L,o,hf,hn,ho,hd⟩,hr⟩:=hl;have hL:L∈X.fs:=hs L (by unfold E2;rw[List.filterMap_cons,hf];exact aE);obtain⟨sl,e⟩:=I.base.slot L o ho (I.ok.My L hL) hL λz=>I.ok.Bc L z hL;exact⟨hk,⟨L,_,hf,hn,e,hd⟩,ih (λb hb=>hs b (by unfold E2;rw[List.filterMap_cons,hf];exact aw _ hb)) hr⟩
 exact all X.outer (λ_ hb=>hb) I.ok.oh
theorem Inv.stack (I:Inv X pins σ H s):s.heap.FunFrames X.base X.stack:=by
 rcases I.ok.RD with e | ⟨e,hf⟩
 ·rw[e];exact I.oh
 ·rw[e];obtain⟨m,hn,_⟩:=I.loc;refine .cons (by rw[I.ok.kind];decide) hf hn ?_ I.oh;exact Heap.get?_none_of_le (a4 I.ok.F3 I.ok.above)
theorem Inv.xb (I:Inv X pins σ H s): ∀b∈E2 X.stack,b∈X.env.locals::X.fs:=λb hb=>by
 rcases I.ok.RD with e | ⟨e,hf⟩
 ·rw[e] at hb;exact aw _ hb
 ·rw[e] at hb;unfold E2 at hb;rw[List.filterMap_cons,hf] at hb;exact hb
theorem Inv.yE (I:Inv X pins σ H s): ∀b∈E2 X.stack,H b=none:=λb hb=>by
 rcases av.mp (I.xb b hb) with e | hb
 ·rw[e];exact I.free
 ·obtain⟨_,o,ho,_⟩:=I.ok.oh.mem hb;exact I.base.free b o ho (I.ok.My b hb) λz=>I.ok.Bc b z hb
theorem Inv.step {g':Array GenState}{t':Nat}{d':Drawn}{ch:List Addr}(I:Inv X pins σ H s) (FZ: ∀b∈ch,(b∈X.ex \/ X.s₀.heap.objs.size<=b) /\ b≠X.env.locals /\ (∀x c,X.env.cells.lookup x=some c ->c≠b) /\ ∀p∈X.pn++pins,p.1≠b) (keep: ∀b o,b≠X.env.locals ->b∉X.fs ->b∉ch ->s.heap.get? b=some o ->H b=none ->h'.get? b=some o) (slot: ∀b o,b≠X.env.locals ->b∈X.fs ->b∉ch ->s.heap.get? b=some o ->H b=none -> ∃sl,h'.get? b=some {o with slots:=sl}) (free: ∀b o,b∉ch ->s.heap.get? b=some o ->H b=none ->H' b=none) (there: ∀b o,b∉ch ->s.heap.get? b=some o -> ∃o',h'.get? b=some o') (mN: ∀b xs,H b=some (.tup xs) ->H' b=some (.tup xs)) (kQ: ∀b o u,H b=some (.kR o u) ->H' b=some (.kR o u)) (mP: ∀b ps,H b=some (.KI ps) -> ∃more,H' b=some (.KI (ps++more))) (ns: ∀m,s.heap.Ns X.env.locals m ->h'.Ns X.env.locals m) (c7:kx X.prog X.w H' h') (hg:AllBare g'): Inv X pins σ H' {s with heap:=h',gens:=g',drawn:=d',toks:=t'}:=by
 have XJ: ∀b o,X.s₀.heap.get? b=some o ->b≠X.env.locals:=λb o e=>aX (bE (aB e) I.ok.above);have RM: ∀b o,X.s₀.heap.get? b=some o ->b∉X.ex ->b∉ch:=λb o e hx hb=>by
  rcases (FZ b hb).1 with z | z
  ·exact hx z
  ·exact absurd (bE (aB e) z) (cb _)
 have cellK: ∀x c,X.env.cells.lookup x=some c -> ∀v,s.heap.IsCell c v ->h'.IsCell c v:=λx c e v ⟨o,ho,hd⟩=>by
  have Pr:c∉ch:=λz=>(FZ c z).2.2.1 x c e rfl;by_cases hc:c∈X.fs
  ·obtain⟨sl,q⟩:=slot c o (I.MJ x c e) hc Pr ho (I.gN x c e);exact⟨_,q,hd⟩
  ·exact⟨o,keep c o (I.MJ x c e) hc Pr ho (I.gN x c e),hd⟩
 refine⟨I.ok,I.os,hg,⟨λb o e n hb hx=> ?_,λb o e n hb hx=> ?_,λb o e n hx=> ?_,λb o e hx=> ?_,λb xs e=>mN b xs (I.base.mN b xs e),λb o xs e=>kQ b o xs (I.base.kQ b o xs e),λb ps e=> ?_⟩,?_,λx c e=> ?_,?_,λx c e=> ?_,λp hp=> ?_,c7,I.len⟩
 ·exact keep b o (XJ b o e) hb (RM b o e hx) (I.base.keep b o e n hb hx) (I.base.free b o e n hx)
 ·obtain⟨sl,e1⟩:=I.base.slot b o e n hb hx;obtain⟨Ta,e2⟩:=slot b _ (XJ b o e) hb (RM b o e hx) e1 (I.base.free b o e n hx);exact⟨Ta,e2⟩
 ·obtain⟨o',e1⟩:=I.base.there b o e hx;exact free b o' (RM b o e hx) e1 (I.base.free b o e n hx)
 ·obtain⟨o',e1⟩:=I.base.there b o e hx;exact there b o' (RM b o e hx) e1
 ·obtain⟨m1,e1⟩:=I.base.mP b ps e;obtain⟨m2,e2⟩:=mP b _ e1;exact⟨m1++m2,by rw[e2,Array.append_assoc]⟩
 ·obtain⟨m,hn,hl⟩:=I.loc;refine⟨m,ns m hn,λi x v e1 e2 e3=> ?_⟩;obtain⟨u,r,l⟩:=hl i x v e1 e2 e3;refine⟨u,r,?_⟩;rcases l with l | ⟨k,c,e,z⟩
  ·exact .inl l
  ·exact .inr ⟨k,c,e,cellK x c e _ z⟩
 ·obtain⟨v,z⟩:=I.cell x c e;exact⟨v,cellK x c e v z⟩
 ·obtain⟨m,⟨o,_,_,ho,_⟩,_⟩:=I.loc;exact free _ o (λz=>(FZ _ z).2.1 rfl) ho I.free
 ·obtain⟨v,o,ho,hd⟩:=I.cell x c e;exact free c o (λz=>(FZ c z).2.2.1 x c e rfl) ho (I.gN x c e)
 ·obtain⟨e,n,ne,nf,d⟩:=I.pin p hp;have Pr:p.1∉ch:=λz=>(FZ p.1 z).2.2.2 p hp rfl;exact⟨keep p.1 p.2 ne nf Pr e n,free p.1 p.2 Pr e n,ne,nf,d⟩
theorem Inv.un {t':Nat}(I:Inv X pins σ H s)(u:Un X.fs [] H H' s.heap h')(c7:kx X.prog X.w H' h'):Inv X pins σ H' {s with heap:=h',toks:=t'}:=by obtain⟨m,⟨o,es,ep,ho,r⟩,_⟩:=id I.loc;obtain⟨sl,hL⟩:=u.any ho I.free (by simp);exact I.step (g':=s.gens) (d':=s.drawn) (ch:= []) (λ_ z=>nomatch z) (λb o _ hb _ e n=>u.keep b o e n hb (by simp)) (λb o _ hb _ e n=>u.slot b o e n hb (by simp)) (λb o _ e n=>u.free b o e n (by simp)) (λb o _ e=>u.there b o e (by simp)) u.mN u.kQ u.mP (λm' hm=>by obtain⟨o',SE,SF,Hk,r'⟩:=hm;rw[ho] at Hk;cases Hk;exact⟨_,SE,SF,hL,r'⟩) c7 I.bare
theorem Inv.call {g':Array GenState}{t':Nat}{d':Drawn}{ch:List Addr}(I:Inv X pins σ H s)(u:Un (E2 X.stack) ch H H' s.heap h')(c7:kx X.prog X.w H' h')(hg:AllBare g') (FZ: ∀b∈ch,(b∈X.ex \/ X.s₀.heap.objs.size<=b) /\ b≠X.env.locals /\ (∀x c,X.env.cells.lookup x=some c ->c≠b) /\ ∀p∈X.pn++pins,p.1≠b): Inv X pins σ H' {s with heap:=h',gens:=g',drawn:=d',toks:=t'}:=by obtain⟨m,⟨o,es,ep,ho,r⟩,_⟩:=id I.loc;obtain⟨sl,hL⟩:=u.any ho I.free λz=>(FZ _ z).2.1 rfl;exact I.step (ch:=ch) FZ (λb o hL hb hc e n=>u.keep b o e n (λz=>(av.mp (I.xb b z)).elim hL hb) hc) (λb o _ _ hc e n=>u.any e n hc) (λb o hc e n=>u.free b o e n hc) (λb o hc e=>u.there b o e hc) u.mN u.kQ u.mP (λm' hm=>by obtain⟨o',SE,SF,Hk,r'⟩:=hm;rw[ho] at Hk;cases Hk;exact⟨_,SE,SF,hL,r'⟩) c7 hg
theorem Inv.turned {t':Nat}{it:Addr}(I:Inv X pins σ H s)(k: ∀b o,b≠it ->s.heap.get? b=some o ->h'.get? b=some o)(hn:H it=none)(hL:it≠X.env.locals) (h1:it∈X.ex \/ X.s₀.heap.objs.size<=it) (h2: ∀x c,X.env.cells.lookup x=some c ->c≠it) (h3: ∀p∈X.pn++pins,p.1≠it):Inv X pins σ H {s with heap:=h',toks:=t'}:=by
 have XI: ∀b u,H b=some u ->b≠it:=λb u e z=>by rw[z,hn] at e;cases e
 refine I.step (g':=s.gens) (d':=s.drawn) (ch:= [it]) (λb hb=> ?_) (λb o _ _ hc e _=>k b o (λz=>hc (by simp[z])) e) (λb o _ _ hc e _=>⟨o.slots,k b o (λz=>hc (by simp[z])) e⟩) (λ_ _ _ _ n=>n) (λb o hc e=>⟨o,k b o (λz=>hc (by simp[z])) e⟩) (λ_ _ e=>e) (λ_ _ _ e=>e) (λb ps e=>⟨#[],by rw[e];simp⟩) (λm hm=> ?_) (λb u e=> ?_) I.bare
 ·have e:b=it:=by simpa using hb
  subst e;exact⟨h1,hL,h2,h3⟩
 ·obtain⟨o,es,ep,ho,r⟩:=hm;exact⟨o,es,ep,k _ o (a5 hL) ho,r⟩
 ·refine(I.c7 b u e).oN (λc v hc q=>k c v ?_ q) (λ_ q=>q) λ_ _ q=>q;rcases hc with z | z
  ·rw[z];exact XI b u e
  ·exact XI c _ z
theorem Inv.tok (I:Inv X pins σ H s)(t:Nat):Inv X pins σ H {s with toks:=t}:=I.un (h':=s.heap) (t':=t) Un.refl I.c7
theorem Inv.kept {t':Nat}(I:Inv X pins σ H s)(k: ∀b u,s.heap.get? b=some u ->h'.get? b=some u):Inv X pins σ H {s with heap:=h',toks:=t'}:=I.un (Un.kept k) (I.c7.kept k)
theorem Inv.laid {a:Addr}{o:HO}{t':Nat}(I:Inv X pins σ H s)(k: ∀b u,s.heap.get? b=some u ->h'.get? b=some u)(hp:s.heap.objs.size<=a)(new:dF X.prog X.w (upd H a o) h' a o): Inv X pins σ (upd H a o) {s with heap:=h',toks:=t'}:=I.un (Un.laid k hp (I.c7.fresh hp)) (I.c7.laid k hp new)
theorem Inv.write {x e:Addr}{o:HO}{t':Nat}(I:Inv X pins σ H s)(mu:Rk (H x))(he:e=x \/ H e=some (.own x))(k: ∀b u,b≠e ->s.heap.get? b=some u ->h'.get? b=some u)(NF: ∃u,h'.get? e=some u) (new:dF X.prog X.w (upd H x o) h' x o):Inv X pins σ (upd H x o) {s with heap:=h',toks:=t'}:=I.un (Un.write mu he k NF) (I.c7.write mu he k NF new)
theorem Inv.weak {σ':List (Option V)}(I:Inv X pins σ H s)(hl:σ'.length=σ.length)(w: ∀ (i:Nat) v,σ'[i]? =some (some v) ->σ[i]? =some (some v)):Inv X pins σ' H s:=⟨I.ok,I.os,I.bare,I.base,let ⟨m,hn,pK⟩:=I.loc;⟨m,hn,λi x v e1 e2 e3=>pK i x v e1 (w i v e2) e3⟩,I.cell,I.free,I.gN,I.pin,I.c7,hl.trans I.len⟩
theorem Inv.y8 {y9:List (Addr×Obj)}(I:Inv X pins σ H s)(h: ∀p∈y9,s.heap.get? p.1=some p.2 /\ H p.1=none /\ p.1≠X.env.locals /\ p.1∉X.fs /\ ∀v,p.2.data≠ .cell v):Inv X y9 σ H s:=⟨I.ok,I.os,I.bare,I.base,I.loc,I.cell,I.free,I.gN,λp hp=>(ax.mp hp).elim (λz=>I.pin p (List.mem_append_left _ z)) (h p),I.c7,I.len⟩
theorem vd {N:List Str}(hN:N.Nodup){i j:Nat}{x:Str}(a:N[i]? =some x)(b:N[j]? =some x):i=j:=by obtain⟨h1,e1⟩:=ag.mp a;obtain⟨h2,e2⟩:=ag.mp b;exact(List.getElem_inj hN).mp (e1.trans e2.symm)
theorem As {M:Model}{A:Around}{E:Value ->Shared ->Prop}{i:Nat}{x:Str}{v:V}{u:Value}{Q:Unit ->Shared ->Prop}(I:Inv X pins σ H s)(hN:X.N.Nodup)(hi:X.N[i]? =some x)(hx:Loc X.env.scope x)(r:RelV v u) (h: ∀s',Inv X pins (σ.set i (some v)) H s' ->(∃a,Heap.SameBut a s.heap s'.heap /\ (a=X.env.locals \/ X.env.cells.lookup x=some a)) ->Q () s') (hf:X.fn x=true \/ X.env.scope.names.lookup x=some .local:=by first | exact .inl rfl | exact .inr rfl | assumption):wpAny M A (storeName X.env x u) Q E s:=by
 obtain⟨m,hn,hl⟩:=id I.loc;have U':(X.env.scope.kind== .class || (X.env.scope.kind== .module && X.env.locals !=X.env.globals))=false:=by rw[I.ok.kind];rfl
 have Yi:i<σ.length:=by rw[I.len];exact(ag.mp hi).1
 have MJ:=I.MJ;have tracked: ∀ {a:Addr} {h':Heap},(∃o,s.heap.get? a=some o /\ H a=none) ->Heap.SameBut a s.heap h' ->kx X.prog X.w H h':=λ{a h'} ha hs b ob e=>by
  obtain⟨_,_,JO⟩:=ha;refine(I.c7 b ob e).oN (λc w' hc q=>(hs.2 c ?_).trans q) (λ_ q=>q) λ_ _ q=>q;rintro rfl;rcases hc with rfl | hc
  ·rw[JO] at e;cases e
  ·rw[JO] at hc;cases hc
 rcases hx with hk | hk
 ·refine wpAny_storeName_local hk hn (λh' L4 hs=> ?_) U';obtain⟨oL,_,_,hoL,_⟩:=id hn;refine h _ ⟨I.ok,I.os,I.bare,⟨λb o e n hb hx=> ?_,λb o e n hb hx=> ?_,I.base.free,λb o e hx=> ?_,I.base.mN,I.base.kQ,I.base.mP⟩,⟨_,L4,λj y v' e1 e2 e3=> ?_⟩,λy c e=> ?_,I.free,I.gN,λp hp=> ?_,tracked ⟨oL,hoL,I.free⟩ hs,by simpa using I.len⟩ ⟨_,hs, .inl rfl⟩
  ·exact(hs.2 b (aX (bE (aB e) I.ok.above))).trans (I.base.keep b o e n hb hx)
  ·obtain⟨sl,e1⟩:=I.base.slot b o e n hb hx;exact⟨sl,(hs.2 b (aX (bE (aB e) I.ok.above))).trans e1⟩
  ·obtain⟨o',e1⟩:=I.base.there b o e hx;exact⟨o',(hs.2 b (aX (bE (aB e) I.ok.above))).trans e1⟩
  ·by_cases hj:j=i
   ·subst hj;rw[hi] at e1;cases e1;rw[List.getElem?_set_self Yi] at e2;cases e2;exact⟨u,r, .inl ⟨hk,by simp⟩⟩
   ·rw[List.getElem?_set_ne (a5 hj)] at e2;obtain⟨u',r',q⟩:=hl j y v' e1 e2 e3;refine⟨u',r',?_⟩;rcases q with⟨k,e⟩ | ⟨k,c,e,z⟩
    ·refine .inl ⟨k,?_⟩;have:y≠x:=λe=>hj (vd hN e1 (e▸hi));simp[this,e]
    ·exact .inr ⟨k,c,e,z.sameBut hs (MJ y c e)⟩
  ·obtain⟨w',z⟩:=I.cell y c e;exact⟨w',z.sameBut hs (MJ y c e)⟩
  ·obtain⟨e,n,ne,nf,d⟩:=I.pin p hp;exact⟨(hs.2 p.1 ne).trans e,n,ne,nf,d⟩
 ·have U4:X.fn x=true:=by
   rcases hf with z | z
   ·exact z
   ·rw[z] at hk;cases hk
  obtain⟨c,hc⟩:=I.ok.has x (.inl hk);obtain⟨w',z⟩:=I.cell x c hc;refine wpAny_storeName_cell I.ok.kind hk hc z (λh' NM hs=> ?_);obtain⟨oc,Yc,UD⟩:=id z;refine h {s with heap:=h'} ⟨I.ok,I.os,I.bare,⟨λb o e n hb hx=> ?_,λb o e n hb hx=> ?_,I.base.free,λb o e hx=> ?_,I.base.mN,I.base.kQ,I.base.mP⟩,⟨m,hn.sameBut hs (a5 (MJ x c hc)),λj y v' e1 e2 e3=> ?_⟩,λy c' e=> ?_,I.free,I.gN,λp hp=> ?_,tracked ⟨oc,Yc,I.gN x c hc⟩ hs,by simpa using I.len⟩ ⟨c,hs, .inr hc⟩
  ·exact(hs.2 b (aX (bE (aB e) (I.ok.Q4 x c U4 hc)))).trans (I.base.keep b o e n hb hx)
  ·obtain⟨sl,e1⟩:=I.base.slot b o e n hb hx;exact⟨sl,(hs.2 b (aX (bE (aB e) (I.ok.Q4 x c U4 hc)))).trans e1⟩
  ·obtain⟨o',e1⟩:=I.base.there b o e hx;exact⟨o',(hs.2 b (aX (bE (aB e) (I.ok.Q4 x c U4 hc)))).trans e1⟩
  ·by_cases hj:j=i
   ·subst hj;rw[hi] at e1;cases e1;rw[List.getElem?_set_self Yi] at e2;cases e2;exact⟨u,r, .inr ⟨.inl hk,c,hc,NM⟩⟩
   ·rw[List.getElem?_set_ne (a5 hj)] at e2;obtain⟨u',r',q⟩:=hl j y v' e1 e2 e3;refine⟨u',r',?_⟩;rcases q with q | ⟨k,c',e,z'⟩
    ·exact .inl q
    ·refine .inr ⟨k,c',e,z'.sameBut hs ?_⟩;rintro rfl;exact hj (vd hN e1 (I.ok.inj _ _ _ e hc▸hi))
  ·by_cases Yo:c'=c
   ·subst Yo;exact⟨_,NM⟩
   ·obtain⟨w2,z2⟩:=I.cell y c' e;exact⟨w2,z2.sameBut hs Yo⟩
  ·obtain⟨e,n,ne,nf,d⟩:=I.pin p hp;refine⟨(hs.2 p.1 ?_).trans e,n,ne,nf,d⟩;intro q;rw[q,Yc] at e;have q':oc=p.2:=br e;exact d w' (by rw[<- q'];exact UD)
theorem uF {M:Model}{A:Around}{E:Value ->Shared ->Prop}{i:Nat}{x:Str}{v:V}{u:Value}{Q:Unit ->Shared ->Prop}(I:Inv X pins σ H s)(hN:X.N.Nodup)(hi:X.N[i]? =some x)(hx:Loc X.env.scope x)(r:RelV v u) (h: ∀s',Inv X pins (σ.set i (some v)) H s' ->Q () s') (hf:X.fn x=true \/ X.env.scope.names.lookup x=some .local:=by first | exact .inl rfl | exact .inr rfl | assumption):wpAny M A (storeName X.env x u) Q E s:=As I hN hi hx r (λs' I' _=>h s' I') hf
theorem Inv.Q3 {s':Shared}{ch:List Addr}(I:Inv X pins σ H s)(ho:s'.os=s.os)(u:Un (E2 X.stack) ch H H' s.heap s'.heap)(c7:kx X.prog X.w H' s'.heap)(hg:AllBare s'.gens) (FZ: ∀b∈ch,(b∈X.ex \/ X.s₀.heap.objs.size<=b) /\ b≠X.env.locals /\ (∀x c,X.env.cells.lookup x=some c ->c≠b) /\ ∀p∈X.pn++pins,p.1≠b):Inv X pins σ H' s':=by obtain⟨h',g',d',t',o'⟩:=s';have e:o'=s.os:=ho;subst e;exact I.call (g':=g') (t':=t') (d':=d') u c7 hg FZ
end
abbrev XK:=Value ->Option Addr ->Hp ->Prop
abbrev St:=List (Option V)
abbrev VK:=V ->Hp ->Prop
abbrev TE:=St ->Hp ->VK ->Prop
abbrev TT:=St ->Hp ->(Bool ->Hp ->Prop) ->Prop
abbrev TA:=St ->Hp ->(List V ->Hp ->Prop) ->Prop
structure Ends where
 nx:St ->Hp ->Prop
 rt:VK
 bk:St ->Hp ->Prop:=λ_ _=>False
 ct:St ->Hp ->Prop:=λ_ _=>False
abbrev TS:=Ends ->St ->Hp ->Prop
def EP (X:Cx)(pins:List (Addr×Obj))(σ:St)(Q:VK)(u:Value)(s':Shared):Prop:= ∃v H',Inv X pins σ H' s' /\ RelV v u /\ Q v H'
def TP (X:Cx)(pins:List (Addr×Obj))(σ:St)(Q:Bool ->Hp ->Prop)(b:Bool)(s':Shared):Prop:= ∃H',Inv X pins σ H' s' /\ Q b H'
def AP (X:Cx)(pins:List (Addr×Obj))(σ:St)(Q:List V ->Hp ->Prop)(us:List Value)(s':Shared):Prop:= ∃vs H',Inv X pins σ H' s' /\ Vals vs us /\ Q vs H'
def SP (X:Cx)(pins:List (Addr×Obj))(D:Ends)(f:Flow)(s':Shared):Prop:=
 match f with
 | .next=> ∃σ' H',Inv X pins σ' H' s' /\ D.nx σ' H'
 | .brk=> ∃σ' H',Inv X pins σ' H' s' /\ D.bk σ' H'
 | .cont=> ∃σ' H',Inv X pins σ' H' s' /\ D.ct σ' H'
 | .ret u=> ∃v σ' H',Inv X pins σ' H' s' /\ RelV v u /\ D.rt v H'
def PE (X:Cx)(e:Expr)(t:TE):Prop:=∀ (pins:List (Addr×Obj)) (s:Shared) (σ:St) (H:Hp) (Q:VK),Inv X pins σ H s ->t σ H Q ->wpAny (model X.prog X.w) X.A (eval e X.env) (EP X pins σ Q) X.xe s
def PT (X:Cx)(e:Expr)(t:TT):Prop:=∀ (pins:List (Addr×Obj)) (s:Shared) (σ:St) (H:Hp) (Q:Bool ->Hp ->Prop),Inv X pins σ H s ->t σ H Q ->wpAny (model X.prog X.w) X.A (isTrue e X.env (eval e X.env)) (TP X pins σ Q) X.xe s
def PW (X:Cx)(e:Expr)(t:TT):Prop:=∀ (whole:Sem Value) (pins:List (Addr×Obj)) (s:Shared) (σ:St) (H:Hp) (Q:Bool ->Hp ->Prop),Inv X pins σ H s ->t σ H Q ->wpAny (model X.prog X.w) X.A (isTrue e X.env whole) (TP X pins σ Q) X.xe s
theorem PW.pt {X:Cx}{e:Expr}{t:TT}(h:PW X e t):PT X e t:=h _
def PA (X:Cx)(es:List Expr)(t:TA):Prop:=∀ (pos:Pos) (pins:List (Addr×Obj)) (s:Shared) (σ:St) (H:Hp) (Q:List V ->Hp ->Prop),Inv X pins σ H s ->t σ H Q ->wpAny (model X.prog X.w) X.A (spliced (backTo pos (starEach es X.env))) (AP X pins σ Q) X.xe s
def PS (X:Cx)(st:Stmt)(t:TS):Prop:=∀ (pins:List (Addr×Obj)) (s:Shared) (σ:St) (H:Hp) (D:Ends),Inv X pins σ H s ->t D σ H ->wpAny (model X.prog X.w) X.A (exec st X.env) (SP X pins D) X.xe s
def wF (X:Cx)(st:List Stmt)(t:TS):Prop:=∀ (pins:List (Addr×Obj)) (s:Shared) (σ:St) (H:Hp) (D:Ends),Inv X pins σ H s ->t D σ H ->wpAny (model X.prog X.w) X.A (execs st X.env) (SP X pins D) X.xe s
theorem df {α:Type}{t:Sem α}{Q Q':α ->Shared ->Prop}{M:Model}{A:Around}{E:Value ->Shared ->Prop}{s:Shared}(h:wpAny M A t Q E s)(hQ: ∀a s,Q a s ->Q' a s):wpAny M A t Q' E s:=bJ h hQ λ_ _ x=>x
section
variable {X:Cx}
theorem bin {a b:Expr}{ta tb:TE}(ha:PE X a ta)(hb:PE X b tb){pins:List (Addr×Obj)}{s:Shared}{σ:St}{H:Hp}{R:V ->V ->Hp ->Prop}(I:Inv X pins σ H s)(h:ta σ H λx H1=>tb σ H1 λy H2=>R x y H2) {α:Type} {Q:α ->Shared ->Prop} {f:Value ->Value ->Sem α} (hf: ∀v u s2 x y H2,Inv X pins σ H2 s2 ->RelV x v ->RelV y u ->R x y H2 ->wpAny (model X.prog X.w) X.A (f v u) Q X.xe s2): wpAny (model X.prog X.w) X.A (eval a X.env) (λv s₁=>wpAny (model X.prog X.w) X.A (eval b X.env) (λu s₂=>wpAny (model X.prog X.w) X.A (f v u) Q X.xe s₂) X.xe s₁) X.xe s:=by refine df (ha pins s σ H _ I h) λv s1 ⟨x,H1,I1,r1,q1⟩=> ?_;refine df (hb pins s1 σ H1 _ I1 q1) λu s2 ⟨y,H2,I2,r2,q2⟩=> ?_;exact hf v u s2 x y H2 I2 r1 r2 q2
def Gj (i:Nat):TE:=λσ H Q=> ∃v,σ[i]? =some (some v) /\ Q v H
def tC (v:V):TE:=λ_ H Q=>Q v H
theorem Ld {i:Nat}{x:Str}{pos:Pos}(hN:X.N[i]? =some x)(hv:SI X.env.scope x)(hd:(x==("__debug__" :Str))=false:=by decide)(A7:(x==("__classdict__" :Str))=false:=by decide):PE X (.Name x pos) (Gj i):=by
 intro pins s σ H Q I h;obtain⟨v,e,h⟩:=h;obtain⟨m,hn,hl⟩:=I.loc;obtain⟨u,r,l⟩:=hl i x v hN e hv;have fin:EP X pins σ Q u s:=⟨v,H,I,r,h⟩
 rcases l with⟨hk,hm⟩ | ⟨hk,c,hc,JQ⟩
 ·exact wpAny_Name (wpAny_loadName_local I.ok.kind hk hn hm fin) hd
 ·rcases hk with hk | hk
  ·exact wpAny_Name (wpAny_loadName_cell I.ok.kind hk hc JQ fin) hd
  ·exact wpAny_Name (wpAny_loadName_free I.ok.kind hk hc JQ fin A7) hd
theorem aK {i j pos}:PE X (.Constant (.int i) j pos) (tC (.int i)):=λ_ _ _ H _ I h=>wpAny_Constant_int ⟨.int i,H,I.tok _,⟨_,rfl⟩,h⟩
theorem pd {b j pos}:PE X (.Constant (.bool b) j pos) (tC (.bl b)):=λ_ _ _ H _ I h=>Constant_bool ⟨.bl b,H,I,rfl,h⟩
theorem Dy {j pos}:PE X (.Constant .none j pos) (tC .dB):=λ_ _ _ H _ I h=>Constant_none ⟨.dB,H,I,rfl,h⟩
def Gl (X:Cx)(x:Str):Prop:=X.env.kindOf x=some .globalImplicit
theorem zl {E:Value ->Shared ->Prop}{pins:List (Addr×Obj)}{s:Shared}{σ:St}{H:Hp}{x:Str}{u:Value}{pos:Pos}{Q:Value ->Shared ->Prop}(I:Inv X pins σ H s)(hg:Gl X x)(hm:X.mg x=some u)(h:Q u s) (hd:(x==("__debug__" :Str))=false:=by decide):wpAny (model X.prog X.w) X.A (eval (.Name x pos) X.env) Q E s:=Calls.Name_function_global I.ok.kind hg (Calls.loadGlobal_global (by rw[I.ok.glob];exact I.mod.glob.keeps I.bk) hm h) hd
theorem gr {E:Value ->Shared ->Prop}{pins:List (Addr×Obj)}{s:Shared}{σ:St}{H:Hp}{x:Str}{u:Value}{pos:Pos}{Q:Value ->Shared ->Prop}(I:Inv X pins σ H s)(hg:Gl X x)(hm:X.mg x=none)(hv:bootBuiltins x=some u)(h:Q u s) (hn:x≠ "__name__" :=by decide) (hd:(x==("__debug__" :Str))=false:=by decide):wpAny (model X.prog X.w) X.A (eval (.Name x pos) X.env) Q E s:=by obtain⟨mb,h1,h2⟩:=I.mod.blt;exact Calls.Name_function_global I.ok.kind hg (Calls.loadGlobal_builtin (by rw[I.ok.glob];exact I.mod.glob.keeps I.bk) hm (by rw[I.ok.blt];exact h1.keeps I.bk) ((h2 x hn).trans hv) h) hd
theorem jR {x:Str}{v:V}{u:Value}{pos:Pos}(hg:Gl X x)(hm:X.mg x=none)(hv:bootBuiltins x=some u)(r:RelV v u)(hn:x≠ "__name__" :=by decide)(hd:(x==("__debug__" :Str))=false:=by decide):PE X (.Name x pos) (tC v):=λ_ _ _ H _ I h=>gr I hg hm hv ⟨v,H,I,r,h⟩ hn hd
variable {a b:Expr}{ta tb:TE}{pos:Pos}
def PC (X:Cx)(op:CmpOp)(a b:Expr)(t:TE):Prop:=∀ (pins:List (Addr×Obj)) (s:Shared) (σ:St) (H:Hp) (Q:VK),Inv X pins σ H s ->t σ H Q ->wpAny (model X.prog X.w) X.A (eval a X.env) (λv s₁=>wpAny (model X.prog X.w) X.A (eval b X.env) (λu s₂=>wpAny (model X.prog X.w) X.A (compareOp op v u) (EP X pins σ Q) X.xe s₂) X.xe s₁) X.xe s
theorem D9 (b:Expr){op:CmpOp}(h:op≠ .In)(h2:op≠ .NotIn):behindInMarks op b=false:=by
 have e1:(op==CmpOp.In)=false:=by cases op<;>first | rfl | exact absurd rfl h
 have e2:(op==CmpOp.NotIn)=false:=by cases op<;>first | rfl | exact absurd rfl h2
 cases b<;>simp[behindInMarks,e1,e2]
def tB (t:TE):TT:=λσ H Q=>t σ H λx H1=> ∃c,x= .bl c /\ Q c H1
theorem La {op:CmpOp}{t:TE}(h:PC X op a b t)(h1:behindInMarks op b=false:=by first | exact D9 _ (by decide) (by decide) | rfl):PT X (.Compare a [op] [b] pos) (tB t):=by intro pins s σ H Q I hw;refine wpAny_isTrue_Compare1 (df (h pins s σ H _ I hw) λv s1 h1=>df h1 λu s2 h2=>df h2 λc s3 ⟨x,H1,I1,r1,q1⟩=> ?_) h1;obtain⟨d,rfl,q⟩:=q1;cases r1;exact wpAny_truthy_bool ⟨H1,I1,q⟩
theorem kH {e:Expr}{t:TE}(h:PE X e t)(he: ∀whole,isTrue e X.env whole=(do let v <- whole;standAt e.pos;holding [v] (truthy v)):=by intro _;rfl):PT X e (tB t):=by intro pins s σ H Q I hw;refine isTrue_plain (df (h pins s σ H _ I hw) λv s1 ⟨x,H1,I1,r1,q1⟩=> ?_) (he _);obtain⟨d,rfl,q⟩:=q1;cases r1;exact wpAny_truthy_bool ⟨H1,I1,q⟩
variable {tA RB:TT}{rest:List Expr}
def OE (t u:TT):TT:=λσ H Q=>t σ H λc H1=>if c=true then u σ H1 Q else Q false H1
def Xp (t u:TT):TT:=λσ H Q=>t σ H λc H1=>if c=true then Q true H1 else u σ H1 Q
def OA (t:TT):TT:=λσ H Q=>t σ H λc H1=>Q (!c) H1
theorem sS (ha:PT X a tA):PW X (.BoolOp .And [a] pos) tA:=by
 intro wh pins s σ H Q I h;refine isTrue_and (df (ha pins s σ H Q I h) λc s1 e=> ?_);cases c with
 | true=>exact isTrue_and_nil e
 | false=>exact e
theorem sR (ha:PT X a tA):PW X (.BoolOp .Or [a] pos) tA:=by
 intro wh pins s σ H Q I h;refine isTrue_or (df (ha pins s σ H Q I h) λc s1 e=> ?_);cases c with
 | false=>exact isTrue_or_nil e
 | true=>exact e
theorem xk (ha:PT X a tA)(hb:PW X (.BoolOp .And (b::rest) pos) RB):PW X (.BoolOp .And (a::b::rest) pos) (OE tA RB):=by
 intro wh pins s σ H Q I h;refine isTrue_and (df (ha pins s σ H _ I h) λc s1 ⟨H1,I1,q1⟩=> ?_);cases c with
 | true=>exact hb wh pins s1 σ H1 Q I1 q1
 | false=>exact⟨H1,I1,q1⟩
theorem qO (ha:PT X a tA)(hb:PW X (.BoolOp .Or (b::rest) pos) RB):PW X (.BoolOp .Or (a::b::rest) pos) (Xp tA RB):=by
 intro wh pins s σ H Q I h;refine isTrue_or (df (ha pins s σ H _ I h) λc s1 ⟨H1,I1,q1⟩=> ?_);cases c with
 | true=>exact⟨H1,I1,q1⟩
 | false=>exact hb wh pins s1 σ H1 Q I1 q1
theorem iZ (ha:PT X a tA):PT X (.UnaryOp .Not a pos) (OA tA):=by intro pins s σ H Q I h;exact isTrue_not (ha pins s σ H (λc H1=>Q (!c) H1) I h)
def IK (ta tb:TE):TE:=λσ H Q=>ta σ H λx H1=> ∃c,x= .bl c /\ if c=true then tb σ H1 Q else Q (.bl false) H1
def Iy (ta:TE):TE:=λσ H Q=>ta σ H λx H1=> ∃c,x= .bl c /\ Q (.bl (!c)) H1
theorem Dx {op}{t:TE}(h:PE X a t):PE X (.BoolOp op [a] pos) t:=λpins s σ H Q I hw=>BoolOp_one (h pins s σ H Q I hw)
theorem DD (ha:PE X a ta)(hb:PE X (.BoolOp .And (b::rest) pos) tb):PE X (.BoolOp .And (a::b::rest) pos) (IK ta tb):=by
 intro pins s σ H Q I h;refine BoolOp_and (df (ha pins s σ H _ I h) λv s1 ⟨x,H1,I1,r1,q1⟩=> ?_);obtain⟨c,rfl,q1⟩:=q1;cases r1;refine wpAny_truthy_bool ?_;cases c with
 | true=>exact hb pins s1 σ H1 Q I1 q1
 | false=>exact⟨.bl false,H1,I1,rfl,q1⟩
theorem Le (ha:PE X a ta):PE X (.UnaryOp .Not a pos) (Iy ta):=by intro pins s σ H Q I h;refine UnaryOp_ (df (ha pins s σ H _ I h) λv s1 ⟨x,H1,I1,r1,q1⟩=> ?_);obtain⟨c,rfl,q1⟩:=q1;cases r1;exact not_of (wpAny_truthy_bool ⟨.bl (!c),H1,I1,rfl,q1⟩)
end
def f6 (K:PySem.W.Frag)(H:Hp)(a:Addr)(xs:List V):Prop:=Rd H a (.lst xs) \/∃ (o:Obj) (its:Array Value) (n:Nat),K.lookup a=some o /\ o.cls= .type "list" /\ o.dict=none /\ o.data= .seq its n /\ its.size<=sizeLine /\ Vals xs its.toList
def iS (K:PySem.W.Frag)(H:Hp)(a:Addr)(xs:List V):Prop:=Rd H a (.tup xs) \/∃ (o:Obj) (its:Array Value) (n:Nat),K.lookup a=some o /\ o.cls= .type "tuple" /\ o.dict=none /\ o.data= .seq its n /\ its.size<=sizeLine /\ Vals xs its.toList
def WD:Value ->Option V
 | .none=>some .dB
 | .bool b=>some (.bl b)
 | .int i _=>some (.int i)
 | .str x _=>some (.str x)
 | .bytes b _=>some (.yg b)
 | .float b _=>some (.zF b)
 | .ref a=>some (.ref a)
 | .type n=>some (.ty n)
 | _=>none
theorem RelV.abs {x:V}{u:Value}(r:RelV x u):WD u=some x:=by
 cases x with
 | dB=>cases r;rfl
 | bl _=>cases r;rfl
 | int _=>obtain⟨t,rfl⟩:=r;rfl
 | str _=>obtain⟨t,rfl⟩:=r;rfl
 | yg _=>obtain⟨t,rfl⟩:=r;rfl
 | zF _=>obtain⟨t,rfl⟩:=r;rfl
 | ref _=>cases r;rfl
 | ty _=>cases r;rfl
theorem RelV.inj {x y:V}{u:Value}(r:RelV x u)(q:RelV y u):x=y:=br (r.abs.symm.trans q.abs)
theorem Vals.inj: ∀ {xs ys:List V} {us:List Value},Vals xs us ->Vals ys us ->xs=ys
 | _,_,_, .nil, .nil=>rfl
 | _,_,_, .cons r t, .cons r' t'=>by rw[r.inj r',Vals.inj t t']
section
variable {X:Cx}{pins:List (Addr×Obj)}{σ:St}{H:Hp}{s:Shared}{a:Addr}{xs ys:List V}
theorem f6.of {K:PySem.W.Frag}(h:H a=some (.lst xs)):f6 K H a xs:= .inl (.inl h)
theorem iS.of {K:PySem.W.Frag}(h:H a=some (.tup xs)):iS K H a xs:= .inl (.inl h)
theorem Inv.list (I:Inv X pins σ H s)(h:f6 X.K H a xs): ∃its:List Value,Vals xs its /\ PlainL s.heap a its.toArray /\ xs.length<=sizeLine:=by
 rcases h with h | ⟨o,its,n,hk,hc,hd,hs,hz,r⟩
 ·obtain⟨z,its,n,r,e⟩:=h.ok I.c7;exact⟨its,r,⟨_,n,e,rfl,rfl,rfl⟩,z⟩
 ·refine⟨its.toList,r,⟨o,n,I.nZ a o hk,hc,hd,by simpa using hs⟩,?_⟩;have e:=r.length;simp only[cT] at e;lia
theorem Inv.tuple (I:Inv X pins σ H s)(h:iS X.K H a xs): ∃its:List Value,Vals xs its /\ IsTup s.heap a its.toArray /\ xs.length<=sizeLine:=by
 rcases h with h | ⟨o,its,n,hk,hc,_,hs,hz,r⟩
 ·obtain⟨z,its,r,p⟩:=h.ok I.c7;exact⟨its,r,p.t,z⟩
 ·refine⟨its.toList,r,⟨o,I.nZ a o hk,hc,n,by simpa using hs⟩,?_⟩;have e:=r.length;simp only[cT] at e;lia
theorem Inv.Kz (I:Inv X pins σ H s)(h:iS X.K H a xs): ∃its:List Value,Vals xs its /\ ud s.heap a its.toArray /\ xs.length<=sizeLine:=by
 rcases h with h | ⟨o,its,n,hk,hc,hd,hs,hz,r⟩
 ·obtain⟨z,its,r,p⟩:=h.ok I.c7;exact⟨its,r,p,z⟩
 ·refine⟨its.toList,r,⟨o,I.nZ a o hk,hc,n,by simpa using hs,hd⟩,?_⟩;have e:=r.length;simp only[cT] at e;lia
theorem Inv.list_inj (I:Inv X pins σ H s)(h:f6 X.K H a xs)(h':f6 X.K H a ys):xs=ys:=by
 obtain⟨its,r,⟨o,n,e,_,_,d⟩,_⟩:=I.list h;obtain⟨its',r',⟨o',n',e',_,_,d'⟩,_⟩:=I.list h';rw[e] at e';cases e';rw[d] at d';injection d' with d1 _;have:its=its':=by simpa using congrArg Array.toList d1
 subst this;exact r.inj r'
theorem Inv.mO (I:Inv X pins σ H s)(h:iS X.K H a xs)(h':iS X.K H a ys):xs=ys:=by
 obtain⟨its,r,⟨o,e,_,n,d⟩,_⟩:=I.tuple h;obtain⟨its',r',⟨o',e',_,n',d'⟩,_⟩:=I.tuple h';rw[e] at e';cases e';rw[d] at d';injection d' with d1 _;have:its=its':=by simpa using congrArg Array.toList d1
 subst this;exact r.inj r'
end
abbrev Cx.qf (X:Cx)(E:Value ->Shared ->Prop):Cx:= {X with xe:=E}
abbrev Cx.Lr (X:Cx):Cx:=X.qf λ_ _=>False
theorem Cx.Ok.qf {X:Cx}(ok:X.Ok)(E:Value ->Shared ->Prop):(X.qf E).Ok:=⟨ok.mod,ok.kind,ok.glob,ok.blt,ok.above,ok.inj,ok.has,ok.Q4,ok.hd,ok.frames,ok.RD,ok.YH,ok.bs,ok.F3,ok.DZ,ok.Bc,ok.oh,ok.My⟩
theorem Cx.Ok.jv {X:Cx}{E:Value ->Shared ->Prop}(ok:(X.qf E).Ok):X.Ok:=⟨ok.mod,ok.kind,ok.glob,ok.blt,ok.above,ok.inj,ok.has,ok.Q4,ok.hd,ok.frames,ok.RD,ok.YH,ok.bs,ok.F3,ok.DZ,ok.Bc,ok.oh,ok.My⟩
section
variable {X:Cx}{pins:List (Addr×Obj)}{σ:St}{H:Hp}{s:Shared}{E:Value ->Shared ->Prop}
theorem Inv.qf (I:Inv X pins σ H s)(E:Value ->Shared ->Prop):Inv (X.qf E) pins σ H s:=⟨I.ok.qf E,I.os,I.bare,I.base,I.loc,I.cell,I.free,I.gN,I.pin,I.c7,I.len⟩
theorem Inv.jv (I:Inv (X.qf E) pins σ H s):Inv X pins σ H s:=⟨I.ok.jv,I.os,I.bare,I.base,I.loc,I.cell,I.free,I.gN,I.pin,I.c7,I.len⟩
theorem SP.jv {D:Ends}{f:Flow}{s':Shared}(h:SP (X.qf E) pins D f s'):SP X pins D f s':=by
 cases f with
 | next=>obtain⟨σ',H',I,q⟩:=h;exact⟨σ',H',I.jv,q⟩
 | brk=>obtain⟨σ',H',I,q⟩:=h;exact⟨σ',H',I.jv,q⟩
 | cont=>obtain⟨σ',H',I,q⟩:=h;exact⟨σ',H',I.jv,q⟩
 | ret u=>obtain⟨v,σ',H',I,r,q⟩:=h;exact⟨v,σ',H',I.jv,r,q⟩
theorem wF.Lr {st:List Stmt}{t:TS}(h:wF X.Lr st t):wF X st t:=λpins s σ H D I hw=>bJ (h pins s σ H D (I.qf _) hw) (λ_ _ q=>q.jv) λ_ _ z=>False.elim z
end
section
variable {X:Cx}{st:Stmt}{rest:List Stmt}{t u:TS}{e:Expr}{te:TE}{pos:Pos}
def Iz:TS:=λD σ H=>D.nx σ H
def KJ (t u:TS):TS:=λD σ H=>t {D with nx:=u D} σ H
theorem dR:wF X [] Iz:=λ_ _ σ H _ I h=>wpAny_execs_nil ⟨σ,H,I,h⟩
theorem aI (h1:PS X st t)(h2:wF X rest u):wF X (st::rest) (KJ t u):=by
 intro pins s σ H D I h;refine wpAny_execs_cons (df (h1 pins s σ H {D with nx:=u D} I h) λf s1 q=> ?_);cases f with
 | next=>obtain⟨σ',H',I',q⟩:=q;exact h2 pins s1 σ' H' D I' q
 | ret v=>exact q
 | brk=>exact q
 | cont=>exact q
theorem aR (h1:PS X st t):wF X [st] t:=by
 intro pins s σ H D I h;refine wpAny_execs_cons (df (h1 pins s σ H D I h) λf s1 q=> ?_);cases f with
 | next=>exact wpAny_execs_nil q
 | ret v=>exact q
 | brk=>exact q
 | cont=>exact q
def IH:TS:=λD σ H=>D.ct σ H
theorem uW:PS X (.Continue pos) IH:=λ_ _ σ H _ I h=>wpAny_Continue ⟨σ,H,I,h⟩
theorem Inv.quiet {pins:List (Addr×Obj)}{σ:St}{H:Hp}{s:Shared}(I:Inv X pins σ H s):interactive X.env=false:=by simp[interactive,I.ok.kind]
def ID (te:TE):TS:=λD σ H=>te σ H λ_ H1=>D.nx σ H1
theorem fi (he:PE X e te)(hs:swapsWith e none pos.line X.env=pure false:=by rfl):PS X (.Expr e pos) (ID te):=by intro pins s σ H D I h;exact wpAny_Expr_any (df (he pins s σ H _ I h) λv s1 ⟨x,H1,I1,r1,q1⟩=>⟨σ,H1,I1,q1⟩) I.quiet hs
def Oy (te:TE):TS:=λD σ H=>te σ H D.rt
theorem cQ (he:PE X e te):PS X (.Return (some e) pos) (Oy te):=by intro pins s σ H D I h;exact wpAny_Return_some (df (he pins s σ H _ I h) λv s1 ⟨x,H1,I1,r1,q1⟩=>⟨x,σ,H1,I1,r1,q1⟩)
def Iv:TS:=λD _ H=>D.rt .dB H
theorem GC:PS X (.Return none pos) Iv:=λ_ _ σ H _ I h=>wpAny_Return_none ⟨.dB,σ,H,I,rfl,h⟩
def OC (c:TT)(t u:TS):TS:=λD σ H=>c σ H λb H1=>if b=true then t D σ H1 else u D σ H1
theorem eG {c:Expr}{a b:List Stmt}{tc:TT}(hc:PT X c tc)(ha:wF X a t)(hb:wF X b u):PS X (.If c a b pos) (OC tc t u):=by
 intro pins s σ H D I h;refine wpAny_If (df (hc pins s σ H _ I h) λd s1 ⟨H1,I1,q1⟩=> ?_);cases d with
 | true=>exact ha pins s1 σ H1 D I1 q1
 | false=>exact hb pins s1 σ H1 D I1 q1
end
abbrev TG:=V ->St ->Hp ->(St ->Hp ->Prop) ->Prop
abbrev F5:=List V ->St ->Hp ->(St ->Hp ->Prop) ->Prop
def PG (X:Cx)(target:Expr)(t:TG):Prop:=∀ (pins:List (Addr×Obj)) (s:Shared) (σ:St) (H:Hp) (v:V) (u:Value) (Q:St ->Hp ->Prop),Inv X pins σ H s ->RelV v u ->t v σ H Q ->wpAny (model X.prog X.w) X.A (assign target X.env u) (λ_ s'=> ∃σ' H',Inv X pins σ' H' s' /\ Q σ' H') X.xe s
def SK (X:Cx)(ts:List Expr)(t:F5):Prop:=∀ (pins:List (Addr×Obj)) (s:Shared) (σ:St) (H:Hp) (vs:List V) (us:List Value) (Q:St ->Hp ->Prop),Inv X pins σ H s ->Vals vs us ->t vs σ H Q ->wpAny (model X.prog X.w) X.A (assignInOrder ((assignEach ts X.env).map (·.2)) us) (λ_ s'=> ∃σ' H',Inv X pins σ' H' s' /\ Q σ' H') X.xe s
abbrev FA:=V ->V ->V ->Hp ->(Hp ->Prop) ->Prop
def Rg (X:Cx)(t:FA):Prop:=∀ (pins:List (Addr×Obj)) (s:Shared) (σ:St) (H:Hp) (o i v:V) (ov iv u:Value) (Q:Hp ->Prop),Inv X pins σ H s ->RelV o ov ->RelV i iv ->RelV v u ->t o i v H Q ->wpAny (model X.prog X.w) X.A (setItem ov iv u) (λ_ s'=> ∃H',Inv X pins σ H' s' /\ Q H') X.xe s
section
variable {X:Cx}{pos:Pos}
def nF (i:Nat):TG:=λv σ H Q=>Q (σ.set i (some v)) H
theorem cj {i:Nat}{x:Str}(hN:X.N.Nodup)(hi:X.N[i]? =some x)(hx:Loc X.env.scope x)(hf:X.fn x=true \/ X.env.scope.names.lookup x=some .local:=by first | exact .inl rfl | exact .inr rfl | assumption):PG X (.Name x pos) (nF i):=by intro pins s σ H v u Q I r h;exact wpAny_assign_Name (uF I hN hi hx r (λs' I'=>⟨_,H,I',h⟩) hf)
def Mw:F5:=λvs σ H Q=>vs= [] /\ Q σ H
def zE (t:TG)(u:F5):F5:=λvs σ H Q=> ∃v r,vs=v::r /\ t v σ H λσ' H'=>u r σ' H' Q
theorem jQ:SK X [] Mw:=by intro pins s σ H vs us Q I r h;obtain⟨e,h⟩:=h;subst e;cases r;exact assignInOrder_nil ⟨σ,H,I,h⟩
theorem d7 {e:Expr}{es:List Expr}{t:TG}{u:F5}(h1:PG X e t)(h2:SK X es u) (hs:(assignEach (e::es) X.env).map (·.2)=assign e X.env::(assignEach es X.env).map (·.2):=by rfl):SK X (e::es) (zE t u):=by
 intro pins s σ H vs us Q I r h;obtain⟨v,vr,e1,h⟩:=h;subst e1;cases r with
 | cons r rr=>rw[hs];refine assignInOrder_cons (df (h1 pins s σ H _ _ _ I r h) λ_ s1 ⟨σ1,H1,I1,q1⟩=> ?_);exact h2 pins s1 σ1 H1 _ _ Q I1 rr q1
def Mv (K:PySem.W.Frag)(n:Nat)(t:F5):TG:=λv σ H Q=> ∃a xs,v= .ref a /\ iS K H a xs /\ xs.length=n /\ t xs σ H Q
theorem mW {es:List Expr}{k:Nat}{t:F5}{n:Nat}(hc:X.calm=true)(h:SK X es t) (hn:(assignEach es X.env).length=n:=by rfl) (jZ:(assignEach es X.env).findIdx? (·.1)=none:=by rfl):PG X (.Tuple es k pos) (Mv X.K n t):=by intro pins s σ H v u Q I r hw;obtain⟨a,xs,e1,hq,hl,hw⟩:=hw;subst e1;cases r;obtain⟨its,rv,ht,hz⟩:=I.tuple hq;refine assign_Tuple_tuple (I.ok.hd hc) ht (by simp[hn, <- hl,rv.length]) jZ λh' hx=> ?_;have I1:Inv X pins σ H {s with heap:=h'}:=I.kept (t':=s.toks) λb o e=>hx b o (aX (aB e)) e;exact h pins _ σ H xs _ Q I1 (by simpa using rv) hw
def QR (to ti:TE)(t:FA):TG:=λv σ H Q=>to σ H λo H1=>ti σ H1 λi H2=>t o i v H2 λH3=>Q σ H3
theorem iB {o i:Expr}{to ti:TE}{t:FA}(ho:PE X o to)(hi:PE X i ti)(hs:Rg X t) (ha: ∀v,assign (.Subscript o i pos) X.env v=(do
  let ov <- holding [v] (eval o X.env)
  let iv <- holding [v,ov] (eval i X.env)
  standAt pos
  holding [v,ov,iv] (setItem ov iv v)
  release [v,ov,iv] []):=by intro _;rfl):PG X (.Subscript o i pos) (QR to ti t):=by
 intro pins s σ H v u Q I r h
 rw[ha]
 refine ao (wpAny_holding (df (ho pins s σ H _ I h) λov s1 ⟨x,H1,I1,r1,q1⟩=> ?_))
 refine ao (wpAny_holding (df (hi pins s1 σ H1 _ I1 q1) λiv s2 ⟨y,H2,I2,r2,q2⟩=> ?_))
 refine ao (wpAny_standAt (ao (wpAny_holding (df (hs pins s2 σ H2 x y v ov iv u _ I2 r1 r2 r q2) λ_ s3 ⟨H3,I3,q3⟩=> ?_))))
 exact wpAny_release ⟨σ,H3,I3,q3⟩
def Gk (te:TE)(g:TG):TS:=λD σ H=>te σ H λx H1=>g x σ H1 D.nx
theorem iA {tg e:Expr}{te:TE}{g:TG}(he:PE X e te)(hg:PG X tg g)(hs:swapsWithSole [tg] e pos.line X.env=pure false:=by rfl)(hw:swappedStores [tg] e X.env=pure none:=by rfl) (h1:(assignEach [tg] X.env).map (·.2)= [assign tg X.env]:=by rfl):PS X (.Assign [tg] e pos) (Gk te g):=by intro pins s σ H D I h;refine wpAny_Assign_stores (df (he pins s σ H _ I h) λv s1 ⟨x,H1,I1,r1,q1⟩=> ?_) hs hw;rw[h1];exact df (hg pins s1 σ H1 x v _ I1 r1 q1) λ_ s2 q=>q
theorem bX {i:Nat}{x:Str}{e:Expr}{te:TE}{pos':Pos}(hN:X.N.Nodup)(hi:X.N[i]? =some x)(hx:Loc X.env.scope x)(he:PE X e te)(hs:swapsWith e (some (.Name x pos')) pos.line X.env=pure false:=by rfl)(hf:X.fn x=true \/ X.env.scope.names.lookup x=some .local:=by first | exact .inl rfl | exact .inr rfl | assumption): PS X (.Assign [.Name x pos'] e pos) (Gk te (nF i)):=by intro pins s σ H D I h;refine wpAny_Assign_Name (df (he pins s σ H _ I h) λv s1 ⟨y,H1,I1,r1,q1⟩=> ?_) hs;exact uF I1 hN hi hx r1 (λs2 I2=>⟨_,H1,I2,q1⟩) hf
end
section
variable {X:Cx}{pos:Pos}
def Cu (c:TT)(tb:TS):TS:=λD σ H=> ∃W:Nat ->St ->Hp ->Prop,(∃m,W m σ H) /\ ∀m σ H,W m σ H ->c σ H λb H1=>if b=true then ∃N:St ->Hp ->Prop,(∀σ' H',N σ' H' -> ∃m',m'<m /\ W m' σ' H') /\ tb {D with nx:=N,ct:=N,bk:=D.nx} σ H1 else D.nx σ H1
theorem Dm {c:Expr}{body:List Stmt}{tc:TT}{tb:TS}(hp:PassesOwn (model X.prog X.w) X.A X.env X.xe)(hc:PT X c tc)(hb:wF X body tb):PS X (.While c body [] pos) (Cu tc tb):=by
 intro pins s σ H D I h;obtain⟨W,⟨m0,w0⟩,turn⟩:=h;refine wpAny_While (codeAny_whileLoop (λn s'=> ∃σ' H',Inv X pins σ' H' s' /\ W n σ' H') ?_ m0 ⟨σ,H,I,w0⟩);rintro n s1 ⟨σ1,H1,I1,w1⟩;refine wpAny_passesOwn hp (df (hc pins s1 σ1 H1 _ I1 (turn n σ1 H1 w1)) λb s2 ⟨H2,I2,q2⟩=> ?_);cases b with
 | true=>
  obtain⟨N,hN,q2⟩:=q2;rw[ak rfl];refine wpAny_passesOwn hp (df (hb pins s2 σ1 H2 _ I2 q2) λf s3 q3=> ?_);cases f with
  | next=>obtain⟨σ3,H3,I3,n3⟩:=q3;obtain⟨m',hm,w3⟩:=hN σ3 H3 n3;exact⟨m',hm,σ3,H3,I3,w3⟩
  | cont=>obtain⟨σ3,H3,I3,n3⟩:=q3;obtain⟨m',hm,w3⟩:=hN σ3 H3 n3;exact⟨m',hm,σ3,H3,I3,w3⟩
  | brk=>exact q3
  | ret v=>exact q3
 | false=>rw[aj aW];exact wpAny_execs_nil ⟨σ1,H2,I2,q2⟩
end
structure It where
 go:Nat ->Hp ->Prop
 Kj:Nat ->Hp ->V ->Hp ->Prop
 stop:Nat ->Hp ->Prop
def je (X:Cx)(pins:List (Addr×Obj))(H:Hp)(b:Addr):Prop:=H b=none /\ b≠X.env.locals /\ b∉X.fs /\ (b∈X.ex \/ X.s₀.heap.objs.size<=b) /\ (∀x c,X.env.cells.lookup x=some c ->c≠b) /\ ∀p∈X.pn++pins,p.1≠b
theorem Inv.xX {X:Cx}{pins:List (Addr×Obj)}{σ:St}{H H':Hp}{s:Shared}{b:Addr}(I:Inv X pins σ H s)(hb:s.heap.objs.size<=b)(hn:H' b=none):je X pins H' b:=by
 refine⟨hn,Nat.ne_of_gt (bE I.lt hb),I.TN hb, .inr (a4 I.sz hb),λx c e z=> ?_,λp hp z=> ?_⟩
 ·obtain⟨v,q⟩:=I.cell x c e;exact absurd (bE q.lt (by rw[z];exact hb)) (cb _)
 ·exact absurd (bE (aB (I.pin p hp).1) (by rw[z];exact hb)) (cb _)
structure Turn (P:Program)(w:World)(K:PySem.W.Frag)(tg:Expr)(J:It)(fp:List Addr)(it:Addr)(tn:Nat ->Heap ->Prop):Prop where
 mem:it∈fp
 obj: ∀i h,tn i h -> ∀b∈fp, ∃o,h.get? b=some o /\ ∀v,o.data≠ .cell v
 keep: ∀i h h',tn i h ->(∀b∈fp, ∀o,h.get? b=some o ->h'.get? b=some o) ->tn i h'
 item: ∀ (X:Cx),X.prog=P ->X.w=w ->X.K=K ->X.calm=true -> ∀ (i:Nat) (pins:List (Addr×Obj)) (s:Shared) (σ:St) (H:Hp) (E:Value ->Shared ->Prop),Inv X pins σ H s ->(∀b∈fp,je X pins H b) ->tn i s.heap ->J.go i H ->wpAny (model P w) X.A (pyNext (.ref it)) (λr s1=> ∃u,r=some u /\wpAny (model P w) X.A (letOwnedTupleGo tg (.ref it) u) (λ_ s2=> ∃x H',Inv X pins σ H' s2 /\ RelV x u /\ J.Kj i H x H' /\ tn (i+1) s2.heap /\ ∀b∈fp,H' b=none) E s1) E s
 done: ∀ (X:Cx),X.prog=P ->X.w=w ->X.K=K ->X.calm=true -> ∀ (i:Nat) (pins:List (Addr×Obj)) (s:Shared) (σ:St) (H:Hp) (E:Value ->Shared ->Prop),Inv X pins σ H s ->(∀b∈fp,je X pins H b) ->tn i s.heap ->J.stop i H ->wpAny (model P w) X.A (pyNext (.ref it)) (λr s1=>r=none /\ Inv X pins σ H s1) E s
 self: ∀ (A:Around) (i:Nat) (s:Shared) (Q:Value ->Shared ->Prop) (E:Value ->Shared ->Prop),tn i s.heap ->Q (.ref it) s ->wpAny (model P w) A (pyIter (.ref it)) Q E s
abbrev TI:=St ->Hp ->(It ->Hp ->Prop) ->Prop
def YR (X:Cx)(pins:List (Addr×Obj))(σ:St)(tg:Expr)(R:It ->Hp ->Prop)(PR:Value)(s2:Shared):Prop:=∃ (it:Addr) (fp:List Addr) (tn:Nat ->Heap ->Prop) (J:It) (H':Hp),PR= .ref it /\ Inv X pins σ H' s2 /\ Turn X.prog X.w X.K tg J fp it tn /\ tn 0 s2.heap /\ (∀b∈fp,je X pins H' b) /\ R J H'
def PI (X:Cx)(tg iter:Expr)(wi:TI):Prop:=∀ (pins:List (Addr×Obj)) (s:Shared) (σ:St) (H:Hp) (R:It ->Hp ->Prop),Inv X pins σ H s ->wi σ H R ->wpAny (model X.prog X.w) X.A (eval iter X.env) (λv s1=>wpAny (model X.prog X.w) X.A (pyIter v) (YR X pins σ tg R) X.xe s1) X.xe s
theorem zD {M:Model}{A:Around}{E:Value ->Shared ->Prop}{s:Shared}{tg:Expr}{it:Addr}{u:Value}{o:Obj}{n:String}{vs:Array Value}{Q:Unit ->Shared ->Prop}(ho:s.heap.get? it=some o)(hc:o.cls= .type n)(hd:o.data= .fields vs) (hn: ["enumerate","zip","dict_itemiterator","dict_reverseitemiterator","odict_iterator","itertools.zip_longest","itertools.pairwise"].contains n=false) (hQ:Q () s):wpAny M A (letOwnedTupleGo tg (.ref it) u) Q E s:=by
 unfold letOwnedTupleGo;cases tg <;>first
 | exact aM hQ
 | (cases u<;>first
  | exact aM hQ
  | (refine ao (wpAny_load ho ?_)
     rw[hc,hd]
     show wpAny M A (if(["enumerate","zip","dict_itemiterator","dict_reverseitemiterator","odict_iterator","itertools.zip_longest","itertools.pairwise"].contains n && vs[0]? ==some (rawInt _))=true then _ else _) Q E s
     rw[aj (by intro h;rw[hn,Bool.false_and] at h;cases h)]
     exact aM hQ))
def W3 (K:PySem.W.Frag)(a:Addr):It:=⟨λi H=> ∃xs x,f6 K H a xs /\ xs[i]? =some x,λi H x H'=>H'=H /\ ∀xs,f6 K H a xs ->xs[i]? =some x,λi H=> ∃xs,f6 K H a xs /\ xs.length<=i⟩
def W2 (K:PySem.W.Frag)(a:Addr):It:=⟨λi H=> ∃xs x,iS K H a xs /\ xs[i]? =some x,λi H x H'=>H'=H /\ ∀xs,iS K H a xs ->xs[i]? =some x,λi H=> ∃xs,iS K H a xs /\ xs.length<=i⟩
def SM (lo:Int)(n:Nat):It:=⟨λi _=>i<n,λi H x H'=>H'=H /\ x= .int (lo+i),λi _=>n<=i⟩
theorem Ap {P:Program}{w:World}{K:PySem.W.Frag}{tg:Expr}(a it:Addr):Turn P w K tg (W3 K a) [it] it (λi h=>h.IsListIter it a i) where
 mem:=by simp
 obj:=λi h st b hb=>by
  have e:b=it:=by simpa using hb
  subst e;obtain⟨o,e,c,d⟩:=st;exact⟨o,e,λv z=>by rw[d] at z;cases z⟩
 keep:=λi h h' st k=>st.at λo e=>k it (by simp) o e
 item:=by intro X hP hw hK hc i pins s σ H E I hf st hg;subst hP hw hK;obtain⟨xs,x,hq,hx⟩:=hg;obtain⟨its,rv,p,hz⟩:=I.list hq;obtain⟨u,hu,ru⟩:=rv.get hx;obtain⟨f0,f1,f2,f3,f4,f5⟩:=hf it (by simp);refine wpAny_pyNext_list_item st p.isList (x:=u) (by simpa using hu) λh' bB sb=> ?_;have I1:Inv X pins σ H {s with heap:=h'}:=I.turned (t':=s.toks) (λb o hb e=>(sb.2 b hb).trans e) f0 f1 f3 f4 f5;obtain⟨o,e,c,d⟩:=id bB;exact⟨u,rfl,zD (s:= {s with heap:=h'}) e c d (by decide) ⟨x,H,I1,ru,⟨rfl,λys hy=>by rw[I.list_inj hy hq];exact hx⟩,bB,λb hb=>(hf b hb).1⟩⟩
 done:=by intro X hP hw hK hc i pins s σ H E I hf st hg;subst hP hw hK;obtain⟨xs,hq,hx⟩:=hg;obtain⟨its,rv,p,hz⟩:=I.list hq;obtain⟨f0,f1,f2,f3,f4,f5⟩:=hf it (by simp);have hl:=rv.length;exact wpAny_pyNext_list_end (I.ok.hd hc) st p.isList (by simp;lia) λh' eb=>⟨rfl,I.turned (t':=s.toks) (λb o hb e=>eb b o hb e) f0 f1 f3 f4 f5⟩
 self:=λ_ _ _ _ _ st h=>wpAny_pyIter_listiter st h
theorem wQ {P:Program}{w:World}{K:PySem.W.Frag}{tg:Expr}(a it:Addr):Turn P w K tg (W2 K a) [it] it (λi h=>h.IsTupleIter it a i) where
 mem:=by simp
 obj:=λi h st b hb=>by
  have e:b=it:=by simpa using hb
  subst e;obtain⟨o,e,c,d⟩:=st;exact⟨o,e,λv z=>by rw[d] at z;cases z⟩
 keep:=λi h h' st k=>st.at λo e=>k it (by simp) o e
 item:=by intro X hP hw hK hc i pins s σ H E I hf st hg;subst hP hw hK;obtain⟨xs,x,hq,hx⟩:=hg;obtain⟨its,rv,p,hz⟩:=I.tuple hq;obtain⟨u,hu,ru⟩:=rv.get hx;obtain⟨f0,f1,f2,f3,f4,f5⟩:=hf it (by simp);refine wpAny_pyNext_tuple_item st (show s.heap.IsTuple a its.toArray from p) (x:=u) (by simpa using hu) λh' bB sb=> ?_;have I1:Inv X pins σ H {s with heap:=h'}:=I.turned (t':=s.toks) (λb o hb e=>(sb.2 b hb).trans e) f0 f1 f3 f4 f5;obtain⟨o,e,c,d⟩:=id bB;exact⟨u,rfl,zD (s:= {s with heap:=h'}) e c d (by decide) ⟨x,H,I1,ru,⟨rfl,λys hy=>by rw[I.mO hy hq];exact hx⟩,bB,λb hb=>(hf b hb).1⟩⟩
 done:=by intro X hP hw hK hc i pins s σ H E I hf st hg;subst hP hw hK;obtain⟨xs,hq,hx⟩:=hg;obtain⟨its,rv,p,hz⟩:=I.tuple hq;obtain⟨f0,f1,f2,f3,f4,f5⟩:=hf it (by simp);have hl:=rv.length;exact wpAny_pyNext_tuple_end (I.ok.hd hc) st (show s.heap.IsTuple a its.toArray from p) (by simp;lia) λh' eb=>⟨rfl,I.turned (t':=s.toks) (λb o hb e=>eb b o hb e) f0 f1 f3 f4 f5⟩
 self:=λ_ _ _ _ _ st h=>wpAny_pyIter_tupleiter st h
theorem wR {P:Program}{w:World}{K:PySem.W.Frag}{tg:Expr}(it:Addr)(lo:Int)(n:Nat):Turn P w K tg (SM lo n) [it] it (λi h=>IsRangeIter h it (lo+(i:Nat)*1) ((n:Int) - (i:Nat)) 1) where
 mem:=by simp
 obj :=λi h st b hb=>by
  have e:b=it:=by simpa using hb
  subst e;exact⟨_,st,λv z=>by have z':Data.fields _=Data.cell v:=z;cases z'⟩
 keep:=λi h h' st k=>k it (by simp) _ st
 item:=by intro X hP hw hK hc i pins s σ H E I hf st hg;subst hP hw hK;obtain⟨f0,f1,f2,f3,f4,f5⟩:=hf it (by simp);have W:=Walks.range (prog:=X.prog) (w:=X.w) (I.ok.hd hc) it lo 1 n;refine W.item i s _ _ hg st λv h' tk hv bB kk=> ?_;obtain⟨t,rfl⟩:=hv;have I1:Inv X pins σ H {s with heap:=h',toks:=tk}:=I.turned (λb o hb e=>kk b o (by simpa using hb) e) f0 f1 f3 f4 f5;refine⟨_,rfl,zD (s:= {s with heap:=h',toks:=tk}) (n:= "range_iterator") bB rfl rfl (by decide) ⟨.int (lo+i),H,I1,⟨t,?_⟩,⟨rfl,rfl⟩,bB,λb hb=>(hf b hb).1⟩⟩;rw[Int.mul_one]
 done:=by intro X hP hw hK hc i pins s σ H E I hf st hg;subst hP hw hK;obtain⟨f0,f1,f2,f3,f4,f5⟩:=hf it (by simp);exact wpAny_pyNext_range_end (I.ok.hd hc) st (by have:n<=i:=hg;lia) λh' eb=>⟨rfl,I.turned (t':=s.toks) (λb o hb e=>eb b o hb e) f0 f1 f3 f4 f5⟩
 self:=λ_ _ _ _ _ st h=>wpAny_pyIter_rangeiter st h
section
variable {X:Cx}{tg:Expr}
def Ey (K:PySem.W.Frag)(tl:TE):TI:=λσ H R=>tl σ H λx H1=> ∃a,x= .ref a /\ (∃xs,f6 K H1 a xs) /\ R (W3 K a) H1
def PZ (K:PySem.W.Frag)(tl:TE):TI:=λσ H R=>tl σ H λx H1=> ∃a,x= .ref a /\ (∃xs,iS K H1 a xs) /\ R (W2 K a) H1
theorem eB {l:Expr}{tl:TE}(hl:PE X l tl):PI X tg l (Ey X.K tl):=by
 intro pins s σ H R I h;refine df (hl pins s σ H _ I h) λv s1 ⟨x,H1,I1,r1,q1⟩=> ?_;obtain⟨a,e,⟨xs,hq⟩,q⟩:=q1;subst e;cases r1;obtain⟨its,rv,p,hz⟩:=I1.list hq;refine wpAny_pyIter_list p.isList ?_;refine⟨s1.heap.objs.size,[s1.heap.objs.size],_,_,H1,rfl,I1.kept (t':=s1.toks) λb o e=>ar _ e,Ap a _,⟨_,aS _ rfl,rfl,rfl⟩,λb hb=> ?_,q⟩;have e:b=s1.heap.objs.size:=by simpa using hb
 subst e;exact I1.xX (aq _) (I1.c7.fresh (aq _))
theorem Ds {l:Expr}{tl:TE}(hl:PE X l tl):PI X tg l (PZ X.K tl):=by
 intro pins s σ H R I h;refine df (hl pins s σ H _ I h) λv s1 ⟨x,H1,I1,r1,q1⟩=> ?_;obtain⟨a,e,⟨xs,hq⟩,q⟩:=q1;subst e;cases r1;obtain⟨its,rv,p,hz⟩:=I1.tuple hq;refine wpAny_pyIter_tuple (show s1.heap.IsTuple a its.toArray from p) ?_;refine⟨s1.heap.objs.size,[s1.heap.objs.size],_,_,H1,rfl,I1.kept (t':=s1.toks) λb o e=>ar _ e,wQ a _,⟨_,aS _ rfl,rfl,rfl⟩,λb hb=> ?_,q⟩;have e:b=s1.heap.objs.size:=by simpa using hb
 subst e;exact I1.xX (aq _) (I1.c7.fresh (aq _))
theorem Dd {pins:List (Addr×Obj)}{σ:St}{H:Hp}{s:Shared}{R:It ->Hp ->Prop}{E:Value ->Shared ->Prop}{lo hi:Int}{t u v:Tok}{tk:Nat}(I:Inv X pins σ H s)(h1: -(2 ^ 62) <=lo)(h2:lo<2 ^ 62)(h3: -(2 ^ 62) <=hi)(h4:hi<2 ^ 62) (q:R (SM lo (hi - lo).toNat) H):wpAny (model X.prog X.w) X.A (pyIter (.ref s.heap.objs.size)) (YR X pins σ tg R) E {s with heap:=s.heap.push {cls:= .type "range",data:= .fields #[.int lo t, .int hi u, .int 1 v]},toks:=tk}:=by
 refine wpAny_pyIter_range (IsRange.new ..) (small_one h1 h2 h3 h4) ?_;have I1:Inv X pins σ H {s with heap:=s.heap.push {cls:= .type "range",data:= .fields #[.int lo t, .int hi u, .int 1 v]},toks:=tk}:=I.kept λb o e=>ar _ e;refine⟨(s.heap.push {cls:= .type "range",data:= .fields #[.int lo t, .int hi u, .int 1 v]}).objs.size,[(s.heap.push {cls:= .type "range",data:= .fields #[.int lo t, .int hi u, .int 1 v]}).objs.size],_,_,H,rfl,I1.kept (t':=tk) λb o e=>ar _ e,wR _ lo (hi - lo).toNat,?_,λb hb=> ?_,q⟩
 ·have e1:lo+((0:Nat):Int)*1=lo:=by simp
  have e2:(((hi - lo).toNat:Nat):Int) - ((0:Nat):Int)=Builtin.Range.rangeSize lo hi 1:=by rw[rangeSize_one];split<;>lia
  show IsRangeIter _ _ (lo+((0:Nat):Int)*1) ((((hi - lo).toNat:Nat):Int) - ((0:Nat):Int)) 1;rw[e1,e2];exact aS _ rfl
 ·have e:b=(s.heap.push {cls:= .type "range",data:= .fields #[.int lo t, .int hi u, .int 1 v]}).objs.size:=by simpa using hb
  subst e;exact I1.xX (aq _) (I1.c7.fresh (aq _))
def Ju (ta:TA):TI:=λσ H R=>ta σ H λvs H1=> ∃j:Int,vs= [.int j] /\ -(2 ^ 62) <=j /\ j<2 ^ 62 /\ R (SM 0 j.toNat) H1
theorem iJ {a:Expr}{ta:TA}{p pos:Pos}(hg:Gl X "range")(hm:X.mg "range" =none)(ha:PA X [a] ta)(hs:starEach [a] X.env= [(false,eval a X.env)]:=by rfl):PI X tg (.Call (.Name "range" p) [a] [] pos) (Ju ta):=by
 intro pins s σ H R I h;refine Call_ (gr I hg hm boot_range (bO (df (ha pos pins s σ H _ I h) λus s1 ⟨vs,H1,I1,r1,q1⟩=> ?_) hs rfl));obtain⟨j,e,q1,q2,q⟩:=q1;subst e;cases r1 with
 | cons r rr=>cases rr;obtain⟨t,rfl⟩:=r;exact call_range_1 (Dd I1 (by lia) (by lia) q1 q2 (by simpa using q))
def OD (wi:TI)(g:TG)(tb:TS):TS:=λD σ H=>wi σ H λJ H1=> ∃W:Nat ->Nat ->St ->Hp ->Prop,(∃m,W 0 m σ H1) /\ ∀i m σ H,W i m σ H ->(J.stop i H /\ D.nx σ H) \/ (J.go i H /\ ∃N:St ->Hp ->Prop,(∀σ' H',N σ' H' -> ∃m',m'<m /\ W (i+1) m' σ' H') /\ ∀x H',J.Kj i H x H' ->g x σ H' λσ2 H2=>tb {D with nx:=N,ct:=N,bk:=D.nx} σ2 H2)
def gJ (fp:List Addr)(h:Heap):List (Addr×Obj):=fp.filterMap λb=>(h.get? b).map λo=>(b,o)
theorem eI {fp:List Addr}{h:Heap}{b:Addr}{o:Obj}(hb:b∈fp)(e:h.get? b=some o):(b,o)∈gJ fp h:=List.mem_filterMap.mpr ⟨b,hb,by rw[e];rfl⟩
theorem AG {fp:List Addr}{h:Heap}{p:Addr×Obj}(hp:p∈gJ fp h):p.1∈fp /\ h.get? p.1=some p.2:=by
 obtain⟨b,hb,e⟩:=List.mem_filterMap.mp hp;cases q:h.get? b with
 | none=>rw[q] at e;cases e
 | some o=>rw[q] at e;have e':(b,o)=p:=br e;subst e';exact⟨hb,q⟩
theorem Inv.pinned {pins:List (Addr×Obj)}{σ:St}{H:Hp}{s:Shared}{fp:List Addr}(I:Inv X pins σ H s)(hf: ∀b∈fp,je X pins H b)(ho: ∀b∈fp, ∃o,s.heap.get? b=some o /\ ∀v,o.data≠ .cell v):Inv X (pins++gJ fp s.heap) σ H s:=I.y8 λp hp=>(ax.mp hp).elim (λz=>I.pin p (aT _ z)) λz=>by obtain⟨hb,e⟩:=AG z;obtain⟨f0,f1,f2,_⟩:=hf p.1 hb;obtain⟨o,e',d⟩:=ho p.1 hb;rw[e] at e';cases e';exact⟨e,f0,f1,f2,d⟩
theorem Inv.iE {pins pl:List (Addr×Obj)}{σ:St}{H:Hp}{s:Shared}(I:Inv X (pins++pl) σ H s):Inv X pins σ H s:=I.y8 λp hp=>I.pin p (aT _ (List.mem_append_left _ hp))
theorem fT {iter:Expr}{body:List Stmt}{wi:TI}{g:TG}{tb:TS}{pos:Pos}(hp:PassesOwn (model X.prog X.w) X.A X.env X.xe)(hc:X.calm=true)(hi:PI X tg iter wi)(hg:PG X tg g)(hb:wF X body tb) (hs: ∀x,foldedSetIterable iter X.env x=pure x:=by intro _;rfl):PS X (.For tg iter body [] pos) (OD wi g tb):=by
 intro pins s σ H D I h;refine wpAny_For (df (hi pins s σ H _ I h) λv s1 h1=>df h1 λPR s2 h2=> ?_) hs;obtain⟨it,fp,tn,J,H2,e,I2,T,lu,f2,W,⟨m0,w0⟩,turn⟩:=h2;subst e;have oO: ∀ {H':Hp},(∀b∈fp,H' b=none) -> ∀b∈fp,je X pins H' b:=λhn b hb=>⟨hn b hb,(f2 b hb).2⟩
 refine codeAny_forLoop_any (λn s'=> ∃i σ' H',Inv X pins σ' H' s' /\ tn i s'.heap /\ (∀b∈fp,H' b=none) /\ W i n σ' H') ?_ m0 ⟨0,σ,H2,I2,lu,λb hb=>(f2 b hb).1,w0⟩;rintro n s3 ⟨i,σ3,H3,I3,nB,Hx,w3⟩;rcases turn i n σ3 H3 w3 with⟨stop,qn⟩ | ⟨go,N,hN,step⟩
 ·refine wpAny_passesOwn hp (df (T.done X rfl rfl rfl hc i pins s3 σ3 H3 X.xe I3 (oO Hx) nB stop) λr s4 ⟨hr,I4⟩=> ?_);subst hr;exact wpAny_execs_nil ⟨σ3,H3,I4,qn⟩
 ·refine wpAny_passesOwn hp (df (T.item X rfl rfl rfl hc i pins s3 σ3 H3 X.xe I3 (oO Hx) nB go) λr s4 ⟨u,hr,h4⟩=> ?_);subst hr;refine wpAny_passesOwn hp (df h4 λ_ s5 ⟨x,H5,I5,r5,y5,Nc,fr5⟩=> ?_);have I5':=I5.pinned (oO fr5) (T.obj _ _ Nc);refine wpAny_passesOwn hp (df (hg _ s5 σ3 H5 x u _ I5' r5 (step x H5 y5)) λ_ s6 ⟨σ6,H6,I6,q6⟩=> ?_);refine wpAny_passesOwn hp (df (hb _ s6 σ6 H6 _ I6 q6) λf s7 q7=> ?_);have again: ∀ {σ7:St} {H7:Hp},Inv X (pins++gJ fp s5.heap) σ7 H7 s7 ->N σ7 H7 -> ∃m,m<n /\ ∃i σ' H',Inv X pins σ' H' s7 /\ tn i s7.heap /\ (∀b∈fp,H' b=none) /\ W i m σ' H':=λ{σ7 H7} I7 n7=>by obtain⟨m',hm,w7⟩:=hN σ7 H7 n7;refine⟨m',hm,i+1,σ7,H7,I7.iE,T.keep _ _ _ Nc λb hb o e=>(I7.pin (b,o) (aT _ (aT _ (eI hb e)))).1,λb hb=> ?_,w7⟩;obtain⟨o,e,d⟩:=T.obj _ _ Nc b hb;exact(I7.pin (b,o) (aT _ (aT _ (eI hb e)))).2.1
  cases f with
  | next=>obtain⟨σ7,H7,I7,n7⟩:=q7;exact again I7 n7
  | cont=>obtain⟨σ7,H7,I7,n7⟩:=q7;exact again I7 n7
  | brk=>obtain⟨σ7,H7,I7,q7⟩:=q7;exact⟨σ7,H7,I7.iE,q7⟩
  | ret v=>obtain⟨x7,σ7,H7,I7,r7,q7⟩:=q7;exact⟨x7,σ7,H7,I7.iE,r7,q7⟩
end
abbrev R2:=V ->V ->Hp ->VK ->Prop
def pZ (X:Cx)(f:Value ->Value ->Sem Value)(r:R2):Prop:=∀ (pins:List (Addr×Obj)) (s:Shared) (σ:St) (H:Hp) (x y:V) (v u:Value) (Q:VK),Inv X pins σ H s ->RelV x v ->RelV y u ->r x y H Q ->wpAny (model X.prog X.w) X.A (f v u) (EP X pins σ Q) X.xe s
def WU (X:Cx)(f:Value ->Sem Value)(r:V ->Hp ->VK ->Prop):Prop:=∀ (pins:List (Addr×Obj)) (s:Shared) (σ:St) (H:Hp) (x:V) (v:Value) (Q:VK),Inv X pins σ H s ->RelV x v ->r x H Q ->wpAny (model X.prog X.w) X.A (f v) (EP X pins σ Q) X.xe s
def gw (X:Cx)(f:Value)(r:List V ->Hp ->VK ->Prop):Prop:=∀ (pins:List (Addr×Obj)) (s:Shared) (σ:St) (H:Hp) (xs:List V) (us:List Value) (Q:VK),Inv X pins σ H s ->Vals xs us ->r xs H Q ->wpAny (model X.prog X.w) X.A (call f us) (EP X pins σ Q) X.xe s
def WV (X:Cx)(r:V ->Hp ->(Bool ->Hp ->Prop) ->Prop):Prop:=∀ (pins:List (Addr×Obj)) (s:Shared) (σ:St) (H:Hp) (x:V) (v:Value) (Q:Bool ->Hp ->Prop),Inv X pins σ H s ->RelV x v ->r x H Q ->wpAny (model X.prog X.w) X.A (truthy v) (TP X pins σ Q) X.xe s
def Oz (r:R2)(ta tb:TE):TE:=λσ H Q=>ta σ H λx H1=>tb σ H1 λy H2=>r x y H2 Q
def Xn (r:V ->Hp ->VK ->Prop)(ta:TE):TE:=λσ H Q=>ta σ H λx H1=>r x H1 Q
def rI (C:Int ->Int ->Prop)(g:Int ->Int ->V):R2:=λx y H Q=> ∃i j,x= .int i /\ y= .int j /\ C i j /\ Q (g i j) H
def Jg (g:Int ->Int ->V):R2:=λx y H Q=> ∃i j,x= .int i /\ y= .int j /\ Q (g i j) H
def rU (g:Int ->V):V ->Hp ->VK ->Prop:=λx H Q=> ∃i,x= .int i /\ Q (g i) H
section
variable {X:Cx}{a b c:Expr}{ta tb tc:TE}{pos:Pos}
theorem MK (ha:PE X a ta)(hb:PE X b tb){pins:List (Addr×Obj)}{s:Shared}{σ:St}{H:Hp}{R:V ->V ->Hp ->Prop}(I:Inv X pins σ H s) (h:ta σ H λx H1=>tb σ H1 λy H2=>R x y H2) {Q:Value ->Shared ->Prop} {f:Value ->Value ->Sem Value} (hf: ∀v u s2 x y H2,Inv X pins σ H2 s2 ->RelV x v ->RelV y u ->R x y H2 ->wpAny (model X.prog X.w) X.A (f v u) Q X.xe s2): wpAny (model X.prog X.w) X.A (eval a X.env) (λv s₁=>wpAny (model X.prog X.w) X.A (eval b X.env) (λu s₂=>wpAny (model X.prog X.w) X.A (f v u) Q X.xe s₂) X.xe s₁) X.xe s:=by refine df (ha pins s σ H _ I h) λv s1 ⟨x,H1,I1,r1,q1⟩=> ?_;refine df (hb pins s1 σ H1 _ I1 q1) λu s2 ⟨y,H2,I2,r2,q2⟩=> ?_;exact hf v u s2 x y H2 I2 r1 r2 q2
theorem bQ {op:Operator}{r:R2}(ho:pZ X (binaryOp op) r)(ha:PE X a ta)(hb:PE X b tb):PE X (.BinOp a op b pos) (Oz r ta tb):=by intro pins s σ H Q I h;exact wpAny_BinOp (MK ha hb I h λv u s2 x y H2 I2 rx ry q=>ho pins s2 σ H2 x y v u Q I2 rx ry q)
theorem lJ {op:UnaryOp}{r:V ->Hp ->VK ->Prop}(ho:WU X (unaryOp op) r)(ha:PE X a ta):PE X (.UnaryOp op a pos) (Xn r ta):=by intro pins s σ H Q I h;exact UnaryOp_ (df (ha pins s σ H _ I h) λv s1 ⟨x,H1,I1,r1,q1⟩=>ho pins s1 σ H1 x v Q I1 r1 q1)
theorem RJ {f:Value ->Value ->Sem Value}{C:Int ->Int ->Prop}{g:Int ->Int ->Int} (rule: ∀ (i j:Int) (t u:Tok) (s:Shared) (Q:Value ->Shared ->Prop) (E:Value ->Shared ->Prop),C i j ->Q (.int (g i j) s.toks) {s with toks:=s.toks+1} ->wpAny (model X.prog X.w) X.A (f (.int i t) (.int j u)) Q E s): pZ X f (rI C λi j=> .int (g i j)):=by intro pins s σ H x y v u Q I rx ry h;obtain⟨i,j,rfl,rfl,hc,q⟩:=h;obtain⟨t,rfl⟩:=rx;obtain⟨t',rfl⟩:=ry;exact rule i j t t' s _ _ hc ⟨.int (g i j),H,I.tok _,⟨_,rfl⟩,q⟩
theorem Pg {f:Value ->Value ->Sem Value}{g:Int ->Int ->Int} (rule: ∀ (i j:Int) (t u:Tok) (s:Shared) (Q:Value ->Shared ->Prop) (E:Value ->Shared ->Prop),Q (.int (g i j) s.toks) {s with toks:=s.toks+1} ->wpAny (model X.prog X.w) X.A (f (.int i t) (.int j u)) Q E s): pZ X f (Jg λi j=> .int (g i j)):=by intro pins s σ H x y v u Q I rx ry h;obtain⟨i,j,rfl,rfl,q⟩:=h;obtain⟨t,rfl⟩:=rx;obtain⟨t',rfl⟩:=ry;exact rule i j t t' s _ _ ⟨.int (g i j),H,I.tok _,⟨_,rfl⟩,q⟩
theorem Lk {f:Value ->Value ->Sem Value}{g:Int ->Int ->Bool} (rule: ∀ (i j:Int) (t u:Tok) (s:Shared) (Q:Value ->Shared ->Prop) (E:Value ->Shared ->Prop),Q (.bool (g i j)) s ->wpAny (model X.prog X.w) X.A (f (.int i t) (.int j u)) Q E s): pZ X f (Jg λi j=> .bl (g i j)):=by intro pins s σ H x y v u Q I rx ry h;obtain⟨i,j,rfl,rfl,q⟩:=h;obtain⟨t,rfl⟩:=rx;obtain⟨t',rfl⟩:=ry;exact rule i j t t' s _ _ ⟨.bl (g i j),H,I,rfl,q⟩
def yn (i j:Int):Prop:=0<j /\ j<1073741824
def MY (i j:Int):Prop:=0<=j /\ j<=1000000 /\ i.natAbs<2 ^ 64
def iW (i j:Int):Prop:=(-(2 ^ 64) <i /\ i<2 ^ 64) \/ (-(2 ^ 64) <j /\ j<2 ^ 64)
theorem iW.ok {i j:Int}(h:iW i j):IntMulOk i j:=by
 rcases h with⟨h1,h2⟩ | ⟨h1,h2⟩
 ·exact .of_left (intBits_le_64 h1 h2)
 ·exact .of_right (intBits_le_64 h1 h2)
theorem dU:pZ X (binaryOp .Add) (Jg λi j=> .int (i+j)):=Pg λ_ _ _ _ _ _ _ q=>add_int q
theorem iC:pZ X (binaryOp .Sub) (Jg λi j=> .int (i - j)):=Pg λ_ _ _ _ _ _ _ q=>sub_int q
theorem fU:pZ X (binaryOp .Mult) (rI iW λi j=> .int (i*j)):=RJ λ_ _ _ _ _ _ _ hc q=>mul_int q hc.ok
theorem sZ:pZ X (binaryOp .FloorDiv) (rI yn λi j=> .int (i / j)):=RJ λi j _ _ _ _ _ hc q=>by have h1:(0:Int) <j:=hc.1;have h2:j<1073741824:=hc.2;exact floordiv_int (by lia) (by rw[Int.fdiv_eq_ediv_of_nonneg i (by lia)];exact q) (.inl (PyProof.noPylong_small (by lia)))
theorem gq:pZ X (binaryOp .Mod) (rI (λ_ j=>0<j) λi j=> .int (i % j)):=RJ λi j _ _ _ _ _ hc q=>by have h1:(0:Int) <j:=hc;exact mod_int' (by lia) (by rw[Int.fmod_eq_emod_of_nonneg i (by lia)];exact q)
theorem Lj:pZ X (binaryOp .Pow) (rI MY λi j=> .int (i ^ j.toNat)):=RJ λ_ _ _ _ _ _ _ hc q=>pow_int_small hc.1 hc.2.1 hc.2.2 q
theorem Y9 {f:Value ->Sem Value}{g:Int ->Int} (rule: ∀ (i:Int) (t:Tok) (s:Shared) (Q:Value ->Shared ->Prop) (E:Value ->Shared ->Prop),Q (.int (g i) s.toks) {s with toks:=s.toks+1} ->wpAny (model X.prog X.w) X.A (f (.int i t)) Q E s): WU X f (rU λi=> .int (g i)):=by intro pins s σ H x v Q I rx h;obtain⟨i,rfl,q⟩:=h;obtain⟨t,rfl⟩:=rx;exact rule i t s _ _ ⟨.int (g i),H,I.tok _,⟨_,rfl⟩,q⟩
theorem iX:WU X (unaryOp .USub) (rU λi=> .int (-i)):=Y9 λ_ _ _ _ _ q=>neg_int q
end
def Gp:V ->V ->Bool
 | .dB, .dB=>true | .dB, .int _=>true | .int _, .dB=>true | .dB, .bl _=>true | .bl _, .dB=>true | .dB, .str _=>true | .str _, .dB=>true
 | .int _, .int _=>true | .bl _, .bl _=>true | .str _, .str _=>true | .yg _, .yg _=>true
 | .int _, .str _=>true | .str _, .int _=>true | .bl _, .str _=>true | .str _, .bl _=>true
 | _,_=>false
def XB:R2:=λx y H Q=>Gp x y=true /\ Q (.bl (decide (x=y))) H
def XA:R2:=λx y H Q=>Gp x y=true /\ Q (.bl (!decide (x=y))) H
theorem zR {i j:Int}:decide (V.int i=V.int j)=(i==j):=by rw[Bool.eq_iff_iff];simp
theorem Fd {i j:Bool}:decide (V.bl i=V.bl j)=(i==j):=by rw[Bool.eq_iff_iff];simp
theorem zQ {i j:Str}:decide (V.str i=V.str j)=(i==j):=by rw[Bool.eq_iff_iff];simp
theorem zS {i j:Array UInt8}:decide (V.yg i=V.yg j)=(i.toList==j.toList):=by rw[Bool.eq_iff_iff];cases i;cases j;simp
section
variable {X:Cx}{a b c:Expr}{ta tb tc:TE}{pos:Pos}
theorem cS {pins:List (Addr×Obj)}{σ:St}{H:Hp}{s:Shared}{Q:VK}{k k':Bool}(I:Inv X pins σ H s)(q:Q (.bl k) H)(e:k=k'):EP X pins σ Q (.bool k') s:=by subst e;exact⟨.bl k,H,I,rfl,q⟩
theorem iL:pZ X (compareOp .Eq) XB:=by
 intro pins s σ H x y v u Q I rx ry h;obtain⟨hs,q⟩:=h;cases x with
 | dB=>
  cases rx;cases y with
  | dB=>cases ry;exact PySem.EqNone.eq_none_none (cS I q (by simp))
  | bl j=>cases ry;exact PySem.EqNone.eq_none_bool (cS I q (by simp))
  | int j=>obtain⟨t',rfl⟩:=ry;exact PySem.EqNone.eq_none_int (cS I q (by simp))
  | str j=>obtain⟨t',rfl⟩:=ry;exact PySem.EqNone.eq_none_str (cS I q (by simp))
  | _=>exact absurd (show false=true from hs) aW
 | bl i=>
  cases rx;cases y with
  | dB=>cases ry;exact PySem.EqNone.eq_bool_none (cS I q (by simp))
  | bl j=>cases ry;exact eq_bool (cS I q Fd)
  | str j=>obtain⟨t',rfl⟩:=ry;exact PySem.EqMixed.eq_bool_str (cS I q (by simp))
  | _=>exact absurd (show false=true from hs) aW
 | int i=>
  obtain⟨t,rfl⟩:=rx;cases y with
  | dB=>cases ry;exact PySem.EqNone.eq_int_none (cS I q (by simp))
  | int j=>obtain⟨t',rfl⟩:=ry;exact eq_int (cS I q zR)
  | str j=>obtain⟨t',rfl⟩:=ry;exact PySem.EqMixed.eq_int_str (cS I q (by simp))
  | _=>exact absurd (show false=true from hs) aW
 | str i=>
  obtain⟨t,rfl⟩:=rx;cases y with
  | dB=>cases ry;exact PySem.EqNone.eq_str_none (cS I q (by simp))
  | bl j=>cases ry;exact PySem.EqMixed.eq_str_bool (cS I q (by simp))
  | int j=>obtain⟨t',rfl⟩:=ry;exact PySem.EqMixed.eq_str_int (cS I q (by simp))
  | str j=>obtain⟨t',rfl⟩:=ry;exact eq_str (cS I q zQ)
  | _=>exact absurd (show false=true from hs) aW
 | yg i=>
  obtain⟨t,rfl⟩:=rx;cases y with
  | yg j=>obtain⟨t',rfl⟩:=ry;exact PySem.W.eq_bytes (cS I q zS)
  | _=>exact absurd (show false=true from hs) aW
 | _=>cases y<;>exact absurd (show false=true from hs) aW
theorem vb:pZ X (compareOp .NotEq) XA:=by
 intro pins s σ H x y v u Q I rx ry h;obtain⟨hs,q⟩:=h;cases x with
 | dB=>
  cases rx;cases y with
  | dB=>cases ry;exact PySem.EqNone.ne_none_none (cS I q (by simp))
  | bl j=>cases ry;exact PySem.EqNone.ne_none_bool (cS I q (by simp))
  | int j=>obtain⟨t',rfl⟩:=ry;exact PySem.EqNone.ne_none_int (cS I q (by simp))
  | str j=>obtain⟨t',rfl⟩:=ry;exact PySem.EqNone.ne_none_str (cS I q (by simp))
  | _=>exact absurd (show false=true from hs) aW
 | bl i=>
  cases rx;cases y with
  | dB=>cases ry;exact PySem.EqNone.ne_bool_none (cS I q (by simp))
  | bl j=>cases ry;exact ne_bool (cS I q (congrArg not Fd))
  | str j=>obtain⟨t',rfl⟩:=ry;exact PySem.EqMixed.ne_bool_str (cS I q (by simp))
  | _=>exact absurd (show false=true from hs) aW
 | int i=>
  obtain⟨t,rfl⟩:=rx;cases y with
  | dB=>cases ry;exact PySem.EqNone.ne_int_none (cS I q (by simp))
  | int j=>obtain⟨t',rfl⟩:=ry;exact ne_int (cS I q (congrArg not zR))
  | str j=>obtain⟨t',rfl⟩:=ry;exact PySem.EqMixed.ne_int_str (cS I q (by simp))
  | _=>exact absurd (show false=true from hs) aW
 | str i=>
  obtain⟨t,rfl⟩:=rx;cases y with
  | dB=>cases ry;exact PySem.EqNone.ne_str_none (cS I q (by simp))
  | bl j=>cases ry;exact PySem.EqMixed.ne_str_bool (cS I q (by simp))
  | int j=>obtain⟨t',rfl⟩:=ry;exact PySem.EqMixed.ne_str_int (cS I q (by simp))
  | str j=>obtain⟨t',rfl⟩:=ry;exact ne_str (cS I q (congrArg not zQ))
  | _=>exact absurd (show false=true from hs) aW
 | yg i=>
  obtain⟨t,rfl⟩:=rx;cases y with
  | yg j=>obtain⟨t',rfl⟩:=ry;exact PySem.W.ne_bytes (cS I q (congrArg not zS))
  | _=>exact absurd (show false=true from hs) aW
 | _=>cases y<;>exact absurd (show false=true from hs) aW
theorem vc:pZ X (compareOp .Lt) (Jg λi j=> .bl (decide (i<j))):=Lk λ_ _ _ _ _ _ _ q=>lt_int q
theorem Jl:pZ X (compareOp .Gt) (Jg λi j=> .bl (decide (j<i))):=Lk λ_ _ _ _ _ _ _ q=>gt_int q
theorem DM:pZ X (compareOp .GtE) (Jg λi j=> .bl (decide (j<=i))):=Lk λ_ _ _ _ _ _ _ q=>ge_int q
theorem GU:pZ X (compareOp .IsNot) (λx y H Q=>y= .dB /\ Q (.bl (!decide (x= .dB))) H):=by
 intro pins s σ H x y v u Q I rx ry h;obtain⟨rfl,q⟩:=h;cases ry;refine isnot_none_gen (cS I q ?_);cases x<;>first
 | (cases rx;rfl)
 | (obtain⟨t,rfl⟩:=rx;rfl)
theorem c9 (b:Expr){op:CmpOp}(h:op≠ .In:=by decide)(h2:op≠ .NotIn:=by decide):behindInMarks op b=false:=by
 have e1:(op==CmpOp.In)=false:=by cases op<;>first | rfl | exact absurd rfl h
 have e2:(op==CmpOp.NotIn)=false:=by cases op<;>first | rfl | exact absurd rfl h2
 cases b<;>simp[behindInMarks,e1,e2]
theorem zd {op:CmpOp}{r:R2}(ho:pZ X (compareOp op) r)(ha:PE X a ta)(hb:PE X b tb)(hm:behindInMarks op b=false):PE X (.Compare a [op] [b] pos) (Oz r ta tb):=by intro pins s σ H Q I h;exact wpAny_Compare1 (MK ha hb I h λv u s2 x y H2 I2 rx ry q=>ho pins s2 σ H2 x y v u Q I2 rx ry q) hm
def Cw (t:TE):TT:=λσ H Q=>t σ H λx H'=> ∃k,x= .bl k /\ Q k H'
theorem cH {op:CmpOp}{r:R2}(ho:pZ X (compareOp op) r)(ha:PE X a ta)(hb:PE X b tb)(hm:behindInMarks op b=false):PT X (.Compare a [op] [b] pos) (Cw (Oz r ta tb)):=by intro pins s σ H Q I h;refine wpAny_isTrue_Compare1 (df (ha pins s σ H _ I h) λv s1 ⟨x,H1,I1,r1,q1⟩=>df (hb pins s1 σ H1 _ I1 q1) λu s2 ⟨y,H2,I2,r2,q2⟩=>df (ho pins s2 σ H2 x y v u _ I2 r1 r2 q2) λc s3 ⟨z,H3,I3,r3,k,e,q3⟩=> ?_) hm;subst e;cases r3;exact wpAny_truthy_bool ⟨H3,I3,q3⟩
def CI (r r':R2)(ta tb tc:TE):TE:=λσ H Q=>ta σ H λx H1=>tb σ H1 λy H2=>r x y H2 λz H3=> ∃k,z= .bl k /\(if k=true then tc σ H3 λw' H4=>r' y w' H4 Q else Q (.bl false) H3)
theorem Dl {op Tw:CmpOp}{r r':R2}(ho:pZ X (compareOp op) r)(Hk:pZ X (compareOp Tw) r')(ha:PE X a ta)(hb:PE X b tb)(hc:PE X c tc) (hm:lastMarks [op,Tw] [b,c]=false:=by with_unfolding_all rfl):PT X (.Compare a [op,Tw] [b,c] pos) (Cw (CI r r' ta tb tc)):=by
 intro pins s σ H Q I h;refine isTrue_chain (df (ha pins s σ H _ I h) λv s1 ⟨x,H1,I1,r1,q1⟩=>test_link (df (hb pins s1 σ H1 _ I1 q1) λu s2 ⟨y,H2,I2,r2,q2⟩=>df (ho pins s2 σ H2 x y v u _ I2 r1 r2 q2) λd s3 ⟨z,H3,I3,r3,k,e,q3⟩=> ?_)) hm;subst e;cases r3;refine wpAny_truthy_bool ?_;cases k with
 | false=>obtain⟨k',e',q'⟩:=q3;cases e';exact ite_ff ⟨H3,I3,q'⟩
 | true=>refine ite_tt (test_last (df (hc pins s3 σ H3 _ I3 q3) λw' s4 ⟨z',H4,I4,r4,q4⟩=>df (Hk pins s4 σ H4 y z' u w' _ I4 r2 r4 q4) λd' s5 ⟨z2,H5,I5,r5,k2,e2,q5⟩=> ?_));subst e2;cases r5;exact wpAny_truthy_bool ⟨H5,I5,q5⟩
def HR (K:PySem.W.Frag)(x:V)(H:Hp)(k:Bool):Prop:=
 match x with
 | .dB=>k=false
 | .bl b=>k=b
 | .int i=>k=(i !=0)
 | .str y=>y.length<=sizeLine /\ k=((y.length:Int) !=0)
 | .yg y=>y.size<=sizeLine /\ k=((y.size:Int) !=0)
 | .ref p=>(∃xs,f6 K H p xs /\ k= !xs.isEmpty) \/ (∃xs,iS K H p xs /\ k= !xs.isEmpty) \/ ∃kvs,H p=some (.dK kvs) /\ k= !kvs.isEmpty
 | _=>False
theorem xN {κ:Type}{kvs:List (κ×V)}{vs:List (κ×Value)}(r:KV kvs vs):(!vs.isEmpty)= !kvs.isEmpty:=by cases r<;>rfl
theorem pI {xs:List V}{its:List Value}(r:Vals xs its):(!its.toArray.isEmpty)= !xs.isEmpty:=by cases r<;>simp
theorem pC:(sizeLine:Nat) <2 ^ 63:=by rw[cC];decide
theorem KD:WV X (λx H Q=> ∃k,HR X.K x H k /\ Q k H):=by
 intro pins s σ H x v Q I rx h;obtain⟨k,e,q⟩:=h;have hl:=pC;have hs:sizeLine=16777216:=cC;cases x with
 | dB=>cases rx;have e':k=false:=e;subst e';exact truthy_none ⟨H,I,q⟩
 | bl b=>cases rx;have e':k=b:=e;subst e';exact wpAny_truthy_bool ⟨H,I,q⟩
 | int i=>obtain⟨t,rfl⟩:=rx;have e':k=(i !=0):=e;subst e';exact PySem.P.truthy_int ⟨H,I,q⟩
 | str y=>obtain⟨t,rfl⟩:=rx;obtain⟨hy,e'⟩:y.length<=sizeLine /\ k=((y.length:Int) !=0):=e;subst e';exact PySem.P.truthy_str (by lia) ⟨H,I.tok _,q⟩
 | yg y=>obtain⟨t,rfl⟩:=rx;obtain⟨hy,e'⟩:y.size<=sizeLine /\ k=((y.size:Int) !=0):=e;subst e';exact PySem.W.truthy_bytes (by lia) ⟨H,I.tok _,q⟩
 | ref p=>
  cases rx;have e':(∃xs,f6 X.K H p xs /\ k= !xs.isEmpty) \/ (∃xs,iS X.K H p xs /\ k= !xs.isEmpty) \/ ∃kvs,H p=some (.dK kvs) /\ k= !kvs.isEmpty:=e;rcases e' with⟨xs,hx,e'⟩ | ⟨xs,hx,e'⟩ | ⟨kvs,hx,e'⟩
  ·subst e';obtain⟨its,r,pl,hz⟩:=I.list hx;have hlen:=r.length;exact wpAny_truthy_list pl.isList (by simp only[aO];lia) ⟨H,I.tok _,by rw[pI r];exact q⟩
  ·subst e';obtain⟨its,r,pl,hz⟩:=I.tuple hx;have hlen:=r.length;exact truthy_tuple pl (by simp only[aO];lia) ⟨H,I.tok _,by rw[pI r];exact q⟩
  ·subst e';obtain⟨hz,hS,vs,r,m⟩:kvs.length<=sizeLine /\ (p==sysModules)=false /\ ∃vs,KV kvs vs /\ s.heap.DictOf (cu X.prog X.w) p vs:=I.c7 p _ hx;have hlen:kvs.length=vs.length:=Paired.length r;exact wpAny_truthy_dict hS m (by lia) ⟨H,I.tok _,by rw[xN r];exact q⟩
 | _=>exact(show False from e).elim
theorem Dk (ha:PE X a ta)(he: ∀whole,isTrue a X.env whole=(do let v <- whole;standAt a.pos;holding [v] (truthy v))): PT X a (λσ H Q=>ta σ H λx H'=> ∃k,HR X.K x H' k /\ Q k H'):=by intro pins s σ H Q I h;exact isTrue_plain (df (ha pins s σ H _ I h) λv s1 ⟨x,H1,I1,r1,q1⟩=>KD pins s1 σ H1 x v Q I1 r1 q1) (he _)
theorem vals1 {x:V}{us:List Value}(r:Vals [x] us): ∃u,us= [u] /\ RelV x u:=by
 cases r with
 | cons r1 r2=>cases r2;exact⟨_,rfl,r1⟩
theorem vals2 {x y:V}{us:List Value}(r:Vals [x,y] us): ∃u w',us= [u,w'] /\ RelV x u /\ RelV y w':=by
 cases r with
 | cons r1 r2=>
  cases r2 with
  | cons r3 r4=>cases r4;exact⟨_,_,rfl,r1,r3⟩
theorem Fs:gw X (.builtin "abs") (λxs H Q=> ∃i,xs= [.int i] /\ Q (.int (if i<0 then -i else i)) H):=by intro pins s σ H xs us Q I r h;obtain⟨i,rfl,q⟩:=h;obtain⟨u,rfl,t,rfl⟩:=vals1 r;exact call_abs_int λu tk=>⟨.int (if i<0 then -i else i),H,I.tok _,⟨_,rfl⟩,q⟩
end
structure Bz (h:Heap)(x dx C:Addr)(mA:Str ->Option Value):Prop where
 obj:h.get? x=some (PySem.W.instObj C dx)
 ns:h.Ns1 dx mA
 ne:dx≠x
theorem AN {h:Heap}{dx:Addr}{mA:Str ->Option Value}(n:h.Ns1 dx mA): ∃od,h.get? dx=some od /\ ∀name,PySem.W.lookIn name od=some (mA name):=by
 obtain⟨o,es,ep,ho,hd,hk,_,hm⟩:=n;refine⟨o,ho,λname=> ?_⟩;have e:=hm name;unfold nsFind findBy at e;rw[<- Array.find?_toList] at e;unfold PySem.W.lookIn;rw[hd];dsimp only;split
 ·rename_i y q;rw[q] at e;exact congrArg some e
 ·rename_i q;rw[q] at e;have a:es.toList.any (·.refKey)=false:=by rw[List.any_eq_false];intro y hy;obtain⟨z,t,pL⟩:=hk y (Array.mem_toList_iff.mp hy);simp[DictEntry.refKey,pL]
  have a':¬es.toList.any (·.refKey)=true:=by rw[a];exact aW
  rw[aj a'];exact congrArg some e
theorem Bz.look {h:Heap}{x dx C:Addr}{mA:Str ->Option Value}(I:Bz h x dx C mA): ∃od,PySem.W.InstAt h x (PySem.W.instObj C dx) C (some od) /\ ∀name,PySem.W.lookIn name od=some (mA name):=
 let ⟨od,ho,hl⟩:=AN I.ns
 ⟨od,⟨I.obj,rfl,rfl,ho⟩,hl⟩
section
variable {prog:Program}{w:World}{A:Around}{E:Value ->Shared ->Prop}{s:Shared}{K:PySem.W.Frag}{x dx C f:Addr}{mA:Str ->Option Value}{name:Str}{v:Value}
theorem get_map {expr:Bool}{Q:Value ->Shared ->Prop}(X:K.In s.heap)(I:Bz s.heap x dx C mA)(hg:PySem.W.plainGet K C name=true)(hh:PySem.W.hasDictIn K C=true) (ha:PySem.W.findIn K (.ref C) name=some none) (hv:mA name=some v) (tM:PySem.W.handedIn v=true) (h:Q v {s with toks:=s.toks+1}): wpAny (model prog w) A (getAttr (.ref x) name expr) Q E s:=by obtain⟨od,J,hl⟩:=I.look;exact PySem.W.get_value X J (PySem.W.plainGet_of hg).1 (PySem.W.findObj_own hh ha rfl (by rw[hl,hv])) tM h
theorem Gn {ns:List Str}{Q:Unit ->Shared ->Prop}(X:K.In s.heap)(I:Bz s.heap x dx C mA) (hs:PySem.W.findIn K (.ref C) "__setattr__" =some (some (.builtin "object.__setattr__"))) (hp:PySem.W.plainOver K C=true) (ht:PySem.W.takerIn K C name=some none) (hh:PySem.W.hasDictIn K C=true) (hw:PySem.Within mA ns) (hsz:ns.length<=sizeLine) (h: ∀h',Bz h' x dx C (λy=>if y=name then some v else mA y) ->Heap.SameBut dx s.heap h' ->Q () {s with heap:=h',toks:=s.toks+2}): wpAny (model prog w) A (setAttr (.ref x) name v) Q E s:=by obtain⟨od,J,hl⟩:=I.look;refine PySem.W.set_plain X J hs (PySem.W.osa_open (s:= {s with toks:=s.toks+1}) (r:=none) X J hp ht λb=> ?_);obtain⟨cd,hc,kh⟩:=PySem.W.any_some hh;have hx:s.heap.get? x=some ⟨.ref C,some dx, .plain, #[]⟩:=I.obj;refine ao (aM (ao (ao (wpAny_loadPart hx (ao (PySem.W.Looks.here (s:= {s with toks:=s.toks+1}) (PySem.W.looks_clsIn X hc) ?_))))));rw[kh];refine aM (a:=some dx) (ao (aM (ao ?_)));refine wpAny_nsSet1 (s:= {s with toks:=s.toks+1}) I.ns λh' L3 j5=> ?_;obtain⟨oD,esD,epD,hoD,hdD,hcD⟩:=L3.count (PySem.Within.cons name v hw);refine ao (wpAny_lookBehind hoD (by rw[hdD];exact pastItsLine_dict (a4 hcD (by rw[aG];lia))) ?_);exact aM (h _ ⟨(j5.2 _ (a5 I.ne)).trans I.obj,L3,I.ne⟩ j5)
theorem Eb {R:Result ->Shared ->Prop}{vs:List Value}{kw:List (Str×Value)}(X:K.In s.heap)(hm:PySem.W.makesIn K C=true) (hi:PySem.W.findIn K (.ref C) "__init__" =some (some (.ref f))) (hf:PySem.W.typeIn K (.ref f)=some (.type "function")) (h:codeAny (model prog w) (A.under (.builtin "type.__call__" ⟨.ref C::vs,kw⟩)) (.call (.ref f) ⟨.ref (s.heap.objs.size+1)::vs,kw⟩) (PySem.W.InitBack (s.heap.objs.size+1) R) {s with heap:=(s.heap.push PySem.W.emptyDict).push (PySem.W.instObj C s.heap.objs.size)}): codeAny (model prog w) A (.call (.ref C) ⟨vs,kw⟩) R s:=by obtain⟨hh,g,d,t,os⟩:=s;exact PySem.W.make_core (PySem.W.makes_of X hm) (PySem.W.looks_findIn X hi) (λself=>PySem.W.bind_fn X self hf) (.inl rfl) h
end
def iI (f:Str)(v:V):List (Str×V) ->List (Str×V)
 | []=> [(f,v)]
 | (g,x)::r=>if g=f then(g,v)::r else(g,x)::iI f v r
theorem nC (f g:Str)(v:V): ∀fs:List (Str×V),(iI f v fs).lookup g=if g=f then some v else fs.lookup g
 | []=>by
  show List.lookup g [(f,v)]=_;by_cases h:g=f
  ·have hb:(g==f)=true:=beq_iff_eq.mpr h;simp only[List.lookup,hb,ak h]
  ·have hb:(g==f)=false:=beq_eq_false_iff_ne.mpr h;simp only[List.lookup,hb,aj h]
 | (k, x)::r=>by
  have ih:=nC f g v r;rw[show iI f v ((k,x)::r)=(if k=f then(k,v)::r else(k,x)::iI f v r) from rfl];by_cases hk:k=f
  ·rw[ak hk];by_cases h:g=k
   ·have hb:(g==k)=true:=beq_iff_eq.mpr h;simp only[List.lookup,hb,ak (h.trans hk)]
   ·have hb:(g==k)=false:=beq_eq_false_iff_ne.mpr h;simp only[List.lookup,hb,aj (λe:g=f=>h (e.trans hk.symm))]
  ·rw[aj hk];by_cases h:g=k
   ·have hb:(g==k)=true:=beq_iff_eq.mpr h;simp only[List.lookup,hb,aj (λe:g=f=>hk (h.symm.trans e))]
   ·have hb:(g==k)=false:=beq_eq_false_iff_ne.mpr h;simp only[List.lookup,hb];exact ih
theorem m7 (f:Str)(v:V): ∀fs:List (Str×V),f∈(iI f v fs).map (·.1) /\ ∀g,g∈fs.map (·.1) ->g∈(iI f v fs).map (·.1)
 | []=>⟨by simp[iI],λg h=>by simp at h⟩
 | (k, x)::r=>by
  obtain⟨i1,i2⟩:=m7 f v r;rw[show iI f v ((k,x)::r)=(if k=f then(k,v)::r else(k,x)::iI f v r) from rfl];by_cases hk:k=f
  ·rw[ak hk];subst hk;exact⟨by simp,λg h=>by simpa using h⟩
  ·rw[aj hk];refine⟨?_,λg h=> ?_⟩
   ·rw[aH];exact aw _ i1
   ·rw[aH] at h ⊢;rcases av.mp h with e | e
    ·exact av.mpr (.inl e)
    ·exact aw _ (i2 g e)
theorem nD (f:Str)(v:V): ∀fs:List (Str×V),(iI f v fs).length<=fs.length+1
 | []=>by simp[iI]
 | (k,x)::r=>by
  have ih:=nD f v r;rw[show iI f v ((k,x)::r)=(if k=f then(k,v)::r else(k,x)::iI f v r) from rfl];by_cases hk:k=f
  ·rw[ak hk,aG,aG];lia
  ·rw[aj hk,aG,aG];lia
theorem kZ.some_of {v:V}{o:Option Value}(r:kZ (some v) o): ∃u,o=some u /\ RelV v u:=by
 cases o with
 | none=>exact(show False from r).elim
 | some u=>exact⟨u,rfl,r⟩
theorem A8 {v:V}{u:Value}(r:RelV v u):PySem.W.handedIn u=true:=by
 cases v with
 | dB=>cases (show u=Value.none from r);rfl
 | bl b=>cases (show u=Value.bool b from r);rfl
 | int i=>obtain⟨t,e⟩:=(show ∃t,u=Value.int i t from r);cases e;rfl
 | str x=>obtain⟨t,e⟩:=(show ∃t,u=Value.str x t from r);cases e;rfl
 | yg b=>obtain⟨t,e⟩:=(show ∃t,u=Value.bytes b t from r);cases e;rfl
 | zF b=>obtain⟨t,e⟩:=(show ∃t,u=Value.float b t from r);cases e;rfl
 | ref a=>cases (show u=Value.ref a from r);rfl
 | ty n=>cases (show u=Value.type n from r);rfl
section
variable {P:Program}{w:World}{H H':Hp}{h h':Heap}{a C dx:Addr}{fs Ba:List (Str×V)}
theorem tJ (c7:kx P w H h)(e:H a=some (.ins C dx fs)): ∃mA,Bz h a dx C mA /\ (∀f,kZ (fs.lookup f) (mA f)) /\ PySem.Within mA (fs.map (·.1)) /\ fs.length<=1000 /\ H dx=some (.own a):=by
 obtain⟨d,z,ne,ob,mA,n,r,q⟩:=(show dF P w H h a (.ins C dx fs) from c7 a _ e)
 exact⟨mA,⟨ob,n,ne⟩,r,q,z,d⟩
end
structure ym (K:PySem.W.Frag)(C:Addr):Prop where
 pg:PySem.W.plainGet K C Str.empty=true
 hd:PySem.W.hasDictIn K C=true
 po:PySem.W.plainOver K C=true
 sa:PySem.W.findIn K (.ref C) "__setattr__" =some (some (.builtin "object.__setattr__"))
theorem ym.get {K:PySem.W.Frag}{C:Addr}(c:ym K C)(f:Str):PySem.W.plainGet K C f=true:=c.pg
def dC (K:PySem.W.Frag)(C:Addr)(f:Str):Prop:=PySem.W.findIn K (.ref C) f=some none
theorem dC.Ov {K:PySem.W.Frag}{C:Addr}{f:Str}(n:dC K C f):PySem.W.takerIn K C f=some none:=by unfold PySem.W.takerIn;rw[show PySem.W.findIn K (.ref C) f=some none from n];rfl
section
variable {X:Cx}{pins:List (Addr×Obj)}{σ:St}{H:Hp}{s:Shared}{a C dx:Addr}{fs:List (Str×V)}{f:Str}{v:V}{A:Around}{E:Value ->Shared ->Prop}
theorem xV {b:Bool}{Q:Value ->Shared ->Prop}(I:Inv X pins σ H s)(e:H a=some (.ins C dx fs))(c:ym X.K C)(n:dC X.K C f)(l:fs.lookup f=some v) (h: ∀u s',Inv X pins σ H s' ->RelV v u ->Q u s'):wpAny (model X.prog X.w) A (getAttr (.ref a) f b) Q E s:=by obtain⟨mA,O,r,_,_,_⟩:=tJ I.c7 e;obtain⟨u,hu,ru⟩:=kZ.some_of (v:=v) (o:=mA f) (by rw[<- l];exact r f);exact get_map I.nZ O (c.get f) c.hd n hu (A8 ru) (h u _ (I.tok _) ru)
theorem xc {y:V}{u:Value}{Q:Unit ->Shared ->Prop}(I:Inv X pins σ H s)(e:H a=some (.ins C dx fs))(c:ym X.K C)(n:dC X.K C f)(hl:fs.length<1000)(ry:RelV y u) (h: ∀s',Inv X pins σ (upd H a (.ins C dx (iI f y fs))) s' ->Q () s'):wpAny (model X.prog X.w) A (setAttr (.ref a) f u) Q E s:=by
 obtain⟨mA,O,r,wi,_,ho⟩:=tJ I.c7 e;have hz:(fs.map (·.1)).length<=sizeLine:=by rw[aa,cC];lia
 refine Gn I.nZ O c.sa c.po n.Ov c.hd wi hz λh' O' sb=>h _ ?_;have hd: ∃o,h'.get? dx=some o:=let ⟨o,_,_,e',_⟩:=O'.ns;⟨o,e'⟩
 refine I.write (x:=a) (e:=dx) (by rw[e];exact True.intro) (.inr ho) (λb q hb z=>(sb.2 b hb).trans z) hd ?_;refine⟨by rw[bC O.ne];exact ho,?_,O.ne,O'.obj,_,O'.ns,λg=> ?_,λg hg=> ?_⟩
 ·have:=nD f y fs;lia
 ·show kZ ((iI f y fs).lookup g) (if g=f then some u else mA g);rw[nC];by_cases q:g=f
  ·rw[ak q,ak q];exact ry
  ·rw[aj q,aj q];exact r g
 ·by_cases q:g=f
  ·rw[q];exact(m7 f y fs).1
  ·refine(m7 f y fs).2 g (wi g λz=>hg ?_);show(if g=f then some u else mA g)=none;rw[aj q];exact z
theorem Inv.made (I:Inv X pins σ H s):Inv X pins σ (upd (upd H s.heap.objs.size (.own (s.heap.objs.size+1))) (s.heap.objs.size+1) (.ins C s.heap.objs.size [])) {s with heap:=(s.heap.push PySem.W.emptyDict).push (PySem.W.instObj C s.heap.objs.size)}:=by
 have e1:(s.heap.push PySem.W.emptyDict).get? s.heap.objs.size=some PySem.W.emptyDict:=aS s.heap rfl;have e2:((s.heap.push PySem.W.emptyDict).push (PySem.W.instObj C s.heap.objs.size)).get? (s.heap.objs.size+1)=some (PySem.W.instObj C s.heap.objs.size):=by have:=aS (s.heap.push PySem.W.emptyDict) (o:=PySem.W.instObj C s.heap.objs.size) rfl;rwa [Heap.size_push] at this
 have e3:(s.heap.push PySem.W.emptyDict).Ns s.heap.objs.size (λ_=>none):=⟨PySem.W.emptyDict, #[],_,e1,rfl,(λe he=>absurd he (by simp)),λ_=>rfl⟩
 have I1:=I.laid (a:=s.heap.objs.size) (o:= .own (s.heap.objs.size+1)) (h':=s.heap.push PySem.W.emptyDict) (t':=s.toks) (λb u q=>ar _ q) (aq _) ⟨_,e1⟩;refine I1.laid (a:=s.heap.objs.size+1) (o:= .ins C s.heap.objs.size []) (t':=s.toks) (λb u q=>ar _ q) (Nat.le_of_eq (Heap.size_push _ _)) ?_;have ne:s.heap.objs.size≠s.heap.objs.size+1:=aX (Nat.lt_succ_self _);refine⟨by rw[bC ne,bU],cU _,ne,e2,λ_=>none,(Heap.Ns1.of_empty e3).at λo q=>ar _ q,λ_=>True.intro,λy hy=>absurd rfl hy⟩
theorem HL {prog:Program}{w:World}{env:Env}{e:Expr}{f:Str}{pos:Pos}{s:Shared}{Q:Value ->Shared ->Prop}(hb:attributeBase e f env (eval e env)=eval e env) (h:wpAny (model prog w) A (eval e env) (λo s₁=>wpAny (model prog w) A (getAttr o f true) Q E s₁) E s):wpAny (model prog w) A (eval (.Attribute e f pos) env) Q E s:=Attribute_any_ h (by rw[arm_eval_Attribute,hb])
end
def KN (K:PySem.W.Frag)(ta:TE)(f:Str):TE:=λσ H Q=>ta σ H λx H1=> ∃a C dx fs v,x= .ref a /\ H1 a=some (.ins C dx fs) /\ ym K C /\ dC K C f /\ fs.lookup f=some v /\ Q v H1
def OR (K:PySem.W.Frag)(ta tv:TE)(f:Str):TS:=λD σ H=>tv σ H λy H1=>ta σ H1 λx H2=> ∃a C dx fs,x= .ref a /\ H2 a=some (.ins C dx fs) /\ ym K C /\ dC K C f /\ fs.length<1000 /\D.nx σ (upd H2 a (.ins C dx (iI f y fs)))
section
variable {X:Cx}{o e value:Expr}{f:Str}{pos pos' Aq:Pos}{ta tv:TE}
theorem dH (he:PE X e ta)(hb:attributeBase e f X.env (eval e X.env)=eval e X.env):PE X (.Attribute e f pos) (KN X.K ta f):=by intro pins s σ H Q I h;refine HL hb (df (he pins s σ H _ I h) λu s1 ⟨x,H1,I1,rx,a,C,dx,fs,v,ex,ea,c,n,l,q⟩=> ?_);subst ex;obtain rfl:u=Value.ref a:=rx;exact xV I1 ea c n l λu' s2 I2 ru=>⟨v,H1,I2,ru,q⟩
theorem kI (ha:PE X o ta)(hv:PE X value tv)(hs:swapsWith value (some (.Attribute o f pos')) pos.line X.env=pure false):PS X (.Assign [.Attribute o f pos'] value pos) (OR X.K ta tv f):=by intro pins s σ H D I h;refine plainObj_wpAny_Assign_Attribute (df (hv pins s σ H _ I h) λu s1 ⟨y,H1,I1,ry,q⟩=>df (ha pins s1 σ H1 _ I1 q) λov s2 ⟨x,H2,I2,rx,a,C,dx,fs,ex,ea,c,n,l,q2⟩=> ?_) hs;subst ex;obtain rfl:ov=Value.ref a:=rx;exact xc I2 ea c n l ry λs3 I3=>⟨σ,_,I3,q2⟩
end
section
variable {X:Cx}{pins:List (Addr×Obj)}{σ:St}{H:Hp}{s:Shared}{A:Around}{E:Value ->Shared ->Prop}{Q:Value ->Shared ->Prop}{c:Value}{b:Bool}
inductive nq (K:PySem.W.Frag)(H:Hp):V ->Value ->Prop where
 | dB:nq K H .dB (.type "NoneType")
 | bl (x:Bool):nq K H (.bl x) (.type "bool")
 | int (i:Int):nq K H (.int i) (.type "int")
 | str (x:Str):nq K H (.str x) (.type "str")
 | zF (x:UInt64):nq K H (.zF x) (.type "float")
 | lst {a:Addr} {xs:List V} (e:H a=some (.lst xs)):nq K H (.ref a) (.type "list")
 | kR {a:Addr} {o:Obj} {xs:List V} (e:H a=some (.kR o (.lst xs))):nq K H (.ref a) (.type "list")
 | tup {a:Addr} {xs:List V} (e:H a=some (.tup xs)):nq K H (.ref a) (.type "tuple")
 | dK {a:Addr} {kvs:List (Key×V)} (e:H a=some (.dK kvs)):nq K H (.ref a) (.type "dict")
 | dT {a:Addr} {kvs:List (List Key×V)} (e:H a=some (.dT kvs)):nq K H (.ref a) (.type "dict")
 | ins {a C dx:Addr} {fs:List (Str×V)} (e:H a=some (.ins C dx fs)) (cl:ym K C) (ha:PySem.W.findIn K (.ref C) "__class__" =some (some (.builtin "object.__class__"))) (hn:PySem.W.specialIn K (.builtin "object.__class__") "__get__" =some (some (.builtin "getset_descriptor.__get__"))) (X9:PySem.W.takesIn K (.builtin "object.__class__")=some true) (hm:PySem.W.mroIn K C (.type "object")=some true):nq K H (.ref a) (.ref C)
theorem AW {x:V}{u t:Value}(I:Inv X pins σ H s)(rx:RelV x u)(ty:nq X.K H x t)(e:PySem.W.kitOne X.K t c=some b)(h: ∀tk,Q (.bool b) {s with toks:=tk}): wpAny (model X.prog X.w) A (call (.builtin "isinstance") [u,c]) Q E s:=by
 cases ty with
 | dB=>cases (show u=Value.none from rx);exact cD PySem.W.kitx_none I.nZ True.intro e (λz=>nomatch z) h
 | bl y=>cases (show u=Value.bool y from rx);exact cD PySem.W.kitx_bool I.nZ True.intro e (λz=>nomatch z) h
 | int i=>obtain⟨t,q⟩:=(show ∃t,u=Value.int i t from rx);cases q;exact cD PySem.W.kitx_int I.nZ True.intro e (λz=>nomatch z) h
 | str y=>obtain⟨t,q⟩:=(show ∃t,u=Value.str y t from rx);cases q;exact cD PySem.W.kitx_str I.nZ True.intro e (λz=>nomatch z) h
 | zF y=>obtain⟨t,q⟩:=(show ∃t,u=Value.float y t from rx);cases q;exact cD PySem.W.kitx_float I.nZ True.intro e (λz=>nomatch z) h
 | @lst a xs ea=>
  cases (show u=Value.ref a from rx);obtain⟨_,_,n,_,h1⟩:=(show dF X.prog X.w H s.heap a (.lst xs) from I.c7 a _ ea)
  exact cD PySem.W.kitx_list I.nZ ⟨_,h1,rfl⟩ e (λz=>nomatch z) h
 | @kR a ob xs ea=>
  cases (show u=Value.ref a from rx);obtain⟨_,_,_,n,_,h1⟩:=(show dF X.prog X.w H s.heap a (.kR ob (.lst xs)) from I.c7 a _ ea)
  exact cD PySem.W.kitx_list I.nZ ⟨_,h1,rfl⟩ e (λz=>nomatch z) h
 | @tup a xs ea=>
  cases (show u=Value.ref a from rx);obtain⟨_,_,_,p⟩:=(show dF X.prog X.w H s.heap a (.tup xs) from I.c7 a _ ea)
  obtain⟨o,h1,h2,_⟩:=p;exact cD PySem.W.kitx_tuple I.nZ ⟨o,h1,h2⟩ e (λz=>nomatch z) h
 | @dK a kvs ea=>
  cases (show u=Value.ref a from rx);obtain⟨_,_,vs,_,p⟩:=(show dF X.prog X.w H s.heap a (.dK kvs) from I.c7 a _ ea)
  obtain⟨o,es,ep,h1,h2,_⟩:=p;exact cD PySem.W.kitx_dict I.nZ ⟨o,h1,h2.1⟩ e (λz=>nomatch z) h
 | @dT a kvs ea=>
  cases (show u=Value.ref a from rx);obtain⟨_,_,xs,_,o,es,ep,h1,h2,_⟩:=(show dF X.prog X.w H s.heap a (.dT kvs) from I.c7 a _ ea)
  exact cD PySem.W.kitx_dict I.nZ ⟨o,h1,h2.1⟩ e (λz=>nomatch z) h
 | @ins a C dx fs ea cl ha hn X9 hm=>cases (show u=Value.ref a from rx);obtain⟨mA,O,_⟩:=tJ I.c7 ea;obtain⟨od,J,_⟩:=O.look;exact cD (PySem.W.kitx_own (cl.get _) cl.hd ha hn X9 hm) I.nZ J e (λz=>nomatch z) h
end
structure fD (k:Nat)(A:Around):Prop where
 hd:A.handled=none
 dp:A.depth+3*k+5<recursionLimit
 un:A.units+16*k+200<cLine
theorem fD.mono {j k:Nat}{A:Around}(r:fD k A)(h:j<=k):fD j A:=⟨r.hd,by have:=r.dp;lia,by have:=r.un;lia⟩
theorem fD.deeper {k:Nat}{A:Around}(r:fD (k+1) A)(env:Env):fD k (A.deeper env):=⟨r.hd,by have:=r.dp;show A.depth+1+3*k+5<_;lia,by have:=r.un;show A.units+3+16*k+200<_;lia⟩
theorem xB {A:Around}{C:Addr}{us:List Value}{kw:List (Str×Value)}:(A.under (.builtin "type.__call__" ⟨.ref C::us,kw⟩)).depth=A.depth+1:=by first | rfl | simp[Around.under,Code.weight,Code.isCreation,Code.isGuard,Code.isCaller,Code.frames,Code.isFrame,guardIds]
theorem xA {A:Around}{C:Addr}{us:List Value}{kw:List (Str×Value)}:(A.under (.builtin "type.__call__" ⟨.ref C::us,kw⟩)).units=A.units+1:=by first | rfl | simp[Around.under,Code.cUnits,Code.frames,Code.isFrame]
theorem fD.make {k:Nat}{A:Around}(r:fD (k+1) A)(C:Addr)(us:List Value)(kw:List (Str×Value)):fD k (A.under (.builtin "type.__call__" ⟨.ref C::us,kw⟩)):=⟨r.hd,by have:=r.dp;rw[xB];lia,by have:=r.un;rw[xA];lia⟩
theorem fD.depth {k:Nat}{A:Around}(r:fD k A):A.depth<recursionLimit:=by have:=r.dp;lia
theorem fD.units {k:Nat}{A:Around}(r:fD k A):A.units+64<cLine:=by have:=r.un;lia
def KL:TA:=λ_ H Q=>Q [] H
def CG (ta:TE)(tr:TA):TA:=λσ H Q=>ta σ H λx H1=>tr σ H1 λxs H2=>Q (x::xs) H2
section
variable {X:Cx}{e:Expr}{es:List Expr}{te:TE}{t:TA}{pos:Pos}
theorem aC:PA X [] KL:=λ_ _ _ _ H Q I h=>Calls.spliced_nil ⟨[],H,I, .nil,h⟩
theorem ab (ha:PE X e te)(hr:PA X es t)(hs:starEach (e::es) X.env=(false,eval e X.env)::starEach es X.env:=by rfl):PA X (e::es) (CG te t):=by intro pos pins s σ H Q I h;rw[hs];show wpAny _ _ (spliced ((false,eval e X.env)::backTo pos (starEach es X.env))) _ _ s;refine Calls.spliced_cons (df (ha pins s σ H _ I h) λu s1 ⟨x,H1,I1,r1,q1⟩=> ?_);exact df (hr pos pins s1 σ H1 _ I1 q1) λus s2 ⟨xs,H2,I2,r2,q2⟩=>⟨x::xs,H2,I2, .cons r1 r2,q2⟩
def Ox (t:TA):TE:=λσ H Q=>t σ H λxs H1=>xs.length<=sizeLine /\ ∀p,H1 p=none ->Q (.ref p) (upd H1 p (.tup xs))
def OB (t:TA):TE:=λσ H Q=>t σ H λxs H1=>xs.length<=sizeLine /\ ∀p,H1 p=none ->Q (.ref p) (upd H1 p (.lst xs))
theorem gK {x1}(h:PA X es t):PE X (.Tuple es x1 pos) (Ox t):=by intro pins s σ H Q I hq;refine wpAny_Tuple_spliced (df (h pos pins s σ H _ I hq) λus s1 ⟨xs,H1,I1,r,z,q⟩=>⟨by rw[<- r.length];exact z,?_⟩);have hf:H1 s1.heap.objs.size=none:=I1.c7.fresh (aq _);refine⟨.ref s1.heap.objs.size,upd H1 s1.heap.objs.size (.tup xs),I1.laid (t':=s1.toks) (λb u e=>ar _ e) (aq _) ?_,rfl,q _ hf⟩;exact⟨z,us,r,⟨_,aS _ rfl,rfl,_,rfl,rfl⟩⟩
theorem sX (h:PA X es t):PE X (.List es pos) (OB t):=by intro pins s σ H Q I hq;refine wpAny_List_spliced (df (h pos pins s σ H _ I hq) λus s1 ⟨xs,H1,I1,r,z,q⟩=>⟨by rw[<- r.length];exact z,?_⟩);have hf:H1 s1.heap.objs.size=none:=I1.c7.fresh (aq _);refine⟨.ref s1.heap.objs.size,upd H1 s1.heap.objs.size (.lst xs),I1.laid (t':=s1.toks) (λb u e=>ar _ e) (aq _) ?_,rfl,q _ hf⟩;exact⟨z,us,0,r,aS _ rfl⟩
end
abbrev Sp:=List V ->Hp ->VK ->XK ->Prop
abbrev FK:=List Env ->Hp ->Shared ->XK ->Value ->Shared ->Prop
structure yk (P:Program)(w:World)(K:PySem.W.Frag)(mg:Str ->Option Value)(base:Heap)(A:Around)(outer:List Env)(s:Shared)(H:Hp):Prop where
 frames:A.frames=some outer
 mod:Mod K mg base
 bs: ∀b o,base.get? b=some o ->s.heap.get? b=some o /\ H b=none
 F3:base.objs.size<=s.heap.objs.size
 oh:s.heap.FunFrames base outer
 My: ∀b∈E2 outer,H b=none
 c7:kx P w H s.heap
 bare:AllBare s.gens
def CE (outer:List Env)(P:Program)(w:World)(H:Hp)(s:Shared)(Q:VK)(u:Value)(s':Shared):Prop:=∃v H',s'.os=s.os /\ AllBare s'.gens /\ Un (E2 outer) [] H H' s.heap s'.heap /\ kx P w H' s'.heap /\ RelV v u /\ Q v H'
def CR (CX:FK)(outer:List Env)(P:Program)(w:World)(H:Hp)(s:Shared)(Q:VK)(E:XK)(r:Result)(s':Shared):Prop:=
 match r with
 | .ok (.ret u)=>CE outer P w H s Q u s'
 | .ok _=>False
 | .error e=>CX outer H s E e s'
structure dI (P:Program)(w:World)(K:PySem.W.Frag)(mg:Str ->Option Value)(base:Heap)(CX:FK)(k:Nat)(f:Addr)(fd:FuncData)(ps:List Str)(sp:Sp):Prop where
 len: ∀vs H Q E,sp vs H Q E ->vs.length=ps.length
 run: ∀ (A:Around) (outer:List Env) (s:Shared) (H:Hp) (args:Args) (us:List Value) (vs:List V) (Q:VK) (E:XK),fD k A ->yk P w K mg base A outer s H ->BindsTo s fd args (ps.zip us) ->Vals vs us ->sp vs H Q E ->codeAny (model P w) A (.call (.ref f) args) (CR CX outer P w H s Q E) s
theorem dI.imp {P:Program}{w:World}{K:PySem.W.Frag}{mg:Str ->Option Value}{base:Heap}{CX:FK}{k:Nat}{f:Addr}{fd:FuncData}{ps:List Str}{sp Xu:Sp}(F:dI P w K mg base CX k f fd ps sp) (h: ∀vs H Q E,Xu vs H Q E ->sp vs H Q E):dI P w K mg base CX k f fd ps Xu:=⟨λvs H Q E q=>F.len vs H Q E (h _ _ _ _ q),λA outer s H args us vs Q E hr he hb hv hs=>F.run A outer s H args us vs Q E hr he hb hv (h _ _ _ _ hs)⟩
theorem yk.make {P:Program}{w:World}{K:PySem.W.Frag}{mg:Str ->Option Value}{base:Heap}{A:Around}{outer:List Env}{s:Shared}{H:Hp}(e:yk P w K mg base A outer s H)(C:Addr)(us:List Value)(kw:List (Str×Value)): yk P w K mg base (A.under (.builtin "type.__call__" ⟨.ref C::us,kw⟩)) outer s H:=⟨by first | exact e.frames | (simpa [Around.under,Code.envs,Code.isFrame,pushEnvs] using e.frames),e.mod,e.bs,e.F3,e.oh,e.My,e.c7,e.bare⟩
section
variable {X:Cx}{pins:List (Addr×Obj)}{σ:St}{H:Hp}{s s':Shared}
theorem Inv.Q0 (I:Inv X pins σ H s):yk X.prog X.w X.K X.mg X.base X.A X.stack s H:=⟨I.ok.frames,I.ok.mod,I.bs,a4 I.ok.F3 I.sz,I.stack,I.yE,I.c7,I.bare⟩
theorem Inv.after {Q:VK}{u:Value}(I:Inv X pins σ H s)(h:CE X.stack X.prog X.w H s Q u s'):EP X pins σ Q u s':=by obtain⟨v,H',os,bare,un,c7,r,q⟩:=h;obtain⟨hh,g,d,t,ZE⟩:=s';obtain rfl:ZE=s.os:=os;exact⟨v,H',I.call (h':=hh) (g':=g) (d':=d) (t':=t) (ch:= []) un c7 bare (λb z=>absurd z (by simp)),r,q⟩
end
def yD (sp:Sp)(xZ:List V)(E:XK)(t:TA):TE:=λσ H Q=>t σ H λvs H1=>sp (vs++xZ) H1 Q E
def Cy (C:Addr)(sp:Sp)(xZ:List V)(E:XK)(t:TA):TE:=λσ H Q=>t σ H λvs H1=> ∀x dx,H1 x=none ->H1 dx=none ->dx≠x ->sp (.ref x::(vs++xZ)) (upd (upd H1 dx (.own x)) x (.ins C dx [])) (λv H2=>v= .dB /\ Q (.ref x) H2) E
def Binds (K:PySem.W.Frag)(fd:FuncData)(ps:List Str)(ds:List Value):Prop:=∀ (s:Shared) (us:List Value),K.In s.heap ->(us++ds).length=ps.length ->BindsTo s fd ⟨us,[]⟩ (ps.zip (us++ds))
theorem Binds.all {K:PySem.W.Frag}{fd:FuncData}{ps:List Str}(h: ∀us:List Value,us.length=ps.length ->bindArgs fd ⟨us,[]⟩=pure (ps.zip us)):Binds K fd ps []:=λs us _ hl=>by rw[List.append_nil] at hl ⊢;exact .of_eq (h us hl)
def Passes (CX:FK)(X:Cx)(E:XK):Prop:= ∀ (pins:List (Addr×Obj)) (σ:St) (H:Hp) (s:Shared) (e:Value) (s':Shared),Inv X pins σ H s ->CX X.stack H s E e s' ->X.xe e s'
section
variable {X:Cx}{CX:FK}{k:Nat}{f C:Addr}{fd:FuncData}{ps:List Str}{sp:Sp}{xZ:List V}{ds:List Value}{E:XK}{x m:Str}{p pos apos:Pos}{e o:Expr}{es:List Expr}{ta:TE}{t:TA}
theorem K5 {pins:List (Addr×Obj)}{σ:St}{H:Hp}{s:Shared}{Q:VK}{us:List Value}{vs:List V}(F:dI X.prog X.w X.K X.mg X.base CX k f fd ps sp)(hr:fD k X.A)(hb:Binds X.K fd ps ds)(hd:Vals xZ ds)(hx:Passes CX X E) (I:Inv X pins σ H s) (r:Vals vs us) (h:sp (vs++xZ) H Q E):wpAny (model X.prog X.w) X.A (call (.ref f) us) (EP X pins σ Q) X.xe s:=by
 have r2:Vals (vs++xZ) (us++ds):=r.append hd;have hl:(us++ds).length=ps.length:=by rw[<- r2.length];exact F.len _ _ _ _ h
 refine wpAny_call (codeAny_mono (F.run X.A X.stack s H ⟨us,[]⟩ (us++ds) (vs++xZ) Q E hr I.Q0 (hb s us I.nZ hl) r2 h) λr s' hq=> ?_);cases r with
 | error e=>exact hx pins σ H s e s' I hq
 | ok fl=>
  cases fl with
  | ret u=>exact I.after hq
  | next=>exact False.elim hq
  | brk=>exact False.elim hq
  | cont=>exact False.elim hq
theorem GN (F:dI X.prog X.w X.K X.mg X.base CX k f fd ps sp)(hr:fD k X.A)(hg:Gl X x)(hm:X.mg x=some (.ref f))(hk:PySem.W.keepIn X.K (.ref f)=true)(hb:Binds X.K fd ps ds)(hd:Vals xZ ds)(hx:Passes CX X E) (ha:PA X (e::es) t) (ES:(x==("__debug__" :Str))=false:=by decide) (he:starEach (e::es) X.env=(false,eval e X.env)::starEach es X.env:=by rfl) (rb:(backTo pos (starEach es X.env)).any (·.1)=false:=by rfl): PE X (.Call (.Name x p) (e::es) [] pos) (yD sp xZ E t):=by intro pins s σ H Q I h;refine wpAny_Call_Name_kw (zl I hg hm ?_ ES);refine PySem.W.callWith_K (h₀:=X.base) I.ok.mod.RZ hk (df (ha pos pins s σ H _ I h) λus s1 ⟨vs,H1,I1,r,q⟩=>⟨I1.nZ,?_⟩) he rb;exact K5 F hr hb hd hx I1 r q
structure Mk (K:PySem.W.Frag)(C f:Addr):Prop where
 makes:PySem.W.makesIn K C=true
 init:PySem.W.findIn K (.ref C) "__init__" =some (some (.ref f))
 fn:PySem.W.isFn K (.ref f)=true
 kp:PySem.W.keepIn K (.ref C)=true
theorem C5 {pins:List (Addr×Obj)}{σ:St}{H:Hp}{s:Shared}{Q:VK}{us:List Value}{vs:List V}(M:Mk X.K C f)(F:dI X.prog X.w X.K X.mg X.base CX k f fd ps sp)(hr:fD (k+1) X.A)(hb:Binds X.K fd ps ds)(hd:Vals xZ ds) (hx:Passes CX X E) (I:Inv X pins σ H s) (r:Vals vs us) (h: ∀x dx,H x=none ->H dx=none ->dx≠x ->sp (.ref x::(vs++xZ)) (upd (upd H dx (.own x)) x (.ins C dx [])) (λv H2=>v= .dB /\ Q (.ref x) H2) E): wpAny (model X.prog X.w) X.A (call (.ref C) us) (EP X pins σ Q) X.xe s:=by
 have hq:=h (s.heap.objs.size+1) s.heap.objs.size (I.c7.fresh (Nat.le_succ _)) (I.c7.fresh (aq _)) (aX (Nat.lt_succ_self _));have I2:=Inv.made (C:=C) I;have r2:Vals (V.ref (s.heap.objs.size+1)::(vs++xZ)) (Value.ref (s.heap.objs.size+1)::(us++ds)):= .cons rfl (r.append hd);have hl:(Value.ref (s.heap.objs.size+1)::us++ds).length=ps.length:=by have e:=r2.length;rw[F.len _ _ _ _ hq] at e;exact e.symm
 refine wpAny_call (Eb (f:=f) I.nZ M.makes M.init (beq_iff_eq.mp M.fn) (codeAny_mono (F.run _ X.stack _ _ ⟨Value.ref (s.heap.objs.size+1)::us,[]⟩ (Value.ref (s.heap.objs.size+1)::(us++ds)) _ _ E (hr.make C us []) (I2.Q0.make C us []) (hb _ (Value.ref (s.heap.objs.size+1)::us) I2.nZ hl) r2 hq) λr s' Qg=> ?_));cases r with
 | error e=>exact hx pins σ _ _ e s' I2 Qg
 | ok fl=>
  cases fl with
  | ret u=>obtain⟨v,H',I3,rv,ev,q3⟩:=I2.after Qg;subst ev;exact⟨rv,⟨V.ref (s.heap.objs.size+1),H',I3,rfl,q3⟩⟩
  | next=>exact False.elim Qg
  | brk=>exact False.elim Qg
  | cont=>exact False.elim Qg
theorem GJ (M:Mk X.K C f)(F:dI X.prog X.w X.K X.mg X.base CX k f fd ps sp)(hr:fD (k+1) X.A)(hg:Gl X x)(hm:X.mg x=some (.ref C))(hb:Binds X.K fd ps ds)(hd:Vals xZ ds)(hx:Passes CX X E) (ha:PA X (e::es) t) (ES:(x==("__debug__" :Str))=false:=by decide) (he:starEach (e::es) X.env=(false,eval e X.env)::starEach es X.env:=by rfl) (rb:(backTo pos (starEach es X.env)).any (·.1)=false:=by rfl): PE X (.Call (.Name x p) (e::es) [] pos) (Cy C sp xZ E t):=by intro pins s σ H Q I h;refine wpAny_Call_Name_kw (zl I hg hm ?_ ES);refine PySem.W.callWith_K (h₀:=X.base) I.ok.mod.RZ M.kp (df (ha pos pins s σ H _ I h) λus s1 ⟨vs,H1,I1,r,q⟩=>⟨I1.nZ,?_⟩) he rb;exact C5 M F hr hb hd hx I1 r q
end
structure b7 (N P:List Str)(sc:Scope):Prop where
 kind:sc.kind= .function
 co:sc.isCoroutine=false
 gen:sc.isGenerator=false
 nd:N.Nodup
 pre:N.take P.length=P
 par: ∀x∈P,sc.names.lookup x=some .local \/ sc.names.lookup x=some .cell
 Lv: ∀y∈sc.names,y.2≠ .free
theorem rS {kindOf:Str ->Option NameKind}{x:Str}: ∀ {binds:List (Str×Value)} {m:Str ->Option Value},(∀v,(x,v)∉binds) ->bindL kindOf binds m x=m x
 | [],_,_=>rfl
 | (n,v)::r,m,h=>by
  unfold bindL;rw[rS λw hw=>h w (aw _ hw)];split
  ·have:x≠n:=by rintro rfl;exact h v aE
   simp[this]
  ·rfl
theorem rV {kindOf:Str ->Option NameKind}{x:Str}: ∀ {binds:List (Str×Value)} {m:Str ->Option Value},(∀v,(x,v)∉binds) ->bindC kindOf binds m x=m x
 | [],_,_=>rfl
 | (n,v)::r,m,h=>by
  unfold bindC;rw[rV λw hw=>h w (aw _ hw)];split
  ·rfl
  ·have:x≠n:=by rintro rfl;exact h v aE
   simp[this]
theorem rT {kindOf:Str ->Option NameKind}{x:Str}{v:Value}: ∀ {P:List Str} {vs:List Value} {i:Nat} {m:Str ->Option Value},P.Nodup ->P[i]? =some x ->vs[i]? =some v ->kindOf x=some .local ->bindL kindOf (P.zip vs) m x=some v
 | [],_,_,_,_,h,_,_=>by simp at h
 | _::_,[],_,_,_,_,h,_=>by simp at h
 | p::P,w::vs,0,m,nd,h1,h2,hk=>by simp at h1 h2;subst h1;subst h2;show bindL kindOf ((p,w)::P.zip vs) m p=_;unfold bindL;rw[rS λv hv=>(bw.mp nd).1 (List.of_mem_zip hv).1,ak hk];simp
 | p::P,w::vs,i+1,m,nd,h1,h2,hk=>by show bindL kindOf ((p,w)::P.zip vs) m x=_;unfold bindL;exact rT (i:=i) (bw.mp nd).2 (by simpa using h1) (by simpa using h2) hk
theorem rW {kindOf:Str ->Option NameKind}{x:Str}{v:Value}: ∀ {P:List Str} {vs:List Value} {i:Nat} {m:Str ->Option Value},P.Nodup ->P[i]? =some x ->vs[i]? =some v ->kindOf x≠some .local ->bindC kindOf (P.zip vs) m x=some v
 | [],_,_,_,_,h,_,_=>by simp at h
 | _::_,[],_,_,_,_,h,_=>by simp at h
 | p::P,w::vs,0,m,nd,h1,h2,hk=>by simp at h1 h2;subst h1;subst h2;show bindC kindOf ((p,w)::P.zip vs) m p=_;unfold bindC;rw[rV λv hv=>(bw.mp nd).1 (List.of_mem_zip hv).1,aj hk];simp
 | p::P,w::vs,i+1,m,nd,h1,h2,hk=>by show bindC kindOf ((p,w)::P.zip vs) m x=_;unfold bindC;exact rW (i:=i) (bw.mp nd).2 (by simpa using h1) (by simpa using h2) hk
def start (N:List Str)(vs:List V):St:=vs.map some++List.replicate (N.length - vs.length) none
def eQ (CX:FK)(P:Program)(w:World)(K:PySem.W.Frag)(mg:Str ->Option Value)(base:Heap)(N:List Str)(qual:Str)(scope:Scope)(f:Addr)(cd:Value)(A:Around)(outer:List Env)(s:Shared)(H:Hp)(E:XK):Cx where
 prog:=P
 w:=w
 K:=K
 mg:=mg
 base:=base
 A:=A.deeper (envOfC qual scope s.heap.objs.size f cd)
 N:=N
 s₀:=s
 H₀:=H
 env:=envOfC qual scope s.heap.objs.size f cd
 outer:=outer
 stack:=envOfC qual scope s.heap.objs.size f cd::outer
 ex:= []
 calm:=true
 fn:=λ_=>true
 pn:= []
 xe:=λe s'=>wpAny (model P w) (A.deeper (envOfC qual scope s.heap.objs.size f cd)) (leaving (envOfC qual scope s.heap.objs.size f cd) e) (λ_ Te=>CX outer H s E e Te) (λe' Te=>CX outer H s E e' Te) s'
theorem vX {sc:Scope}{n:Nat}{x:Str}(h:sc.names.lookup x=some .cell): ∃c,(cellsFrom n sc.names []).lookup x=some c:=by have q:=PySem.W.cellsFrom_some sc.names n [] (.inl h);exact Option.isSome_iff_exists.mp q
theorem AX {CX:FK}{P:Program}{w:World}{K:PySem.W.Frag}{mg:Str ->Option Value}{base:Heap}{N ps:List Str}{qual:Str}{scope:Scope}{f:Addr}{cd:Value}{A:Around}{outer:List Env}{s s1:Shared}{H:Hp}{E:XK}{us:List Value}{vs:List V} (S:b7 N ps scope) (hd:A.handled=none) (e0:yk P w K mg base A outer s H) (hl:vs.length=ps.length) (r:Vals vs us) (x:InCallC s s.heap.objs.size (bindL (envOfC qual scope s.heap.objs.size f cd).kindOf (ps.zip us) λ_=>none) (cellsFrom (s.heap.objs.size+1) scope.names []) (bindC (envOfC qual scope s.heap.objs.size f cd).kindOf (ps.zip us) λ_=>none) s1): Inv (eQ CX P w K mg base N qual scope f cd A outer s H E) [] (start N vs) H s1:=by
 have rb:ps.length<=N.length:=by have:=congrArg List.length S.pre;rw[a6] at this;lia
 obtain⟨h1,tk,rfl,hk⟩:=x.done;have Pn: ∀b:Addr,b∉(eQ CX P w K mg base N qual scope f cd A outer s H E).ex:=λb z=>absurd (show b∈([]:List Addr) from z) (by simp);refine⟨⟨e0.mod,S.kind,rfl,rfl,aq _,λy z c h1 h2=> ?_,λy hy=> ?_,λy c _ h=> ?_,λ_=>hd,Around.frames_deeper e0.frames, .inr ⟨rfl,rfl⟩,λb z=>absurd z (Pn b),e0.bs,e0.F3,λb _ _=>Pn b,λb z=>absurd z (Pn b),e0.oh,e0.My⟩,
  rfl,e0.bare,Un.kept hk,⟨_,x.toInCall.ns,λi y v h1 h2 h3=> ?_⟩,λy c h=>⟨_,x.cell y c h⟩,e0.c7.fresh (aq _),λy c h=> ?_,λp hp=>absurd (show p∈([]:List (Addr×Obj)) from hp) (by simp),e0.c7.kept hk,?_⟩
 ·exact name_of_addr x.apart (PySem.mem_of_lookup h1) (PySem.mem_of_lookup h2)
 ·have hy:scope.names.lookup y=some .cell \/ scope.names.lookup y=some .free:=hy;rcases hy with hy | hy
  ·exact vX hy
  ·exact absurd rfl (S.Lv _ (PySem.mem_of_lookup hy))
 ·exact Nat.le_of_lt (x.above y c (PySem.mem_of_lookup h))
 ·have hi:i<vs.length:=by
   unfold start at h2;by_cases hi:i<vs.length
   ·exact hi
   ·rw[aU (by simpa using hi)] at h2;rw[List.getElem?_replicate] at h2;split at h2<;>cases h2
  have ha:vs[i]? =some v:=by
   unfold start at h2;rw[a9 (by simpa using hi),aA] at h2;cases e:vs[i]? with
   | none=>rw[e] at h2;cases h2
   | some a=>rw[e] at h2;cases h2;rfl
  obtain⟨u,hu,rv⟩:=r.get ha;have hp:ps[i]? =some y:=by rw[<- S.pre,List.getElem?_take_of_lt (by lia)];exact h1
  have XM:ps.Nodup:=by rw[<- S.pre];exact S.nd.sublist (List.take_sublist _ _)
  refine⟨u,rv,?_⟩;rcases S.par y (ai hp) with k | k
  ·exact .inl ⟨k,rT XM hp hu k⟩
  ·obtain⟨c,e⟩:=vX (n:=s.heap.objs.size+1) k;refine .inr ⟨.inl k,c,e,?_⟩;have q:=x.cell y c e;rw[rW XM hp hu (by show scope.names.lookup y≠_;rw[k];decide)] at q;exact q
 ·exact e0.c7.fresh (Nat.le_of_lt (x.above y c (PySem.mem_of_lookup h)))
 ·unfold start;show _=N.length;rw[aL,aa,List.length_replicate];lia
theorem QY {CX:FK}{P:Program}{w:World}{K:PySem.W.Frag}{mg:Str ->Option Value}{base:Heap}{k:Nat}{f:Addr}{name qual:Str}{params:Arguments}{body:List Stmt}{scope:Scope}{dV kV doc pm dQ ct oc:Value}{an od:Option Addr} {BM:Array (Option Value)} {N ps:List Str} {sp:Sp} (lk:K.lookup f=some ⟨oc,od, .func (PySem.W.fnOf name qual params body scope dV kV doc pm an dQ ct),BM⟩) (A7:PySem.W.codeIn K dQ qual=true) (S:b7 N ps scope) (len: ∀vs H Q E,sp vs H Q E ->vs.length=ps.length) (l3: ∀ (A:Around) (outer:List Env) (s:Shared) (H:Hp) (vs:List V) (Q:VK) (E:XK),fD k (A.deeper (envOfC qual scope s.heap.objs.size f dQ)) ->sp vs H Q E ->∃t,wF (eQ CX P w K mg base N qual scope f dQ A outer s H E) body t /\ t {nx:=λ_ H'=>Q .dB H',rt:=Q} (start N vs) H): dI P w K mg base CX (k+1) f (PySem.W.fnOf name qual params body scope dV kV doc pm an dQ ct) ps sp:=by
 refine⟨len,λA outer s H args us vs Q E hr e0 hb r vv=> ?_⟩;have hl:=len _ _ _ _ vv;have KX:K.In s.heap:=e0.mod.RZ.keeps λb o e=>(e0.bs b o e).1;have lim:s.heap.NoLimit:=e0.mod.nolimit.keeps λb o e=>(e0.bs b o e).1;have Qu: ∀y∈ps.zip us,scope.names.lookup y.1=some .local \/ (scope.names.lookup y.1=some .cell /\ ((cellsFrom (s.heap.objs.size+1) scope.names []).lookup y.1).isSome=true):=λ⟨n,v⟩ hy=>by
  rcases S.par n (List.of_mem_zip hy).1 with q | q
  ·exact .inl q
  ·exact .inr ⟨q,PySem.W.cellsFrom_some _ _ _ (.inl q)⟩
 refine codeAny_call_function hr.depth (KX _ _ lk) rfl S.co S.gen rfl (PySem.W.codeRec_of KX A7) (hb _ _ _ _ ?_);refine wpAny_newFunctionEnv_cells S.kind Qu λenv he s1 x=> ?_;subst he;refine⟨lim.keeps x.toInCall.keep,codeAny_func ?_⟩;obtain⟨t,ht,hq⟩:=l3 A outer s H vs Q E (hr.deeper _) vv;have I:Inv (eQ CX P w K mg base N qual scope f dQ A outer s H E) [] (start N vs) H s1:=AX S hr.hd e0 hl r x;refine bJ (ht [] s1 (start N vs) H _ I hq) (λfl s' hs=> ?_) λe s' hs=>hs;have fin: ∀ {σ':St} {H':Hp} {v:V} {u:Value},Inv (eQ CX P w K mg base N qual scope f dQ A outer s H E) [] σ' H' s' ->RelV v u ->Q v H' ->CE outer P w H s Q u s':=λ{σ' H' v u} J rv q=>⟨v,H',J.os,J.bare,J.base,J.c7,rv,q⟩
 cases fl with
 | ret u=>obtain⟨v,σ',H',J,rv,q⟩:=hs;exact fin J rv q
 | next=>obtain⟨σ',H',J,q⟩:=hs;exact fin (v:=V.dB) (u:=Value.none) J rfl q
 | brk=>obtain⟨_,_,_,q⟩:=hs;exact False.elim q
 | cont=>obtain⟨_,_,_,q⟩:=hs;exact False.elim q
section
variable {X:Cx}{x:Str}{p pos:Pos}{e:Expr}{es:List Expr}{t:TA}{id T:String}{r:List V ->Hp ->VK ->Prop}
def S8 (r:List V ->Hp ->VK ->Prop)(t:TA):TE:=λσ H Q=>t σ H λvs H1=>r vs H1 Q
theorem cA (hc:gw X (.builtin id) r)(hg:Gl X x)(hm:X.mg x=none)(hv:bootBuiltins x=some (.builtin id))(ha:PA X (e::es) t)(hn:x≠ "__name__" :=by decide)(ES:(x==("__debug__" :Str))=false:=by decide) (he:starEach (e::es) X.env=(false,eval e X.env)::starEach es X.env:=by rfl) (rb:(backTo pos (starEach es X.env)).any (·.1)=false:=by rfl):PE X (.Call (.Name x p) (e::es) [] pos) (S8 r t):=by intro pins s σ H Q I h;refine wpAny_Call_Name_kw (gr I hg hm hv ?_ hn ES);exact PyProof.Rows.callWith_builtin1 (df (ha pos pins s σ H _ I h) λus s1 ⟨vs,H1,I1,r1,q1⟩=>hc pins s1 σ H1 vs us Q I1 r1 q1) he rb
theorem dj (hc:gw X (.type T) r)(hg:Gl X x)(hm:X.mg x=none)(hv:bootBuiltins x=some (.type T))(ha:PA X (e::es) t)(hn:x≠ "__name__" :=by decide)(ES:(x==("__debug__" :Str))=false:=by decide) (he:starEach (e::es) X.env=(false,eval e X.env)::starEach es X.env:=by rfl) (rb:(backTo pos (starEach es X.env)).any (·.1)=false:=by rfl):PE X (.Call (.Name x p) (e::es) [] pos) (S8 r t):=by intro pins s σ H Q I h;refine wpAny_Call_Name_kw (gr I hg hm hv ?_ hn ES);exact bO (df (ha pos pins s σ H _ I h) λus s1 ⟨vs,H1,I1,r1,q1⟩=>hc pins s1 σ H1 vs us Q I1 r1 q1) he rb
end
end L2
namespace HT
open PySem PyProof.Rows
section
variable {prog:Program}{w:World}{A:Around}{E:Value ->Shared ->Prop}{s:Shared}
def oZ (n d:Nat):Option Int ->Nat
 | none=>d
 | some v=>if v<0 then(v+(n:Int)).toNat else min v.toNat n
theorem C3 (n d:Nat):oZ n d none=d:=rfl
theorem Gr (n d k:Nat):oZ n d (some (k:Int))=min k n:=by show(if(k:Int) <0 then((k:Int)+(n:Int)).toNat else min (k:Int).toNat n)=min k n;rw[aj (by lia),Int.toNat_natCast]
end
end HT
namespace L2
open PySem PySem.Spec PyProof.Rows
abbrev TO:=St ->Hp ->(Option Int ->Hp ->Prop) ->Prop
def PO (X:Cx)(e:Option Expr)(t:TO):Prop:=∀ (pins:List (Addr×Obj)) (s:Shared) (σ:St) (H:Hp) (Q:Option Int ->Hp ->Prop),Inv X pins σ H s ->t σ H Q ->wpAny (model X.prog X.w) X.A (evalPart e X.env) (λu s'=> ∃o H',Inv X pins σ H' s' /\ IsPart u o /\ Q o H') X.xe s
def yA:TO:=λ_ H Q=>Q none H
def Iw (t:TE):TO:=λσ H Q=>t σ H λx H1=> ∃i,x= .int i /\ Q (some i) H1
section
variable {X:Cx}{e:Expr}{te:TE}{lo hi:Option Expr}{tl th:TO}{pos p2:Pos}
theorem y3:PO X none yA:=by intro pins s σ H Q I h;rw[evalPart_none];exact aM ⟨none,H,I, .none,h⟩
theorem yZ (h:PE X e te):PO X (some e) (Iw te):=by intro pins s σ H Q I hw;rw[evalPart_some];refine df (h pins s σ H _ I hw) λu s1 ⟨x,H1,I1,r1,q1⟩=> ?_;obtain⟨i,rfl,q⟩:=q1;obtain⟨t,rfl⟩:=r1;exact⟨some i,H1,I1, .int i t,q⟩
def YQ (X:Cx)(r:V ->Option Int ->Option Int ->Hp ->VK ->Prop):Prop:=∀ (pins:List (Addr×Obj)) (s:Shared) (σ:St) (H:Hp) (x:V) (v vl vu:Value) (lo hi:Option Int) (sl:Addr) (Q:VK),Inv X pins σ H s ->RelV x v ->s.heap.IsSliceOf sl vl vu .none ->IsPart vl lo ->IsPart vu hi ->r x lo hi H Q ->∃T id,typeLookup (.type T) "__getitem__" =pure (some (.builtin id)) /\ s.TypeIs v T /\ wpAny (model X.prog X.w) X.A (getItem v (.ref sl)) (EP X pins σ Q) X.xe s
def Xo (r:V ->Option Int ->Option Int ->Hp ->VK ->Prop)(te:TE)(tl th:TO):TE:=λσ H Q=>te σ H λx H1=>tl σ H1 λl H2=>th σ H2 λu H3=>r x l u H3 Q
theorem uZ {r:V ->Option Int ->Option Int ->Hp ->VK ->Prop}(hr:YQ X r)(he:PE X e te)(hl:PO X lo tl)(hu:PO X hi th):PE X (.Subscript e (.Slice lo hi none p2) pos) (Xo r te tl th):=by intro pins s σ H Q I h;refine Subscript_ (df (he pins s σ H _ I h) λv s1 ⟨x,H1,I1,r1,q1⟩=> ?_);refine wpAny_Slice (df (hl pins s1 σ H1 _ I1 q1) λvl s2 ⟨l,H2,I2,pl,q2⟩=>df (hu pins s2 σ H2 _ I2 q2) λvu s3 ⟨u,H3,I3,pu,q3⟩=> ?_);rw[evalPart_none];refine aM ?_;have I4:Inv X pins σ H3 {s3 with heap:=s3.heap.push {cls:= .type "slice",data:= .fields #[vl,vu, .none]}}:=I3.kept (t':=s3.toks) λb ob q=>ar _ q;obtain⟨T,id,hT,ht,hg⟩:=hr pins {s3 with heap:=s3.heap.push {cls:= .type "slice",data:= .fields #[vl,vu, .none]}} σ H3 x v vl vu l u s3.heap.objs.size Q I4 r1 (Heap.IsSliceOf.new ..) pl pu q3;show wpAny (model X.prog X.w) X.A (subscriptTail e (.Slice lo hi none p2) v (.ref s3.heap.objs.size)) (EP X pins σ Q) X.xe {s3 with heap:=s3.heap.push {cls:= .type "slice",data:= .fields #[vl,vu, .none]}};exact tail_any (ops:= [.ref s3.heap.objs.size,v]) ht hT hg (by with_unfolding_all rfl)
def vS (xs:List V)(lo hi:Option Int):List V:=(xs.drop (HT.oZ xs.length 0 lo)).take (HT.oZ xs.length xs.length hi - HT.oZ xs.length 0 lo)
theorem vR (xs:List V)(lo hi:Option Int):(vS xs lo hi).length<=xs.length:=by unfold vS;rw[a6,List.length_drop];lia
end
def pH (n:Nat)(i:Int):Option Nat:=if 0<=i then(if i<n then some i.toNat else none) else if -(n:Int) <=i then some (i+n).toNat else none
def kj {α:Type}(xs:List α)(i:Int):Option α:=(pH xs.length i).bind λj=>xs[j]?
theorem zu {n:Nat}{i:Int}{j:Nat}(h:pH n i=some j): seqIndex? i n=some j /\ j<n /\ -(n:Int) <=i /\ i<n:=by
 unfold pH at h;by_cases h0:0<=i
 ·rw[ak h0] at h;by_cases h1:i<n
  ·rw[ak h1] at h;have e:i.toNat=j:=br h;exact⟨by rw[seqIndex_of h0 h1,e],by lia,by lia,h1⟩
  ·rw[aj h1] at h;cases h
 ·rw[aj h0] at h;by_cases h1: -(n:Int) <=i
  ·rw[ak h1] at h;have e:(i+n).toNat=j:=br h;exact⟨by rw[seqIndex_neg (by lia) h1,e],by lia,h1,by lia⟩
  ·rw[aj h1] at h;cases h
theorem Ah {α:Type}{xs:List α}{i:Int}{v:α}(h:kj xs i=some v): ∃j, seqIndex? i xs.length=some j /\ xs[j]? =some v /\ j<xs.length /\ -(xs.length:Int) <=i /\ i<xs.length:=by
 unfold kj at h;cases e:pH xs.length i with
 | none=>rw[e] at h;cases h
 | some j=>rw[e] at h;obtain⟨h1,h2,h3,h4⟩:=zu e;exact⟨j,h1,h,h2,h3,h4⟩
theorem gg {α:Type}{xs:List α}{j:Nat}{v:α}(h:xs[j]? =some v):kj xs (j:Int)=some v:=by
 have hj:j<xs.length:=(ag.mp h).1;have e:pH xs.length (j:Int)=some j:=by unfold pH;rw[ak (by lia),ak (by lia)];simp
 unfold kj;rw[e];exact h
def HU (b:Expr):Prop:= ∀o i,subscripted b false o i=operate [o,i] (getItem o i)
def W0 (X:Cx)(r:R2):Prop:=∀ (value slice:Expr) (pins:List (Addr×Obj)) (s:Shared) (σ:St) (H:Hp) (x y:V) (v u:Value) (Q:VK),Inv X pins σ H s ->RelV x v ->RelV y u ->r x y H Q ->subscripted slice false v u=operate [v,u] (getItem v u) ->wpAny (model X.prog X.w) X.A (subscriptTail value slice v u) (EP X pins σ Q) X.xe s
def YS (X:Cx)(id:String)(r:V ->List V ->Hp ->VK ->Prop):Prop:=∀ (pins:List (Addr×Obj)) (s:Shared) (σ:St) (H:Hp) (x:V) (xs:List V) (v:Value) (us:List Value) (Q:VK),Inv X pins σ H s ->RelV x v ->Vals xs us ->r x xs H Q ->wpAny (model X.prog X.w) X.A (call (.builtin id) (v::us)) (EP X pins σ Q) X.xe s
section
variable {X:Cx}{a b:Expr}{ta tb:TE}{pos:Pos}
theorem c5 {r:R2}(hr:W0 X r)(ha:PE X a ta)(hb:PE X b tb)(hs:HU b):PE X (.Subscript a b pos) (Oz r ta tb):=by intro pins s σ H Q I h;exact Subscript_ (MK ha hb I h λv u s2 x y H2 I2 rx ry q=>hr a b pins s2 σ H2 x y v u Q I2 rx ry q (hs _ _))
def O2 (K:PySem.W.Frag):R2:=λx y H Q=> ∃p xs i v,x= .ref p /\ y= .int i /\ f6 K H p xs /\ kj xs i=some v /\ Q v H
def O1 (K:PySem.W.Frag):R2:=λx y H Q=> ∃p xs i v,x= .ref p /\ y= .int i /\ iS K H p xs /\ kj xs i=some v /\ Q v H
theorem cK:W0 X (O2 X.K):=by
 intro value slice pins s σ H x y v u Q I rx ry h hs;obtain⟨p,xs,i,z,rfl,rfl,hq,he,q⟩:=h;cases rx;obtain⟨t,rfl⟩:=ry;obtain⟨its,r,pl,hz⟩:=I.list hq;obtain⟨j,h1,h2,h3,h4,h5⟩:=Ah he;obtain⟨w,ew,sN⟩:=r.get h2;have hl:=r.length;have hn:=pC;have fin:EP X pins σ Q w s:=⟨z,H,I,sN,q⟩
 by_cases h0:0<=i
 ·have hj:i.toNat=j:=by rw[seqIndex_of h0 h5] at h1;exact br h1
  exact item_listR pl.isList h0 (by lia) (by rw[hj];simpa using ew) fin hs
 ·have hj:(i+(its.toArray.size:Int)).toNat=j:=by rw[seqIndex_neg (by lia) h4] at h1;rw[aO, <- hl];exact br h1
  exact subscriptTail_builtinR (x:=w) pl.isList.typeIs slot_list_getitem.lookup (wpAny_getItem_list_neg (Q:=λr s'=>r=w /\ EP X pins σ Q r s') pl.isList (by lia) (by rw[aO] <;>lia) (by lia) (by rw[hj];simpa using ew) ⟨rfl,fin⟩) hs
theorem fJ:W0 X (O1 X.K):=by
 intro value slice pins s σ H x y v u Q I rx ry h hs;obtain⟨p,xs,i,z,rfl,rfl,hq,he,q⟩:=h;cases rx;obtain⟨t,rfl⟩:=ry;obtain⟨its,r,pl,hz⟩:=I.tuple hq;obtain⟨j,h1,h2,h3,h4,h5⟩:=Ah he;obtain⟨w,ew,sN⟩:=r.get h2;have hl:=r.length;have hn:=pC;have fin:EP X pins σ Q w s:=⟨z,H,I,sN,q⟩
 exact subscriptTail_builtinR (x:=w) pl.typeIs slot_tuple_getitem.lookup (getItem_tuple (j:=j) (Q:=λr s'=>r=w /\ EP X pins σ Q r s') pl (by lia) (by lia) (by rw[aO, <- hl];exact h1) (by simpa using ew) ⟨rfl,fin⟩) hs
theorem xy (its:List Value)(n j:Nat)(u:Value):Obj.mapSeq (·.setIfInBounds j u) {cls:= .type "list",data:= .seq its.toArray n}= {cls:= .type "list",data:= .seq (its.set j u).toArray n}:=by simp[Obj.mapSeq]
theorem Inv.lst {pins:List (Addr×Obj)}{σ:St}{H:Hp}{s:Shared}{p:Addr}{xs:List V}(I:Inv X pins σ H s)(h:H p=some (.lst xs)): ∃ (its:List Value) (n:Nat),Vals xs its /\ s.heap.get? p=some {cls:= .type "list",data:= .seq its.toArray n} /\ xs.length<=sizeLine:=by obtain⟨z,its,n,r,e⟩:=I.c7 p _ h;exact⟨its,n,r,e,z⟩
theorem Inv.LD {pins:List (Addr×Obj)}{σ:St}{H:Hp}{s:Shared}{p:Addr}{xs ys:List V}{its its':List Value}{n n':Nat}{f:Obj ->Obj}(I:Inv X pins σ H s)(h:H p=some (.lst xs)) (ho:s.heap.get? p=some {cls:= .type "list",data:= .seq its.toArray n}) (hf:f {cls:= .type "list",data:= .seq its.toArray n}= {cls:= .type "list",data:= .seq its'.toArray n'}) (r:Vals ys its') (hz:ys.length<=sizeLine) (t:Nat): Inv X pins σ (upd H p (.lst ys)) {s with heap:=s.heap.update p f,toks:=t}:=by
 have e:(s.heap.update p f).get? p=some {cls:= .type "list",data:= .seq its'.toArray n'}:=by rw[Heap.get?_update_self f ho (by rw[hf] <;>rfl),hf]
 refine I.write (x:=p) (e:=p) (by rw[h];trivial) (.inl rfl) (λb u hb q=>(Heap.get?_update_other _ _ (a5 hb)).trans q) ⟨_,e⟩ ?_;exact⟨hz,its',n',r,e⟩
def Je:V ->V ->V ->Hp ->(Hp ->Prop) ->Prop:=λo i v H Q=> ∃p xs k j,o= .ref p /\ i= .int k /\ H p=some (.lst xs) /\ pH xs.length k=some j /\ Q (upd H p (.lst (xs.set j v)))
theorem set_list:Rg X Je:=by
 intro pins s σ H o i v ov iv u Q I ro ri rv h;obtain⟨p,xs,k,j,rfl,rfl,hp,hj,q⟩:=h;cases ro;obtain⟨t,rfl⟩:=ri;obtain⟨its,n,r,ho,hz⟩:=I.lst hp;obtain⟨h1,h2,h3,h4⟩:=zu hj;have hl:=r.length;have hn:=pC;have I':Inv X pins σ (upd H p (.lst (xs.set j v))) {s with heap:=s.heap.update p (Obj.mapSeq (·.setIfInBounds j u))}:=I.LD hp ho (xy its n j u) (r.set rv j) (by rw[List.length_set];exact hz) s.toks;by_cases h0:0<=k
 ·have hk:k.toNat=j:=by rw[seqIndex_of h0 h4] at h1;exact br h1
  exact PySem.W.ki_setAt ho h0 (by lia) (by rw[aO, <- hl];exact h4) (by rw[hk];exact⟨_,I',q⟩)
 ·have hk:(k+(its.toArray.size:Int)).toNat=j:=by rw[seqIndex_neg (by lia) h3] at h1;rw[aO, <- hl];exact br h1
  exact PySem.W.ki_setBack ho (by lia) (by rw[aO, <- hl];exact h3) (by lia) (by rw[hk];exact⟨_,I',q⟩)
theorem sG (lo hi:Option Int)(n:Nat):(sliceBounds lo hi none n).1=((HT.oZ n 0 lo:Nat):Int) /\ (sliceBounds lo hi none n).2.1=((HT.oZ n n hi:Nat):Int) /\ (sliceBounds lo hi none n).2.2=1:=by
 refine⟨?_,?_,rfl⟩
 ·cases lo with
  | none=>simp[sliceBounds,HT.oZ]
  | some i=>
   simp only[sliceBounds,HT.oZ,Option.getD_none,show(1:Int) >0 by decide,bN];by_cases h:i<0
   ·simp only[h,bN] <;>lia
   ·simp only[h,bf] <;>lia
 ·cases hi with
  | none=>simp[sliceBounds,HT.oZ]
  | some i=>
   simp only[sliceBounds,HT.oZ,Option.getD_none,show(1:Int) >0 by decide,bN];by_cases h:i<0
   ·simp only[h,bN] <;>lia
   ·simp only[h,bf] <;>lia
theorem qi (its:List Value)(lo hi:Option Int):slicePick its.toArray lo hi none=((its.drop (HT.oZ its.length 0 lo)).take (HT.oZ its.length its.length hi - HT.oZ its.length 0 lo)).toArray:=by obtain⟨h1,h2,h3⟩:=sG lo hi its.toArray.size;unfold slicePick;rw[h1,h2,h3];simp only[sliceRange_one,pick_run,aO] <;>rfl
def OZ (K:PySem.W.Frag):V ->Option Int ->Option Int ->Hp ->VK ->Prop:=λx lo hi H Q=> ∃a xs,x= .ref a /\ f6 K H a xs /\ ∀p,H p=none ->Q (.ref p) (upd H p (.lst (vS xs lo hi)))
theorem yN:YQ X (OZ X.K):=by intro pins s σ H x v vl vu lo hi sl Q I rx hs pl pu h;obtain⟨a,xs,rfl,hx,q⟩:=h;cases rx;obtain⟨its,r,ht,hz⟩:=I.list hx;have hlen:=r.length;refine⟨"list",_,slot_list_getitem.lookup,ht.isList.typeIs,?_⟩;refine wpAny_getItem_list_slice ht.isList hs pl pu .none (by simp) ?_ (by rw[aO] <;>lia);rw[qi, <- hlen];refine⟨.ref s.heap.objs.size,_,I.laid (t':=s.toks) (o:= .lst (vS xs lo hi)) (λb ob q=>ar _ q) (aq _) ?_,rfl,q _ (I.c7.fresh (aq _))⟩;exact⟨a4 (vR xs lo hi) hz,_,0,(r.drop (HT.oZ xs.length 0 lo)).take (HT.oZ xs.length xs.length hi - HT.oZ xs.length 0 lo),aS _ rfl⟩
def JV:V ->Bool
 | .dB=>true
 | .bl _=>true
 | .int _=>true
 | .str _=>true
 | _=>false
def eqV:V ->V ->Bool
 | .dB, .dB=>true
 | .bl a, .bl b=>a==b
 | .bl a, .int b=>(if a then 1 else 0)==b
 | .int a, .bl b=>a==(if b then 1 else 0)
 | .int a, .int b=>a==b
 | .str a, .str b=>a==b
 | _,_=>false
theorem e9 {A:Around}{s:Shared}{y x:V}{u v:Value}(ry:RelV y u)(rx:RelV x v)(fy:JV y=true)(fx:JV x=true):SeqAt.EqAt A s u v (eqV y x):=by
 cases y with
 | dB=>
  cases ry;cases x with
  | dB=>cases rx;exact SeqAt.EqAt.same _
  | bl b=>cases rx;exact SeqAt.EqAt.none_bool b
  | int b=>obtain⟨t,rfl⟩:=rx;exact SeqAt.EqAt.none_int b t
  | str b=>obtain⟨t,rfl⟩:=rx;exact SeqAt.EqAt.none_str b t
  | _=>exact absurd (show false=true from fx) aW
 | bl a=>
  cases ry;cases x with
  | dB=>cases rx;exact SeqAt.EqAt.bool_none a
  | bl b=>cases rx;exact SeqAt.EqAt.bool_bool a b
  | int b=>obtain⟨t,rfl⟩:=rx;exact SeqAt.EqAt.bool_int a b t
  | str b=>obtain⟨t,rfl⟩:=rx;exact SeqAt.EqAt.bool_str a b t
  | _=>exact absurd (show false=true from fx) aW
 | int a=>
  obtain⟨t',rfl⟩:=ry;cases x with
  | dB=>cases rx;exact SeqAt.EqAt.int_none a t'
  | bl b=>cases rx;exact SeqAt.EqAt.int_bool a t' b
  | int b=>obtain⟨t,rfl⟩:=rx;exact SeqAt.EqAt.int_int a t' b t
  | str b=>obtain⟨t,rfl⟩:=rx;exact SeqAt.EqAt.int_str a t' b t
  | _=>exact absurd (show false=true from fx) aW
 | str a=>
  obtain⟨t',rfl⟩:=ry;cases x with
  | dB=>cases rx;exact SeqAt.EqAt.str_none a t'
  | bl b=>cases rx;exact SeqAt.EqAt.str_bool a t' b
  | int b=>obtain⟨t,rfl⟩:=rx;exact SeqAt.EqAt.str_int a t' b t
  | str b=>obtain⟨t,rfl⟩:=rx;exact SeqAt.EqAt.str_str a t' b t
  | _=>exact absurd (show false=true from fx) aW
 | _=>exact absurd (show false=true from fy) aW
theorem t7:gw X (.builtin "len") (λxs H Q=> ∃p ys,xs= [.ref p] /\ (f6 X.K H p ys \/ iS X.K H p ys) /\ Q (.int ys.length) H):=by
 intro pins s σ H xs us Q I r h;obtain⟨p,ys,rfl,hq,q⟩:=h;obtain⟨u,rfl,rx⟩:=vals1 r;cases rx;have hn:=pC;rcases hq with hq | hq
 ·obtain⟨its,r',pl,hz⟩:=I.list hq;have hlen:=r'.length;exact Calls.call_len_list pl.isList (by simp only[aO] <;>lia) ⟨.int ys.length,H,I.tok _,⟨s.toks+1,by rw[aO,hlen]⟩,q⟩
 ·obtain⟨its,r',pl,hz⟩:=I.tuple hq;have hlen:=r'.length;exact len_tuple pl (by simp only[aO] <;>lia) ⟨.int ys.length,H,I.tok _,⟨s.toks+1,by rw[aO,hlen]⟩,q⟩
theorem tZ:gw X (.type "list") (λxs H Q=> ∃p ys,xs= [.ref p] /\ (f6 X.K H p ys \/ iS X.K H p ys) /\ ∀l,H l=none ->Q (.ref l) (upd H l (.lst ys))):=by
 intro pins s σ H xs us Q I r h;obtain⟨p,ys,rfl,hq,q⟩:=h;obtain⟨u,rfl,rx⟩:=vals1 r;cases rx;have fin: ∀ (its:List Value),Vals ys its ->ys.length<=sizeLine -> ∀ (h':Heap) (c':Nat),(∀b o',s.heap.get? b=some o' ->h'.get? b=some o') ->h'.get? s.heap.objs.size=some {cls:= .type "list",dict:=none,data:= .seq its.toArray c',slots:= #[]} ->EP X pins σ Q (.ref s.heap.objs.size) {s with heap:=h'}:=λits r' hz h' c' kp e=>⟨.ref s.heap.objs.size,_,I.laid (t':=s.toks) kp (aq _) (show dF X.prog X.w _ h' _ (.lst ys) from⟨hz,its,c',r',e⟩),rfl,q _ (I.c7.fresh (aq _))⟩
 rcases hq with hq | hq
 ·obtain⟨its,r',pl,hz⟩:=I.list hq;have hlen:=r'.length;obtain⟨o,ho,hc,n,hd⟩:=pl.isList;exact call_list_seq p (.inl rfl) ho hc hd (λh' c' kp e=>fin its r' hz h' c' kp e) (by simp only[aO] <;>lia)
 ·obtain⟨its,r',pl,hz⟩:=I.tuple hq;have hlen:=r'.length;obtain⟨o,ho,hc,n,hd⟩:=pl;exact call_list_seq p (.inr rfl) ho hc hd (λh' c' kp e=>fin its r' hz h' c' kp e) (by simp only[aO] <;>lia)
theorem qu:gw X (.type "tuple") (λxs H Q=> ∃p ys,xs= [.ref p] /\ ((f6 X.K H p ys /\ ∀l,H l=none ->Q (.ref l) (upd H l (.tup ys))) \/ (iS X.K H p ys /\ Q (.ref p) H))):=by
 intro pins s σ H xs us Q I r h;obtain⟨p,ys,rfl,h⟩:=h;obtain⟨u,rfl,rx⟩:=vals1 r;cases rx;rcases h with⟨hq,q⟩ | ⟨hq,q⟩
 ·obtain⟨its,r',pl,hz⟩:=I.list hq;have hlen:=r'.length;refine call_tuple_list pl.isList (λh' kp=> ?_) (by simp only[aO] <;>lia);have I1:Inv X pins σ H {s with heap:=h'}:=I.kept (t':=s.toks) kp;have I2:Inv X pins σ (upd H h'.objs.size (.tup ys)) {s with heap:=h'.push {cls:= .type "tuple",data:= .seq its.toArray}}:=I1.laid (t':=s.toks) (λb o e=>ar _ e) (aq _) (show dF X.prog X.w _ _ _ (.tup ys) from⟨hz,its,r',ud.new _ _⟩);exact⟨.ref h'.objs.size,_,I2,rfl,q _ (I1.c7.fresh (aq _))⟩
 ·obtain⟨its,r',pl,hz⟩:=I.tuple hq;exact call_tuple_same pl ⟨.ref p,H,I,rfl,q⟩
def S2 (K:PySem.W.Frag)(T:String)(x:V)(H:Hp):Prop:=match x with
 | .str _=>T= "str"
 | .int _=>T= "int"
 | .ref p=>(T= "list" /\ ∃xs,f6 K H p xs) \/ (T= "tuple" /\ ∃o,K.lookup p=some o /\ o.cls= .type "tuple" /\ o.dict=none) \/(T= "dict" /\ ((∃kvs,H p=some (.dK kvs)) \/ ∃kvs,H p=some (.dT kvs))) \/ (T= "set" /\ ∃S n,H p=some (.set S n))
 | _=>False
theorem Kv {pins:List (Addr×Obj)}{σ:St}{H:Hp}{s:Shared}{T:String}{x:V}{v:Value}(I:Inv X pins σ H s)(r:RelV x v)(ty:S2 X.K T x H): s.TypeIs v T /\ ∀a,v= .ref a -> ∃ob,s.heap.get? a=some ob /\ ob.dict=none:=by
 cases x with
 | str z=>obtain⟨t,rfl⟩:=r;cases (show T= "str" from ty);exact⟨typeIs_str s z t,λ_ e=>nomatch e⟩
 | int i=>obtain⟨t,rfl⟩:=r;cases (show T= "int" from ty);exact⟨typeIs_int s i t,λ_ e=>nomatch e⟩
 | ref p =>
  cases r;rcases ty with⟨rfl,xs,hq⟩ | ⟨rfl,o,hk,hc,hd⟩ | ⟨rfl,hk⟩ | ⟨rfl,S,n,hk⟩
  ·obtain⟨its,_,pl,_⟩:=I.list hq;refine⟨pl.isList.typeIs,λa e=> ?_⟩;cases e;obtain⟨o,n,e,c,hd,_⟩:=pl;exact⟨o,e,hd⟩
  ·refine⟨⟨o,I.nZ p o hk,hc⟩,λa e=> ?_⟩;cases e;exact⟨o,I.nZ _ o hk,hd⟩
  ·have z: ∃o,s.heap.get? p=some o /\ o.ExactDict:=by
    rcases hk with⟨kvs,hk⟩ | ⟨kvs,hk⟩
    ·obtain⟨_,_,_,_,o,_,_,e,ex,_⟩:=I.c7 p _ hk;exact⟨o,e,ex⟩
    ·obtain⟨_,_,_,_,o,_,_,e,ex,_⟩:=I.c7 p _ hk;exact⟨o,e,ex⟩
   obtain⟨o,e,ex⟩:=z;refine⟨⟨o,e,ex.1⟩,λa e2=> ?_⟩;cases e2;exact⟨o,e,ex.2.1⟩
  ·obtain⟨o,_,_,_,e,ex,_⟩:=I.c7 p _ hk;refine⟨⟨o,e,ex.1⟩,λa e2=> ?_⟩;cases e2;exact⟨o,e,ex.2.1⟩
 | _=>exact False.elim ty
def Xq (K:PySem.W.Frag)(T:String)(r:V ->List V ->Hp ->VK ->Prop)(to:TE)(t:TA):TE:=λσ H Q=>to σ H λx H1=>S2 K T x H1 /\ t σ H1 λxs H2=>r x xs H2 Q
variable {o e:Expr}{es:List Expr}{to:TE}{t:TA}{name:Str}{apos fm:Pos}{T id:String}{r:V ->List V ->Hp ->VK ->Prop}
theorem DB (pa:PlainAttrs T)(slot:Slot T name id)(hty:typeOf (.builtin id)=pure (.type "method_descriptor"))(hm:YS X id r)(ho:PE X o to)(ha:PA X (e::es) t) (vA:attributeBase o name X.env (eval o X.env)=eval o X.env:=by rfl) (U5:((backTo fm (starEach (e::es) X.env)).all (λx=> !x.1) && (backToKw fm (keywordEach [] X.env)).all (λx=>x.1.isSome) && decide ((e::es).length+([]:List Keyword).length+(if([]:List Keyword).isEmpty then 0 else 1) <30))=true:=by rfl) (vy:(apos.endLine==fm.line)=true:=by rfl) (hs:starEach (e::es) X.env=(false,eval e X.env)::starEach es X.env:=by rfl) (LX:(backTo fm (starEach es X.env)).any (·.1)=false:=by rfl): PE X (.Call (.Attribute o name apos) (e::es) [] fm) (Xq X.K T r to t):=by intro pins s σ H Q I h;refine wpAny_Call_method_late vA U5 vy rfl (df (ho pins s σ H _ I h) λv s1 ⟨x,H1,I1,r1,ty,q1⟩=> ?_);obtain⟨h1,h2⟩:=Kv I1 r1 ty;refine⟨T,id,pa,slot,hty,h1,h2,?_⟩;have hA:=ha fm pins s1 σ H1 _ I1 q1;rw[hs] at hA ⊢;refine Calls.callWith_builtin (by show(false || (backTo fm (starEach es X.env)).any (·.1))=false;rw[LX] <;>rfl) (Calls.evalArgs_plain ?_);exact df hA λus s2 ⟨vs,H2,I2,r2,q2⟩=>hm pins s2 σ H2 x vs v us Q I2 r1 r2 q2
/- xs.append(e),list.index on a PB tuple .. are YS facts of 06m -/
end
def WY (X:Cx)(id:String)(r:V ->List V ->Hp ->VK ->Prop):Prop:=∀ (pins:List (Addr×Obj)) (s:Shared) (σ:St) (H:Hp) (x:V) (xs:List V) (v:Value) (us:List Value) (Q:VK),Inv X pins σ H s ->RelV x v ->Vals xs us ->r x xs H Q ->wpAny (model X.prog X.w) X.A (call (.builtin id) (v::us)) (EP X pins σ Q) X.xe s
theorem Vals.one: ∀ {x:V} {us:List Value},Vals [x] us -> ∃u,us= [u] /\ RelV x u
 | _,_, .cons r .nil=>⟨_,rfl,r⟩
theorem Vals.two: ∀ {x y:V} {us:List Value},Vals [x,y] us -> ∃u v,us= [u,v] /\ RelV x u /\ RelV y v
 | _,_,_, .cons r (.cons q .nil)=>⟨_,_,rfl,r,q⟩
section
variable {X:Cx}{pins:List (Addr×Obj)}{σ:St}{H:Hp}{s:Shared}{l b:Addr}{xs ys zs:List V}
theorem Inv.LF {its its':List Value}{n:Nat}{f:Array Value ->Array Value}{t':Nat}(I:Inv X pins σ H s)(hH:H l=some (.lst xs)) (e:s.heap.get? l=some {cls:= .type "list",data:= .seq its.toArray n}) (hf:f its.toArray=its'.toArray) (hv:Vals ys its') (hz:ys.length<=sizeLine): Inv X pins σ (upd H l (.lst ys)) {s with heap:=s.heap.update l (Obj.mapSeq f),toks:=t'}:=by have q:=PySem.IsL.update e f;rw[hf] at q;refine I.write (x:=l) (e:=l) (by rw[hH];exact trivial) (.inl rfl) (λb' u hb hu=>(Heap.get?_update_other s.heap (Obj.mapSeq f) (a5 hb)).trans hu) ⟨_,q⟩ ?_;exact⟨hz,its',_,hv,q⟩
theorem Inv.T3 {its:List Value}{t':Nat}(I:Inv X pins σ H s)(hv:Vals ys its)(hz:ys.length<=sizeLine): Inv X pins σ (upd H s.heap.objs.size (.lst ys)) {s with heap:=s.heap.push {cls:= .type "list",data:= .seq its.toArray},toks:=t'}:=I.laid (λ_ _ q=>ar _ q) (aq _) ⟨hz,its,0,hv,aS _ rfl⟩
theorem Inv.fresh (I:Inv X pins σ H s):H s.heap.objs.size=none:=I.c7.fresh (aq _)
theorem Inv.AM (I:Inv X pins σ H s)(hH:H l=some (.lst xs)):xs.length<=sizeLine /\ ∃ (its:List Value) (n:Nat),Vals xs its /\ xs.length=its.length /\ s.heap.get? l=some {cls:= .type "list",data:= .seq its.toArray n}:=by obtain⟨z,its,n,r,e⟩:=I.c7 l _ hH;exact⟨z,its,n,r,r.length,e⟩
theorem DY {n:Nat}(h:n<=sizeLine):Builtin.List.listTooLong n=false:=by unfold Builtin.List.listTooLong;exact decide_eq_false (by lia)
end
section
variable {X:Cx}
def yW:V ->List V ->Hp ->VK ->Prop:=λx vs H Q=> ∃l xs y,x= .ref l /\ vs= [y] /\ H l=some (.lst xs) /\ xs.length<sizeLine /\ Q .dB (upd H l (.lst (xs++ [y])))
theorem jT:WY X "list.append" yW:=by intro pins s σ H x vs v us Q I rx rv h;obtain⟨l,xs,y,rfl,rfl,hH,hz,q⟩:=h;cases rx;obtain⟨u,rfl,ru⟩:=rv.one;obtain⟨z,its,n,r,hl,e⟩:=I.AM hH;refine call_meets F.slot_list_append ⟨_,e,rfl⟩ F.entry_list_append (F.args_list_append_2 _ _) (PySem.list_append l its.toArray n u (by rw[aO];lia)) ⟨e,?_⟩;refine⟨.dB,_,I.LF (its':=its++ [u]) hH e (by simp) (r.append (.cons ru .nil)) ?_,rfl,q⟩;rw[aL,cY];lia
def Gy:V ->List V ->Hp ->VK ->Prop:=λx vs H Q=> ∃l b xs zs,x= .ref l /\ vs= [.ref b] /\ H l=some (.lst xs) /\ H b=some (.lst zs) /\ xs.length+zs.length<=sizeLine /\ Q .dB (upd H l (.lst (xs++zs)))
theorem Nk:WY X "list.extend" Gy:=by
 intro pins s σ H x vs v us Q I rx rv h;obtain⟨l,b,xs,zs,rfl,rfl,hH,hB,hz,q⟩:=h;cases rx;obtain⟨u,rfl,ru⟩:=rv.one;cases ru;obtain⟨z,its,n,r,hl,e⟩:=I.AM hH;obtain⟨z2,xJ,n2,r2,Ma,e2⟩:=I.AM hB;have hsz:its.toArray.size+xJ.toArray.size<=sizeLine:=by rw[aO,aO];lia
 have Qp:¬(!its.toArray.isEmpty && Builtin.List.listTooLong (its.toArray.size+xJ.toArray.size))=true:=by rw[DY hsz,Bool.and_false];exact aW
 refine call_meets F.slot_list_extend ⟨_,e,rfl⟩ F.entry_list_extend (F.args_list_extend_2 _ _) (AutoSeq1.list_extend_list_list_0 l its.toArray n b xJ.toArray n2 Qp (by rw[aO];lia) (by lia)) ⟨e,e2,?_⟩;refine⟨.dB,_,I.LF (its':=its++xJ) hH e (by simp) (r.append r2) ?_,rfl,q⟩;rw[aL];lia
def O5:R2:=λx y H Q=> ∃l b xs zs,x= .ref l /\ y= .ref b /\ H l=some (.lst xs) /\ H b=some (.lst zs) /\ xs.length+zs.length<=sizeLine /\ ∀p,H p=none ->Q (.ref p) (upd H p (.lst (xs++zs)))
theorem DO:pZ X (binaryOp .Add) O5:=by
 intro pins s σ H x y v u Q I rx ry h;obtain⟨l,b,xs,zs,rfl,rfl,hH,hB,hz,q⟩:=h;cases rx;cases ry;obtain⟨z,its,n,r,hl,e⟩:=I.AM hH;obtain⟨z2,xJ,n2,r2,Ma,e2⟩:=I.AM hB;refine PySem.P.add_list e e2 ?_ (by rw[aO,aO];lia);have ea:its.toArray++xJ.toArray=(its++xJ).toArray:=by simp
 rw[ea];exact⟨.ref _,_,I.T3 (t':=s.toks) (r.append r2) (by rw[aL];lia),rfl,q _ I.fresh⟩
end
section
variable {κ:Type} [DecidableEq κ]
def gm (kvs:List (κ×V))(k:κ):Option V:=(kvs.find? λkv=>decide (kv.1=k)).map (·.2)
def putK (kvs:List (κ×V))(k:κ)(v:V):List (κ×V):=if(kvs.any λkv=>decide (kv.1=k))=true then kvs.map (λkv=>if kv.1=k then(kv.1,v) else kv) else kvs++ [(k,v)]
def nK (kvs:List (κ×V))(k:κ):List (κ×V):=kvs.filter λkv=>decide (kv.1≠k)
theorem oK {p:κ×V}{r:List (κ×V)}{k:κ}(e:p.1=k):gm (p::r) k=some p.2:=by simp[gm,cM,e]
theorem oM {p:κ×V}{r:List (κ×V)}{k:κ}(e:¬p.1=k):gm (p::r) k=gm r k:=by simp[gm,cM,e]
theorem uz (k:κ): ∀kvs:List (κ×V),(kvs.any λkv=>decide (kv.1=k))=(gm kvs k).isSome
 | []=>rfl
 | p::r=>by
  rw[List.any_cons];by_cases e:p.1=k
  ·simp only[oK e,decide_eq_true e,Bool.true_or,Option.isSome_some]
  ·rw[oM e,decide_eq_false e,Bool.false_or];exact uz k r
theorem gi (kvs:List (κ×V))(k:κ)(v:V):(putK kvs k v).length<=kvs.length+1:=by
 unfold putK;split
 ·rw[aa];lia
 ·rw[aL,aG,List.length_nil];lia
theorem kZ.jX {o:Option V}{u:Option Value}(r:kZ o u):o.isSome=u.isSome:=by
 cases o with
 | none=>cases u with
  | none=>rfl
  | some _=>exact(show False from r).elim
 | some _=>cases u with
  | none=>exact(show False from r).elim
  | some _=>rfl
theorem kZ.getD {o:Option V}{u:Option Value}{d:V}{d':Value}(r:kZ o u)(rd:RelV d d'):RelV (o.getD d) (u.getD d'):=by
 cases o with
 | none=>cases u with
  | none=>exact rd
  | some _=>exact(show False from r).elim
 | some _=>cases u with
  | none=>exact(show False from r).elim
  | some _=>exact r
theorem KV.val {kvs:List (κ×V)}{vs:List (κ×Value)}(r:KV kvs vs)(k:κ):kZ (gm kvs k) (valueAt vs k):=by
 unfold KV at r;induction r with
 | nil=>exact True.intro
 | @cons p q ps qs h t ih=>
  obtain⟨h1,h2⟩:=h;by_cases e:p.1=k
  ·have e':q.1=k:=h1.symm.trans e;have b:valueAt (q::qs) k=some q.2:=by simp[valueAt,cM,e']
   rw[oK e,b];exact h2
  ·have e':¬q.1=k:=λz=>e (h1.trans z);have b:valueAt (q::qs) k=valueAt qs k:=by simp[valueAt,cM,e']
   rw[oM e,b];exact ih
theorem KV.any {kvs:List (κ×V)}{vs:List (κ×Value)}(r:KV kvs vs)(k:κ):(kvs.any λkv=>decide (kv.1=k))=vs.any λkv=>decide (kv.1=k):=by
 unfold KV at r;induction r with
 | nil=>rfl
 | cons h t ih=>rw[List.any_cons,List.any_cons,ih,h.1]
theorem KV.K7 {kvs:List (κ×V)}{vs:List (κ×Value)}(r:KV kvs vs)(k:κ){y:V}{u:Value}(ry:RelV y u): KV (kvs.map λkv=>if kv.1=k then(kv.1,y) else kv) (vs.map λkv=>if kv.1=k then(kv.1,u) else kv):=by
 unfold KV at r ⊢;induction r with
 | nil=>exact .nil
 | @cons p q ps qs h t ih=>
  rw[aH,aH];refine .cons ?_ ih;obtain⟨h1,h2⟩:=h;by_cases e:p.1=k
  ·rw[ak e,ak (h1.symm.trans e)];exact⟨h1,ry⟩
  ·rw[aj e,aj (λz=>e (h1.trans z))];exact⟨h1,h2⟩
theorem KV.put {kvs:List (κ×V)}{vs:List (κ×Value)}(r:KV kvs vs)(k:κ){y:V}{u:Value}(ry:RelV y u):KV (putK kvs k y) (stored vs k u):=by
 unfold putK stored;rw[r.any k];by_cases e:(vs.any λkv=>decide (kv.1=k))=true
 ·rw[ak e,ak e];exact r.K7 k ry
 ·rw[aj e,aj e];exact Paired.snoc r ⟨rfl,ry⟩
theorem KV.drop {kvs:List (κ×V)}{vs:List (κ×Value)}(r:KV kvs vs)(k:κ):KV (nK kvs k) (without vs k):=by
 unfold KV at r ⊢;unfold nK without;induction r with
 | nil=>exact .nil
 | @cons p q ps qs h t ih=>
  obtain⟨h1,h2⟩:=h;rw[List.filter_cons,List.filter_cons];by_cases e:p.1=k
  ·have a:¬decide (p.1≠k)=true:=by simp[e]
   have b:¬decide (q.1≠k)=true:=by simp[h1.symm.trans e]
   rw[aj a,aj b];exact ih
  ·have e':¬q.1=k:=λz=>e (h1.trans z);have a:decide (p.1≠k)=true:=by simp[e]
   have b:decide (q.1≠k)=true:=by simp[e']
   rw[ak a,ak b];exact .cons ⟨h1,h2⟩ ih
theorem KV.keys {kvs:List (κ×V)}{vs:List (κ×Value)}(r:KV kvs vs):kvs.map (·.1)=vs.map (·.1):=by
 unfold KV at r;induction r with
 | nil=>rfl
 | cons h t ih=>rw[aH,aH,ih,h.1]
theorem KV.length {kvs:List (κ×V)}{vs:List (κ×Value)}(r:KV kvs vs):kvs.length=vs.length:=Paired.length r
theorem Fb (kvs:List (κ×V))(k:κ):(nK kvs k).length<=kvs.length:=List.length_filter_le _ _
end
theorem lV {P:Program}{w:World}{k:Key}{u:Value}(r:RelV (kV k) u):(cu P w).is k u=true:=by
 cases k with
 | inl i=>obtain⟨t,e⟩:=(show ∃t,u=Value.int i t from r);subst e;exact vg P w i t
 | inr x=>obtain⟨t,e⟩:=(show ∃t,u=Value.str x t from r);subst e;exact vf P w x t
theorem ra {P:Program}{w:World}: ∀ {ks:List Key} {us:List Value},Vals (ks.map kV) us ->ItemsAre (cu P w) ks us
 | [],_,r=>by rw[List.map_nil] at r;cases r;exact .nil
 | k::ks,_,r=>by
  rw[aH] at r;cases r with
  | cons h t=>exact .cons (lV h) (ra t)
abbrev KT (H:Hp):List (List Key×V) ->List (List Key×Addr×Value) ->Prop:=Paired λp q=>p.1=q.1 /\ H q.2.1=some (.tup (p.1.map kV)) /\ RelV p.2 q.2.2
theorem KT.val {H:Hp}{kvs:List (List Key×V)}{xs:List (List Key×Addr×Value)}(r:KT H kvs xs)(k:List Key):kZ (gm kvs k) ((atKey xs k).map (·.2)):=by
 induction r with
 | nil=>exact True.intro
 | @cons p q ps qs h t ih=>
  obtain⟨h1,_,h2⟩:=h;by_cases e:p.1=k
  ·have e':q.1=k:=h1.symm.trans e;have b:atKey (q::qs) k=some q.2:=by simp[atKey,cM,e']
   rw[oK e,b];exact h2
  ·have e':¬q.1=k:=λz=>e (h1.trans z);have b:atKey (q::qs) k=atKey qs k:=by simp[atKey,cM,e']
   rw[oM e,b];exact ih
theorem KT.K7 {H:Hp}{kvs:List (List Key×V)}{xs:List (List Key×Addr×Value)}(r:KT H kvs xs)(k:List Key){y:V}{u:Value}(ry:RelV y u): KT H (kvs.map λkv=>if kv.1=k then(kv.1,y) else kv) (xs.map (putAt k u)):=by
 induction r with
 | nil=>exact .nil
 | @cons p q ps qs h t ih=>
  rw[aH,aH];refine .cons ?_ ih;obtain⟨h1,h2,h3⟩:=h;unfold putAt;by_cases e:p.1=k
  ·rw[ak e,ak (h1.symm.trans e)];exact⟨h1,h2,ry⟩
  ·rw[aj e,aj (λz=>e (h1.trans z))];exact⟨h1,h2,h3⟩
theorem KT.put {H:Hp}{kvs:List (List Key×V)}{xs:List (List Key×Addr×Value)}(r:KT H kvs xs)(k:List Key){b:Addr}{y:V}{u:Value}(hb:H b=some (.tup (k.map kV)))(ry:RelV y u): KT H (putK kvs k y) (storedH xs k b u):=by
 have e:(kvs.any λkv=>decide (kv.1=k))=(atKey xs k).isSome:=by rw[uz,(r.val k).jX,Option.isSome_map]
 unfold putK storedH;rw[e];by_cases q:(atKey xs k).isSome=true
 ·rw[ak q,ak q];exact r.K7 k ry
 ·rw[aj q,aj q];exact Paired.snoc r ⟨rfl,hb,ry⟩
theorem KT.keeps {H H':Hp}{kvs:List (List Key×V)}{xs:List (List Key×Addr×Value)}(r:KT H kvs xs)(ht: ∀b ys,H b=some (.tup ys) ->H' b=some (.tup ys)):KT H' kvs xs:=Paired.Lz r λ_ _ z=>⟨z.1,ht _ _ z.2.1,z.2.2⟩
section
variable {P:Program}{w:World}{H:Hp}{h:Heap}{a:Addr}
theorem Jd {u:HO}(ok:kx P w H h)(e:Rd H a u):dF P w H h a u:=e.ok ok
theorem me {kvs:List (Key×V)}(ok:kx P w H h)(e:Rd H a (.dK kvs)):kvs.length<=sizeLine /\ (a==sysModules)=false /\ ∃vs,KV kvs vs /\ h.DictOf (cu P w) a vs:=
 show dF P w H h a (.dK kvs) from Jd ok e
theorem vK {kvs:List (Key×V)}(ok:kx P w H h)(e:H a=some (.dK kvs)):kvs.length<=sizeLine /\ (a==sysModules)=false /\ ∃vs,KV kvs vs /\ h.DictOf (cu P w) a vs:=me ok (.inl e)
theorem pG {ks:List Key}(ok:kx P w H h)(e:H a=some (.tup (ks.map kV))):(tupleKind (cu P w)).is h ks a:=by
 obtain⟨_,its,r,o,h1,h2,n,h3,_⟩:=(show dF P w H h a (.tup (ks.map kV)) from ok a _ e)
 exact⟨o,its.toArray,n,h1,h2,h3,by simpa using ra r⟩
theorem rD {kvs:List (List Key×V)}(ok:kx P w H h)(e:Rd H a (.dT kvs)):kvs.length<=sizeLine /\ (a==sysModules)=false /\∃xs,KT H kvs xs /\ h.DictOfH (tupleKind (cu P w)) a xs:=by
 obtain⟨z,y,xs,r,o,es,ep,h1,h2,h3,h4,h5⟩:=(show dF P w H h a (.dT kvs) from Jd ok e)
 refine⟨z,y,xs,r,o,es,ep,h1,h2,h3,h4,λx hx=> ?_,h5⟩;have all: ∀ {l:List (List Key×V)} {m:List (List Key×Addr×Value)},KT H l m -> ∀x∈m,(tupleKind (cu P w)).is h x.1 x.2.1:=by
  intro l m q;induction q with
  | nil=>intro x hx;exact nomatch hx
  | @cons p q ps qs hq t ih=>
   intro x hx;rcases av.mp hx with e | hx
   ·subst e;exact pG ok (by rw[<- hq.1];exact hq.2.1)
   ·exact ih x hx
 exact all r x hx
theorem Q1 {kvs:List (List Key×V)}(ok:kx P w H h)(e:H a=some (.dT kvs)):kvs.length<=sizeLine /\ (a==sysModules)=false /\∃xs,KT H kvs xs /\ h.DictOfH (tupleKind (cu P w)) a xs:=rD ok (.inl e)
end
def oo (H:Hp)(a:Addr)(y:V)(r:Option V):Prop:=(∃kvs k,Rd H a (.dK kvs) /\ y=kV k /\ r=gm kvs k) \/ ∃kvs k b,Rd H a (.dT kvs) /\ y= .ref b /\ H b=some (.tup (k.map kV)) /\ r=gm kvs k
def FJ (H:Hp)(a:Addr)(y v:V)(H':Hp):Prop:=(∃kvs k,H a=some (.dK kvs) /\ y=kV k /\ kvs.length<sizeLine /\ H'=upd H a (.dK (putK kvs k v))) \/∃kvs k b,H a=some (.dT kvs) /\ y= .ref b /\ H b=some (.tup (k.map kV)) /\ kvs.length<sizeLine /\ H'=upd H a (.dT (putK kvs k v))
theorem oo.k {H:Hp}{a:Addr}{kvs:List (Key×V)}{k:Key}(e:H a=some (.dK kvs)):oo H a (kV k) (gm kvs k):= .inl ⟨kvs,k, .inl e,rfl,rfl⟩
theorem FJ.k {H:Hp}{a:Addr}{kvs:List (Key×V)}{k:Key}{v:V}(e:H a=some (.dK kvs))(hl:kvs.length<sizeLine):FJ H a (kV k) v (upd H a (.dK (putK kvs k v))):= .inl ⟨kvs,k,e,rfl,hl,rfl⟩
section
variable {X:Cx}{pins:List (Addr×Obj)}{σ:St}{H:Hp}{s:Shared}{a:Addr}{y v:V}{u r:Value}{o:Option V}{A:Around}{E:Value ->Shared ->Prop}
theorem Inv.big (I:Inv X pins σ H s):sysModules<s.heap.objs.size:=by have h:mainGlobals<s.heap.objs.size:=(I.mod.glob.keeps I.bk).lt;exact Nat.lt_trans (by decide) h
theorem Bi {Q:Value ->Shared ->Prop}(hu:A.units+1<cLine)(I:Inv X pins σ H s)(g:oo H a y (some v))(ry:RelV y u)(h: ∀w' s',Inv X pins σ H s' ->RelV v w' ->Q w' s'): wpAny (model X.prog X.w) A (getItem (.ref a) u) Q E s:=by
 rcases g with⟨kvs,k,e,ey,l⟩ | ⟨kvs,k,b,e,ey,eb,l⟩
 ·subst ey;obtain⟨z,hd,vs,rel,dd⟩:=me I.c7 e;obtain⟨w',hw,sN⟩:=kZ.some_of (v:=v) (o:=valueAt vs k) (by rw[l];exact rel.val k);exact wpAny_getItem_of (lV ry) dd.mapOf hw (h w' _ (I.tok _) sN)
 ·subst ey;cases (show u=Value.ref b from ry);obtain⟨z,hd,xs,rel,dd⟩:=rD I.c7 e;obtain⟨w',hw,sN⟩:=kZ.some_of (v:=v) (o:=(atKey xs k).map (·.2)) (by rw[l];exact rel.val k);obtain⟨p,hp,Ux⟩:=Option.map_eq_some_iff.mp hw;refine wpAny_getItem_heap (tupleKind_room_in1 hu) (pG I.c7 eb) dd hp ?_;rw[Ux];exact h w' _ (I.tok _) sN
theorem HE {Q:Value ->Shared ->Prop}(hu:A.units+1<cLine)(I:Inv X pins σ H s)(g:oo H a y o)(ry:RelV y u)(h: ∀s',Inv X pins σ H s' ->Q (.bool (!o.isSome)) s'): wpAny (model X.prog X.w) A (compareOp .NotIn u (.ref a)) Q E s:=by
 rcases g with⟨kvs,k,e,ey,l⟩ | ⟨kvs,k,b,e,ey,eb,l⟩
 ·subst ey;obtain⟨z,hd,vs,rel,dd⟩:=me I.c7 e;refine wpAny_notIn_of (lV ry) hd dd.mapOf ?_;rw[<- (rel.val k).jX, <- l];exact h _ (I.tok _)
 ·subst ey;cases (show u=Value.ref b from ry);obtain⟨z,hd,xs,rel,dd⟩:=rD I.c7 e;refine wpAny_notIn_heap (tupleKind_room_in1 hu) (pG I.c7 eb) hd dd ?_;have q:=(rel.val k).jX;rw[Option.isSome_map] at q;rw[<- q, <- l];exact h _ (I.tok _)
theorem mf {h':Heap}{t':Nat}{ob:HO}(I:Inv X pins σ H s)(mu:Rk (H a))(hs:Heap.SameBut a s.heap h')(he: ∃q,h'.get? a=some q)(new:dF X.prog X.w (upd H a ob) h' a ob): Inv X pins σ (upd H a ob) {s with heap:=h',toks:=t'}:=I.write (x:=a) (e:=a) mu (.inl rfl) (λb q hb z=>(hs.2 b hb).trans z) he new
theorem pQ {P:Program}{w:World}{H':Hp}{h':Heap}{kvs:List (Key×V)}{vs:List (Key×Value)}(z:kvs.length<=sizeLine)(hd:(a==sysModules)=false)(rel:KV kvs vs)(dd:h'.DictOf (cu P w) a vs): dF P w H' h' a (.dK kvs):=⟨z,hd,vs,rel,dd⟩
theorem Bh {H':Hp}{Q:Unit ->Shared ->Prop}(hu:A.units+1<cLine)(I:Inv X pins σ H s)(g:FJ H a y v H')(ry:RelV y u)(rv:RelV v r)(h: ∀s',Inv X pins σ H' s' ->Q () s'): wpAny (model X.prog X.w) A (setItem (.ref a) u r) Q E s:=by
 rcases g with⟨kvs,k,e,ey,l,eH⟩ | ⟨kvs,k,b,e,ey,eb,l,eH⟩
 ·subst ey eH;obtain⟨z,hd,vs,rel,dd⟩:=vK I.c7 e;have hz:vs.length<=sizeLine:=by rw[<- rel.length];exact z
  have hl:(putK kvs k v).length<=sizeLine:=by have:=gi kvs k v;lia
  refine wpAny_setItem_pairs (hsz:=hz) (lV ry) dd λh' Bg hs=>h _ ?_;have he: ∃q,h'.get? a=some q:=let ⟨q,_,_,hq,_⟩:=Bg;⟨q,hq⟩
  exact mf I (by rw[e];exact True.intro) hs he (pQ hl hd (rel.put k rv) Bg)
 ·subst ey eH;cases (show u=Value.ref b from ry);obtain⟨z,hd,xs,rel,dd⟩:=Q1 I.c7 e;have hz:xs.length<=sizeLine:=by rw[<- Paired.length rel];exact z
  have hl:(putK kvs k v).length<=sizeLine:=by have:=gi kvs k v;lia
  refine wpAny_setItem_heap (hsz:=hz) (tupleKind_room_in1 hu) (pG I.c7 eb) dd λh' Bg hs=>h _ ?_;obtain⟨q,es,ep,hq,h2,h3,h4,_,h5⟩:=Bg;refine mf I (by rw[e];exact True.intro) hs ⟨q,hq⟩ ⟨hl,hd,_,(rel.put k eb rv).keeps λc ys ec=> ?_,q,es,ep,hq,h2,h3,h4,h5⟩;rw[bC (Po ec e (λz=>nomatch z))];exact ec
end
section
variable {X:Cx}{pins:List (Addr×Obj)}{σ:St}{H:Hp}{s:Shared}{a:Addr}{kvs:List (Key×V)}{k:Key}{u:Value}{A:Around}{E:Value ->Shared ->Prop}
theorem Bj {Q:Unit ->Shared ->Prop}(I:Inv X pins σ H s)(e:H a=some (.dK kvs))(ry:RelV (kV k) u)(l:(gm kvs k).isSome=true)(h: ∀s',Inv X pins σ (upd H a (.dK (nK kvs k))) s' ->Q () s'): wpAny (model X.prog X.w) A (delItem (.ref a) u) Q E s:=by
 obtain⟨z,hd,vs,rel,dd⟩:=vK I.c7 e;refine wpAny_delItem_slot dd.typeIs (by decide) PySem.F.slot_dict_delitem (call_meetsIn PySem.F.slot_dict_delitem dd.typeIs PySem.F.entry_dict_delitem (PySem.F.args_dict_delitem_2 _ _) (meets_dict_delitem_pairs (cu X.prog X.w) a (lV ry)) ⟨vs,dd,by rw[<- rel.length];exact z,by rw[<- (rel.val k).jX];exact l,λh' Bg hs=>h _ ?_⟩);have he: ∃q,h'.get? a=some q:=let ⟨q,_,_,hq,_⟩:=Bg;⟨q,hq⟩
 exact mf I (by rw[e];exact True.intro) hs he (pQ (a4 (Fb kvs k) z) hd (rel.drop k) Bg)
end
def Ri (i:Expr):Prop:= ∀ov iv,subscripted i false ov iv=operate [ov,iv] (getItem ov iv)
theorem Gm {prog:Program}{w:World}{A:Around}{E:Value ->Shared ->Prop}{s:Shared}{env:Env}{value slice:Expr}{pos:Pos}{T id:String}{Q:Value ->Shared ->Prop} (hl:typeLookup (.type T) "__getitem__" =pure (some (.builtin id))) (hs:Ri slice) (h:wpAny (model prog w) A (eval value env) (λo s₁=>wpAny (model prog w) A (eval slice env) (λi s₂=>s₂.TypeIs o T /\ wpAny (model prog w) A (getItem o i) Q E s₂) E s₁) E s): wpAny (model prog w) A (eval (.Subscript value slice pos) env) Q E s:=by
 refine Subscript_ (bJ h (λo s₁ h₁=>bJ h₁ (λi s₂ h₂=> ?_) λ_ _ x=>x) λ_ _ x=>x);obtain⟨hT,h₂⟩:=h₂;unfold subscriptTail;refine ao ?_;rw[getitemInPython_of_ne hT.not_modules];refine ao (wpAny_specialOf hT hl ?_);have fin:wpAny (model prog w) A (subscripted slice false o i) (λr s₃=>wpAny (model prog w) A (letTemporaryGo value o r >>=λ_=>pure r) Q E s₃) E s₂:=by rw[hs o i];exact wpAny_operating (bJ h₂ (λr s₃ h₃=>ao (wpAny_letTemporaryGo (aM h₃))) λ_ _ x=>x)
 first
 | exact aM (ao fin)
 | exact ao (aM (ao fin))
 | exact ao fin
theorem vM {X:Cx}{pins:List (Addr×Obj)}{σ:St}{H:Hp}{s:Shared}{a:Addr}{y:V}{o:Option V}(I:Inv X pins σ H s)(g:oo H a y o):s.TypeIs (.ref a) "dict" :=by
 rcases g with⟨kvs,k,e,_,_⟩ | ⟨kvs,k,b,e,_,_,_⟩
 ·obtain⟨_,_,vs,_,dd⟩:=me I.c7 e;exact dd.typeIs
 ·obtain⟨_,_,xs,_,dd⟩:=rD I.c7 e;exact dd.typeIs
def IF (td ty:TE):TE:=λσ H Q=>td σ H λx H1=>ty σ H1 λy H2=> ∃a v,x= .ref a /\ oo H2 a y (some v) /\ Q v H2
def yC (ty td:TE):TE:=λσ H Q=>ty σ H λy H1=>td σ H1 λx H2=> ∃a o,x= .ref a /\ oo H2 a y o /\ Q (.bl (!o.isSome)) H2
def Ja (td ty tv:TE):TS:=λD σ H=>tv σ H λv H1=>td σ H1 λx H2=>ty σ H2 λy H3=> ∃a H4,x= .ref a /\ FJ H3 a y v H4 /\ D.nx σ H4
def Jb (td ty:TE):TS:=λD σ H=>td σ H λx H1=>ty σ H1 λy H2=> ∃a kvs k,x= .ref a /\ H2 a=some (.dK kvs) /\ y=kV k /\ (gm kvs k).isSome=true /\ D.nx σ (upd H2 a (.dK (nK kvs k)))
section
variable {X:Cx}{o i e value:Expr}{pos pos' Aq:Pos}{td ty tv:TE}
theorem eC (hu:X.A.units+1<cLine)(ho:PE X o td)(hi:PE X i ty)(hs:Ri i):PE X (.Subscript o i pos) (IF td ty):=by intro pins s σ H Q I h;refine Gm PySem.F.slot_dict_getitem.lookup hs (df (ho pins s σ H _ I h) λu s1 ⟨x,H1,I1,rx,q1⟩=>df (hi pins s1 σ H1 _ I1 q1) λiv s2 ⟨y,H2,I2,ry,a,v,ex,g,q2⟩=> ?_);subst ex;obtain rfl:u=Value.ref a:=rx;exact⟨vM I2 g,Bi hu I2 g ry λw' s3 I3 sN=>⟨v,H2,I3,sN,q2⟩⟩
theorem AD (hu:X.A.units+1<cLine)(hi:PE X i ty)(ho:PE X o td):PC X .NotIn i o (yC ty td):=by intro pins s σ H Q I h;refine df (hi pins s σ H _ I h) λiv s1 ⟨y,H1,I1,ry,q1⟩=>df (ho pins s1 σ H1 _ I1 q1) λu s2 ⟨x,H2,I2,rx,a,ov,ex,g,q2⟩=> ?_;subst ex;obtain rfl:u=Value.ref a:=rx;exact HE hu I2 g ry λs3 I3=>⟨.bl (!ov.isSome),H2,I3,rfl,q2⟩
theorem lI (hu:X.A.units+1<cLine)(ho:PE X o td)(hi:PE X i ty)(hv:PE X value tv)(hs:swapsWith value (some (.Subscript o i pos')) pos.line X.env=pure false): PS X (.Assign [.Subscript o i pos'] value pos) (Ja td ty tv):=by intro pins s σ H D I h;refine wpAny_Assign_Subscript (df (hv pins s σ H _ I h) λr s1 ⟨v,H1,I1,rv,q1⟩=>df (ho pins s1 σ H1 _ I1 q1) λu s2 ⟨x,H2,I2,rx,q2⟩=>df (hi pins s2 σ H2 _ I2 q2) λiv s3 ⟨y,H3,I3,ry,a,H4,ex,g,q3⟩=> ?_) hs;subst ex;obtain rfl:u=Value.ref a:=rx;exact Bh hu I3 g ry rv λs4 I4=>⟨σ,H4,I4,q3⟩
theorem GF (ho:PE X o td)(hi:PE X i ty):PS X (.Delete [.Subscript o i Aq] pos) (Jb td ty):=by intro pins s σ H D I h;refine wpAny_Delete (wpAny_deleteEach_cons (wpAny_delete_Subscript (df (ho pins s σ H _ I h) λu s1 ⟨x,H1,I1,rx,q1⟩=>df (hi pins s1 σ H1 _ I1 q1) λiv s2 ⟨y,H2,I2,ry,a,kvs,k,ex,e,ey,l,q2⟩=> ?_)));subst ex ey;obtain rfl:u=Value.ref a:=rx;exact Bj I2 e ry l λs3 I3=>wpAny_deleteEach_nil ⟨σ,_,I3,q2⟩
end
theorem vL {P:Program}{w:World}{H:Hp}(h:Heap)(hb:sysModules<h.objs.size):dF P w H (h.push {cls:= .type "dict",data:= .dict #[]}) h.objs.size (.dK []):=⟨cU _,beq_eq_false_iff_ne.mpr (a5 (aX hb)),[], .nil,Heap.DictOf.new h⟩
def CD:TE:=λ_ H Q=> ∀p,H p=none ->Q (.ref p) (upd H p (.dK []))
section
variable {X:Cx}{pos:Pos}
theorem iK:PE X (.Dict [] [] pos) CD:=λpins s σ H Q I h=>wpAny_Dict_empty ⟨.ref s.heap.objs.size,_,I.laid (a:=s.heap.objs.size) (o:= .dK []) (t':=s.toks) (λ_ _ q=>ar _ q) (aq _) (vL s.heap I.big),rfl,h _ (I.c7.fresh (aq _))⟩
end
def wZ:List (TE×TE) ->St ->Hp ->(List (V×V) ->Hp ->Prop) ->Prop
 | [],_,H,Q=>Q [] H
 | (tk,tv)::r,σ,H,Q=>tk σ H λx H1=>tv σ H1 λy H2=>wZ r σ H2 λps H3=>Q ((x,y)::ps) H3
abbrev VV:List (V×V) ->List (Value×Value) ->Prop:=Paired λp q=>RelV p.1 q.1 /\ RelV p.2 q.2
def SJ (X:Cx)(pos:Pos)(keys:List (Option Expr))(values:List Expr)(Gg:List (TE×TE)):Prop:=∀ (pins:List (Addr×Obj)) (s:Shared) (σ:St) (H:Hp) (Q:List (V×V) ->Hp ->Prop),Inv X pins σ H s ->wZ Gg σ H Q ->wpAny (model X.prog X.w) X.A (evalPairs (pairTrees keys values X.env pos)) (λvs s'=> ∃ps H',Inv X pins σ H' s' /\ VV ps vs /\ Q ps H') X.xe s
theorem GG {X:Cx}{pos:Pos}:SJ X pos [] [] []:=λpins s σ H Q I h=>pairTrees_nil_walk ⟨[],H,I, .nil,h⟩
theorem Dp {X:Cx}{pos:Pos}{k v:Expr}{ks:List (Option Expr)}{vs:List Expr}{tk tv:TE}{Gg:List (TE×TE)}(hk:PE X k tk)(hv:PE X v tv)(hr:SJ X pos ks vs Gg): SJ X pos (some k::ks) (v::vs) ((tk,tv)::Gg):=λpins s σ H Q I h=>pairTrees_cons_walk (df (hk pins s σ H _ I h) λu s1 ⟨x,H1,I1,rx,q1⟩=>df (hv pins s1 σ H1 _ I1 q1) λw2 s2 ⟨y,H2,I2,ry,q2⟩=>df (hr pins s2 σ H2 _ I2 q2) λws s3 ⟨ps,H3,I3,rel,q3⟩=>⟨(x,y)::ps,H3,I3, .cons ⟨rx,ry⟩ rel,q3⟩)
def jA (kvs more:List (Key×V)):List (Key×V):=more.foldl (λacc kv=>putK acc kv.1 kv.2) kvs
theorem KV.merge: ∀ {more:List (Key×V)} {rs:List (Key×Value)} {kvs:List (Key×V)} {vs:List (Key×Value)},KV more rs ->KV kvs vs ->KV (jA kvs more) (merged vs rs):=by
 intro more rs kvs vs r;unfold KV at r;induction r generalizing kvs vs with
 | nil=>intro q;exact q
 | @cons p q ps qs h t ih=>
  intro r0;have e:KV (putK kvs p.1 p.2) (stored vs q.1 q.2):=by have:=r0.put p.1 h.2;rw[<- h.1];exact this
  exact ih e
theorem kn: ∀ (more kvs:List (Key×V)),(jA kvs more).length<=kvs.length+more.length
 | [],kvs=>by show kvs.length<=kvs.length+0;lia
 | p::r,kvs=>by have h1:=kn r (putK kvs p.1 p.2);have h2:=gi kvs p.1 p.2;show(jA (putK kvs p.1 p.2) r).length<=_;rw[aG];lia
theorem pW {P:Program}{w:World}: ∀ {kvs:List (Key×V)} {ws:List (Value×Value)},VV (kvs.map λkv=>(kV kv.1,kv.2)) ws -> ∃rs,Carries (cu P w) ws rs /\ KV kvs rs
 | [],_,r=>by rw[List.map_nil] at r;cases r;exact⟨[],True.intro, .nil⟩
 | p ::kvs,_,r=>by
  rw[aH] at r;cases r with
  | @cons a b as bs h t=>obtain⟨rs,c,q⟩:=pW (P:=P) (w:=w) t;obtain⟨b1,b2⟩:=b;exact⟨(p.1,b2)::rs,⟨lV h.1,rfl,c⟩, .cons ⟨rfl,h.2⟩ q⟩
def CB (Gg:List (TE×TE)):TE:=λσ H Q=> ∀p,H p=none ->wZ Gg σ (upd H p (.dK [])) λps H2=>H2 p=some (.dK []) /\ ∃kvs:List (Key×V),ps=kvs.map (λkv=>(kV kv.1,kv.2)) /\ kvs.length<=15 /\ Q (.ref p) (upd H2 p (.dK (jA [] kvs)))
theorem GK {X:Cx}{pos:Pos}{keys:List (Option Expr)}{values:List Expr}{Gg:List (TE×TE)}(h:SJ X pos keys values Gg)(xT:keys.all (·.isSome)=true)(hl:keys.length=values.length)(h0:keys≠ []) (h15:keys.length<=15):PE X (.Dict keys values pos) (CB Gg):=by
 intro pins s σ H Q I q;have hn:=I.c7.fresh (aq s.heap.objs.size);have I1:=I.laid (a:=s.heap.objs.size) (o:= .dK []) (h':=s.heap.push {cls:= .type "dict",data:= .dict #[]}) (t':=s.toks) (λ_ _ q=>ar _ q) (aq _) (vL s.heap I.big);refine wpAny_Dict_walk (knd:=cu X.prog X.w) xT hl h0 h15 (df (h pins _ σ _ _ I1 (q _ hn)) λws s2 ⟨ps,H2,I2,rel,e,kvs,ep,lk,q2⟩=> ?_);subst ep;obtain⟨rs,c,rk⟩:=pW (P:=X.prog) (w:=X.w) rel;obtain⟨z,hd,vs0,r0,dd⟩:=vK I2.c7 e;cases r0;refine⟨rs,c,dd,λh' Bg hs=>⟨.ref s.heap.objs.size,_,?_,rfl,q2⟩⟩;have hz:(jA [] kvs).length<=sizeLine:=by have h1:=kn kvs [];rw[List.length_nil] at h1;rw[cC];lia
 have he: ∃q,h'.get? s.heap.objs.size=some q:=let ⟨q,_,_,hq,_⟩:=Bg;⟨q,hq⟩
 exact mf I2 (by rw[e];exact True.intro) hs he (pQ hz hd (rk.merge .nil) Bg)
structure M1 (X:Cx)(o:Expr)(m:Str)(apos:Pos)(e:Expr)(fm:Pos):Prop where
 base:attributeBase o m X.env (eval o X.env)=eval o X.env
 MB:((backTo fm (starEach [e] X.env)).all (λx=> !x.1) && (backToKw fm (keywordEach [] X.env)).all (λx=>x.1.isSome) && decide (([e]:List Expr).length+([]:List Keyword).length+(if([]:List Keyword).isEmpty then 0 else 1) <30))=true
 line:(apos.endLine==fm.line)=true
 trees:backTo fm (starEach [e] X.env)= [(false,eval e X.env)]
structure M2 (X:Cx)(o:Expr)(m:Str)(apos:Pos)(e f:Expr)(fm:Pos):Prop where
 base:attributeBase o m X.env (eval o X.env)=eval o X.env
 MB:((backTo fm (starEach [e,f] X.env)).all (λx=> !x.1) && (backToKw fm (keywordEach [] X.env)).all (λx=>x.1.isSome) && decide (([e,f]:List Expr).length+([]:List Keyword).length+(if([]:List Keyword).isEmpty then 0 else 1) <30))=true
 line:(apos.endLine==fm.line)=true
 trees:backTo fm (starEach [e,f] X.env)= [(false,eval e X.env),(false,eval f X.env)]
def W5 (H:Hp)(a:Addr):Prop:=(∃kvs,Rd H a (.dK kvs)) \/ ∃kvs,Rd H a (.dT kvs)
theorem tH {X:Cx}{pins:List (Addr×Obj)}{σ:St}{H:Hp}{s:Shared}{a:Addr}(I:Inv X pins σ H s)(d:W5 H a): s.TypeIs (.ref a) "dict" /\ (∀b,Value.ref a= .ref b -> ∃ob,s.heap.get? b=some ob /\ ob.dict=none) /\ (a==sysModules)=false:=by
 rcases d with⟨kvs,e⟩ | ⟨kvs,e⟩
 ·obtain⟨_,hd,vs,_,dd⟩:=me I.c7 e;refine⟨dd.typeIs,λb q=> ?_,hd⟩;cases q;obtain⟨ob,_,_,h1,h2,_⟩:=dd;exact⟨ob,h1,h2.2.1⟩
 ·obtain⟨_,hd,xs,_,dd⟩:=rD I.c7 e;refine⟨dd.typeIs,λb q=> ?_,hd⟩;cases q;obtain⟨ob,_,_,h1,h2,_⟩:=dd;exact⟨ob,h1,h2.2.1⟩
section
variable {X:Cx}{pins:List (Addr×Obj)}{σ:St}{H:Hp}{s:Shared}{a:Addr}{y d:V}{u r:Value}{o:Option V}{A:Around}{E:Value ->Shared ->Prop}
theorem MG {Q:Value ->Shared ->Prop}(hu:A.units+1<cLine)(I:Inv X pins σ H s)(g:oo H a y o)(ry:RelV y u)(rd:RelV d r)(h: ∀w' s',Inv X pins σ H s' ->RelV (o.getD d) w' ->Q w' s'): wpAny (model X.prog X.w) A (call (.builtin "dict.get") [.ref a,u,r]) Q E s:=by
 rcases g with⟨kvs,k,e,ey,l⟩ | ⟨kvs,k,b,e,ey,eb,l⟩
 ·subst ey;obtain⟨z,hd,vs,rel,dd⟩:=me I.c7 e;refine call_meetsIn PySem.F.slot_dict_get dd.typeIs PySem.F.entry_dict_get (PySem.F.args_dict_get_3 _ _ _) (meets_dict_get_default (cu X.prog X.w) a (lV ry) hd r) ⟨_,dd.mapOf,h _ _ (I.tok _) ?_⟩;rw[l];exact(rel.val k).getD rd
 ·subst ey;cases (show u=Value.ref b from ry);obtain⟨z,hd,xs,rel,dd⟩:=rD I.c7 e;refine call_meetsIn PySem.F.slot_dict_get dd.typeIs PySem.F.entry_dict_get (PySem.F.args_dict_get_3 _ _ _) (meetsH_dict_get_default (tupleKind (cu X.prog X.w)) a b hd r) ⟨tupleKind_room_in1 hu,k,xs,pG I.c7 eb,dd,h _ _ (I.tok _) ?_⟩;rw[l];exact(rel.val k).getD rd
end
def CF (td ty tx:TE):TE:=λσ H Q=>td σ H λx H1=> ∃a,x= .ref a /\ W5 H1 a /\ ty σ H1 λy H2=>tx σ H2 λz H3=> ∃o,oo H3 a y o /\ Q (o.getD z) H3
section
variable {X:Cx}{o e f:Expr}{apos fm:Pos}{td ty tx:TE}
theorem lL (hu:X.A.units+1<cLine)(ho:PE X o td)(he:PE X e ty)(hf:PE X f tx)(m:M2 X o "get" apos e f fm):PE X (.Call (.Attribute o "get" apos) [e,f] [] fm) (CF td ty tx):=by intro pins s σ H Q I h;refine wpAny_Call_method m.base m.MB m.line PySem.F.plainAttrs_dict PySem.F.slot_dict_get PySem.F.type_dict_get (df (ho pins s σ H _ I h) λu s1 ⟨x,H1,I1,rx,a,ex,d,q1⟩=> ?_);subst ex;obtain rfl:u=Value.ref a:=rx;obtain⟨t1,t2,_⟩:=tH I1 d;refine⟨t1,t2,?_⟩;rw[m.trees];refine Calls.callWith_builtin rfl (Calls.evalArgs_plain (Calls.spliced_cons (df (he pins s1 σ H1 _ I1 q1) λiv s2 ⟨y,H2,I2,ry,q2⟩=>Calls.spliced_cons (df (hf pins s2 σ H2 _ I2 q2) λfv s3 ⟨z,H3,I3,rz,ov,g,q3⟩=>Calls.spliced_nil ?_))));exact MG hu I3 g ry rz λw' s4 I4 sN=>⟨_,H3,I4,sN,q3⟩
end
end L2
namespace YZ
open PySem PySem.W PySem.Calls PyProof.Rows
theorem n6 {P:Params}{h:Heap}: ∀ (ns:List Int) (vs:List Value),WellAll P h vs (ns.map WData.int) ->IntsAre vs ns:=by
 intro ns;induction ns with
 | nil=>intro vs w;rw[List.map_nil] at w;cases w;exact .nil
 | cons n ns ih=>
  intro vs w;rw[aH] at w;cases w with
  | cons a b=>cases a;exact .cons _ _ (ih _ b)
theorem Aw {l:OpenLaw}{n:Nat}(hn:l.most=some n){P:Params}{h:Heap}{args:List WData}{vals:List Value} (Hi:l.row.toRowW.claim.pre args=true) (P6:WellAll P h vals args): ∃a vs ns,vals= [Value.ref a] /\ args= [WData.list (ns.map WData.int)] /\ h.get? a=some {cls:= .type "list",data:= .seq vs.toArray} /\ IntsAre vs ns /\ ns.length<=n:=by
 have R8:WShape.hasAll [] args [.list .int]=true:=(pre_splitW Hi).1;have hc:l.pre.holds [] {args:=args}=true:=(pre_splitW Hi).2;obtain⟨d,r,rfl,h1,h2⟩:=hasAllW_cons R8;obtain rfl:=hasAllW_nil h2;obtain⟨xs,rfl,h3⟩:=hasW_list h1;obtain⟨ns,rfl⟩:=items_int h3;have hlen:ns.length<=n:=by
  unfold OpenLaw.pre at hc;have h4:(WTm.not (.lt (.lit (.int (n:Int))) (.len (.arg 0)))).holds [] {args:= [.list (ns.map .int)]}=true:=by have h4:=(holds_andW hc).1;rw[hn] at h4;exact h4
  have h5:=condW_of h4 (w_not (w_lt w_lit (w_len_list (w_arg rfl))));rw[aa] at h5;refine Nat.le_of_not_lt λq=> ?_;have q':(n:Int) < ((ns.length:Nat):Int):=by lia
  first
  | (rw[decide_eq_true q'] at h5;exact absurd h5 (by decide))
  | (simp at h5;lia)
 cases P6 with
 | cons w1 w2=>
  cases w2;cases w1 with
  | list ho xT=>exact⟨_,_,ns,rfl,rfl,ho,n6 ns _ xT,hlen⟩
theorem Az (l:OpenLaw)(args:List WData):l.row.toRowW.claim.post args (.bool true) args=true:=postW_of (r:=l.row.toRowW) (X:=(true==true)) (show WShape.has [] (.bool true) .bool=true by first | rfl | decide | simp[WShape.has,WShape.arms,WShape.armsAll]) (show(WTm.eq .res (.lit (.bool true))).value [] {args:=args,res:=some (.bool true),after:=args}=some (.bool (true==true)) from w_eq_bool (w_res rfl) w_lit) rfl
theorem vZ {l:OpenLaw}{n:Nat}{q:Program}{loose:List Str}{XP:(Str ->Option Value) ->Heap ->Prop}{YP:World ->Heap ->Prop}{d:DefRec} (hn:l.most=some n) (QF:d.params.defaults= []) (call: ∀ (w:World) (s₀ s₁:Shared) (mg mb:Str ->Option Value) (fa:Addr) (o:Obj) (pm cd doc:Value) (a:Addr) (vs:List Value) (ns:List Int),Ground q loose [] XP w s₀ mg mb s₁.heap ->YP w s₁.heap ->s₁.heap.get? fa=some o ->o.data= .func (docDef d.name d.params d.body d.scope pm cd doc) ->s₁.heap.CodeRec cd d.name ->mg d.name=some (.ref fa) ->s₁.heap.get? a=some {cls:= .type "list",data:= .seq vs.toArray} ->IntsAre vs ns ->ns.length<=n ->s₁.gens= #[] ->codeAny (model l.prog w) callerA (.call (.ref fa) ⟨[.ref a],[]⟩) (λr s'=>r= .ok (.ret (.bool true)) /\ OldK s₁.heap s'.heap /\ s'.os=s₁.os /\ AllBare s'.gens) s₁): WalkO q loose XP YP l.row.toRowW d [] (λf vs=>PySem.call f vs):=by intro w s₀ s₁ mg mb G Y fa o pm cd doc dV kV ho hd A7 hD UI hg args vals as Hi aak hrd P6 L7;obtain rfl:dV= .none:=Dflts.none hD QF;obtain rfl:kV= .none:=Dflts.noKw hD;obtain⟨a,vs,ns,rfl,rfl,LY,hints,hlen⟩:=Aw hn Hi P6;refine enter_call (codeAny_mono (call w s₀ s₁ mg mb fa o pm cd doc a vs ns G Y ho (fd_plain hd) A7 UI LY hints hlen hg) λr s' hq=> ?_);obtain⟨rfl,h2,h3,h4⟩:=hq;exact⟨.inl ⟨.bool true, .bool true,[],rfl,λ_=>rfl, .bool true,Az l _,λ_=>⟨List.Pairwise.nil,λ_ hm=>(nomatch hm)⟩⟩,h2,h3,h4⟩
end YZ
namespace L2
open PySem PySem.Spec PyProof.Rows
theorem jM: ∀ {vs:List Value} {ns:List Int},IntsAre vs ns ->Vals (ns.map V.int) vs
 | _,_, .nil=> .nil
 | _,_, .cons n t h=> .cons ⟨t,rfl⟩ (jM h)
def MS (H:Hp):Prop:= ∀b,H b=none \/ ∃o xs,H b=some (.kR o (.lst xs))
theorem Ek {P:Program}{w:World}{K:PySem.W.Frag}{mg mb:Str ->Option Value}{CX:FK}{k:Nat}{fa a:Addr}{fd:FuncData}{x:Str}{sp:Sp}{s₁:Shared}{vs:List Value}{ns:List Int} (KX:K.In s₁.heap) (JF:s₁.heap.Ns mainGlobals mg) (hb:s₁.heap.Ns builtinsNs mb) (NN: ∀x:Str,x≠ "__name__" ->mb x=bootBuiltins x) (UO:s₁.heap.NoLimit) (hg:s₁.gens= #[]) (ha:s₁.heap.get? a=some {cls:= .type "list",data:= .seq vs.toArray}) (hi:IntsAre vs ns) (hl:ns.length<=sizeLine) (hr:fD k callerA) (F: ∀base:Heap,K.In base ->base.Ns mainGlobals mg ->dI P w K mg base CX k fa fd [x] sp) (QK: ∀ (s:Shared) (u:Value),BindsTo s fd ⟨[u],[]⟩ [(x,u)]) (vv: ∀H:Hp,MS H ->f6 K H a (ns.map V.int) ->sp [.ref a] H (λv _=>v= .bl true) λ_ _ _=>False) (Vl: ∀H e s',CX [] H s₁ (λ_ _ _=>False) e s' ->False): codeAny (model P w) callerA (.call (.ref fa) ⟨[.ref a],[]⟩) (λr s'=>r= .ok (.ret (.bool true)) /\ OldK s₁.heap s'.heap /\ s'.os=s₁.os /\ AllBare s'.gens) s₁:=by
 have rv:=jM hi;have T4:=hi.length;have core : ∀H:Hp,MS H ->f6 K H a (ns.map V.int) ->kx P w H s₁.heap ->(∀b,H b≠none ->b=a) ->(H a≠none ->K.lookup a=none) ->codeAny (model P w) callerA (.call (.ref fa) ⟨[.ref a],[]⟩) (λr s'=>r= .ok (.ret (.bool true)) /\ OldK s₁.heap s'.heap /\ s'.os=s₁.os /\ AllBare s'.gens) s₁:=by
  intro H hO hS c7 hA hK;have Ag: ∀ {b:Addr} {o:Obj},s₁.heap.get? b=some o ->H b=none ->(tO s₁.heap H).get? b=some o:=λe n=>EO e n;have Pn: ∀ {b:Addr} {o:Obj} {es:Array DictEntry} {ep:Nat},s₁.heap.get? b=some o ->o.data= .dict es ep ->H b=none:=λ{b o es ep} e d=>by
   cases q:H b with
   | none=>rfl
   | some u=>have e':b=a:=hA b (by rw[q];simp);subst e';rw[ha] at e;cases e;have d':Data.seq vs.toArray _=Data.dict es ep:=d;cases d'
  have RL: ∀ {b:Addr} {m:Str ->Option Value},s₁.heap.Ns b m ->(tO s₁.heap H).Ns b m:=λ{b m} ⟨o,es,ep,e,d,r⟩=>⟨o,es,ep,Ag e (Pn e d),d,r⟩
  have Yy:K.In (tO s₁.heap H):=λb o e=>Ag (KX b o e) (by
   cases q:H b with
   | none=>rfl
   | some u=>have e':b=a:=hA b (by rw[q];simp);subst e';rw[hK (by rw[q];simp)] at e;cases e)
  have hM:Mod K mg (tO s₁.heap H):=⟨Yy,RL JF,⟨mb,RL hb,NN⟩,let ⟨mc,h1,h2⟩:=UO;⟨mc,RL h1,h2⟩⟩
  have e0:yk P w K mg (tO s₁.heap H) callerA [] s₁ H:=⟨rfl,hM,λb o e=>GY e,Nat.le_of_eq (A5 _ _),trivial,λb hb=>absurd (show b∈([]:List Addr) from hb) (by simp),c7, .of_eq hg⟩
  refine codeAny_mono ((F _ Yy (RL JF)).run callerA [] s₁ H ⟨[.ref a],[]⟩ [.ref a] [.ref a] _ _ hr e0 (QK s₁ (.ref a)) (.cons rfl .nil) (vv H hO hS)) λr s' h=> ?_;cases r with
  | error e=>exact(Vl H e s' h).elim
  | ok fl =>
   cases fl with
   | next=>exact False.elim h
   | brk=>exact False.elim h
   | cont=>exact False.elim h
   | ret u=>
    obtain⟨v,H',os,bare,un,UC,r',q⟩:=h;have q':v= .bl true:=q;subst q';obtain rfl:u=Value.bool true:=r';refine⟨rfl,OldK.of_keep λb o e=> ?_,os,bare⟩;cases q:H b with
    | none=>exact un.keep b o e q (by intro z;exact absurd (show b∈([]:List Addr) from z) (by simp)) (by simp)
    | some u=>
     rcases hO b with z | ⟨ob,xs,z⟩
     ·rw[q] at z;cases z
     ·have z2:=un.kQ b ob _ z;obtain⟨e1,_⟩:=c7 b _ z;obtain⟨e2,_⟩:=UC b _ z2;rw[e] at e1;cases e1;exact e2
 cases hk:K.lookup a with
 | some o=>have e:=KX a o hk;rw[ha] at e;cases e;refine core (λ_=>none) (λ_=> .inl rfl) (.inr ⟨_,vs.toArray,_,hk,rfl,rfl,rfl,by rw[aO,T4];exact hl,by simpa using rv⟩) (λb u z=>by have z':(none:Option HO)=some u:=z;cases z') (λb z=>absurd rfl z) λz=>absurd rfl z
 | none=>
  refine core (λb=>if b=a then some (.kR {cls:= .type "list",data:= .seq vs.toArray} (.lst (ns.map V.int))) else none) (λb=> ?_) (.inl (.inr ⟨{cls:= .type "list",data:= .seq vs.toArray},ak rfl⟩)) (λb u z=> ?_) (λb z=> ?_) λ_=>hk
  ·by_cases hb:b=a
   ·exact .inr ⟨_,_,ak hb⟩
   ·exact .inl (aj hb)
  ·by_cases hb:b=a
   ·have z':=(ak hb).symm.trans z;cases z';subst hb;exact⟨ha,by rw[aa];exact hl,vs,_,rv,ha⟩
   ·have z':=(aj hb).symm.trans z;cases z'
  ·by_cases hb:b=a
   ·exact hb
   ·exact absurd (aj hb) z
theorem F9 {l:PySem.W.OpenLaw}{n k:Nat}{q:Program}{loose:List Str}{XP:(Str ->Option Value) ->Heap ->Prop}{YP:World ->Heap ->Prop}{d:DefRec}{K:Params ->PySem.W.Frag}{CX:World ->FK}{sp:World ->Sp}{x:Str} (hn:l.most=some n) (L3:n<=sizeLine) (QF:d.params.defaults= []) (hr:fD k callerA) (hY: ∀ (w:World) (h:Heap),YP w h ->(K w.params).In h) (F : ∀ (w:World) (mg:Str ->Option Value) (fa:Addr) (h:Heap),(K w.params).In h ->h.Ns mainGlobals mg ->mg d.name=some (.ref fa) ->∃ fd:FuncData,(∀ (s:Shared) (u:Value),BindsTo s fd ⟨[u],[]⟩ [(x,u)]) /\∀base:Heap,(K w.params).In base ->base.Ns mainGlobals mg ->dI l.prog w (K w.params) mg base (CX w) k fa fd [x] (sp w)) (vv: ∀ (w:World) (H:Hp) (a:Addr) (ns:List Int),ns.length<=n ->MS H ->f6 (K w.params) H a (ns.map V.int) ->sp w [.ref a] H (λv _=>v= .bl true) λ_ _ _=>False) (Vl: ∀ (w:World) (H:Hp) (s:Shared) (e:Value) (s':Shared),CX w [] H s (λ_ _ _=>False) e s' ->False): PySem.W.WalkO q loose XP YP l.row.toRowW d [] (λf vs=>PySem.call f vs):=by refine YZ.vZ hn QF λw s₀ s₁ mg mb fa o pm cd doc a vs ns G Y ho hd A7 UI LY hints hlen hg=> ?_;have KX:=hY w _ Y;obtain⟨fd,hb,hF⟩:=F w mg fa _ KX G.T.g UI;exact Ek KX G.T.g G.T.b G.T.builtins G.T.nolimit hg LY hints (a4 hlen L3) hr hF hb (λH hO hS=>vv w H a ns hlen hO hS) λH e s'=>Vl w H s₁ e s'
def fL (s:Stmt):Arguments:=match s with
 | .FunctionDef _ a _ _ _ _ _ _ _ _=>a
 | _=> {posonlyargs:= [],args:= [],vararg:=none,kwonlyargs:= [],kw_defaults:= [],kwarg:=none,defaults:= []}
def d3 (s:Stmt):List Stmt:=match s with
 | .FunctionDef _ _ b _ _ _ _ _ _ _=>b
 | _=> []
def aQ (s:Stmt):Scope:=match s with
 | .FunctionDef _ _ _ _ _ _ sc _ _ _=>sc
 | _=> {kind:= .function,names:= [],isGenerator:=false,isCoroutine:=false}
abbrev iV:FK:=λ_ _ _ _ _ _=>False
abbrev E0:XK:=λ_ _ _=>False
theorem Ji {X:Cx}:Passes iV X E0:=λ_ _ _ _ _ _ _ h=>h.elim
structure BR (K:PySem.W.Frag)(x qual:Str)(st:Stmt)(f:Addr)(fd:FuncData):Prop where
 ex: ∃ (oc:Value) (od:Option Addr) (kV doc pm:Value) (an:Option Addr) (dQ ct:Value) (BM:Array (Option Value)),fd=PySem.W.fnOf x qual (fL st) (d3 st) (aQ st) .none kV doc pm an dQ ct /\ K.lookup f=some ⟨oc,od, .func fd,BM⟩ /\ PySem.W.codeIn K dQ qual=true
 kp:PySem.W.keepIn K (.ref f)=true
section
variable {P:Program}{w:World}{K:PySem.W.Frag}{mg:Str ->Option Value}{base:Heap}
theorem BR.ok {x qual:Str}{st:Stmt}{f:Addr}{fd:FuncData}{N ps:List Str}{k:Nat}{sp:Sp}(F:BR K x qual st f fd)(S:b7 N ps (aQ st))(len: ∀vs H Q E,sp vs H Q E ->vs.length=ps.length) (l3: ∀ (dQ:Value) (A:Around) (outer:List Env) (s:Shared) (H:Hp) (vs:List V) (Q:VK) (E:XK),fD k (A.deeper (envOfC qual (aQ st) s.heap.objs.size f dQ)) ->sp vs H Q E ->∃t,wF (eQ iV P w K mg base N qual (aQ st) f dQ A outer s H E).Lr (d3 st) t /\ t {nx:=λ_ H'=>Q .dB H',rt:=Q} (start N vs) H):dI P w K mg base iV (k+1) f fd ps sp:=by obtain⟨oc,od,kV,doc,pm,an,dQ,ct,BM,rfl,lk,A7⟩:=F.ex;refine QY lk A7 S len λA outer s H vs Q E hr vv=> ?_;obtain⟨t,h,q⟩:=l3 dQ A outer s H vs Q E hr vv;exact⟨t,h.Lr,q⟩
theorem BR.binds {x qual:Str}{st:Stmt}{f:Addr}{fd:FuncData}{ps:List Str}(F:BR K x qual st f fd) (h: ∀ (kV doc pm:Value) (an:Option Addr) (dQ ct:Value) (us:List Value),us.length=ps.length ->bindArgs (PySem.W.fnOf x qual (fL st) (d3 st) (aQ st) .none kV doc pm an dQ ct) ⟨us,[]⟩=pure (ps.zip us)):Binds K fd ps []:=by obtain⟨oc,od,kV,doc,pm,an,dQ,ct,BM,rfl,lk,A7⟩:=F.ex;exact .all (h kV doc pm an dQ ct)
theorem tQ {x qual:Str}{st:Stmt}{f:Addr}{oc:Value}{od an:Option Addr}{BM:Array (Option Value)}{kV doc pm dQ ct:Value}(l:K.lookup f=some ⟨oc,od, .func (PySem.W.fnOf x qual (fL st) (d3 st) (aQ st) .none kV doc pm an dQ ct),BM⟩) (c:PySem.W.codeIn K dQ qual=true) (k:PySem.W.keepIn K (.ref f)=true):BR K x qual st f (PySem.W.fnOf x qual (fL st) (d3 st) (aQ st) .none kV doc pm an dQ ct):=⟨⟨oc,od,kV,doc,pm,an,dQ,ct,BM,rfl,l,c⟩,k⟩
end
theorem eD {A:Around}{k:Nat}(hr:fD k A):A.units+1<cLine:=Nat.lt_of_le_of_lt (Nat.add_le_add_left (by decide:1<=64) _) hr.units
section
variable {X:Cx}
theorem pv (i:Nat){x:Str}{pos:Pos}(hN:X.N[i]? =some x:=by rfl)(hv:SI X.env.scope x:=by first | exact Or.inl rfl | exact Or.inr (Or.inl rfl) | exact Or.inr (Or.inr rfl))(hd:(x==("__debug__" :Str))=false:=by decide) (A7:(x==("__classdict__" :Str))=false:=by decide):PE X (.Name x pos) (Gj i):=Ld hN hv hd A7
end
def eg (H H':Hp):Prop:= ∀b o,H b=some o ->H' b=some o
theorem eg.trans {H H1 H2:Hp}(a:eg H H1)(b:eg H1 H2):eg H H2:=λc o h=>b c o (a c o h)
section
variable {κ:Type} [DecidableEq κ]
theorem zf: ∀ {l:List κ} {k:κ},l.Nodup ->¬k∈l ->(l++ [k]).Nodup
 | [],k,_,_=>by simp
 | a::r,k,h,hk=>by
  obtain⟨h1,h2⟩:=bw.mp h;show(a::(r++ [k])).Nodup;refine bw.mpr ⟨λm=> ?_,zf h2 λm=>hk (av.mpr (Or.inr m))⟩;rcases ax.mp m with q | q
  ·exact h1 q
  ·exact hk (av.mpr (Or.inl (ah.mp q).symm))
end
theorem cO {α:Type}{x y:Str}{c:α}{l:List (Str×α)}:((y,c)::l).lookup x=if x=y then some c else l.lookup x:=by
 by_cases h:x=y
 ·subst h;simp[List.lookup_cons]
 ·rw[aj h,List.lookup_cons];have:(x==y)=false:=by simpa using h
  rw[this]
theorem jc {env:Env}: ∀ (names:List (Str×NameKind)) (acc:List (Str×Addr)),(∀y∈names,y.2= .free -> ∃c,env.cells.lookup y.1=some c) ->(∀x c,acc.lookup x=some c ->env.cells.lookup x=some c) ->∃ cl,(forIn names acc λx s=>if(x.snd==NameKind.free)=true then(do let c <- cellOf env x.fst;pure (ForInStep.yield ((x.fst,c)::s)):Sem _) else pure (ForInStep.yield s))=(pure cl:Sem (List (Str×Addr))) /\(∀x c,cl.lookup x=some c ->env.cells.lookup x=some c) /\ (∀x,(acc.lookup x).isSome=true ->(cl.lookup x).isSome=true) /\ ∀y∈names,y.2= .free ->(cl.lookup y.1).isSome=true
 | [],acc,_,h2=>⟨acc,rfl,h2,λ_ h=>h,λ_ h=>absurd h (by simp)⟩
 | (n, k)::r,acc,h1,h2=>by
  by_cases hk:k=NameKind.free
  ·subst hk;obtain⟨c,hc⟩:=h1 (n, .free) aE rfl;have F1: ∀x c',((n,c)::acc).lookup x=some c' ->env.cells.lookup x=some c':=λx c' e=>by
    rw[cO] at e;by_cases hx:x=n
    ·rw[ak hx] at e;cases e;rw[hx];exact hc
    ·rw[aj hx] at e;exact h2 x c' e
   obtain⟨cl,e1,e2,e3,e4⟩:=jc r ((n,c)::acc) (λy hy=>h1 y (aw _ hy)) F1;refine⟨cl,?_,e2,λx hx=>e3 x ?_,λy hy hf=> ?_⟩
   ·rw[List.forIn_cons];have:cellOf env n=pure c:=by unfold cellOf;rw[hc]
    simp only[beq_self_eq_true,bN,this,pure_bind];exact e1
   ·rw[cO];by_cases gk:x=n
    ·rw[ak gk];rfl
    ·rw[aj gk];exact hx
   ·rcases av.mp hy with rfl | hy
    ·refine e3 n ?_;rw[cO,ak rfl];rfl
    ·exact e4 y hy hf
  ·obtain⟨cl,e1,e2,e3,e4⟩:=jc r acc (λy hy=>h1 y (aw _ hy)) h2;refine⟨cl,?_,e2,e3,λy hy hf=> ?_⟩
   ·rw[List.forIn_cons];have:(k==NameKind.free)=false:=by simpa using hk
    simp only[this,ay,bf,pure_bind];exact e1
   ·rcases av.mp hy with rfl | hy
    ·exact absurd hf hk
    ·exact e4 y hy hf
theorem pV {scope:Scope}{env:Env}(h: ∀y∈scope.names,y.2= .free -> ∃c,env.cells.lookup y.1=some c): ∃cl,closureFor scope env=pure cl /\ (∀x c,cl.lookup x=some c ->env.cells.lookup x=some c) /\ ∀y∈scope.names,y.2= .free ->(cl.lookup y.1).isSome=true:=by obtain⟨cl,e1,e2,_,e4⟩:=jc scope.names [] h (λ_ _ e=>by simp at e);refine⟨cl,?_,e2,e4⟩;simp only[closureFor];rw[e1,pure_bind]
theorem gI {env:Env}: ∀ {names:List (Str×NameKind)} {x:Str} {k:NameKind},(names.map λ(n,k)=>if(k==NameKind.free && env.scope.kind== .function && env.kindOf n==some .cell) then(n,NameKind.cell) else(n,k)).lookup x=some k ->names.lookup x=some k \/ (k= .cell /\ names.lookup x=some .free)
 | [],_,_,h=>by simp at h
 | (n, j)::r,x,k,h=>by
  have ih:= @gI env r x k;rw[aH] at h;by_cases hc:(j==NameKind.free && env.scope.kind== .function && env.kindOf n==some .cell)=true
  ·simp only[hc,bN] at h;rw[cO] at h;rw[cO];by_cases hx:x=n
   ·rw[ak hx] at h ⊢;cases h;have hj:j=NameKind.free:=by rw[Bool.and_eq_true,Bool.and_eq_true] at hc;exact eq_of_beq hc.1.1
    exact .inr ⟨rfl,by rw[hj]⟩
   ·rw[aj hx] at h ⊢;exact ih h
  ·simp only[hc,ay,bf] at h;rw[cO] at h;rw[cO];by_cases hx:x=n
   ·rw[ak hx] at h ⊢;exact .inl h
   ·rw[aj hx] at h ⊢;exact ih h
theorem gu {env:Env}: ∀ {names:List (Str×NameKind)} {x:Str},names.lookup x=some .free ->(names.map λ(n,k)=>if(k==NameKind.free && env.scope.kind== .function && env.kindOf n==some .cell) then(n,NameKind.cell) else(n,k)).lookup x=some .cell \/(names.map λ(n,k)=>if(k==NameKind.free && env.scope.kind== .function && env.kindOf n==some .cell) then(n,NameKind.cell) else(n,k)).lookup x=some .free
 | [],_,h=>by simp at h
 | (n,j)::r,x,h=>by
  have ih:= @gu env r x;rw[aH];rw[cO] at h;by_cases hc:(j==NameKind.free && env.scope.kind== .function && env.kindOf n==some .cell)=true
  ·simp only[hc,bN];rw[cO];by_cases hx:x=n
   ·rw[ak hx];exact .inl rfl
   ·rw[aj hx] at h ⊢;exact ih h
  ·simp only[hc,ay,bf];rw[cO];by_cases hx:x=n
   ·rw[ak hx] at h ⊢;cases h;exact .inr rfl
   ·rw[aj hx] at h ⊢;exact ih h
abbrev bV (X:Cx)(N':List Str)(scope:Scope)(cl:List (Str×Addr))(fp:List Addr)(s3:Shared)(H3:Hp):Cx:={X with N:=N',s₀:=s3,H₀:=H3,env:=compEnvC scope cl s3.heap.objs.size X.env,outer:=X.stack,stack:=X.stack,ex:=fp,fn:=λ_=>false,pn:= [],xe:=λ_ _=>False}
def jr (own:Nat)(fr:List Nat)(σ:St):St:=List.replicate own none++fr.map λj=>(σ[j]?).join
structure d4 (X:Cx)(own:List Str)(fr:List Nat)(N':List Str)(scope:Scope):Prop where
 kind:scope.kind= .function
 names:N'=own++fr.filterMap (λj=>X.N[j]?)
 len:N'.length=own.length+fr.length
 nd:N'.Nodup
 pq: ∀y∈scope.names,y.2≠ .cell
 loc: ∀y∈scope.names,y.2= .local ->scope.names.lookup y.1=some .local
 NQ: ∀x∈fr.filterMap (λj=>X.N[j]?),scope.names.lookup x=some .free
 free: ∀y∈scope.names,y.2= .free ->X.env.kindOf y.1=some .cell \/ X.env.kindOf y.1=some .free
theorem l5 {N:List Str}: ∀ {fr:List Nat} {k:Nat} {x:Str},(fr.filterMap (λj=>N[j]?)).length=fr.length ->(fr.filterMap (λj=>N[j]?))[k]? =some x -> ∃j,fr[k]? =some j /\ N[j]? =some x
 | [],_,_,_,e=>by simp at e
 | j ::r,k,x,hl,e=>by
  cases hj:N[j]? with
  | none=>rw[List.filterMap_cons,hj] at hl;have:=List.length_filterMap_le (λj=>N[j]?) r;simp only[aG] at hl;lia
  | some y=>
   rw[List.filterMap_cons,hj] at hl e;simp only[aG,Nat.add_right_cancel_iff] at hl;cases k with
   | zero=>simp at e;exact⟨j,by simp,by rw[hj,e]⟩
   | succ k=>exact l5 (k:=k) hl (by simpa using e)
section
variable {X:Cx}{pins:List (Addr×Obj)}{σ:St}{H:Hp}{s s3:Shared}
theorem vt {own N':List Str}{fr:List Nat}{scope:Scope}{cl:List (Str×Addr)}{fp:List Addr}{h':Heap}{t:Nat}(S:d4 X own fr N' scope)(I:Inv X pins σ H s) (og: ∀x c,cl.lookup x=some c ->X.env.cells.lookup x=some c) (qq: ∀y∈scope.names,y.2= .free ->(cl.lookup y.1).isSome=true) (tP: ∀b∈fp,je X pins H b) (Mc: ∀b∈fp,b<s.heap.objs.size) (JF:h'.Ns s.heap.objs.size (λ_=>none)) (hk: ∀b o,s.heap.get? b=some o ->h'.get? b=some o): Inv (bV X N' scope cl fp s H) [] (jr own.length fr σ) H {s with heap:=h',toks:=t}:=by
 have look: ∀x,(compEnvC scope cl s.heap.objs.size X.env).kindOf x=(relabel scope X.env).names.lookup x:=λ_=>rfl;have QT:(fr.filterMap (λj=>X.N[j]?)).length=fr.length:=by have:=S.len;rw[S.names,aL] at this;lia
 refine⟨⟨I.ok.mod,?_,I.ok.glob,I.ok.blt,aq _,λx y c e1 e2=>I.ok.inj x y c (og _ _ e1) (og _ _ e2),λx hx=> ?_,(λx c z _=>nomatch z),I.ok.hd,I.ok.frames, .inl rfl,λb hb=>⟨?_,λx c e=>(tP b hb).2.2.2.2.1 x c (og x c e)⟩,I.bs,a4 I.ok.F3 I.sz,λb o e hb=> ?_,λb hb hz=> ?_,I.stack,I.yE⟩,
  rfl,I.bare,Un.kept hk,⟨_,JF,λi x v e1 e2 e3=> ?_⟩,λx c e=> ?_,I.c7.fresh (aq _),λx c e=>I.gN x c (og x c e),λp hp=>absurd (show p∈([]:List (Addr×Obj)) from hp) (by simp),I.c7.kept hk,?_⟩
 ·show(relabel scope X.env).kind=_;exact S.kind
 ·have gk:scope.names.lookup x=some .free:=by
   rcases hx with hx | hx
   ·rcases gI hx with q | ⟨_,q⟩
    ·exact absurd rfl (S.pq _ (PySem.mem_of_lookup q))
    ·exact q
   ·rcases gI hx with q | ⟨q,_⟩
    ·exact q
    ·cases q
  exact Option.isSome_iff_exists.mp (qq _ (PySem.mem_of_lookup gk) rfl)
 ·exact aX (Mc b hb)
 ·rcases (tP b hb).2.2.2.1 with z | z
  ·exact I.ok.DZ b o e z
  ·exact absurd (bE (aB e) (a4 I.ok.F3 z)) (cb _)
 ·rcases av.mp (I.xb b hz) with q | q
  ·exact(tP b hb).2.1 q
  ·exact(tP b hb).2.2.1 q
 · -- a TR value
  have e1:(own++fr.filterMap (λj=>X.N[j]?))[i]? =some x:=by rw[<- S.names];exact e1
  unfold jr at e2
  by_cases hi:i<own.length
  ·rw[a9 (by simpa using hi),List.getElem?_replicate,ak hi] at e2;cases e2
  ·rw [aU (by simpa using hi),List.length_replicate] at e2;rw[aU (by simpa using hi)] at e1;obtain⟨j,ej,ex⟩:=l5 QT e1;rw[aA,ej] at e2;have e2:(σ[j]?).join=some v:=by simpa using e2
   have e2':σ[j]? =some (some v):=by
    cases q:σ[j]? with
    | none=>rw[q] at e2;cases e2
    | some w=>rw[q] at e2;simp at e2;rw[e2]
   have hf:=S.NQ x (ai e1);have hm:=PySem.mem_of_lookup hf;obtain⟨m,_,hl⟩:=I.loc;have Y7:SI X.env.scope x:=by
    rcases S.free _ hm rfl with q | q
    ·exact .inr (.inl q)
    ·exact .inr (.inr q)
   obtain⟨u,r,l⟩:=hl j x v ex e2' Y7;refine⟨u,r, .inr ⟨?_,?_⟩⟩
   ·exact gu hf
   ·rcases l with⟨k,_⟩ | ⟨_,c,ec,z⟩
    ·rcases S.free _ hm rfl with q | q
     ·rw[k] at q;cases q
     ·rw[k] at q;cases q
    ·obtain⟨c',SG⟩:=Option.isSome_iff_exists.mp (qq _ hm rfl);have:=og _ _ SG;rw[ec] at this;cases this;exact⟨c,SG,z.keeps hk⟩
 ·obtain⟨v,z⟩:=I.cell x c (og x c e);exact⟨v,z.keeps hk⟩
 ·show(jr own.length fr σ).length=N'.length;unfold jr;rw[aL,List.length_replicate,aa,S.len]
end
def Kf (X:Cx)(cs:List Expr)(t:TT):Prop:=∀ (pins:List (Addr×Obj)) (s:Shared) (σ:St) (H:Hp) (Q:Bool ->Hp ->Prop),Inv X pins σ H s ->t σ H Q ->wpAny (model X.prog X.w) X.A (forIn cs true λc r=>if r=true then do let ok <- isTrue c X.env (eval c X.env);pure (ForInStep.yield ok) else pure (ForInStep.yield r)) (TP X pins σ Q) X.xe s
def Ow:TT:=λ_ H Q=>Q true H
theorem hU {X:Cx}:Kf X [] Ow:=λpins s σ H Q I h=>wpAny_tests_nil ⟨H,I,h⟩
theorem oz {X:Cx}{c:Expr}{t:TT}(h:PT X c t):Kf X [c] t:=λpins s σ H Q I q=>wpAny_tests_one (h pins s σ H Q I q)
section
variable {prog:Program}{w:World}{A:Around}{R:Result ->Shared ->Prop}{s:Shared}
theorem Bm {elt target iter:Expr}{ifs:List Expr}{scope:Scope}{pos:Pos}{it acc:Value}{env:Env}(I:Nat ->Shared ->Prop) (turn : ∀n s,I n s ->wpAny (model prog w) A (pyNext it) (λr s₁=>match r with
   | none=>R (.ok .next) s₁
   | some v=>wpAny (model prog w) A (letOwnedTupleGo target it v) (λ_ s₀=>wpAny (model prog w) A (assign target env v) (λ_ s₂=>
    wpAny (model prog w) A (forIn ifs true λc r=>if r=true then do let ok <- isTrue c env (eval c env);pure (ForInStep.yield ok) else pure (ForInStep.yield r)) (λok s₃=>if ok=true then wpAny (model prog w) A (eval elt env) (λx s₄=>wpAny (model prog w) A (call (.builtin "list.append") [acc,x]) (λ_ s₅=> ∃m,m<n /\ I m s₅) (λ_ _=>False) s₄) (λ_ _=>False) s₃ else ∃m,m<n /\ I m s₃) (λ_ _=>False) s₂)
    (λ_ _=>False) s₀) (λ_ _=>False) s₁) (λ_ _=>False) s)
  (n:Nat) (h:I n s):codeAny (model prog w) A (.compLoop (.ListComp elt [⟨target,iter,ifs,0⟩] scope pos) 0 it acc env) R s:=by
 refine codeAny_loop rfl I (λn s hI=> ?_) n h
 show wpAny _ A ((compTurn (.ListComp elt [⟨target,iter,ifs,0⟩] scope pos) 0 it acc env).onRaise (λx=>do noteFrame x env;theTreesLotGoes x)) _ _ s
 refine wpAny_noted ?_
 rw[compTurn_list]
 refine ao (wpAny_standAt (ao (bJ (turn n s hI) (λr s₁ h₁=> ?_) λ_ _ h'=>h'.elim)))
 cases r with
 | none=>exact aM h₁
 | some v=>
  refine ao (bJ h₁ (λ_ s₀ P4=> ?_) λ_ _ h'=>h'.elim);refine ao (bJ P4 (λ_ s₂ h₂=> ?_) λ_ _ h'=>h'.elim);refine ao (bJ h₂ (λPj s₃ h₃=> ?_) λ_ _ h'=>h'.elim);cases Pj with
  | false=>exact aM ⟨rfl,h₃⟩
  | true=>exact ao (ao (bJ h₃ (λx s₄ h₄=>ao (bJ h₄ (λ_ s₅ h₅=>aM (aM ⟨rfl,h₅⟩)) λ_ _ h'=>h'.elim)) λ_ _ h'=>h'.elim))
end
def Wk (σ0 σ2:St):Prop:=σ2.length=σ0.length /\ ∀ (i:Nat) v,σ0[i]? =some (some v) ->σ2[i]? =some (some v)
def Ib (own:Nat)(g:TG):Prop:= ∀ (c:St) (v:V) (H:Hp) (Q:St ->Hp ->Prop),g v (List.replicate own none++c) H Q ->g v (List.replicate own none++c) H λσ2 H2=>Wk (List.replicate own none++c) σ2 /\ Q σ2 H2
theorem eT:Ib 1 (nF 0):=by
 intro c v H Q h;refine⟨⟨by simp,λi u e=> ?_⟩,h⟩;cases i with
 | zero=>simp at e
 | succ i=>simpa using e
theorem Fq {K:PySem.W.Frag}:Ib 2 (Mv K 2 (zE (nF 0) (zE (nF 1) Mw))):=by
 rintro c v H Q ⟨a,xs,e,hs,hl,x,r,rfl,y,r',rfl,rfl,h⟩;refine⟨a,_,e,hs,hl,x,_,rfl,y,_,rfl,rfl,⟨by simp,λi u e=> ?_⟩,h⟩;match i with
 | 0=>simp at e
 | 1=>simp at e
 | i+2=>simpa using e
def J9 (J:It)(own:Nat)(fr:List Nat)(g:TG)(tc:TT)(te:TE)(σ:St)(p:Addr)(H1:Hp)(Q:VK):Prop:=∃ W :Nat ->Nat ->List V ->Hp ->Prop,(∃m,W 0 m [] (upd H1 p (.lst []))) /\ ∀i m ys H',W i m ys H' ->H' p=some (.lst ys) /\((J.stop i H' /\ Q (.ref p) H') \/ (J.go i H' /\ ys.length<sizeLine /\ ∀x H2,J.Kj i H' x H2 ->g x (jr own fr σ) H2 λσ2 H3=>tc σ2 H3 λb H4=>if b=true then te σ2 H4 λy H5=> ∃zs,H5 p=some (.lst zs) /\ zs.length<sizeLine /\ ∃m',m'<m /\ W (i+1) m' (zs++ [y]) (upd H5 p (.lst (zs++ [y]))) else ∃zs m',m'<m /\ W (i+1) m' zs H4))
def IJ (wi:TI)(own:Nat)(fr:List Nat)(g:TG)(tc:TT)(te:TE):TE:=λσ H Q=>wi σ H λJ H1=> ∀p,H1 p=none ->J9 J own fr g tc te σ p H1 Q
section
variable {X:Cx}{pins:List (Addr×Obj)}{σ:St}{H:Hp}{s s3:Shared}
theorem comp_back {N':List Str}{scope:Scope}{cl:List (Str×Addr)}{fp:List Addr}{y9:List (Addr×Obj)}{σ':St}{H':Hp}{s':Shared}(I3:Inv X pins σ H s3)(tP: ∀b∈fp,je X pins H b) (Ic:Inv (bV X N' scope cl fp s3 H) y9 σ' H' s'):Inv X pins σ H' s':=I3.Q3 (ch:=fp) Ic.os Ic.base Ic.c7 Ic.bare λb hb=>⟨(tP b hb).2.2.2.1,(tP b hb).2.1,(tP b hb).2.2.2.2.1,(tP b hb).2.2.2.2.2⟩
theorem rO {C:Addr}{σ':St}{H':Hp}{s':Shared}{h':Heap}(I3:Inv X pins σ H s3)(hC:C=s3.heap.objs.size)(J:Inv X pins σ' H' s')(hn:H' C=none)(hs:Heap.SameBut C s'.heap h'):Inv X pins σ' H' {s' with heap:=h'}:=by
 subst hC;refine J.turned (t':=s'.toks) (it:=s3.heap.objs.size) (λb o hb e=>hs.extBut b o hb e) hn (Nat.ne_of_gt I3.lt) (.inr I3.sz) (λx c e z=> ?_) λp hp z=> ?_
 ·obtain⟨v,q⟩:=I3.cell x c e;exact absurd q.lt (by rw[z];exact cb _)
 ·exact absurd (aB (I3.pin p hp).1) (by rw[z];exact cb _)
theorem yd {tg iter elt:Expr}{ifs:List Expr}{pos:Pos}{own N':List Str}{fr:List Nat}{scope:Scope}{cl:List (Str×Addr)}{fp:List Addr}{it:Addr}{tn:Nat ->Heap ->Prop}{J:It}{g:TG}{tc:TT}{te:TE}{Q:VK} {E:Value ->Shared ->Prop} {RR:Value ->Addr ->Result ->Shared ->Prop} (jD:X.calm=true) (S:d4 X own fr N' scope) (hg: ∀s3 H3,PG (bV X N' scope cl fp s3 H3) tg g) (hw:Ib own.length g) (hc: ∀s3 H3,Kf (bV X N' scope cl fp s3 H3) ifs tc) (he: ∀s3 H3,PE (bV X N' scope cl fp s3 H3) elt te) (og: ∀x c,cl.lookup x=some c ->X.env.cells.lookup x=some c) (qq: ∀y∈scope.names,y.2= .free ->(cl.lookup y.1).isSome=true) (I:Inv X pins σ H s) (T:Turn X.prog X.w X.K tg J fp it tn) (st:tn 0 s.heap) (tP: ∀b∈fp,je X pins H b) (h: ∀p,H p=none ->J9 J own.length fr g tc te σ p H Q) (fin: ∀ (s3:Shared) (H3:Hp),Inv X pins σ H3 s3 ->(∀b∈fp,je X pins H3 b) -> ∀ (D:Addr) (σ':St) (H':Hp) (s':Shared) (t:Nat),D<s3.heap.objs.size ->Inv (bV X N' scope cl fp s3 H3) [] σ' H' s' ->Q (.ref D) H' ->RR (.ref D) s3.heap.objs.size (.ok .next) s'): wpAny (model X.prog X.w) X.A (newList []) (λacc s₃=>wpAny (model X.prog X.w) X.A (newFunctionEnv scope X.env.globals cl [] X.env.qual none .none (some X.env)) (λFp s₄=>codeAny (model X.prog X.w) X.A (.compStart (.ListComp elt [⟨tg,iter,ifs,0⟩] scope pos) 0 (.ref it) acc {Fp with scope:=relabel scope X.env}) (RR acc Fp.locals) s₄) E s₃) E s:=by
 refine wpAny_newObj_type ?_;have hf:H s.heap.objs.size=none:=I.c7.fresh (aq _);obtain⟨W,⟨m0,w0⟩,turn⟩:=h _ hf;generalize e3:({s with heap:=s.heap.push {cls:= .type "list",dict:=none,data:= .seq ([]:List Value).toArray}}:Shared)=s3;have KQ:s3.heap.objs.size=s.heap.objs.size+1:=by rw[<- e3];exact Heap.size_push ..
 have S1: ∀b o,s.heap.get? b=some o ->s3.heap.get? b=some o:=λb o e=>by rw[<- e3];exact ar _ e
 have I3:Inv X pins σ (upd H s.heap.objs.size (.lst [])) s3:=by rw[<- e3];exact I.laid (t':=s.toks) (λb u e=>ar _ e) (aq _) ⟨cU _,[],0, .nil,aS _ rfl⟩
 have Mx: ∀b∈fp,b<s.heap.objs.size:=λb hb=>by obtain⟨o,e,_⟩:=T.obj 0 _ st b hb;exact aB e
 have xR: ∀b∈fp,je X pins (upd H s.heap.objs.size (.lst [])) b:=λb hb=>⟨by rw[bC (aX (Mx b hb))];exact(tP b hb).1,(tP b hb).2⟩
 refine wpAny_newFunctionEnv S.pq (by intro y hy;simp at hy) (λh₁ LZ LV=> ?_) S.kind;have old: ∀b o,s3.heap.get? b=some o ->h₁.get? b=some o:=λb o e=>LV.extBut b o (aX (aB e)) (ar _ e);have Ic:=vt (t:=s3.toks+([]:List (Str×Value)).length) S I3 og qq xR (λb hb=>by rw[KQ];exact Nat.lt_succ_of_lt (Mx b hb)) LZ old;have Av:tn 0 h₁:=T.keep 0 _ _ st λb hb o e=>old b o (S1 b o e);have oO: ∀ {H':Hp},(∀b∈fp,H' b=none) -> ∀b∈fp,je (bV X N' scope cl fp s3 (upd H s.heap.objs.size (.lst []))) [] H' b:=λhn b hb=>by
  refine⟨hn b hb,?_,?_, .inl hb,λx c e=>(tP b hb).2.2.2.2.1 x c (og x c e),λp hp=>absurd (show p∈([]:List (Addr×Obj)) from hp) (by simp)⟩
  ·show b≠s3.heap.objs.size;rw[KQ];exact aX (Nat.lt_succ_of_lt (Mx b hb))
  ·exact Ic.ok.Bc b hb
 have loop:codeAny (model X.prog X.w) X.A (.compLoop (.ListComp elt [⟨tg,iter,ifs,0⟩] scope pos) 0 (.ref it) (.ref s.heap.objs.size) (compEnvC scope cl s3.heap.objs.size X.env)) (RR (.ref s.heap.objs.size) s3.heap.objs.size) {s3 with heap:=h₁,toks:=s3.toks+([]:List (Str×Value)).length}:=by
  refine Bm (λn s'=> ∃i ys H',Inv (bV X N' scope cl fp s3 (upd H s.heap.objs.size (.lst []))) [] (jr own.length fr σ) H' s' /\ tn i s'.heap /\ (∀b∈fp,H' b=none) /\ W i n ys H') ?_ m0 ⟨0,[],_,Ic,Av,λb hb=>(xR b hb).1,w0⟩;rintro n s4 ⟨i,ys,H4,I4,fq,Mz,w4⟩;obtain⟨A9,alt⟩:=turn i n ys H4 w4;rcases alt with⟨stop,q⟩ | ⟨go,hsz,step⟩
  ·refine df (T.done (bV X N' scope cl fp s3 (upd H s.heap.objs.size (.lst []))) rfl rfl rfl jD i [] s4 _ H4 (λ_ _=>False) I4 (oO Mz) fq stop) λr s5 ⟨hr,I5⟩=> ?_;subst hr;exact fin s3 _ I3 xR _ _ H4 s5 s5.toks (by rw[KQ];exact Nat.lt_succ_self _) I5 q
  ·refine df (T.item (bV X N' scope cl fp s3 (upd H s.heap.objs.size (.lst []))) rfl rfl rfl jD i [] s4 _ H4 (λ_ _=>False) I4 (oO Mz) fq go) λr s5 ⟨u,hr,h5⟩=> ?_;subst hr;refine df h5 λ_ s6 ⟨x,H6,I6,r6,y6,KW,V4⟩=> ?_;have W6:=I6.pinned (oO V4) (T.obj _ _ KW);have IL:=hw _ x H6 _ (step x H6 y6);refine df (hg s3 _ _ s6 _ H6 x u _ W6 r6 IL) λ_ s7 ⟨σ7,H7,I7,wk,q7⟩=> ?_;have again: ∀ {H9:Hp} {s9:Shared} {Ki:List V},Inv (bV X N' scope cl fp s3 (upd H s.heap.objs.size (.lst []))) ([]++gJ fp s6.heap) σ7 H9 s9 ->(∃m',m'<n /\ W (i+1) m' Ki H9) ->∃m,m<n /\ ∃i ys H',Inv (bV X N' scope cl fp s3 (upd H s.heap.objs.size (.lst []))) [] (jr own.length fr σ) H' s9 /\ tn i s9.heap /\ (∀b∈fp,H' b=none) /\ W i m ys H':=λ{H9 s9 Ki} I9 ⟨m',hm,w9⟩=>by
    refine⟨m',hm,i+1,Ki,H9,(I9.iE).weak ?_ wk.2,T.keep _ _ _ KW λb hb o e=>(I9.pin (b,o) (aT _ (aT _ (eI hb e)))).1,λb hb=> ?_,w9⟩
    ·exact wk.1.symm
    ·obtain⟨o,e,d⟩:=T.obj _ _ KW b hb;exact(I9.pin (b,o) (aT _ (aT _ (eI hb e)))).2.1
   refine df (hc s3 _ _ s7 σ7 H7 _ I7 q7) λok s8 ⟨H8,I8,q8⟩=> ?_;cases ok with
   | false=>simp only[ay,bf] at q8 ⊢;obtain⟨zs,q8⟩:=q8;exact again I8 q8
   | true=>simp only[bN] at q8 ⊢;refine df (he s3 _ _ s8 σ7 H8 _ I8 q8) λy s9 ⟨yv,H9,I9,ry,zs,hp9,Z1,q9⟩=> ?_;refine df (jT _ s9 σ7 H9 (.ref s.heap.objs.size) [yv] (.ref s.heap.objs.size) [y] (λv H'=>H'=upd H9 s.heap.objs.size (.lst (zs++ [yv]))) I9 rfl (.cons ry .nil) ⟨_,zs,yv,rfl,rfl,hp9,Z1,rfl⟩) λv Td ⟨_,NS,W8,_,Wg⟩=> ?_;subst Wg;exact again W8 q9
 exact codeAny_compStart_list loop (T.self _ 0 _ _ _ Av loop)
end
section
variable {X:Cx}
theorem Cx.Ok.cellsOf {own N':List Str}{fr:List Nat}{scope:Scope}(ok:X.Ok)(S:d4 X own fr N' scope): ∀y∈scope.names,y.2= .free -> ∃c,X.env.cells.lookup y.1=some c:=λy hy hf=>ok.has y.1 (S.free y hy hf)
theorem f' {tg iter elt:Expr}{ifs:List Expr}{pos:Pos}{own N':List Str}{fr:List Nat}{scope:Scope}{wi:TI}{g:TG}{tc:TT}{te:TE}(jD:X.calm=true)(S:d4 X own fr N' scope)(hi:PI X tg iter wi) (hg: ∀cl fp s3 H3,PG (bV X N' scope cl fp s3 H3) tg g) (hw:Ib own.length g) (hc: ∀cl fp s3 H3,Kf (bV X N' scope cl fp s3 H3) ifs tc) (he: ∀cl fp s3 H3,PE (bV X N' scope cl fp s3 H3) elt te) (hs: ∀x,foldedSetIterable iter X.env x=pure x:=by intro _;rfl):PE X (.ListComp elt [⟨tg,iter,ifs,0⟩] scope pos) (IJ wi own.length fr g tc te):=by intro pins s σ H Q I h;obtain⟨cl,EV,og,qq⟩:=pV (I.ok.cellsOf S);rw[eval_ListComp];refine wpAny_comprehension_free (use:=none) rfl hs EV S.kind S.loc (df (hi pins s σ H _ I h) λv s1 h1=>df h1 λPR s2 h2=> ?_);obtain⟨it,fp,tn,J,H2,e,I2,T,lu,f2,h2⟩:=h2;subst e;refine yd (RR:=λacc C=>compPost (model X.prog X.w) X.A X.xe none (EP X pins σ Q) acc C) jD S (hg cl fp) hw (hc cl fp) (he cl fp) og qq I2 T lu f2 h2 ?_;intro s3 H3 I3 f3 D σ' H' s' t hD Ic q;obtain⟨m,hn,_⟩:=Ic.loc;refine⟨m,hn,λh' Qf=>⟨.ref D,H',?_,rfl,q⟩⟩;exact rO I3 rfl (comp_back I3 f3 Ic) Ic.free Qf
end
set_option genInjectivity true in
inductive Dt where
 | dB | bl (b:Bool) | int (i:Int) | str (x:Str) | tup (l:List Dt) | lst (l:List Dt)
mutual
def Rep (K:PySem.W.Frag)(H:Hp):Dt ->V ->Prop
 | .dB,v=>v= .dB
 | .bl b,v=>v= .bl b
 | .int i,v=>v= .int i
 | .str x,v=>v= .str x
 | .tup l,v=> ∃a vs,v= .ref a /\ iS K H a vs /\ fP K H l vs
 | .lst l,v=> ∃a vs,v= .ref a /\ f6 K H a vs /\ fP K H l vs
def fP (K:PySem.W.Frag)(H:Hp):List Dt ->List V ->Prop
 | [],vs=>vs= []
 | d::r,vs=> ∃v t,vs=v::t /\ Rep K H d v /\ fP K H r t
end
mutual
def qt:Dt ->Dt ->Bool
 | .dB, .dB=>true
 | .bl a, .bl b=>a==b
 | .bl a, .int b=>(if a then 1 else 0)==b
 | .int a, .bl b=>a==(if b then 1 else 0)
 | .int a, .int b=>a==b
 | .str a, .str b=>a==b
 | .tup a, .tup b=>tR a b
 | .lst a, .lst b=>tR a b
 | _,_=>false
def tR:List Dt ->List Dt ->Bool
 | [],[]=>true
 | x::xs,y::ys=>qt x y && tR xs ys
 | _,_=>false
end
mutual
def wB:Dt ->Nat
 | .tup l=>oi l+1
 | .lst l=>oi l+1
 | _=>0
def oi:List Dt ->Nat
 | []=>0
 | d::r=>max (wB d) (oi r)
end
theorem fP.length {K:PySem.W.Frag}{H:Hp}: ∀ {l:List Dt} {vs:List V},fP K H l vs ->l.length=vs.length
 | [],_,h=>by simp only[fP] at h;subst h;rfl
 | d::r,vs,h=>by simp only[fP] at h;obtain⟨v,t,rfl,_,h⟩:=h;simp[fP.length h]
theorem fP.at {K:PySem.W.Frag}{H:Hp}: ∀ {l:List Dt} {vs:List V} {j:Nat} {d:Dt},fP K H l vs ->l[j]? =some d -> ∃v,vs[j]? =some v /\ Rep K H d v
 | [],_,_,_,_,e=>by simp at e
 | d::r,vs,j,d',h,e=>by
  simp only[fP] at h;obtain⟨v,t,rfl,h1,h⟩:=h;cases j with
  | zero=>simp at e;subst e;exact⟨v,rfl,h1⟩
  | succ j=>simpa using fP.at (j:=j) h (by simpa using e)
theorem l8: ∀ {l:List Dt} {d:Dt},d∈l ->wB d<=oi l
 | [],_,h=>by simp at h
 | x::r,d,h=>by
  simp only[oi];rcases av.mp h with rfl | h
  ·exact Nat.le_max_left _ _
  ·exact a4 (l8 h) (Nat.le_max_right _ _)
theorem i9: ∀ (a b:List Dt),tR a b=((List.range (min a.length b.length)).all (λj=>qt (a.getD j .dB) (b.getD j .dB)) && a.length==b.length)
 | [],[]=>rfl
 | [],y::ys=>by simp[tR]
 | x::xs,[]=>by simp[tR]
 | x::xs,y::ys=>by
  have e:min (x::xs).length (y::ys).length=min xs.length ys.length+1:=by simp only[aG];lia
  rw[tR,i9 xs ys,e,List.range_succ_eq_map,List.all_cons,List.all_map];have e2:((x::xs).length==(y::ys).length)=(xs.length==ys.length):=by simp
  rw[e2,Bool.and_assoc];rfl
mutual
theorem l7: ∀d:Dt,qt d d=true
 | .dB=>rfl
 | .bl b=>by simp[qt]
 | .int i=>by simp[qt]
 | .str x=>by simp[qt]
 | .tup l=>by simp only[qt];exact ni l
 | .lst l=>by simp only[qt];exact ni l
theorem ni: ∀l:List Dt,tR l l=true
 | []=>rfl
 | x::xs=>by simp only[tR,l7 x,ni xs,Bool.and_self]
end
theorem Un.Xt {K:PySem.W.Frag}{H H':Hp}(h: ∀b xs,Rd H b (.tup xs) ->Rd H' b (.tup xs)){a:Addr}{xs:List V}(q:iS K H a xs):iS K H' a xs:=by
 rcases q with q | q
 ·exact .inl (h _ _ q)
 ·exact .inr q
section
variable {X:Cx}{pins:List (Addr×Obj)}{σ:St}{H:Hp}{s:Shared}
mutual
theorem Rep.inj (I:Inv X pins σ H s): ∀ (d e:Dt) (v:V),Rep X.K H d v ->Rep X.K H e v ->d=e
 | .dB,e,v,h1,h2=>by simp only[Rep] at h1;subst h1;cases e<;>simp only[Rep] at h2<;>first | rfl | (cases h2;done) | (obtain⟨_,_,q,_⟩:=h2;cases q)
 | .bl b,e,v,h1,h2=>by simp only[Rep] at h1;subst h1;cases e<;>simp only[Rep] at h2<;>first | (cases h2;rfl) | (cases h2;done) | (obtain⟨_,_,q,_⟩:=h2;cases q)
 | .int b,e,v,h1,h2=>by simp only[Rep] at h1;subst h1;cases e<;>simp only[Rep] at h2<;>first | (cases h2;rfl) | (cases h2;done) | (obtain⟨_,_,q,_⟩:=h2;cases q)
 | .str b,e,v,h1,h2=>by simp only[Rep] at h1;subst h1;cases e<;>simp only[Rep] at h2<;>first | (cases h2;rfl) | (cases h2;done) | (obtain⟨_,_,q,_⟩:=h2;cases q)
 | .tup l,e,v,h1,h2=>by
  simp only[Rep] at h1;obtain⟨a,vs,rfl,hs,hr⟩:=h1;cases e<;>simp only[Rep] at h2<;>first | (cases h2;done) | skip
  ·obtain⟨a',Of,q,fO,kO⟩:=h2;cases q;have:=I.mO hs fO;subst this;rw[fP.inj I l _ vs hr kO]
  ·obtain⟨a',Of,q,fO,kO⟩:=h2;cases q;obtain⟨its,_,ht,_⟩:=I.tuple hs;obtain⟨its',_,hl,_⟩:=I.list fO;exact absurd rfl (SeqAt.ne_of_list_tuple (s:=s) hl.isList ht)
 | .lst l,e,v,h1,h2=>by
  simp only[Rep] at h1;obtain⟨a,vs,rfl,hs,hr⟩:=h1;cases e<;>simp only[Rep] at h2<;>first | (cases h2;done) | skip
  ·obtain⟨a',Of,q,fO,kO⟩:=h2;cases q;obtain⟨its,_,ht,_⟩:=I.tuple fO;obtain⟨its',_,hl,_⟩:=I.list hs;exact absurd rfl (SeqAt.ne_of_list_tuple (s:=s) hl.isList ht)
  ·obtain⟨a',Of,q,fO,kO⟩:=h2;cases q;have:=I.list_inj hs fO;subst this;rw[fP.inj I l _ vs hr kO]
theorem fP.inj (I:Inv X pins σ H s): ∀ (l m:List Dt) (vs:List V),fP X.K H l vs ->fP X.K H m vs ->l=m
 | [],m,vs,h1,h2=>by
  simp only[fP] at h1;subst h1;cases m with
  | nil=>rfl
  | cons _ _=>simp only[fP] at h2;obtain⟨_,_,q,_⟩:=h2;cases q
 | d ::r,m,vs,h1,h2=>by
  simp only[fP] at h1;obtain⟨v,t,rfl,h1,h3⟩:=h1;cases m with
  | nil=>simp only[fP] at h2;cases h2
  | cons d' r'=>simp only[fP] at h2;obtain⟨v',t',q,h4,h5⟩:=h2;cases q;rw[Rep.inj I d d' v h1 h4,fP.inj I r r' t h3 h5]
end
theorem fP.items {l:List Dt}{vs:List V}{its:List Value}(h:fP X.K H l vs)(r:Vals vs its){j:Nat}(hj:j<its.length):Rep X.K H (l.getD j .dB) (vs.getD j .dB) /\ RelV (vs.getD j .dB) its[j] /\ l.getD j .dB∈l:=by
 have e1:=h.length;have e2:=r.length;have hl:j<l.length:=by lia
 obtain⟨v,hv,hr⟩:=h.at (ae hl);obtain⟨u,hu,ru⟩:=r.get hv;have e3:l.getD j .dB=l[j]:=by simp[List.getD,hl]
 have e4:vs.getD j .dB=v:=by simp[List.getD,hv]
 rw[ae hj] at hu;cases hu;rw[e3,e4];exact⟨hr,ru,bW hl⟩
theorem tS (I:Inv X pins σ H s): ∀ (n:Nat) (A:Around) (d e:Dt) (x y:V) (u v:Value),wB d<=n ->A.units+n<cLine ->Rep X.K H d x ->Rep X.K H e y ->RelV x u ->RelV y v ->SeqAt.EqAt A s u v (qt d e)
 | n, A, .tup l, .tup m,x,y,u,v,hn,hu,h1,h2,r1,r2=>by
  have Mt:=h1;have F1:=h2;simp only[Rep] at h1 h2;obtain⟨a,vs,rfl,hs,hr⟩:=h1;obtain⟨b,ws,rfl,fO,kO⟩:=h2;cases r1;cases r2;by_cases EX:a=b
  ·subst EX;rw[Rep.inj I _ _ _ Mt F1,l7];exact SeqAt.EqAt.same _
  ·obtain⟨its,rv,ht,_⟩:=I.tuple hs;obtain⟨its',xi,lY,_⟩:=I.tuple fO;refine SeqAt.EqAt.of_refs EX ?_;simp only[qt];simp only[wB] at hn;match n,hn with
   | n +1,hn=>
    have z:=SeqAt.RcAt.tuples (A:=A) (s:=s) (e:=λj=>qt (l.getD j .dB) (m.getD j .dB)) ht lY (by lia) λj g1 g2=>by
     obtain⟨q1,q2,q3⟩:=hr.items rv (j:=j) (by simpa using g1);obtain⟨q4,q5,q6⟩:=kO.items xi (j:=j) (by simpa using g2);refine tS I n A.in1 _ _ _ _ _ _ ?_ ?_ q1 q4 (by simpa using q2) (by simpa using q5)
     ·have:=l8 q3;lia
     ·show A.units+1+n<cLine;lia
    rw[i9,hr.length,kO.length,rv.length,xi.length];simpa using z
 | n, A, .lst l, .lst m,x,y,u,v,hn,hu,h1,h2,r1,r2=>by
  have Mt:=h1;have F1:=h2;simp only[Rep] at h1 h2;obtain⟨a,vs,rfl,hs,hr⟩:=h1;obtain⟨b,ws,rfl,fO,kO⟩:=h2;cases r1;cases r2;by_cases EX:a=b
  ·subst EX;rw[Rep.inj I _ _ _ Mt F1,l7];exact SeqAt.EqAt.same _
  ·obtain⟨its,rv,ht,_⟩:=I.list hs;obtain⟨its',xi,lY,_⟩:=I.list fO;refine SeqAt.EqAt.of_refs EX ?_;simp only[qt];simp only[wB] at hn;by_cases hl:its.length=its'.length
   ·match n,hn with
    | n +1,hn=>
     have z:=SeqAt.RcAt.lists (A:=A) (s:=s) (e:=λj=>qt (l.getD j .dB) (m.getD j .dB)) ht.isList lY.isList (by simpa using hl) (by lia) λj g1 g2=>by
      obtain⟨q1,q2,q3⟩:=hr.items rv (j:=j) (by simpa using g1);obtain⟨q4,q5,q6⟩:=kO.items xi (j:=j) (by simpa using g2);refine tS I n A.in1 _ _ _ _ _ _ ?_ ?_ q1 q4 (by simpa using q2) (by simpa using q5)
      ·have:=l8 q3;lia
      ·show A.units+1+n<cLine;lia
     rw[i9,hr.length,kO.length,rv.length,xi.length,hl];simpa [hl] using z
   ·have z:=SeqAt.RcAt.lists_lengths (A:=A) (s:=s) ht.isList lY.isList (by simpa using hl) (by lia);have hf:(its.length==its'.length)=false:=by simpa using hl
    rw[i9,hr.length,kO.length,rv.length,xi.length,hf,Bool.and_false];exact z
 | n,A, .tup l, .lst m,x,y,u,v,hn,hu,h1,h2,r1,r2=>by simp only[Rep] at h1 h2;obtain⟨a,vs,rfl,hs,hr⟩:=h1;obtain⟨b,ws,rfl,fO,kO⟩:=h2;cases r1;cases r2;obtain⟨its,rv,ht,_⟩:=I.tuple hs;obtain⟨its',xi,lY,_⟩:=I.list fO;exact SeqAt.EqAt.tuple_list ht lY.isList (by lia)
 | n,A, .lst l, .tup m,x,y,u,v,hn,hu,h1,h2,r1,r2=>by simp only[Rep] at h1 h2;obtain⟨a,vs,rfl,hs,hr⟩:=h1;obtain⟨b,ws,rfl,fO,kO⟩:=h2;cases r1;cases r2;obtain⟨its,rv,ht,_⟩:=I.list hs;obtain⟨its',xi,lY,_⟩:=I.tuple fO;exact SeqAt.EqAt.list_tuple ht.isList lY (by lia)
 | n,A, .tup l, .dB,x,y,u,v,hn,hu,h1,h2,r1,r2=>by simp only[Rep] at h1 h2;obtain⟨a,vs,rfl,hs,hr⟩:=h1;subst h2;cases r1;cases r2;obtain⟨its,rv,ht,_⟩:=I.tuple hs;exact SeqAt.EqAt.tuple_none ht (by lia)
 | n,A, .tup l, .bl b,x,y,u,v,hn,hu,h1,h2,r1,r2=>by simp only[Rep] at h1 h2;obtain⟨a,vs,rfl,hs,hr⟩:=h1;subst h2;cases r1;cases r2;obtain⟨its,rv,ht,_⟩:=I.tuple hs;exact SeqAt.EqAt.tuple_bool b ht (by lia)
 | n,A, .tup l, .int b,x,y,u,v,hn,hu,h1,h2,r1,r2=>by simp only[Rep] at h1 h2;obtain⟨a,vs,rfl,hs,hr⟩:=h1;subst h2;cases r1;obtain⟨t,rfl⟩:=r2;obtain⟨its,rv,ht,_⟩:=I.tuple hs;exact SeqAt.EqAt.tuple_int b t ht (by lia)
 | n,A, .tup l, .str b,x,y,u,v,hn,hu,h1,h2,r1,r2=>by simp only[Rep] at h1 h2;obtain⟨a,vs,rfl,hs,hr⟩:=h1;subst h2;cases r1;obtain⟨t,rfl⟩:=r2;obtain⟨its,rv,ht,_⟩:=I.tuple hs;exact SeqAt.EqAt.tuple_str b t ht (by lia)
 | n,A, .lst l, .dB,x,y,u,v,hn,hu,h1,h2,r1,r2=>by simp only[Rep] at h1 h2;obtain⟨a,vs,rfl,hs,hr⟩:=h1;subst h2;cases r1;cases r2;obtain⟨its,rv,ht,_⟩:=I.list hs;exact SeqAt.EqAt.list_none ht.isList (by lia)
 | n,A, .lst l, .bl b,x,y,u,v,hn,hu,h1,h2,r1,r2=>by simp only[Rep] at h1 h2;obtain⟨a,vs,rfl,hs,hr⟩:=h1;subst h2;cases r1;cases r2;obtain⟨its,rv,ht,_⟩:=I.list hs;exact SeqAt.EqAt.list_bool b ht.isList (by lia)
 | n,A, .lst l, .int b,x,y,u,v,hn,hu,h1,h2,r1,r2=>by simp only[Rep] at h1 h2;obtain⟨a,vs,rfl,hs,hr⟩:=h1;subst h2;cases r1;obtain⟨t,rfl⟩:=r2;obtain⟨its,rv,ht,_⟩:=I.list hs;exact SeqAt.EqAt.list_int b t ht.isList (by lia)
 | n,A, .lst l, .str b,x,y,u,v,hn,hu,h1,h2,r1,r2=>by simp only[Rep] at h1 h2;obtain⟨a,vs,rfl,hs,hr⟩:=h1;subst h2;cases r1;obtain⟨t,rfl⟩:=r2;obtain⟨its,rv,ht,_⟩:=I.list hs;exact SeqAt.EqAt.list_str b t ht.isList (by lia)
 | n,A, .dB, .tup l,x,y,u,v,hn,hu,h1,h2,r1,r2=>by simp only[Rep] at h1 h2;obtain⟨a,vs,rfl,hs,hr⟩:=h2;subst h1;cases r2;cases r1;obtain⟨its,rv,ht,_⟩:=I.tuple hs;exact SeqAt.EqAt.none_tuple ht (by lia)
 | n,A, .bl b, .tup l,x,y,u,v,hn,hu,h1,h2,r1,r2=>by simp only[Rep] at h1 h2;obtain⟨a,vs,rfl,hs,hr⟩:=h2;subst h1;cases r2;cases r1;obtain⟨its,rv,ht,_⟩:=I.tuple hs;exact SeqAt.EqAt.bool_tuple b ht (by lia)
 | n,A, .int b, .tup l,x,y,u,v,hn,hu,h1,h2,r1,r2=>by simp only[Rep] at h1 h2;obtain⟨a,vs,rfl,hs,hr⟩:=h2;subst h1;cases r2;obtain⟨t,rfl⟩:=r1;obtain⟨its,rv,ht,_⟩:=I.tuple hs;exact SeqAt.EqAt.int_tuple b t ht (by lia)
 | n,A, .str b, .tup l,x,y,u,v,hn,hu,h1,h2,r1,r2=>by simp only[Rep] at h1 h2;obtain⟨a,vs,rfl,hs,hr⟩:=h2;subst h1;cases r2;obtain⟨t,rfl⟩:=r1;obtain⟨its,rv,ht,_⟩:=I.tuple hs;exact SeqAt.EqAt.str_tuple b t ht (by lia)
 | n,A, .dB, .lst l,x,y,u,v,hn,hu,h1,h2,r1,r2=>by simp only[Rep] at h1 h2;obtain⟨a,vs,rfl,hs,hr⟩:=h2;subst h1;cases r2;cases r1;obtain⟨its,rv,ht,_⟩:=I.list hs;exact SeqAt.EqAt.none_list ht.isList (by lia)
 | n,A, .bl b, .lst l,x,y,u,v,hn,hu,h1,h2,r1,r2=>by simp only[Rep] at h1 h2;obtain⟨a,vs,rfl,hs,hr⟩:=h2;subst h1;cases r2;cases r1;obtain⟨its,rv,ht,_⟩:=I.list hs;exact SeqAt.EqAt.bool_list b ht.isList (by lia)
 | n,A, .int b, .lst l,x,y,u,v,hn,hu,h1,h2,r1,r2=>by simp only[Rep] at h1 h2;obtain⟨a,vs,rfl,hs,hr⟩:=h2;subst h1;cases r2;obtain⟨t,rfl⟩:=r1;obtain⟨its,rv,ht,_⟩:=I.list hs;exact SeqAt.EqAt.int_list b t ht.isList (by lia)
 | n,A, .str b, .lst l,x,y,u,v,hn,hu,h1,h2,r1,r2=>by simp only[Rep] at h1 h2;obtain⟨a,vs,rfl,hs,hr⟩:=h2;subst h1;cases r2;obtain⟨t,rfl⟩:=r1;obtain⟨its,rv,ht,_⟩:=I.list hs;exact SeqAt.EqAt.str_list b t ht.isList (by lia)
 | n,A, .dB, .dB,x,y,u,v,hn,hu,h1,h2,r1,r2=>by simp only[Rep] at h1 h2;subst h1 h2;exact e9 r1 r2 rfl rfl
 | n,A, .dB, .bl b,x,y,u,v,hn,hu,h1,h2,r1,r2=>by simp only[Rep] at h1 h2;subst h1 h2;exact e9 r1 r2 rfl rfl
 | n,A, .dB, .int b,x,y,u,v,hn,hu,h1,h2,r1,r2=>by simp only[Rep] at h1 h2;subst h1 h2;exact e9 r1 r2 rfl rfl
 | n,A, .dB, .str b,x,y,u,v,hn,hu,h1,h2,r1,r2=>by simp only[Rep] at h1 h2;subst h1 h2;exact e9 r1 r2 rfl rfl
 | n,A, .bl a, .dB,x,y,u,v,hn,hu,h1,h2,r1,r2=>by simp only[Rep] at h1 h2;subst h1 h2;exact e9 r1 r2 rfl rfl
 | n,A, .bl a, .bl b,x,y,u,v,hn,hu,h1,h2,r1,r2=>by simp only[Rep] at h1 h2;subst h1 h2;exact e9 r1 r2 rfl rfl
 | n,A, .bl a, .int b,x,y,u,v,hn,hu,h1,h2,r1,r2=>by simp only[Rep] at h1 h2;subst h1 h2;exact e9 r1 r2 rfl rfl
 | n,A, .bl a, .str b,x,y,u,v,hn,hu,h1,h2,r1,r2=>by simp only[Rep] at h1 h2;subst h1 h2;exact e9 r1 r2 rfl rfl
 | n,A, .int a, .dB,x,y,u,v,hn,hu,h1,h2,r1,r2=>by simp only[Rep] at h1 h2;subst h1 h2;exact e9 r1 r2 rfl rfl
 | n,A, .int a, .bl b,x,y,u,v,hn,hu,h1,h2,r1,r2=>by simp only[Rep] at h1 h2;subst h1 h2;exact e9 r1 r2 rfl rfl
 | n,A, .int a, .int b,x,y,u,v,hn,hu,h1,h2,r1,r2=>by simp only[Rep] at h1 h2;subst h1 h2;exact e9 r1 r2 rfl rfl
 | n,A, .int a, .str b,x,y,u,v,hn,hu,h1,h2,r1,r2=>by simp only[Rep] at h1 h2;subst h1 h2;exact e9 r1 r2 rfl rfl
 | n,A, .str a, .dB,x,y,u,v,hn,hu,h1,h2,r1,r2=>by simp only[Rep] at h1 h2;subst h1 h2;exact e9 r1 r2 rfl rfl
 | n,A, .str a, .bl b,x,y,u,v,hn,hu,h1,h2,r1,r2=>by simp only[Rep] at h1 h2;subst h1 h2;exact e9 r1 r2 rfl rfl
 | n,A, .str a, .int b,x,y,u,v,hn,hu,h1,h2,r1,r2=>by simp only[Rep] at h1 h2;subst h1 h2;exact e9 r1 r2 rfl rfl
 | n,A, .str a, .str b,x,y,u,v,hn,hu,h1,h2,r1,r2=>by simp only[Rep] at h1 h2;subst h1 h2;exact e9 r1 r2 rfl rfl
end
end L2
namespace L2
open PySem PySem.Spec PyProof.Rows
def XX:Dt ->Bool
 | .tup _=>true
 | .lst _=>true
 | _=>false
def oq:Dt ->Dt ->Bool
 | .tup _, .tup _=>true
 | .lst _, .lst _=>true
 | _,_=>false
section
variable {X:Cx}
theorem Th {pins:List (Addr×Obj)}{σ:St}{H:Hp}{s:Shared}(I:Inv X pins σ H s){A:Around}{d e:Dt}{x y:V}{u v:Value}(hs:oq d e=true)(hn:wB d<=50)(hu:A.units+60<cLine)(h1:Rep X.K H d x)(h2:Rep X.K H e y)(r1:RelV x u)(r2:RelV y v): SeqAt.RcAt A s u v (qt d e) /\ SeqAt.RcNeAt A s u v (!qt d e):=by
 cases d with
 | tup l=>
  cases e with
  | tup m=>
   simp only[Rep] at h1 h2;obtain⟨a,vs,rfl,hs,hr⟩:=h1;obtain⟨b,ws,rfl,fO,kO⟩:=h2;cases r1;cases r2;obtain⟨its,rv,ht,_⟩:=I.tuple hs;obtain⟨its',xi,lY,_⟩:=I.tuple fO;simp only[qt];simp only[wB] at hn;have he: ∀j (g1:j<its.toArray.size) (g2:j<its'.toArray.size),SeqAt.EqAt A.in1 s its.toArray[j] its'.toArray[j] ((λj=>qt (l.getD j .dB) (m.getD j .dB)) j):=λj g1 g2=>by
    obtain⟨q1,q2,q3⟩:=hr.items rv (j:=j) (by simpa using g1);obtain⟨q4,q5,q6⟩:=kO.items xi (j:=j) (by simpa using g2);refine tS I 50 A.in1 _ _ _ _ _ _ ?_ ?_ q1 q4 (by simpa using q2) (by simpa using q5)
    ·have:=l8 q3;lia
    ·show A.units+1+50<cLine;lia
   have z:=SeqAt.RcAt.tuples (A:=A) (s:=s) ht lY (by lia) he;have z':=SeqAt.RcNeAt.tuples (A:=A) (s:=s) ht lY (by lia) he;rw[i9,hr.length,kO.length,rv.length,xi.length];exact⟨by simpa using z,by simpa using z'⟩
  | _=>cases hs
 | lst l =>
  cases e with
  | lst m=>
   simp only[Rep] at h1 h2;obtain⟨a,vs,rfl,hs,hr⟩:=h1;obtain⟨b,ws,rfl,fO,kO⟩:=h2;cases r1;cases r2;obtain⟨its,rv,ht,_⟩:=I.list hs;obtain⟨its',xi,lY,_⟩:=I.list fO;simp only[qt];simp only[wB] at hn;by_cases hl:its.length=its'.length
   ·have he: ∀j (g1:j<its.toArray.size) (g2:j<its'.toArray.size),SeqAt.EqAt A.in1 s its.toArray[j] its'.toArray[j] ((λj=>qt (l.getD j .dB) (m.getD j .dB)) j):=λj g1 g2=>by
     obtain⟨q1,q2,q3⟩:=hr.items rv (j:=j) (by simpa using g1);obtain⟨q4,q5,q6⟩:=kO.items xi (j:=j) (by simpa using g2);refine tS I 50 A.in1 _ _ _ _ _ _ ?_ ?_ q1 q4 (by simpa using q2) (by simpa using q5)
     ·have:=l8 q3;lia
     ·show A.units+1+50<cLine;lia
    have z:=SeqAt.RcAt.lists (A:=A) (s:=s) ht.isList lY.isList (by simpa using hl) (by lia) he;have z':=SeqAt.RcNeAt.lists (A:=A) (s:=s) ht.isList lY.isList (by simpa using hl) (by lia) he;rw[i9,hr.length,kO.length,rv.length,xi.length,hl];exact⟨by simpa [hl] using z,by simpa [hl] using z'⟩
   ·have z:=SeqAt.RcAt.lists_lengths (A:=A) (s:=s) ht.isList lY.isList (by simpa using hl) (by lia);have z':=SeqAt.RcNeAt.lists_lengths (A:=A) (s:=s) ht.isList lY.isList (by simpa using hl) (by lia);have hf:(its.length==its'.length)=false:=by simpa using hl
    rw[i9,hr.length,kO.length,rv.length,xi.length,hf,Bool.and_false];exact⟨z,z'⟩
  | _=>cases hs
 | _=>cases hs
def O4 (K:PySem.W.Frag):R2:=λx y H Q=> ∃d e,oq d e=true /\ wB d<=50 /\ Rep K H d x /\ Rep K H e y /\ Q (.bl (qt d e)) H
theorem DN (hu:X.A.units+60<cLine):pZ X (compareOp .Eq) (O4 X.K):=by intro pins s σ H x y v u Q I r1 r2 h;obtain⟨d,e,h0,hn,h1,h2,q⟩:=h;exact(Th I h0 hn hu h1 h2 r1 r2).1 X.prog X.w X.xe _ ⟨.bl _,H,I,rfl,q⟩
theorem fD.Xj {k:Nat}{A:Around}(r:fD k A):A.units+60<cLine:=by have:=r.units;lia
theorem lW: ∀ {ns:List Int} {us:List Value},Vals (ns.map V.int) us ->IntsAre us ns
 | [],_,h=>by cases h;exact .nil
 | n ::r,_,h=>by
  cases h with
  | cons h1 h2=>obtain⟨t,rfl⟩:=h1;exact .cons n t (lW h2)
theorem zw: ∀ {ks:List Int} {vs:List Value},vs.length=ks.length ->(∀ (j:Nat) (v:Value),vs[j]? =some v -> ∃ (k:Int) (t:Tok),ks[j]? =some k /\ v= .int k t) ->IntsAre vs ks
 | [],[],_,_=> .nil
 | [],_::_,h,_=>by simp at h
 | _::_,[],h,_=>by simp at h
 | k::ks,v::vs,h,hv=>by obtain⟨k',t,e1,e2⟩:=hv 0 v rfl;simp at e1;subst e1 e2;exact .cons k t (zw (by simpa using h) λj u e=>by simpa using hv (j+1) u (by simpa using e))
def uV:List V ->Hp ->VK ->Prop:=λxs H Q=> ∃ (d:Addr) (kvs:List (Key×V)) (ks:List Int),xs= [.ref d] /\ H d=some (.dK kvs) /\ kvs.map (·.1)=ks.map Sum.inl /\ ks.length<=sizeLine /\ ∀ (p:Addr) (ns:List Int),H p=none ->ns.Perm ks ->ns.Pairwise (· <= ·) ->Q (.ref p) (upd H p (.lst (ns.map V.int)))
theorem eU (hc:X.calm=true):gw X (.builtin "sorted") uV:=by
 intro pins s σ H xs us Q I r h;obtain⟨d,kvs,ks,rfl,hd,hk,QQ,q⟩:=h;obtain⟨u,rfl,ru⟩:=vals1 r;cases ru;have hh:X.A.in1.handled=none:=I.ok.hd hc;obtain⟨hz,lo,vs,rel,dd⟩:=vK I.c7 hd;obtain⟨ep,zC⟩:=dd.dictAt;have hlen:vs.length=ks.length:=by have e1:=congrArg List.length hk;rw[aa,aa] at e1;rw[<- rel.length,e1]
 refine Calls.call_function_entry kind_sorted plain_sorted entry_sorted (args_sorted1 _) ?_;unfold Builtin.«sorted»;refine ao (m:=checkCount "sorted" 1 1 _) (aM ?_);refine ao (PySem.W.kdu_collect (A:=X.A.in1) (PySem.W.kdl_dict (knd:=cu X.prog X.w) (kvs:=vs) (ep:=ep) lo) hh zC (by rw[<- rel.length];exact hz) λh' tk acc EK A9=> ?_);have hl:acc.toList.length=ks.length:=by rw[cT,A9.1,hlen]
 have hI:IntsAre acc.toList ks:=zw hl λj v e=>by
  obtain⟨k,x,hx,Qv⟩:=A9.2 j v (by rw[<- Array.getElem?_toList];exact e);have Qt:(kvs.map (·.1))[j]? =some k:=by
   have:(vs.map (·.1))[j]? =some k:=by rw[aA,hx];rfl
   rw[<- rel.keys] at this;exact this
  rw[hk,aA] at Qt;cases e2:ks[j]? with
  | none=>rw[e2] at Qt;cases Qt
  | some n=>
   rw[e2] at Qt;cases Qt;have US:lU (Sum.inl n) v=true:=Qv;rcases dt US with⟨i,t,e3,e4⟩ | ⟨x,t,e3,e4⟩
   ·cases e3;exact⟨n,t,rfl,e4⟩
   ·cases e3
 refine ao (wpAny_newList ?_ (by rw[hl];exact QQ));have ho:(h'.push (seqObj "list" acc.toList.toArray 0)).get? h'.objs.size=some (seqObj "list" acc.toList.toArray 0):=aS _ rfl;refine ao (wpAny_holding (wpAny_call_entry slot_list_sort ⟨_,ho,rfl⟩ entry_list_sort (TS.qH (s:= {s with heap:=h'.push (seqObj "list" acc.toList.toArray 0),toks:=tk}) ho hI (by rw[hl];exact QQ) λout GZ a1 a2 a3=>⟨_,rfl,?_⟩) (args_list_sort _)));obtain⟨ee,Ml⟩:=sortedHeap_at (out:=out) ho;have I':Inv X pins σ H {s with heap:=h',toks:=tk}:=I.kept (t':=tk) EK;refine aM ⟨_,rfl, .ref h'.objs.size,_,I'.laid (t':=tk) (o:= .lst (GZ.map V.int)) (λb o hb=> ?_) (aq _) ?_,rfl,q _ GZ (I'.c7.fresh (aq _)) a2 a3⟩
 ·have eX:b<h'.objs.size:=aB hb;rw[sortedHeap_old (aX eX) (by rw[Heap.size_push];exact Nat.lt_succ_of_lt eX)];exact ar _ hb
 ·refine⟨?_,out.toList,ee,jM a1,by simpa using Ml⟩;rw[aa,a2.length_eq];exact QQ
end
theorem d4.of {X:Cx}{sc scope:Scope}{N own N':List Str}{fr:List Nat}(hsc:X.env.scope=sc)(hN:X.N=N)(kind:scope.kind= .function)(names:N'=own++fr.filterMap (λj=>N[j]?))(len:N'.length=own.length+fr.length)(nd:N'.Nodup) (pq: ∀y∈scope.names,y.2≠ .cell) (loc: ∀y∈scope.names,y.2= .local ->scope.names.lookup y.1=some .local) (NQ: ∀x∈fr.filterMap (λj=>N[j]?),scope.names.lookup x=some .free) (free: ∀y∈scope.names,y.2= .free ->sc.names.lookup y.1=some .cell \/ sc.names.lookup y.1=some .free):d4 X own fr N' scope:=by subst hN hsc;exact⟨kind,names,len,nd,pq,loc,NQ,free⟩
structure mM (K:PySem.W.Frag)(mg:Str ->Option Value)(x:Str)(ps:List Str)(st:Stmt)(f:Addr)(fd:FuncData):Prop where
 at_:mg x=some (.ref f)
 fn:BR K x x st f fd
 bd:Binds K fd ps []
section
variable {X:Cx}{k:Nat}{f:Addr}{fd:FuncData}{ps:List Str}{sp:Sp}{x:Str}{st:Stmt}{p pos:Pos}{e:Expr}{es:List Expr}{t:TA}
theorem aY (C:mM X.K X.mg x ps st f fd)(F:dI X.prog X.w X.K X.mg X.base iV k f fd ps sp)(hr:fD k X.A)(hg:Gl X x) (ha:PA X (e::es) t) (ES:(x==("__debug__" :Str))=false:=by decide) (he:starEach (e::es) X.env=(false,eval e X.env)::starEach es X.env:=by rfl) (rb:(backTo pos (starEach es X.env)).any (·.1)=false:=by rfl): PE X (.Call (.Name x p) (e::es) [] pos) (yD sp [] E0 t):=GN F hr hg C.at_ C.fn.kp C.bd .nil Ji ha ES he rb
end
theorem b8 {H:Hp}{p:Addr}{o:HO}(h:H p=none):eg H (upd H p o):=λb u e=>by rw[bC (dc e h)];exact e
def SR (d:Addr)(H H':Hp):Prop:= ∀b o,b≠d ->H b=some o ->H' b=some o
theorem SR.trans {d:Addr}{H H1 H2:Hp}(a:SR d H H1)(b:SR d H1 H2):SR d H H2:=λc o n h=>b c o n (a c o n h)
def bo (H H':Hp):Prop:= ∀b xs,Rd H b (.tup xs) ->Rd H' b (.tup xs)
theorem bo.refl (H:Hp):bo H H:=λ_ _ h=>h
theorem bo.trans {H H1 H2:Hp}(a:bo H H1)(b:bo H1 H2):bo H H2:=λc o h=>b c o (a c o h)
theorem eg.ts {H H':Hp}(a:eg H H'):bo H H':=λb xs h=>by
 rcases h with h | ⟨o,h⟩
 ·exact .inl (a _ _ h)
 ·exact .inr ⟨o,a _ _ h⟩
inductive Rc (K:PySem.W.Frag)(H:Hp):V ->Value ->Prop where
 | of {x:V} {t:Value} (h:nq K H x t):Rc K H x t
 | tup {a:Addr} {xs:List V} (h:iS K H a xs):Rc K H (.ref a) (.type "tuple")
 | lst {a:Addr} {xs:List V} (h:f6 K H a xs):Rc K H (.ref a) (.type "list")
section
variable {X:Cx}
def O3 (K:PySem.W.Frag):List V ->Hp ->VK ->Prop:=λxs H Q=> ∃x T t b,xs= [x, .ty T] /\ Rc K H x t /\ PySem.W.kitOne K t (.type T)=some b /\ Q (.bl b) H
theorem iP:gw X (.builtin "isinstance") (O3 X.K):=by
 intro pins s σ H xs us Q I r h;obtain⟨x,T,t,b,rfl,ty,e,q⟩:=h;obtain⟨u,w',rfl,ru,sN⟩:=vals2 r;cases sN;cases ty with
 | of ty=>exact AW I ru ty e λtk=>⟨.bl b,H,I.tok tk,rfl,q⟩
 | tup hs=>cases ru;obtain⟨its,rv,⟨o,h1,h2,_⟩,_⟩:=I.tuple hs;exact cD PySem.W.kitx_tuple I.nZ ⟨o,h1,h2⟩ e (λz=>nomatch z) λtk=>⟨.bl b,H,I.tok tk,rfl,q⟩
 | lst hs=>cases ru;obtain⟨its,rv,ht,_⟩:=I.list hs;obtain⟨o,h1,h2,_⟩:=ht.isList;exact cD PySem.W.kitx_list I.nZ ⟨o,h1,h2⟩ e (λz=>nomatch z) λtk=>⟨.bl b,H,I.tok tk,rfl,q⟩
end
end L2
namespace L2
open PySem PyProof.Rows PyProof.V PySem.Calls PySem.Spec
def ExcAt (a C:Addr)(h:Heap):Prop:= ∃o,h.get? a=some o /\ o.cls= .ref C
end L2
namespace WL
open PySem L2
set_option genInjectivity true in
inductive W where
 | v (x:V) | tup (l:List W)
set_option genInjectivity true in
inductive MO where
 | lst (l:List W) | dK (kvs:List (Key×W)) | ins (C dx:Addr) (fs:List (Str×W)) | exc (C:Addr) | fz (o:Obj) (ks:List (Key×V)) (kvs:List (Key×W))
abbrev Mp:=Addr ->Option MO
abbrev dm:=List (Option W)
abbrev WK:=W ->Mp ->Prop
abbrev WE:=dm ->Mp ->WK ->Prop
abbrev WT:=dm ->Mp ->(Bool ->Mp ->Prop) ->Prop
abbrev WA:=dm ->Mp ->(List W ->Mp ->Prop) ->Prop
abbrev WG:=W ->dm ->Mp ->(dm ->Mp ->Prop) ->Prop
abbrev HQ:=List W ->dm ->Mp ->(dm ->Mp ->Prop) ->Prop
abbrev wD:=W ->W ->Mp ->WK ->Prop
abbrev Aj:=List W ->Mp ->WK ->Prop
abbrev WI:=dm ->Mp ->(List W ->(Mp ->Prop) ->Mp ->Prop) ->Prop
structure iR where
 nx:dm ->Mp ->Prop
 rt:WK
 bk:dm ->Mp ->Prop:=λ_ _=>False
 ct:dm ->Mp ->Prop:=λ_ _=>False
abbrev WS:=iR ->dm ->Mp ->Prop
@[reducible] def wi (i:Int):W:= .v (.int i)
@[reducible] def wb (b:Bool):W:= .v (.bl b)
@[reducible] def wr (a:Addr):W:= .v (.ref a)
@[reducible] def ws (x:Str):W:= .v (.str x)
@[reducible] def wn:W:= .v .dB
def um (M:Mp)(a:Addr)(o:MO):Mp:=λb=>if b=a then some o else M b
theorem um_same {M:Mp}{a:Addr}{o:MO}:um M a o a=some o:=by unfold um;rw[ak rfl]
theorem aJ {M:Mp}{a b:Addr}{o:MO}(h:b≠a):um M a o b=M b:=by unfold um;rw[aj h]
theorem um_um {M:Mp}{a:Addr}{o u:MO}:um (um M a o) a u=um M a u:=by funext b;unfold um;split<;>rfl
theorem dw {M:Mp}{a b:Addr}{o:MO}(h:M a=some o)(h':M b=none):a≠b:=by intro e;subst e;rw[h] at h';cases h'
def Sm (M M':Mp):Prop:= ∀b o,M b=some o ->M' b=some o
theorem Sm.refl (M:Mp):Sm M M:=λ_ _ h=>h
theorem Sm.trans {M M1 M2:Mp}(a:Sm M M1)(b:Sm M1 M2):Sm M M2:=λc o h=>b c o (a c o h)
theorem c4 {M:Mp}{p:Addr}{o:MO}(h:M p=none):Sm M (um M p o):=λb u e=>by rw[aJ (dw e h)];exact e
theorem Sm.um {M M':Mp}{p:Addr}{o:MO}(a:Sm M M')(h:M p=none):Sm M (um M' p o):=λb u e=>by rw[aJ (dw e h)];exact a b u e
mutual
def WR (K:PySem.W.Frag)(H:Hp):W ->V ->Prop
 | .v x,v=>v=x
 | .tup l,v=> ∃a vs,v= .ref a /\ iS K H a vs /\ cF K H l vs
def cF (K:PySem.W.Frag)(H:Hp):List W ->List V ->Prop
 | [],vs=>vs= []
 | x::r,vs=> ∃v t,vs=v::t /\ WR K H x v /\ cF K H r t
end
mutual
theorem WR.ts {K:PySem.W.Frag}{H H':Hp}(a:bo H H'): ∀ (x:W) (v:V),WR K H x v ->WR K H' x v
 | .v x,v,h=>by simp only[WR] at h ⊢;exact h
 | .tup l,v,h=>by simp only[WR] at h ⊢;obtain⟨p,vs,e,hs,hr⟩:=h;exact⟨p,vs,e,Un.Xt a hs,cF.ts a l vs hr⟩
theorem cF.ts {K:PySem.W.Frag}{H H':Hp}(a:bo H H'): ∀ (l:List W) (vs:List V),cF K H l vs ->cF K H' l vs
 | [],vs,h=>by simp only[cF] at h ⊢;exact h
 | x::r,vs,h=>by simp only[cF] at h ⊢;obtain⟨v,t,e,h1,h2⟩:=h;exact⟨v,t,e,WR.ts a x v h1,cF.ts a r t h2⟩
end
theorem cF.length {K:PySem.W.Frag}{H:Hp}: ∀ {l:List W} {vs:List V},cF K H l vs ->vs.length=l.length
 | [],_,h=>by simp only[cF] at h;subst h;rfl
 | d::r,vs,h=>by simp only[cF] at h;obtain⟨v,t,rfl,_,h⟩:=h;simp[cF.length h]
theorem cF.at {K:PySem.W.Frag}{H:Hp}: ∀ {l:List W} {vs:List V} {j:Nat} {d:W},cF K H l vs ->l[j]? =some d -> ∃v,vs[j]? =some v /\ WR K H d v
 | [],_,_,_,_,e=>by simp at e
 | d::r,vs,j,d',h,e=>by
  simp only[cF] at h;obtain⟨v,t,rfl,h1,h⟩:=h;cases j with
  | zero=>simp at e;subst e;exact⟨v,rfl,h1⟩
  | succ j=>simpa using cF.at (j:=j) h (by simpa using e)
theorem cF.mk {K:PySem.W.Frag}{H:Hp}: ∀ {l:List W} {vs:List V},vs.length=l.length ->(∀ (j:Nat) d v,l[j]? =some d ->vs[j]? =some v ->WR K H d v) ->cF K H l vs
 | [],vs,h,_=>by simp only[cF];exact cI.mp h
 | d::r,[],h,_=>by simp at h
 | d::r,v::vs,h,k=>by simp only[cF];exact⟨v,vs,rfl,k 0 d v rfl rfl,cF.mk (by simpa using h) λj x u e1 e2=>k (j+1) x u (by simpa using e1) (by simpa using e2)⟩
theorem cF.back {K:PySem.W.Frag}{H:Hp}{l:List W}{vs:List V}{j:Nat}{v:V}(h:cF K H l vs)(e:vs[j]? =some v): ∃d,l[j]? =some d /\ WR K H d v:=by
 have hl:=h.length;have hj:j<l.length:=by have:=(ag.mp e).1;lia
 obtain⟨u,hu,r⟩:=h.at (j:=j) (d:=l[j]) (ae hj);rw[e] at hu;cases hu;exact⟨_,ae hj,r⟩
theorem cF.snoc {K:PySem.W.Frag}{H:Hp}{l:List W}{vs:List V}{d:W}{v:V}(h:cF K H l vs)(hr:WR K H d v):cF K H (l++ [d]) (vs++ [v]):=by
 have hl:=h.length;refine cF.mk (by simp[hl]) λj x u e1 e2=> ?_;by_cases hj:j<l.length
 ·rw[a9 hj] at e1;rw[a9 (by lia)] at e2;obtain⟨w,hw,r⟩:=h.at e1;rw[e2] at hw;cases hw;exact r
 ·rw[aU (by lia)] at e1;rw[aU (by lia),hl] at e2;cases hk:j - l.length with
  | zero=>rw[hk] at e1 e2;simp at e1 e2;subst e1 e2;exact hr
  | succ k=>rw[hk] at e1;simp at e1
theorem cF.append {K:PySem.W.Frag}{H:Hp}{l m:List W}{vs us:List V}(h:cF K H l vs)(h':cF K H m us):cF K H (l++m) (vs++us):=by
 have hl:=h.length;have pK:=h'.length;refine cF.mk (by simp[hl,pK]) λj x u e1 e2=> ?_;by_cases hj:j<l.length
 ·rw[a9 hj] at e1;rw[a9 (by lia)] at e2;obtain⟨w,hw,r⟩:=h.at e1;rw[e2] at hw;cases hw;exact r
 ·rw[aU (by lia)] at e1;rw[aU (by lia),hl] at e2;obtain⟨w,hw,r⟩:=h'.at e1;rw[e2] at hw;cases hw;exact r
theorem cF.drop {K:PySem.W.Frag}{H:Hp}{l:List W}{vs:List V}(n:Nat)(h:cF K H l vs):cF K H (l.drop n) (vs.drop n):=by refine cF.mk (by simp[h.length]) λj x u e1 e2=> ?_;rw[List.getElem?_drop] at e1 e2;obtain⟨w,hw,r⟩:=h.at e1;rw[e2] at hw;cases hw;exact r
theorem cF.take {K:PySem.W.Frag}{H:Hp}{l:List W}{vs:List V}(n:Nat)(h:cF K H l vs):cF K H (l.take n) (vs.take n):=by
 refine cF.mk (by simp[h.length]) λj x u e1 e2=> ?_;rw[List.getElem?_take] at e1 e2;split at e1
 ·rename_i hj;rw[ak hj] at e2;obtain⟨w,hw,r⟩:=h.at e1;rw[e2] at hw;cases hw;exact r
 ·cases e1
theorem cF.set {K:PySem.W.Frag}{H:Hp}{l:List W}{vs:List V}(n:Nat){d:W}{v:V}(h:cF K H l vs)(hr:WR K H d v):cF K H (l.set n d) (vs.set n v):=by
 have hl:=h.length;refine cF.mk (by simp[h.length]) λj x u e1 e2=> ?_;rw[List.getElem?_set] at e1 e2;split at e1
 ·rename_i hj;rw[ak hj] at e2;split at e1
  ·split at e2
   ·cases e1;cases e2;exact hr
   ·cases e2
  ·cases e1
 ·rename_i hj;rw[aj hj] at e2;obtain⟨w,hw,r⟩:=h.at e1;rw[e2] at hw;cases hw;exact r
theorem cF.nil {K:PySem.W.Frag}{H:Hp}:cF K H [] []:=by simp only[cF]
theorem cF.cons {K:PySem.W.Frag}{H:Hp}{x:W}{v:V}{l:List W}{vs:List V}(h:WR K H x v)(r:cF K H l vs):cF K H (x::l) (v::vs):=by simp only[cF];exact⟨v,vs,rfl,h,r⟩
theorem WR.v {K:PySem.W.Frag}{H:Hp}{x:V}:WR K H (.v x) x:=by simp only[WR]
theorem WR.eq {K:PySem.W.Frag}{H:Hp}{x v:V}(h:WR K H (.v x) v):v=x:=by simpa only[WR] using h
theorem WR.tup {K:PySem.W.Frag}{H:Hp}{l:List W}{v:V}(h:WR K H (.tup l) v): ∃a vs,v= .ref a /\ iS K H a vs /\ cF K H l vs:=by simpa only[WR] using h
theorem WR.Nm {K:PySem.W.Frag}{H:Hp}{l:List W}{a:Addr}{vs:List V}(h:iS K H a vs)(r:cF K H l vs):WR K H (.tup l) (.ref a):=by simp only[WR];exact⟨a,vs,rfl,h,r⟩
def KR (K:PySem.W.Frag)(H:Hp){κ:Type}:List (κ×W) ->List (κ×V) ->Prop:=Paired λp q=>p.1=q.1 /\ WR K H p.2 q.2
theorem KR.ts {K:PySem.W.Frag}{H H':Hp}{κ:Type}(a:bo H H'): ∀ {l:List (κ×W)} {vs:List (κ×V)},KR K H l vs ->KR K H' l vs
 | _,_, .nil=> .nil
 | _,_, .cons ⟨e,r⟩ t=> .cons ⟨e,r.ts a⟩ (KR.ts a t)
def MR (K:PySem.W.Frag)(H:Hp)(a:Addr):MO ->Prop
 | .lst l=> ∃vs,H a=some (.lst vs) /\ cF K H l vs
 | .dK kvs=> ∃ks,H a=some (.dK ks) /\ KR K H kvs ks
 | .ins C dx fs=> ∃ks,H a=some (.ins C dx ks) /\ KR K H fs ks
 | .exc C=>H a=some (.ext (ExcAt a C))
 | .fz o ks kvs=>H a=some (.kR o (.dK ks)) /\ KR K H kvs ks
theorem MR.some {K:PySem.W.Frag}{H:Hp}{a:Addr}{o:MO}(h:MR K H a o): ∃u,H a=some u:=by
 cases o with
 | lst l=>obtain⟨_,e,_⟩:=h;exact⟨_,e⟩
 | dK l=>obtain⟨_,e,_⟩:=h;exact⟨_,e⟩
 | ins C d l=>obtain⟨_,e,_⟩:=h;exact⟨_,e⟩
 | exc C=>exact⟨_,h⟩
 | fz o l l2=>exact⟨_,h.1⟩
theorem MR.mv {K:PySem.W.Frag}{H H':Hp}{a:Addr}{o:MO}(t:bo H H')(e:H' a=H a)(h:MR K H a o):MR K H' a o:=by
 cases o with
 | lst l=>obtain⟨vs,e1,r⟩:=h;exact⟨vs,e.trans e1,r.ts t⟩
 | dK l=>obtain⟨vs,e1,r⟩:=h;exact⟨vs,e.trans e1,r.ts t⟩
 | ins C d l=>obtain⟨vs,e1,r⟩:=h;exact⟨vs,e.trans e1,r.ts t⟩
 | exc C=>exact e.trans h
 | fz o l l2=>exact⟨e.trans h.1,h.2.ts t⟩
def fQ (K:PySem.W.Frag)(M:Mp)(H:Hp):Prop:= ∀a o,M a=some o ->MR K H a o
theorem fQ.fresh {K:PySem.W.Frag}{M:Mp}{H:Hp}(h:fQ K M H){p:Addr}(hp:H p=none):M p=none:=by
 cases e:M p with
 | none=>rfl
 | some o=>obtain⟨u,hu⟩:=(h p o e).some;rw[hp] at hu;cases hu
theorem fQ.new {K:PySem.W.Frag}{M:Mp}{H:Hp}(h:fQ K M H){p:Addr}{u:HO}(hp:H p=none):fQ K M (upd H p u):=λa o e=>by have:=h a o e;obtain⟨w,hw⟩:=this.some;exact this.mv (L2.eg.ts (b8 hp)) (bC (dc hw hp))
theorem yr {H:Hp}{a:Addr}{o u:HO}(h:H a=some o)(hn: ∀xs,o≠ .tup xs)(hf: ∀b xs,o≠ .kR b (.tup xs)):bo H (upd H a u):=λb xs r=>by
 have nb:b≠a:=λe=>by
  subst e;rcases r with r | ⟨w,r⟩
  ·rw[h] at r;cases r;exact hn _ rfl
  ·rw[h] at r;cases r;exact hf _ _ rfl
 unfold Rd;rw[bC nb];exact r
theorem fQ.put {K:PySem.W.Frag}{M:Mp}{H:Hp}(h:fQ K M H){a:Addr}{o:MO}{u:HO}(t:bo H (upd H a u))(new:MR K (upd H a u) a o):fQ K (um M a o) (upd H a u):=λb x e=>by
 by_cases hb:b=a
 ·subst hb;rw[um_same] at e;cases e;exact new
 ·rw[aJ hb] at e;exact(h b x e).mv t (bC hb)
theorem fQ.nY {K:PySem.W.Frag}{M:Mp}{H:Hp}(h:fQ K M H){p:Addr}{l:List W}{vs:List V}(hp:H p=none)(r:cF K H l vs):fQ K (um M p (.lst l)) (upd H p (.lst vs)):=h.put (L2.eg.ts (b8 hp)) ⟨vs,bU,r.ts (L2.eg.ts (b8 hp))⟩
theorem kD {H:Hp}{a:Addr}{xs:List V}{u:HO}(h:H a=some (.lst xs)):bo H (upd H a u):=yr h (λ_ z=>nomatch z) λ_ _ z=>nomatch z
theorem lg {H:Hp}{a:Addr}{xs:List (Key×V)}{u:HO}(h:H a=some (.dK xs)):bo H (upd H a u):=yr h (λ_ z=>nomatch z) λ_ _ z=>nomatch z
theorem KA {H:Hp}{a C d:Addr}{xs:List (Str×V)}{u:HO}(h:H a=some (.ins C d xs)):bo H (upd H a u):=yr h (λ_ z=>nomatch z) λ_ _ z=>nomatch z
theorem fQ.putL {K:PySem.W.Frag}{M:Mp}{H:Hp}(h:fQ K M H){a:Addr}{xs:List V}{l:List W}{vs:List V}(e:H a=some (.lst xs))(r:cF K H l vs):fQ K (um M a (.lst l)) (upd H a (.lst vs)):=h.put (kD e) ⟨vs,bU,r.ts (kD e)⟩
theorem fQ.putD {K:PySem.W.Frag}{M:Mp}{H:Hp}(h:fQ K M H){a:Addr}{xs:List (Key×V)}{l:List (Key×W)}{vs:List (Key×V)}(e:H a=some (.dK xs))(r:KR K H l vs):fQ K (um M a (.dK l)) (upd H a (.dK vs)):=h.put (lg e) ⟨vs,bU,KR.ts (lg e) r⟩
def F4 (K:PySem.W.Frag)(H:Hp)(ρ:dm)(σ:St):Prop:=ρ.length=σ.length /\ ∀ (i:Nat) x,ρ[i]? =some (some x) -> ∃v,σ[i]? =some (some v) /\ WR K H x v
theorem F4.ts {K:PySem.W.Frag}{H H':Hp}{ρ:dm}{σ:St}(t:bo H H')(h:F4 K H ρ σ):F4 K H' ρ σ:=⟨h.1,λi x e=>let ⟨v,a,r⟩:=h.2 i x e;⟨v,a,r.ts t⟩⟩
structure Ok (K:PySem.W.Frag)(ρ:dm)(M:Mp)(σ:St)(H:Hp):Prop where
 env:F4 K H ρ σ
 hp:fQ K M H
theorem Ok.mv {K:PySem.W.Frag}{ρ:dm}{M M':Mp}{σ:St}{H H':Hp}(o:Ok K ρ M σ H)(t:bo H H')(m:fQ K M' H'):Ok K ρ M' σ H':=⟨o.env.ts t,m⟩
theorem F4.set {K:PySem.W.Frag}{H:Hp}{ρ:dm}{σ:St}(h:F4 K H ρ σ)(i:Nat){x:W}{v:V}(r:WR K H x v):F4 K H (ρ.set i (some x)) (σ.set i (some v)):=by
 refine⟨by simp[h.1],λj y e=> ?_⟩;rw[List.getElem?_set] at e ⊢;split at e
 ·rename_i hj;rw[ak hj];split at e
  ·rename_i eX;rw[ak (by rw[<- h.1];exact eX)];cases e;exact⟨v,rfl,r⟩
  ·cases e
 ·rename_i hj;rw[aj hj];exact h.2 j y e
section
variable (K:PySem.W.Frag)
class IE (t:TE) (w:outParam WE):Prop where
 imp: ∀ (ρ:dm) (M:Mp) (σ:St) (H:Hp) (q:WK) (Q:VK),Ok K ρ M σ H ->w ρ M q ->(∀x M' v H',q x M' ->bo H H' ->fQ K M' H' ->WR K H' x v ->Q v H') ->t σ H Q
class IT (t:TT) (w:outParam WT):Prop where
 imp: ∀ (ρ:dm) (M:Mp) (σ:St) (H:Hp) (q:Bool ->Mp ->Prop) (Q:Bool ->Hp ->Prop),Ok K ρ M σ H ->w ρ M q ->(∀b M' H',q b M' ->bo H H' ->fQ K M' H' ->Q b H') ->t σ H Q
class IA (t:TA) (w:outParam WA):Prop where
 imp: ∀ (ρ:dm) (M:Mp) (σ:St) (H:Hp) (q:List W ->Mp ->Prop) (Q:List V ->Hp ->Prop),Ok K ρ M σ H ->w ρ M q ->(∀x M' v H',q x M' ->bo H H' ->fQ K M' H' ->cF K H' x v ->Q v H') ->t σ H Q
class IG (t:TG) (w:outParam WG):Prop where
 imp: ∀ (x:W) (v:V) (ρ:dm) (M:Mp) (σ:St) (H:Hp) (q:dm ->Mp ->Prop) (Q:St ->Hp ->Prop),Ok K ρ M σ H ->WR K H x v ->w x ρ M q ->(∀ρ' M' σ' H',q ρ' M' ->bo H H' ->Ok K ρ' M' σ' H' ->Q σ' H') ->t v σ H Q
class SO (t:F5) (w:outParam HQ):Prop where
 imp: ∀ (x:List W) (v:List V) (ρ:dm) (M:Mp) (σ:St) (H:Hp) (q:dm ->Mp ->Prop) (Q:St ->Hp ->Prop),Ok K ρ M σ H ->cF K H x v ->w x ρ M q ->(∀ρ' M' σ' H',q ρ' M' ->bo H H' ->Ok K ρ' M' σ' H' ->Q σ' H') ->t v σ H Q
structure ui (H:Hp)(D':iR)(D:Ends):Prop where
 nx: ∀ρ' M' σ' H',D'.nx ρ' M' ->bo H H' ->Ok K ρ' M' σ' H' ->D.nx σ' H'
 rt: ∀x M' v H',D'.rt x M' ->bo H H' ->fQ K M' H' ->WR K H' x v ->D.rt v H'
 bk: ∀ρ' M' σ' H',D'.bk ρ' M' ->bo H H' ->Ok K ρ' M' σ' H' ->D.bk σ' H'
 ct: ∀ρ' M' σ' H',D'.ct ρ' M' ->bo H H' ->Ok K ρ' M' σ' H' ->D.ct σ' H'
class IS (t:TS) (w:outParam WS):Prop where
 imp: ∀ (ρ:dm) (M:Mp) (σ:St) (H:Hp) (D':iR) (D:Ends),Ok K ρ M σ H ->w D' ρ M ->ui K H D' D ->t D σ H
class IR (r:R2) (w:outParam wD):Prop where
 imp: ∀ (x y:W) (v u:V) (M:Mp) (H:Hp) (q:WK) (Q:VK),fQ K M H ->WR K H x v ->WR K H y u ->w x y M q ->(∀x M' v H',q x M' ->bo H H' ->fQ K M' H' ->WR K H' x v ->Q v H') ->r v u H Q
class IU (r:V ->Hp ->VK ->Prop) (w:outParam (W ->Mp ->WK ->Prop)):Prop where
 imp: ∀ (x:W) (v:V) (M:Mp) (H:Hp) (q:WK) (Q:VK),fQ K M H ->WR K H x v ->w x M q ->(∀x M' v H',q x M' ->bo H H' ->fQ K M' H' ->WR K H' x v ->Q v H') ->r v H Q
class IC (r:List V ->Hp ->VK ->Prop) (w:outParam Aj):Prop where
 imp: ∀ (x:List W) (v:List V) (M:Mp) (H:Hp) (q:WK) (Q:VK),fQ K M H ->cF K H x v ->w x M q ->(∀x M' v H',q x M' ->bo H H' ->fQ K M' H' ->WR K H' x v ->Q v H') ->r v H Q
end
theorem ui.mv {K:PySem.W.Frag}{H H':Hp}{D':iR}{D:Ends}(e:ui K H D' D)(t:bo H H'):ui K H' D' D:=⟨λa b c d h s=>e.nx a b c d h (t.trans s),λa b c d h s=>e.rt a b c d h (t.trans s),λa b c d h s=>e.bk a b c d h (t.trans s),λa b c d h s=>e.ct a b c d h (t.trans s)⟩
end WL
namespace WL
open PySem L2
section
variable {K:PySem.W.Frag}
def fR (i:Nat):WE:=λρ M q=>match ρ[i]? with
 | some (some x)=>q x M
 | _=>False
theorem Km {i:Nat}{ρ:dm}{M:Mp}{q:WK}(h:fR i ρ M q): ∃x,ρ[i]? =some (some x) /\ q x M:=by
 unfold fR at h;split at h
 ·rename_i x e;exact⟨x,e,h⟩
 ·exact h.elim
instance {i:Nat}:IE K (Gj i) (fR i) where
 imp:=λρ M σ H q Q o h k=>let ⟨x,e,h⟩:=Km h;let ⟨v,e',r⟩:=o.env.2 i x e;⟨v,e',k x M v H h (bo.refl H) o.hp r⟩
def wC (x:W):WE:=λ_ M q=>q x M
instance {v:V}:IE K (tC v) (wC (.v v)) where
 imp:=λρ M σ H q Q o h k=>k (.v v) M v H h (bo.refl H) o.hp WR.v
def Xd (r:wD)(a b:WE):WE:=λρ M q=>a ρ M λx M1=>b ρ M1 λy M2=>r x y M2 q
instance {r:R2}{w:wD}{ta tb:TE}{a b:WE} [ir:IR K r w] [ia:IE K ta a] [ib:IE K tb b]:IE K (Oz r ta tb) (Xd w a b) where
 imp:=λρ M σ H q Q o h k=>ia.imp ρ M σ H _ _ o h λx M1 v H1 h1 t1 m1 r1=>ib.imp ρ M1 σ H1 _ _ (o.mv t1 m1) h1 λy M2 u H2 h2 t2 m2 r2=>ir.imp x y v u M2 H2 _ _ m2 (r1.ts t2) r2 h2 λz M3 v3 H3 h3 t3 m3 r3=>k z M3 v3 H3 h3 ((t1.trans t2).trans t3) m3 r3
def Xa (r:W ->Mp ->WK ->Prop)(a:WE):WE:=λρ M q=>a ρ M λx M1=>r x M1 q
instance {r:V ->Hp ->VK ->Prop}{w:W ->Mp ->WK ->Prop}{ta:TE}{a:WE} [ir:IU K r w] [ia:IE K ta a]:IE K (Xn r ta) (Xa w a) where
 imp:=λρ M σ H q Q o h k=>ia.imp ρ M σ H _ _ o h λx M1 v H1 h1 t1 m1 r1=>ir.imp x v M1 H1 _ _ m1 r1 h1 λz M3 v3 H3 h3 t3 m3 r3=>k z M3 v3 H3 h3 (t1.trans t3) m3 r3
def wI (C:Int ->Int ->Prop)(g:Int ->Int ->V):wD:=λx y M q=> ∃i j,x=wi i /\ y=wi j /\ C i j /\ q (.v (g i j)) M
def Xf (g:Int ->Int ->V):wD:=λx y M q=> ∃i j,x=wi i /\ y=wi j /\ q (.v (g i j)) M
def wU (g:Int ->V):W ->Mp ->WK ->Prop:=λx M q=> ∃i,x=wi i /\ q (.v (g i)) M
instance {C:Int ->Int ->Prop}{g:Int ->Int ->V}:IR K (rI C g) (wI C g) where
 imp:=by rintro x y v u M H q Q m r1 r2 ⟨i,j,rfl,rfl,c,h⟩ k;exact⟨i,j,r1.eq,r2.eq,c,k _ M _ H h (bo.refl H) m WR.v⟩
instance {g:Int ->Int ->V}:IR K (Jg g) (Xf g) where
 imp:=by rintro x y v u M H q Q m r1 r2 ⟨i,j,rfl,rfl,h⟩ k;exact⟨i,j,r1.eq,r2.eq,k _ M _ H h (bo.refl H) m WR.v⟩
instance {g:Int ->V}:IU K (rU g) (wU g) where
 imp:=by rintro x v M H q Q m r1 ⟨i,rfl,h⟩ k;exact⟨i,r1.eq,k _ M _ H h (bo.refl H) m WR.v⟩
def Xg:wD:=λx y M q=> ∃a b,x= .v a /\ y= .v b /\ Gp a b=true /\ q (wb (decide (a=b))) M
def Xe:wD:=λx y M q=> ∃a b,x= .v a /\ y= .v b /\ Gp a b=true /\ q (wb (!decide (a=b))) M
instance:IR K XB Xg where
 imp:=by rintro x y v u M H q Q m r1 r2 ⟨i,j,rfl,rfl,c,h⟩ k;cases r1.eq;cases r2.eq;exact⟨c,k _ M _ H h (bo.refl H) m WR.v⟩
instance:IR K XA Xe where
 imp:=by rintro x y v u M H q Q m r1 r2 ⟨i,j,rfl,rfl,c,h⟩ k;cases r1.eq;cases r2.eq;exact⟨c,k _ M _ H h (bo.refl H) m WR.v⟩
def B0 (a:WE):WT:=λρ M q=>a ρ M λx M1=> ∃k,x=wb k /\ q k M1
instance {t:TE}{a:WE} [ia:IE K t a]:IT K (Cw t) (B0 a) where
 imp:=λρ M σ H q Q o h k=>ia.imp ρ M σ H _ _ o h λx M1 v H1 ⟨b,e,h1⟩ t1 m1 r1=>by subst e;exact⟨b,r1.eq,k b M1 H1 h1 t1 m1⟩
instance {t:TE}{a:WE} [ia:IE K t a]:IT K (tB t) (B0 a) where
 imp:=λρ M σ H q Q o h k=>ia.imp ρ M σ H _ _ o h λx M1 v H1 ⟨b,e,h1⟩ t1 m1 r1=>by subst e;exact⟨b,r1.eq,k b M1 H1 h1 t1 m1⟩
def Oc (a b:WT):WT:=λρ M q=>a ρ M λc M1=>if c=true then b ρ M1 q else q false M1
def Xc (a b:WT):WT:=λρ M q=>a ρ M λc M1=>if c=true then q true M1 else b ρ M1 q
def N4 (a:WT):WT:=λρ M q=>a ρ M λc M1=>q (!c) M1
instance {t u:TT}{a b:WT} [ia:IT K t a] [ib:IT K u b]:IT K (OE t u) (Oc a b) where
 imp:=λρ M σ H q Q o h k=>ia.imp ρ M σ H _ _ o h λc M1 H1 h1 t1 m1=>by
  cases c with
  | true=>simp only[bN] at h1 ⊢;exact ib.imp ρ M1 σ H1 _ _ (o.mv t1 m1) h1 λb M2 H2 h2 t2 m2=>k b M2 H2 h2 (t1.trans t2) m2
  | false=>simp only[ay,bf] at h1 ⊢;exact k _ M1 H1 h1 t1 m1
instance {t u:TT}{a b:WT} [ia:IT K t a] [ib:IT K u b]:IT K (Xp t u) (Xc a b) where
 imp:=λρ M σ H q Q o h k=>ia.imp ρ M σ H _ _ o h λc M1 H1 h1 t1 m1=>by
  cases c with
  | false=>simp only[ay,bf] at h1 ⊢;exact ib.imp ρ M1 σ H1 _ _ (o.mv t1 m1) h1 λb M2 H2 h2 t2 m2=>k b M2 H2 h2 (t1.trans t2) m2
  | true=>simp only[bN] at h1 ⊢;exact k _ M1 H1 h1 t1 m1
instance {t:TT}{a:WT} [ia:IT K t a]:IT K (OA t) (N4 a) where
 imp:=λρ M σ H q Q o h k=>ia.imp ρ M σ H _ _ o h λc M1 H1 h1 t1 m1=>k _ M1 H1 h1 t1 m1
def Ip (a b:WE):WE:=λρ M q=>a ρ M λx M1=> ∃c,x=wb c /\ if c=true then b ρ M1 q else q (wb false) M1
def Ii (a:WE):WE:=λρ M q=>a ρ M λx M1=> ∃c,x=wb c /\ q (wb (!c)) M1
instance {t u:TE}{a b:WE} [ia:IE K t a] [ib:IE K u b]:IE K (IK t u) (Ip a b) where
 imp:=λρ M σ H q Q o h k=>ia.imp ρ M σ H _ _ o h λx M1 v H1 ⟨c,e,h1⟩ t1 m1 r1=>by
  subst e;refine⟨c,r1.eq,?_⟩;cases c with
  | true=>simp only[bN] at h1 ⊢;exact ib.imp ρ M1 σ H1 _ _ (o.mv t1 m1) h1 λb M2 v H2 h2 t2 m2 r2=>k b M2 v H2 h2 (t1.trans t2) m2 r2
  | false=>simp only[ay,bf] at h1 ⊢;exact k _ M1 _ H1 h1 t1 m1 WR.v
instance {t:TE}{a:WE} [ia:IE K t a]:IE K (Iy t) (Ii a) where
 imp:=λρ M σ H q Q o h k=>ia.imp ρ M σ H _ _ o h λx M1 v H1 ⟨c,e,h1⟩ t1 m1 r1=>by subst e;exact⟨c,r1.eq,k _ M1 _ H1 h1 t1 m1 WR.v⟩
def Cj (r r':wD)(a b c:WE):WE:=λρ M q=>a ρ M λx M1=>b ρ M1 λy M2=>r x y M2 λz M3=> ∃k,z=wb k /\ if k=true then c ρ M3 λy' M4=>r' y y' M4 λz' M5=>q z' M5 else q (wb false) M3
def N5:WA:=λ_ M q=>q [] M
def Il (a:WE)(r:WA):WA:=λρ M q=>a ρ M λx M1=>r ρ M1 λxs M2=>q (x::xs) M2
instance:IA K KL N5 where
 imp:=λρ M σ H q Q o h k=>k [] M [] H h (bo.refl H) o.hp cF.nil
instance {t:TE}{u:TA}{a:WE}{b:WA} [ia:IE K t a] [ib:IA K u b]:IA K (CG t u) (Il a b) where
 imp:=λρ M σ H q Q o h k=>ia.imp ρ M σ H _ _ o h λx M1 v H1 h1 t1 m1 r1=>ib.imp ρ M1 σ H1 _ _ (o.mv t1 m1) h1 λy M2 u H2 h2 t2 m2 r2=>k _ M2 _ H2 h2 (t1.trans t2) m2 (cF.cons (r1.ts t2) r2)
def NY (a:WA):WE:=λρ M q=>a ρ M λxs M1=>xs.length<=sizeLine /\ q (.tup xs) M1
def N6 (a:WA):WE:=λρ M q=>a ρ M λxs M1=>xs.length<=sizeLine /\ ∀p,M1 p=none ->q (wr p) (um M1 p (.lst xs))
instance {t:TA}{a:WA} [ia:IA K t a]:IE K (Ox t) (NY a) where
 imp:=λρ M σ H q Q o h k=>ia.imp ρ M σ H _ _ o h λx M1 v H1 ⟨hl,h1⟩ t1 m1 r1=>⟨by rw[r1.length];exact hl,λp hp=>k _ M1 _ _ h1 (t1.trans (L2.eg.ts (b8 hp))) (m1.new hp) (WR.Nm (iS.of bU) (r1.ts (L2.eg.ts (b8 hp))))⟩
instance {t:TA}{a:WA} [ia:IA K t a]:IE K (OB t) (N6 a) where
 imp:=λρ M σ H q Q o h k=>ia.imp ρ M σ H _ _ o h λx M1 v H1 ⟨hl,h1⟩ t1 m1 r1=>⟨by rw[r1.length];exact hl,λp hp=>k _ _ _ _ (h1 p (m1.fresh hp)) (t1.trans (L2.eg.ts (b8 hp))) (m1.nY hp r1) WR.v⟩
def N8:wD:=λx y M q=> ∃a l i u,x=wr a /\ y=wi i /\ M a=some (.lst l) /\ kj l i=some u /\ q u M
def N7:wD:=λx y M q=> ∃l i u,x= .tup l /\ y=wi i /\ kj l i=some u /\ q u M
theorem cF.kj {H:Hp}{l:List W}{vs:List V}{i:Int}{u:W}(r:cF K H l vs)(e:kj l i=some u): ∃v,L2.kj vs i=some v /\ WR K H u v:=by
 unfold L2.kj at e ⊢;rw[r.length];cases h:pH l.length i with
 | none=>rw[h] at e;cases e
 | some j=>rw[h] at e;exact r.at e
instance:IR K (O2 K) N8 where
 imp:=by rintro x y v u M H q Q m r1 r2 ⟨a,l,i,z,rfl,rfl,hl,e,h⟩ k;obtain⟨vs,hv,r⟩:=m a _ hl;obtain⟨v',e',r'⟩:=r.kj e;exact⟨a,vs,i,v',r1.eq,r2.eq,f6.of hv,e',k _ M _ H h (bo.refl H) m r'⟩
instance:IR K (O1 K) N7 where
 imp:=by rintro x y v u M H q Q m r1 r2 ⟨l,i,z,rfl,rfl,e,h⟩ k;obtain⟨a,vs,rfl,hv,r⟩:=r1.tup;obtain⟨v',e',r'⟩:=r.kj e;exact⟨a,vs,i,v',rfl,r2.eq,hv,e',k _ M _ H h (bo.refl H) m r'⟩
def yc (xs:List W)(lo hi:Option Int):List W:=(xs.drop (HT.oZ xs.length 0 lo)).take (HT.oZ xs.length xs.length hi - HT.oZ xs.length 0 lo)
theorem cF.cut {H:Hp}{l:List W}{vs:List V}(lo hi:Option Int)(r:cF K H l vs):cF K H (yc l lo hi) (vS vs lo hi):=by unfold yc vS;rw[r.length];exact(r.drop _).take _
end
abbrev WO:=dm ->Mp ->(Option Int ->Mp ->Prop) ->Prop
class IO (K:PySem.W.Frag) (t:TO) (w:outParam WO):Prop where
 imp: ∀ (ρ:dm) (M:Mp) (σ:St) (H:Hp) (q:Option Int ->Mp ->Prop) (Q:Option Int ->Hp ->Prop),Ok K ρ M σ H ->w ρ M q ->(∀b M' H',q b M' ->bo H H' ->fQ K M' H' ->Q b H') ->t σ H Q
abbrev Rb:=W ->Option Int ->Option Int ->Mp ->WK ->Prop
class YU (K:PySem.W.Frag) (r:V ->Option Int ->Option Int ->Hp ->VK ->Prop) (w:outParam Rb):Prop where
 imp: ∀ (x:W) (v:V) (lo hi:Option Int) (M:Mp) (H:Hp) (q:WK) (Q:VK),fQ K M H ->WR K H x v ->w x lo hi M q ->(∀x M' v H',q x M' ->bo H H' ->fQ K M' H' ->WR K H' x v ->Q v H') ->r v lo hi H Q
section
variable {K:PySem.W.Frag}
def yp:WO:=λ_ M q=>q none M
def Ih (a:WE):WO:=λρ M q=>a ρ M λx M1=> ∃i,x=wi i /\ q (some i) M1
instance:IO K yA yp where
 imp:=λρ M σ H q Q o h k=>k _ M H h (bo.refl H) o.hp
instance {t:TE}{a:WE} [ia:IE K t a]:IO K (Iw t) (Ih a) where
 imp:=λρ M σ H q Q o h k=>ia.imp ρ M σ H _ _ o h λx M1 v H1 ⟨i,e,h1⟩ t1 m1 r1=>by subst e;exact⟨i,r1.eq,k _ M1 H1 h1 t1 m1⟩
def Xb (r:Rb)(a:WE)(lo hi:WO):WE:=λρ M q=>a ρ M λx M1=>lo ρ M1 λl M2=>hi ρ M2 λu M3=>r x l u M3 q
instance {r:V ->Option Int ->Option Int ->Hp ->VK ->Prop}{w:Rb}{t:TE}{tl th:TO}{a:WE}{lo hi:WO} [ir:YU K r w] [ia:IE K t a] [il:IO K tl lo] [ih:IO K th hi]:IE K (Xo r t tl th) (Xb w a lo hi) where
 imp:=λρ M σ H q Q o h k=>ia.imp ρ M σ H _ _ o h λx M1 v H1 h1 t1 m1 r1=>il.imp ρ M1 σ H1 _ _ (o.mv t1 m1) h1 λl M2 H2 h2 t2 m2=>ih.imp ρ M2 σ H2 _ _ (o.mv (t1.trans t2) m2) h2 λu M3 H3 h3 t3 m3=>ir.imp x v l u M3 H3 _ _ m3 (r1.ts (t2.trans t3)) h3 λy M4 v4 H4 h4 t4 m4 r4=>k y M4 v4 H4 h4 (((t1.trans t2).trans t3).trans t4) m4 r4
def N1:Rb:=λx lo hi M q=> ∃a l,x=wr a /\ M a=some (.lst l) /\ ∀p,M p=none ->q (wr p) (um M p (.lst (yc l lo hi)))
instance:YU K (OZ K) N1 where
 imp:=by rintro x v lo hi M H q Q m r1 ⟨a,l,rfl,hl,h⟩ k;obtain⟨vs,hv,r⟩:=m a _ hl;exact⟨a,vs,r1.eq,f6.of hv,λp hp=>k _ _ _ _ (h p (m.fresh hp)) (L2.eg.ts (b8 hp)) (m.nY hp (r.cut lo hi)) WR.v⟩
def Xh (r:Aj)(a:WA):WE:=λρ M q=>a ρ M λxs M1=>r xs M1 q
instance {r:List V ->Hp ->VK ->Prop}{w:Aj}{t:TA}{a:WA} [ir:IC K r w] [ia:IA K t a]:IE K (S8 r t) (Xh w a) where
 imp:=λρ M σ H q Q o h k=>ia.imp ρ M σ H _ _ o h λx M1 v H1 h1 t1 m1 r1=>ir.imp x v M1 H1 _ _ m1 r1 h1 λy M4 v4 H4 h4 t4 m4 r4=>k y M4 v4 H4 h4 (t1.trans t4) m4 r4
abbrev kb:=List W ->Mp ->WK ->Prop
def ly (K:PySem.W.Frag)(p:kb):Sp:=λvs H Q _=> ∃ (xs:List W) (M:Mp) (q:WK),cF K H xs vs /\ fQ K M H /\ p xs M q /\ ∀x M' v H',q x M' ->bo H H' ->fQ K M' H' ->WR K H' x v ->Q v H'
def Io (p:kb)(a:WA):WE:=λρ M q=>a ρ M λxs M1=>p xs M1 q
instance {p:kb}{E:XK}{t:TA}{a:WA} [ia:IA K t a]:IE K (yD (ly K p) [] E t) (Io p a) where
 imp:=λρ M σ H q Q o h k=>ia.imp ρ M σ H _ _ o h λx M1 v H1 h1 t1 m1 r1=>⟨x,M1,q,by rw[List.append_nil];exact r1,m1,h1,λy M4 v4 H4 h4 t4 m4 r4=>k y M4 v4 H4 h4 (t1.trans t4) m4 r4⟩
theorem ZF {P:Program}{w:World}{mg:Str ->Option Value}{base:Heap}{x qual:Str}{st:Stmt}{f:Addr}{fd:FuncData}{N ps:List Str}{k:Nat}{p:kb}(F:BR K x qual st f fd)(S:b7 N ps (aQ st))(len: ∀vs M q,p vs M q ->vs.length=ps.length) (l3: ∀ (dQ:Value) (A:Around) (outer:List Env) (s:Shared) (H:Hp) (E:XK),fD k (A.deeper (PyProof.Rows.envOfC qual (aQ st) s.heap.objs.size f dQ)) ->∃t w',wF (eQ iV P w K mg base N qual (aQ st) f dQ A outer s H E).Lr (d3 st) t /\ IS K t w' /\ ∀vs M q,p vs M q ->w' {nx:=λ_ M'=>q wn M',rt:=q} (vs.map some++List.replicate (N.length - vs.length) none) M): dI P w K mg base iV (k+1) f fd ps (ly K p):=by
 refine BR.ok F S (λvs H Q E ⟨xs,M,q,r,m,h,_⟩=>by rw[r.length];exact len xs M q h) λdQ A outer s H vs Q E hr h=> ?_;obtain⟨t,w',h1,h2,h3⟩:=l3 dQ A outer s H E hr;obtain⟨xs,M,q,r,m,h,k'⟩:=h;refine⟨t,h1,h2.imp _ M _ H _ _ ⟨⟨?_,λi x e=> ?_⟩,m⟩ (h3 xs M q h) ⟨λρ' M' σ' H' h ts o=>k' _ M' _ H' h ts o.hp WR.v,λx M' v H' h ts m' r'=>k' x M' v H' h ts m' r',λ_ _ _ _ h=>h.elim,λ_ _ _ _ h=>h.elim⟩⟩
 ·have:=r.length;simp[L2.start,this]
 ·have hl:=r.length;unfold L2.start;by_cases hi:i<xs.length
  ·rw[a9 (by simpa using hi),aA] at e;cases ex:xs[i]? with
   | none=>rw[ex] at e;cases e
   | some y=>rw[ex] at e;cases e;obtain⟨v,hv,rv⟩:=r.at ex;refine⟨v,?_,rv⟩;rw[a9 (by simp;lia),aA,hv];rfl
  ·rw[aU (by simpa using hi),List.getElem?_replicate] at e;split at e<;>cases e
def O0 (K:PySem.W.Frag):List V ->Hp ->VK ->Prop:=λxs H Q=> ∃p ys,xs= [.ref p] /\ (f6 K H p ys \/ iS K H p ys) /\ Q (.int ys.length) H
theorem fB {X:Cx}:gw X (.builtin "len") (O0 X.K):=t7
def Ko:Aj:=λxs M q=>(∃a l,xs= [wr a] /\ M a=some (.lst l) /\ q (wi l.length) M) \/ ∃l,xs= [.tup l] /\ q (wi l.length) M
theorem cF.one {H:Hp}{x:W}{vs:List V}(h:cF K H [x] vs): ∃v,vs= [v] /\ WR K H x v:=by simp only[cF] at h;obtain⟨v,t,rfl,h1,rfl⟩:=h;exact⟨v,rfl,h1⟩
theorem cF.two {H:Hp}{x y:W}{vs:List V}(h:cF K H [x,y] vs): ∃v u,vs= [v,u] /\ WR K H x v /\ WR K H y u:=by simp only[cF] at h;obtain⟨v,t,rfl,h1,u,t',rfl,h2,rfl⟩:=h;exact⟨v,u,rfl,h1,h2⟩
instance:IC K (O0 K) Ko where
 imp :=by
  rintro xs v M H q Q m r1 h k;rcases h with⟨a,l,rfl,hl,h⟩ | ⟨l,rfl,h⟩
  ·obtain⟨v,rfl,r⟩:=r1.one;cases r.eq;obtain⟨vs,hv,rr⟩:=m a _ hl;refine⟨a,vs,rfl, .inl (f6.of hv),k _ M _ H h (bo.refl H) m ?_⟩;rw[rr.length];exact WR.v
  ·obtain⟨v,rfl,r⟩:=r1.one;obtain⟨a,vs,rfl,hv,rr⟩:=r.tup;refine⟨a,vs,rfl, .inr hv,k _ M _ H h (bo.refl H) m ?_⟩;rw[rr.length];exact WR.v
def O7:List V ->Hp ->VK ->Prop:=λxs H Q=> ∃i,xs= [.int i] /\ Q (.int (if i<0 then -i else i)) H
theorem rQ {X:Cx}:gw X (.builtin "abs") O7:=Fs
def Oe:Aj:=λxs M q=> ∃i,xs= [wi i] /\ q (wi (if i<0 then -i else i)) M
instance:IC K O7 Oe where
 imp:=by rintro xs v M H q Q m r1 ⟨i,rfl,h⟩ k;obtain⟨v,rfl,r⟩:=r1.one;cases r.eq;exact⟨i,rfl,k _ M _ H h (bo.refl H) m WR.v⟩
def yU (K:PySem.W.Frag):List V ->Hp ->VK ->Prop:=λxs H Q=> ∃p ys,xs= [.ref p] /\ (f6 K H p ys \/ iS K H p ys) /\ ∀l,H l=none ->Q (.ref l) (upd H l (.lst ys))
theorem fZ {X:Cx}:gw X (.type "list") (yU X.K):=tZ
def sk:Aj:=λxs M q=> ∃l,((∃a,xs= [wr a] /\ M a=some (.lst l)) \/ xs= [.tup l]) /\ ∀p,M p=none ->q (wr p) (um M p (.lst l))
instance:IC K (yU K) sk where
 imp :=by
  rintro xs v M H q Q m r1 ⟨l,hx,h⟩ k;rcases hx with⟨a,rfl,hl⟩ | rfl
  ·obtain⟨v,rfl,r⟩:=r1.one;cases r.eq;obtain⟨vs,hv,rr⟩:=m a _ hl;exact⟨a,vs,rfl, .inl (f6.of hv),λp hp=>k _ _ _ _ (h p (m.fresh hp)) (L2.eg.ts (b8 hp)) (m.nY hp rr) WR.v⟩
  ·obtain⟨v,rfl,r⟩:=r1.one;obtain⟨a,vs,rfl,hv,rr⟩:=r.tup;exact⟨a,vs,rfl, .inr hv,λp hp=>k _ _ _ _ (h p (m.fresh hp)) (L2.eg.ts (b8 hp)) (m.nY hp rr) WR.v⟩
def uU (K:PySem.W.Frag):List V ->Hp ->VK ->Prop:=λxs H Q=> ∃p ys,xs= [.ref p] /\ ((f6 K H p ys /\ ∀l,H l=none ->Q (.ref l) (upd H l (.tup ys))) \/ (iS K H p ys /\ Q (.ref p) H))
theorem jK {X:Cx}:gw X (.type "tuple") (uU X.K):=qu
def uy:Aj:=λxs M q=> ∃l,((∃a,xs= [wr a] /\ M a=some (.lst l)) \/ xs= [.tup l]) /\ q (.tup l) M
instance:IC K (uU K) uy where
 imp :=by
  rintro xs v M H q Q m r1 ⟨l,hx,h⟩ k;rcases hx with⟨a,rfl,hl⟩ | rfl
  ·obtain⟨v,rfl,r⟩:=r1.one;cases r.eq;obtain⟨vs,hv,rr⟩:=m a _ hl;exact⟨a,vs,rfl, .inl ⟨f6.of hv,λp hp=>k _ M _ _ h (L2.eg.ts (b8 hp)) (m.new hp) (WR.Nm (iS.of bU) (rr.ts (L2.eg.ts (b8 hp))))⟩⟩
  ·obtain⟨v,rfl,r⟩:=r1.one;obtain⟨a,vs,rfl,hv,rr⟩:=r.tup;exact⟨a,vs,rfl, .inr ⟨hv,k _ M _ H h (bo.refl H) m (WR.Nm hv rr)⟩⟩
theorem cF.ints {H:Hp}: ∀ {ns:List Int} {vs:List V},cF K H (ns.map wi) vs ->vs=ns.map V.int
 | [],vs,h=>by simpa only[List.map_nil,cF] using h
 | n::r,vs,h=>by simp only[aH,cF] at h;obtain⟨v,t,rfl,h1,h2⟩:=h;rw[cF.ints h2,h1.eq];rfl
theorem cF.ofInts {H:Hp}: ∀ (ns:List Int),cF K H (ns.map wi) (ns.map V.int)
 | []=>cF.nil
 | n::r=>cF.cons WR.v (cF.ofInts r)
def tyW (M:Mp):W ->Option Value
 | .v (.int _)=>some (.type "int")
 | .v (.bl _)=>some (.type "bool")
 | .v (.str _)=>some (.type "str")
 | .v .dB=>some (.type "NoneType")
 | .tup _=>some (.type "tuple")
 | .v (.ref a)=>match M a with
  | some (.lst _)=>some (.type "list")
  | _=>none
 | _=>none
def N9 (K:PySem.W.Frag):Aj:=λxs M q=> ∃x T t b,xs= [x, .v (.ty T)] /\ tyW M x=some t /\ PySem.W.kitOne K t (.type T)=some b /\ q (wb b) M
theorem Ku {H:Hp}{M:Mp}{x:W}{v:V}{t:Value}(m:fQ K M H)(r:WR K H x v)(e:tyW M x=some t):Rc K H v t:=by
 cases x with
 | tup l=>obtain⟨a,vs,rfl,hv,rr⟩:=r.tup;cases e;exact .tup hv
 | v y =>
  cases r.eq;cases v with
  | int i=>cases e;exact .of (.int i)
  | bl i=>cases e;exact .of (.bl i)
  | str i=>cases e;exact .of (.str i)
  | dB=>cases e;exact .of .dB
  | ref a=>
   simp only[tyW] at e;cases ha:M a with
   | none=>rw[ha] at e;cases e
   | some o=>
    rw[ha] at e;cases o with
    | lst l=>cases e;obtain⟨vs,hv,_⟩:=m a _ ha;exact .lst (f6.of hv)
    | dK l=>cases e
    | ins C d l=>cases e
    | exc C=>cases e
    | fz o l l2=>cases e
  | yg _=>cases e
  | zF _=>cases e
  | ty _=>cases e
instance:IC K (O3 K) (N9 K) where
 imp:=by rintro xs v M H q Q m r1 ⟨x,T,t,b,rfl,ht,e,h⟩ k;obtain⟨v,u,rfl,r,r'⟩:=r1.two;cases r'.eq;exact⟨v,T,t,b,rfl,Ku m r ht,e,k _ M _ H h (bo.refl H) m WR.v⟩
end
section
variable {K:PySem.W.Frag}
abbrev WM:=W ->List W ->Mp ->WK ->Prop
class IM (K:PySem.W.Frag) (r:V ->List V ->Hp ->VK ->Prop) (w:outParam WM):Prop where
 imp: ∀ (x:W) (v:V) (ys:List W) (us:List V) (M:Mp) (H:Hp) (q:WK) (Q:VK),fQ K M H ->WR K H x v ->cF K H ys us ->w x ys M q ->(∀x M' v H',q x M' ->bo H H' ->fQ K M' H' ->WR K H' x v ->Q v H') ->r v us H Q
def IsL (M:Mp)(x:W):Prop:= ∃a l,x=wr a /\ M a=some (.lst l)
theorem IsL.ty {M:Mp}{H:Hp}{x:W}{v:V}(m:fQ K M H)(r:WR K H x v)(h:IsL M x):S2 K "list" v H:=by obtain⟨a,l,rfl,hl⟩:=h;cases r.eq;obtain⟨vs,hv,_⟩:=m a _ hl;exact .inl ⟨rfl,vs,f6.of hv⟩
def S0 (r:WM)(a:WE)(b:WA):WE:=λρ M q=>a ρ M λx M1=>IsL M1 x /\ b ρ M1 λxs M2=>r x xs M2 q
instance {r:V ->List V ->Hp ->VK ->Prop}{w:WM}{t:TE}{u:TA}{a:WE}{b:WA} [ir:IM K r w] [ia:IE K t a] [ib:IA K u b]:IE K (Xq K "list" r t u) (S0 w a b) where
 imp:=λρ M σ H q Q o h k=>ia.imp ρ M σ H _ _ o h λx M1 v H1 ⟨hl,h1⟩ t1 m1 r1=>⟨hl.ty m1 r1,ib.imp ρ M1 σ H1 _ _ (o.mv t1 m1) h1 λy M2 u H2 h2 t2 m2 r2=>ir.imp x v y u M2 H2 _ _ m2 (r1.ts t2) r2 h2 λz M3 v3 H3 h3 t3 m3 r3=>k z M3 v3 H3 h3 ((t1.trans t2).trans t3) m3 r3⟩
def yq:WM:=λx ys M q=> ∃a l y,x=wr a /\ ys= [y] /\ M a=some (.lst l) /\ l.length<sizeLine /\ q wn (um M a (.lst (l++ [y])))
instance:IM K yW yq where
 imp:=by rintro x v ys us M H q Q m r1 r2 ⟨a,l,y,rfl,rfl,hl,hn,h⟩ k;cases r1.eq;obtain⟨u,rfl,r⟩:=r2.one;obtain⟨vs,hv,rr⟩:=m a _ hl;exact⟨a,vs,u,rfl,rfl,hv,by rw[rr.length];exact hn,k _ _ _ _ h (kD hv) (m.putL hv (rr.snoc r)) WR.v⟩
def Ob:wD:=λx y M q=> ∃a b l l',x=wr a /\ y=wr b /\ M a=some (.lst l) /\ M b=some (.lst l') /\ l.length+l'.length<=sizeLine /\ ∀p,M p=none ->q (wr p) (um M p (.lst (l++l')))
instance:IR K O5 Ob where
 imp:=by rintro x y v u M H q Q m r1 r2 ⟨a,b,l,l',rfl,rfl,hl,pK,hn,h⟩ k;cases r1.eq;cases r2.eq;obtain⟨vs,hv,rr⟩:=m a _ hl;obtain⟨Of,tM,OT⟩:=m b _ pK;exact⟨a,b,vs,Of,rfl,rfl,hv,tM,by rw[rr.length,OT.length];exact hn,λp hp=>k _ _ _ _ (h p (m.fresh hp)) (L2.eg.ts (b8 hp)) (m.nY hp (rr.append OT)) WR.v⟩
def F' (M:Mp):W ->Bool ->Prop
 | .v .dB,k=>k=false
 | .v (.bl b),k=>k=b
 | .v (.int i),k=>k=(i !=0)
 | .v (.str y),k=>y.length<=sizeLine /\ k=((y.length:Int) !=0)
 | .v (.ref a),k=>(∃l,M a=some (.lst l) /\ k= !l.isEmpty) \/ (∃l,M a=some (.dK l) /\ k= !l.isEmpty)
 | .tup l,k=>k= !l.isEmpty
 | _,_=>False
def Cv (K:PySem.W.Frag)(ta:TE):TT:=λσ H Q=>ta σ H λx H'=> ∃k,HR K x H' k /\ Q k H'
theorem Ax {X:Cx}{a:Expr}{ta:TE}(ha:PE X a ta)(he: ∀whole,isTrue a X.env whole=(do let v <- whole;standAt a.pos;holding [v] (truthy v)):=by intro _;rfl):PT X a (Cv X.K ta):=Dk ha he
def BZ (a:WE):WT:=λρ M q=>a ρ M λx M1=> ∃k,F' M1 x k /\ q k M1
theorem cF.isEmpty {H:Hp}{l:List W}{vs:List V}(r:cF K H l vs):vs.isEmpty=l.isEmpty:=by have:=r.length;cases l<;>cases vs<;>simp_all
theorem KR.isEmpty {H:Hp}{l:List (Key×W)}{vs:List (Key×V)}(r:KR K H l vs):vs.isEmpty=l.isEmpty:=by cases r<;>rfl
theorem F'.ok {M:Mp}{H:Hp}{x:W}{v:V}{k:Bool}(m:fQ K M H)(r:WR K H x v)(h:F' M x k):HR K v H k:=by
 cases x with
 | tup l=>obtain⟨a,vs,rfl,hv,rr⟩:=r.tup;exact .inr (.inl ⟨vs,hv,by rw[rr.isEmpty];exact h⟩)
 | v y =>
  cases r.eq;cases v with
  | ref a=>
   rcases h with⟨l,hl,e⟩ | ⟨l,hl,e⟩
   ·obtain⟨vs,hv,rr⟩:=m a _ hl;exact .inl ⟨vs,f6.of hv,by rw[rr.isEmpty];exact e⟩
   ·obtain⟨vs,hv,rr⟩:=m a _ hl;exact .inr (.inr ⟨vs,hv,by rw[rr.isEmpty];exact e⟩)
  | _=>first | exact h | exact(show False from h).elim
instance {t:TE}{a:WE} [ia:IE K t a]:IT K (Cv K t) (BZ a) where
 imp:=λρ M σ H q Q o h k=>ia.imp ρ M σ H _ _ o h λx M1 v H1 ⟨b,hb,h1⟩ t1 m1 r1=>⟨b,hb.ok m1 r1,k b M1 H1 h1 t1 m1⟩
def eZ:Key ->W
 | .inl k=>wi k
 | .inr x=>ws x
def d5 (kvs:List (Key×W))(k:Key):Option W:=(kvs.find? λkv=>decide (kv.1=k)).map (·.2)
def iH (kvs:List (Key×W))(k:Key)(v:W):List (Key×W):=if(kvs.any λkv=>decide (kv.1=k))=true then kvs.map (λkv=>if kv.1=k then(kv.1,v) else kv) else kvs++ [(k,v)]
def rE (kvs:List (Key×W))(k:Key):List (Key×W):=kvs.filter λkv=>decide (kv.1≠k)
theorem KR.keys {H:Hp}: ∀ {l:List (Key×W)} {vs:List (Key×V)},KR K H l vs ->vs.map (·.1)=l.map (·.1)
 | _,_, .nil=>rfl
 | _,_, .cons ⟨e,r⟩ t=>by rw[aH,aH,KR.keys t,e]
theorem KR.length {H:Hp}{κ:Type}: ∀ {l:List (κ×W)} {vs:List (κ×V)},KR K H l vs ->vs.length=l.length
 | _,_, .nil=>rfl
 | _,_, .cons _ t=>by rw[aG,aG,KR.length t]
theorem KR.val {H:Hp}(k:Key): ∀ {l:List (Key×W)} {vs:List (Key×V)},KR K H l vs ->(d5 l k=none /\ gm vs k=none) \/ ∃x v,d5 l k=some x /\ gm vs k=some v /\ WR K H x v
 | _,_, .nil=> .inl ⟨rfl,rfl⟩
 | (k1,x)::l,(k2,v)::vs, .cons ⟨e,r⟩ t=>by
  have e:k1=k2:=e;subst e;unfold d5 gm;rw[cM,cM];by_cases hk:k1=k
  ·simp only[hk,decide_true];exact .inr ⟨x,v,rfl,rfl,r⟩
  ·simp only[hk,decide_false];exact KR.val k t
theorem KR.map {H:Hp}{k:Key}{x:W}{v:V}(rx:WR K H x v): ∀ {l:List (Key×W)} {vs:List (Key×V)},KR K H l vs ->KR K H (l.map (λkv=>if kv.1=k then(kv.1,x) else kv)) (vs.map (λkv=>if kv.1=k then(kv.1,v) else kv))
 | _,_, .nil=> .nil
 | (k1,y)::l,(k2,u)::vs, .cons ⟨e,r⟩ t=>by
  have e:k1=k2:=e;subst e;rw[aH,aH];refine .cons ?_ (KR.map rx t);by_cases hk:k1=k
  ·rw[ak hk,ak hk];exact⟨rfl,rx⟩
  ·rw[aj hk,aj hk];exact⟨rfl,r⟩
theorem KR.append {H:Hp}{k:Key}{x:W}{v:V}(rx:WR K H x v): ∀ {l:List (Key×W)} {vs:List (Key×V)},KR K H l vs ->KR K H (l++ [(k,x)]) (vs++ [(k,v)])
 | _,_, .nil=> .cons ⟨rfl,rx⟩ .nil
 | _,_, .cons r t=> .cons r (KR.append rx t)
theorem KR.put {H:Hp}{k:Key}{x:W}{v:V}(rx:WR K H x v){l:List (Key×W)}{vs:List (Key×V)}(r:KR K H l vs):KR K H (iH l k x) (putK vs k v):=by
 have ek:(l.any λkv=>decide (kv.1=k))=vs.any λkv=>decide (kv.1=k):=by
  have:=r.keys;have e1:(l.any λkv=>decide (kv.1=k))=(l.map (·.1)).any λy=>decide (y=k):=by rw[List.any_map];rfl
  have e2:(vs.any λkv=>decide (kv.1=k))=(vs.map (·.1)).any λy=>decide (y=k):=by rw[List.any_map];rfl
  rw[e1,e2,this]
 unfold iH putK;rw[ek];split
 ·exact KR.map rx r
 ·exact KR.append rx r
theorem KR.drop {H:Hp}{k:Key}: ∀ {l:List (Key×W)} {vs:List (Key×V)},KR K H l vs ->KR K H (rE l k) (nK vs k)
 | _,_, .nil=> .nil
 | (k1,y)::l,(k2,u)::vs, .cons ⟨e,r⟩ t=>by
  have e:k1=k2:=e;subst e;unfold rE nK;rw[List.filter_cons,List.filter_cons];by_cases hk:k1=k
  ·simp only[hk,ne_eq,not_true,decide_false,ay,bf];exact KR.drop t
  ·simp only[ne_eq,hk,not_false_eq_true,decide_true,bN];exact .cons ⟨rfl,r⟩ (KR.drop t)
theorem jW {H:Hp}{k:Key}{v:V}(r:WR K H (eZ k) v):v=kV k:=by cases k<;>exact r.eq
def Ik:WE:=λ_ M q=> ∀p,M p=none ->q (wr p) (um M p (.dK []))
instance:IE K CD Ik where
 imp:=λρ M σ H q Q o h k=>λp hp=>k _ _ _ _ (h p (o.hp.fresh hp)) (L2.eg.ts (b8 hp)) (o.hp.put (L2.eg.ts (b8 hp)) ⟨[],bU, .nil⟩) WR.v
def Cg (a b:WE):WE:=λρ M q=>a ρ M λx M1=>b ρ M1 λy M2=> ∃p kvs k z,x=wr p /\ M2 p=some (.dK kvs) /\ y=eZ k /\ d5 kvs k=some z /\ q z M2
instance {t u:TE}{a b:WE} [ia:IE K t a] [ib:IE K u b]:IE K (IF t u) (Cg a b) where
 imp :=λρ M σ H q Q o h k=>ia.imp ρ M σ H _ _ o h λx M1 v H1 h1 t1 m1 r1=>ib.imp ρ M1 σ H1 _ _ (o.mv t1 m1) h1 λy M2 u H2 ⟨p,kvs,ky,z,e1,e2,e3,e4,h2⟩ t2 m2 r2=>by
  subst e1 e3;obtain⟨ks,hk,rr⟩:=m2 p _ e2;rcases rr.val ky with⟨n1,_⟩ | ⟨x',v',n1,n2,rx⟩
  ·rw[n1] at e4;cases e4
  ·rw[n1] at e4;cases e4;refine⟨p,v',r1.eq,?_,k _ M2 _ H2 h2 (t1.trans t2) m2 rx⟩;rw[jW r2, <- n2];exact oo.k hk
def sv (a b:WE):WE:=λρ M q=>a ρ M λy M1=>b ρ M1 λx M2=> ∃p kvs k,x=wr p /\ M2 p=some (.dK kvs) /\ y=eZ k /\ q (wb (!(d5 kvs k).isSome)) M2
theorem KR.some {H:Hp}(k:Key){l:List (Key×W)}{vs:List (Key×V)}(r:KR K H l vs):(gm vs k).isSome=(d5 l k).isSome:=by rcases r.val k with⟨a,b⟩ | ⟨x,v,a,b,_⟩ <;>rw[a,b] <;>rfl
instance {t u:TE}{a b:WE} [ia:IE K t a] [ib:IE K u b]:IE K (yC t u) (sv a b) where
 imp:=λρ M σ H q Q o h k=>ia.imp ρ M σ H _ _ o h λy M1 v H1 h1 t1 m1 r1=>ib.imp ρ M1 σ H1 _ _ (o.mv t1 m1) h1 λx M2 u H2 ⟨p,kvs,ky,e1,e2,e3,h2⟩ t2 m2 r2=>by subst e1 e3;obtain⟨ks,hk,rr⟩:=m2 p _ e2;refine⟨p,gm ks ky,r2.eq,by rw[jW r1];exact oo.k hk,k _ M2 _ H2 h2 (t1.trans t2) m2 ?_⟩;rw[rr.some];exact WR.v
def wL (a b c:WE):WE:=λρ M q=>a ρ M λx M1=> ∃p,x=wr p /\ (∃kvs,M1 p=some (.dK kvs)) /\ b ρ M1 λy M2=>c ρ M2 λz M3=> ∃kvs k,M3 p=some (.dK kvs) /\ y=eZ k /\ q ((d5 kvs k).getD z) M3
instance {t u s:TE}{a b c:WE} [ia:IE K t a] [ib:IE K u b] [ic:IE K s c]:IE K (CF t u s) (wL a b c) where
 imp:=λρ M σ H q Q o h k=>ia.imp ρ M σ H _ _ o h λx M1 v H1 ⟨p,e,⟨kvs,hp⟩,h1⟩ t1 m1 r1=>by
  subst e;obtain⟨ks,hk,rr⟩:=m1 p _ hp;refine⟨p,r1.eq, .inl ⟨ks, .inl hk⟩,ib.imp ρ M1 σ H1 _ _ (o.mv t1 m1) h1 λy M2 u H2 h2 t2 m2 r2=>ic.imp ρ M2 σ H2 _ _ (o.mv (t1.trans t2) m2) h2 λz M3 u3 H3 ⟨kvs,ky,e2,e3,h3⟩ t3 m3 r3=> ?_⟩;subst e3;obtain⟨ks,hk,rr⟩:=m3 p _ e2;refine⟨gm ks ky,by rw[jW (r2.ts t3)];exact oo.k hk,k _ M3 _ H3 h3 ((t1.trans t2).trans t3) m3 ?_⟩;rcases rr.val ky with⟨n1,n2⟩ | ⟨x',v',n1,n2,rx⟩
  ·rw[n1,n2];exact r3
  ·rw[n1,n2];exact rx
end
section
variable {K:PySem.W.Frag}
def Ir (i:Nat):WG:=λx ρ M q=>q (ρ.set i (some x)) M
instance {i:Nat}:IG K (nF i) (Ir i) where
 imp:=λx v ρ M σ H q Q o r h k=>k _ M _ H h (bo.refl H) ⟨o.env.set i r,o.hp⟩
def Ks:HQ:=λxs ρ M q=>xs= [] /\ q ρ M
def Iu (a:WG)(b:HQ):HQ:=λxs ρ M q=> ∃x r,xs=x::r /\ a x ρ M λρ' M'=>b r ρ' M' q
instance:SO K Mw Ks where
 imp:=λx v ρ M σ H q Q o r h k=>by obtain⟨rfl,h⟩:=h;exact⟨by simpa only[cF] using r,k _ M _ H h (bo.refl H) o⟩
instance {t:TG}{u:F5}{a:WG}{b:HQ} [ia:IG K t a] [ib:SO K u b]:SO K (zE t u) (Iu a b) where
 imp:=λx v ρ M σ H q Q o r h k=>by obtain⟨y,rest,rfl,h⟩:=h;simp only[cF] at r;obtain⟨v1,t1,rfl,r1,r2⟩:=r;exact⟨v1,t1,rfl,ia.imp y v1 ρ M σ H _ _ o r1 h λρ' M' σ' H' h' ts o'=>ib.imp rest t1 ρ' M' σ' H' _ _ o' (r2.ts ts) h' λρ2 M2 σ2 H2 h2 Om o2=>k ρ2 M2 σ2 H2 h2 (ts.trans Om) o2⟩
def Og (n:Nat)(a:HQ):WG:=λx ρ M q=> ∃l,x= .tup l /\ l.length=n /\ a l ρ M q
instance {n:Nat}{t:F5}{a:HQ} [ia:SO K t a]:IG K (Mv K n t) (Og n a) where
 imp:=λx v ρ M σ H q Q o r h k=>by obtain⟨l,rfl,hl,h⟩:=h;obtain⟨a',vs,rfl,hv,rr⟩:=r.tup;exact⟨a',vs,rfl,hv,by rw[rr.length];exact hl,ia.imp l vs ρ M σ H _ _ o rr h k⟩
abbrev Fz:=W ->W ->W ->Mp ->(Mp ->Prop) ->Prop
class Ro (K:PySem.W.Frag) (t:FA) (w:outParam Fz):Prop where
 imp: ∀ (x y z:W) (v u r:V) (M:Mp) (H:Hp) (q:Mp ->Prop) (Q:Hp ->Prop),fQ K M H ->WR K H x v ->WR K H y u ->WR K H z r ->w x y z M q ->(∀M' H',q M' ->bo H H' ->fQ K M' H' ->Q H') ->t v u r H Q
def Ig:Fz:=λx y z M q=> ∃a l k j,x=wr a /\ y=wi k /\ M a=some (.lst l) /\ pH l.length k=some j /\ q (um M a (.lst (l.set j z)))
instance:Ro K Je Ig where
 imp:=by rintro x y z v u r M H q Q m r1 r2 r3 ⟨a,l,i,j,rfl,rfl,hl,e,h⟩ k;obtain⟨vs,hv,rr⟩:=m a _ hl;exact⟨a,vs,i,j,r1.eq,r2.eq,hv,by rw[rr.length];exact e,k _ _ h (kD hv) (m.putL hv (rr.set j r3))⟩
def Oh (a b:WE)(s:Fz):WG:=λx ρ M q=>a ρ M λo M1=>b ρ M1 λi M2=>s o i x M2 λM3=>q ρ M3
instance {t u:TE}{s:FA}{a b:WE}{w:Fz} [ia:IE K t a] [ib:IE K u b] [is:Ro K s w]:IG K (QR t u s) (Oh a b w) where
 imp:=λx v ρ M σ H q Q o r h k=>ia.imp ρ M σ H _ _ o h λy M1 v1 H1 h1 t1 m1 r1=>ib.imp ρ M1 σ H1 _ _ (o.mv t1 m1) h1 λz M2 v2 H2 h2 t2 m2 r2=>is.imp y z x v1 v2 v M2 H2 _ _ m2 (r1.ts t2) r2 (r.ts (t1.trans t2)) h2 λM3 H3 h3 t3 m3=>k ρ M3 σ H3 h3 ((t1.trans t2).trans t3) (o.mv ((t1.trans t2).trans t3) m3)
def IZ:WS:=λD ρ M=>D.nx ρ M
instance:IS K Iz IZ where
 imp:=λρ M σ H D' D o h e=>e.nx ρ M σ H h (bo.refl H) o
def Gq (a b:WS):WS:=λD ρ M=>a {D with nx:=b D} ρ M
instance {t u:TS}{a b:WS} [ia:IS K t a] [ib:IS K u b]:IS K (KJ t u) (Gq a b) where
 imp:=λρ M σ H D' D o h e=>ia.imp ρ M σ H _ _ o h ⟨λρ' M' σ' H' h' ts o'=>ib.imp ρ' M' σ' H' D' D o' h' (e.mv ts),e.rt,e.bk,e.ct⟩
def Jc:WS:=λD ρ M=>D.ct ρ M
instance:IS K IH Jc where
 imp:=λρ M σ H D' D o h e=>e.ct ρ M σ H h (bo.refl H) o
def I0 (a:WE):WS:=λD ρ M=>a ρ M λ_ M1=>D.nx ρ M1
instance {t:TE}{a:WE} [ia:IE K t a]:IS K (ID t) (I0 a) where
 imp:=λρ M σ H D' D o h e=>ia.imp ρ M σ H _ _ o h λx M1 v H1 h1 t1 m1 r1=>e.nx ρ M1 σ H1 h1 t1 (o.mv t1 m1)
def OP (a:WE):WS:=λD ρ M=>a ρ M D.rt
instance {t:TE}{a:WE} [ia:IE K t a]:IS K (Oy t) (OP a) where
 imp:=λρ M σ H D' D o h e=>ia.imp ρ M σ H _ _ o h λx M1 v H1 h1 t1 m1 r1=>e.rt x M1 v H1 h1 t1 m1 r1
def IY:WS:=λD _ M=>D.rt wn M
instance:IS K Iv IY where
 imp:=λρ M σ H D' D o h e=>e.rt wn M .dB H h (bo.refl H) o.hp WR.v
def RE (c:WT)(a b:WS):WS:=λD ρ M=>c ρ M λk M1=>if k=true then a D ρ M1 else b D ρ M1
instance {tc:TT}{t u:TS}{c:WT}{a b:WS} [ic:IT K tc c] [ia:IS K t a] [ib:IS K u b]:IS K (OC tc t u) (RE c a b) where
 imp:=λρ M σ H D' D o h e=>ic.imp ρ M σ H _ _ o h λk M1 H1 h1 t1 m1=>by
  cases k with
  | true=>simp only[bN] at h1 ⊢;exact ia.imp ρ M1 σ H1 D' D (o.mv t1 m1) h1 (e.mv t1)
  | false=>simp only[ay,bf] at h1 ⊢;exact ib.imp ρ M1 σ H1 D' D (o.mv t1 m1) h1 (e.mv t1)
def OS (a:WE)(g:WG):WS:=λD ρ M=>a ρ M λx M1=>g x ρ M1 D.nx
instance {t:TE}{g:TG}{a:WE}{w:WG} [ia:IE K t a] [ig:IG K g w]:IS K (Gk t g) (OS a w) where
 imp:=λρ M σ H D' D o h e=>ia.imp ρ M σ H _ _ o h λx M1 v H1 h1 t1 m1 r1=>ig.imp x v ρ M1 σ H1 _ _ (o.mv t1 m1) r1 h1 λρ2 M2 σ2 H2 h2 t2 o2=>e.nx ρ2 M2 σ2 H2 h2 (t1.trans t2) o2
def xg (a b c:WE):WS:=λD ρ M=>c ρ M λz M1=>a ρ M1 λx M2=>b ρ M2 λy M3=> ∃p kvs k,x=wr p /\ M3 p=some (.dK kvs) /\ y=eZ k /\ kvs.length<sizeLine /\ D.nx ρ (um M3 p (.dK (iH kvs k z)))
instance {t u s:TE}{a b c:WE} [ia:IE K t a] [ib:IE K u b] [ic:IE K s c]:IS K (Ja t u s) (xg a b c) where
 imp :=λρ M σ H D' D o h e=>ic.imp ρ M σ H _ _ o h λz M1 v1 H1 h1 t1 m1 r1=>ia.imp ρ M1 σ H1 _ _ (o.mv t1 m1) h1 λx M2 v2 H2 h2 t2 m2 r2=>ib.imp ρ M2 σ H2 _ _ (o.mv (t1.trans t2) m2) h2 λy M3 v3 H3 ⟨p,kvs,k,e1,e2,e3,hl,h3⟩ t3 m3 r3=>by subst e1 e3;obtain⟨ks,hk,rr⟩:=m3 p _ e2;have ts:=lg (u:= .dK (putK ks k v1)) hk;refine⟨p,_,r2.eq,?_,e.nx ρ _ σ (upd H3 p (.dK (putK ks k v1))) h3 (((t1.trans t2).trans t3).trans ts) (o.mv (((t1.trans t2).trans t3).trans ts) (m3.putD hk (KR.put (r1.ts (t2.trans t3)) rr)))⟩;rw[jW r3];exact FJ.k hk (by rw[rr.length];exact hl)
def xh (a b:WE):WS:=λD ρ M=>a ρ M λx M1=>b ρ M1 λy M2=> ∃p kvs k,x=wr p /\ M2 p=some (.dK kvs) /\ y=eZ k /\ (d5 kvs k).isSome=true /\ D.nx ρ (um M2 p (.dK (rE kvs k)))
instance {t u:TE}{a b:WE} [ia:IE K t a] [ib:IE K u b]:IS K (Jb t u) (xh a b) where
 imp :=λρ M σ H D' D o h e=>ia.imp ρ M σ H _ _ o h λx M2 v2 H2 h2 t2 m2 r2=>ib.imp ρ M2 σ H2 _ _ (o.mv t2 m2) h2 λy M3 v3 H3 ⟨p,kvs,k,e1,e2,e3,hl,h3⟩ t3 m3 r3=>by subst e1 e3;obtain⟨ks,hk,rr⟩:=m3 p _ e2;have ts:=lg (u:= .dK (nK ks k)) hk;exact⟨p,ks,k,r2.eq,hk,jW r3,by rw[rr.some];exact hl,e.nx ρ _ σ _ h3 ((t2.trans t3).trans ts) (o.mv ((t2.trans t3).trans ts) (m3.putD hk rr.drop))⟩
def BA (K:PySem.W.Frag)(H1:Hp)(J:It)(xs:List W)(keep:Mp ->Prop):Prop:=∀i M H,bo H1 H ->fQ K M H ->keep M ->(xs.length=i ->J.stop i H) /\ (i<xs.length ->J.go i H) /\ ∀v H',i<xs.length ->J.Kj i H v H' ->bo H H' /\ fQ K M H' /\ ∃x,xs[i]? =some x /\ WR K H' x v
class II (K:PySem.W.Frag) (t:TI) (w:outParam WI):Prop where
 imp: ∀ (ρ:dm) (M:Mp) (σ:St) (H:Hp) (q:List W ->(Mp ->Prop) ->Mp ->Prop) (R:It ->Hp ->Prop),Ok K ρ M σ H ->w ρ M q ->(∀xs keep J M' H',q xs keep M' ->bo H H' ->fQ K M' H' ->BA K H' J xs keep ->R J H') ->t σ H R
def Er (a:WE):WI:=λρ M q=>a ρ M λx M1=> ∃p l,x=wr p /\ M1 p=some (.lst l) /\ q l (λM'=>M' p=some (.lst l)) M1
def PQ (a:WE):WI:=λρ M q=>a ρ M λx M1=> ∃l,x= .tup l /\ q l (λ_=>True) M1
def fG (lo:Int)(n:Nat):List W:=(List.range n).map λ(k:Nat)=>wi (lo+(k:Int))
def Ep (a:WA):WI:=λρ M q=>a ρ M λxs M1=> ∃j:Int,xs= [wi j] /\ -(2 ^ 62) <=j /\ j<2 ^ 62 /\ q (fG 0 j.toNat) (λ_=>True) M1
theorem AV {H1:Hp}{p:Addr}{l:List W}:BA K H1 (W3 K p) l (λM'=>M' p=some (.lst l)):=by intro i M H ts m hk;obtain⟨vs,hv,rr⟩:=m p _ hk;have hl:=rr.length;refine⟨λh=>⟨vs,f6.of hv,by lia⟩,λh=>⟨vs,vs[i]'(by lia),f6.of hv,by simp⟩,λv H' hi y=> ?_⟩;obtain⟨rfl,y⟩:=y;have:=y vs (f6.of hv);obtain⟨d,hd,r⟩:=rr.back this;exact⟨bo.refl _,m,d,hd,r⟩
theorem Et {H1:Hp}{p:Addr}{l:List W}{vs:List V}(hv:iS K H1 p vs)(rr:cF K H1 l vs):BA K H1 (W2 K p) l (λ_=>True):=by intro i M H ts m _;have tM:=Un.Xt ts hv;have OT:=rr.ts ts;have hl:=OT.length;refine⟨λh=>⟨vs,tM,by lia⟩,λh=>⟨vs,vs[i]'(by lia),tM,by simp⟩,λv H' hi y=> ?_⟩;obtain⟨rfl,y⟩:=y;have:=y vs tM;obtain⟨d,hd,r⟩:=OT.back this;exact⟨bo.refl _,m,d,hd,r⟩
theorem Eu {H1:Hp}{lo:Int}{n:Nat}:BA K H1 (SM lo n) (fG lo n) (λ_=>True):=by
 intro i M H ts m _;have hl:(fG lo n).length=n:=by simp[fG]
 rw[hl];refine⟨λh=>Nat.le_of_eq h,λh=>h,λv H' hi y=> ?_⟩;obtain⟨rfl,y⟩:=y;refine⟨bo.refl _,m,wi (lo+i),?_,by rw[y];exact WR.v⟩;simp[fG,hi]
instance {t:TE}{a:WE} [ia:IE K t a]:II K (Ey K t) (Er a) where
 imp:=λρ M σ H q R o h k=>ia.imp ρ M σ H _ _ o h λx M1 v H1 ⟨p,l,e,hp,h1⟩ t1 m1 r1=>by subst e;obtain⟨vs,hv,rr⟩:=m1 p _ hp;exact⟨p,r1.eq,⟨vs,f6.of hv⟩,k l _ _ M1 H1 h1 t1 m1 AV⟩
instance {t:TE}{a:WE} [ia:IE K t a]:II K (PZ K t) (PQ a) where
 imp:=λρ M σ H q R o h k=>ia.imp ρ M σ H _ _ o h λx M1 v H1 ⟨l,e,h1⟩ t1 m1 r1=>by subst e;obtain⟨p,vs,rfl,hv,rr⟩:=r1.tup;exact⟨p,rfl,⟨vs,hv⟩,k l _ _ M1 H1 h1 t1 m1 (Et hv rr)⟩
instance {t:TA}{a:WA} [ia:IA K t a]:II K (Ju t) (Ep a) where
 imp:=λρ M σ H q R o h k=>ia.imp ρ M σ H _ _ o h λxs M1 v H1 ⟨j,e,h0,h1,h2⟩ t1 m1 r1=>by subst e;obtain⟨v,rfl,r⟩:=r1.one;cases r.eq;exact⟨j,rfl,h0,h1,k _ _ _ M1 H1 h2 t1 m1 Eu⟩
def OQ (it:WI)(g:WG)(b:WS):WS:=λD ρ M=>it ρ M λxs keep M1=> ∃I:Nat ->dm ->Mp ->Prop,I 0 ρ M1 /\ (∀i ρ M,i<=xs.length ->I i ρ M ->keep M) /\(∀i x ρ M,xs[i]? =some x ->I i ρ M ->g x ρ M λρ2 M2=>b {D with nx:=I (i+1),ct:=I (i+1),bk:=D.nx} ρ2 M2) /\ ∀ρ M,I xs.length ρ M ->D.nx ρ M
instance {ti:TI}{g:TG}{t:TS}{it:WI}{w:WG}{b:WS} [ii:II K ti it] [ig:IG K g w] [ib:IS K t b]:IS K (OD ti g t) (OQ it w b) where
 imp :=λρ M σ H D' D o h e=>ii.imp ρ M σ H _ _ o h λxs keep J M1 H1 h1 t1 m1 ok=>by
  obtain⟨I,h0,hk,hs,hd⟩:=h1;refine⟨λi m σ' H'=>m=xs.length - i /\ i<=xs.length /\ ∃ρ' M',I i ρ' M' /\ bo H1 H' /\ Ok K ρ' M' σ' H',⟨_,rfl,cU _,ρ,M1,h0,bo.refl _,o.mv t1 m1⟩,?_⟩;rintro i m σ' H' ⟨rfl,hi,ρ',M',hI,ts,o'⟩;obtain⟨k1,k2,k3⟩:=ok i M' H' ts o'.hp (hk i ρ' M' hi hI);by_cases eX:i<xs.length
  ·refine .inr ⟨k2 eX,λσ2 H2=> ∃ρ2 M2,I (i+1) ρ2 M2 /\ bo H1 H2 /\ Ok K ρ2 M2 σ2 H2,λσ2 H2 ⟨ρ2,M2,a,b,c⟩=>⟨xs.length - (i+1),by lia,rfl,eX,ρ2,M2,a,b,c⟩,λv H2 y=> ?_⟩;obtain⟨ty,my,x,hx,r⟩:=k3 v H2 eX y;replace ts:=ts.trans ty;refine ig.imp x v ρ' M' σ' H2 _ _ (o'.mv ty my) r (hs i x ρ' M' hx hI) λρ3 M3 σ3 H3 h3 t3 o3=>ib.imp ρ3 M3 σ3 H3 _ _ o3 h3 ⟨λa b c d h t o=>⟨a,b,h,(ts.trans t3).trans t,o⟩,λa b c d h t=>e.rt a b c d h (t1.trans ((ts.trans t3).trans t)),λa b c d h t=>e.nx a b c d h (t1.trans ((ts.trans t3).trans t)),λa b c d h t o=>⟨a,b,h,(ts.trans t3).trans t,o⟩⟩
  ·have e':i=xs.length:=by lia
   subst e';exact .inl ⟨k1 rfl,e.nx ρ' M' σ' H' (hd ρ' M' hI) (t1.trans ts) o'⟩
def xf (c:WT)(b:WS):WS:=λD ρ M=> ∃I:Nat ->dm ->Mp ->Prop,(∃m,I m ρ M) /\ ∀m ρ M,I m ρ M ->c ρ M λk M1=>if k=true then b {D with nx:=λρ' M'=> ∃m',m'<m /\ I m' ρ' M',ct:=λρ' M'=> ∃m',m'<m /\ I m' ρ' M',bk:=D.nx} ρ M1 else D.nx ρ M1
instance {tc:TT}{t:TS}{c:WT}{b:WS} [ic:IT K tc c] [ib:IS K t b]:IS K (Cu tc t) (xf c b) where
 imp :=λρ M σ H D' D o ⟨I,⟨m,h0⟩,hs⟩ e=>by
  refine⟨λm σ' H'=> ∃ρ' M',I m ρ' M' /\ bo H H' /\ Ok K ρ' M' σ' H',⟨m,ρ,M,h0,bo.refl _,o⟩,?_⟩;rintro m σ' H' ⟨ρ',M',hI,ts,o'⟩;refine ic.imp ρ' M' σ' H' _ _ o' (hs m ρ' M' hI) λk M1 H1 h1 t1 m1=> ?_;cases k with
  | true=>simp only[bN] at h1 ⊢;refine⟨λσ2 H2=> ∃m',m'<m /\ ∃ρ2 M2,I m' ρ2 M2 /\ bo H H2 /\ Ok K ρ2 M2 σ2 H2,λσ2 H2 h=>h,ib.imp ρ' M1 σ' H1 _ _ (o'.mv t1 m1) h1 ⟨λa b c d ⟨m',hm,h⟩ t o=>⟨m',hm,a,b,h,(ts.trans t1).trans t,o⟩,λa b c d h t=>e.rt a b c d h ((ts.trans t1).trans t),λa b c d h t=>e.nx a b c d h ((ts.trans t1).trans t),λa b c d ⟨m',hm,h⟩ t o=>⟨m',hm,a,b,h,(ts.trans t1).trans t,o⟩⟩⟩
  | false=>simp only[ay,bf] at h1 ⊢;exact e.nx ρ' M1 σ' H1 h1 (ts.trans t1) (o'.mv t1 m1)
def capρ (own:Nat)(fr:List Nat)(ρ:dm):dm:=List.replicate own none++fr.map λj=>(ρ[j]?).join
theorem F4.NQ {H:Hp}{ρ:dm}{σ:St}(own:Nat)(fr:List Nat)(h:F4 K H ρ σ):F4 K H (capρ own fr ρ) (jr own fr σ):=by
 unfold capρ jr;refine⟨by simp,λi x e=> ?_⟩;by_cases hi:i<own
 ·rw[a9 (by simpa using hi),List.getElem?_replicate,ak hi] at e;cases e
 ·rw [aU (by simpa using hi),List.length_replicate,aA] at e;rw[aU (by simpa using hi),List.length_replicate,aA];cases ej:fr[i - own]? with
  | none=>rw[ej] at e;cases e
  | some j=>
   rw[ej] at e;simp only[Option.map_some,Option.some.injEq] at e ⊢;cases er:ρ[j]? with
   | none=>rw[er] at e;cases e
   | some z=>rw[er] at e;simp only[Option.join_some] at e;subst e;obtain⟨v,ev,r⟩:=h.2 j x er;exact⟨v,by rw[ev];rfl,r⟩
def Im (it:WI)(own:Nat)(fr:List Nat)(g:WG)(c:WT)(el:WE):WE:=λρ M q=>it ρ M λxs keep M1=>xs.length<=sizeLine /\ ∀p,M1 p=none -> ∃I:Nat ->List W ->Mp ->Prop,I 0 [] (um M1 p (.lst [])) /\(∀i ys M,i<=xs.length ->I i ys M ->keep M /\ M p=some (.lst ys) /\ ys.length<=i) /\(∀i x ys M,xs[i]? =some x ->I i ys M ->g x (capρ own fr ρ) M λρ2 M2=>c ρ2 M2 λb M3=>if b=true then el ρ2 M3 λy M4=>M4 p=some (.lst ys) /\ I (i+1) (ys++ [y]) (um M4 p (.lst (ys++ [y]))) else I (i+1) ys M3) /\∀ys M,I xs.length ys M ->q (wr p) M
instance {ti:TI}{own:Nat}{fr:List Nat}{g:TG}{tc:TT}{te:TE}{it:WI}{w:WG}{c:WT}{el:WE} [ii:II K ti it] [ig:IG K g w] [ic:IT K tc c] [ie:IE K te el]:IE K (IJ ti own fr g tc te) (Im it own fr w c el) where
 imp :=λρ M σ H q Q o h k=>ii.imp ρ M σ H _ _ o h λxs keep J M1 H1 h1 t1 m1 ok=>by
  intro p hp;obtain⟨hz,h1⟩:=h1;obtain⟨I,h0,hk,hs,hd⟩:=h1 p (m1.fresh hp);have tp:=L2.eg.ts (b8 (o:= .lst []) hp);refine⟨λi m vs H'=>m=xs.length - i /\ i<=xs.length /\ ∃ys M',I i ys M' /\ bo H1 H' /\ fQ K M' H' /\ cF K H' ys vs /\ H' p=some (.lst vs),⟨_,rfl,cU _,[],_,h0,tp,m1.nY hp cF.nil,cF.nil,bU⟩,?_⟩;rintro i m vs H' ⟨rfl,hi,ys,M',hI,ts,m',rv,hv⟩;refine⟨hv,?_⟩;obtain⟨kp,hMp,hyl⟩:=hk i ys M' hi hI;obtain⟨k1,k2,k3⟩:=ok i M' H' ts m' kp;by_cases eX:i<xs.length
  ·refine .inr ⟨k2 eX,by rw[rv.length];lia,λv H2 y=> ?_⟩;obtain⟨ty,my,x,hx,r⟩:=k3 v H2 eX y;replace ts:=ts.trans ty;have oc:Ok K (capρ own fr ρ) M' (jr own fr σ) H2:=⟨(o.env.ts (t1.trans ts)).NQ own fr,my⟩
   refine ig.imp x v _ M' _ H2 _ _ oc r (hs i x ys M' hx hI) λρ3 M3 σ3 H3 h3 t3 o3=>ic.imp ρ3 M3 σ3 H3 _ _ o3 h3 λb M4 H4 h4 t4 m4=> ?_;cases b with
   | true=>simp only[bN] at h4 ⊢;refine ie.imp ρ3 M4 σ3 H4 _ _ (o3.mv t4 m4) h4 λz M5 u H5 ⟨h5,h6⟩ t5 m5 r5=> ?_;obtain⟨Iq,EC,Gu⟩:=m5 p _ h5;have S9:=(t3.trans t4).trans t5;have t6:=kD (u:= .lst (Iq++ [u])) EC;exact⟨Iq,EC,by rw[Gu.length];lia,_,by lia,rfl,eX,_,_,h6,(ts.trans S9).trans t6,m5.putL EC (Gu.snoc r5),(Gu.snoc r5).ts t6,bU⟩
   | false=>simp only[ay,bf] at h4 ⊢;obtain⟨Iq,EC,Gu⟩:=m4 p _ (hk (i+1) ys M4 eX h4).2.1;exact⟨Iq,_,by lia,rfl,eX,_,_,h4,ts.trans (t3.trans t4),m4,Gu,EC⟩
  ·have e':i=xs.length:=by lia
   subst e';exact .inl ⟨k1 rfl,k _ M' _ H' (hd ys M' hI) (t1.trans ts) m' WR.v⟩
def NX:WT:=λ_ M q=>q true M
instance:IT K Ow NX where
 imp:=λρ M σ H q Q o h k=>k _ M H h (bo.refl H) o.hp
end
section
variable {K:PySem.W.Frag}
theorem fQ.sub {M M':Mp}{H:Hp}(s:Sm M M')(m:fQ K M' H):fQ K M H:=λa o e=>m a o (s a o e)
theorem nX {P:Program}{w:World}{mg:Str ->Option Value}{base:Heap}{x qual:Str}{st:Stmt}{f:Addr}{fd:FuncData}{N ps:List Str}{k:Nat}{p:kb}(F:BR K x qual st f fd)(S:b7 N ps (aQ st))(len: ∀vs M q,p vs M q ->vs.length=ps.length) (l3: ∀ (dQ:Value) (A:Around) (outer:List Env) (s:Shared) (H:Hp) (E:XK),fD k (A.deeper (PyProof.Rows.envOfC qual (aQ st) s.heap.objs.size f dQ)) ->∃t,wF (eQ iV P w K mg base N qual (aQ st) f dQ A outer s H E).Lr (d3 st) t /\ ∃w',IS K t w' /\ ∀vs M q,p vs M q ->w' {nx:=λ_ M'=> ∃M0,Sm M0 M' /\ q wn M0,rt:=λx M'=> ∃M0,Sm M0 M' /\ q x M0} (vs.map some++List.replicate (N.length - vs.length) none) M): dI P w K mg base iV (k+1) f fd ps (ly K p):=by
 have h:=ZF (K:=K) (P:=P) (w:=w) (mg:=mg) (base:=base) (k:=k) (p:=λvs M q=> ∃q',p vs M q' /\ q=λx M'=> ∃M0,Sm M0 M' /\ q' x M0) F S (λvs M q ⟨q',h,_⟩=>len vs M q' h) λdQ A outer s H E hr=>by obtain⟨t,h1,w',h2,h3⟩:=l3 dQ A outer s H E hr;refine⟨t,w',h1,h2,?_⟩;rintro vs M q ⟨q',h,rfl⟩;exact h3 vs M q' h
 refine h.imp λvs H Q E ⟨xs,M,q,r,m,hp,hk⟩=>⟨xs,M,_,r,m,⟨q,hp,rfl⟩,?_⟩
 rintro x M' v H' ⟨M0,s,hq⟩ ts m' r';exact hk x M0 v H' hq ts (m'.sub s) r'
theorem Bl {xs:List W}{keep:Mp ->Prop}{M1:Mp}{own:Nat}{fr:List Nat}{ρ:dm}{g:WG}{c:WT}{el:WE}{q:WK}(f:W ->Option W)(hz:xs.length<=sizeLine)(iN: ∀M,Sm M1 M ->keep M) (hs: ∀ (i:Nat) x,xs[i]? =some x -> ∀ (M:Mp) (N:Option W ->Mp ->Prop),Sm M1 M ->N (f x) M ->g x (capρ own fr ρ) M λρ2 M2=>c ρ2 M2 λb M3=>if b=true then el ρ2 M3 λy M4=>N (some y) M4 else N none M3) (hq: ∀p,M1 p=none ->q (wr p) (um M1 p (.lst (xs.filterMap f)))): xs.length<=sizeLine /\ ∀p,M1 p=none -> ∃I:Nat ->List W ->Mp ->Prop,I 0 [] (um M1 p (.lst [])) /\(∀i ys M,i<=xs.length ->I i ys M ->keep M /\ M p=some (.lst ys) /\ ys.length<=i) /\(∀i x ys M,xs[i]? =some x ->I i ys M ->g x (capρ own fr ρ) M λρ2 M2=>c ρ2 M2 λb M3=>if b=true then el ρ2 M3 λy M4=>M4 p=some (.lst ys) /\ I (i+1) (ys++ [y]) (um M4 p (.lst (ys++ [y]))) else I (i+1) ys M3) /\∀ys M,I xs.length ys M ->q (wr p) M:=by
 refine⟨hz,λp hp=>⟨λi ys M=>M=um M1 p (.lst ys) /\ ys=(xs.take i).filterMap f,⟨rfl,by simp⟩,?_,?_,?_⟩⟩
 ·rintro i ys M hi ⟨rfl,rfl⟩;refine⟨iN _ (c4 hp),um_same,a4 (List.length_filterMap_le _ _) ?_⟩;rw[a6];lia
 ·rintro i x ys M hx ⟨rfl,rfl⟩;refine hs i x hx _ (λo M4=>match o with
  | some y=>M4 p=some (.lst ((xs.take i).filterMap f)) /\ (um M4 p (.lst ((xs.take i).filterMap f++ [y]))=um M1 p (.lst ((xs.take i).filterMap f++ [y])) /\ (xs.take i).filterMap f++ [y]=(xs.take (i+1)).filterMap f)
  | none=>M4=um M1 p (.lst ((xs.take i).filterMap f)) /\ (xs.take i).filterMap f=(xs.take (i+1)).filterMap f) (c4 hp) ?_
  have e:xs.take (i+1)=xs.take i++ [x]:=by rw[bD,hx];rfl
  cases hf:f x with
  | none=>exact⟨rfl,by rw[e,List.filterMap_append];simp[hf]⟩
  | some y=>exact⟨um_same,um_um,by rw[e,List.filterMap_append];simp[hf]⟩
 ·rintro ys M ⟨rfl,rfl⟩;rw[cn];exact hq p hp
mutual
def Bk:W ->Option Dt
 | .v .dB=>some .dB
 | .v (.bl b)=>some (.bl b)
 | .v (.int i)=>some (.int i)
 | .v (.str x)=>some (.str x)
 | .v _=>none
 | .tup l=>(nj l).map .tup
def nj:List W ->Option (List Dt)
 | []=>some []
 | x::r=>match Bk x,nj r with
  | some d,some l=>some (d::l)
  | _,_=>none
end
mutual
theorem C9 {H:Hp}: ∀ (x:W) (d:Dt) (v:V),Bk x=some d ->WR K H x v ->Rep K H d v
 | .v y,d,v,e,r=>by cases r.eq;cases y<;>simp only[Bk,Option.some.injEq,reduceCtorEq] at e<;>subst e<;>simp only[Rep]
 | .tup l,d,v,e,r=>by
  obtain⟨a,vs,rfl,hv,rr⟩:=r.tup;simp only[Bk] at e;cases hd:nj l with
  | none=>rw[hd] at e;cases e
  | some ds=>rw[hd] at e;cases e;simp only[Rep];exact⟨a,vs,rfl,hv,sQ l ds vs hd rr⟩
theorem sQ {H:Hp}: ∀ (l:List W) (ds:List Dt) (vs:List V),nj l=some ds ->cF K H l vs ->fP K H ds vs
 | [],ds,vs,e,r=>by simp only[nj] at e;cases e;simp only[cF] at r;simp only[fP];exact r
 | x ::l,ds,vs,e,r=>by
  simp only[nj] at e;cases hx:Bk x with
  | none=>rw[hx] at e;cases e
  | some d=>
   cases hl:nj l with
   | none=>rw[hx,hl] at e;cases e
   | some ds'=>rw[hx,hl] at e;cases e;simp only[cF] at r;obtain⟨v,t,rfl,r1,r2⟩:=r;simp only[fP];exact⟨v,t,rfl,C9 x d v hx r1,sQ l ds' t hl r2⟩
end
def DR (M:Mp)(x:W)(d:Dt):Prop:=Bk x=some d \/ ∃a l ds,x=wr a /\ M a=some (.lst l) /\ nj l=some ds /\ d= .lst ds
theorem DR.rep {M:Mp}{H:Hp}{x:W}{d:Dt}{v:V}(m:fQ K M H)(r:WR K H x v)(h:DR M x d):Rep K H d v:=by
 rcases h with h | ⟨a,l,ds,rfl,hl,e,rfl⟩
 ·exact C9 x d v h r
 ·cases r.eq;obtain⟨vs,hv,rr⟩:=m a _ hl;simp only[Rep];exact⟨a,vs,rfl,f6.of hv,sQ l ds vs e rr⟩
def Oa:wD:=λx y M q=> ∃d e,DR M x d /\ DR M y e /\ oq d e=true /\ wB d<=50 /\ q (wb (qt d e)) M
instance:IR K (O4 K) Oa where
 imp:=by rintro x y v u M H q Q m r1 r2 ⟨d,e,h1,h2,h3,h4,h⟩ k;exact⟨d,e,h3,h4,h1.rep m r1,h2.rep m r2,k _ M _ H h (bo.refl H) m WR.v⟩
instance {r r':R2}{t u s:TE}{a b c:WE}{w w':wD} [ir:IR K r w] [ZW:IR K r' w'] [ia:IE K t a] [ib:IE K u b] [ic:IE K s c]:IE K (CI r r' t u s) (Cj w w' a b c) where
 imp :=λρ M σ H q Q o h k=>ia.imp ρ M σ H _ _ o h λx M1 v H1 h1 t1 m1 r1=>ib.imp ρ M1 σ H1 _ _ (o.mv t1 m1) h1 λy M2 u H2 h2 t2 m2 r2=>ir.imp x y v u M2 H2 _ _ m2 (r1.ts t2) r2 h2 λz M3 v3 H3 ⟨kk,e,h3⟩ t3 m3 r3=>by
  subst e;refine⟨kk,r3.eq,?_⟩;cases kk with
  | true=>simp only[bN] at h3 ⊢;exact ic.imp ρ M3 σ H3 _ _ (o.mv ((t1.trans t2).trans t3) m3) h3 λy4 M4 v4 H4 h4 t4 m4 r4=>ZW.imp y y4 u v4 M4 H4 _ _ m4 (r2.ts (t3.trans t4)) r4 h4 λz5 M5 v5 H5 h5 t5 m5 r5=>k z5 M5 v5 H5 h5 ((((t1.trans t2).trans t3).trans t4).trans t5) m5 r5
  | false=>simp only[ay,bf] at h3 ⊢;exact k _ M3 _ H3 h3 ((t1.trans t2).trans t3) m3 WR.v
def B6:Aj:=λxs M q=> ∃ (d:Addr) (kvs:List (Key×W)) (ks:List Int),xs= [wr d] /\ M d=some (.dK kvs) /\ kvs.map (·.1)=ks.map Sum.inl /\ ks.length<=sizeLine /\ ∀ (p:Addr) (ns:List Int),M p=none ->ns.Perm ks ->ns.Pairwise (· <= ·) ->q (wr p) (um M p (.lst (ns.map wi)))
instance:IC K uV B6 where
 imp:=by rintro xs v M H q Q m r1 ⟨d,kvs,ks,rfl,hd,hk,hl,h⟩ k;obtain⟨v,rfl,r⟩:=r1.one;cases r.eq;obtain⟨vs,hv,rr⟩:=m d _ hd;exact⟨d,vs,ks,rfl,hv,by rw[rr.keys];exact hk,hl,λp ns hp h1 h2=>k _ _ _ _ (h p ns (m.fresh hp) h1 h2) (L2.eg.ts (b8 hp)) (m.nY hp (cF.ofInts ns)) WR.v⟩
end
end WL
namespace WL
open PySem L2
theorem atI_0 {α:Type}{a:α}{l:List α}:kj (a::l) 0=some a:=gg (j:=0) (by rfl)
theorem atI_1 {α:Type}{a b:α}{l:List α}:kj (a::b::l) 1=some b:=gg (j:=1) (by rfl)
theorem atI_2 {α:Type}{a b c:α}{l:List α}:kj (a::b::c::l) 2=some c:=gg (j:=2) (by rfl)
theorem atI_3 {α:Type}{a b c d:α}{l:List α}:kj (a::b::c::d::l) 3=some d:=gg (j:=3) (by rfl)
theorem ixN_1 {n:Nat}:pH (n+1+1) 1=some 1:=by unfold pH;rw[ak (by lia),ak (by lia)];rfl
theorem ixN_2 {n:Nat}:pH (n+1+1+1) 2=some 2:=by unfold pH;rw[ak (by lia),ak (by lia)];rfl
theorem ixN_3 {n:Nat}:pH (n+1+1+1+1) 3=some 3:=by unfold pH;rw[ak (by lia),ak (by lia)];rfl
theorem HM {α:Type}{l:List α}{i:Int}{a:α}(h0:0<=i)(h:l[i.toNat]? =some a):kj l i=some a:=by
 have e:((i.toNat:Nat):Int)=i:=by lia
 rw[<- e];exact gg h
theorem kr {M:Mp}{P:Mp ->Prop}(h:P M): ∃M0,Sm M0 M /\ P M0:=⟨M,Sm.refl M,h⟩
def NB (d:Addr)(M M':Mp):Prop:= ∀b,b≠d ->M' b=M b
theorem NB.refl (d:Addr)(M:Mp):NB d M M:=λ_ _=>rfl
theorem NB.trans {d:Addr}{M M1 M2:Mp}(a:NB d M M1)(b:NB d M1 M2):NB d M M2:=λc n=>(b c n).trans (a c n)
theorem NB.put {d:Addr}{M:Mp}{o:MO}:NB d M (um M d o):=λb n=>aJ n
def Dr (M:Mp)(d l:Addr):Prop:= ∃ (ns:List Int) (i c s:Int),M d=some (.lst [wr l,wi i,wi c,wi s]) /\ M l=some (.lst (ns.map wi)) /\ 0<=i /\ d≠l
theorem Dr.put {M:Mp}{d l p:Addr}{o:MO}(h:Dr M d l)(hp:M p=none):Dr (um M p o) d l:=by obtain⟨ns,i,c,s,h1,h2,h3,h4⟩:=h;exact⟨ns,i,c,s,by rw[aJ (dw h1 hp)];exact h1,by rw[aJ (dw h2 hp)];exact h2,h3,h4⟩
theorem Dr.K9 {M:Mp}{d l p:Addr}{o:MO}(h:Dr M d l)(hd:p≠d)(hl:p≠l):Dr (um M p o) d l:=by obtain⟨ns,i,c,s,h1,h2,h3,h4⟩:=h;exact⟨ns,i,c,s,by rw[aJ hd.symm];exact h1,by rw[aJ hl.symm];exact h2,h3,h4⟩
theorem Dr.ne {M:Mp}{d l p:Addr}(h:Dr M d l)(hp:M p=none):p≠d /\ p≠l:=by obtain⟨ns,i,c,s,h1,h2,h3,h4⟩:=h;exact⟨(dw h1 hp).symm,(dw h2 hp).symm⟩
def dy (q:Int×Int):W:= .tup [wi q.1,wi q.2]
def cR (l:List (Int×Int)):W:= .tup (l.map dy)
theorem pairs_at {l:List (Int×Int)}{i:Nat}{x:W}(h:(l.map dy)[i]? =some x): ∃q,l[i]? =some q /\ x=dy q:=by
 rw[aA] at h;cases e:l[i]? with
 | none=>rw[e] at h;cases h
 | some q=>rw[e] at h;cases h;exact⟨q,rfl,rfl⟩
theorem pJ {l:List Int}{i:Nat}{x:W}(h:(l.map wi)[i]? =some x): ∃n,l[i]? =some n /\ x=wi n:=by
 rw[aA] at h;cases e:l[i]? with
 | none=>rw[e] at h;cases h
 | some q=>rw[e] at h;cases h;exact⟨q,rfl,rfl⟩
theorem lH {lo:Int}{n i:Nat}{x:W}(h:(fG lo n)[i]? =some x):i<n /\ x=wi (lo+i):=by
 unfold fG at h;rw[aA] at h;by_cases hi:i<n
 ·rw[List.getElem?_range hi] at h;cases h;exact⟨hi,rfl⟩
 ·rw[cZ (by simpa using hi)] at h;cases h
theorem iG {lo:Int}{n:Nat}:(fG lo n).length=n:=by simp[fG]
def lstK (o:Option MO)(k:List W ->Prop):Prop:= ∃l,o=some (.lst l) /\ k l
def ja (o:Option MO)(k:List (Key×W) ->Prop):Prop:= ∃l,o=some (.dK l) /\ k l
def qm {α:Type}(o:Option α)(k:α ->Prop):Prop:= ∃a,o=some a /\ k a
def gR (C Q:Prop):Prop:=C /\ Q
def gM (b:Bool)(A B:Prop):Prop:=if b=true then A else B
def px (M:Mp)(k:Addr ->Prop):Prop:= ∀p,M p=none ->k p
def Ft (p:kb)(xs:List W)(M:Mp)(q:WK):Prop:=p xs M q
def PV (x:W)(M:Mp)(q:Bool ->Mp ->Prop):Prop:= ∃k,x=wb k /\ q k M
def fS (x:W)(k:Addr ->Prop):Prop:= ∃a,x=wr a /\ k a
def tupK (x:W)(k:List W ->Prop):Prop:= ∃l,x= .tup l /\ k l
def KG (M:Mp)(x:W)(k:Bool ->Prop):Prop:= ∃b,F' M x b /\ k b
def m8 (x:W)(k:Key ->Prop):Prop:= ∃y,x=eZ y /\ k y
def QX (xs:List W)(keep:Mp ->Prop)(g:WG)(b:WS)(D:iR)(ρ:dm)(M1:Mp):Prop:= ∃I:Nat ->dm ->Mp ->Prop,I 0 ρ M1 /\ (∀i ρ M,i<=xs.length ->I i ρ M ->keep M) /\(∀i x ρ M,xs[i]? =some x ->I i ρ M ->g x ρ M λρ2 M2=>b {D with nx:=I (i+1),ct:=I (i+1),bk:=D.nx} ρ2 M2) /\ ∀ρ M,I xs.length ρ M ->D.nx ρ M
def rP (xs:List W)(keep:Mp ->Prop)(own:Nat)(fr:List Nat)(g:WG)(c:WT)(el:WE)(ρ:dm)(M1:Mp)(q:WK):Prop:=xs.length<=sizeLine /\ ∀p,M1 p=none -> ∃I:Nat ->List W ->Mp ->Prop,I 0 [] (um M1 p (.lst [])) /\(∀i ys M,i<=xs.length ->I i ys M ->keep M /\ M p=some (.lst ys) /\ ys.length<=i) /\(∀i x ys M,xs[i]? =some x ->I i ys M ->g x (capρ own fr ρ) M λρ2 M2=>c ρ2 M2 λb M3=>if b=true then el ρ2 M3 λy M4=>M4 p=some (.lst ys) /\ I (i+1) (ys++ [y]) (um M4 p (.lst (ys++ [y]))) else I (i+1) ys M3) /\∀ys M,I xs.length ys M ->q (wr p) M
def BY (c:WT)(b:WS)(D:iR)(ρ:dm)(M:Mp):Prop:=xf c b D ρ M
section
variable {M:Mp}{ρ:dm}{q:WK}{a b c:WE}{D:iR}
theorem lstK_e {l:List W}{k:List W ->Prop}:lstK (some (.lst l)) k=k l:=by apply propext;constructor;(· rintro⟨_,h,k⟩;cases h;exact k);(· intro h;exact⟨_,rfl,h⟩)
theorem dicK_e {l:List (Key×W)}{k:List (Key×W) ->Prop}:ja (some (.dK l)) k=k l:=by apply propext;constructor;(· rintro⟨_,h,k⟩;cases h;exact k);(· intro h;exact⟨_,rfl,h⟩)
theorem optK_e {α:Type}{x:α}{k:α ->Prop}:qm (some x) k=k x:=by apply propext;constructor;(· rintro⟨_,h,k⟩;cases h;exact k);(· intro h;exact⟨_,rfl,h⟩)
theorem andK_e {Q:Prop}:gR True Q=Q:=by simp[gR]
theorem iteK_t {A B:Prop}:gM true A B=A:=by simp[gM]
theorem iteK_f {A B:Prop}:gM false A B=B:=by simp[gM]
theorem isB_e {k:Bool}{q:Bool ->Mp ->Prop}:PV (.v (.bl k)) M q=q k M:=by apply propext;constructor;(· rintro⟨_,h,k⟩;cases h;exact k);(· intro h;exact⟨_,rfl,h⟩)
theorem refK_e {x:Addr}{k:Addr ->Prop}:fS (.v (.ref x)) k=k x:=by apply propext;constructor;(· rintro⟨_,h,k⟩;cases h;exact k);(· intro h;exact⟨_,rfl,h⟩)
theorem tupK_e {x:List W}{k:List W ->Prop}:tupK (.tup x) k=k x:=by apply propext;constructor;(· rintro⟨_,h,k⟩;cases h;exact k);(· intro h;exact⟨_,rfl,h⟩)
theorem keyK_i {i:Int}{k:Key ->Prop}:m8 (.v (.int i)) k=k (.inl i):=by apply propext;constructor;(· rintro⟨y,h,z⟩;cases y<;>cases h;exact z);(· intro h;exact⟨.inl i,rfl,h⟩)
theorem wVar_0 {x:W}{r:dm}:fR 0 (some x::r) M q=q x M:=rfl
theorem wVar_1 {x0:Option W}{x:W}{r:dm}:fR 1 (x0::some x::r) M q=q x M:=rfl
theorem wVar_2 {x0 x1:Option W}{x:W}{r:dm}:fR 2 (x0::x1::some x::r) M q=q x M:=rfl
theorem wVar_3 {x0 x1 x2:Option W}{x:W}{r:dm}:fR 3 (x0::x1::x2::some x::r) M q=q x M:=rfl
theorem wVar_4 {x0 x1 x2 x3:Option W}{x:W}{r:dm}:fR 4 (x0::x1::x2::x3::some x::r) M q=q x M:=rfl
theorem wVar_5 {x0 x1 x2 x3 x4:Option W}{x:W}{r:dm}:fR 5 (x0::x1::x2::x3::x4::some x::r) M q=q x M:=rfl
theorem wVar_6 {x0 x1 x2 x3 x4 x5:Option W}{x:W}{r:dm}:fR 6 (x0::x1::x2::x3::x4::x5::some x::r) M q=q x M:=rfl
theorem wVar_7 {x0 x1 x2 x3 x4 x5 x6:Option W}{x:W}{r:dm}:fR 7 (x0::x1::x2::x3::x4::x5::x6::some x::r) M q=q x M:=rfl
theorem wVar_8 {x0 x1 x2 x3 x4 x5 x6 x7:Option W}{x:W}{r:dm}:fR 8 (x0::x1::x2::x3::x4::x5::x6::x7::some x::r) M q=q x M:=rfl
theorem wVar_9 {x0 x1 x2 x3 x4 x5 x6 x7 x8:Option W}{x:W}{r:dm}:fR 9 (x0::x1::x2::x3::x4::x5::x6::x7::x8::some x::r) M q=q x M:=rfl
theorem wVar_10 {x0 x1 x2 x3 x4 x5 x6 x7 x8 x9:Option W}{x:W}{r:dm}:fR 10 (x0::x1::x2::x3::x4::x5::x6::x7::x8::x9::some x::r) M q=q x M:=rfl
theorem wVar_11 {x0 x1 x2 x3 x4 x5 x6 x7 x8 x9 nV:Option W}{x:W}{r:dm}:fR 11 (x0::x1::x2::x3::x4::x5::x6::x7::x8::x9::nV::some x::r) M q=q x M:=rfl
theorem wVar_12 {x0 x1 x2 x3 x4 x5 x6 x7 x8 x9 nV oI:Option W}{x:W}{r:dm}:fR 12 (x0::x1::x2::x3::x4::x5::x6::x7::x8::x9::nV::oI::some x::r) M q=q x M:=rfl
theorem wVar_13 {x0 x1 x2 x3 x4 x5 x6 x7 x8 x9 nV oI qe:Option W}{x:W}{r:dm}:fR 13 (x0::x1::x2::x3::x4::x5::x6::x7::x8::x9::nV::oI::qe::some x::r) M q=q x M:=rfl
theorem wVar_14 {x0 x1 x2 x3 x4 x5 x6 x7 x8 x9 nV oI qe sf:Option W}{x:W}{r:dm}:fR 14 (x0::x1::x2::x3::x4::x5::x6::x7::x8::x9::nV::oI::qe::sf::some x::r) M q=q x M:=rfl
theorem wVar_15 {x0 x1 x2 x3 x4 x5 x6 x7 x8 x9 nV oI qe sf ux:Option W}{x:W}{r:dm}:fR 15 (x0::x1::x2::x3::x4::x5::x6::x7::x8::x9::nV::oI::qe::sf::ux::some x::r) M q=q x M:=rfl
theorem wVar_16 {x0 x1 x2 x3 x4 x5 x6 x7 x8 x9 nV oI qe sf ux wG:Option W}{x:W}{r:dm}:fR 16 (x0::x1::x2::x3::x4::x5::x6::x7::x8::x9::nV::oI::qe::sf::ux::wG::some x::r) M q=q x M:=rfl
theorem wVar_17 {x0 x1 x2 x3 x4 x5 x6 x7 x8 x9 nV oI qe sf ux wG An:Option W}{x:W}{r:dm}:fR 17 (x0::x1::x2::x3::x4::x5::x6::x7::x8::x9::nV::oI::qe::sf::ux::wG::An::some x::r) M q=q x M:=rfl
theorem wVar_18 {x0 x1 x2 x3 x4 x5 x6 x7 x8 x9 nV oI qe sf ux wG An BU:Option W}{x:W}{r:dm}:fR 18 (x0::x1::x2::x3::x4::x5::x6::x7::x8::x9::nV::oI::qe::sf::ux::wG::An::BU::some x::r) M q=q x M:=rfl
theorem wVar_19 {x0 x1 x2 x3 x4 x5 x6 x7 x8 x9 nV oI qe sf ux wG An BU F6:Option W}{x:W}{r:dm}:fR 19 (x0::x1::x2::x3::x4::x5::x6::x7::x8::x9::nV::oI::qe::sf::ux::wG::An::BU::F6::some x::r) M q=q x M:=rfl
theorem wVar_20 {x0 x1 x2 x3 x4 x5 x6 x7 x8 x9 nV oI qe sf ux wG An BU F6 Kk:Option W}{x:W}{r:dm}:fR 20 (x0::x1::x2::x3::x4::x5::x6::x7::x8::x9::nV::oI::qe::sf::ux::wG::An::BU::F6::Kk::some x::r) M q=q x M:=rfl
theorem wVar_21 {x0 x1 x2 x3 x4 x5 x6 x7 x8 x9 nV oI qe sf ux wG An BU F6 Kk NT:Option W}{x:W}{r:dm}:fR 21 (x0::x1::x2::x3::x4::x5::x6::x7::x8::x9::nV::oI::qe::sf::ux::wG::An::BU::F6::Kk::NT::some x::r) M q=q x M:=rfl
theorem wVar_22 {x0 x1 x2 x3 x4 x5 x6 x7 x8 x9 nV oI qe sf ux wG An BU F6 Kk NT SU:Option W}{x:W}{r:dm}:fR 22 (x0::x1::x2::x3::x4::x5::x6::x7::x8::x9::nV::oI::qe::sf::ux::wG::An::BU::F6::Kk::NT::SU::some x::r) M q=q x M:=rfl
theorem wVar_23 {x0 x1 x2 x3 x4 x5 x6 x7 x8 x9 nV oI qe sf ux wG An BU F6 Kk NT SU Y3:Option W}{x:W}{r:dm}:fR 23 (x0::x1::x2::x3::x4::x5::x6::x7::x8::x9::nV::oI::qe::sf::ux::wG::An::BU::F6::Kk::NT::SU::Y3::some x::r) M q=q x M:=rfl
theorem wC_e {x:W}:wC x ρ M q=q x M:=rfl
theorem wOp_e {r:wD}:Xd r a b ρ M q=a ρ M λx M1=>b ρ M1 λy M2=>r x y M2 q:=rfl
theorem wUn_e {r:W ->Mp ->WK ->Prop}:Xa r a ρ M q=a ρ M λx M1=>r x M1 q:=rfl
theorem wI_e {C:Int ->Int ->Prop}{g:Int ->Int ->V}{i j:Int}:wI C g (.v (.int i)) (.v (.int j)) M q=gR (C i j) (q (.v (g i j)) M):=by apply propext;constructor;(· rintro⟨_,_,h1,h2,k⟩;cases h1;cases h2;exact k);(· intro h;exact⟨_,_,rfl,rfl,h⟩)
theorem wI0_e {g:Int ->Int ->V}{i j:Int}:Xf g (.v (.int i)) (.v (.int j)) M q=q (.v (g i j)) M:=by apply propext;constructor;(· rintro⟨_,_,h1,h2,k⟩;cases h1;cases h2;exact k);(· intro h;exact⟨_,_,rfl,rfl,h⟩)
theorem wU_e {g:Int ->V}{i:Int}:wU g (.v (.int i)) M q=q (.v (g i)) M:=by apply propext;constructor;(· rintro⟨_,h,k⟩;cases h;exact k);(· intro h;exact⟨_,rfl,h⟩)
theorem wEq_i {i j:Int}:Xg (.v (.int i)) (.v (.int j)) M q=q (wb (decide (i=j))) M:=by apply propext;constructor;(· rintro⟨_,_,h1,h2,_,k⟩;cases h1;cases h2;simpa using k);(· intro h;exact⟨_,_,rfl,rfl,rfl,by simpa using h⟩)
theorem wNe_i {i j:Int}:Xe (.v (.int i)) (.v (.int j)) M q=q (wb (!decide (i=j))) M:=by apply propext;constructor;(· rintro⟨_,_,h1,h2,_,k⟩;cases h1;cases h2;simpa using k);(· intro h;exact⟨_,_,rfl,rfl,rfl,by simpa using h⟩)
theorem wTest_e {q:Bool ->Mp ->Prop}:B0 a ρ M q=a ρ M λx M1=>PV x M1 q:=rfl
theorem wAnd_e {a b:WT}{q:Bool ->Mp ->Prop}:Oc a b ρ M q=a ρ M λc M1=>gM c (b ρ M1 q) (q false M1):=rfl
theorem wOr_e {a b:WT}{q:Bool ->Mp ->Prop}:Xc a b ρ M q=a ρ M λc M1=>gM c (q true M1) (b ρ M1 q):=rfl
theorem wNot_e {a:WT}{q:Bool ->Mp ->Prop}:N4 a ρ M q=a ρ M λc M1=>q (!c) M1:=rfl
theorem wAndV_e:Ip a b ρ M q=a ρ M λx M1=>PV x M1 λc M1=>gM c (b ρ M1 q) (q (wb false) M1):=rfl
theorem wNotV_e:Ii a ρ M q=a ρ M λx M1=>PV x M1 λc M1=>q (wb (!c)) M1:=rfl
theorem wChain_e {r r':wD}:Cj r r' a b c ρ M q=a ρ M λx M1=>b ρ M1 λy M2=>r x y M2 λz M3=>PV z M3 λk M3=>gM k (c ρ M3 λy' M4=>r' y y' M4 q) (q (wb false) M3):=rfl
theorem wNil_e {q:List W ->Mp ->Prop}:N5 ρ M q=q [] M:=rfl
theorem wCons_e {r:WA}{q:List W ->Mp ->Prop}:Il a r ρ M q=a ρ M λx M1=>r ρ M1 λxs M2=>q (x::xs) M2:=rfl
theorem wTup_e {a:WA}:NY a ρ M q=a ρ M λxs M1=>gR (xs.length<=sizeLine) (q (.tup xs) M1):=rfl
theorem wLst_e {a:WA}:N6 a ρ M q=a ρ M λxs M1=>gR (xs.length<=sizeLine) (px M1 λp=>q (wr p) (um M1 p (.lst xs))):=rfl
theorem wIxL_e {x:Addr}{i:Int}:N8 (.v (.ref x)) (.v (.int i)) M q=lstK (M x) λl=>qm (kj l i) λu=>q u M:=by apply propext;constructor;(· rintro⟨_,l,_,u,h1,h2,h3,h4,k⟩;cases h1;cases h2;exact⟨l,h3,u,h4,k⟩);(· rintro⟨l,h3,u,h4,k⟩;exact⟨_,l,_,u,rfl,rfl,h3,h4,k⟩)
theorem wIxT_e {l:List W}{i:Int}:N7 (.tup l) (.v (.int i)) M q=qm (kj l i) λu=>q u M:=by apply propext;constructor;(· rintro⟨_,_,u,h1,h2,h4,k⟩;cases h1;cases h2;exact⟨u,h4,k⟩);(· rintro⟨u,h4,k⟩;exact⟨_,_,u,rfl,rfl,h4,k⟩)
theorem wNoPart_e {q:Option Int ->Mp ->Prop}:yp ρ M q=q none M:=rfl
def Hd (x:W)(k:Int ->Prop):Prop:= ∃i,x=wi i /\ k i
theorem intK_e {i:Int}{k:Int ->Prop}:Hd (.v (.int i)) k=k i:=by apply propext;constructor;(· rintro⟨_,h,k⟩;cases h;exact k);(· intro h;exact⟨_,rfl,h⟩)
theorem wPart_e {q:Option Int ->Mp ->Prop}:Ih a ρ M q=a ρ M λx M1=>Hd x λi=>q (some i) M1:=rfl
theorem wSl_e {r:Rb}{lo hi:WO}:Xb r a lo hi ρ M q=a ρ M λx M1=>lo ρ M1 λl M2=>hi ρ M2 λu M3=>r x l u M3 q:=rfl
theorem wSlL_e {x:Addr}{lo hi:Option Int}:N1 (.v (.ref x)) lo hi M q=lstK (M x) λl=>px M λp=>q (wr p) (um M p (.lst (yc l lo hi))):=by apply propext;constructor;(· rintro⟨_,l,h1,h3,k⟩;cases h1;exact⟨l,h3,k⟩);(· rintro⟨l,h3,k⟩;exact⟨_,l,rfl,h3,k⟩)
theorem wCB_e {r:Aj}{a:WA}:Xh r a ρ M q=a ρ M λxs M1=>r xs M1 q:=rfl
theorem wCall_e {p:kb}{a:WA}:Io p a ρ M q=a ρ M λxs M1=>Ft p xs M1 q:=rfl
theorem wLen_l {x:Addr}:Ko [.v (.ref x)] M q=lstK (M x) λl=>q (wi l.length) M:=by apply propext;constructor;(· rintro(⟨_,l,h1,h2,k⟩ | ⟨_,h1,_⟩);(· cases h1;exact⟨l,h2,k⟩);cases h1);(· rintro⟨l,h3,k⟩;exact .inl ⟨_,l,rfl,h3,k⟩)
theorem wLen_t {l:List W}:Ko [.tup l] M q=q (wi l.length) M:=by apply propext;constructor;(· rintro(⟨_,l,h1,h2,k⟩ | ⟨_,h1,k⟩);(· cases h1);cases h1;exact k);(· intro k;exact .inr ⟨l,rfl,k⟩)
theorem wAbs_e {i:Int}:Oe [.v (.int i)] M q=q (wi (if i<0 then -i else i)) M:=by apply propext;constructor;(· rintro⟨_,h,k⟩;cases h;exact k);(· intro h;exact⟨_,rfl,h⟩)
theorem wListOf_l {x:Addr}:sk [.v (.ref x)] M q=lstK (M x) λl=>px M λp=>q (wr p) (um M p (.lst l)):=by apply propext;constructor;(· rintro⟨l,⟨_,h1,h2⟩ | h1,k⟩;(· cases h1;exact⟨l,h2,k⟩);cases h1);(· rintro⟨l,h3,k⟩;exact⟨l, .inl ⟨_,rfl,h3⟩,k⟩)
theorem wListOf_t {l:List W}:sk [.tup l] M q=px M λp=>q (wr p) (um M p (.lst l)):=by apply propext;constructor;(· rintro⟨l,⟨_,h1,h2⟩ | h1,k⟩;(· cases h1);cases h1;exact k);(· intro k;exact⟨l, .inr rfl,k⟩)
theorem wTupleOf_l {x:Addr}:uy [.v (.ref x)] M q=lstK (M x) λl=>q (.tup l) M:=by apply propext;constructor;(· rintro⟨l,⟨_,h1,h2⟩ | h1,k⟩;(· cases h1;exact⟨l,h2,k⟩);cases h1);(· rintro⟨l,h3,k⟩;exact⟨l, .inl ⟨_,rfl,h3⟩,k⟩)
theorem wIsX_e {K:PySem.W.Frag}{x:W}{T:String}:N9 K [x, .v (.ty T)] M q=qm (tyW M x) λt=>qm (PySem.W.kitOne K t (.type T)) λb=>q (wb b) M:=by apply propext;constructor;(· rintro⟨_,_,t,b,h1,h2,h3,k⟩;cases h1;exact⟨t,h2,b,h3,k⟩);(· rintro⟨t,h2,b,h3,k⟩;exact⟨_,_,t,b,rfl,h2,h3,k⟩)
theorem kit_int_int {K:PySem.W.Frag}:PySem.W.kitOne K (.type "int") (.type "int")=some true:=rfl
theorem kit_int_bool {K:PySem.W.Frag}:PySem.W.kitOne K (.type "int") (.type "bool")=some false:=rfl
theorem kit_int_str {K:PySem.W.Frag}:PySem.W.kitOne K (.type "int") (.type "str")=some false:=rfl
theorem kit_int_tuple {K:PySem.W.Frag}:PySem.W.kitOne K (.type "int") (.type "tuple")=some false:=rfl
theorem kit_int_list {K:PySem.W.Frag}:PySem.W.kitOne K (.type "int") (.type "list")=some false:=rfl
theorem kit_bool_int {K:PySem.W.Frag}:PySem.W.kitOne K (.type "bool") (.type "int")=some true:=rfl
theorem kit_bool_bool {K:PySem.W.Frag}:PySem.W.kitOne K (.type "bool") (.type "bool")=some true:=rfl
theorem kit_bool_str {K:PySem.W.Frag}:PySem.W.kitOne K (.type "bool") (.type "str")=some false:=rfl
theorem kit_bool_tuple {K:PySem.W.Frag}:PySem.W.kitOne K (.type "bool") (.type "tuple")=some false:=rfl
theorem kit_bool_list {K:PySem.W.Frag}:PySem.W.kitOne K (.type "bool") (.type "list")=some false:=rfl
theorem kit_str_int {K:PySem.W.Frag}:PySem.W.kitOne K (.type "str") (.type "int")=some false:=rfl
theorem kit_str_bool {K:PySem.W.Frag}:PySem.W.kitOne K (.type "str") (.type "bool")=some false:=rfl
theorem kit_str_str {K:PySem.W.Frag}:PySem.W.kitOne K (.type "str") (.type "str")=some true:=rfl
theorem kit_str_tuple {K:PySem.W.Frag}:PySem.W.kitOne K (.type "str") (.type "tuple")=some false:=rfl
theorem kit_str_list {K:PySem.W.Frag}:PySem.W.kitOne K (.type "str") (.type "list")=some false:=rfl
theorem kit_NoneType_int {K:PySem.W.Frag}:PySem.W.kitOne K (.type "NoneType") (.type "int")=some false:=rfl
theorem kit_NoneType_bool {K:PySem.W.Frag}:PySem.W.kitOne K (.type "NoneType") (.type "bool")=some false:=rfl
theorem kit_NoneType_str {K:PySem.W.Frag}:PySem.W.kitOne K (.type "NoneType") (.type "str")=some false:=rfl
theorem kit_NoneType_tuple {K:PySem.W.Frag}:PySem.W.kitOne K (.type "NoneType") (.type "tuple")=some false:=rfl
theorem kit_NoneType_list {K:PySem.W.Frag}:PySem.W.kitOne K (.type "NoneType") (.type "list")=some false:=rfl
theorem kit_tuple_int {K:PySem.W.Frag}:PySem.W.kitOne K (.type "tuple") (.type "int")=some false:=rfl
theorem kit_tuple_bool {K:PySem.W.Frag}:PySem.W.kitOne K (.type "tuple") (.type "bool")=some false:=rfl
theorem kit_tuple_str {K:PySem.W.Frag}:PySem.W.kitOne K (.type "tuple") (.type "str")=some false:=rfl
theorem kit_tuple_tuple {K:PySem.W.Frag}:PySem.W.kitOne K (.type "tuple") (.type "tuple")=some true:=rfl
theorem kit_tuple_list {K:PySem.W.Frag}:PySem.W.kitOne K (.type "tuple") (.type "list")=some false:=rfl
theorem kit_list_int {K:PySem.W.Frag}:PySem.W.kitOne K (.type "list") (.type "int")=some false:=rfl
theorem kit_list_bool {K:PySem.W.Frag}:PySem.W.kitOne K (.type "list") (.type "bool")=some false:=rfl
theorem kit_list_str {K:PySem.W.Frag}:PySem.W.kitOne K (.type "list") (.type "str")=some false:=rfl
theorem kit_list_tuple {K:PySem.W.Frag}:PySem.W.kitOne K (.type "list") (.type "tuple")=some false:=rfl
theorem kit_list_list {K:PySem.W.Frag}:PySem.W.kitOne K (.type "list") (.type "list")=some true:=rfl
theorem wBM_e {r:WM}{b:WA}:S0 r a b ρ M q=a ρ M λx M1=>fS x λp=>lstK (M1 p) λ_=>b ρ M1 λxs M2=>r x xs M2 q:=by unfold S0 IsL fS lstK;congr 1;funext x M1;apply propext;constructor;(· rintro⟨⟨p,l,h1,h2⟩,k⟩;exact⟨p,h1,l,h2,k⟩);(· rintro⟨p,h1,l,h2,k⟩;exact⟨⟨p,l,h1,h2⟩,k⟩)
theorem wAppend_e {x:Addr}{y:W}:yq (.v (.ref x)) [y] M q=lstK (M x) λl=>gR (l.length<sizeLine) (q wn (um M x (.lst (l++ [y])))):=by apply propext;constructor;(· rintro⟨_,l,_,h1,h2,h3,h4,k⟩;cases h1;cases h2;exact⟨l,h3,h4,k⟩);(· rintro⟨l,h3,h4,k⟩;exact⟨_,l,_,rfl,rfl,h3,h4,k⟩)
theorem wCat_e {x y:Addr}:Ob (.v (.ref x)) (.v (.ref y)) M q=lstK (M x) λl=>lstK (M y) λl'=>gR (l.length+l'.length<=sizeLine) (px M λp=>q (wr p) (um M p (.lst (l++l')))):=by apply propext;constructor;(· rintro⟨_,_,l,l',h1,h2,h3,h4,h5,k⟩;cases h1;cases h2;exact⟨l,h3,l',h4,h5,k⟩);(· rintro⟨l,h3,l',h4,h5,k⟩;exact⟨_,_,l,l',rfl,rfl,h3,h4,h5,k⟩)
theorem wTruth_e {q:Bool ->Mp ->Prop}:BZ a ρ M q=a ρ M λx M1=>KG M1 x λk=>q k M1:=rfl
theorem wDNew_e:Ik ρ M q=px M λp=>q (wr p) (um M p (.dK [])):=rfl
theorem wDGet_e:Cg a b ρ M q=a ρ M λx M1=>b ρ M1 λy M2=>fS x λp=>m8 y λk=>ja (M2 p) λkvs=>qm (d5 kvs k) λz=>q z M2:=by unfold Cg fS m8 ja qm;congr 1;funext x M1;congr 1;funext y M2;apply propext;constructor;(· rintro⟨p,kvs,k,z,h1,h2,h3,h4,h⟩;exact⟨p,h1,k,h3,kvs,h2,z,h4,h⟩);(· rintro⟨p,h1,k,h3,kvs,h2,z,h4,h⟩;exact⟨p,kvs,k,z,h1,h2,h3,h4,h⟩)
theorem wDNotIn_e:sv a b ρ M q=a ρ M λy M1=>b ρ M1 λx M2=>fS x λp=>m8 y λk=>ja (M2 p) λkvs=>q (wb (!(d5 kvs k).isSome)) M2:=by unfold sv fS m8 ja;congr 1;funext x M1;congr 1;funext y M2;apply propext;constructor;(· rintro⟨p,kvs,k,h1,h2,h3,h⟩;exact⟨p,h1,k,h3,kvs,h2,h⟩);(· rintro⟨p,h1,k,h3,kvs,h2,h⟩;exact⟨p,kvs,k,h1,h2,h3,h⟩)
theorem wDGet2_e:wL a b c ρ M q=a ρ M λx M1=>fS x λp=>ja (M1 p) λ_=>b ρ M1 λy M2=>c ρ M2 λz M3=>m8 y λk=>ja (M3 p) λkvs=>q ((d5 kvs k).getD z) M3:=by
 unfold wL fS m8 ja;congr 1;funext x M1;apply propext;constructor
 ·rintro⟨p,h1,⟨kvs,h2⟩,h⟩;refine⟨p,h1,kvs,h2,?_⟩;have e:(λy M2=>c ρ M2 λz M3=> ∃kvs k,M3 p=some (.dK kvs) /\ y=eZ k /\ q ((d5 kvs k).getD z) M3)=(λy M2=>c ρ M2 λz M3=> ∃k,y=eZ k /\ ∃kvs,M3 p=some (.dK kvs) /\ q ((d5 kvs k).getD z) M3):=by
   funext y M2;congr 1;funext z M3;apply propext;constructor
   ·rintro⟨a,b,c,d,e⟩;exact⟨b,d,a,c,e⟩
   ·rintro⟨b,d,a,c,e⟩;exact⟨a,b,c,d,e⟩
  rw[<- e];exact h
 ·rintro⟨p,h1,kvs,h2,h⟩;refine⟨p,h1,⟨kvs,h2⟩,?_⟩;have e:(λy M2=>c ρ M2 λz M3=> ∃kvs k,M3 p=some (.dK kvs) /\ y=eZ k /\ q ((d5 kvs k).getD z) M3)=(λy M2=>c ρ M2 λz M3=> ∃k,y=eZ k /\ ∃kvs,M3 p=some (.dK kvs) /\ q ((d5 kvs k).getD z) M3):=by
   funext y M2;congr 1;funext z M3;apply propext;constructor
   ·rintro⟨a,b,c,d,e⟩;exact⟨b,d,a,c,e⟩
   ·rintro⟨b,d,a,c,e⟩;exact⟨a,b,c,d,e⟩
  rw[e];exact h
theorem cP {a b:WS}:Gq a b D ρ M=a {nx:=b D,rt:=D.rt,bk:=D.bk,ct:=D.ct} ρ M:=rfl
theorem sNext_e:IZ D ρ M=D.nx ρ M:=rfl
theorem sCont_e:Jc D ρ M=D.ct ρ M:=rfl
theorem sDrop_e:I0 a D ρ M=a ρ M λ_ M1=>D.nx ρ M1:=rfl
theorem sRet_e:OP a D ρ M=a ρ M D.rt:=rfl
theorem sRetN_e:IY D ρ M=D.rt wn M:=rfl
theorem sIf_e {c:WT}{a b:WS}:RE c a b D ρ M=c ρ M λk M1=>gM k (a D ρ M1) (b D ρ M1):=rfl
theorem sAsg_e {g:WG}:OS a g D ρ M=a ρ M λx M1=>g x ρ M1 D.nx:=rfl
theorem sDPutW_e:xg a b c D ρ M=c ρ M λz M1=>a ρ M1 λx M2=>b ρ M2 λy M3=>fS x λp=>m8 y λk=>ja (M3 p) λkvs=>gR (kvs.length<sizeLine) (D.nx ρ (um M3 p (.dK (iH kvs k z)))):=by unfold xg fS m8 ja gR;congr 1;funext z M1;congr 1;funext x M2;congr 1;funext y M3;apply propext;constructor;(· rintro⟨p,kvs,k,h1,h2,h3,h4,h⟩;exact⟨p,h1,k,h3,kvs,h2,h4,h⟩);(· rintro⟨p,h1,k,h3,kvs,h2,h4,h⟩;exact⟨p,kvs,k,h1,h2,h3,h4,h⟩)
theorem sFor_e {it:WI}{g:WG}{b:WS}:OQ it g b D ρ M=it ρ M λxs keep M1=>QX xs keep g b D ρ M1:=rfl
theorem sWhile_e {c:WT}{b:WS}:xf c b D ρ M=BY c b D ρ M:=rfl
theorem vName_e {i:Nat}{x:W}{q:dm ->Mp ->Prop}:Ir i x ρ M q=q (ρ.set i (some x)) M:=rfl
theorem vNil_e {q:dm ->Mp ->Prop}:Ks [] ρ M q=q ρ M:=by simp[Ks]
theorem vCons_e {a:WG}{b:HQ}{x:W}{r:List W}{q:dm ->Mp ->Prop}:Iu a b (x::r) ρ M q=a x ρ M λρ' M'=>b r ρ' M' q:=by apply propext;constructor;(· rintro⟨_,_,h,k⟩;cases h;exact k);(· intro h;exact⟨_,_,rfl,h⟩)
theorem vTup_e {n:Nat}{a:HQ}{l:List W}{q:dm ->Mp ->Prop}:Og n a (.tup l) ρ M q=gR (l.length=n) (a l ρ M q):=by apply propext;constructor;(· rintro⟨_,h,k⟩;cases h;exact k);(· intro h;exact⟨_,rfl,h⟩)
theorem vSub_e {s:Fz}{x:W}{q:dm ->Mp ->Prop}:Oh a b s x ρ M q=a ρ M λo M1=>b ρ M1 λi M2=>s o i x M2 λM3=>q ρ M3:=rfl
theorem wSetL_e {x:Addr}{i:Int}{z:W}{q:Mp ->Prop}:Ig (.v (.ref x)) (.v (.int i)) z M q=lstK (M x) λl=>qm (pH l.length i) λj=>q (um M x (.lst (l.set j z))):=by apply propext;constructor;(· rintro⟨_,l,_,j,h1,h2,h3,h4,k⟩;cases h1;cases h2;exact⟨l,h3,j,h4,k⟩);(· rintro⟨l,h3,j,h4,k⟩;exact⟨_,l,_,j,rfl,rfl,h3,h4,k⟩)
theorem jList_e {q:List W ->(Mp ->Prop) ->Mp ->Prop}:Er a ρ M q=a ρ M λx M1=>fS x λp=>lstK (M1 p) λl=>q l (λM'=>M' p=some (.lst l)) M1:=by unfold Er fS lstK;congr 1;funext x M1;apply propext;constructor;(· rintro⟨p,l,h1,h2,h⟩;exact⟨p,h1,l,h2,h⟩);(· rintro⟨p,h1,l,h2,h⟩;exact⟨p,l,h1,h2,h⟩)
theorem jTup_e {q:List W ->(Mp ->Prop) ->Mp ->Prop}:PQ a ρ M q=a ρ M λx M1=>tupK x λl=>q l (λ_=>True) M1:=rfl
def DQ (xs:List W)(k:W ->Prop):Prop:= ∃x,xs= [x] /\ k x
theorem oneK_e {x:W}{k:W ->Prop}:DQ [x] k=k x:=by apply propext;constructor;(· rintro⟨_,h,k⟩;cases h;exact k);(· intro h;exact⟨_,rfl,h⟩)
theorem jRng1_e {a:WA}{q:List W ->(Mp ->Prop) ->Mp ->Prop}:Ep a ρ M q=a ρ M λxs M1=>DQ xs λx=>Hd x λj=>gR (-(2 ^ 62) <=j /\ j<2 ^ 62) (q (fG 0 j.toNat) (λ_=>True) M1):=by unfold Ep DQ Hd gR;congr 1;funext x M1;apply propext;constructor;(· rintro⟨j,h1,h2,h3,h⟩;exact⟨_,h1,j,rfl,⟨h2,h3⟩,h⟩);(· rintro⟨_,h1,j,rfl,⟨h2,h3⟩,h⟩;exact⟨j,h1,h2,h3,h⟩)
theorem wComp_e {it:WI}{own:Nat}{fr:List Nat}{g:WG}{c:WT}{el:WE}:Im it own fr g c el ρ M q=it ρ M λxs keep M1=>rP xs keep own fr g c el ρ M1 q:=rfl
theorem wYes_e {q:Bool ->Mp ->Prop}:NX ρ M q=q true M:=rfl
end
theorem sl1:(1<=sizeLine)=True:=by rw[cC];decide
theorem sl2:(2<=sizeLine)=True:=by rw[cC];decide
theorem sl3:(3<=sizeLine)=True:=by rw[cC];decide
theorem sl4:(4<=sizeLine)=True:=by rw[cC];decide
theorem sl0:(0<=sizeLine)=True:=by simp
theorem dG {c A B:Prop} [Decidable c](h1:c ->A)(h2:¬c ->B):gM (decide c) A B:=by
 unfold gM;by_cases h:c
 ·rw[ak (decide_eq_true h)];exact h1 h
 ·rw[aj (by simpa using h)];exact h2 h
theorem tG {c A B:Prop} [Decidable c](h1:¬c ->A)(h2:c ->B):gM (!decide c) A B:=by
 unfold gM;by_cases h:c
 ·rw[aj (by simpa using h)];exact h2 h
 ·rw[ak (by simpa using h)];exact h1 h
theorem kT {xs:List W}{keep:Mp ->Prop}{M1:Mp}{own:Nat}{fr:List Nat}{ρ:dm}{g:WG}{c:WT}{el:WE}{q:WK}(f:W ->Option W)(hz:xs.length<=sizeLine)(iN: ∀M,Sm M1 M ->keep M) (hs: ∀ (i:Nat) x,xs[i]? =some x -> ∀ (M:Mp) (N:Option W ->Mp ->Prop),Sm M1 M ->N (f x) M ->g x (capρ own fr ρ) M λρ2 M2=>c ρ2 M2 λb M3=>gM b (el ρ2 M3 λy M4=>N (some y) M4) (N none M3)) (hq: ∀p,M1 p=none ->q (wr p) (um M1 p (.lst (xs.filterMap f)))):rP xs keep own fr g c el ρ M1 q:=Bl f hz iN hs hq
end WL
namespace WL
def hold (f:dm ->Mp ->Prop)(ρ:dm)(M:Mp):Prop:=f ρ M
theorem jC {f:dm ->Mp ->Prop}{ρ:dm}{M:Mp}(h:f ρ M):hold f ρ M:=h
theorem dS {a b:WS}{D:iR}{ρ:dm}{M:Mp}:Gq a b D ρ M=a {nx:=hold (b D),rt:=D.rt,bk:=D.bk,ct:=D.ct} ρ M:=rfl
theorem Ex {c:WT}{a b R:WS}{D:iR}{ρ:dm}{M:Mp}(YT:dm ->Mp ->Prop)(rest: ∀ρ M,YT ρ M ->R D ρ M)(h: ∀N:dm ->Mp ->Prop,(∀ρ M,YT ρ M ->N ρ M) ->RE c a b {nx:=N,rt:=D.rt,bk:=D.bk,ct:=D.ct} ρ M):Gq (RE c a b) R D ρ M:=h _ rest
theorem iO {xs:List W}{keep:Mp ->Prop}{g:WG}{b:WS}{D:iR}{ρ:dm}{M1:Mp}(I:Nat ->dm ->Mp ->Prop)(h0:I 0 ρ M1)(hk: ∀i ρ M,i<=xs.length ->I i ρ M ->keep M) (hs: ∀i x ρ M,xs[i]? =some x ->I i ρ M -> ∀N:dm ->Mp ->Prop,(∀ρ' M',I (i+1) ρ' M' ->N ρ' M') ->g x ρ M λρ2 M2=>b {nx:=N,rt:=D.rt,bk:=D.nx,ct:=N} ρ2 M2) (hd: ∀ρ M,I xs.length ρ M ->D.nx ρ M):QX xs keep g b D ρ M1:=⟨I,h0,hk,λi x ρ M hx hI=>hs i x ρ M hx hI _ λ_ _ h=>h,hd⟩
theorem F8 {c:WT}{b:WS}{D:iR}{ρ:dm}{M:Mp}(I:Nat ->dm ->Mp ->Prop)(m:Nat)(h0:I m ρ M) (hs: ∀m ρ M,I m ρ M -> ∀N:dm ->Mp ->Prop,(∀m' ρ' M',m'<m ->I m' ρ' M' ->N ρ' M') ->c ρ M λk M1=>gM k (b {nx:=N,rt:=D.rt,bk:=D.nx,ct:=N} ρ M1) (D.nx ρ M1)):BY c b D ρ M:=⟨I,⟨m,h0⟩,λm ρ M hI=>hs m ρ M hI _ λm' _ _ hm h=>⟨m',hm,h⟩⟩
end WL
namespace WP
open PySem L2 WL
abbrev Pt:=List (Int×Int)
def look:Pt ->Int ->Int
 | [],_=>0
 | q::r,x=>if q.1=x then q.2 else look r x
def du (p:Int)(l:Pt):Prop:=(∀q∈l,0<q.2 /\ q.2<p) /\ l.Pairwise (λa b=>a.1<b.1)
def dA:Pt ->Int ->Int
 | [],_=>0
 | q::r,x=>(if q.1=x then q.2 else 0)+dA r x
theorem gD (a b:Pt)(x:Int):dA (a++b) x=dA a x+dA b x:=by
 induction a with
 | nil=>simp[dA]
 | cons q r ih=>rw[List.cons_append,dA,dA,ih];lia
theorem lj (a:Pt)(q:Int×Int)(x:Int):dA (a++ [q]) x=dA a x+if q.1=x then q.2 else 0:=by rw[gD];simp[dA]
theorem dX {l:Pt}{x:Int}(h: ∀q∈l,q.1≠x):look l x=0:=by
 induction l with
 | nil=>rfl
 | cons q r ih=>rw[look,aj (h q (by simp)),ih λz hz=>h z (by simp[hz])]
theorem yw {l:Pt}{x:Int}(h: ∀q∈l,q.1≠x):dA l x=0:=by
 induction l with
 | nil=>rfl
 | cons q r ih=>rw[dA,aj (h q (by simp)),ih λz hz=>h z (by simp[hz])];rfl
theorem uB {l:Pt}(h:l.Pairwise (λa b=>a.1<b.1))(x:Int):dA l x=look l x:=by
 induction l with
 | nil=>rfl
 | cons q r ih=>
  rw[bT] at h;rw[dA,look,ih h.2];by_cases e:q.1=x
  ·rw[ak e,ak e,dX]
   ·lia
   ·intro z hz;have:=h.1 z hz;lia
  ·rw[aj e,aj e];lia
theorem Ec {l:Pt}(h:l.Pairwise (λa b=>a.1<b.1)){q:Int×Int}(hq:q∈l):look l q.1=q.2:=by
 induction l with
 | nil=>cases hq
 | cons a r ih=>
  rw[bT] at h;rw[look];rcases av.mp hq with rfl | hq
  ·rw[ak rfl]
  ·rw[aj (by have:=h.1 q hq;lia),ih h.2 hq]
theorem kN {p:Int}{l:Pt}(hp:0<p)(h:du p l)(x:Int):0<=look l x /\ look l x<p:=by
 induction l with
 | nil=>rw[look];lia
 | cons q r ih=>
  rw[look];split
  ·have:=h.1 q (by simp);lia
  ·exact ih ⟨λz hz=>h.1 z (by simp[hz]),(bT.mp h.2).2⟩
theorem du.tail {p:Int}{q:Int×Int}{r:Pt}(h:du p (q::r)):du p r:=⟨λz hz=>h.1 z (by simp[hz]),(bT.mp h.2).2⟩
theorem du.nil {p:Int}:du p []:=⟨λ_ h=>absurd h (by simp),List.Pairwise.nil⟩
theorem sY {p p':Int}: ∀ {a b:Pt},du p a ->du p' b ->(∀x,look a x=look b x) ->a=b
 | [],[],_,_,_=>rfl
 | [],q::r,_,hb,h=>by have:=h q.1;rw[look,look,ak rfl] at this;have:=hb.1 q (by simp);lia
 | q::r,[],ha,_,h=>by have:=h q.1;rw[look,look,ak rfl] at this;have:=ha.1 q (by simp);lia
 | q ::r,q'::r',ha,hb,h=>by
  have pa:=ha.1 q (by simp);have pb:=hb.1 q' (by simp);have sa:=(bT.mp ha.2).1;have sb:=(bT.mp hb.2).1;have e1:q.1=q'.1:=by
   rcases Int.lt_trichotomy q.1 q'.1 with l | l | l
   ·have e:=h q.1;rw[look,ak rfl,look,aj (by lia),dX (λz hz=>by have:=sb z hz;lia)] at e;lia
   ·exact l
   ·have e:=h q'.1;rw[look,aj (by lia),dX (λz hz=>by have:=sa z hz;lia),look,ak rfl] at e;lia
  have e2:q.2=q'.2:=by have e:=h q.1;rw[look,ak rfl,look,ak e1.symm] at e;exact e
  have e:r=r':=sY ha.tail hb.tail λx=>by
   by_cases hx:q.1=x
   ·rw[dX (λz hz=>by have:=sa z hz;lia),dX (λz hz=>by have:=sb z hz;lia)]
   ·have e:=h x;rwa [look,aj hx,look,aj (by lia)] at e
  rw[e,Prod.ext e1 e2]
def gS (p:Int):Pt ->Int ->Int ->Pt
 | [],x,s=>if s % p=0 then [] else [(x,s % p)]
 | q::r,x,s=>if x<q.1 then(if s % p=0 then q::r else(x,s % p)::q::r) else if x=q.1 then(if(q.2+s) % p=0 then r else(x,(q.2+s) % p)::r) else q::gS p r x s
def jo (p:Int)(ps:Pt):Pt:=ps.foldl (λa q=>gS p a q.1 q.2) []
theorem rZ {p:Int}{l:Pt}{x s:Int}{z:Int×Int}(h:z∈gS p l x s):z.1=x \/ z∈l:=by
 induction l with
 | nil=>
  rw[gS] at h;split at h
  ·cases h
  ·left;rw[ah.mp h]
 | cons q r ih=>
  rw[gS] at h;split at h
  ·split at h
   ·exact .inr h
   ·rcases av.mp h with h | h
    ·left;rw[h]
    ·exact .inr h
  ·split at h
   ·split at h
    ·exact .inr (by simp[h])
    ·rcases av.mp h with h | h
     ·left;rw[h]
     ·exact .inr (by simp[h])
   ·rcases av.mp h with h | h
    ·exact .inr (by simp[h])
    ·rcases ih h with h | h
     ·exact .inl h
     ·exact .inr (by simp[h])
theorem xx {p s:Int}(hp:0<p)(h:¬s % p=0):0<s % p /\ s % p<p:=by have:=cN s (show p≠0 by lia);have:=cz s hp;lia
theorem Bv {p:Int}(hp:0<p){l:Pt}{x s:Int}(h:du p l):du p (gS p l x s):=by
 induction l with
 | nil=>
  rw[gS];split
  ·exact du.nil
  ·rename_i hs;exact⟨λq hq=>by rw[ah.mp hq];exact xx hp hs,by simp⟩
 | cons q r ih=>
  have sa:=(bT.mp h.2).1;rw[gS];split
  ·rename_i hx;split
   ·exact h
   ·rename_i hs;refine⟨λz hz=> ?_,bT.mpr ⟨λz hz=> ?_,h.2⟩⟩
    ·rcases av.mp hz with rfl | hz
     ·exact xx hp hs
     ·exact h.1 z hz
    ·rcases av.mp hz with rfl | hz
     ·exact hx
     ·have:=sa z hz;show x<z.1;lia
  ·split
   ·rename_i hx;split
    ·exact h.tail
    ·rename_i hs;refine⟨λz hz=> ?_,bT.mpr ⟨λz hz=> ?_,h.tail.2⟩⟩
     ·rcases av.mp hz with rfl | hz
      ·exact xx hp hs
      ·exact h.1 z (by simp[hz])
     ·have:=sa z hz;show x<z.1;lia
   ·rename_i h1 h2;have XY:=ih h.tail;refine⟨λz hz=> ?_,bT.mpr ⟨λz hz=> ?_,XY.2⟩⟩
    ·rcases av.mp hz with rfl | hz
     ·exact h.1 z (by simp)
     ·exact XY.1 z hz
    ·rcases rZ hz with e | hz
     ·lia
     ·exact sa z hz
theorem xD {p:Int}(hp:0<p){l:Pt}{x s:Int}(h:du p l)(y:Int):look (gS p l x s) y=if y=x then(look l x+s) % p else look l y:=by
 induction l with
 | nil=>
  rw[gS];by_cases hs:s % p=0
  ·rw[ak hs];simp[look,hs]
  ·rw[aj hs];by_cases e:y=x
   ·subst e;simp[look]
   ·rw[aj e];simp[look,a5 e]
 | cons q r ih=>
  have sa:=(bT.mp h.2).1;have qr:=h.1 q (by simp);rw[gS];split
  ·rename_i hx;have hn:look (q::r) x=0:=dX (λz hz=>by
    rcases av.mp hz with rfl | hz
    ·lia
    ·have:=sa z hz;lia)
   rw[hn,bP];split
   ·rename_i hs;by_cases e:y=x
    ·rw[ak e,e,hn,hs]
    ·rw[aj e]
   ·by_cases e:y=x
    ·rw[ak e,look,ak e.symm]
    ·rw[aj e,look,aj (a5 e)]
  ·split
   ·rename_i hx;have hq:look (q::r) x=q.2:=by rw[look,ak hx.symm]
    rw[hq];split
    ·rename_i hs;by_cases e:y=x
     ·rw[ak e,hs,dX (λz hz=>by have:=sa z hz;lia)]
     ·rw[aj e,look,aj (by lia)]
    ·by_cases e:y=x
     ·rw[ak e,look,ak e.symm]
     ·rw[aj e,look,aj (a5 e),look,aj (by lia)]
   ·rename_i h1 h2;rw[look,ih h.tail];by_cases e:y=x
    ·rw[ak e,ak e,aj (by lia)];conv=>rhs;rw[look,aj (by lia)]
    ·rw[aj e,aj e,look]
theorem lO (p:Int)(ps:Pt)(q:Int×Int):jo p (ps++ [q])=gS p (jo p ps) q.1 q.2:=by unfold jo;rw[List.foldl_append];rfl
theorem fX {α:Type}{P:List α ->Prop}(h0:P [])(h1: ∀l a,P l ->P (l++ [a]))(l:List α):P l:=by
 have key: ∀n:Nat, ∀l:List α,l.length=n ->P l:=by
  intro n;induction n with
  | zero=>intro l hl;rw[cI.mp hl];exact h0
  | succ n ih=>
   intro l hl;have c8:l≠ []:=by intro e;rw[e] at hl;cases hl
   rw[<- List.dropLast_concat_getLast c8];exact h1 _ _ (ih _ (by rw[List.length_dropLast];lia))
 exact key _ l rfl
theorem jS {p:Int}(hp:0<p)(ps:Pt):du p (jo p ps):=by
 induction ps using fX with
 | h0=>exact du.nil
 | h1 l a ih=>rw[lO];exact Bv hp ih
theorem pB {p:Int}(hp:0<p)(ps:Pt)(x:Int):look (jo p ps) x=dA ps x % p:=by
 induction ps using fX with
 | h0=>simp[jo,look,dA]
 | h1 l a ih=>
  rw[lO,xD hp (jS hp l),lj];by_cases e:x=a.1
  ·subst e;rw[ak rfl,ak rfl,ih,Int.emod_add_emod]
  ·rw[aj e,aj (a5 e),ih,bu]
theorem Bw {p:Int}{l:Pt}{x s:Int}:(gS p l x s).length<=l.length+1:=by
 induction l with
 | nil=>rw[gS];split<;>simp
 | cons q r ih=>
  rw[gS];split
  ·split<;>simp
  ·split
   ·split<;>simp<;>lia
   ·simp;exact ih
theorem G1 (p:Int)(ps:Pt):(jo p ps).length<=ps.length:=by
 induction ps using fX with
 | h0=>simp[jo]
 | h1 l a ih=>rw[lO,aL];exact a4 Bw (by simp;exact ih)
theorem Lq {p:Int}{ps:Pt}{z:Int×Int}(h:z∈jo p ps): ∃q∈ps,q.1=z.1:=by
 induction ps using fX generalizing z with
 | h0=>simp[jo] at h
 | h1 l a ih=>
  rw[lO] at h;rcases rZ h with e | h
  ·exact⟨a,by simp,e.symm⟩
  ·obtain⟨q,h1,h2⟩:=ih h;exact⟨q,by simp[h1],h2⟩
def eY (m:Pt):List (Key×W):=m.map λq=>((Sum.inl q.1:Key),wi q.2)
def kf (m:Pt)(x v:Int):Pt:=if(m.any λq=>decide (q.1=x))=true then m.map (λq=>if q.1=x then(q.1,v) else q) else m++ [(x,v)]
theorem mB {m:Pt}{x:Int}:(m.any λq=>decide (q.1=x))=true↔x∈m.map (·.1):=by
 rw[List.any_eq_true,af];constructor
 ·rintro⟨q,hq,e⟩;exact⟨q,hq,by simpa using e⟩
 ·rintro⟨q,hq,e⟩;exact⟨q,hq,by simpa using e⟩
theorem tL (a b:Int):decide ((Sum.inl a:Key)=Sum.inl b)=decide (a=b):=by simp
theorem oy (m:Pt)(x v:Int):iH (eY m) (.inl x) (wi v)=eY (kf m x v):=by
 unfold iH kf;have e:((eY m).any λkv=>decide (kv.1=(Sum.inl x:Key)))=m.any λq=>decide (q.1=x):=by unfold eY;rw[List.any_map];congr 1;funext q;exact tL _ _
 rw[e];split
 ·unfold eY;rw[aD,aD];apply bF;intro q _;show(if(Sum.inl q.1:Key)=Sum.inl x then((Sum.inl q.1:Key),wi v) else(Sum.inl q.1,wi q.2))=((Sum.inl (if q.1=x then(q.1,v) else q).1:Key),wi (if q.1=x then(q.1,v) else q).2)
  by_cases hq:q.1=x
  ·rw[ak (by rw[hq]),ak hq]
  ·rw[aj (λz=>hq (Sum.inl.inj z)),aj hq]
 ·unfold eY;rw[aN];rfl
theorem sy (m:Pt)(x:Int):d5 (eY m) (.inl x)=(m.find? λq=>decide (q.1=x)).map λq=>wi q.2:=by
 unfold d5 eY;rw[List.find?_map,Option.map_map];have e:((λkv:Key×W=>decide (kv.1=(Sum.inl x:Key))) ∘ λq:Int×Int=>((Sum.inl q.1:Key),wi q.2))=λq=>decide (q.1=x):=by funext q;exact tL _ _
 rw[e];rfl
theorem j8 {m:Pt}{x:Int}:(m.find? λq=>decide (q.1=x))=none /\ look m x=0 /\ x∉m.map (·.1) \/ ∃q,(m.find? λq=>decide (q.1=x))=some q /\ look m x=q.2:=by
 induction m with
 | nil=>exact .inl ⟨rfl,rfl,by simp⟩
 | cons q r ih=>
  rw[cM,look];by_cases e:q.1=x
  ·simp only[e,decide_true];exact .inr ⟨q,rfl,by simp⟩
  ·simp only[e,decide_false,bf];rcases ih with⟨h1,h2,h3⟩ | h
   ·exact .inl ⟨h1,h2,by rw[aH,av,not_or];exact⟨a5 e,h3⟩⟩
   ·exact .inr h
theorem oE (m:Pt)(x:Int):(d5 (eY m) (.inl x)).getD (wi 0)=wi (look m x):=by rw[sy];rcases j8 (m:=m) (x:=x) with⟨h1,h2,_⟩ | ⟨q,h1,h2⟩ <;>rw[h1,h2] <;>rfl
theorem oJ {m:Pt}{x:Int}(h:x∈m.map (·.1)):d5 (eY m) (.inl x)=some (wi (look m x)):=by
 rw[sy];rcases j8 (m:=m) (x:=x) with⟨_,_,h3⟩ | ⟨q,h1,h2⟩
 ·exact absurd h h3
 ·rw[h1,h2];rfl
theorem vk (m:Pt):(eY m).map (·.1)=(m.map (·.1)).map Sum.inl:=by unfold eY;rw[aD,aD];rfl
theorem qZ {m:Pt}{x v:Int}:(kf m x v).map (·.1)=if x∈m.map (·.1) then m.map (·.1) else m.map (·.1)++ [x]:=by
 unfold kf;by_cases h:x∈m.map (·.1)
 ·rw[ak (mB.mpr h),ak h,aD];apply bF;intro q _;show(if q.1=x then(q.1,v) else q).1=q.1;split<;>rfl
 ·rw[aj (λe=>h (mB.mp e)),aj h,aN];rfl
theorem tw {m:Pt}{x v:Int}(h:(m.map (·.1)).Nodup):((kf m x v).map (·.1)).Nodup:=by
 rw[qZ];by_cases e:x∈m.map (·.1)
 ·rw[ak e];exact h
 ·rw[aj e];exact zf h e
theorem pE {m:Pt}{x v:Int}:(kf m x v).length<=m.length+1:=by
 unfold kf;split
 ·rw[aa];lia
 ·simp
theorem mZ {m:Pt}{x v y:Int}:look (kf m x v) y=if y=x then v else look m y:=by
 unfold kf;by_cases h:x∈m.map (·.1)
 ·rw [ak (mB.mpr h)];have key: ∀m:Pt,look (m.map (λq=>if q.1=x then(q.1,v) else q)) y=if y=x /\ x∈m.map (·.1) then v else look m y:=by
   intro m;induction m with
   | nil=>simp[look]
   | cons q r ih=>
    rw[aH,look,look,ih];by_cases hq:q.1=x
    ·by_cases hy:y=x
     ·subst hy;simp[hq]
     ·simp[hq,hy,a5 hy]
    ·by_cases hy:y=x
     ·subst hy;have:(y∈(q::r).map (·.1))=(y∈r.map (·.1)):=by rw[aH,av];simp[a5 hq]
      simp only[this,hq,bf]
     ·simp[hq,hy]
  rw[key];simp[h]
 ·rw [aj (λe=>h (mB.mp e))];have key: ∀m:Pt,x∉m.map (·.1) ->look (m++ [(x,v)]) y=if y=x then v else look m y:=by
   intro m;induction m with
   | nil=>
    intro _;by_cases e:y=x
    ·simp[look,e]
    ·simp[look,e,a5 e]
   | cons q r ih=>
    intro hn;rw[aH,av,not_or] at hn;rw[List.cons_append,look,look,ih hn.2];by_cases e:y=x
    ·subst e;simp[a5 hn.1]
    ·simp[e]
  exact key m h
def sel (m:Pt)(ns:List Int):Pt:=ns.filterMap λx=>if look m x=0 then none else some (x,look m x)
theorem vi {m:Pt}{x:Int}: ∀ {ns:List Int},ns.Nodup ->look (sel m ns) x=if x∈ns then look m x else 0
 | [],_=>rfl
 | n ::r,h=>by
  rw[bw] at h;have ih:=vi (m:=m) (x:=x) h.2;unfold sel at ih ⊢;rw[List.filterMap_cons];by_cases e:look m n=0
  ·rw[ak e];show look (r.filterMap _) x=_;rw[ih];by_cases hx:x=n
   ·subst hx;rw[aj h.1,ak (by simp),e]
   ·simp[hx]
  ·rw[aj e];show look ((n,look m n)::r.filterMap _) x=_;rw[look,ih];by_cases hx:x=n
   ·subst hx;rw[ak rfl,ak (by simp)]
   ·rw[aj (a5 hx)];simp[hx]
theorem qG {ns:List Int}(h1:ns.Pairwise (· <= ·))(h2:ns.Nodup):ns.Pairwise (· < ·):=by refine(List.Pairwise.and h1 h2).imp ?_;rintro a b ⟨h,n⟩;lia
theorem yO {p:Int}(hp:0<p){ps m:Pt}{ns:List Int}(hn:(m.map (·.1)).Nodup)(ht: ∀x,look m x=dA ps x % p)(c6:ns.Perm (m.map (·.1)))(hs:ns.Pairwise (· <= ·)):sel m ns=jo p ps:=by
 have nd:=c6.nodup_iff.mpr hn;have st:=qG hs nd;refine sY (p:=p) ⟨?_,?_⟩ (jS hp ps) λx=> ?_
 ·intro q hq;obtain⟨x,hx,e⟩:=List.mem_filterMap.mp hq;split at e
  ·cases e
  ·rename_i h0;cases e;have:=ht x;have:=cN (dA ps x) (show p≠0 by lia);have:=cz (dA ps x) hp;show 0<look m x /\ look m x<p;lia
 ·unfold sel;refine List.Pairwise.filterMap _ ?_ st;intro a b EX c hc d hd;split at hc<;>cases hc;split at hd<;>cases hd;exact EX
 ·rw[vi nd,pB hp];split
  ·exact ht x
  ·rename_i hx;rw[<- ht x,dX];intro q hq e;exact hx (c6.mem_iff.mpr (by rw[<- e];exact List.mem_map_of_mem hq))
theorem gA {ks:List Int}: ∀ {l:List Int},ks.Nodup ->(∀k∈ks,k∈l) ->ks.length<=l.length:=by
 induction ks with
 | nil=>intro l _ _;simp
 | cons k r ih=>
  intro l hn hs;rw[bw] at hn;have hk:k∈l:=hs k (by simp);have:=ih (l:=l.erase k) hn.2 λz hz=>by have Ue:z≠k:=λe=>hn.1 (e▸hz);exact(List.mem_erase_of_ne Ue).mpr (hs z (by simp[hz]))
  rw[List.length_erase_of_mem hk] at this;have:0<l.length:=List.length_pos_of_mem hk;rw[aG];lia
def SQ (_:Pt):Prop:=True
theorem MB {ps:Pt}:SQ ps:=trivial
theorem Hz {ps:Pt}(h:ps.length<64):SQ ps:=trivial
theorem vh {m:Pt}{x v k:Int}(h:k∈(kf m x v).map (·.1)):k=x \/ k∈m.map (·.1):=by
 rw[qZ] at h;split at h
 ·exact .inr h
 ·rcases ax.mp h with h | h
  ·exact .inr h
  ·exact .inl (ah.mp h)
end WP
namespace WQ
open PySem L2 WL WP
def Pb:kb:=λxs M q=> ∃ (d l:Addr) (n:Int),xs= [wr d,wi n] /\ Dr M d l /\ 0<n /\ n<1073741824 /\ ∀ (r:Int) (M':Mp),0<=r ->r<n ->Dr M' d l ->NB d M M' ->q (wi r) M'
def pP:kb:=λxs M q=> ∃ (d l:Addr),xs= [wr d] /\ Dr M d l /\ ∀ (p:Int) (M':Mp),(p=2 \/ p=3 \/ p=5 \/ p=7) ->Dr M' d l ->NB d M M' ->q (wi p) M'
def Jj:kb:=λxs M q=> ∃ (a:Addr) (p:Int) (ps:Pt),xs= [wi p,wr a] /\ M a=some (.lst (ps.map dy)) /\ 0<p /\ SQ ps /\ ps.length<=16000000 /\ q (cR (jo p ps)) M
def DF:kb:=λxs M q=> ∃ (d l:Addr) (p most ki:Int),xs= [wr d,wi p,wi most,wi ki] /\ Dr M d l /\ 2<=p /\ p<1000 /\ 0<=most /\ most<63 /\ 0<=ki /\ ki<100000000 /\∀ (ps:Pt) (M':Mp),(ps.length:Int) <=most ->(∀z∈ps, -ki<=z.1 /\ z.1<=ki /\ 0<z.2 /\ z.2<p) ->Dr M' d l ->NB d M M' ->q (cR (jo p ps)) M'
def mv (mw:Int)(l:Pt):Pt:=l.map λz=>(z.1+mw,z.2)
def Tq:kb:=λxs M q=> ∃i:Int,xs= [wi i] /\ q (wb true) M
def Lh:kb:=λxs M q=> ∃ (p:Int) (pat:Pt),xs= [wi p,cR pat] /\ du p pat /\ pat.length<=16000000 /\ q (wb true) M
def tm (n:Int)(l:Pt):Pt:=l.map λz=>(z.1,z.2*n)
def tD (b n:Int)(l:Pt):Pt:=l.map λz=>(z.1+b,z.2*n)
def Tp:kb:=λxs M q=> ∃ (p:Int) (a b:Pt) (y n:Int),xs= [wi p,cR a,cR b,wi y,wi n] /\ 0<p /\ SQ (a++tD y n b) /\ a.length<=8000000 /\ b.length<=8000000 /\ (∀z∈b,0<=z.2 /\ z.2<1000) /\ q (cR (jo p (a++tD y n b))) M
theorem big {n:Nat}(h:n<=16000000):n<=sizeLine:=a4 h (by rw[cC];decide)
theorem qv {n:Nat}(h:n<=16000000):n<sizeLine:=Nat.lt_of_le_of_lt h (by rw[cC];decide)
theorem RS {l:Pt}:mv 0 l=l:=by
 unfold mv;have:(λz:Int×Int=>(z.1+0,z.2))=id:=by funext z;rw[bu];rfl
 rw[this,List.map_id]
theorem RX {b:Int}{l:Pt}{x:Int}:look (mv b l) x=look l (x - b):=by
 induction l with
 | nil=>rfl
 | cons q r ih=>
  show look ((q.1+b,q.2)::mv b r) x=_;rw[look,look,ih];by_cases e:q.1+b=x
  ·rw[ak e,ak (by lia)]
  ·rw[aj e,aj (by lia)]
theorem sC {n:Int}{l:Pt}{x:Int}:dA (tm n l) x=dA l x*n:=by
 induction l with
 | nil=>simp[tm,dA]
 | cons q r ih=>show dA ((q.1,q.2*n)::tm n r) x=_;rw[dA,dA,ih,Int.add_mul];split<;>simp
theorem Ly {b n:Int}{l:Pt}:tD b n l=tm n (mv b l):=by unfold tD tm mv;rw[aD];rfl
theorem wX {b:Int}{l:Pt}{x:Int}:dA (mv b l) x=dA l (x - b):=by
 induction l with
 | nil=>rfl
 | cons q r ih=>
  show dA ((q.1+b,q.2)::mv b r) x=_;rw[dA,dA,ih];by_cases e:q.1+b=x
  ·rw[ak e,ak (by lia)]
  ·rw[aj e,aj (by lia)]
theorem Ff (q:Int×Int):Bk (dy q)=some (.tup [.int q.1, .int q.2]):=by simp[dy,Bk,nj]
theorem pR: ∀l:Pt,nj (l.map dy)=some (l.map λq=> .tup [.int q.1, .int q.2])
 | []=>rfl
 | q::r=>by rw[aH,nj,Ff,pR r];rfl
def DE (l:Pt):Dt:= .tup (l.map λq=> .tup [.int q.1, .int q.2])
theorem HF (l:Pt):Bk (cR l)=some (DE l):=by rw[cR,Bk,pR];rfl
theorem pO: ∀l:Pt,oi (l.map λq=> .tup [.int q.1, .int q.2]) <=1
 | []=>by simp[oi]
 | q::r=>by rw[aH,oi];have:=pO r;simp only[wB,oi];lia
def yK (K:PySem.W.Frag):Sp:=λvs H Q _=> ∃ (a:Addr) (ns:List Int),vs= [.ref a] /\ f6 K H a (ns.map V.int) /\ ∀ (d l:Addr) (ms:List Int) (H':Hp),d≠l ->H' d=some (.lst [.ref l, .int 0, .int 0, .int 11]) ->H' l=some (.lst (ms.map V.int)) ->Q (.ref d) H'
def uH (K:PySem.W.Frag):Sp:=λvs H Q _=> ∃ (a:Addr) (ns:List Int),vs= [.ref a] /\ f6 K H a (ns.map V.int) /\ ∀H',Q (.bl true) H'
theorem Pk {P:Program}{w:World}{K:PySem.W.Frag}{mg:Str ->Option Value}{base:Heap}{x qual z:Str}{st:Stmt}{f:Addr}{fd:FuncData}{N:List Str}{k:Nat}(F:BR K x qual st f fd)(S:b7 N [z] (aQ st))(hN:2<=N.length) (l3: ∀ (dQ:Value) (A:Around) (outer:List Env) (s:Shared) (H:Hp) (E:XK),fD k (A.deeper (PyProof.Rows.envOfC qual (aQ st) s.heap.objs.size f dQ)) ->∃ R,wF (eQ iV P w K mg base N qual (aQ st) f dQ A outer s H E).Lr (d3 st) (KJ (Gk (yD (yK K) [] E0 (CG (Gj 0) KL)) (nF 1)) R) /\∃w',IS K R w' /\ ∀d l M,Dr M d l ->w' {nx:=λ_ _=>False,rt:=λx _=>x=wb true} (none::some (wr d)::List.replicate (N.length - 2) none) M): dI P w K mg base iV (k+1) f fd [z] (uH K):=by
 refine BR.ok F S (λvs H Q E ⟨a,ns,h,_⟩=>by rw[h];rfl) λdQ A outer s H vs Q E hr h=> ?_;obtain⟨R,h1,w',h2,h3⟩:=l3 dQ A outer s H E hr;obtain⟨a,ns,rfl,hs,hq⟩:=h;refine⟨_,h1,?_⟩;obtain⟨n,hn⟩: ∃n,N.length=n+2:=⟨N.length - 2,by lia⟩
 have e0:L2.start N [V.ref a]=some (V.ref a)::none::List.replicate n none:=by unfold L2.start;rw[hn];rfl
 rw[e0];refine⟨_,rfl,a,ns,rfl,hs,λd l ms H' c8 hd hl=> ?_⟩;show R _ _ H';refine h2.imp (none::some (wr d)::List.replicate (N.length - 2) none) (um (um (λ_=>none) l (.lst (ms.map wi))) d (.lst [wr l,wi 0,wi 0,wi 11])) _ H' _ _ ⟨⟨?_,λi y e=> ?_⟩,λb o e=> ?_⟩ (h3 d l _ ⟨ms,0,0,11,um_same,by rw[aJ (a5 c8),um_same],by decide,c8⟩) ⟨λ_ _ _ _ h=>h.elim,λy M' v H2 e _ _ r=> ?_,λ_ _ _ _ h=>h.elim,λ_ _ _ _ h=>h.elim⟩
 ·simp[hn]
 ·match i with
  | 0=>simp at e
  | 1=>simp at e;subst e;exact⟨.ref d,rfl,WR.v⟩
  | i+2=>simp[List.getElem?_replicate] at e
 ·by_cases hb:b=d
  ·subst hb;rw[um_same] at e;cases e;exact⟨_,hd,cF.cons WR.v (cF.cons WR.v (cF.cons WR.v (cF.cons WR.v cF.nil)))⟩
  ·rw[aJ hb] at e;by_cases k9:b=l
   ·subst k9;rw[um_same] at e;cases e;exact⟨_,hl,cF.ofInts ms⟩
   ·rw[aJ k9] at e;cases e
 ·subst e;rw[r.eq];exact hq H2
abbrev Rd:=Int×Pt
def jn (p:Int)(a b:Rd):Rd:=(a.1+b.1,jo p (a.2++mv a.1 b.2))
def bk (p:Int)(a:Rd):Rd:=(-a.1,jo p (tm (-1) (mv (-a.1) a.2)))
end WQ
namespace WL
open PySem PySem.Spec PyProof.Rows L2
theorem kY (bt:Nat ->Nat ->Bool): ∀k,PySem.argBest bt k<=k
 | 0=>aq _
 | k+1=>by
  unfold PySem.argBest;split
  ·exact aq _
  ·exact Nat.le_succ_of_le (kY bt k)
theorem nT (val:Nat ->Int): ∀k j,j<=k ->val j<=val (PySem.argBest (λi j=>decide (val i >val j)) k)
 | 0, j, h => by have:j=0:=by omega
                 subst this;exact aV _
 | k + 1,j,h=>by
  have ih:=nT val k;unfold PySem.argBest;by_cases hb:val (k+1) >val (PySem.argBest (λi j=>decide (val i >val j)) k)
  ·rw[ak (decide_eq_true hb)];rcases Nat.lt_or_ge j (k+1) with h' | h'
   ·have:=ih j (by omega);omega
   ·have:j=k+1:=by omega
    subst this;exact aV _
  ·rw[aj (by simpa using hb)];rcases Nat.lt_or_ge j (k+1) with h' | h'
   ·exact ih j (by omega)
   ·have:j=k+1:=by omega
    subst this;omega
theorem nS (val:Nat ->Int): ∀k j,j<=k ->val (PySem.argBest (λi j=>decide (val i<val j)) k) <=val j
 | 0, j, h => by have:j=0:=by omega
                 subst this;exact aV _
 | k + 1,j,h=>by
  have ih:=nS val k;unfold PySem.argBest;by_cases hb:val (k+1) <val (PySem.argBest (λi j=>decide (val i<val j)) k)
  ·rw[ak (decide_eq_true hb)];rcases Nat.lt_or_ge j (k+1) with h' | h'
   ·have:=ih j (by omega);omega
   ·have:j=k+1:=by omega
    subst this;exact aV _
  ·rw[aj (by simpa using hb)];rcases Nat.lt_or_ge j (k+1) with h' | h'
   ·exact ih j (by omega)
   ·have:j=k+1:=by omega
    subst this;omega
def nU (ns:List Int)(m:Int):Prop:=m∈ns /\ ∀x∈ns,x<=m
def gT (ns:List Int)(m:Int):Prop:=m∈ns /\ ∀x∈ns,m<=x
section
variable {X:Cx}
theorem zv {its:List Value}{ns:List Int}(rv:Vals (ns.map V.int) its){i:Nat}{v:Value}(e:its.toArray[i]? =some v): ∃t,v= .int (ns.getD i 0) t /\ i<ns.length:=by
 have e':its[i]? =some v:=by simpa using e
 have hlen:=rv.length;have hi:i<ns.length:=by have:=(ag.mp e').1;rw[aa] at hlen;omega
 obtain⟨w',hw,sN⟩:=rv.get (i:=i) (x:= .int ns[i]) (by rw[aA,ae hi];rfl);rw[e'] at hw;cases hw;obtain⟨t,rfl⟩:=sN;exact⟨t,by simp[List.getD,hi],hi⟩
theorem JU {ns:List Int}{i:Nat}(h:i<ns.length):ns.getD i 0=ns[i]:=by simp[List.getD,h]
theorem Q5 {ns:List Int}(hn:ns≠ []):nU ns (ns.getD (PySem.argBest (λi j=>decide (ns.getD i 0 >ns.getD j 0)) (ns.length - 1)) 0):=by
 have hl:0<ns.length:=List.length_pos_iff.mpr hn;have hb:=kY (λi j=>decide (ns.getD i 0 >ns.getD j 0)) (ns.length - 1);have hi:PySem.argBest (λi j=>decide (ns.getD i 0 >ns.getD j 0)) (ns.length - 1) <ns.length:=by omega
 refine⟨?_,λx hx=> ?_⟩
 ·rw[JU hi];exact bW hi
 ·obtain⟨j,hj,rfl⟩:=List.mem_iff_getElem.mp hx;have:=nT (λi=>ns.getD i 0) (ns.length - 1) j (by omega);have e:ns.getD j 0=ns[j]:=by simp[List.getD,hj]
  simp only[e] at this;exact this
theorem Fu {ns:List Int}(hn:ns≠ []):gT ns (ns.getD (PySem.argBest (λi j=>decide (ns.getD i 0<ns.getD j 0)) (ns.length - 1)) 0):=by
 have hl:0<ns.length:=List.length_pos_iff.mpr hn;have hb:=kY (λi j=>decide (ns.getD i 0<ns.getD j 0)) (ns.length - 1);have hi:PySem.argBest (λi j=>decide (ns.getD i 0<ns.getD j 0)) (ns.length - 1) <ns.length:=by omega
 refine⟨?_,λx hx=> ?_⟩
 ·rw[JU hi];exact bW hi
 ·obtain⟨j,hj,rfl⟩:=List.mem_iff_getElem.mp hx;have:=nS (λi=>ns.getD i 0) (ns.length - 1) j (by omega);have e:ns.getD j 0=ns[j]:=by simp[List.getD,hj]
  simp only[e] at this;exact this
variable {K:PySem.W.Frag}
end
end WL
namespace WQ
open PySem L2 WL WP
def ZD (p s:Int):Int:=if p - s<s then p - s else s
def IP (a:Rd):List Int:=0::a.1::a.2.map (·.1)
def MQ (i:Int):Int:=if i<0 then -i else i
def fwv (p:Int)(a:Rd)(lo hi:Int):Int:=2*(hi - lo) - MQ a.1+(a.2.map λz=>ZD p z.2).sum
theorem gT.uniq {ns:List Int}{a b:Int}(h:gT ns a)(h':gT ns b):a=b:=by have:=h.2 b h'.1;have:=h'.2 a h.1;lia
theorem nU.uniq {ns:List Int}{a b:Int}(h:nU ns a)(h':nU ns b):a=b:=by have:=h.2 b h'.1;have:=h'.2 a h.1;lia
def hit (e n x:Int):Bool:=decide (x.fmod e=0) && (decide (0<=x.fdiv e) && decide (x.fdiv e<n))
end WQ
namespace EN
open PySem PySem.Spec PyProof.Rows L2
open Sem (wp)
open AutoSeq1 (wpAny_loadPart')
section
variable {prog:Program}{w:World}{A:Around}{E:Value ->Shared ->Prop}{s:Shared}
theorem xw {j t:Addr}{i:Nat}{its:Array Value}{x:Value}{Q:Value ->Shared ->Prop}(hj:s.heap.IsTupleIter j t i)(ht:s.heap.IsTuple t its)(hx:its[i]? =some x) (hQ: ∀h',h'.IsTupleIter j t (i+1) ->Heap.SameBut j s.heap h' ->Q x {s with heap:=h'}):wpAny (model prog w) A (Builtin.SmallTypes.nextOf (.ref j)) Q E s:=by obtain⟨oj,JD,Yn,Hu⟩:=id hj;obtain⟨ot,UB,_,nt,U7⟩:=ht;unfold Builtin.SmallTypes.nextOf;refine ao (wpAny_callSpecial?_slot (name:=Str.ofString "__next__") hj.typeIs F.slot_tuple_iterator_next (wpAny_call_entry F.slot_tuple_iterator_next hj.typeIs F.entry_tuple_iterator_next ?_ (F.args_tuple_iterator_next_1 _)));show wpAny _ _ (field (.ref j) 0 >>=_) _ _ s;refine ao (wpAny_field JD Hu (x:= .ref t) rfl ?_);show wpAny _ _ (if(Value.ref t==Value.none)=true then _ else _) _ _ s;rw[aj (show ¬((Value.ref t==Value.none)=true) from λz=>aW z)];show wpAny _ _ (field (.ref j) 1 >>=_) _ _ s;refine ao (wpAny_field JD Hu (x:= .int i 0) rfl ?_);show wpAny _ _ (seqItems? (.ref t) >>=_) _ _ s;refine ao (wpAny_seqItems UB U7 ?_);simp only[Int.toNat_natCast,hx];refine ao (wpAny_setField JD Hu (by simp) (aM ⟨x,rfl,aM (hQ _ ?_ (Heap.SameBut.update ..))⟩));exact⟨_,Heap.get?_update_self _ JD (Obj.isFreed_of_fields (Obj.data_mapFields Hu _)),(Obj.cls_mapFields ..).trans Yn,by rw[Obj.data_mapFields Hu];simp[rawInt]⟩
theorem AH {j t:Addr}{i:Nat}{its:Array Value}{Q:Value ->Shared ->Prop}(hh:A.handled=none)(hj:s.heap.IsTupleIter j t i)(ht:s.heap.IsTuple t its)(hx:its[i]? =none) (hE: ∀h' e,Heap.ExtBut j s.heap h' ->(∃o,h'.get? e=some o /\ o.cls= .type "StopIteration") ->E (.ref e) {s with heap:=h'}):wpAny (model prog w) A (Builtin.SmallTypes.nextOf (.ref j)) Q E s:=by
 obtain⟨oj,JD,Yn,Hu⟩:=id hj;obtain⟨ot,UB,_,nt,U7⟩:=ht;unfold Builtin.SmallTypes.nextOf;refine ao (wpAny_callSpecial?_slot (name:=Str.ofString "__next__") hj.typeIs F.slot_tuple_iterator_next (wpAny_call_entry F.slot_tuple_iterator_next hj.typeIs F.entry_tuple_iterator_next ?_ (F.args_tuple_iterator_next_1 _)));show wpAny _ _ (field (.ref j) 0 >>=_) _ _ s;refine ao (wpAny_field JD Hu (x:= .ref t) rfl ?_);show wpAny _ _ (if(Value.ref t==Value.none)=true then _ else _) _ _ s;rw[aj (show ¬((Value.ref t==Value.none)=true) from λz=>aW z)];show wpAny _ _ (field (.ref j) 1 >>=_) _ _ s;refine ao (wpAny_field JD Hu (x:= .int i 0) rfl ?_);show wpAny _ _ (seqItems? (.ref t) >>=_) _ _ s;refine ao (wpAny_seqItems UB U7 ?_);simp only[Int.toNat_natCast,hx];refine ao (wpAny_rule (ao (wpAny_setField JD Hu (by simp) ?_)));show wpAny _ _ (newExc (.type "StopIteration") [] >>=_) _ _ _;refine ao ?_;simp only[newExc,newTuple];refine ao (wpAny_newObj_type ?_ (by size_fits));refine ao (m:=firstArgMember _ _) (wpAny_of_eq (a:=Value.none) (by first | rfl | (simp only[firstArgMember];rfl)) ?_);refine wpAny_newObj_type ?_ (by size_fits);simp only[raiseNew];refine ao (wpAny_handled ?_);first | rw[show A.in1.handled=none from hh] | rw[hh]
 refine ao (aM (wpAny_throw ?_));exact hE _ _ (((Heap.SameBut.update ..).extBut.push _).push _) ⟨_,aS _ rfl,rfl⟩
end
theorem Fc {prog:Program}{w:World}{A:Around}(hh:A.handled=none)(j t:Addr)(c8:t≠j)(its:Array Value): Draws prog w A j [j,t] its.size (λi v=>its[i]? =some v) (λi h=>h.IsTupleIter j t i /\ h.IsTuple t its) where
 live:=λ_ _ st=>let ⟨o,ho,_⟩:=st.1;⟨o,ho⟩
 frame:=λ_ _ _ st hk=>⟨let ⟨o,ho,r⟩:=st.1;⟨o,hk j (by simp) o ho,r⟩,let ⟨o,ho,r⟩:=st.2;⟨o,hk t (by simp) o ho,r⟩⟩
 item:=λi s Q E hi st hQ=>by refine xw st.1 st.2 (x:=its[i]) (by simp[hi]) λh' gX fO=> ?_;exact hQ _ h' s.toks (by simp[hi]) ⟨gX,st.2.extBut fO.extBut c8⟩ fO
 done:=λs Q E st hE=>AH hh st.1 st.2 (by simp) hE
end EN
namespace EN
open PySem PySem.Spec PyProof.Rows L2 WL
section
variable {X:Cx}{pins:List (Addr×Obj)}{σ:L2.St}{H:Hp}{s:Shared}{h':Heap}
theorem tI {e j:Addr}{xs:List V}{t':Nat}(I:Inv X pins σ H s)(k: ∀b o,b≠e ->b≠j ->s.heap.get? b=some o ->h'.get? b=some o)(fe:je X pins H e)(fj:je X pins H j) (new:dF X.prog X.w (upd H s.heap.objs.size (.tup xs)) h' s.heap.objs.size (.tup xs)):Inv X pins σ (upd H s.heap.objs.size (.tup xs)) {s with heap:=h',toks:=t'}:=by
 have QB:H s.heap.objs.size=none:=I.c7.fresh (aq _);have ne: ∀ {b u},H b=some u ->b≠e /\ b≠j:=λ{b u} q=>⟨dc q fe.1,dc q fj.1⟩
 have nm: ∀ {b:Addr},b∉ [e,j] ->b≠e /\ b≠j:=λ{b} q=>by simpa using q
 refine I.call (ch:= [e,j]) (g':=s.gens) (d':=s.drawn) ⟨λb o q n _ hc=>k b o (nm hc).1 (nm hc).2 q,λb o q n _ hc=>⟨o.slots,k b o (nm hc).1 (nm hc).2 q⟩,λb o q n hc=> ?_,λb o q hc=>⟨o,k b o (nm hc).1 (nm hc).2 q⟩,λb ys q=> ?_,λb o u q=> ?_,λb ps q=>⟨#[],?_⟩⟩ ?_ I.bare ?_
 ·rw[bC (aX (aB q))];exact n
 ·rw[bC (dc q QB)];exact q
 ·rw[bC (dc q QB)];exact q
 ·rw[bC (dc q QB),q];simp
 ·intro b u q;by_cases hb:b=s.heap.objs.size
  ·subst hb;rw[bU] at q;cases q;exact new
  ·rw[bC hb] at q;refine(I.c7 b u q).oN (λc v hc r=> ?_) (λc r=>by rw[bC (dc r QB)];exact r) λc ys r=>by rw[bC (dc r QB)];exact r
   rcases hc with rfl | hc
   ·exact k _ v (ne q).1 (ne q).2 r
   ·exact k _ v (ne hc).1 (ne hc).2 r
 ·intro b hb;rcases av.mp hb with rfl | hb
  ·exact⟨fe.2.2.2.1,fe.2.1,fe.2.2.2.2.1,fe.2.2.2.2.2⟩
  ·rw[ah.mp hb];exact⟨fj.2.2.2.1,fj.2.1,fj.2.2.2.2.1,fj.2.2.2.2.2⟩
end
def W4 (K:PySem.W.Frag)(a:Addr):It:=⟨λi H=> ∃xs x,iS K H a xs /\ xs[i]? =some x,λi H v H'=> ∃p x,H p=none /\ H'=upd H p (.tup [.int i,x]) /\ v= .ref p /\ ∀xs,iS K H a xs ->xs[i]? =some x,λi H=> ∃xs,iS K H a xs /\ xs.length=i⟩
def FC (K:PySem.W.Frag)(a:Addr):It:=⟨λi H=> ∃xs x,f6 K H a xs /\ xs[i]? =some x,λi H v H'=> ∃p x,H p=none /\ H'=upd H p (.tup [.int i,x]) /\ v= .ref p /\ ∀xs,f6 K H a xs ->xs[i]? =some x,λi H=> ∃xs,f6 K H a xs /\ xs.length=i⟩
theorem Ky {P:Program}{w:World}{K:PySem.W.Frag}{elts:List Expr}{x1}{pos:Pos}(a e j:Addr)(Md:e≠j):Turn P w K (.Tuple elts x1 pos) (W4 K a) [e,j] e (λi h=>(∃old,IsEnum h e j i old) /\ h.IsTupleIter j a i) where
 mem:=by simp
 obj:=λi h st b hb=>by
  obtain⟨⟨old,he⟩,o,hj,c,d⟩:=st;rcases av.mp hb with rfl | hb
  ·exact⟨_,he,λv z=>nomatch z⟩
  ·rw[ah.mp hb];exact⟨o,hj,λv z=>by rw[d] at z;cases z⟩
 keep:=λi h h' st k=>by obtain⟨⟨old,he⟩,o,hj,r⟩:=st;exact⟨⟨old,k e (by simp) _ he⟩,o,k j (by simp) o hj,r⟩
 item := by
  intro X hP hw hK hc i pins s σ H E I hf st hg;subst hP hw hK;obtain⟨xs,x,hq,hx⟩:=hg;obtain⟨its,rv,p,hz⟩:=I.tuple hq;obtain⟨⟨old,he⟩,hj⟩:=st;have fe:=hf e (by simp);have fj:=hf j (by simp);have hit:s.heap.IsTuple a its.toArray:=p;have ha:a≠j:=λz=>by obtain⟨o,h1,c1,_⟩:=hit;obtain⟨o2,h2,c2,_⟩:=hj;rw[z] at h1;rw[h1] at h2;cases h2;rw[c1] at c2;simp at c2
  have Ve:a≠e:=λz=>by obtain⟨o,h1,c1,_⟩:=hit;rw[z] at h1;rw[he] at h1;cases h1;simp at c1
  have hi:i<its.toArray.size:=by have:=(ag.mp hx).1;have:=rv.length;simp;lia
  refine wpAny_pyNext_enum_itemD (Fc (show X.A.in1.handled=none from I.ok.hd hc) j a ha its.toArray) he ⟨hj,hit⟩ hi Md (by simp[Md,a5 Ve]) λy h' tk hy ho jZ ht hsz hk=> ?_;refine⟨_,rfl,wpAny_letOwnedTupleGo_enum ho λh2 FY j5=> ?_⟩;obtain⟨u,hu,ru⟩:=rv.get hx;have eu:u=y:=by
   have:its.toArray[i]? =some u:=by simpa using hu
   rw[hy] at this;exact(br this).symm
  subst eu;have JP:s.heap.objs.size≠e:=Nat.ne_of_gt (aB he);refine⟨.ref s.heap.objs.size,upd H s.heap.objs.size (.tup [.int i,x]),tI (t':=tk+1) I (λb o hb k9 q=>(j5.2 b hb).trans (hk b o hb k9 q)) fe fj ⟨by rw[cC];show 2<=16777216;decide,[.int i tk,u], .cons ⟨_,rfl⟩ (.cons ru .nil),?_⟩,rfl,⟨_,x,I.c7.fresh (aq _),rfl,rfl,λys EB=>by rw[I.mO EB hq];exact hx⟩,⟨⟨u,by simpa using FY⟩,?_⟩,λb hb=> ?_⟩
  ·exact⟨_,(j5.2 _ JP).trans ht,rfl,_,rfl,rfl⟩
  ·obtain⟨⟨o,h1,r⟩,_⟩:=jZ;exact⟨o,(j5.2 j (a5 Md)).trans h1,r⟩
  ·have:H b=none:=(hf b hb).1;rw[bC (λz=> ?_)]
   ·exact this
   ·obtain⟨o,h1,_⟩:=hj;rcases av.mp hb with rfl | hb
    ·exact JP z.symm
    ·rw[ah.mp hb] at z;exact absurd (aB h1) (by rw[z];exact cb _)
 done:=by
   intro X hP hw hK hc i pins s σ H E I hf st hg;subst hP hw hK;obtain⟨xs,hq,hx⟩:=hg;obtain⟨its,rv,p,hz⟩:=I.tuple hq;obtain⟨⟨old,he⟩,hj⟩:=st;have hit:s.heap.IsTuple a its.toArray:=p;have ha:a≠j:=λz=>by obtain⟨o,h1,c1,_⟩:=hit;obtain⟨o2,h2,c2,_⟩:=hj;rw[z] at h1;rw[h1] at h2;cases h2;rw[c1] at c2;simp at c2
   obtain⟨f0,f1,f2,f3,f4,f5⟩:=hf j (by simp);have hl:i=its.toArray.size:=by have:=rv.length;simp;lia
   refine wpAny_pyNext_enum_endD (Fc (show X.A.in1.handled=none from I.ok.hd hc) j a ha its.toArray) he ⟨hl▸hj,hit⟩ λh2 eb=>⟨rfl,I.turned (t':=s.toks) (λb o hb q=>eb b o hb q) f0 f1 f3 f4 f5⟩
 self:=λ_ _ _ _ _ st h=>let ⟨⟨_,he⟩,_⟩:=st;wpAny_pyIter_enum he h
theorem wW {P:Program}{w:World}{K:PySem.W.Frag}{elts:List Expr}{x1}{pos:Pos}(a e j:Addr)(Md:e≠j):Turn P w K (.Tuple elts x1 pos) (FC K a) [e,j] e (λi h=>(∃old,IsEnum h e j i old) /\ h.IsListIter j a i) where
 mem:=by simp
 obj:=λi h st b hb=>by
  obtain⟨⟨old,he⟩,o,hj,c,d⟩:=st;rcases av.mp hb with rfl | hb
  ·exact⟨_,he,λv z=>nomatch z⟩
  ·rw[ah.mp hb];exact⟨o,hj,λv z=>by rw[d] at z;cases z⟩
 keep:=λi h h' st k=>by obtain⟨⟨old,he⟩,o,hj,r⟩:=st;exact⟨⟨old,k e (by simp) _ he⟩,o,k j (by simp) o hj,r⟩
 item := by
  intro X hP hw hK hc i pins s σ H E I hf st hg;subst hP hw hK;obtain⟨xs,x,hq,hx⟩:=hg;obtain⟨its,rv,p,hz⟩:=I.list hq;obtain⟨⟨old,he⟩,hj⟩:=st;have fe:=hf e (by simp);have fj:=hf j (by simp);have hit:s.heap.IsList a its.toArray:=p.isList;have ha:a≠j:=λz=>by obtain⟨o,h1,c1,_⟩:=hit;obtain⟨o2,h2,c2,_⟩:=hj;rw[z] at h1;rw[h1] at h2;cases h2;rw[c1] at c2;simp at c2
  have Ve:a≠e:=λz=>by obtain⟨o,h1,c1,_⟩:=hit;rw[z] at h1;rw[he] at h1;cases h1;simp at c1
  have hi:i<its.toArray.size:=by have:=(ag.mp hx).1;have:=rv.length;simp;lia
  refine wpAny_pyNext_enum_itemD (Draws.list (show X.A.in1.handled=none from I.ok.hd hc) j a ha its.toArray) he ⟨hj,hit⟩ hi Md (by simp[Md,a5 Ve]) λy h' tk hy ho jZ ht hsz hk=> ?_;refine⟨_,rfl,wpAny_letOwnedTupleGo_enum ho λh2 FY j5=> ?_⟩;obtain⟨u,hu,ru⟩:=rv.get hx;have eu:u=y:=by
   have:its.toArray[i]? =some u:=by simpa using hu
   rw[hy] at this;exact(br this).symm
  subst eu;have JP:s.heap.objs.size≠e:=Nat.ne_of_gt (aB he);refine⟨.ref s.heap.objs.size,upd H s.heap.objs.size (.tup [.int i,x]),tI (t':=tk+1) I (λb o hb k9 q=>(j5.2 b hb).trans (hk b o hb k9 q)) fe fj ⟨by rw[cC];show 2<=16777216;decide,[.int i tk,u], .cons ⟨_,rfl⟩ (.cons ru .nil),?_⟩,rfl,⟨_,x,I.c7.fresh (aq _),rfl,rfl,λys EB=>by rw[I.list_inj EB hq];exact hx⟩,⟨⟨u,by simpa using FY⟩,?_⟩,λb hb=> ?_⟩
  ·exact⟨_,(j5.2 _ JP).trans ht,rfl,_,rfl,rfl⟩
  ·obtain⟨⟨o,h1,r⟩,_⟩:=jZ;exact⟨o,(j5.2 j (a5 Md)).trans h1,r⟩
  ·have:H b=none:=(hf b hb).1;rw[bC (λz=> ?_)]
   ·exact this
   ·obtain⟨o,h1,_⟩:=hj;rcases av.mp hb with rfl | hb
    ·exact JP z.symm
    ·rw[ah.mp hb] at z;exact absurd (aB h1) (by rw[z];exact cb _)
 done:=by
   intro X hP hw hK hc i pins s σ H E I hf st hg;subst hP hw hK;obtain⟨xs,hq,hx⟩:=hg;obtain⟨its,rv,p,hz⟩:=I.list hq;obtain⟨⟨old,he⟩,hj⟩:=st;have hit:s.heap.IsList a its.toArray:=p.isList;have ha:a≠j:=λz=>by obtain⟨o,h1,c1,_⟩:=hit;obtain⟨o2,h2,c2,_⟩:=hj;rw[z] at h1;rw[h1] at h2;cases h2;rw[c1] at c2;simp at c2
   obtain⟨f0,f1,f2,f3,f4,f5⟩:=hf j (by simp);have hl:i=its.toArray.size:=by have:=rv.length;simp;lia
   refine wpAny_pyNext_enum_endD (Draws.list (show X.A.in1.handled=none from I.ok.hd hc) j a ha its.toArray) he ⟨hl▸hj,hit⟩ λh2 eb=>⟨rfl,I.turned (t':=s.toks) (λb o hb q=>eb b o hb q) f0 f1 f3 f4 f5⟩
 self:=λ_ _ _ _ _ st h=>let ⟨⟨_,he⟩,_⟩:=st;wpAny_pyIter_enum he h
section
variable {X:Cx}{elts:List Expr}{x1:_}{Aq:Pos}
def EA (K:PySem.W.Frag)(tl:TA):TI:=λσ H R=>tl σ H λvs H1=> ∃a,vs= [.ref a] /\ (∃xs,f6 K H1 a xs) /\ R (FC K a) H1
theorem Dv {l:Expr}{tl:TA}{p pos:Pos}{tg:Expr}(et:tg= .Tuple elts x1 Aq)(hg:Gl X "enumerate")(hm:X.mg "enumerate" =none)(ha:PA X [l] tl)(hs:starEach [l] X.env= [(false,eval l X.env)]:=by rfl):PI X tg (.Call (.Name "enumerate" p) [l] [] pos) (EA X.K tl):=by
 subst et;intro pins s σ H R I h;refine Call_ (gr I hg hm Boot.«enumerate» (bO (df (ha pos pins s σ H _ I h) λus s1 ⟨vs,H1,I1,r1,q1⟩=> ?_) hs rfl));obtain⟨a,e,⟨xs,hq⟩,q⟩:=q1;subst e;obtain⟨v,rfl,Zw⟩:=vals1 r1;cases Zw;obtain⟨its,rv,ht,hz⟩:=I1.list hq;refine call_enumerate_list ht.isList λh2 he hj hsz hk=> ?_;have I2:Inv X pins σ H1 {s1 with heap:=h2}:=I1.kept (t':=s1.toks) hk;refine wpAny_pyIter_enum he ?_;refine⟨_,[s1.heap.objs.size+1,s1.heap.objs.size],_,_,H1,rfl,I2,wW a (s1.heap.objs.size+1) s1.heap.objs.size (Nat.succ_ne_self _),⟨⟨_,he⟩,hj⟩,λb hb=> ?_,q⟩;rcases av.mp hb with rfl | hb
 ·exact I1.xX (Nat.le_succ _) (I1.c7.fresh (Nat.le_succ _))
 ·rw[ah.mp hb];exact I1.xX (aq _) (I1.c7.fresh (aq _))
end
end EN
namespace WL
open PySem PySem.Spec PyProof.Rows L2 EN
section
variable {X:Cx}
def O6 (K:PySem.W.Frag):List V ->Hp ->VK ->Prop:=λxs H Q=> ∃ (l:Addr) (bs:List Bool),xs= [.ref l] /\ f6 K H l (bs.map V.bl) /\ Q (.bl (bs.all id)) H
theorem LR {its:List Value}{bs:List Bool}(rv:Vals (bs.map V.bl) its){i:Nat}{v:Value}(e:its.toArray[i]? =some v):v= .bool (bs.getD i false) /\ i<bs.length:=by
 have e':its[i]? =some v:=by simpa using e
 have hlen:=rv.length;have hi:i<bs.length:=by have:=(ag.mp e').1;rw[aa] at hlen;lia
 obtain⟨w',hw,sN⟩:=rv.get (i:=i) (x:= .bl bs[i]) (by rw[aA,ae hi];rfl);rw[e'] at hw;cases hw;cases sN;exact⟨by simp[List.getD,hi],hi⟩
theorem range_all (bs:List Bool):(List.range bs.length).all (λi=>bs.getD i false)=bs.all id:=by
 apply Bool.eq_iff_iff.mpr;rw[List.all_eq_true,List.all_eq_true];constructor
 ·intro h x hx;obtain⟨i,hi,rfl⟩:=List.mem_iff_getElem.mp hx;have:=h i (List.mem_range.mpr hi);simpa [List.getD,hi] using this
 ·intro h i hi;rw[List.mem_range] at hi;have:=h bs[i] (bW hi);simpa [List.getD,hi] using this
theorem Br (hc:X.calm=true):gw X (.builtin "all") (O6 X.K):=by
 intro pins s σ H xs us Q I r h;obtain⟨l,bs,rfl,hs,q⟩:=h;obtain⟨u,rfl,ru⟩:=vals1 r;cases ru;obtain⟨its,rv,ht,hz⟩:=I.list hs;have hh:X.A.in1.handled=none:=I.ok.hd hc;have hlen:its.toArray.size=bs.length:=by have:=rv.length;rw[aa] at this;simpa using this.symm
 have eX:l<s.heap.objs.size:=by obtain⟨_,e,_⟩:=ht.isList;exact aB e
 refine PySem.call_all_walkS (wpAny_pyIter_list ht.isList ?_);refine⟨s.heap.objs.size,_,_,_,its.toArray.size,_,_,λi=>bs.getD i false,rfl,(Walks.list hh s.heap.objs.size l (aX eX) its.toArray).toS,⟨⟨_,aS _ rfl,rfl,rfl⟩,ht.isList.push _⟩,λi v s' Q' E' e hq=> ?_,λs' hm=> ?_⟩
 ·obtain⟨rfl,_⟩:=LR rv e;exact wpAny_truthy_bool hq
 ·have hk: ∀b o,s.heap.get? b=some o ->s'.heap.get? b=some o:=λb o e=>hm.heap b o (λhI=>absurd (aB e) (by rw[ah.mp hI];exact cb _)) (ar _ e);rw[Moved.eq_with hm,hlen,range_all];exact⟨.bl _,H,I.kept (t':=s'.toks) hk,rfl,q⟩
variable {K:PySem.W.Frag}
theorem cF.bools {H:Hp}: ∀ {bs:List Bool} {vs:List V},cF K H (bs.map wb) vs ->vs=bs.map V.bl
 | [],vs,h=>by simpa only[List.map_nil,cF] using h
 | n::r,vs,h=>by simp only[aH,cF] at h;obtain⟨v,t,rfl,h1,h2⟩:=h;rw[cF.bools h2,h1.eq];rfl
def Od:Aj:=λxs M q=> ∃ (a:Addr) (bs:List Bool),xs= [wr a] /\ M a=some (.lst (bs.map wb)) /\ q (wb (bs.all id)) M
instance:IC K (O6 K) Od where
 imp:=by rintro xs v M H q Q m r1 ⟨a,ns,rfl,hl,h⟩ k;obtain⟨v,rfl,r⟩:=r1.one;cases r.eq;obtain⟨vs,hv,rr⟩:=m a _ hl;cases rr.bools;exact⟨a,ns,rfl,f6.of hv,k _ M _ H h (bo.refl H) m WR.v⟩
def gO (l:List W):List W:=(List.range l.length).map λ(i:Nat)=> .tup [wi i,l.getD i wn]
theorem HC {l:List W}{i:Nat}{x:W}(h:(gO l)[i]? =some x): ∃y,l[i]? =some y /\ x= .tup [wi i,y]:=by
 unfold gO at h;rw[aA] at h;by_cases hi:i<l.length
 ·rw[List.getElem?_range hi] at h;cases h;exact⟨l[i],ae hi,by simp[List.getD,hi]⟩
 ·rw[cZ (by simpa using hi)] at h;cases h
theorem E8 {l:List W}:(gO l).length=l.length:=by simp[gO]
theorem HB {l:List W}{i:Nat}{y:W}(h:l[i]? =some y):(gO l)[i]? =some (.tup [wi i,y]):=by obtain⟨hi,rfl⟩:=ag.mp h;unfold gO;rw[aA,List.getElem?_range hi];simp[List.getD,hi]
def xI (a:WA):WI:=λρ M q=>a ρ M λxs M1=> ∃p l,xs= [wr p] /\ M1 p=some (.lst l) /\ q (gO l) (λM'=>M' p=some (.lst l)) M1
theorem E3 {M:Mp}{H:Hp}{i:Nat}{l:List W}{vs:List V}{p:Addr}{x:V}(m:fQ K M H)(rr:cF K H l vs)(hi:vs[i]? =some x)(hp:H p=none): bo H (upd H p (.tup [.int i,x])) /\ fQ K M (upd H p (.tup [.int i,x])) /\ ∃z,(gO l)[i]? =some z /\ WR K (upd H p (.tup [.int i,x])) z (.ref p):=by obtain⟨d,hd,r⟩:=rr.back hi;have ts:=L2.eg.ts (b8 (o:= .tup [.int i,x]) hp);exact⟨ts,m.new hp,_,HB hd,WR.Nm (iS.of bU) (cF.cons WR.v (cF.cons (r.ts ts) cF.nil))⟩
theorem xM {H1:Hp}{p:Addr}{l:List W}: ∀i M H,bo H1 H ->fQ K M H ->M p=some (.lst l) ->((gO l).length=i ->(FC K p).stop i H) /\ (i< (gO l).length ->(FC K p).go i H) /\ ∀v H',i< (gO l).length ->(FC K p).Kj i H v H' ->bo H H' /\ fQ K M H' /\ ∃x,(gO l)[i]? =some x /\ WR K H' x v:=by intro i M H ts m hk;obtain⟨vs,hv,rr⟩:=m p _ hk;have hl:=rr.length;rw[E8];refine⟨λh=>⟨vs,f6.of hv,by lia⟩,λh=>⟨vs,vs[i]'(by lia),f6.of hv,by simp⟩,λv H' hi y=> ?_⟩;obtain⟨q,x,hq,rfl,rfl,y⟩:=y;exact E3 m rr (y vs (f6.of hv)) hq
instance {t:TA}{a:WA} [ia:IA K t a]:II K (EA K t) (xI a) where
 imp:=λρ M σ H q R o h k=>ia.imp ρ M σ H _ _ o h λxs M1 v H1 ⟨p,l,e,hp,h1⟩ t1 m1 r1=>by subst e;obtain⟨v,rfl,r⟩:=r1.one;cases r.eq;obtain⟨vs,hv,rr⟩:=m1 p _ hp;exact⟨p,rfl,⟨vs,f6.of hv⟩,k _ _ _ M1 H1 h1 t1 m1 xM⟩
theorem Es {a:WA}{ρ:dm}{M:Mp}{q:List W ->(Mp ->Prop) ->Mp ->Prop}:xI a ρ M q=a ρ M λxs M1=>DQ xs λx=>fS x λp=>lstK (M1 p) λl=>q (gO l) (λM'=>M' p=some (.lst l)) M1:=by
 unfold xI DQ fS lstK;congr 1;funext xs M1;apply propext;constructor
 ·rintro⟨p,l,h,h2,k⟩;exact⟨_,h,p,rfl,l,h2,k⟩
 ·rintro⟨_,h,p,rfl,l,h2,k⟩;exact⟨p,l,h,h2,k⟩
end
end WL
namespace WL
open PySem L2
theorem Fj {xs:List W}{keep:Mp ->Prop}{M1:Mp}{own:Nat}{fr:List Nat}{ρ:dm}{g:WG}{c:WT}{el:WE}{q:WK}(hz:xs.length<=sizeLine) (h: ∀p,M1 p=none -> ∃I:Nat ->List W ->Mp ->Prop,I 0 [] (um M1 p (.lst [])) /\ (∀i ys M,i<=xs.length ->I i ys M ->keep M /\ M p=some (.lst ys) /\ ys.length<=i) /\(∀i x ys M,xs[i]? =some x ->I i ys M -> ∀N:List W ->Mp ->Prop,(∀ys M,I (i+1) ys M ->N ys M) ->g x (capρ own fr ρ) M λρ2 M2=>c ρ2 M2 λb M3=>gM b (el ρ2 M3 λy M4=>M4 p=some (.lst ys) /\ N (ys++ [y]) (um M4 p (.lst (ys++ [y])))) (N ys M3)) /\∀ys M,I xs.length ys M ->q (wr p) M):rP xs keep own fr g c el ρ M1 q:=by refine⟨hz,λp hp=> ?_⟩;obtain⟨I,h0,h1,h2,h3⟩:=h p hp;exact⟨I,h0,h1,λi x ys M hx hI=>h2 i x ys M hx hI _ λ_ _ z=>z,h3⟩
theorem Kr {x:Addr}{M:Mp}{q:WK}{bs:List Bool}(h:M x=some (.lst (bs.map wb)))(k:q (wb (bs.all id)) M):Od [wr x] M q:=⟨x,bs,rfl,h,k⟩
end WL
namespace WQ
open PySem L2 WL WP
def Kg (p:Int)(l:List Int):Prop:=(∀x∈l,0<=x /\ x<p) /\ ∀x,l.getLast? =some x ->x≠0
def Fy (row:List Int)(k:Nat)(x:Int):List Int:=row.set k (row.getD k 0+x)
def putK (row:List Int)(o:Nat)(l:List Int)(n:Nat):List Int:=(List.range n).foldl (λr i=>Fy r (o+i) (l.getD i 0)) row
def Pz (row:List Int)(k:Nat)(x:Int)(b:List Int):Nat ->List Int
 | 0=>row
 | j+1=>Fy (Pz row k x b j) (k+j) (x*b.getD j 0)
def pw (p s:Int):Nat ->Int
 | 0=>1
 | n+1=>pw p s n*s % p
def DH:kb:=λxs M q=> ∃ (p s:Int),xs= [wi p,wi s] /\ (p=2 \/ p=3 \/ p=5 \/ p=7) /\ 0<s /\ s<p /\ ∀r,0<r ->r<p ->r*s % p=1 ->q (wi r) M
theorem K8: ∀ (p s:Int),(p=2 \/ p=3 \/ p=5 \/ p=7) ->0<s ->s<p ->0<pw p s (p - 2).toNat /\ pw p s (p - 2).toNat<p /\ pw p s (p - 2).toNat*s % p=1:=by
 intro p s hp h0 h1;have hs:s=1 \/ s=2 \/ s=3 \/ s=4 \/ s=5 \/ s=6:=by lia
 rcases hp with rfl | rfl | rfl | rfl<;>rcases hs with rfl | rfl | rfl | rfl | rfl | rfl<;>first | decide | lia
end WQ
namespace WL
open PySem L2 PySem.Spec PyProof.Rows
abbrev WX:=Addr ->Mp ->Prop
section
variable {K:PySem.W.Frag}
def up (e:WX):WX:=λC M'=> ∃M0,Sm M0 M' /\ e C M0
end
end WL
namespace WL
open PySem L2
def Lu:W ->Bool
 | .v x=>decide (x=V.dB)
 | .tup _=>false
def Jf:R2:=λx y H Q=>y= .dB /\ Q (.bl (!decide (x=V.dB))) H
def N3:wD:=λx y M q=>y=wn /\ q (wb (!Lu x)) M
instance {K:PySem.W.Frag}:IR K Jf N3 where
 imp:=by
  rintro x y v u M H q Q m r1 r2 ⟨rfl,h⟩ k;refine⟨r2.eq,k _ M _ H h (bo.refl H) m ?_⟩;cases x with
  | v x=>rw[r1.eq];exact WR.v
  | tup l=>obtain⟨a,vs,rfl,_⟩:=r1.tup;exact WR.v
theorem DL {X:Cx}:pZ X (compareOp .IsNot) Jf:=GU
theorem E7 {M:Mp}{q:WK}{x y:W}{d:Dt}(hx:DR M x d)(hy:DR M y d)(hd:wB d<=50)(hs:oq d d=true)(h:q (wb true) M):Oa x y M q:=⟨d,d,hx,hy,hs,hd,by rw[l7];exact h⟩
def Wi {α:Type}(f:α ->W)(g:α ->Dt):Prop:= ∀a,Bk (f a)=some (g a)
theorem vQ {α:Type}{f:α ->W}{g:α ->Dt}(h:Wi f g): ∀l:List α,nj (l.map f)=some (l.map g)
 | []=>rfl
 | a::l=>by rw[aH,nj,h a,vQ h l];rfl
theorem vI {α:Type}{g:α ->Dt}{n:Nat}(h: ∀a,wB (g a) <=n): ∀l:List α,oi (l.map g) <=n
 | []=>by simp[oi]
 | a::l=>by rw[aH,oi];have:=h a;have:=vI h l;lia
end WL
namespace L2
open PySem PySem.Spec PyProof.Rows
def Keeps (S:Nat ->Prop)(g:TG):Prop:= ∀ (σ:St) (v:V) (H:Hp) (Q:St ->Hp ->Prop),g v σ H Q ->g v σ H λσ2 H2=>(σ2.length=σ.length /\ ∀i,¬S i ->σ2[i]? =σ[i]?) /\ Q σ2 H2
theorem vo {S:Nat ->Prop}{n:Nat}(h:S n):Keeps S (nF n):=by intro σ v H Q q;refine⟨⟨by simp,λi hi=> ?_⟩,q⟩;rw[List.getElem?_set_ne];intro e;subst e;exact hi h
theorem Af {own:Nat}{fr:List Nat}{σ:St}{i:Nat}{v:V}(h:(jr own fr σ)[i]? =some (some v)):own<=i:=by
 unfold jr at h;rcases Nat.lt_or_ge i own with c | c
 ·rw[a9 (by simpa using c),List.getElem?_replicate,ak c] at h;cases h
 ·exact c
def ZX (BX:TI)(g2:TG)(uk:TT)(te:TE)(σ2:St)(p:Addr)(H4:Hp)(N:List V ->Hp ->Prop):Prop:=BX σ2 H4 λJ2 H5=> ∃Z:Nat ->Nat ->List V ->Hp ->Prop,(∃m zs,Z 0 m zs H5) /\ ∀j k zs H6,Z j k zs H6 ->H6 p=some (.lst zs) /\((J2.stop j H6 /\ N zs H6) \/ (J2.go j H6 /\ zs.length<sizeLine /\ ∀y H7,J2.Kj j H6 y H7 ->g2 y σ2 H7 λσ3 H8=>uk σ3 H8 λc H9=>if c=true then te σ3 H9 λz NS=> ∃ws,NS p=some (.lst ws) /\ ws.length<sizeLine /\ ∃k',k'<k /\ Z (j+1) k' (ws++ [z]) (upd NS p (.lst (ws++ [z]))) else ∃ws k',k'<k /\ Z (j+1) k' ws H9))
def Fl (J:It)(own:Nat)(fr:List Nat)(g:TG)(tc:TT)(BX:TI)(g2:TG)(uk:TT)(te:TE)(σ:St)(p:Addr)(H1:Hp)(Q:VK):Prop:=∃ W :Nat ->Nat ->List V ->Hp ->Prop,(∃m,W 0 m [] (upd H1 p (.lst []))) /\ ∀i m ys H',W i m ys H' ->H' p=some (.lst ys) /\((J.stop i H' /\ Q (.ref p) H') \/ (J.go i H' /\ ∀x H2,J.Kj i H' x H2 ->g x (jr own fr σ) H2 λσ2 H3=>tc σ2 H3 λb H4=>if b=true then ZX BX g2 uk te σ2 p H4 λzs H5=> ∃m',m'<m /\ W (i+1) m' zs H5 else ∃zs m',m'<m /\ W (i+1) m' zs H4))
def CH (wi:TI)(own:Nat)(fr:List Nat)(g:TG)(tc:TT)(BX:TI)(g2:TG)(uk:TT)(te:TE):TE:=λσ H Q=>wi σ H λJ H1=> ∀p,H1 p=none ->Fl J own fr g tc BX g2 uk te σ p H1 Q
section
variable {prog:Program}{w:World}{A:Around}{R:Result ->Shared ->Prop}{s:Shared}
abbrev tE (elt tg iter:Expr)(ifs:List Expr)(ju de:Expr)(fh:List Expr)(scope:Scope)(pos:Pos):Expr:= .ListComp elt [⟨tg,iter,ifs,0⟩,⟨ju,de,fh,0⟩] scope pos
theorem Gf (elt tg iter:Expr)(ifs:List Expr)(ju de:Expr)(fh:List Expr)(scope:Scope)(pos:Pos)(it acc:Value)(env:Env): compTurn (tE elt tg iter ifs ju de fh scope pos) 0 it acc env=(do
 standAt iter.pos
 let r <- pyNext it
 match r with
 | none=>pure (.done .next)
 | some v=>do
  letOwnedTupleGo tg it v
  assign tg env v
  let ok <- forIn ifs true λc r=>if r=true then do let ok <- isTrue c env (eval c env);pure (ForInStep.yield ok) else pure (ForInStep.yield r)
  if ok=true then do
   let x <- eval de env
   standAt de.pos
   let x <- foldedSetIterable de env x
   let i2 <- holding [x] (pyIter x)
   let _ <- runOwn (.compStart (tE elt tg iter ifs ju de fh scope pos) 1 i2 acc env) env
   again (.compLoop (tE elt tg iter ifs ju de fh scope pos) 0 it acc env)
  else again (.compLoop (tE elt tg iter ifs ju de fh scope pos) 0 it acc env)):=by rfl
theorem Ge (elt tg iter:Expr)(ifs:List Expr)(ju de:Expr)(fh:List Expr)(scope:Scope)(pos:Pos)(it acc:Value)(env:Env): compTurn (tE elt tg iter ifs ju de fh scope pos) 1 it acc env=(do
 standAt de.pos
 let r <- pyNext it
 match r with
 | none=>pure (.done .next)
 | some v=>do
  letOwnedTupleGo ju it v
  assign ju env v
  let ok <- forIn fh true λc r=>if r=true then do let ok <- isTrue c env (eval c env);pure (ForInStep.yield ok) else pure (ForInStep.yield r)
  if ok=true then do
   ((do let _ <- call (.builtin "list.append") [acc, <- eval elt env]):Sem Unit)
   again (.compLoop (tE elt tg iter ifs ju de fh scope pos) 1 it acc env)
  else again (.compLoop (tE elt tg iter ifs ju de fh scope pos) 1 it acc env)):=by rfl
theorem CL {elt tg iter:Expr}{ifs:List Expr}{ju de:Expr}{fh:List Expr}{scope:Scope}{pos:Pos}{it acc:Value}{env:Env} (h0:codeAny (model prog w) A (.compLoop (tE elt tg iter ifs ju de fh scope pos) 1 it acc env) R s) (h:wpAny (model prog w) A (pyIter it) (λUb s'=>codeAny (model prog w) A (.compLoop (tE elt tg iter ifs ju de fh scope pos) 1 Ub acc env) R s') (notedBy (model prog w) A env λx s'=>R (.error x) s') s): codeAny (model prog w) A (.compStart (tE elt tg iter ifs ju de fh scope pos) 1 it acc env) R s:=by
 refine codeAny_of_tree ?_;show wpAny _ _ ((compStart (tE elt tg iter ifs ju de fh scope pos) 1 it acc env).onRaise (λx=>do noteFrame x env;standAt theWindowsPlace)) _ _ s;refine wpAny_notedAt ?_;unfold compStart;show wpAny _ _ (ask >>=_) _ _ s;refine ao (wpAny_askSetting (wpAny_ite ?_));split
 ·first
  | exact ao (aM (aM (And.intro rfl h0)))
  | exact aM (And.intro rfl h0)
 ·first
  | exact ao (wpAny_rule (ao (wpAny_standAt (ao (bJ h (λUb s' h'=>aM (And.intro rfl h')) λ_ _ x=>x)))))
  | (refine ao (wpAny_rule ?_);show wpAny _ _ (standAt de.pos >>=_) _ _ s;exact ao (wpAny_standAt (ao (bJ h (λUb s' h'=>aM (And.intro rfl h')) λ_ _ x=>x))))
theorem G8 {elt tg iter:Expr}{ifs:List Expr}{ju de:Expr}{fh:List Expr}{scope:Scope}{pos:Pos}{it acc:Value}{env:Env}(I:Nat ->Shared ->Prop) (turn : ∀n s,I n s ->wpAny (model prog w) A (pyNext it) (λr s₁=>match r with
   | none=>R (.ok .next) s₁
   | some v=>wpAny (model prog w) A (letOwnedTupleGo ju it v) (λ_ s₀=>wpAny (model prog w) A (assign ju env v) (λ_ s₂=>
    wpAny (model prog w) A (forIn fh true λc r=>if r=true then do let ok <- isTrue c env (eval c env);pure (ForInStep.yield ok) else pure (ForInStep.yield r)) (λok s₃=>if ok=true then wpAny (model prog w) A (eval elt env) (λx s₄=>wpAny (model prog w) A (call (.builtin "list.append") [acc,x]) (λ_ s₅=> ∃m,m<n /\ I m s₅) (λ_ _=>False) s₄) (λ_ _=>False) s₃ else ∃m,m<n /\ I m s₃) (λ_ _=>False) s₂)
    (λ_ _=>False) s₀) (λ_ _=>False) s₁) (λ_ _=>False) s)
  (n:Nat) (h:I n s):codeAny (model prog w) A (.compLoop (tE elt tg iter ifs ju de fh scope pos) 1 it acc env) R s:=by
 refine codeAny_loop rfl I (λn s hI=> ?_) n h
 show wpAny _ A ((compTurn (tE elt tg iter ifs ju de fh scope pos) 1 it acc env).onRaise (λx=>do noteFrame x env;theTreesLotGoes x)) _ _ s
 refine wpAny_noted ?_
 rw[Ge]
 refine ao (wpAny_standAt (ao (bJ (turn n s hI) (λr s₁ h₁=> ?_) λ_ _ h'=>h'.elim)))
 cases r with
 | none=>exact aM h₁
 | some v=>
  refine ao (bJ h₁ (λ_ s₀ P4=> ?_) λ_ _ h'=>h'.elim);refine ao (bJ P4 (λ_ s₂ h₂=> ?_) λ_ _ h'=>h'.elim);refine ao (bJ h₂ (λPj s₃ h₃=> ?_) λ_ _ h'=>h'.elim);cases Pj with
  | false=>exact aM ⟨rfl,h₃⟩
  | true=>exact ao (ao (bJ h₃ (λx s₄ h₄=>ao (bJ h₄ (λ_ s₅ h₅=>aM (aM ⟨rfl,h₅⟩)) λ_ _ h'=>h'.elim)) λ_ _ h'=>h'.elim))
theorem G9 {elt tg iter:Expr}{ifs:List Expr}{ju de:Expr}{fh:List Expr}{scope:Scope}{pos:Pos}{it acc:Value}{env:Env}(I:Nat ->Shared ->Prop)(hs: ∀x,foldedSetIterable de env x=pure x) (turn : ∀n s,I n s ->wpAny (model prog w) A (pyNext it) (λr s₁=>match r with
   | none=>R (.ok .next) s₁
   | some v=>wpAny (model prog w) A (letOwnedTupleGo tg it v) (λ_ s₀=>wpAny (model prog w) A (assign tg env v) (λ_ s₂=>
    wpAny (model prog w) A (forIn ifs true λc r=>if r=true then do let ok <- isTrue c env (eval c env);pure (ForInStep.yield ok) else pure (ForInStep.yield r)) (λok s₃=>if ok=true then wpAny (model prog w) A (eval de env) (λx s₄=>wpAny (model prog w) A (pyIter x) (λi2 s₅=>codeAny (model prog w) (A.mark none) (.compStart (tE elt tg iter ifs ju de fh scope pos) 1 i2 acc env) (λr s₆=>match r with | .ok _=> ∃m,m<n /\ I m s₆ | .error _=>False) s₅) (λ_ _=>False) s₄) (λ_ _=>False) s₃ else ∃m,m<n /\ I m s₃) (λ_ _=>False) s₂)
    (λ_ _=>False) s₀) (λ_ _=>False) s₁) (λ_ _=>False) s)
  (n:Nat) (h:I n s):codeAny (model prog w) A (.compLoop (tE elt tg iter ifs ju de fh scope pos) 0 it acc env) R s:=by
 refine codeAny_loop rfl I (λn s hI=> ?_) n h
 show wpAny _ A ((compTurn (tE elt tg iter ifs ju de fh scope pos) 0 it acc env).onRaise (λx=>do noteFrame x env;theTreesLotGoes x)) _ _ s
 refine wpAny_noted ?_
 rw[Gf]
 refine ao (wpAny_standAt (ao (bJ (turn n s hI) (λr s₁ h₁=> ?_) λ_ _ h'=>h'.elim)))
 cases r with
 | none=>exact aM h₁
 | some v=>
  refine ao (bJ h₁ (λ_ s₀ P4=> ?_) λ_ _ h'=>h'.elim);refine ao (bJ P4 (λ_ s₂ h₂=> ?_) λ_ _ h'=>h'.elim);refine ao (bJ h₂ (λPj s₃ h₃=> ?_) λ_ _ h'=>h'.elim);cases Pj with
  | false=>exact aM ⟨rfl,h₃⟩
  | true=>
   refine ao (bJ h₃ (λx s₄ h₄=> ?_) λ_ _ h'=>h'.elim);refine ao (wpAny_standAt ?_);rw[hs];refine ao (aM (ao (wpAny_holding (bJ h₄ (λi2 s₅ h₅=> ?_) λ_ _ h'=>h'.elim))));refine ao (wpAny_runOwn ?_);refine codeAny_mono h₅ λr s' z=> ?_;cases r with
   | ok f=>exact aM ⟨rfl,z⟩
   | error e=>exact z.elim
end
section
variable {X:Cx}{pins:List (Addr×Obj)}{σ:St}{H:Hp}{s s3:Shared}
theorem vU {tg iter elt:Expr}{ifs:List Expr}{ju de:Expr}{fh:List Expr}{pos:Pos}{own N':List Str}{fr:List Nat}{n1:Nat}{scope:Scope}{cl:List (Str×Addr)}{fp:List Addr}{it:Addr}{tn:Nat ->Heap ->Prop}{J:It}{g:TG}{tc:TT}{BX:TI}{g2:TG}{uk:TT}{te:TE}{Q:VK} {E:Value ->Shared ->Prop} {RR:Value ->Addr ->Result ->Shared ->Prop} (jD:X.calm=true) (S:d4 X own fr N' scope) (hg: ∀s3 H3,PG (bV X N' scope cl fp s3 H3) tg g) (Qn:n1<=own.length) (hw:Keeps (λi=>i<n1) g) (hc: ∀s3 H3,Kf (bV X N' scope cl fp s3 H3) ifs tc) (UZ: ∀s3 H3,PI (bV X N' scope cl fp s3 H3) ju de BX) (U2: ∀s3 H3,PG (bV X N' scope cl fp s3 H3) ju g2) (Ul:Keeps (λi=>n1<=i /\ i<own.length) g2) (NL: ∀s3 H3,Kf (bV X N' scope cl fp s3 H3) fh uk) (he: ∀s3 H3,PE (bV X N' scope cl fp s3 H3) elt te) (j5: ∀s3 H3 x,foldedSetIterable de (bV X N' scope cl fp s3 H3).env x=pure x) (og: ∀x c,cl.lookup x=some c ->X.env.cells.lookup x=some c) (qq: ∀y∈scope.names,y.2= .free ->(cl.lookup y.1).isSome=true) (I:Inv X pins σ H s) (T:Turn X.prog X.w X.K tg J fp it tn) (st:tn 0 s.heap) (tP: ∀b∈fp,je X pins H b) (h: ∀p,H p=none ->Fl J own.length fr g tc BX g2 uk te σ p H Q) (fin: ∀ (s3:Shared) (H3:Hp),Inv X pins σ H3 s3 ->(∀b∈fp,je X pins H3 b) -> ∀ (D:Addr) (σ':St) (H':Hp) (s':Shared) (t:Nat),D<s3.heap.objs.size ->Inv (bV X N' scope cl fp s3 H3) [] σ' H' s' ->Q (.ref D) H' ->RR (.ref D) s3.heap.objs.size (.ok .next) s'): wpAny (model X.prog X.w) X.A (newList []) (λacc s₃=>wpAny (model X.prog X.w) X.A (newFunctionEnv scope X.env.globals cl [] X.env.qual none .none (some X.env)) (λFp s₄=>codeAny (model X.prog X.w) X.A (.compStart (tE elt tg iter ifs ju de fh scope pos) 0 (.ref it) acc {Fp with scope:=relabel scope X.env}) (RR acc Fp.locals) s₄) E s₃) E s:=by
 refine wpAny_newObj_type ?_;have hf:H s.heap.objs.size=none:=I.c7.fresh (aq _);obtain⟨W,⟨m0,w0⟩,turn⟩:=h _ hf;generalize e3:({s with heap:=s.heap.push {cls:= .type "list",dict:=none,data:= .seq ([]:List Value).toArray}}:Shared)=s3;have KQ:s3.heap.objs.size=s.heap.objs.size+1:=by rw[<- e3];exact Heap.size_push ..
 have S1: ∀b o,s.heap.get? b=some o ->s3.heap.get? b=some o:=λb o e=>by rw[<- e3];exact ar _ e
 have I3:Inv X pins σ (upd H s.heap.objs.size (.lst [])) s3:=by rw[<- e3];exact I.laid (t':=s.toks) (λb u e=>ar _ e) (aq _) ⟨cU _,[],0, .nil,aS _ rfl⟩
 have Mx: ∀b∈fp,b<s.heap.objs.size:=λb hb=>by obtain⟨o,e,_⟩:=T.obj 0 _ st b hb;exact aB e
 have xR: ∀b∈fp,je X pins (upd H s.heap.objs.size (.lst [])) b:=λb hb=>⟨by rw[bC (aX (Mx b hb))];exact(tP b hb).1,(tP b hb).2⟩
 refine wpAny_newFunctionEnv S.pq (by intro y hy;simp at hy) (λh₁ LZ LV=> ?_) S.kind;have old: ∀b o,s3.heap.get? b=some o ->h₁.get? b=some o:=λb o e=>LV.extBut b o (aX (aB e)) (ar _ e);have Ic:=vt (t:=s3.toks+([]:List (Str×Value)).length) S I3 og qq xR (λb hb=>by rw[KQ];exact Nat.lt_succ_of_lt (Mx b hb)) LZ old;have Av:tn 0 h₁:=T.keep 0 _ _ st λb hb o e=>old b o (S1 b o e);have oO: ∀ {H':Hp},(∀b∈fp,H' b=none) -> ∀b∈fp,je (bV X N' scope cl fp s3 (upd H s.heap.objs.size (.lst []))) [] H' b:=λhn b hb=>by
  refine⟨hn b hb,?_,?_, .inl hb,λx c e=>(tP b hb).2.2.2.2.1 x c (og x c e),λp hp=>absurd (show p∈([]:List (Addr×Obj)) from hp) (by simp)⟩
  ·show b≠s3.heap.objs.size;rw[KQ];exact aX (Nat.lt_succ_of_lt (Mx b hb))
  ·exact Ic.ok.Bc b hb
 have loop : codeAny (model X.prog X.w) X.A (.compLoop (tE elt tg iter ifs ju de fh scope pos) 0 (.ref it) (.ref s.heap.objs.size) (compEnvC scope cl s3.heap.objs.size X.env)) (RR (.ref s.heap.objs.size) s3.heap.objs.size) {s3 with heap:=h₁,toks:=s3.toks+([]:List (Str×Value)).length}:=by
  refine G9 (λn s'=> ∃i ys H',Inv (bV X N' scope cl fp s3 (upd H s.heap.objs.size (.lst []))) [] (jr own.length fr σ) H' s' /\ tn i s'.heap /\ (∀b∈fp,H' b=none) /\ W i n ys H') (j5 s3 H) ?_ m0 ⟨0,[],_,Ic,Av,λb hb=>(xR b hb).1,w0⟩;rintro n s4 ⟨i,ys,H4,I4,fq,Mz,w4⟩;obtain⟨A9,alt⟩:=turn i n ys H4 w4;rcases alt with⟨stop,q⟩ | ⟨go,step⟩
  ·refine df (T.done (bV X N' scope cl fp s3 (upd H s.heap.objs.size (.lst []))) rfl rfl rfl jD i [] s4 _ H4 (λ_ _=>False) I4 (oO Mz) fq stop) λr s5 ⟨hr,I5⟩=> ?_;subst hr;exact fin s3 _ I3 xR _ _ H4 s5 s5.toks (by rw[KQ];exact Nat.lt_succ_self _) I5 q
  ·refine df (T.item (bV X N' scope cl fp s3 (upd H s.heap.objs.size (.lst []))) rfl rfl rfl jD i [] s4 _ H4 (λ_ _=>False) I4 (oO Mz) fq go) λr s5 ⟨u,hr,h5⟩=> ?_;subst hr;refine df h5 λ_ s6 ⟨x,H6,I6,r6,y6,KW,V4⟩=> ?_;have W6:=I6.pinned (oO V4) (T.obj _ _ KW);have IL:=hw _ x H6 _ (step x H6 y6);refine df (hg s3 _ _ s6 _ H6 x u _ W6 r6 IL) λ_ s7 ⟨σ7,H7,I7,wk,q7⟩=> ?_;have Y5: ∀ (j:Nat) v,(jr own.length fr σ)[j]? =some (some v) ->σ7[j]? =some (some v):=λj v e=>by rw[wk.2 j (by have:=Af e;lia)];exact e
   have Y4: ∀j,n1<=j ->j<own.length -> ∀v,σ7[j]? ≠some (some v):=λj h1 h2 v e=>by rw[wk.2 j (by lia)] at e;have:=Af e;lia
   have again: ∀ {σ9:St} {H9:Hp} {s9:Shared} {Ki:List V},σ9.length=σ7.length ->(∀ (j:Nat) v,σ7[j]? =some (some v) ->σ9[j]? =some (some v)) ->Inv (bV X N' scope cl fp s3 (upd H s.heap.objs.size (.lst []))) ([]++gJ fp s6.heap) σ9 H9 s9 ->(∃m',m'<n /\ W (i+1) m' Ki H9) ->∃m,m<n /\ ∃i ys H',Inv (bV X N' scope cl fp s3 (upd H s.heap.objs.size (.lst []))) [] (jr own.length fr σ) H' s9 /\ tn i s9.heap /\ (∀b∈fp,H' b=none) /\ W i m ys H':=λ{σ9 H9 s9 Ki} hl9 Z6 I9 ⟨m',hm,w9⟩=>by
    refine⟨m',hm,i+1,Ki,H9,(I9.iE).weak ?_ λj v e=>Z6 j v (Y5 j v e),T.keep _ _ _ KW λb hb o e=>(I9.pin (b,o) (aT _ (aT _ (eI hb e)))).1,λb hb=> ?_,w9⟩
    ·rw[hl9,wk.1]
    ·obtain⟨o,e,d⟩:=T.obj _ _ KW b hb;exact(I9.pin (b,o) (aT _ (aT _ (eI hb e)))).2.1
   refine df (hc s3 _ _ s7 σ7 H7 _ I7 q7) λok s8 ⟨H8,I8,q8⟩=> ?_;cases ok with
   | false=>simp only[ay,bf] at q8 ⊢;obtain⟨zs,q8⟩:=q8;exact again rfl (λ_ _ e=>e) I8 q8
   | true =>
    simp only[bN] at q8 ⊢;refine df (UZ s3 _ _ s8 σ7 H8 _ I8 q8) λv2 s9 h9=>df h9 λPR Td Sx=> ?_;obtain⟨vq,QW,Xl,J2,NS,Wg,W8,T2,OK,YG,Z,⟨mz,z0,xP⟩,Oj⟩:=Sx;subst Wg;have CK: ∀ {H':Hp},(∀b∈QW,H' b=none) -> ∀b∈QW,je (bV X N' scope cl fp s3 (upd H s.heap.objs.size (.lst []))) ([]++gJ fp s6.heap) H' b:=λhn b hb=>⟨hn b hb,(YG b hb).2⟩
    have Jo:codeAny (model X.prog X.w) X.A (.compLoop (tE elt tg iter ifs ju de fh scope pos) 1 (.ref vq) (.ref s.heap.objs.size) (compEnvC scope cl s3.heap.objs.size X.env)) (λr s₆=>match r with
    | .ok _=> ∃m,m<n /\ ∃i ys H',Inv (bV X N' scope cl fp s3 (upd H s.heap.objs.size (.lst []))) [] (jr own.length fr σ) H' s₆ /\ tn i s₆.heap /\ (∀b∈fp,H' b=none) /\ W i m ys H'
    | .error _=>False) Td:=by
     refine G8 (λk s'=> ∃j zs H',Inv (bV X N' scope cl fp s3 (upd H s.heap.objs.size (.lst []))) ([]++gJ fp s6.heap) σ7 H' s' /\ Xl j s'.heap /\ (∀b∈QW,H' b=none) /\ Z j k zs H') ?_ mz ⟨0,z0,NS,W8,OK,λb hb=>(YG b hb).1,xP⟩
     rintro k Xy ⟨j,zs,W',YW,OJ,QV,Y1⟩
     obtain⟨aad,WB⟩:=Oj j k zs W' Y1
     rcases WB with⟨OF,qN⟩ | ⟨go2,hsz2,OI⟩
     ·refine df (T2.done (bV X N' scope cl fp s3 (upd H s.heap.objs.size (.lst []))) rfl rfl rfl jD j _ Xy _ W' (λ_ _=>False) YW (CK QV) OJ OF) λr Zv ⟨hr,I12⟩=> ?_;subst hr;exact again rfl (λ_ _ e=>e) I12 qN
     ·refine df (T2.item (bV X N' scope cl fp s3 (upd H s.heap.objs.size (.lst []))) rfl rfl rfl jD j _ Xy _ W' (λ_ _=>False) YW (CK QV) OJ go2) λr Zv ⟨u2,hr,h12⟩=> ?_;subst hr;refine df h12 λ_ Xx ⟨x2,W9,I13,Zz,Y2,KZ,V5⟩=> ?_;have W7:=I13.pinned (CK V5) (T2.obj _ _ KZ);have S':=Ul _ x2 W9 _ (OI x2 W9 Y2);refine df (U2 s3 _ _ Xx _ W9 x2 u2 _ W7 Zz S') λ_ Zu ⟨σ14,H14,I14,NU,ZC⟩=> ?_;have Kb: ∀ {H9:Hp} {s9:Shared} {ws:List V},Inv (bV X N' scope cl fp s3 (upd H s.heap.objs.size (.lst []))) (([]++gJ fp s6.heap)++gJ QW Xx.heap) σ14 H9 s9 ->(∃k',k'<k /\ Z (j+1) k' ws H9) ->∃m,m<k /\ ∃j zs H',Inv (bV X N' scope cl fp s3 (upd H s.heap.objs.size (.lst []))) ([]++gJ fp s6.heap) σ7 H' s9 /\ Xl j s9.heap /\ (∀b∈QW,H' b=none) /\ Z j m zs H':=λ{H9 s9 ws} I9 ⟨k',uv,z9⟩=>by
       refine⟨k',uv,j+1,ws,H9,(I9.iE).weak NU.1.symm λa v e=> ?_,T2.keep _ _ _ KZ λb hb o e=>(I9.pin (b,o) (aT _ (aT _ (eI hb e)))).1,λb hb=> ?_,z9⟩
       ·rw[NU.2 a λhS=>Y4 a hS.1 hS.2 v e];exact e
       ·obtain⟨o,e,d⟩:=T2.obj _ _ KZ b hb;exact(I9.pin (b,o) (aT _ (aT _ (eI hb e)))).2.1
      refine df (NL s3 _ _ Zu σ14 H14 _ I14 ZC) λTx Zt ⟨H15,YV,Nh⟩=> ?_;cases Tx with
      | false=>simp only[ay,bf] at Nh ⊢;obtain⟨ws,Nh⟩:=Nh;exact Kb YV Nh
      | true=>simp only[bN] at Nh ⊢;refine df (he s3 _ _ Zt σ14 H15 _ YV Nh) λy Zs ⟨yv,YX,I16,ry,ws,Uy,Ug,ZA⟩=> ?_;refine df (jT _ Zs σ14 YX (.ref s.heap.objs.size) [yv] (.ref s.heap.objs.size) [y] (λv H'=>H'=upd YX s.heap.objs.size (.lst (ws++ [yv]))) I16 rfl (.cons ry .nil) ⟨_,ws,yv,rfl,rfl,Uy,Ug,rfl⟩) λv s17 ⟨_,H17,I17,_,e17⟩=> ?_;subst e17;exact Kb I17 ZA
    show codeAny _ X.A _ _ Td;exact CL Jo (T2.self _ 0 _ _ _ OK Jo)
 exact codeAny_compStart_list loop (T.self _ 0 _ _ _ Av loop)
end
section
variable {X:Cx}
theorem DA {tg iter elt:Expr}{ifs:List Expr}{ju de:Expr}{fh:List Expr}{pos:Pos}{own N':List Str}{fr:List Nat}{n1:Nat}{scope:Scope}{wi:TI}{g:TG}{tc:TT}{BX:TI}{g2:TG}{uk:TT}{te:TE}(jD:X.calm=true)(S:d4 X own fr N' scope)(hi:PI X tg iter wi) (hg: ∀cl fp s3 H3,PG (bV X N' scope cl fp s3 H3) tg g) (Qn:n1<=own.length) (hw:Keeps (λi=>i<n1) g) (hc: ∀cl fp s3 H3,Kf (bV X N' scope cl fp s3 H3) ifs tc) (UZ: ∀cl fp s3 H3,PI (bV X N' scope cl fp s3 H3) ju de BX) (U2: ∀cl fp s3 H3,PG (bV X N' scope cl fp s3 H3) ju g2) (Ul:Keeps (λi=>n1<=i /\ i<own.length) g2) (NL: ∀cl fp s3 H3,Kf (bV X N' scope cl fp s3 H3) fh uk) (he: ∀cl fp s3 H3,PE (bV X N' scope cl fp s3 H3) elt te) (hs: ∀x,foldedSetIterable iter X.env x=pure x:=by intro _;rfl) (j5: ∀cl fp s3 H3 x,foldedSetIterable de (bV X N' scope cl fp s3 H3).env x=pure x:=by intro _ _ _ _ _;rfl):PE X (.ListComp elt [⟨tg,iter,ifs,0⟩,⟨ju,de,fh,0⟩] scope pos) (CH wi own.length fr g tc BX g2 uk te):=by intro pins s σ H Q I h;obtain⟨cl,EV,og,qq⟩:=pV (I.ok.cellsOf S);rw[eval_ListComp];refine wpAny_comprehension_free (use:=none) rfl hs EV S.kind S.loc (df (hi pins s σ H _ I h) λv s1 h1=>df h1 λPR s2 h2=> ?_);obtain⟨it,fp,tn,J,H2,e,I2,T,lu,f2,h2⟩:=h2;subst e;refine vU (RR:=λacc C=>compPost (model X.prog X.w) X.A X.xe none (EP X pins σ Q) acc C) jD S (hg cl fp) Qn hw (hc cl fp) (UZ cl fp) (U2 cl fp) Ul (NL cl fp) (he cl fp) (j5 cl fp) og qq I2 T lu f2 h2 ?_;intro s3 H3 I3 f3 D σ' H' s' t hD Ic q;obtain⟨m,hn,_⟩:=Ic.loc;refine⟨m,hn,λh' Qf=>⟨.ref D,H',?_,rfl,q⟩⟩;exact rO I3 rfl (comp_back I3 f3 Ic) Ic.free Qf
end
end L2
namespace WL
open PySem L2
section
variable {K:PySem.W.Frag}
def LS (uj:List W)(fA:Mp ->Prop)(g2:WG)(c2:WT)(el:WE)(ρ2:dm)(p:Addr)(ys:List W)(M4:Mp)(N:List W ->Mp ->Prop):Prop:=∃ I2:Nat ->List W ->Mp ->Prop,I2 0 ys M4 /\ (∀j zs M,j<=uj.length ->I2 j zs M ->fA M /\ M p=some (.lst zs) /\ zs.length<sizeLine) /\(∀j y zs M,uj[j]? =some y ->I2 j zs M ->g2 y ρ2 M λρ3 M5=>c2 ρ3 M5 λb M6=>if b=true then el ρ3 M6 λz M7=>M7 p=some (.lst zs) /\ I2 (j+1) (zs++ [z]) (um M7 p (.lst (zs++ [z]))) else I2 (j+1) zs M6) /\∀zs M,I2 uj.length zs M ->N zs M
def tW (xs:List W)(keep:Mp ->Prop)(own:Nat)(fr:List Nat)(g:WG)(c:WT)(vq:WI)(g2:WG)(c2:WT)(el:WE)(ρ:dm)(M1:Mp)(q:WK):Prop:= ∀p,M1 p=none -> ∃I:Nat ->List W ->Mp ->Prop,I 0 [] (um M1 p (.lst [])) /\(∀i ys M,i<=xs.length ->I i ys M ->keep M /\ M p=some (.lst ys)) /\(∀i x ys M,xs[i]? =some x ->I i ys M ->g x (capρ own fr ρ) M λρ2 M2=>c ρ2 M2 λb M3=>if b=true then vq ρ2 M3 λuj fA M4=>LS uj fA g2 c2 el ρ2 p ys M4 (I (i+1)) else I (i+1) ys M3) /\∀ys M,I xs.length ys M ->q (wr p) M
def Ci (it:WI)(own:Nat)(fr:List Nat)(g:WG)(c:WT)(vq:WI)(g2:WG)(c2:WT)(el:WE):WE:=λρ M q=>it ρ M λxs keep M1=>tW xs keep own fr g c vq g2 c2 el ρ M1 q
theorem wComp2_e {it:WI}{own:Nat}{fr:List Nat}{g:WG}{c:WT}{vq:WI}{g2:WG}{c2:WT}{el:WE}{ρ:dm}{M:Mp}{q:WK}:Ci it own fr g c vq g2 c2 el ρ M q=it ρ M λxs keep M1=>tW xs keep own fr g c vq g2 c2 el ρ M1 q:=rfl
instance {ti:TI}{own:Nat}{fr:List Nat}{g:TG}{tc:TT}{Xm:TI}{g2:TG}{uk:TT}{te:TE}{it:WI}{w:WG}{c:WT}{vq:WI}{w2:WG}{c2:WT}{el:WE} [ii:II K ti it] [ig:IG K g w] [ic:IT K tc c] [ZY:II K Xm vq] [ZZ:IG K g2 w2] [Z0:IT K uk c2] [ie:IE K te el]: IE K (CH ti own fr g tc Xm g2 uk te) (Ci it own fr w c vq w2 c2 el) where
 imp := λρ M σ H q Q o h k=>ii.imp ρ M σ H _ _ o h λxs keep J M1 H1 h1 t1 m1 ok=>by
  intro p hp;obtain⟨I,h0,hk,hs,hd⟩:=h1 p (m1.fresh hp);have tp:=L2.eg.ts (b8 (o:= .lst []) hp);refine⟨λi m vs H'=>m=xs.length - i /\ i<=xs.length /\ ∃ys M',I i ys M' /\ bo H1 H' /\ fQ K M' H' /\ cF K H' ys vs /\ H' p=some (.lst vs),⟨_,rfl,cU _,[],_,h0,tp,m1.nY hp cF.nil,cF.nil,bU⟩,?_⟩;rintro i m vs H' ⟨rfl,hi,ys,M',hI,ts,m',rv,hv⟩;refine⟨hv,?_⟩;obtain⟨kp,hMp⟩:=hk i ys M' hi hI;obtain⟨k1,k2,k3⟩:=ok i M' H' ts m' kp;by_cases eX:i<xs.length
  ·refine .inr ⟨k2 eX,λv H2 y=> ?_⟩;obtain⟨ty,my,x,hx,r⟩:=k3 v H2 eX y;replace ts:=ts.trans ty;have oc:Ok K (capρ own fr ρ) M' (jr own fr σ) H2:=⟨(o.env.ts (t1.trans ts)).NQ own fr,my⟩
   refine ig.imp x v _ M' _ H2 _ _ oc r (hs i x ys M' hx hI) λρ3 M3 σ3 H3 h3 t3 o3=>ic.imp ρ3 M3 σ3 H3 _ _ o3 h3 λb M4 H4 h4 t4 m4=> ?_;cases b with
   | true=>
    simp only[bN] at h4 ⊢;refine ZY.imp ρ3 M4 σ3 H4 _ _ (o3.mv t4 m4) h4 λuj fA J2 M5 H5 h5 t5 m5 Tx=> ?_;obtain⟨I2,YB,EM,j5,hd2⟩:=h5;have Y':=ts.trans ((t3.trans t4).trans t5);have YN: ∀ {M6:Mp} {H6:Hp} {zs:List W},M6 p=some (.lst zs) ->fQ K M6 H6 -> ∃vs,H6 p=some (.lst vs) /\ cF K H6 zs vs:=λh m=>by obtain⟨vs,hv,rr⟩:=m p _ h;exact⟨vs,hv,rr⟩
    obtain⟨Iq,EC,Gu⟩:=YN (EM 0 ys M5 (cU _) YB).2.1 m5;refine⟨λj m vs H'=>m=uj.length - j /\ j<=uj.length /\ ∃zs M',I2 j zs M' /\ bo H5 H' /\ fQ K M' H' /\ cF K H' zs vs /\ H' p=some (.lst vs),⟨_,Iq,rfl,cU _,ys,M5,YB,bo.refl _,m5,Gu,EC⟩,?_⟩;rintro j m2 vs6 H6 ⟨rfl,hj,zs,M6,Vk,Ol,m6,Xz,X5⟩;refine⟨X5,?_⟩;obtain⟨Hb,aap,X0⟩:=EM j zs M6 hj Vk;obtain⟨a1,a2,a3⟩:=Tx j M6 H6 Ol m6 Hb;by_cases vw:j<uj.length
    ·refine .inr ⟨a2 vw,by rw[Xz.length];exact X0,λu7 H7 y7=> ?_⟩;obtain⟨S3,ZQ,x7,Z4,r7⟩:=a3 u7 H7 vw y7;have o7:Ok K ρ3 M6 σ3 H7:=⟨o3.env.ts ((t4.trans t5).trans (Ol.trans S3)),ZQ⟩
     refine ZZ.imp x7 u7 ρ3 M6 σ3 H7 _ _ o7 r7 (j5 j x7 zs M6 Z4 Vk) λρ8 M8 σ8 H8 h8 t8 o8=>Z0.imp ρ8 M8 σ8 H8 _ _ o8 h8 λb9 M9 H9 h9 t9 m9=> ?_;cases b9 with
     | true=>simp only[bN] at h9 ⊢;refine ie.imp ρ8 M9 σ8 H9 _ _ (o8.mv t9 m9) h9 λz M10 u NS ⟨Sx,h11⟩ Zg XU XC=> ?_;obtain⟨Gb,ED,C6⟩:=XU p _ Sx;have Xr:=kD (u:= .lst (Gb++ [u])) ED;refine⟨Gb,ED,by rw[C6.length];exact X0,_,?_,rfl,vw,_,_,h11,((((Ol.trans S3).trans t8).trans t9).trans Zg).trans Xr,XU.putL ED (C6.snoc XC),(C6.snoc XC).ts Xr,bU⟩;lia
     | false=>simp only[ay,bf] at h9 ⊢;obtain⟨Gb,ED,C6⟩:=YN (EM (j+1) zs M9 vw h9).2.1 m9;refine⟨Gb,_,?_,rfl,vw,_,_,h9,((Ol.trans S3).trans t8).trans t9,m9,C6,ED⟩;lia
    ·have e':j=uj.length:=by lia
     subst e';refine .inl ⟨a1 rfl,_,?_,rfl,eX,zs,M6,hd2 zs M6 Vk,Y'.trans Ol,m6,Xz,X5⟩;lia
   | false=>simp only[ay,bf] at h4 ⊢;obtain⟨Iq,EC,Gu⟩:=m4 p _ (hk (i+1) ys M4 eX h4).2;refine⟨Iq,_,?_,rfl,eX,_,_,h4,ts.trans (t3.trans t4),m4,Gu,EC⟩;lia
  ·have e':i=xs.length:=by lia
   subst e';exact .inl ⟨k1 rfl,k _ M' _ H' (hd ys M' hI) (t1.trans ts) m' WR.v⟩
theorem kM {α:Type}{f:α ->W}{l:List α}{i:Nat}{x:W}(h:(l.map f)[i]? =some x): ∃a,l[i]? =some a /\ x=f a:=by
 rw[aA] at h;cases e:l[i]? with
 | none=>rw[e] at h;cases h
 | some a=>rw[e] at h;cases h;exact⟨a,rfl,rfl⟩
theorem NP {α β:Type}{l:List α}{fW:α ->W}(inner:α ->List β)(gW:β ->W)(eW:α ->β ->W){keep:Mp ->Prop}{M1:Mp}{own:Nat}{fr:List Nat}{ρ:dm}{g:WG}{c:WT}{vq:WI}{g2:WG}{c2:WT}{el:WE}{q:WK} (hz:(l.map λa=>(inner a).length).sum<sizeLine) (iN: ∀M,Sm M1 M ->keep M) (hs: ∀a∈l, ∀M,Sm M1 M -> ∀ (B:dm ->List W ->(Mp ->Prop) ->Mp ->Prop) (N0:Mp ->Prop),(∀ρ2 fA,(∀M',Sm M1 M' ->fA M') ->(∀b∈inner a, ∀M',Sm M1 M' -> ∀N:Option W ->Mp ->Prop,N (some (eW a b)) M' ->g2 (gW b) ρ2 M' λρ3 M5=>c2 ρ3 M5 λb M6=>gM b (el ρ3 M6 λz M7=>N (some z) M7) (N none M6)) ->B ρ2 ((inner a).map gW) fA M) ->g (fW a) (capρ own fr ρ) M λρ2 M2=>c ρ2 M2 λb M3=>gM b (vq ρ2 M3 λuj fA M4=>B ρ2 uj fA M4) (N0 M3)) (hq: ∀p,M1 p=none ->q (wr p) (um M1 p (.lst (l.map λa=>(inner a).map (eW a)).flatten))): tW (l.map fW) keep own fr g c vq g2 c2 el ρ M1 q:=by
 intro p hp;have hlen: ∀k:List α,(k.map λa=>(inner a).map (eW a)).flatten.length=(k.map λa=>(inner a).length).sum:=λk=>by rw[List.length_flatten,aD];congr 1;apply bF;intro a _;simp
 have Qc: ∀i:Nat,((l.take i).map λa=>(inner a).length).sum<=(l.map λa=>(inner a).length).sum:=λi=>by
  have e:(l.map λa=>(inner a).length)=((l.take i).map λa=>(inner a).length)++((l.drop i).map λa=>(inner a).length):=by rw[<- aN,a8]
  rw[e,List.sum_append];lia
 refine⟨λi ys M=>M=um M1 p (.lst ys) /\ ys=((l.take i).map λa=>(inner a).map (eW a)).flatten,⟨rfl,by simp⟩,?_,?_,?_⟩
 ·rintro i ys M hi ⟨rfl,rfl⟩;exact⟨iN _ (c4 hp),um_same⟩
 ·rintro i x ys M hx ⟨rfl,rfl⟩;obtain⟨a,ha,rfl⟩:=kM hx;have e:l.take (i+1)=l.take i++ [a]:=by rw[bD,ha];rfl
  have eF:((l.take (i+1)).map λa=>(inner a).map (eW a)).flatten=((l.take i).map λa=>(inner a).map (eW a)).flatten++(inner a).map (eW a):=by rw[e,aN,List.flatten_append];simp
  have eS:((l.take (i+1)).map λa=>(inner a).length).sum=((l.take i).map λa=>(inner a).length).sum+(inner a).length:=by rw[e,aN,List.sum_append];simp
  refine hs a (ai ha) _ (c4 hp) (λρ2 uj fA M4=>LS uj fA g2 c2 el ρ2 p ((l.take i).map λa=>(inner a).map (eW a)).flatten M4 λys M=>M=um M1 p (.lst ys) /\ ys=((l.take (i+1)).map λa=>(inner a).map (eW a)).flatten) (λM=>M=um M1 p (.lst ((l.take i).map λa=>(inner a).map (eW a)).flatten) /\ ((l.take i).map λa=>(inner a).map (eW a)).flatten=((l.take (i+1)).map λa=>(inner a).map (eW a)).flatten) ?_;intro ρ2 fA EM j5;refine⟨λj zs M=>M=um M1 p (.lst zs) /\ zs=((l.take i).map λa=>(inner a).map (eW a)).flatten++((inner a).take j).map (eW a),⟨rfl,by simp⟩,?_,?_,?_⟩
  ·rintro j zs M hj ⟨rfl,rfl⟩;refine⟨EM _ (c4 hp),um_same,?_⟩;rw[aL,hlen,aa,a6];have b3:=Qc (i+1);rw[eS] at b3;lia
  ·rintro j y zs M hy ⟨rfl,rfl⟩;obtain⟨b,hb,rfl⟩:=kM hy;have e2:(inner a).take (j+1)=(inner a).take j++ [b]:=by rw[bD,hb];rfl
   refine j5 b (ai hb) _ (c4 hp) (λo M4=>match o with
   | some z=>M4 p=some (.lst (((l.take i).map λa=>(inner a).map (eW a)).flatten++((inner a).take j).map (eW a))) /\ (um M4 p (.lst (((l.take i).map λa=>(inner a).map (eW a)).flatten++((inner a).take j).map (eW a)++ [z]))=um M1 p (.lst (((l.take i).map λa=>(inner a).map (eW a)).flatten++((inner a).take j).map (eW a)++ [z])) /\ ((l.take i).map λa=>(inner a).map (eW a)).flatten++((inner a).take j).map (eW a)++ [z]=((l.take i).map λa=>(inner a).map (eW a)).flatten++((inner a).take (j+1)).map (eW a))
   | none=>M4=um M1 p (.lst (((l.take i).map λa=>(inner a).map (eW a)).flatten++((inner a).take j).map (eW a))) /\ ((l.take i).map λa=>(inner a).map (eW a)).flatten++((inner a).take j).map (eW a)=((l.take i).map λa=>(inner a).map (eW a)).flatten++((inner a).take (j+1)).map (eW a)) ?_
   exact⟨um_same,um_um,by rw[e2,aN];simp⟩
  ·rintro zs M ⟨rfl,rfl⟩;exact⟨rfl,by rw[eF,aa,cn]⟩
 ·rintro ys M ⟨rfl,rfl⟩;rw[aa,cn];exact hq p hp
theorem comp_map {α:Type}{l:List α}{fW:α ->W}(pr:α ->Bool)(eW:α ->W){keep:Mp ->Prop}{M1:Mp}{own:Nat}{fr:List Nat}{ρ:dm}{g:WG}{c:WT}{el:WE}{q:WK}(hz:l.length<=sizeLine)(iN: ∀M,Sm M1 M ->keep M) (hs: ∀a∈l, ∀ (M:Mp) (N:Option W ->Mp ->Prop),Sm M1 M ->N (if pr a=true then some (eW a) else none) M ->g (fW a) (capρ own fr ρ) M λρ2 M2=>c ρ2 M2 λb M3=>gM b (el ρ2 M3 λy M4=>N (some y) M4) (N none M3)) (hq: ∀p,M1 p=none ->q (wr p) (um M1 p (.lst ((l.filter pr).map eW)))):rP (l.map fW) keep own fr g c el ρ M1 q:=by
 refine⟨by rw[aa];exact hz,λp hp=>⟨λi ys M=>M=um M1 p (.lst ys) /\ ys=((l.take i).filter pr).map eW,⟨rfl,by simp⟩,?_,?_,?_⟩⟩
 ·rintro i ys M hi ⟨rfl,rfl⟩;refine⟨iN _ (c4 hp),um_same,?_⟩;rw[aa];refine a4 (List.length_filter_le _ _) ?_;rw[a6];lia
 ·rintro i x ys M hx ⟨rfl,rfl⟩;obtain⟨a,ha,rfl⟩:=kM hx;have e:l.take (i+1)=l.take i++ [a]:=by rw[bD,ha];rfl
  refine hs a (ai ha) _ (λo M4=>match o with
  | some y=>M4 p=some (.lst (((l.take i).filter pr).map eW)) /\ (um M4 p (.lst (((l.take i).filter pr).map eW++ [y]))=um M1 p (.lst (((l.take i).filter pr).map eW++ [y])) /\ ((l.take i).filter pr).map eW++ [y]=((l.take (i+1)).filter pr).map eW)
  | none=>M4=um M1 p (.lst (((l.take i).filter pr).map eW)) /\ ((l.take i).filter pr).map eW=((l.take (i+1)).filter pr).map eW) (c4 hp) ?_
  cases hf:pr a with
  | false=>rw[aj (by simp)];exact⟨rfl,by rw[e,List.filter_append];simp[hf]⟩
  | true=>rw[ak rfl];exact⟨um_same,um_um,by rw[e,List.filter_append];simp[hf]⟩
 ·rintro ys M ⟨rfl,rfl⟩;rw[aa,cn];exact hq p hp
theorem vV {α:Type}{l:List α}{fW:α ->W}(eW:α ->W){keep:Mp ->Prop}{M1:Mp}{own:Nat}{fr:List Nat}{ρ:dm}{g:WG}{c:WT}{el:WE}{q:WK}(hz:l.length<=sizeLine)(iN: ∀M,Sm M1 M ->keep M) (hs: ∀a∈l, ∀ (M:Mp) (N:Option W ->Mp ->Prop),Sm M1 M ->N (some (eW a)) M ->g (fW a) (capρ own fr ρ) M λρ2 M2=>c ρ2 M2 λb M3=>gM b (el ρ2 M3 λy M4=>N (some y) M4) (N none M3)) (hq: ∀p,M1 p=none ->q (wr p) (um M1 p (.lst (l.map eW)))):rP (l.map fW) keep own fr g c el ρ M1 q:=by refine comp_map (λ_=>true) eW hz iN (λa ha M N s h=>hs a ha M N s (by simpa using h)) λp hp=> ?_;have e:l.filter (λ_=>true)=l:=List.filter_eq_self.mpr λ_ _=>rfl;rw[e];exact hq p hp
end
end WL
namespace L2
open PySem PySem.Spec PyProof.Rows
def FN (a b c:Int):Nat:=(Builtin.Range.rangeSize a b c).toNat
theorem uT {a b:Int}:FN a b (-1)=(a - b).toNat:=by
 unfold FN Builtin.Range.rangeSize;rw[aj (by decide)];split
 ·rw[show -(-1:Int)=1 by decide,Int.ediv_one];lia
 ·show(0:Int).toNat=_;lia
def MT (lo c:Int)(n:Nat):It:=⟨λi _=>i<n,λi H x H'=>H'=H /\ x= .int (lo+i*c),λi _=>n<=i⟩
theorem uA {P:Program}{w:World}{K:PySem.W.Frag}{tg:Expr}(it:Addr)(lo c:Int)(n:Nat):Turn P w K tg (MT lo c n) [it] it (λi h=>IsRangeIter h it (lo+(i:Nat)*c) ((n:Int) - (i:Nat)) c) where
 mem:=by simp
 obj :=λi h st b hb=>by
  have e:b=it:=by simpa using hb
  subst e;exact⟨_,st,λv z=>by have z':Data.fields _=Data.cell v:=z;cases z'⟩
 keep:=λi h h' st k=>k it (by simp) _ st
 item:=by intro X hP hw hK hc i pins s σ H E I hf st hg;subst hP hw hK;obtain⟨f0,f1,f2,f3,f4,f5⟩:=hf it (by simp);have W:=Walks.range (prog:=X.prog) (w:=X.w) (I.ok.hd hc) it lo c n;refine W.item i s _ _ hg st λv h' tk hv bB kk=> ?_;obtain⟨t,rfl⟩:=hv;have I1:Inv X pins σ H {s with heap:=h',toks:=tk}:=I.turned (λb o hb e=>kk b o (by simpa using hb) e) f0 f1 f3 f4 f5;exact⟨_,rfl,zD (s:= {s with heap:=h',toks:=tk}) (n:= "range_iterator") bB rfl rfl (by decide) ⟨.int (lo+i*c),H,I1,⟨t,rfl⟩,⟨rfl,rfl⟩,bB,λb hb=>(hf b hb).1⟩⟩
 done:=by intro X hP hw hK hc i pins s σ H E I hf st hg;subst hP hw hK;obtain⟨f0,f1,f2,f3,f4,f5⟩:=hf it (by simp);exact wpAny_pyNext_range_end (I.ok.hd hc) st (by have:n<=i:=hg;lia) λh' eb=>⟨rfl,I.turned (t':=s.toks) (λb o hb e=>eb b o hb e) f0 f1 f3 f4 f5⟩
 self:=λ_ _ _ _ _ st h=>wpAny_pyIter_rangeiter st h
def yj (a b c:Int):Prop:=c≠0 /\ c.natAbs<1000000 /\ a.natAbs<1000000000 /\ b.natAbs<1000000000
theorem mV {a b c:Int}(h:c≠0):0<=Builtin.Range.rangeSize a b c:=by
 unfold Builtin.Range.rangeSize;split
 ·split
  ·have:=Int.ediv_nonneg (a:=b - a - 1) (b:=c) (by lia) (by lia);lia
  ·exact aV _
 ·split
  ·have:=Int.ediv_nonneg (a:=a - b - 1) (b:= -c) (by lia) (by lia);lia
  ·exact aV _
theorem uJ {a b c:Int}(h:yj a b c):Builtin.Range.small a b c=true:=by
 obtain⟨h0,h1,h2,h3⟩:=h;have hs:Builtin.Range.rangeSize a b c<=2000000001:=by
  unfold Builtin.Range.rangeSize;split
  ·split
   ·have:=Int.ediv_le_self (a:=b - a - 1) c (by lia);lia
   ·lia
  ·split
   ·have:=Int.ediv_le_self (a:=a - b - 1) (-c) (by lia);lia
   ·lia
 have uq:=mV (a:=a) (b:=b) h0;unfold Builtin.Range.small;simp only[Builtin.Range.rangeFitsLong,Bool.and_eq_true,Bool.or_eq_true,cq,beq_iff_eq];refine⟨⟨⟨⟨⟨by lia,by lia⟩,by lia,by lia⟩,by lia,by lia⟩,by lia,by lia⟩, .inr ?_⟩;split
 ·rw[Bool.and_eq_true,cq,cq];lia
 ·rw[Bool.and_eq_true,cq,cq];lia
section
variable {X:Cx}{tg:Expr}
def Jt (ta:TA):TI:=λσ H R=>ta σ H λvs H1=> ∃i j c:Int,vs= [.int i, .int j, .int c] /\ yj i j c /\ R (MT i c (FN i j c)) H1
theorem AA {a b c:Expr}{ta:TA}{p pos:Pos}(hg:Gl X "range")(hm:X.mg "range" =none)(ha:PA X [a,b,c] ta)(hs:starEach [a,b,c] X.env=(false,eval a X.env)::starEach [b,c] X.env:=by rfl)(j5:(backTo pos (starEach [b,c] X.env)).any (·.1)=false:=by rfl): PI X tg (.Call (.Name "range" p) [a,b,c] [] pos) (Jt ta):=by
 intro pins s σ H R I h;refine Call_ (gr I hg hm boot_range (bO (df (ha pos pins s σ H _ I h) λus s1 ⟨vs,H1,I1,r1,q1⟩=> ?_) hs j5));obtain⟨i,j,c,e,rg,q⟩:=q1;subst e;cases r1 with
 | cons r rr=>
  cases rr with
  | cons r' rr=>
   cases rr with
   | cons O8 rr=>
    cases rr;obtain⟨t,rfl⟩:=r;obtain⟨t',rfl⟩:=r';obtain⟨KO,rfl⟩:=O8;refine call_range_3 rg.1 ?_ (.inl (PyProof.noPylong_small (by have:=rg.2.1;lia)));refine wpAny_pyIter_range (IsRange.new ..) (uJ rg) ?_;have I2:Inv X pins σ H1 {s1 with heap:=s1.heap.push {cls:= .type "range",data:= .fields #[.int i t, .int j t', .int c KO]},toks:=s1.toks}:=I1.kept λb o e=>ar _ e;refine⟨(s1.heap.push {cls:= .type "range",data:= .fields #[.int i t, .int j t', .int c KO]}).objs.size,[(s1.heap.push {cls:= .type "range",data:= .fields #[.int i t, .int j t', .int c KO]}).objs.size],_,_,H1,rfl,I2.kept (t':=s1.toks) λb o e=>ar _ e,uA _ i c (FN i j c),?_,λb hb=> ?_,q⟩
    ·have e1:i+((0:Nat):Int)*c=i:=by simp
     have e2:((FN i j c:Nat):Int) - ((0:Nat):Int)=Builtin.Range.rangeSize i j c:=by unfold FN;have:=mV (a:=i) (b:=j) rg.1;lia
     show IsRangeIter _ _ (i+((0:Nat):Int)*c) (((FN i j c:Nat):Int) - ((0:Nat):Int)) c;rw[e1,e2];exact aS _ rfl
    ·have e:b=(s1.heap.push {cls:= .type "range",data:= .fields #[.int i t, .int j t', .int c KO]}).objs.size:=by simpa using hb
     subst e;exact I2.xX (aq _) (I2.c7.fresh (aq _))
end
end L2
namespace WL
open PySem L2
def nA (lo c:Int)(n:Nat):List W:=(List.range n).map λ(k:Nat)=>wi (lo+(k:Int)*c)
theorem uG {lo c:Int}{n:Nat}:(nA lo c n).length=n:=by simp[nA]
theorem step_at {lo c:Int}{n i:Nat}{x:W}(h:(nA lo c n)[i]? =some x):i<n /\ x=wi (lo+i*c):=by
 unfold nA at h;rw[aA] at h;by_cases hi:i<n
 ·rw[List.getElem?_range hi] at h;cases h;exact⟨hi,rfl⟩
 ·rw[cZ (by simpa using hi)] at h;cases h
section
variable {K:PySem.W.Frag}
def Jr (a:WA):WI:=λρ M q=>a ρ M λxs M1=> ∃i j c:Int,xs= [wi i,wi j,wi c] /\ yj i j c /\ q (nA i c (FN i j c)) (λ_=>True) M1
theorem AU {H1:Hp}{lo c:Int}{n:Nat}:BA K H1 (MT lo c n) (nA lo c n) (λ_=>True):=by intro i M H ts m _;rw[uG];refine⟨λh=>Nat.le_of_eq h,λh=>h,λv H' hi y=> ?_⟩;obtain⟨rfl,y⟩:=y;refine⟨bo.refl _,m,wi (lo+i*c),?_,by rw[y];exact WR.v⟩;simp[nA,hi]
theorem cF.three {H:Hp}{x y z:W}{vs:List V}(h:cF K H [x,y,z] vs): ∃v u t,vs= [v,u,t] /\ WR K H x v /\ WR K H y u /\ WR K H z t:=by simp only[cF] at h;obtain⟨v,t,rfl,h1,u,t',rfl,h2,s,KO,rfl,h3,rfl⟩:=h;exact⟨v,u,s,rfl,h1,h2,h3⟩
instance {t:TA}{a:WA} [ia:IA K t a]:II K (Jt t) (Jr a) where
 imp:=λρ M σ H q R o h k=>ia.imp ρ M σ H _ _ o h λxs M1 v H1 ⟨i,j,c,e,h0,h2⟩ t1 m1 r1=>by subst e;obtain⟨v,u,s,rfl,r,r',O8⟩:=r1.three;cases r.eq;cases r'.eq;cases O8.eq;exact⟨i,j,c,rfl,h0,k _ _ _ M1 H1 h2 t1 m1 AU⟩
theorem jRng3_e {a:WA}{ρ:dm}{M:Mp}{q:List W ->(Mp ->Prop) ->Mp ->Prop}:Jr a ρ M q=a ρ M λxs M1=> ∃i j c:Int,xs= [wi i,wi j,wi c] /\ yj i j c /\ q (nA i c (FN i j c)) (λ_=>True) M1:=rfl
end
end WL
namespace WQ
open PySem L2 WL WP
def cv (a b:List Int):Nat ->Nat ->Int
 | 0,_=>0
 | k+1,n=>cv a b k n+if k<=n then a.getD k 0*b.getD (n - k) 0 else 0
structure IsPart (p:Int)(one other q r:List Int):Prop where
 qs:Kg p q
 rs:Kg p r
 len:r.length<other.length
 ql:q.length<=one.length
 eq: ∀n,one.getD n 0 % p=(cv q other q.length n+r.getD n 0) % p
end WQ
namespace L2
open PySem PySem.Spec PyProof.Rows
section
variable {X:Cx}{pins:List (Addr×Obj)}{σ:St}{H:Hp}{s:Shared}{a:Addr}{kvs:List (Key×V)}{k:Key}{d:V}{u r:Value}{A:Around}{E:Value ->Shared ->Prop}
theorem MF {Q:Value ->Shared ->Prop}(I:Inv X pins σ H s)(e:H a=some (.dK kvs))(ry:RelV (kV k) u)(rd:RelV d r)(z1:kvs.length<sizeLine)(h1: ∀v w' s',gm kvs k=some v ->Inv X pins σ H s' ->RelV v w' ->Q w' s')(h2: ∀s',gm kvs k=none ->Inv X pins σ (upd H a (.dK (putK kvs k d))) s' ->Q r s'): wpAny (model X.prog X.w) A (call (.builtin "dict.setdefault") [.ref a,u,r]) Q E s:=by
 obtain⟨z,hd,vs,rel,dd⟩:=vK I.c7 e;have hz:vs.length<=sizeLine:=by rw[<- rel.length];exact z
 have hl:(putK kvs k d).length<=sizeLine:=by have:=gi kvs k d;lia
 have rv:=rel.val k;refine call_meetsIn PySem.F.slot_dict_setdefault dd.typeIs PySem.F.entry_dict_setdefault (PySem.F.args_dict_setdefault_3 _ _ _) (kt_meets_setdefault (cu X.prog X.w) a (lV ry) hd r) ⟨vs,dd,hz,λv hv=> ?_,λhn h' Bg hs=> ?_⟩
 ·rw[hv] at rv;cases hk:gm kvs k with
  | none=>rw[hk] at rv;exact absurd rv (by intro h;cases h)
  | some x=>rw[hk] at rv;exact h1 x v _ hk (I.tok _) (by first | exact rv | (cases rv;assumption))
 ·rw[hn] at rv;cases hk:gm kvs k with
  | some x=>rw[hk] at rv;exact absurd rv (by intro h;cases h)
  | none=>
   refine h2 _ hk ?_;have he: ∃q,h'.get? a=some q:=let ⟨q,_,_,hq,_⟩:=Bg;⟨q,hq⟩
   exact mf I (by rw[e];exact True.intro) hs he (pQ hl hd (rel.put k rd) Bg)
end
def CC (td ty tx:TE):TE:=λσ H Q=>td σ H λx H1=> ∃a,x= .ref a /\ W5 H1 a /\ ty σ H1 λy H2=>tx σ H2 λz H3=> ∃kvs k,H3 a=some (.dK kvs) /\ y=kV k /\ kvs.length<sizeLine /\(∀v,gm kvs k=some v ->Q v H3) /\ (gm kvs k=none ->Q z (upd H3 a (.dK (putK kvs k z))))
section
variable {X:Cx}{o e f:Expr}{apos fm:Pos}{td ty tx:TE}
theorem Dz (ho:PE X o td)(he:PE X e ty)(hf:PE X f tx)(m:M2 X o "setdefault" apos e f fm):PE X (.Call (.Attribute o "setdefault" apos) [e,f] [] fm) (CC td ty tx):=by intro pins s σ H Q I h;refine wpAny_Call_method m.base m.MB m.line PySem.F.plainAttrs_dict PySem.F.slot_dict_setdefault PySem.F.type_dict_setdefault (df (ho pins s σ H _ I h) λu s1 ⟨x,H1,I1,rx,a,ex,d,q1⟩=> ?_);subst ex;obtain rfl:u=Value.ref a:=rx;obtain⟨t1,t2,_⟩:=tH I1 d;refine⟨t1,t2,?_⟩;rw[m.trees];refine Calls.callWith_builtin rfl (Calls.evalArgs_plain (Calls.spliced_cons (df (he pins s1 σ H1 _ I1 q1) λiv s2 ⟨y,H2,I2,ry,q2⟩=>Calls.spliced_cons (df (hf pins s2 σ H2 _ I2 q2) λfv s3 ⟨z,H3,I3,rz,kvs,k,ea,ey,z1,q3,q4⟩=>Calls.spliced_nil ?_))));subst ey;exact MF I3 ea ry rz z1 (λv w' s4 hv I4 sN=>⟨_,H3,I4,sN,q3 v hv⟩) λs4 hn I4=>⟨z,_,I4,rz,q4 hn⟩
end
end L2
namespace WL
open PySem L2
variable {K:PySem.W.Frag}
def wK (a b c:WE):WE:=λρ M q=>a ρ M λx M1=> ∃p,x=wr p /\ (∃kvs,M1 p=some (.dK kvs)) /\ b ρ M1 λy M2=>c ρ M2 λz M3=> ∃kvs k,M3 p=some (.dK kvs) /\ y=eZ k /\ kvs.length<sizeLine /\ (∀x,d5 kvs k=some x ->q x M3) /\ (d5 kvs k=none ->q z (um M3 p (.dK (iH kvs k z))))
instance {t u s:TE}{a b c:WE} [ia:IE K t a] [ib:IE K u b] [ic:IE K s c]:IE K (CC t u s) (wK a b c) where
 imp :=λρ M σ H q Q o h k=>ia.imp ρ M σ H _ _ o h λx M1 v H1 ⟨p,e,⟨kvs,hp⟩,h1⟩ t1 m1 r1=>by
  subst e;obtain⟨ks,hk,rr⟩:=m1 p _ hp;refine⟨p,r1.eq, .inl ⟨ks, .inl hk⟩,ib.imp ρ M1 σ H1 _ _ (o.mv t1 m1) h1 λy M2 u H2 h2 t2 m2 r2=>ic.imp ρ M2 σ H2 _ _ (o.mv (t1.trans t2) m2) h2 λz M3 u3 H3 ⟨kvs,ky,e2,e3,hl,h3,h4⟩ t3 m3 r3=> ?_⟩;subst e3;obtain⟨ks,hk,rr⟩:=m3 p _ e2;have ts:=lg (u:= .dK (putK ks ky u3)) hk;refine⟨ks,ky,hk,jW (r2.ts t3),by rw[rr.length];exact hl,λv hv=> ?_,λhn=> ?_⟩
  ·rcases rr.val ky with⟨n1,n2⟩ | ⟨x',v',n1,n2,rx⟩
   ·rw[n2] at hv;cases hv
   ·rw[n2] at hv;cases hv;exact k _ M3 _ H3 (h3 _ n1) ((t1.trans t2).trans t3) m3 rx
  ·rcases rr.val ky with⟨n1,n2⟩ | ⟨x',v',n1,n2,rx⟩
   ·exact k _ _ _ _ (h4 n1) (((t1.trans t2).trans t3).trans ts) (m3.putD hk (KR.put r3 rr)) (r3.ts ts)
   ·rw[n2] at hn;cases hn
def qJ (o:Option W)(q:W ->Prop)(n:Prop):Prop:=(∀x,o=some x ->q x) /\ (o=none ->n)
theorem wDSetD_e {a b c:WE}{ρ:dm}{M:Mp}{q:WK}:wK a b c ρ M q=a ρ M λx M1=>fS x λp=>ja (M1 p) λ_=>b ρ M1 λy M2=>c ρ M2 λz M3=>m8 y λk=>ja (M3 p) λkvs=>gR (kvs.length<sizeLine) (qJ (d5 kvs k) (λx=>q x M3) (q z (um M3 p (.dK (iH kvs k z))))):=by
 unfold wK fS m8 ja gR qJ;congr 1;funext x M1;apply propext;constructor;all_goals
  have e: ∀p:Addr,(λy M2=>c ρ M2 λz M3=> ∃kvs k,M3 p=some (.dK kvs) /\ y=eZ k /\ kvs.length<sizeLine /\ (∀x,d5 kvs k=some x ->q x M3) /\ (d5 kvs k=none ->q z (um M3 p (.dK (iH kvs k z)))))=(λy M2=>c ρ M2 λz M3=> ∃k,y=eZ k /\ ∃kvs,M3 p=some (.dK kvs) /\ kvs.length<sizeLine /\ (∀x,d5 kvs k=some x ->q x M3) /\ (d5 kvs k=none ->q z (um M3 p (.dK (iH kvs k z))))):=λp=>by
   funext y M2;congr 1;funext z M3;apply propext;constructor
   ·rintro⟨a,b,c,d,e⟩;exact⟨b,d,a,c,e⟩
   ·rintro⟨b,d,a,c,e⟩;exact⟨a,b,c,d,e⟩
 ·rintro⟨p,h1,⟨kvs,h2⟩,h⟩;exact⟨p,h1,kvs,h2,e p▸h⟩
 ·rintro⟨p,h1,kvs,h2,h⟩;exact⟨p,h1,⟨kvs,h2⟩,(e p).symm▸h⟩
theorem setdK_s {x:W}{q:W ->Prop}{n:Prop}:qJ (some x) q n=q x:=by apply propext;unfold qJ;constructor;(· intro h;exact h.1 x rfl);(· intro h;exact⟨λy e=>by cases e;exact h,λe=>nomatch e⟩)
theorem setdK_n {q:W ->Prop}{n:Prop}:qJ none q n=n:=by apply propext;unfold qJ;constructor;(· intro h;exact h.2 rfl);(· intro h;exact⟨λy e=>(nomatch e),λ_=>h⟩)
end WL
namespace WL
open PySem L2
theorem Fi {α:Type}{l:List α}{fW:α ->W}(eW:α ->W){keep:Mp ->Prop}{M1:Mp}{own:Nat}{fr:List Nat}{ρ:dm}{g:WG}{c:WT}{el:WE}{q:WK}(hz:l.length<=sizeLine)(iN: ∀M,Sm M1 M ->keep M) (hs: ∀a∈l, ∀ (M:Mp) (N:Option W ->Mp ->Prop),Sm M1 M ->(∀M',Sm M M' ->N (some (eW a)) M') ->g (fW a) (capρ own fr ρ) M λρ2 M2=>c ρ2 M2 λb M3=>gM b (el ρ2 M3 λy M4=>N (some y) M4) (N none M3)) (hq: ∀p M',M1 p=none ->Sm M1 M' ->M' p=some (.lst (l.map eW)) ->q (wr p) M'):rP (l.map fW) keep own fr g c el ρ M1 q:=by
 refine⟨by rw[aa];exact hz,λp hp=>⟨λi ys M=>M p=some (.lst ys) /\ Sm M1 M /\ ys=(l.take i).map eW,⟨um_same,c4 hp,by simp⟩,?_,?_,?_⟩⟩
 ·rintro i ys M hi ⟨h1,h2,rfl⟩;refine⟨iN _ h2,h1,?_⟩;rw[aa,a6];lia
 ·rintro i x ys M hx ⟨h1,h2,rfl⟩;obtain⟨a,ha,rfl⟩:=kM hx;have e:l.take (i+1)=l.take i++ [a]:=by rw[bD,ha];rfl
  refine hs a (ai ha) _ (λo M4=>match o with
  | some y=>M4 p=some (.lst ((l.take i).map eW)) /\ um M4 p (.lst ((l.take i).map eW++ [y])) p=some (.lst ((l.take i).map eW++ [y])) /\ Sm M1 (um M4 p (.lst ((l.take i).map eW++ [y]))) /\ (l.take i).map eW++ [y]=(l.take (i+1)).map eW
  | none=>M4 p=some (.lst ((l.take i).map eW)) /\ Sm M1 M4 /\ (l.take i).map eW=(l.take (i+1)).map eW) h2 λM' s'=>⟨s' _ _ h1,um_same,λc o ec=>by rw[aJ (dw ec hp)];exact s' _ _ (h2 _ _ ec),by rw[e,aN];rfl⟩
 ·rintro ys M ⟨h1,h2,rfl⟩;rw[aa,cn] at h1;exact hq p M hp h2 h1
end WL
namespace WQ
open PySem L2 WL WP
def cs (n r:Int)(l:Pt):Int:=((l.filter λz=>decide (z.1 % n=r)).map (·.2)).sum
end WQ
namespace L2
open PySem PySem.Spec PyProof.Rows
section
variable {X:Cx}{tg l:Expr}{tl:TE}{K:PySem.W.Frag}
theorem Du (hK:X.K=K)(hl:PE X l tl):PI X tg l (Ey K tl):=by subst hK;exact eB hl
end
end L2
namespace WQ
open PySem L2 WL WP
abbrev Cf:=Nat ->Int
def act:Nat ->Cf ->Cf ->Int
 | 0,f,g=>f 0*g 0
 | n+1,f,g=>f 0*g (n+1)+act n (λi=>f (i+1)) g
def co (l:List Int):Cf:=λi=>l.getD i 0
def Mult (p:Int)(a g:Cf):Prop:= ∃ (E:Cf) (N:Nat),(∀i,N<=i ->E i % p=0) /\ ∀n,a n % p=act n E g % p
def r8 (p:Int)(a g h:Cf):Prop:= ∃ (A B:Cf) (N:Nat),(∀i,N<=i ->A i % p=0 /\ B i % p=0) /\ ∀n,a n % p=(act n A g+act n B h) % p
end WQ
namespace L2
open PySem PySem.Spec PyProof.Rows
def Jp (kvs:List (Str×V))(k:Str):Option V:=(kvs.find? λkv=>decide (kv.1=k)).map (·.2)
end L2
namespace WL
open PySem L2
variable {K:PySem.W.Frag}
class KT (K:PySem.W.Frag) (kvs:List (Str×V)) (tb:outParam (List (Str×W))):Prop where
 rel: ∀k:Str,((tb.find? λkv=>decide (kv.1=k)).map (·.2)=none /\ Jp kvs k=none) \/ ∃x v,(tb.find? λkv=>decide (kv.1=k)).map (·.2)=some x /\ Jp kvs k=some v /\ ∀H,WR K H x v
end WL
namespace WQ
open PySem L2 WL WP
def FV (p:Int)(a:Rd)(v:Int):Prop:= ∃lo hi,gT (IP a) lo /\ nU (IP a) hi /\ v=fwv p a lo hi
open Classical in
noncomputable def fv (p:Int) (a:Rd):Int:=if h: ∃v,FV p a v then h.choose else 0
def names:List Str:= ["on","back","up","down"]
def IL (p:Int)(s:Str):Rd:=if s= "on" then(1,[]) else if s= "back" then(-1,[]) else if s= "up" then(0,[(0,1)]) else(0,[(0,p - 1)])
noncomputable def ki (p:Int) (a:Rd) (s:Str):Bool:=decide (fv p (jn p a (IL p s)) >fv p a)
def KU (a b:Int):List Str:=List.replicate (a - b).natAbs (if a<=b then "on" else "back")
def Kx (p s:Int):List Str:=if s<=p - s then List.replicate s.toNat "up" else List.replicate (p - s).toNat "down"
def Gv (p:Int):Int ->Pt ->List Str
 | _,[]=> []
 | here,z::r=>KU here z.1++Kx p z.2++Gv p z.1 r
def pairsOf (p:Int)(z:Int×Int):Pt:=if z.2<=p - z.2 then List.replicate z.2.toNat (z.1,1) else List.replicate (p - z.2).toNat (z.1, -1)
def SY:Int ->Pt ->Int
 | _,[]=>0
 | here,z::r=>MQ (here - z.1)+SY z.1 r
structure Inv (n:Nat)(s:Int×Pt)(lo hi:Int):Prop where
 l0:lo<=0
 h0:0<=hi
 l1:lo<=s.1
 h1:s.1<=hi
 pl: ∀z∈s.2,lo<=z.1 /\ z.1<=hi
 on: ∀z∈s.2,z.2=1 \/ z.2= -1
 le:2*(hi - lo) - MQ s.1+s.2.length<=n
end WQ
namespace L2
open PySem PySem.Spec PyProof.Rows
theorem Inv.freeze {X:Cx}{pins:List (Addr×Obj)}{σ:St}{H:Hp}{s:Shared}{d:Addr}{kvs:List (Key×V)}{o:Obj}(I:Inv X pins σ H s)(e:H d=some (.dK kvs))(ho:s.heap.get? d=some o): Inv X pins σ (upd H d (.kR o (.dK kvs))) s:=by
 have ne: ∀ {b u},H b=some u ->u≠ .dK kvs ->b≠d:=λ{b u} h n z=>by subst z;rw[e] at h;exact n (br h).symm
 have G5: ∀ {b},H b=none ->b≠d:=λ{b} h z=>by subst z;rw[e] at h;cases h
 refine⟨I.ok,I.os,I.bare,⟨I.base.keep,I.base.slot,λb u h1 h2 h3=> ?_,I.base.there,λb xs h=> ?_,λb o' u h=> ?_,λb ps h=> ?_⟩,I.loc,I.cell,?_,λx c h=> ?_,λp hp=> ?_,λb u h=> ?_,I.len⟩
 ·have z:=I.base.free b u h1 h2 h3;rw[bC (G5 z)];exact z
 ·have z:=I.base.mN b xs h;rw[bC (ne z (λq=>nomatch q))];exact z
 ·have z:=I.base.kQ b o' u h;rw[bC (ne z (λq=>nomatch q))];exact z
 ·obtain⟨more,z⟩:=I.base.mP b ps h;exact⟨more,by rw[bC (ne z (λq=>nomatch q))];exact z⟩
 ·rw[bC (G5 I.free)];exact I.free
 ·rw[bC (G5 (I.gN x c h))];exact I.gN x c h
 ·obtain⟨a1,a2,a3⟩:=I.pin p hp;exact⟨a1,by rw[bC (G5 a2)];exact a2,a3⟩
 ·have ow: ∀c,H c=some (.own b) ->upd H d (.kR o (.dK kvs)) c=some (.own b):=λc r=>by rw[bC (ne r (λq=>nomatch q))];exact r
  have tu: ∀c xs,H c=some (.tup xs) ->upd H d (.kR o (.dK kvs)) c=some (.tup xs):=λc xs r=>by rw[bC (ne r (λq=>nomatch q))];exact r
  by_cases hb:b=d
  ·subst hb;rw[bU] at h;cases h;exact⟨ho,(I.c7 b _ e).oN (λ_ _ _ h=>h) ow tu⟩
  ·rw[bC hb] at h;exact(I.c7 b u h).oN (λ_ _ _ h=>h) ow tu
theorem E1 {X:Cx}{pins:List (Addr×Obj)}{σ:St}{H:Hp}{s:Shared}{d:Addr}{o:Obj}{kvs:List (Key×V)}{es:Array DictEntry}{ep:Nat}(I:Inv X pins σ H s)(ho:o.data= .dict es ep)(e:H d=some (.kR o (.dK kvs))): ∃vs,KV kvs vs /\ s.heap.DictAt (cu X.prog X.w) d vs ep:=by
 obtain⟨h0,_,_,vs,rel,o',SE,SF,h1,h2,h3,h4⟩:=(show dF X.prog X.w H s.heap d (.kR o (.dK kvs)) from I.c7 d _ e)
 rw[h0] at h1;cases h1;rw[ho] at h3;cases h3;exact⟨vs,rel,o,es,h0,h2,ho,h4⟩
end L2
namespace WL
open PySem L2
variable {K:PySem.W.Frag}
theorem pF {H:Hp}: ∀ {kvs:List (Key×W)} {vs:List (Key×V)},KR K H kvs vs ->kvs.length=vs.length
 | _,_, .nil=>rfl
 | _,_, .cons _ t=>by rw[aG,aG,pF t]
end WL
namespace WQ
open PySem L2 WL WP
def Q2 (n:Int):Pt ->Int ->Int
 | [],_=>0
 | z::r,k=>(if z.1 % n=k then z.2 else 0)+Q2 n r k
def fl (p:Int)(m:Nat)(f:Pt):List Int:=(List.range m).map λ(k:Nat)=>Q2 m f k % p
end WQ
namespace L2
open PySem PySem.Spec PyProof.Rows
section
variable {X:Cx}
def C8 (i:Int)(n:Nat):List V:=(List.range n).map λ(k:Nat)=> .int (i+(k:Int))
def CA (ta:TA):TE:=λσ H Q=>ta σ H λvs H1=> ∃i j:Int,vs= [.int i, .int j] /\ (-(2 ^ 62) <=i /\ i<2 ^ 62 /\ -(2 ^ 62) <=j /\ j<2 ^ 62) /\ (j - i).toNat<=16000000 /\ ∀l,H1 l=none ->Q (.ref l) (upd H1 l (.lst (C8 i (j - i).toNat)))
theorem Gd {i:Int}{n:Nat}{acc:Array Value}(h:ItemsOf (λj v=> ∃t,v=Value.int (i+(j:Int)*1) t) acc n):Vals (C8 i n) acc.toList:=by
 obtain⟨hl,hv⟩:=h;have Ma:acc.toList.length=n:=by simpa using hl
 have key: ∀ (k:Nat) (l:List Value) (m:Nat),l.length=m ->(∀j v,l[j]? =some v -> ∃t,v=Value.int (i+((k+j:Nat):Int)) t) ->Vals ((List.range' k m).map λ(k:Nat)=>V.int (i+(k:Int))) l:=by
  intro k l;induction l generalizing k with
  | nil=>intro m hm _;subst hm;exact .nil
  | cons v r ih=>
   intro m hm hj;subst hm;rw[aG,List.range'_succ,aH];refine .cons ?_ (ih (k+1) r.length rfl λj v' e=> ?_)
   ·obtain⟨t,e⟩:=hj 0 v rfl;exact⟨t,by simpa using e⟩
   ·obtain⟨t,e'⟩:=hj (j+1) v' (by rw[List.getElem?_cons_succ];exact e);exact⟨t,by rw[e'];congr 2<;>lia⟩
 have:=key 0 acc.toList n Ma λj v e=>by obtain⟨t,e'⟩:=hv j v (by rw[<- Array.getElem?_toList];exact e);exact⟨t,by rw[e'];congr 2<;>lia⟩
 unfold C8;rw[List.range_eq_range'];exact this
theorem xo {a b:Expr}{ta:TA}{p1 p2 Dq sV:Pos}(QA:Gl X "list")(L5:X.mg "list" =none)(hg:Gl X "range")(hm:X.mg "range" =none)(hc:X.calm=true)(ha:PA X [a,b] ta) (hs:starEach [a,b] X.env= [(false,eval a X.env),(false,eval b X.env)]:=by rfl) (j5:starEach [b] X.env= [(false,eval b X.env)]:=by rfl) (ht:starEach [.Call (.Name "range" p2) [a,b] [] sV] X.env= [(false,eval (.Call (.Name "range" p2) [a,b] [] sV) X.env)]:=by rfl): PE X (.Call (.Name "list" p1) [.Call (.Name "range" p2) [a,b] [] sV] [] Dq) (CA ta):=by
 intro pins s σ H Q I h;refine Call_ (gr I QA L5 boot_list (bO ?_ ht rfl));rw[ht];refine Calls.spliced_cons (Call_ (gr I hg hm boot_range (bO (df (ha sV pins s σ H _ I h) λus s1 ⟨vs,H1,I1,r1,q1⟩=> ?_) (by rw[hs,j5]) (by rw[j5];rfl))));obtain⟨i,j,e,⟨q1,q2,q3,q4⟩,hn,q⟩:=q1;subst e;cases r1 with
 | cons r rr=>
  cases rr with
  | cons r' rr=>cases rr;obtain⟨t,rfl⟩:=r;obtain⟨t',rfl⟩:=r';refine call_range_2 (Calls.spliced_nil ?_);have I2:Inv X pins σ H1 {s1 with heap:=s1.heap.push {cls:= .type "range",data:= .fields #[.int i t, .int j t', .int 1 s1.toks]},toks:=s1.toks+1}:=I1.kept λb o e=>ar _ e;refine call_list_range (n:=(j - i).toNat) (I1.ok.hd hc) (IsRange.new ..) (small_one q1 q2 q3 q4) (by rw[rangeSize_one];split<;>lia) (by lia) λh' tk MP c' kp ER items=> ?_;have hv:=Gd items;refine⟨.ref _,_,I2.laid (t':=tk) kp (aq _) (show dF X.prog X.w _ h' _ (.lst (C8 i (j - i).toNat)) from⟨?_,MP.toList,c',hv,by simpa using ER⟩),rfl,q _ (I2.c7.fresh (aq _))⟩;unfold C8;rw[aa,cV];exact a4 hn (by rw[cC];decide)
end
end L2
namespace WL
open PySem L2
variable {K:PySem.W.Frag}
def Cc (a:WA):WE:=λρ M q=>a ρ M λxs M1=> ∃i j:Int,xs= [wi i,wi j] /\ (-(2 ^ 62) <=i /\ i<2 ^ 62 /\ -(2 ^ 62) <=j /\ j<2 ^ 62) /\ (j - i).toNat<=16000000 /\ ∀l,M1 l=none ->q (wr l) (um M1 l (.lst (fG i (j - i).toNat)))
theorem C7 {H:Hp}(i:Int): ∀ (l:List Nat),cF K H (l.map λ(k:Nat)=>wi (i+(k:Int))) (l.map λ(k:Nat)=>V.int (i+(k:Int)))
 | []=>by simp only[List.map_nil,cF]
 | k::r=>by simp only[aH,cF];exact⟨_,_,rfl,WR.v,C7 i r⟩
instance {t:TA}{a:WA} [ia:IA K t a]:IE K (CA t) (Cc a) where
 imp:=λρ M σ H q Q o h k=>ia.imp ρ M σ H _ _ o h λxs M1 vs H1 ⟨i,j,ex,h1,h2,h3⟩ t1 m1 r1=>by subst ex;obtain⟨v,u,rfl,r,r'⟩:=r1.two;cases r.eq;cases r'.eq;exact⟨i,j,rfl,h1,h2,λp hp=>k _ _ _ _ (h3 p (m1.fresh hp)) (t1.trans (L2.eg.ts (b8 hp))) (m1.nY hp (C7 i _)) WR.v⟩
theorem Cb {a:WA}{ρ:dm}{M:Mp}{q:WK}:Cc a ρ M q=a ρ M λxs M1=> ∃i j:Int,xs= [wi i,wi j] /\ (-(2 ^ 62) <=i /\ i<2 ^ 62 /\ -(2 ^ 62) <=j /\ j<2 ^ 62) /\ (j - i).toNat<=16000000 /\ px M1 λl=>q (wr l) (um M1 l (.lst (fG i (j - i).toNat))):=rfl
end WL
namespace WQ
open PySem L2 WL WP
structure Wk (a:Rd)(sp:Int)(wk:List Int)(st sg t:Int)(N:Nat):Prop where
 s1:sg=1 \/ sg= -1
 t0:0<t
 sp:sp=sg*t
 wk:wk=(List.range N).map λ(k:Nat)=>st+sg*(k:Int)
 all: ∀z∈a.2, ∃j:Nat,j<N /\ z.1=st+sg*(j:Int)
end WQ
namespace L2
open PySem PySem.Spec PyProof.Rows
theorem u4 {X:Cx}{pos:Pos}{k v:Expr}{tk tv:TE}(hk:PE X k tk)(hv:PE X v tv):PE X (.Dict [some k] [v] pos) (CB [(tk,tv)]):=GK (Dp hk hv GG) rfl rfl (by simp) (by simp)
end L2
namespace WL
open PySem L2
variable {K:PySem.W.Frag}
def Ce (a b:WE):WE:=λρ M q=> ∀p,M p=none ->a ρ (um M p (.dK [])) λx M1=>b ρ M1 λy M2=>M2 p=some (.dK []) /\ ∃k,x=eZ k /\ q (wr p) (um M2 p (.dK [(k,y)]))
instance {tk tv:TE}{a b:WE} [ia:IE K tk a] [ib:IE K tv b]:IE K (CB [(tk,tv)]) (Ce a b) where
 imp :=λρ M σ H q Q o h k=>λp hp=>by
  have t0:bo H (upd H p (.dK [])):=L2.eg.ts (b8 hp);have m0:fQ K (um M p (.dK [])) (upd H p (.dK [])):=o.hp.put t0 ⟨[],bU, .nil⟩;refine ia.imp ρ _ σ _ _ _ (o.mv t0 m0) (h p (o.hp.fresh hp)) λx M1 v H1 h1 t1 m1 r1=> ?_;refine ib.imp ρ M1 σ H1 _ _ (o.mv (t0.trans t1) m1) h1 λy M2 u H2 ⟨e1,ky,e2,h2⟩ t2 m2 r2=> ?_;subst e2;obtain⟨ks,hk,rr⟩:=m2 p _ e1;cases rr;have ev:v=kV ky:=by
   cases ky with
   | inl i=>exact r1.eq
   | inr z=>exact r1.eq
  refine⟨hk,[(ky,u)],by rw[ev];rfl,by simp,?_⟩;have t3:=lg (u:= .dK (jA [] [(ky,u)])) hk;refine k _ _ _ _ h2 (((t0.trans t1).trans t2).trans t3) (m2.put t3 ⟨_,bU,?_⟩) WR.v;show KR K _ [(ky,y)] (jA [] [(ky,u)]);have em:jA [] [(ky,u)]= [(ky,u)]:=rfl;rw[em];exact .cons ⟨rfl,r2.ts t3⟩ .nil
theorem Cd {a b:WE}{ρ:dm}{M:Mp}{q:WK}:Ce a b ρ M q=px M λp=>a ρ (um M p (.dK [])) λx M1=>b ρ M1 λy M2=>M2 p=some (.dK []) /\ ∃k,x=eZ k /\ q (wr p) (um M2 p (.dK [(k,y)])):=rfl
end WL
namespace WQ
open PySem L2 WL WP
inductive Ln where
 | rest | mem (k:Int) | join (a b:Nat) | times (a:Nat) (n:Int)
deriving DecidableEq
def Zq (r:Pt)(n:Int):Pt:=if n<0 then(List.replicate (-n).toNat (r.reverse.map λz=>(z.1, -z.2))).flatten else(List.replicate n.toNat r).flatten
def OY (acc:List Pt):Ln ->Pt
 | .rest=> []
 | .mem k=> [(k,1)]
 | .join a b=>acc.getD a []++acc.getD b []
 | .times a n=>Zq (acc.getD a []) n
def OV (ls:List Ln):List Pt:=ls.foldl (λacc l=>acc++ [OY acc l]) []
theorem fX {α:Type}(l:List α)(h:l≠ []): ∃r x,l=r++ [x]:=⟨l.dropLast,l.getLast h,(List.dropLast_concat_getLast h).symm⟩
def Tf (ls:List Ln)(i:Nat):Pt:=(OV ls).getD i []
def ZM:Ln ->List Nat
 | .join a b=> [a,b]
 | .times a _=> [a]
 | _=> []
structure WI (ls:List Ln)(last i:Nat)(l:List Nat):Prop where
 nd:l.Nodup
 la:last∈l
 bd: ∀j∈l,j<=last /\ (Tf ls j).length<=(Tf ls last).length
 cl: ∀j∈l,last<j+i ->Tf ls j≠ [] -> ∀ln,ls[j]? =some ln -> ∀b∈ZM ln,b∈l
end WQ
namespace L2
open PySem PySem.Spec PyProof.Rows
section
variable {prog:Program}{w:World}{A:Around}{R:Result ->Shared ->Prop}{I:Addr}{fp wr:List Addr}{n:Nat}{P:Nat ->Value ->Prop}{St:Nat ->Heap ->Prop}{kw:List (Str×Value)}
theorem Eg (W:Walks prog w A.in1 I fp wr n P St)(bt:Nat ->Nat ->Bool)(EU:CmpOf prog w A.in1 .Lt P bt)(Z:Addr)(hZ:Z∉fp): ∀ (k j:Nat) (s:Shared) (x:Value) (c:Nat),n - (j+1)=k ->j+1<=n ->St (j+1) s.heap ->P (argBest bt j) x ->s.heap.get? Z=some {cls:= .type "list",dict:=none,data:= .seq #[x,x] c,slots:= #[]} ->(∀v h' tk,P (argBest bt (n - 1)) v ->(∀b o,b∉wr ->b≠Z ->s.heap.get? b=some o ->h'.get? b=some o) ->R (.ok (.ret v)) {s with heap:=h',toks:=tk}) ->codeAny (model prog w) A (.builtin "min.loop" ⟨[.ref I, .none, .ref Z],kw⟩) R s:=by
 have hw:Z∉wr:=λh=>hZ (W.sub _ h);have nm:(toString "min" ++toString ".loop" :String)= "min.loop" :=by decide
 intro k;induction k with
 | zero=>
  intro j s x c hk hj jZ hP hS hR;have e0:j+1=n:=by lia
  refine codeAny_builtin F.entry_min_loop ?_;rw[Around.under_plainId F.plain_min_loop _];show wpAny _ A.in1 (seqItems? (.ref Z) >>=_) _ _ s;refine ao (wpAny_seqItems hS rfl ?_);show wpAny _ A.in1 (tryCatch (pyNext (.ref I)) _ >>=_) _ _ s;refine ao (wpAny_tryCatch (W.done s _ _ (e0▸jZ) λh1 tk ur=> ?_));have JR:=ur Z _ hw hS;show wpAny _ A.in1 (updateSeq Z (λ_=> #[]) >>=_) _ _ _;refine ao ?_;refine wpAny_updateSeq JR rfl (ao (wpAny_letGo (aM ?_)));exact hR x _ tk (by rw[<- e0];exact hP) λb o n1 n2 e=>(Heap.get?_update_other _ _ (a5 n2)).trans (ur b o n1 e)
 | succ k ih=>
  intro j s x c hk hj jZ hP hS hR;have eX:j+1<n:=by lia
  refine codeAny_builtin F.entry_min_loop ?_;rw[Around.under_plainId F.plain_min_loop _];show wpAny _ A.in1 (seqItems? (.ref Z) >>=_) _ _ s;refine ao (wpAny_seqItems hS rfl ?_);show wpAny _ A.in1 (tryCatch (pyNext (.ref I)) _ >>=_) _ _ s;refine ao (wpAny_tryCatch (W.item (j+1) s _ _ eX jZ λv h1 tk Ss Hf ur=> ?_));have JR:=ur Z _ hw hS;show wpAny _ A.in1 (tryCatch (holding [v,v] (richCompare .Lt v x >>=_)) _ >>=_) _ _ _;refine ao (wpAny_tryCatch (wpAny_holding (ao (EU (j+1) (argBest bt j) v x _ _ _ Ss hP ?_))));refine ao (wpAny_holding (wpAny_truthy_bool ?_));refine ao (wpAny_letGo (aM ?_));cases hb:bt (j+1) (argBest bt j) with
  | true=>
   simp only[bN];refine ao ?_;refine wpAny_updateSeq JR rfl (ao (wpAny_letGo ?_));rw[nm];refine aM ⟨plainId_quiet F.plain_min_loop _,ih (j+1) _ v _ (by lia) eX (W.frame _ _ _ Hf λb Vb o e=> ?_) (by simp only[argBest,hb,bN];exact Ss) (Heap.get?_update_self _ JR rfl) λv2 h2 Oq Mm EM=> ?_⟩
   ·exact(Heap.get?_update_other _ _ (λh:Z=b=>hZ (by rw[h];exact Vb))).trans e
   ·exact hR v2 h2 Oq Mm λb o n1 n2 e=>EM b o n1 n2 ((Heap.get?_update_other _ _ (a5 n2)).trans (ur b o n1 e))
  | false=>simp only[ay,bf];refine ao (wpAny_letGo ?_);rw[nm];refine aM ⟨plainId_quiet F.plain_min_loop _,ih (j+1) _ x c (by lia) eX Hf (by simp only[argBest,hb,ay,bf];exact hP) JR λv2 h2 Oq Mm EM=> ?_⟩;exact hR v2 h2 Oq Mm λb o n1 n2 e=>EM b o n1 n2 (ur b o n1 e)
theorem vj (W:Walks prog w A.in1 I fp wr n P St)(bt:Nat ->Nat ->Bool)(EU:CmpOf prog w A.in1 .Lt P bt)(Z:Addr)(hZ:Z∉fp){s:Shared}{c:Nat}{d:Value}{nd:Str}(jZ:St 0 s.heap) (hS:s.heap.get? Z=some {cls:= .type "list",dict:=none,data:= .seq #[] c,slots:= #[]}) (h0:n=0 -> ∀h' tk,(∀b o,b∉wr ->b≠Z ->s.heap.get? b=some o ->h'.get? b=some o) ->R (.ok (.ret d)) {s with heap:=h',toks:=tk}) (hR:0<n -> ∀v h' tk,P (argBest bt (n - 1)) v ->(∀b o,b∉wr ->b≠Z ->s.heap.get? b=some o ->h'.get? b=some o) ->R (.ok (.ret v)) {s with heap:=h',toks:=tk}):codeAny (model prog w) A (.builtin "min.loop" ⟨[.ref I, .none, .ref Z],[(nd,d)]⟩) R s:=by
 have hw:Z∉wr:=λh=>hZ (W.sub _ h);have nm:(toString "min" ++toString ".loop" :String)= "min.loop" :=by decide
 refine codeAny_builtin F.entry_min_loop ?_;rw[Around.under_plainId F.plain_min_loop _];show wpAny _ A.in1 (seqItems? (.ref Z) >>=_) _ _ s;refine ao (wpAny_seqItems hS rfl ?_);show wpAny _ A.in1 (tryCatch (pyNext (.ref I)) _ >>=_) _ _ s;rcases Nat.eq_zero_or_pos n with hn | hn
 ·subst hn;refine ao (wpAny_tryCatch (W.done s _ _ jZ λh1 tk ur=> ?_));refine ao (wpAny_rule ?_);exact aM (h0 rfl _ tk λb o n1 n2 e=>ur b o n1 e)
 ·refine ao (wpAny_tryCatch (W.item 0 s _ _ hn jZ λv h1 tk hP Hf ur=> ?_));have JR:=ur Z _ hw hS;show wpAny _ A.in1 (updateSeq Z (λ_=> #[v,v]) >>=_) _ _ _;refine ao ?_;refine wpAny_updateSeq JR rfl ?_;rw[nm];refine aM ⟨plainId_quiet F.plain_min_loop _,Eg W bt EU Z hZ _ 0 _ v _ rfl hn (W.frame _ _ _ Hf λb Vb o e=> ?_) hP (Heap.get?_update_self _ JR rfl) λv2 h2 Oq Mm EM=> ?_⟩
  ·exact(Heap.get?_update_other _ _ (λh:Z=b=>hZ (by rw[h];exact Vb))).trans e
  ·exact hR hn v2 h2 Oq Mm λb o n1 n2 e=>EM b o n1 n2 ((Heap.get?_update_other _ _ (a5 n2)).trans (ur b o n1 e))
theorem Bu (a d:Value):argsOk "min" ⟨[a],[("default",d)]⟩:=by unfold argsOk;kernel_rfl
variable {E:Value ->Shared ->Prop}{s:Shared}
theorem Bq {x d:Value}{Q:Value ->Shared ->Prop} (h:wpAny (model prog w) A.in1 (pyIter x) (λit t=> ∃I fp wr n P St bt,it= .ref I /\ Walks prog w A.in1 I fp wr n P St /\ St 0 t.heap /\ (∀b∈fp,b<t.heap.objs.size) /\ CmpOf prog w A.in1 .Lt P bt /\(n=0 -> ∀h' tk,(∀b o,b∉wr ->t.heap.get? b=some o ->h'.get? b=some o) ->Q d {t with heap:=h',toks:=tk}) /\(0<n -> ∀v h' tk,P (argBest bt (n - 1)) v ->(∀b o,b∉wr ->t.heap.get? b=some o ->h'.get? b=some o) ->Q v {t with heap:=h',toks:=tk})) E s): wpAny (model prog w) A (call (.builtin "min") [x] [("default",d)]) Q E s:=by
 have nm:(toString "min" ++toString ".loop" :String)= "min.loop" :=by decide
 refine wpAny_call (codeAny_call_builtin F.plain_min F.entry_min ?_);simp only[checkBuiltinCall,F.kind_min];have ha:=Bu x d;cases Qe:Manifest.signature? "min" with
 | none=>exact absurd (show(Manifest.signature? "min").isSome=true by kernel_rfl) (by rw[Qe];decide)
 | some sig=>
  have vB:Bind.checkArgs "min" sig ⟨[x],[("default",d)]⟩=pure ():=by simpa only[argsOk,Qe] using ha
  simp only[vB];refine aM ?_;show wpAny _ A.in1 (Builtin.Builtins.bindParams "min" ["key","default"] 0 ⟨[],[("default",d)]⟩ >>=_) _ _ s;refine ao (wpAny_of_eq (show Builtin.Builtins.bindParams "min" ["key","default"] 0 ⟨[],[("default",d)]⟩=pure [none,some d] from rfl) ?_);refine ao (aM ?_);refine ao (bJ h (λit t h₂=> ?_) λ_ _ e=>e);obtain⟨I,fp,wr,n,P,St,bt,rfl,W,jZ,tP,EU,hQ0,hQ⟩:=h₂;refine ao (wpAny_newObj_type ?_);have hZ:t.heap.objs.size∉fp:=λhm=>cb _ (tP _ hm);rw[nm];refine aM ⟨plainId_quiet F.plain_min_loop _,vj W bt EU t.heap.objs.size hZ (W.frame _ _ _ jZ λb _ o e=>ar _ e) (aS _ rfl) (λhn h' tk hk=> ?_) λhn v h' tk hP hk=> ?_⟩
  ·exact hQ0 hn h' tk λb o n1 e=>hk b o n1 (aX (aB e)) (ar _ e)
  ·exact hQ hn v h' tk hP λb o n1 e=>hk b o n1 (aX (aB e)) (ar _ e)
end
end L2
namespace WL
open PySem PySem.Spec PyProof.Rows L2
section
variable {X:Cx}
def IB (K:PySem.W.Frag)(te td:TE):TE:=λσ H Q=>te σ H λx H1=>td σ H1 λd H2=> ∃ (l:Addr) (ns:List Int),x= .ref l /\ f6 K H2 l (ns.map V.int) /\ (ns= [] ->Q d H2) /\ ∀m,gT ns m ->Q (.int m) H2
theorem GI {e ed:Expr}{te td:TE}{p pos T8:Pos}(hg:Gl X "min")(hm:X.mg "min" =none)(hc:X.calm=true)(ha:PE X e te)(hd:PE X ed td) (he:starEach [e] X.env= [(false,eval e X.env)]:=by rfl):PE X (.Call (.Name "min" p) [e] [⟨some "default",ed,T8⟩] pos) (IB X.K te td):=by
 intro pins s σ H Q I h;refine wpAny_Call_Name_kw (gr I hg hm Boot.«min» ?_ (by decide) (by decide));refine PyProof.Rows.callWith_kw ?_ (by rw[he];rfl) (by rw[he];rfl) rfl rfl;rw[he];refine Calls.spliced_cons (df (ha pins s σ H _ I h) λu s1 ⟨x,H1,I1,r1,q1⟩=>Calls.spliced_nil ?_);refine kws_cons (df (hd pins s1 σ H1 _ I1 q1) λu2 s2 ⟨d,H2,I2,r2,q2⟩=>kws_nil ?_);obtain⟨l,ns,rfl,hs,q0,q⟩:=q2;cases r1;show wpAny _ _ (call (.builtin "min") [.ref l] [("default",u2)]) _ _ s2;obtain⟨its,rv,ht,hz⟩:=I2.list hs;have hh:X.A.in1.handled=none:=I2.ok.hd hc;have hlen:its.toArray.size=ns.length:=by have:=rv.length;rw[aa] at this;simpa using this.symm
 have eX:l<s2.heap.objs.size:=by obtain⟨_,e,_⟩:=ht.isList;exact aB e
 refine Bq (wpAny_pyIter_list ht.isList ?_);have hk: ∀h':Heap,(∀b o,b∉ [s2.heap.objs.size] ->(s2.heap.push {cls:= .type "list_iterator",data:= .fields #[.ref l, .int 0 s2.toks]}).get? b=some o ->h'.get? b=some o) -> ∀b o,s2.heap.get? b=some o ->h'.get? b=some o:=λh' hk b o e=>hk b o (λhI=>absurd (aB e) (by rw[ah.mp hI];exact cb _)) (ar _ e);refine⟨s2.heap.objs.size,_,_,its.toArray.size,_,_,λi j=>decide (ns.getD i 0<ns.getD j 0),rfl,Walks.list hh s2.heap.objs.size l (aX eX) its.toArray,⟨⟨_,aS _ rfl,rfl,rfl⟩,ht.isList.push _⟩,λb hb=> ?_,PySem.CmpOf.ints_lt (λi=>ns.getD i 0) (λi v e=>let ⟨t,h,_⟩:=zv rv e;⟨t,h⟩),λhn h' tk hm=> ?_,λhn v h' tk e hm=> ?_⟩
 ·show b< (s2.heap.push _).objs.size;rw[Heap.size_push];rcases av.mp hb with rfl | hb
  ·exact Nat.lt_succ_self _
  ·rw[ah.mp hb];exact Nat.lt_succ_of_lt eX
 ·exact⟨d,H2,I2.kept (t':=tk) λb o e=>hm b o (λhI=>absurd (aB e) (by rw[ah.mp hI];exact cb _)) (ar _ e),r2,q0 (cI.mp (by lia))⟩
 ·obtain⟨t,rfl,_⟩:=zv rv e;rw[hlen];exact⟨.int _,H2,I2.kept (t':=tk) λb o e=>hm b o (λhI=>absurd (aB e) (by rw[ah.mp hI];exact cb _)) (ar _ e),⟨t,rfl⟩,q _ (Fu (List.length_pos_iff.mp (by lia)))⟩
def De (K:PySem.W.Frag):List V ->Hp ->VK ->Prop:=λxs H Q=> ∃ (a:Addr) (ks:List Int),xs= [.ref a] /\ f6 K H a (ks.map V.int) /\ ∀ (p:Addr) (ns:List Int),H p=none ->ns.Perm ks ->ns.Pairwise (· <= ·) ->Q (.ref p) (upd H p (.lst (ns.map V.int)))
theorem yf:gw X (.builtin "sorted") (De X.K):=by
 intro pins s σ H xs us Q I r h;obtain⟨a,ks,rfl,hs,q⟩:=h;obtain⟨u,rfl,ru⟩:=vals1 r;cases ru;obtain⟨its,rv,ht,hz⟩:=I.list hs;have hI:IntsAre its ks:=lW rv;have hl:its.length=ks.length:=by have:=rv.length;rw[aa] at this;exact this.symm
 rw[aa] at hz;refine Calls.call_function_entry kind_sorted plain_sorted entry_sorted (args_sorted1 _) ?_;unfold Builtin.«sorted»;refine ao (m:=checkCount "sorted" 1 1 _) (aM ?_);obtain⟨o,ho,hc,n,hd⟩:=ht.isList;refine ao (wpAny_collect_seq a (.inl rfl) ho hc hd (λh' EK=> ?_) (by simp only[aO];lia));simp only[List.toList_toArray];refine ao (wpAny_newList ?_ (by rw[hl];exact hz));have ho:(h'.push (seqObj "list" its.toArray 0)).get? h'.objs.size=some (seqObj "list" its.toArray 0):=aS _ rfl;refine ao (wpAny_holding (wpAny_call_entry slot_list_sort ⟨_,ho,rfl⟩ entry_list_sort (TS.qH (s:= {s with heap:=h'.push (seqObj "list" its.toArray 0)}) ho hI (by rw[hl];exact hz) λout GZ a1 a2 a3=>⟨_,rfl,?_⟩) (args_list_sort _)));obtain⟨ee,Ml⟩:=sortedHeap_at (out:=out) ho;have I':Inv X pins σ H {s with heap:=h'}:=I.kept (t':=s.toks) EK;refine aM ⟨_,rfl, .ref h'.objs.size,_,I'.laid (t':=s.toks) (o:= .lst (GZ.map V.int)) (λb o hb=> ?_) (aq _) ?_,rfl,q _ GZ (I'.c7.fresh (aq _)) a2 a3⟩
 ·have eX:b<h'.objs.size:=aB hb;rw[sortedHeap_old (aX eX) (by rw[Heap.size_push];exact Nat.lt_succ_of_lt eX)];exact ar _ hb
 ·refine⟨?_,out.toList,ee,jM a1,by simpa using Ml⟩;rw[aa,a2.length_eq];exact hz
end
variable {K:PySem.W.Frag}
def B8 (a d:WE):WE:=λρ M q=>a ρ M λx M1=>d ρ M1 λy M2=> ∃ (l:Addr) (ns:List Int),x=wr l /\ M2 l=some (.lst (ns.map wi)) /\ (ns= [] ->q y M2) /\ ∀m,gT ns m ->q (wi m) M2
instance {t td:TE}{a d:WE} [ia:IE K t a] [id:IE K td d]:IE K (IB K t td) (B8 a d) where
 imp:=λρ M σ H q Q o h k=>ia.imp ρ M σ H _ _ o h λx M1 v H1 h1 t1 m1 r1=>id.imp ρ M1 σ H1 _ _ (o.mv t1 m1) h1 λy M2 u H2 ⟨l,ns,e,hl,q0,q1⟩ t2 m2 r2=>by subst e;cases (r1.ts t2).eq;obtain⟨vs,hv,rr⟩:=m2 l _ hl;cases rr.ints;exact⟨l,ns,rfl,f6.of hv,λe=>k _ _ _ _ (q0 e) (t1.trans t2) m2 r2,λm hm=>k _ _ _ _ (q1 m hm) (t1.trans t2) m2 WR.v⟩
theorem wMinD_e {a d:WE}{ρ:dm}{M:Mp}{q:WK}:B8 a d ρ M q=a ρ M λx M1=>d ρ M1 λy M2=> ∃ (l:Addr) (ns:List Int),x=wr l /\ M2 l=some (.lst (ns.map wi)) /\ (ns= [] ->q y M2) /\ ∀m,gT ns m ->q (wi m) M2:=rfl
def B7:Aj:=λxs M q=> ∃ (a:Addr) (ks:List Int),xs= [wr a] /\ M a=some (.lst (ks.map wi)) /\ ∀ (p:Addr) (ns:List Int),M p=none ->ns.Perm ks ->ns.Pairwise (· <= ·) ->q (wr p) (um M p (.lst (ns.map wi)))
instance:IC K (De K) B7 where
 imp:=by rintro xs v M H q Q m r1 ⟨a,ks,rfl,hl,h⟩ k;obtain⟨v,rfl,r⟩:=r1.one;cases r.eq;obtain⟨vs,hv,rr⟩:=m a _ hl;cases rr.ints;exact⟨a,ks,rfl,f6.of hv,λp ns hp h1 h2=>k _ _ _ _ (h p ns (m.fresh hp) h1 h2) (L2.eg.ts (b8 hp)) (m.nY hp (cF.ofInts ns)) WR.v⟩
end WL
namespace WQ
open PySem L2 WL WP
def bM (s x:Int):Int:=if s=0 then x else x % s
def hI (s x:Int):Int:=if s=0 then 0 else x / s
def eM:List Int ->Int
 | []=>0
 | a::r=>r.foldl (λm x=>if x<m then x else m) a
def qT:List Int ->Int
 | []=>0
 | a::r=>r.foldl (λm x=>if m<x then x else m) a
theorem foldl_min (r:List Int): ∀a,(r.foldl (λm x=>if x<m then x else m) a=a \/ r.foldl (λm x=>if x<m then x else m) a∈r) /\ r.foldl (λm x=>if x<m then x else m) a<=a /\ ∀x∈r,r.foldl (λm x=>if x<m then x else m) a<=x:=by
 induction r with
 | nil=>intro a;simp
 | cons b r ih=>
  intro a;obtain⟨h1,h2,h3⟩:=ih (if b<a then b else a);rw[List.foldl_cons];generalize List.foldl (λm x=>if x<m then x else m) (if b<a then b else a) r=z at h1 h2 h3;refine⟨?_,by split at h2<;>lia,λx hx=> ?_⟩
  ·rcases h1 with h1 | h1
   ·split at h1
    ·rw[h1];exact .inr aE
    ·exact .inl h1
   ·exact .inr (aw _ h1)
  ·rcases av.mp hx with rfl | hx
   ·split at h2<;>lia
   ·exact h3 x hx
theorem foldl_max (r:List Int): ∀a,(r.foldl (λm x=>if m<x then x else m) a=a \/ r.foldl (λm x=>if m<x then x else m) a∈r) /\ a<=r.foldl (λm x=>if m<x then x else m) a /\ ∀x∈r,x<=r.foldl (λm x=>if m<x then x else m) a:=by
 induction r with
 | nil=>intro a;simp
 | cons b r ih=>
  intro a;obtain⟨h1,h2,h3⟩:=ih (if a<b then b else a);rw[List.foldl_cons];generalize List.foldl (λm x=>if m<x then x else m) (if a<b then b else a) r=z at h1 h2 h3;refine⟨?_,by split at h2<;>lia,λx hx=> ?_⟩
  ·rcases h1 with h1 | h1
   ·split at h1
    ·rw[h1];exact .inr aE
    ·exact .inl h1
   ·exact .inr (aw _ h1)
  ·rcases av.mp hx with rfl | hx
   ·split at h2<;>lia
   ·exact h3 x hx
theorem fg {l:List Int}(h:l≠ []):gT l (eM l):=by
 cases l with
 | nil=>exact absurd rfl h
 | cons a r=>
  obtain⟨h1,h2,h3⟩:=foldl_min r a;refine⟨?_,λx hx=> ?_⟩
  ·rcases h1 with h1 | h1
   ·show List.foldl _ a r∈a::r;rw[h1];exact aE
   ·exact aw _ h1
  ·rcases av.mp hx with rfl | hx
   ·exact h2
   ·exact h3 x hx
theorem lP {l:List Int}(h:l≠ []):nU l (qT l):=by
 cases l with
 | nil=>exact absurd rfl h
 | cons a r=>
  obtain⟨h1,h2,h3⟩:=foldl_max r a;refine⟨?_,λx hx=> ?_⟩
  ·rcases h1 with h1 | h1
   ·show List.foldl _ a r∈a::r;rw[h1];exact aE
   ·exact aw _ h1
  ·rcases av.mp hx with rfl | hx
   ·exact h2
   ·exact h3 x hx
def nE (s f:Int)(ns:List Int):List Int:=(ns.filter λx=>decide (bM s x=f)).map (hI s)
def dN (l:Pt):List Int:=l.map (·.1)
def dg (s:Int)(st:Pt):Int:=eM ((dN st).map (bM s))
def d6 (s:Int)(st:Pt):Int:=qT (nE s (dg s st) (dN st))
theorem K1 {M:Mp}{t p:Addr}{o1 o2:MO}(ht:M t=none)(hp:um M t o1 p=none):Sm (um M p o2) (um (um M t o1) p o2):=λb o e=>by
 by_cases hb:b=p
 ·subst hb;rw[um_same] at e ⊢;exact e
 ·rw[aJ hb] at e ⊢;have:b≠t:=dw e ht;rw[aJ this];exact e
def Tt:kb:=λxs M q=> ∃ (x s:Int),xs= [wi x,wi s] /\ 0<=s /\ s<2 ^ 30 /\ q (wi (bM s x)) M
def DI:kb:=λxs M q=> ∃ (a:Addr) (ns:List Int) (s:Int),xs= [wr a,wi s] /\ M a=some (.lst (ns.map wi)) /\ ns.length<=16000000 /\ 0<=s /\ s<2 ^ 30 /\ (ns= [] ->q wn M) /\ (ns≠ [] ->q (wi (eM (ns.map (bM s)))) M)
def Tr:kb:=λxs M q=> ∃ (a:Addr) (ns:List Int) (s f:Int),xs= [wr a,wi s,wi f] /\ M a=some (.lst (ns.map wi)) /\ ns.length<=16000000 /\ 0<=s /\ s<2 ^ 30 /\ ∀ (p:Addr) (ms:List Int),M p=none ->ms.Perm (nE s f ns) ->ms.Pairwise (· <= ·) ->q (wr p) (um M p (.lst (ms.map wi)))
theorem rY {ms:List Int}(h:ms≠ []):kj (ms.map wi) (-1)=some (wi (ms.getLastD 0)):=by
 have hl:0<ms.length:=List.length_pos_iff.mpr h;have e:pH (ms.map wi).length (-1)=some (ms.length - 1):=by rw[aa];unfold pH;simp;lia
 unfold kj;rw[e];show(ms.map wi)[ms.length - 1]? =_;rw[aA];have:ms[ms.length - 1]? =some (ms.getLastD 0):=by
  rw[<- List.getLast?_eq_getElem?];cases ms with
  | nil=>exact absurd rfl h
  | cons a r=>simp[List.getLast?_cons]
 rw[this];rfl
theorem zm {l:List Int}(h:l.Pairwise (· <= ·))(hn:l≠ []):nU l (l.getLastD 0):=by
 induction l using WP.fX with
 | h0=>exact absurd rfl hn
 | h1 l a _=>
  have e:(l++ [a]).getLastD 0=a:=by simp
  rw[e];refine⟨by simp,λx hx=> ?_⟩;rcases ax.mp hx with hx | hx
  ·exact(cx.mp h).2.2 x hx a (by simp)
  ·rw[ah.mp hx];exact aV _
theorem Bo {s x:Int}(hs:0<s):x=bM s x+s*hI s x:=by unfold bM hI;rw[aj (by lia),aj (by lia)];have:=Int.emod_add_mul_ediv x s;lia
def iT (d:Addr)(M M':Mp):Prop:= ∀b o,b≠d ->M b=some o ->M' b=some o
theorem iT.refl (d:Addr)(M:Mp):iT d M M:=λ_ _ _ h=>h
theorem iT.trans {d:Addr}{M M1 M2:Mp}(a:iT d M M1)(b:iT d M1 M2):iT d M M2:=λc o n h=>b c o n (a c o n h)
theorem iT.nb {d:Addr}{M M':Mp}(h:NB d M M'):iT d M M':=λb o n e=>(h b n).trans e
theorem iT.sm {d:Addr}{M M':Mp}(h:Sm M M'):iT d M M':=λb o _ e=>h b o e
theorem iT.um {d p:Addr}{M M':Mp}{o:MO}(h:iT d M M')(hp:M p=none):iT d M (um M' p o):=λb u n e=>by rw[aJ (dw e hp)];exact h b u n e
def iU (s c:Int):Prop:=s=0 \/ (0<=c /\ c<s)
theorem iU.own {s c:Int}(h:iU s c):bM s c=c:=by
 unfold bM;rcases h with h | ⟨h1,h2⟩
 ·rw[ak h]
 ·rw[aj (by lia)];exact cW h1 h2
theorem iU.on {s c:Int}(h:iU s c)(k:Int):bM s (c+k*s)=c:=by
 have:=h.own;unfold bM at this ⊢;split
 ·rename_i e;subst e;simp
 ·rename_i e;rw[aj e] at this;rw[Int.add_mul_emod_self_right];exact this
end WQ
namespace WL
theorem Ha {α:Type}{l:List α}(h:l.length=1): ∃a,l= [a]:=List.length_eq_one_iff.mp h
theorem T5 {α:Type}{l:List α}{n:Nat}(h:l.length=n+1): ∃a r,l=a::r /\ r.length=n:=by
 cases l with
 | nil=>cases h
 | cons a r=>exact⟨a,r,rfl,by simpa using h⟩
theorem PH {α:Type}{l:List α}(h:l.length=2): ∃a b,l= [a,b]:=by obtain⟨a,r,rfl,g⟩:=T5 h;obtain⟨b,rfl⟩:=Ha g;exact⟨a,b,rfl⟩
end WL
namespace L2
open PySem
structure Ru (K:PySem.W.Frag)(mg:Str ->Option Value)(x qual:Str)(ps:List Str)(st:Stmt)(C f:Addr)(fd:FuncData):Prop where
 at_:mg x=some (.ref C)
 ZT:Mk K C f
 cl:ym K C
 fn:BR K "__init__" qual st f fd
 bd:Binds K fd ps []
section
variable {X:Cx}{k:Nat}{f C:Addr}{fd:FuncData}{ps:List Str}{sp:Sp}{x qual:Str}{st:Stmt}{p pos:Pos}{e:Expr}{es:List Expr}{t:TA}
theorem lK (M:Ru X.K X.mg x qual ps st C f fd)(F:dI X.prog X.w X.K X.mg X.base iV k f fd ps sp)(hr:fD (k+1) X.A)(hg:Gl X x) (ha:PA X (e::es) t) (ES:(x==("__debug__" :Str))=false:=by decide) (he:starEach (e::es) X.env=(false,eval e X.env)::starEach es X.env:=by rfl) (rb:(backTo pos (starEach es X.env)).any (·.1)=false:=by rfl): PE X (.Call (.Name x p) (e::es) [] pos) (Cy C sp [] E0 t):=GJ M.ZT F hr hg M.at_ M.bd .nil Ji ha ES he rb
end
end L2
namespace WL
open PySem L2
section
variable {K:PySem.W.Frag}
theorem vm {H:Hp}{f:Str}{x:W}: ∀ {fs:List (Str×W)} {ks:List (Str×V)},KR K H fs ks ->fs.lookup f=Option.some x -> ∃v,ks.lookup f=Option.some v /\ WR K H x v
 | _,_, .nil,h=>by cases h
 | (g,y)::fs,(g',v)::ks, .cons ⟨e,r⟩ t,h=>by
  cases (show g=g' from e);rw[List.lookup_cons] at h ⊢;cases hb:f==g with
  | true=>rw[hb] at h;cases h;exact⟨v,rfl,r⟩
  | false=>rw[hb] at h;exact vm t h
def ji (f:Str)(v:W):List (Str×W) ->List (Str×W)
 | []=> [(f,v)]
 | (g,x)::r=>if g=f then(g,v)::r else(g,x)::ji f v r
theorem zq {H:Hp}{f:Str}{x:W}{v:V}(rx:WR K H x v): ∀ {fs:List (Str×W)} {ks:List (Str×V)},KR K H fs ks ->KR K H (ji f x fs) (L2.iI f v ks)
 | _,_, .nil=> .cons ⟨rfl,rx⟩ .nil
 | (g,y)::fs,(g',u)::ks, .cons ⟨e,r⟩ t=>by
  cases (show g=g' from e);unfold ji L2.iI;split
  ·exact .cons ⟨rfl,rx⟩ t
  ·exact .cons ⟨rfl,r⟩ (zq rx t)
theorem zr {H:Hp}: ∀ {kvs:List (Str×W)} {vs:List (Str×V)},KR K H kvs vs ->kvs.length=vs.length
 | _,_, .nil=>rfl
 | _,_, .cons _ t=>by rw[aG,aG,zr t]
def Kp (K:PySem.W.Frag)(a:WE)(f:Str):WE:=λρ M q=>a ρ M λx M1=> ∃p C dx fs v,x=wr p /\ M1 p=some (.ins C dx fs) /\ ym K C /\ dC K C f /\ fs.lookup f=some v /\ q v M1
instance {t:TE}{a:WE}{f:Str} [ia:IE K t a]:IE K (KN K t f) (Kp K a f) where
 imp:=λρ M σ H q Q o h k=>ia.imp ρ M σ H _ _ o h λx M1 v H1 ⟨p,C,dx,fs,y,ex,hp,hc,hn,hl,h1⟩ t1 m1 r1=>by subst ex;obtain⟨ks,e,r⟩:=m1 p _ hp;obtain⟨u,hu,ru⟩:=vm r hl;exact⟨p,C,dx,ks,u,r1.eq,e,hc,hn,hu,k _ _ _ _ h1 t1 m1 ru⟩
def C4 (K:PySem.W.Frag)(a b:WE)(f:Str):WS:=λD ρ M=>b ρ M λy M1=>a ρ M1 λx M2=> ∃p C dx fs,x=wr p /\ M2 p=some (.ins C dx fs) /\ ym K C /\ dC K C f /\ fs.length<1000 /\ D.nx ρ (um M2 p (.ins C dx (ji f y fs)))
instance {t u:TE}{a b:WE}{f:Str} [ia:IE K t a] [ib:IE K u b]:IS K (OR K t u f) (C4 K a b f) where
 imp:=λρ M σ H D' D o h e=>ib.imp ρ M σ H _ _ o h λy M1 v1 H1 h1 t1 m1 r1=>ia.imp ρ M1 σ H1 _ _ (o.mv t1 m1) h1 λx M2 v2 H2 ⟨p,C,dx,fs,ex,hp,hc,hn,hl,h2⟩ t2 m2 r2=>by subst ex;obtain⟨ks,ek,r⟩:=m2 p _ hp;have ts:=KA (u:= .ins C dx (iI f v1 ks)) ek;refine⟨p,C,dx,ks,r2.eq,ek,hc,hn,by rw[<- zr r];exact hl,e.nx ρ _ σ _ h2 ((t1.trans t2).trans ts) (o.mv ((t1.trans t2).trans ts) (m2.put ts ⟨_,bU,KR.ts ts (zq (r1.ts t2) r)⟩))⟩
def Ij (C:Addr)(p:kb)(a:WA):WE:=λρ M q=>a ρ M λxs M1=> ∀x dx,M1 x=none ->M1 dx=none ->dx≠x ->p (wr x::xs) (um M1 x (.ins C dx [])) λv M2=>v=wn /\ q (wr x) M2
instance {C:Addr}{p:kb}{E:XK}{t:TA}{a:WA} [ia:IA K t a]:IE K (Cy C (ly K p) [] E t) (Ij C p a) where
 imp:=λρ M σ H q Q o h k=>ia.imp ρ M σ H _ _ o h λxs M1 vs H1 h1 t1 m1 r1=>λx dx hx NG c8=>by
  have Nu:upd H1 dx (.own x) x=none:=by rw[bC (a5 c8)];exact hx
  have Xk:bo H1 (upd H1 dx (.own x)):=L2.eg.ts (b8 NG);have Om:bo (upd H1 dx (.own x)) (upd (upd H1 dx (.own x)) x (.ins C dx [])):=L2.eg.ts (b8 Nu);refine⟨wr x::xs,um M1 x (.ins C dx []),λv M2=>v=wn /\ q (wr x) M2,cF.cons WR.v (by rw[List.append_nil];exact r1.ts (Xk.trans Om)),(m1.new NG).put Om ⟨[],bU, .nil⟩,h1 x dx (m1.fresh hx) (m1.fresh NG) c8,?_⟩;rintro y M' u H' ⟨rfl,hq⟩ ts m' r';exact⟨r'.eq,k _ _ _ _ hq (t1.trans ((Xk.trans Om).trans ts)) m' WR.v⟩
def Ew (o:Option MO)(k:Addr ->Addr ->List (Str×W) ->Prop):Prop:= ∃C dx fs,o=some (.ins C dx fs) /\ k C dx fs
theorem insK_e {C dx:Addr}{fs:List (Str×W)}{k:Addr ->Addr ->List (Str×W) ->Prop}:Ew (some (.ins C dx fs)) k=k C dx fs:=by
 apply propext;constructor
 ·rintro⟨_,_,_,e,h⟩;cases e;exact h
 ·intro h;exact⟨_,_,_,rfl,h⟩
theorem wFld_e {a:WE}{f:Str}{ρ:dm}{M:Mp}{q:WK}:Kp K a f ρ M q=a ρ M λx M1=>fS x λp=>Ew (M1 p) λC dx fs=>gR (ym K C) (gR (dC K C f) (qm (fs.lookup f) λv=>q v M1)):=by
 unfold Kp fS Ew gR qm;congr 1;funext x M1;apply propext;constructor
 ·rintro⟨p,C,dx,fs,v,e1,e2,e3,e4,e5,h⟩;exact⟨p,e1,C,dx,fs,e2,e3,e4,v,e5,h⟩
 ·rintro⟨p,e1,C,dx,fs,e2,e3,e4,v,e5,h⟩;exact⟨p,C,dx,fs,v,e1,e2,e3,e4,e5,h⟩
theorem sFldW_e {a b:WE}{f:Str}{D:iR}{ρ:dm}{M:Mp}:C4 K a b f D ρ M=b ρ M λy M1=>a ρ M1 λx M2=>fS x λp=>Ew (M2 p) λC dx fs=>gR (ym K C) (gR (dC K C f) (gR (fs.length<1000) (D.nx ρ (um M2 p (.ins C dx (ji f y fs)))))):=by
 unfold C4 fS Ew gR;congr 1;funext y M1;congr 1;funext x M2;apply propext;constructor
 ·rintro⟨p,C,dx,fs,e1,e2,e3,e4,e5,h⟩;exact⟨p,e1,C,dx,fs,e2,e3,e4,e5,h⟩
 ·rintro⟨p,e1,C,dx,fs,e2,e3,e4,e5,h⟩;exact⟨p,C,dx,fs,e1,e2,e3,e4,e5,h⟩
theorem sj {C:Addr}{p:kb}{a:WA}{ρ:dm}{M:Mp}{q:WK}:Ij C p a ρ M q=a ρ M λxs M1=> ∀x dx,M1 x=none ->M1 dx=none ->dx≠x ->Ft p (wr x::xs) (um M1 x (.ins C dx [])) λv M2=>v=wn /\ q (wr x) M2:=rfl
end
end WL
namespace L2
open PySem
def Js (s:Stmt)(j:Nat):Stmt:=match s with
 | .ClassDef _ _ _ b _ _ _ _ _ _ _=>b.getD j (.Pass ⟨0,0,0,0⟩)
 | _=> .Pass ⟨0,0,0,0⟩
end L2
namespace L2
open PySem PySem.Spec PyProof.Rows
def SN (d:Addr)(o:Obj)(kvs:List (Key×V)):It:=⟨λi H=>i<kvs.length /\ H d=some (.kR o (.dK kvs)),λi H x H'=> ∃p kv,H p=none /\ kvs[i]? =some kv /\ H'=upd H p (.tup [kV kv.1,kv.2]) /\ x= .ref p,λi H=>kvs.length<=i /\ H d=some (.kR o (.dK kvs))⟩
theorem xF: ∀ {kvs:List (Key×V)} {vs:List (Key×Value)} {i:Nat} {q:Key×Value},KV kvs vs ->vs[i]? =some q -> ∃p,kvs[i]? =some p /\ p.1=q.1 /\ RelV p.2 q.2
 | _,_,0,_, .cons ⟨e0,r⟩ _,e=>by cases e;exact⟨_,rfl,e0,r⟩
 | _,_,i+1,q, .cons _ t,e=>by have e':_=some q:=e;rw[List.getElem?_cons_succ] at e' ⊢;exact xF t e'
theorem tF {k:Key}{u:Value}(h:lU k u=true):RelV (kV k) u:=by
 rcases dt h with⟨i,t,rfl,rfl⟩ | ⟨x,t,rfl,rfl⟩
 ·exact⟨t,rfl⟩
 ·exact⟨t,rfl⟩
theorem wV {P:Program}{w:World}{K:PySem.W.Frag}{elts:List Expr}{x1}{pos:Pos}{d it:Addr}{o:Obj}{kvs:List (Key×V)}{es:Array DictEntry}{ep:Nat}(ho:o.data= .dict es ep)(c8:d≠it): Turn P w K (.Tuple elts x1 pos) (SN d o kvs) [it] it (λi h=> ∃ok ov,IsItemIter h it d i kvs.length ep ok ov) where
 mem:=by simp
 obj:=λi h st b hb=>by
  have e:b=it:=by simpa using hb
  subst e;obtain⟨ok,ov,e⟩:=st;exact⟨_,e,λv z=>nomatch z⟩
 keep:=λi h h' ⟨ok,ov,e⟩ k=>⟨ok,ov,k it (by simp) _ e⟩
 item:=by
  intro X hP hw hK hc i pins s σ H E I hf st hg;subst hP hw hK;obtain⟨hi,hH⟩:=hg;obtain⟨vs,rel,hd⟩:=E1 I ho hH;have hl:=rel.length;obtain⟨ok,ov,st⟩:=st;rw[hl] at st hi;have fp:=hf it (by simp);obtain⟨⟨k,x⟩,hx⟩: ∃q,vs[i]? =some q:=⟨vs[i],by simp[hi]⟩
  obtain⟨p,hp,Wa,rp⟩:=xF rel hx;refine wpAny_pyNext_items_item st hd hx λkey h' pL UA ht hsz hk=> ?_;refine⟨_,rfl,wpAny_letOwnedTupleGo_items UA λh2 FY j5=> ?_⟩;have JP:s.heap.objs.size≠it:=Nat.ne_of_gt (aB st);have rk:RelV (kV p.1) key:=by rw[Wa];exact tF pL
  refine⟨.ref s.heap.objs.size,upd H s.heap.objs.size (.tup [kV p.1,p.2]),EN.tI (t':=s.toks) I (λb o hb _ q=>(j5.2 b hb).trans (hk b o hb q)) fp fp ⟨by rw[cC];show 2<=16777216;decide,[key,x], .cons rk (.cons rp .nil),?_⟩,rfl,⟨_,p,I.c7.fresh (aq _),hp,rfl,rfl⟩,⟨key,x,by rw[hl];exact FY⟩,λb hb=> ?_⟩
  ·exact⟨_,(j5.2 _ JP).trans ht,rfl,_,rfl,rfl⟩
  ·have e:b=it:=by simpa using hb
   subst e;rw[bC (a5 JP)];exact fp.1
 done:=by intro X hP hw hK hc i pins s σ H E I hf st hg;subst hP hw hK;obtain⟨hi,hH⟩:=hg;obtain⟨vs,rel,hd⟩:=E1 I ho hH;have hl:=rel.length;obtain⟨ok,ov,st⟩:=st;rw[hl] at st hi;obtain⟨f0,f1,f2,f3,f4,f5⟩:=hf it (by simp);exact wpAny_pyNext_items_end (I.ok.hd hc) st hd (by simp;lia) λh' eb=>⟨rfl,I.turned (t':=s.toks) (λb o hb e=>eb b o hb e) f0 f1 f3 f4 f5⟩
 self:=λ_ _ _ _ _ st h=>let ⟨_,_,e⟩:=st;PySem.W.kcp_self e h
section
variable {X:Cx}{elts:List Expr}{x1:_}{Aq:Pos}{o:Expr}{td:TE}{apos fm:Pos}
def Ez (td:TE):TI:=λσ H R=>td σ H λx H1=> ∃d kvs,x= .ref d /\ H1 d=some (.dK kvs) /\ ∀o,R (SN d o kvs) (upd H1 d (.kR o (.dK kvs)))
theorem uY {tg:Expr}(et:tg= .Tuple elts x1 Aq)(ho:PE X o td)(vA:attributeBase o "items" X.env (eval o X.env)=eval o X.env:=by rfl)(vy:(apos.endLine==fm.line)=true:=by rfl):PI X tg (.Call (.Attribute o "items" apos) [] [] fm) (Ez td):=by
 subst et;intro pins s σ H R I h;refine wpAny_Call_method0_late vA vy (df (ho pins s σ H _ I h) λv s1 ⟨x,H1,I1,r1,d,kvs,ex,hd,q1⟩=> ?_);subst ex;obtain rfl:v=Value.ref d:=r1;obtain⟨t1,t2,sys⟩:=tH I1 (.inl ⟨kvs, .inl hd⟩);refine⟨"dict","dict.items",PySem.F.plainAttrs_dict,PySem.F.slot_dict_items,PySem.F.type_dict_items,t1,t2,Calls.callWith_builtin rfl (PySem.evalArgs_none ?_)⟩;obtain⟨z,EF,vs,rel,dd⟩:=me I1.c7 (.inl hd);refine call_meetsIn PySem.F.slot_dict_items dd.typeIs PySem.F.entry_dict_items (PySem.F.args_dict_items_1 _) (meets_dict_items (cu X.prog X.w) d EF) ⟨⟨vs,dd⟩,?_⟩;obtain⟨ob,es,ep,g1,g2,g3,g4⟩:=dd;have da:s1.heap.DictAt (cu X.prog X.w) d vs ep:=⟨ob,es,g1,g2,g3,g4⟩
 have hdl:d<s1.heap.objs.size:=aB g1;refine wpAny_pyIter_items (d:=d) (kvs:=vs) (ep:=ep) (knd:=cu X.prog X.w) ⟨_,aS _ rfl,rfl,rfl⟩ (da.push _) ?_;have I2:=I1.freeze hd g1;refine⟨_,[_],_,SN d ob kvs,_,rfl,I2.kept (t':=s1.toks) λb o e=>ar _ (ar _ e),wV g3 ?_,?_,λb hb=> ?_,q1 ob⟩
 ·show d≠(s1.heap.push _).objs.size;rw[Heap.size_push];lia
 ·rw[rel.length];exact⟨_,_,aS _ rfl⟩
 ·have I3:Inv X pins σ (upd H1 d (.kR ob (.dK kvs))) {s1 with heap:=s1.heap.push {cls:= .type "dict_items",data:= .fields #[.ref d]}}:=I2.kept (t':=s1.toks) λb o e=>ar _ e;have e:=ah.mp hb;subst e;exact I3.xX (aq _) (I3.c7.fresh (aq _))
end
theorem Inv.S6 {X:Cx}{pins:List (Addr×Obj)}{σ:St}{H:Hp}{s:Shared}{d:Addr}{kvs:List (Key×V)}{o:Obj}(I:Inv X pins σ H s)(e:H d=some (.kR o (.dK kvs)))(h0: ∀o u,X.H₀ d≠some (.kR o u)): Inv X pins σ (upd H d (.dK kvs)) s:=by
 have ne: ∀ {b u},H b=some u ->u≠ .kR o (.dK kvs) ->b≠d:=λ{b u} h n z=>by subst z;rw[e] at h;exact n (br h).symm
 have G5: ∀ {b},H b=none ->b≠d:=λ{b} h z=>by subst z;rw[e] at h;cases h
 refine⟨I.ok,I.os,I.bare,⟨I.base.keep,I.base.slot,λb u h1 h2 h3=> ?_,I.base.there,λb xs h=> ?_,λb o' u h=> ?_,λb ps h=> ?_⟩,I.loc,I.cell,?_,λx c h=> ?_,λp hp=> ?_,λb u h=> ?_,I.len⟩
 ·have z:=I.base.free b u h1 h2 h3;rw[bC (G5 z)];exact z
 ·have z:=I.base.mN b xs h;rw[bC (ne z (λq=>nomatch q))];exact z
 ·have z:=I.base.kQ b o' u h;have nb:b≠d:=λz=>h0 o' u (z▸h);rw[bC nb];exact z
 ·obtain⟨more,z⟩:=I.base.mP b ps h;exact⟨more,by rw[bC (ne z (λq=>nomatch q))];exact z⟩
 ·rw[bC (G5 I.free)];exact I.free
 ·rw[bC (G5 (I.gN x c h))];exact I.gN x c h
 ·obtain⟨a1,a2,a3⟩:=I.pin p hp;exact⟨a1,by rw[bC (G5 a2)];exact a2,a3⟩
 ·have ow: ∀c,H c=some (.own b) ->upd H d (.dK kvs) c=some (.own b):=λc r=>by rw[bC (ne r (λq=>nomatch q))];exact r
  have tu: ∀c xs,H c=some (.tup xs) ->upd H d (.dK kvs) c=some (.tup xs):=λc xs r=>by rw[bC (ne r (λq=>nomatch q))];exact r
  by_cases hb:b=d
  ·subst hb;rw[bU] at h;cases h;have z:=(I.c7 b _ e).oN (H':=upd H b (.dK kvs)) (h':=s.heap) (λ_ _ _ h=>h) ow tu;exact z.2
  ·rw[bC hb] at h;exact(I.c7 b u h).oN (λ_ _ _ h=>h) ow tu
def IX (t:TS):TS:=λD σ H=> ∃d kvs,H d=some (.dK kvs) /\ t {D with nx:=λσ' H'=> ∃o us,H' d=some (.kR o (.dK us)) /\ D.nx σ' (upd H' d (.dK us))} σ H
theorem yY {X:Cx}{st:Stmt}{t:TS}(h:PS X st t):PS X st (IX t):=by
 rintro pins s σ H D I ⟨d,kvs,hd,ht⟩;have h0: ∀o u,X.H₀ d≠some (.kR o u):=λo u e=>by have:=I.base.kQ d o u e;rw[hd] at this;cases this
 refine df (h pins s σ H _ I ht) λfl s' hs=> ?_;cases fl with
 | next=>obtain⟨σ',H',I',o,us,e,q⟩:=hs;exact⟨σ',_,I'.S6 e h0,q⟩
 | ret v=>exact hs
 | brk=>exact hs
 | cont=>exact hs
end L2
namespace WL
open PySem L2
variable {K:PySem.W.Frag}
def xH (a:WE):WI:=λρ M q=>a ρ M λx M1=> ∃d kvs,x=wr d /\ M1 d=some (.dK kvs) /\ ∀o ks,q (kvs.map λkv=> .tup [eZ kv.1,kv.2]) (λM'=>M' d=some (.fz o ks kvs)) (um M1 d (.fz o ks kvs))
theorem xG: ∀ {H:Hp} {kvs:List (Key×W)} {vs:List (Key×V)} {i:Nat} {q:Key×V},KR K H kvs vs ->vs[i]? =some q -> ∃p,kvs[i]? =some p /\ p.1=q.1 /\ WR K H p.2 q.2
 | _,_,_,0,_, .cons ⟨e0,r⟩ _,e=>by cases e;exact⟨_,rfl,e0,r⟩
 | _,_,_,i+1,q, .cons _ t,e=>by have e':_=some q:=e;rw[List.getElem?_cons_succ] at e' ⊢;exact xG t e'
theorem xK {H1:Hp}{d:Addr}{o:Obj}{kvs:List (Key×W)}{ks:List (Key×V)}:BA K H1 (SN d o ks) (kvs.map λkv=> .tup [eZ kv.1,kv.2]) (λM'=>M' d=some (.fz o ks kvs)):=by intro i M H t m hM;obtain⟨e1,r1⟩:=m d _ hM;have hl:=pF r1;rw[aa];refine⟨λh=>⟨by lia,e1⟩,λh=>⟨by lia,e1⟩,λv H' hi ⟨p,kv,hp,hk,e2,e3⟩=> ?_⟩;subst e2 e3;obtain⟨p2,Ux,e4,rp⟩:=xG r1 hk;have ts:bo H (upd H p (.tup [kV kv.1,kv.2])):=L2.eg.ts (b8 hp);refine⟨ts,m.new hp, .tup [eZ p2.1,p2.2],by rw[aA,Ux];rfl,WR.Nm (iS.of bU) (cF.cons ?_ (cF.cons (rp.ts ts) cF.nil))⟩;rw[e4];cases kv.1<;>exact WR.v
instance {t:TE}{a:WE} [ia:IE K t a]:II K (Ez t) (xH a) where
 imp:=λρ M σ H q R o h k=>ia.imp ρ M σ H _ _ o h λx M1 v H1 ⟨d,kvs,ex,hd,h1⟩ t1 m1 r1=>by subst ex;obtain⟨ks,e,r⟩:=m1 d _ hd;refine⟨d,ks,r1.eq,e,λob=>k _ _ _ _ _ (h1 ob ks) (t1.trans (lg e)) (m1.put (lg e) ⟨bU,KR.ts (lg e) r⟩) xK⟩
theorem jItems_e {a:WE}{ρ:dm}{M:Mp}{q:List W ->(Mp ->Prop) ->Mp ->Prop}:xH a ρ M q=a ρ M λx M1=>fS x λd=>ja (M1 d) λkvs=> ∀o ks,q (kvs.map λkv=> .tup [eZ kv.1,kv.2]) (λM'=>M' d=some (.fz o ks kvs)) (um M1 d (.fz o ks kvs)):=by
 unfold xH fS ja;congr 1;funext x M1;apply propext;constructor
 ·rintro⟨d,kvs,e1,e2,h⟩;exact⟨d,e1,kvs,e2,h⟩
 ·rintro⟨d,e1,kvs,e2,h⟩;exact⟨d,kvs,e1,e2,h⟩
def K4 (t:WS):WS:=λD ρ M=> ∃d kvs,M d=some (.dK kvs) /\ t {D with nx:=λρ' M'=> ∃o ks us,M' d=some (.fz o ks us) /\ D.nx ρ' (um M' d (.dK us))} ρ M
theorem KC {H:Hp}{a:Addr}{o:Obj}{xs:List (Key×V)}{u:HO}(h:H a=some (.kR o (.dK xs))):bo H (upd H a u):=yr h (λ_ z=>nomatch z) λ_ _ z=>nomatch z
instance {t:TS}{a:WS} [ia:IS K t a]:IS K (IX t) (K4 a) where
 imp:=λρ M σ H D' D o ⟨d,kvs,hd,h⟩ e=>by obtain⟨ks,ek,r⟩:=o.hp d _ hd;refine⟨d,ks,ek,ia.imp ρ M σ H _ _ o h ⟨?_,e.rt,e.bk,e.ct⟩⟩;rintro ρ' M' σ' H' ⟨ob,us,ws,hM,hq⟩ ts ok;obtain⟨e1,r1⟩:=ok.hp d _ hM;have t2:=KC (u:= .dK us) e1;exact⟨ob,us,e1,e.nx ρ' _ σ' _ hq (ts.trans t2) (ok.mv t2 (ok.hp.put t2 ⟨us,bU,KR.ts t2 r1⟩))⟩
end WL
set_option maxHeartbeats 4000000
namespace DC
open PySem PySem.Spec PyProof.Rows
theorem G':typeLookup (.type "tuple") "keys" =pure none:=by rw[typeLookup_type,builtinLookup_eq_fast];kernel_rfl
theorem pN:entryFor table "dict.update.loop" =some Builtin.«dict.update.loop» :=entryFor_of_tree (by kernel_rfl)
theorem i0:plainId "dict.update.loop" =true:=by decide+kernel
section
variable {prog:Program}{w:World}{A:Around}{E:Value ->Shared ->Prop}{s:Shared}
theorem G4 {a:Addr}{xs:Array Value}{k:Nat}{sl:Array (Option Value)}{Q:Option Value ->Shared ->Prop}(hx:s.heap.get? a=some ⟨.type "tuple",none, .seq xs k,sl⟩)(hA:A.handled=none) (h: ∀h' tk,(∀b o,s.heap.get? b=some o ->h'.get? b=some o) ->Q none {s with heap:=h',toks:=tk}):wpAny (model prog w) A (getAttr? (.ref a) "keys") Q E s:=by
 obtain⟨hp,g,d,tk,os⟩:=s;have hT: ∀Na,(⟨hp,g,d,Na,os⟩:Shared).TypeIs (.ref a) "tuple" :=λ_=>⟨_,hx,rfl⟩
 have f1:=sub_AttributeError;have f3:=F.slot_tuple_getattribute.lookup;have f4:=F.slot_tuple_getattribute.bind (.ref a);have f5:=am_tuple_getattr_none;unfold getAttr? getAttrBy? getAttrBy;repeat (any_goals (first | assumption | exact hT _ | ((with_reducible show wpAny _ _ (call (Value.builtin "tuple.__getattribute__") _ _) _ _ _);refine call_meets F.slot_tuple_getattribute (hT _) am_entry_tuple_getattribute (F.args_tuple_getattribute_2 _ _) (meets_getattribute_miss_tuple a xs k sl "keys" _ G' (by decide+kernel) (by size_fits)) ⟨hx,hA,λh' Na e gk=> ?_⟩) | wp_step))
 obtain⟨t',u',he⟩:=gk.there;show wpAny _ _ (getattributeRaised _ _ _ _ _ _ _) _ _ _;unfold getattributeRaised;repeat (any_goals (first | assumption | wp_step))
 exact h h' _ gk.keeps
end
section
variable {prog:Program}{w:World}{κ:Type} [DecidableEq κ]{knd:PySem.KeyKind prog w κ}{A:Around}{E:Value ->Shared ->Prop}
structure Ke (knd:PySem.KeyKind prog w κ)(h:Heap)(its:Array Value)(ps:List (κ×Value)):Prop where
 len:its.size=ps.length
 at_: ∀ (i:Nat) (p:κ×Value),ps[i]? =some p -> ∃a key,its[i]? =some (.ref a) /\ knd.is p.1 key=true /\ h.IsTuple a #[key,p.2]
theorem Ke.keeps {h h':Heap}{its:Array Value}{ps:List (κ×Value)}{x:Addr}(P:Ke knd h its ps)(hk: ∀b o,b≠x ->h.get? b=some o ->h'.get? b=some o)(hx: ∀o its n,h.get? x=some o ->o.data≠ .seq its n):Ke knd h' its ps:=⟨P.len,λi p e=>by obtain⟨a,key,h1,h2,o,ho,hc,n,r⟩:=P.at_ i p e;exact⟨a,key,h1,h2,o,hk a o (λz=>hx o _ n (z▸ho) r) ho,hc,n,r⟩⟩
def putAll (kvs:List (κ×Value))(ps:List (κ×Value)):List (κ×Value):=ps.foldl (λm p=>stored m p.1 p.2) kvs
theorem w8 (kvs:List (κ×Value))(k:κ)(v:Value):(stored kvs k v).length<=kvs.length+1:=by
 unfold stored;split
 ·simp
 ·simp
theorem loop {its:Array Value}{ps:List (κ×Value)}{t:Addr}{R:Result ->Shared ->Prop}(hA:A.in1.handled=none)(hn:ps.length<=1000000): ∀ (k i:Nat) {s:Shared} (it d:Addr) (tk:Tok) (kvs:List (κ×Value)),ps.length - i=k ->i<=ps.length ->kvs.length<=i ->s.heap.IsTupleIter it t i ->s.heap.IsTuple t its ->Ke knd s.heap its ps ->s.heap.DictOf knd d kvs ->d≠it ->d≠t ->t≠it ->(∀h' Na,h'.DictOf knd d (putAll kvs (ps.drop i)) ->(∀b o,b≠d ->b≠it ->s.heap.get? b=some o ->h'.get? b=some o) ->R (.ok (.ret .none)) {s with heap:=h',toks:=Na}) ->codeAny (model prog w) A (.builtin "dict.update.loop" ⟨[.ref d, .ref it, .int i tk, .none],[]⟩) R s:=by
 intro k;induction k with
 | zero=>
  intro i s it d tk kvs hk hi hl hit ht hP hd n1 n2 n3 hR;have e:i=ps.length:=by omega
  refine codeAny_builtin pN ?_;rw[Around.under_plainId i0 _];show wpAny _ A.in1 (pyNext (.ref it) >>=_) _ _ s;refine ao (wpAny_pyNext_tuple_end hA hit ht (by rw[Array.getElem?_eq_none];rw[hP.len];omega) λh' hx=> ?_);show wpAny _ A.in1 (Builtin.Dict.addKeywords d [] >>=_) _ _ _;refine ao (aM (aM ?_));have e2:ps.drop i= []:=List.drop_eq_nil_of_le (by omega);refine hR h' s.toks ?_ λb o _ n4 eb=>hx b o n4 eb;rw[e2];exact hd.extBut hx n1
 | succ k ih=>
  intro i s it d tk kvs hk hi hl hit ht hP hd n1 n2 n3 hR;have eX:i<ps.length:=by omega
  obtain⟨p,hp⟩: ∃p,ps[i]? =some p:=⟨ps[i],ae eX⟩
  obtain⟨a,key,h1,h2,h3⟩:=hP.at_ i p hp;refine codeAny_builtin pN ?_;rw[Around.under_plainId i0 _];show wpAny _ A.in1 (pyNext (.ref it) >>=_) _ _ s;refine ao (wpAny_pyNext_tuple_item hit ht h1 λh' UW fO=> ?_);have nc: ∀o its n,s.heap.get? it=some o ->o.data≠ .seq its n:=λo its n eo z=>by obtain⟨o2,e2,_,c2⟩:=hit;rw[eo] at e2;cases e2;rw[z] at c2;cases c2
  have Yw:Ke knd h' its ps:=hP.keeps (λb o n4 e4=>fO.extBut b o n4 e4) nc;have kh:h'.DictOf knd d kvs:=hd.extBut fO.extBut n1;have lY:h'.IsTuple t its:=by obtain⟨o,ho,r⟩:=ht;exact⟨o,fO.extBut t o n3 ho,r⟩
  obtain⟨a',PN,Mt,F1,h3'⟩:=Yw.at_ i p hp;obtain⟨oa,Yd,hca,na,hda⟩:=h3';have ea:a'=a:=by rw[h1] at Mt;cases Mt;rfl
  subst ea;have hT:(⟨h',s.gens,s.drawn,s.toks,s.os⟩:Shared).TypeIs (.ref a') "tuple" :=⟨oa,Yd,hca⟩
  show wpAny _ A.in1 (holding [.ref a'] _ >>=_) _ _ _;refine ao (wpAny_holding (ao (wpAny_tryCatch ?_)));unfold Builtin.Dict.pairItems;refine ao (wpAny_typeOf hT ?_);rw[ak (by simp)];refine ao (wpAny_seqItems Yd hda ?_);refine aM ?_;show wpAny _ A.in1 (holding [PN,p.2] (dictSet d PN p.2)) _ _ _;refine wpAny_holding (wpAny_dictSet_pairs F1 kh (λh2 hd2 j5=> ?_) (by rw[cC];omega));refine aM ⟨plainId_quiet i0 _,?_⟩;have ei:(rawInt ((i:Int)+1))=Value.int ((i+1:Nat):Int) 0:=by simp[rawInt]
  rw[ei];have Mm:Ke knd h2 its ps:=Yw.keeps (x:=d) (λb o n4 e4=>j5.extBut b o n4 e4) (λo its n eo z=>by obtain⟨o2,_,_,e2,_,c2,_⟩:=kh;rw[eo] at e2;cases e2;rw[z] at c2;cases c2);refine ih (i+1) it d 0 (stored kvs p.1 p.2) (by omega) eX (by have:=w8 kvs p.1 p.2;omega) ?_ ?_ Mm hd2 n1 n2 n3 λh3 Zc Mf hk3=> ?_
  ·obtain⟨o,ho,r⟩:=UW;exact⟨o,j5.extBut it o (a5 n1) ho,r⟩
  ·obtain⟨o,ho,r⟩:=lY;exact⟨o,j5.extBut t o (a5 n2) ho,r⟩
  ·refine hR h3 Zc ?_ λb o n4 n5 eb=>hk3 b o n4 n5 (j5.extBut b o n4 (fO.extBut b o n5 eb));have:ps.drop i=p::ps.drop (i+1):=by have:=List.drop_eq_getElem_cons eX;rw[this];rw[ae eX] at hp;cases hp;rfl
   rw[this];exact Mf
theorem kW {its:Array Value}{ps:List (κ×Value)}{t:Addr}{n:Nat}{sl:Array (Option Value)}{s:Shared}{Q:Value ->Shared ->Prop}(hA:A.in1.handled=none)(hn:ps.length<=1000000) (hx:s.heap.get? t=some ⟨.type "tuple",none, .seq its n,sl⟩) (hP:Ke knd s.heap its ps) (h: ∀h' tk,h'.DictOf knd s.heap.objs.size (putAll [] ps) ->(∀b o,s.heap.get? b=some o ->h'.get? b=some o) ->Q (.ref s.heap.objs.size) {s with heap:=h',toks:=tk}): wpAny (model prog w) A (call (.type "dict") [.ref t]) Q E s:=by
 refine callType_codes (Q₁:=λobj s₁=>obj= .ref s.heap.objs.size /\ s₁= {s with heap:=s.heap.push {cls:= .type "dict",data:= .dict #[]}}) PySem.F.kt_called_dict (PySem.F.kt_typeCall_dict_1 _) PySem.F.entry_dict_init (PySem.kt_code_dict_new _ ⟨rfl,rfl⟩) ?_;rintro obj s₁ ⟨rfl,rfl⟩;have Hn:(s.heap.push {cls:= .type "dict",data:= .dict #[]}).DictOf knd s.heap.objs.size []:=Heap.DictOf.new s.heap;have FQ:(s.heap.push {cls:= .type "dict",data:= .dict #[]}).get? t=some ⟨.type "tuple",none, .seq its n,sl⟩:=ar _ hx;have eX:t<s.heap.objs.size:=aB hx;refine⟨Hn.typeIs,PySem.F.args_dict_init_2 _ _,?_⟩;unfold Builtin.«dict.__init__»;refine ao ?_;unfold Builtin.Dict.selfAndRest;refine ao (wpAny_notOrdered_dict Hn.typeIs ?_);show wpAny _ _ (pure (s.heap.objs.size,[Value.ref t])) _ _ _;refine aM ?_;show wpAny _ _ (Builtin.Dict.updateFrom "dict.__init__" s.heap.objs.size (.ref t) [] .none) _ _ _;unfold Builtin.Dict.updateFrom;refine ao (wpAny_typeOf (T:= "tuple") ⟨_,FQ,rfl⟩ ?_);rw[ak (by decide)];refine ao (G4 FQ hA λh1 Rz ur=> ?_);rw[ak (show(none:Option Value).isNone=true from rfl)];refine ao (wpAny_rule (ao ?_));have X':h1.IsTuple t its:=⟨_,ur t _ FQ,rfl,n,rfl⟩
 refine wpAny_pyIter_tuple X' ?_;refine aM ⟨plainId_quiet i0 _,?_⟩;have Sn:h1.DictOf knd s.heap.objs.size []:=by obtain⟨o,es,ep,ho,r⟩:=Hn;exact⟨o,es,ep,ur _ _ ho,r⟩
 have R9:s.heap.objs.size<h1.objs.size:=by obtain⟨o,es,ep,ho,r⟩:=Sn;exact aB ho
 have Ss:Ke knd (h1.push {cls:= .type "tuple_iterator",data:= .fields #[.ref t, .int 0 0]}) its ps:=⟨hP.len,λi p e=>by obtain⟨a,key,e1,e2,o,ho,r⟩:=hP.at_ i p e;exact⟨a,key,e1,e2,o,ar _ (ur a o (ar _ ho)),r⟩⟩
 have ei:(rawInt 0)=Value.int ((0:Nat):Int) 0:=rfl;rw[ei];have Jy:t≠h1.objs.size:=aX (aB (ur t _ FQ));have ht4:(h1.push {cls:= .type "tuple_iterator",data:= .fields #[.ref t, .int 0 0]}).IsTuple t its:=let ⟨o,ho,r⟩:=X';⟨o,ar _ ho,r⟩
 have hit:(h1.push {cls:= .type "tuple_iterator",data:= .fields #[.ref t, .int 0 0]}).IsTupleIter h1.objs.size t 0:=⟨_,aS _ rfl,rfl,rfl⟩
 have hd2:=Sn.push {cls:= .type "tuple_iterator",data:= .fields #[.ref t, .int 0 0]};refine loop (A:=A.in1) (knd:=knd) (ps:=ps) (its:=its) (t:=t) (s:= {s with heap:=h1.push {cls:= .type "tuple_iterator",data:= .fields #[.ref t, .int 0 0]},toks:=Rz}) hA hn ps.length 0 h1.objs.size s.heap.objs.size 0 [] (by omega) (cU _) (aq _) hit ht4 Ss hd2 (aX R9) (Nat.ne_of_gt eX) Jy λh' Na kh uv=> ?_;refine⟨rfl,h h' Na ?_ λb o eb=>uv b o (aX (aB eb)) (aX (aB (ur b o (ar _ eb)))) (ar _ (ur b o (ar _ eb)))⟩;simpa using kh
end
end DC
namespace L2
open PySem PySem.Spec PyProof.Rows
section
variable {X:Cx}{pins:List (Addr×Obj)}{σ:St}{H H':Hp}{s:Shared}{h':Heap}
theorem Inv.more {t':Nat}(I:Inv X pins σ H s)(k: ∀b o,s.heap.get? b=some o ->h'.get? b=some o)(hx: ∀b o,H b=some o ->H' b=some o)(hn: ∀b,b<s.heap.objs.size ->H b=none ->H' b=none)(c7:kx X.prog X.w H' h'): Inv X pins σ H' {s with heap:=h',toks:=t'}:=by refine I.call (ch:= []) (g':=s.gens) (d':=s.drawn) ⟨λb o q n _ _=>k b o q,λb o q n _ _=>⟨o.slots,k b o q⟩,λb o q n _=>hn b (aB q) n,λb o q _=>⟨o,k b o q⟩,λb ys q=>hx b _ q,λb o u q=>hx b _ q,λb ps q=>⟨#[],by rw[hx b _ q];simp⟩⟩ c7 I.bare λb hb=>nomatch hb
def Dg (K:PySem.W.Frag):List V ->Hp ->VK ->Prop:=λxs H Q=> ∃ (a:Addr) (vs:List V) (ps:List (Key×V)),xs= [.ref a] /\ iS K H a vs /\ ps.length<=1000000 /\ vs.length=ps.length /\ (∀ (i:Nat) p,ps[i]? =some p -> ∃b,vs[i]? =some (.ref b) /\ iS K H b [kV p.1,p.2]) /\ ∀q,H q=none ->Q (.ref q) (upd H q (.dK (ps.foldl (λm p=>putK m p.1 p.2) [])))
theorem Dn {K:PySem.W.Frag}{h:Heap}(tup: ∀ {b:Addr} {xs:List V},iS K H b xs -> ∃its:List Value,Vals xs its /\ h.IsTuple b its.toArray): ∀ {ps:List (Key×V)} {vs:List V} {its:List Value},vs.length=ps.length ->(∀ (i:Nat) p,ps[i]? =some p -> ∃b,vs[i]? =some (.ref b) /\ iS K H b [kV p.1,p.2]) ->Vals vs its ->∃qs:List (Key×Value),KV ps qs /\ ∀ (i:Nat) q,qs[i]? =some q -> ∃a key,its[i]? =some (.ref a) /\ (cu X.prog X.w).is q.1 key=true /\ h.IsTuple a #[key,q.2]
 | [],vs,its,hl,_,r=>by refine⟨[], .nil,λi q e=> ?_⟩;simp at e
 | p::ps,[],its,hl,_,r=>by simp at hl
 | p :: ps,v::vs,its,hl,ha,r=>by
  cases r with
  | @cons _ u _ us r1 r2=>
   obtain⟨qs,hq,Ut⟩:=Dn tup (ps:=ps) (vs:=vs) (its:=us) (by simpa using hl) (λi p e=>by simpa using ha (i+1) p (by simpa using e)) r2;obtain⟨b,hb,hs⟩:=ha 0 p rfl;have k9:v= .ref b:=by simpa using hb
   subst k9;have eu:u=Value.ref b:=r1;subst eu;obtain⟨js,rj,tj⟩:=tup hs;cases rj with
   | cons k1 k2=>
    cases k2 with
    | cons k3 k4=>
     cases k4;rename_i key val;refine⟨(p.1,val)::qs, .cons ⟨rfl,k3⟩ hq,λi q e=> ?_⟩;cases i with
     | zero=>simp at e;subst e;exact⟨b,key,rfl,lV k1,tj⟩
     | succ i=>simpa using Ut i q (by simpa using e)
theorem qY: ∀ {ps:List (Key×V)} {qs:List (Key×Value)} {m:List (Key×V)} {n:List (Key×Value)},KV ps qs ->KV m n ->KV (ps.foldl (λm p=>putK m p.1 p.2) m) (DC.putAll n qs)
 | _,_,_,_, .nil,r=>r
 | _,_,_,_, .cons ⟨e,rv⟩ t,r=>by rw[List.foldl_cons];refine qY (n:=stored _ _ _) t ?_;rw[e];exact r.put _ rv
theorem qV: ∀ (ps:List (Key×V)) (m:List (Key×V)),(ps.foldl (λm p=>putK m p.1 p.2) m).length<=m.length+ps.length
 | [],m=>by simp
 | p::ps,m=>by rw[List.foldl_cons,aG];have:=qV ps (putK m p.1 p.2);have:=gi m p.1 p.2;omega
theorem kW (hc:X.calm=true):gw X (.type "dict") (Dg X.K):=by intro pins s σ H xs us Q I r h;obtain⟨a,vs,ps,rfl,hq,hn,hl,Ny,q⟩:=h;obtain⟨u,rfl,ru⟩:=vals1 r;cases ru;obtain⟨its,rv,⟨o,ho,Ym,n,hd,Yk⟩,hz⟩:=I.Kz hq;obtain⟨qs,hk,Ut⟩:=Dn (X:=X) (h:=s.heap) (λ{b xs} hs=>by obtain⟨js,rj,tj,_⟩:=I.tuple hs;exact⟨js,rj,tj⟩) hl Ny rv;have hlen:qs.length=ps.length:=hk.length.symm;obtain⟨c,dct,dat,sl⟩:=o;simp only at Ym hd Yk;subst Ym hd Yk;refine DC.kW (knd:=cu X.prog X.w) (ps:=qs) (show X.A.in1.handled=none from I.ok.hd hc) (by rw[hlen];exact hn) ho ⟨by have:=rv.length;simp;omega,λi p e=>by simpa using Ut i p e⟩ λh' tk kh EK=> ?_;refine⟨.ref s.heap.objs.size,_,I.laid (t':=tk) EK (aq _) (pQ ?_ (beq_eq_false_iff_ne.mpr (a5 (aX I.big))) (qY hk .nil) kh),rfl,q _ (I.c7.fresh (aq _))⟩;have:=qV ps [];rw[cC];simp at this;omega
def Df:List V ->Hp ->VK ->Prop:=λxs H Q=> ∃d kvs,xs= [.ref d] /\ Rd H d (.dK kvs) /\ ∀l,H l=none ->Q (.ref l) (upd H l (.lst (kvs.map λkv=>kV kv.1)))
theorem qC: ∀ {kvs:List (Key×V)} {vs:List (Key×Value)} {acc:List Value},KV kvs vs ->acc.length=vs.length ->(∀ (j:Nat) v,acc[j]? =some v -> ∃k x,vs[j]? =some (k,x) /\ lU k v=true) ->Vals (kvs.map λkv=>kV kv.1) acc
 | _,_,[], .nil,_,_=> .nil
 | _,_,_::_, .nil,h,_=>by simp at h
 | _,_,[], .cons _ _,h,_=>by simp at h
 | _,_,u::us, .cons (a:=p) (b:=q) ⟨e,_⟩ t,h,hk=>by refine .cons ?_ (qC t (by simpa using h) λj v ev=>by simpa using hk (j+1) v (by simpa using ev));obtain⟨k,x,e1,e2⟩:=hk 0 u rfl;simp at e1;show RelV (kV p.1) u;rw[e,e1];exact tF e2
theorem gP (hc:X.calm=true):gw X (.type "list") Df:=by intro pins s σ H xs us Q I r h;obtain⟨d,kvs,rfl,hd,q⟩:=h;obtain⟨u,rfl,ru⟩:=vals1 r;cases ru;obtain⟨z,EF,vs,rel,dd⟩:=me I.c7 hd;obtain⟨ep,zC⟩:=dd.dictAt;refine PySem.W.kdl_call (PySem.W.kdl_dict (knd:=cu X.prog X.w) (kvs:=vs) (ep:=ep) EF) (I.ok.hd hc) zC (by rw[<- rel.length];exact z) λh' tk acc c EK hg items=> ?_;have hv:Vals (kvs.map λkv=>kV kv.1) acc.toList:=qC rel (by rw[cT];exact items.1) λj v e=>items.2 j v (by rw[<- Array.getElem?_toList];exact e);refine⟨.ref _,_,I.laid (t':=tk) EK (aq _) (show dF X.prog X.w _ h' _ (.lst _) from⟨by rw[aa];exact z,acc.toList,c,hv,by simpa using hg⟩),rfl,q _ (I.c7.fresh (aq _))⟩
end
section
variable {X:Cx}{o:Expr}{td:TE}{apos fm p1 Dq:Pos}
theorem qB: ∀as:List Addr,Vals (as.map V.ref) (as.map Value.ref)
 | []=> .nil
 | a::r=> .cons rfl (qB r)
def yB (td:TE):TE:=λσ H Q=>td σ H λx H1=> ∃d kvs,x= .ref d /\ Rd H1 d (.dK kvs) /\ ∀ (l:Addr) (vs:List V) (H2:Hp),H1 l=none ->eg H1 H2 ->H2 l=some (.lst vs) ->vs.length=kvs.length ->(∀ (i:Nat) kv,kvs[i]? =some kv -> ∃a,vs[i]? =some (.ref a) /\ H2 a=some (.tup [kV kv.1,kv.2])) ->(∀b u,H2 b=some u ->H1 b=some u \/ H1 b=none /\ (b=l \/ ∃xs,u= .tup xs)) ->Q (.ref l) H2
theorem AB (QA:Gl X "list")(L5:X.mg "list" =none)(hc:X.calm=true)(ho:PE X o td)(vA:attributeBase o "items" X.env (eval o X.env)=eval o X.env:=by rfl)(vy:(apos.endLine==fm.line)=true:=by rfl) (ht:starEach [.Call (.Attribute o "items" apos) [] [] fm] X.env= [(false,eval (.Call (.Attribute o "items" apos) [] [] fm) X.env)]:=by rfl): PE X (.Call (.Name "list" p1) [.Call (.Attribute o "items" apos) [] [] fm] [] Dq) (yB td):=by
 intro pins s σ H Q I h;refine Call_ (gr I QA L5 boot_list (bO ?_ ht rfl));rw[ht];refine Calls.spliced_cons (wpAny_Call_method0_late vA vy (df (ho pins s σ H _ I h) λv s1 ⟨x,H1,I1,r1,d,kvs,ex,hd,q1⟩=> ?_));subst ex;obtain rfl:v=Value.ref d:=r1;obtain⟨t1,t2,sys⟩:=tH I1 (.inl ⟨kvs,hd⟩);refine⟨"dict","dict.items",PySem.F.plainAttrs_dict,PySem.F.slot_dict_items,PySem.F.type_dict_items,t1,t2,Calls.callWith_builtin rfl (PySem.evalArgs_none ?_)⟩;obtain⟨z,EF,vs,rel,dd⟩:=me I1.c7 hd;refine call_meetsIn PySem.F.slot_dict_items dd.typeIs PySem.F.entry_dict_items (PySem.F.args_dict_items_1 _) (meets_dict_items (cu X.prog X.w) d EF) ⟨⟨vs,dd⟩,?_⟩;refine Calls.spliced_nil ?_;obtain⟨ep,zC⟩:=dd.dictAt;refine PySem.W.kdx_call (knd:=cu X.prog X.w) (kvs:=vs) (ep:=ep) (I1.ok.hd hc) ⟨_,aS _ rfl,rfl,rfl⟩ (zC.push _) (by rw[<- rel.length];exact z) λh' tk acc c as hk hg hl hG A9=> ?_;have hsz:(s1.heap.push {cls:= .type "dict_items",data:= .fields #[.ref d]}).objs.size=s1.heap.objs.size+1:=Heap.size_push ..;generalize hL:(s1.heap.push {cls:= .type "dict_items",data:= .fields #[.ref d]}).objs.size=L at hg hG ⊢;have Sv:s1.heap.objs.size<L:=by omega
 have Sh:as.length=kvs.length:=by rw[hl,rel.length]
 have hnd:as.Nodup:=hG.rise.imp λh=>aX h;let H2:Hp:=λb=>if b=L then some (.lst (as.map V.ref)) else match kvs[as.idxOf b]? with | some kv=>some (.tup [kV kv.1,kv.2]) | none=>H1 b
 have eL:H2 L=some (.lst (as.map V.ref)):=ak rfl;have eA: ∀ (j:Nat) a,as[j]? =some a -> ∃kv,kvs[j]? =some kv /\ H2 a=some (.tup [kV kv.1,kv.2]):=λj a e=>by
  have hj:j<as.length:=(ag.mp e).1;obtain⟨kv,A4⟩: ∃kv,kvs[j]? =some kv:=⟨kvs[j],ae (by omega)⟩
  have ej:as.idxOf a=j:=by have:=(ag.mp e).2;rw[<- this];exact hnd.idxOf_getElem j hj
  refine⟨kv,A4,?_⟩;have na:a≠L:=Nat.ne_of_gt (hG.above a (ai e));show(if a=L then _ else _)=_;rw[aj na,ej,A4]
 have eO: ∀b,b≠L ->b∉as ->H2 b=H1 b:=λb n1 n2=>by show(if b=L then _ else _)=_;rw[aj n1,List.idxOf_eq_length n2,cZ (by omega)]
 have out: ∀b,b<s1.heap.objs.size ->b≠L /\ b∉as:=λb hb=>⟨by omega,λz=>absurd (Nat.lt_trans hb (Nat.lt_trans Sv (hG.above b z))) (cb _)⟩
 have same:eg H1 H2:=λb u e=>by obtain⟨n1,n2⟩:=out b (I1.c7.lt e);rw[eO b n1 n2];exact e
 have keep: ∀b ob,s1.heap.get? b=some ob ->h'.get? b=some ob:=λb ob e=>hk b ob (ar _ e);have c7:kx X.prog X.w H2 h':=λb u e=>by
  by_cases n1:b=L
  ·subst n1;rw[eL] at e;cases e;exact⟨by rw[aa,Sh];exact z,as.map Value.ref,c,qB as,by rw[<- A9];simpa using hg⟩
  ·by_cases n2:b∈as
   ·obtain⟨j,hj⟩:=bA.mp n2;obtain⟨kv,A4,e2⟩:=eA j b hj;rw[e2] at e;cases e;obtain⟨key,k,x,hx,pL,ht⟩:=hG.pairs j b hj;obtain⟨p,hp,Wa,rp⟩:=xF rel hx;rw[A4] at hp;cases hp;refine⟨by rw[cC];show 2<=16777216;decide,[key,x], .cons (by rw[Wa];exact tF pL) (.cons rp .nil),_,ht,rfl,_,rfl,rfl⟩
   ·rw[eO b n1 n2] at e;exact(I1.c7 b u e).oN (λc v _ r=>keep c v r) (λc r=>same c _ r) λc ys r=>same c _ r
 refine⟨.ref L,H2,I1.more (t':=tk) keep (λb u e=>same b u e) (λb hb e=>by obtain⟨n1,n2⟩:=out b hb;rw[eO b n1 n2];exact e) c7,rfl,q1 L (as.map V.ref) H2 (I1.c7.fresh (Nat.le_of_lt Sv)) same eL (by rw[aa,Sh]) (λi kv e=> ?_) λb u e=> ?_⟩
 ·obtain⟨a,ha⟩: ∃a,as[i]? =some a:=⟨as[i]'(by have:=(ag.mp e).1;omega),ae _⟩
  obtain⟨kv',h1,h2⟩:=eA i a ha;rw[e] at h1;cases h1;exact⟨a,by rw[aA,ha];rfl,h2⟩
 ·by_cases n1:b=L
  ·exact .inr ⟨by rw[n1];exact I1.c7.fresh (Nat.le_of_lt Sv), .inl n1⟩
  ·by_cases n2:b∈as
   ·obtain⟨j,hj⟩:=bA.mp n2;obtain⟨kv,A4,e2⟩:=eA j b hj;rw[e2] at e;cases e;exact .inr ⟨I1.c7.fresh (Nat.le_of_lt (Nat.lt_trans Sv (hG.above b n2))), .inr ⟨_,rfl⟩⟩
   ·rw[eO b n1 n2] at e;exact .inl e
def vJ (i:Int)(n:Nat):List V:=(List.range n).map λ(k:Nat)=> .int (i - (k:Int))
def Cz (ta:TA):TE:=λσ H Q=>ta σ H λvs H1=> ∃i j:Int,vs= [.int i, .int j, .int (-1)] /\ yj i j (-1) /\ (i - j).toNat<=16000000 /\ ∀l,H1 l=none ->Q (.ref l) (upd H1 l (.lst (vJ i (i - j).toNat)))
theorem Ao {i:Int}{n:Nat}{acc:Array Value}(h:ItemsOf (λj v=> ∃t,v=Value.int (i+(j:Int)*(-1)) t) acc n):Vals (vJ i n) acc.toList:=by
 obtain⟨hl,hv⟩:=h;have Ma:acc.toList.length=n:=by simpa using hl
 have key: ∀ (k:Nat) (l:List Value) (m:Nat),l.length=m ->(∀j v,l[j]? =some v -> ∃t,v=Value.int (i - ((k+j:Nat):Int)) t) ->Vals ((List.range' k m).map λ(k:Nat)=>V.int (i - (k:Int))) l:=by
  intro k l;induction l generalizing k with
  | nil=>intro m hm _;subst hm;exact .nil
  | cons v r ih=>
   intro m hm hj;subst hm;rw[aG,List.range'_succ,aH];refine .cons ?_ (ih (k+1) r.length rfl λj v' e=> ?_)
   ·obtain⟨t,e⟩:=hj 0 v rfl;exact⟨t,by simpa using e⟩
   ·obtain⟨t,e'⟩:=hj (j+1) v' (by rw[List.getElem?_cons_succ];exact e);exact⟨t,by rw[e'];congr 2<;>omega⟩
 have:=key 0 acc.toList n Ma λj v e=>by obtain⟨t,e'⟩:=hv j v (by rw[<- Array.getElem?_toList];exact e);exact⟨t,by rw[e'];congr 2<;>omega⟩
 unfold vJ;rw[List.range_eq_range'];exact this
theorem xn {a b c:Expr}{ta:TA}{q1 q2 Dq sV:Pos}(QA:Gl X "list")(L5:X.mg "list" =none)(hg:Gl X "range")(hm:X.mg "range" =none)(hc:X.calm=true)(ha:PA X [a,b,c] ta) (hs:starEach [a,b,c] X.env= [(false,eval a X.env),(false,eval b X.env),(false,eval c X.env)]:=by rfl) (j5:starEach [b,c] X.env= [(false,eval b X.env),(false,eval c X.env)]:=by rfl) (ht:starEach [.Call (.Name "range" q2) [a,b,c] [] sV] X.env= [(false,eval (.Call (.Name "range" q2) [a,b,c] [] sV) X.env)]:=by rfl): PE X (.Call (.Name "list" q1) [.Call (.Name "range" q2) [a,b,c] [] sV] [] Dq) (Cz ta):=by
 intro pins s σ H Q I h;refine Call_ (gr I QA L5 boot_list (bO ?_ ht rfl));rw[ht];refine Calls.spliced_cons (Call_ (gr I hg hm boot_range (bO (df (ha sV pins s σ H _ I h) λus s1 ⟨vs,H1,I1,r1,q1⟩=> ?_) (by rw[hs,j5]) (by rw[j5];rfl))));obtain⟨i,j,e,ok,hn,q⟩:=q1;subst e;cases r1 with
 | cons r rr=>
  cases rr with
  | cons r' rr=>
   cases rr with
   | cons O8 rr=>
    cases rr;obtain⟨t,rfl⟩:=r;obtain⟨t',rfl⟩:=r';obtain⟨KO,rfl⟩:=O8;refine call_range_3 (by decide) (Calls.spliced_nil ?_);have I2:Inv X pins σ H1 {s1 with heap:=s1.heap.push {cls:= .type "range",data:= .fields #[.int i t, .int j t', .int (-1) KO]},toks:=s1.toks}:=I1.kept λb o e=>ar _ e;have hsz:Builtin.Range.rangeSize i j (-1)=((i - j).toNat:Int):=by have:=uT (a:=i) (b:=j);have h0:=mV (a:=i) (b:=j) (c:= -1) (by decide);unfold FN at this;omega
    refine call_list_range (n:=(i - j).toNat) (I1.ok.hd hc) (IsRange.new ..) (uJ ok) hsz (by omega) λh' tk MP c' kp ER items=> ?_;have hv:=Ao items;refine⟨.ref _,_,I2.laid (t':=tk) kp (aq _) (show dF X.prog X.w _ h' _ (.lst (vJ i (i - j).toNat)) from⟨?_,MP.toList,c',hv,by simpa using ER⟩),rfl,q _ (I2.c7.fresh (aq _))⟩;unfold vJ;rw[aa,cV];exact a4 hn (by rw[cC];decide)
end
end L2
namespace WL
open PySem L2
variable {K:PySem.W.Frag}
def Kq:Aj:=λxs M q=> ∃l:List (Key×W),xs= [.tup (l.map λp=> .tup [eZ p.1,p.2])] /\ l.length<=1000000 /\ ∀p,M p=none ->q (wr p) (um M p (.dK (l.foldl (λm p=>iH m p.1 p.2) [])))
theorem WR.key {H:Hp}{k:Key}{v:V}(h:WR K H (eZ k) v):v=kV k:=by cases k<;>exact h.eq
theorem u6 {H:Hp}: ∀ {l:List (Key×W)} {vs:List V},cF K H (l.map λp=> .tup [eZ p.1,p.2]) vs -> ∃ps:List (Key×V),KR K H l ps /\ vs.length=ps.length /\ ∀ (i:Nat) p,ps[i]? =some p -> ∃b,vs[i]? =some (.ref b) /\ iS K H b [kV p.1,p.2]
 | [],vs,h=>by simp only[List.map_nil,cF] at h;subst h;exact⟨[], .nil,rfl,λi p e=>by simp at e⟩
 | (k,x)::l,vs,h=>by
  simp only[aH,cF] at h;obtain⟨v,t,rfl,h1,h2⟩:=h;obtain⟨ps,r,hl,hp⟩:=u6 h2;obtain⟨b,us,rfl,hs,hr⟩:=h1.tup;obtain⟨u1,u2,rfl,g1,g2⟩:=hr.two;cases g1.key;refine⟨(k,u2)::ps, .cons ⟨rfl,g2⟩ r,by simp[hl],λi p e=> ?_⟩;cases i with
  | zero=>simp at e;subst e;exact⟨b,rfl,hs⟩
  | succ i=>simpa using hp i p (by simpa using e)
theorem zt {H:Hp}: ∀ {l:List (Key×W)} {ps:List (Key×V)} {m:List (Key×W)} {n:List (Key×V)},KR K H l ps ->KR K H m n ->KR K H (l.foldl (λm p=>iH m p.1 p.2) m) (ps.foldl (λm p=>putK m p.1 p.2) n)
 | _,_,_,_, .nil,r=>r
 | _,_,_,_, .cons (a:=a) (b:=b) ⟨e,rv⟩ t,r=>by rw[List.foldl_cons,List.foldl_cons];refine zt t ?_;rw[e];exact KR.put rv r
instance:IC K (Dg K) Kq where
 imp:=by rintro xs v M H q Q m r1 ⟨l,rfl,hl,h⟩ k;obtain⟨v,rfl,r⟩:=r1.one;obtain⟨a,vs,rfl,hv,rr⟩:=r.tup;obtain⟨ps,hr,hlen,hp⟩:=u6 rr;refine⟨a,vs,ps,rfl,hv,by rw[<- pF hr];exact hl,hlen,hp,λp hp=> ?_⟩;have ts:=L2.eg.ts (b8 (o:= .dK (ps.foldl (λm p=>putK m p.1 p.2) [])) hp);exact k _ _ _ _ (h p (m.fresh hp)) ts (m.put ts ⟨_,bU,KR.ts ts (zt hr .nil)⟩) WR.v
def Kn:Aj:=λxs M q=> ∃d kvs,xs= [wr d] /\ M d=some (.dK kvs) /\ ∀p,M p=none ->q (wr p) (um M p (.lst (kvs.map λkv=>eZ kv.1)))
theorem vn {H:Hp}: ∀ {l:List (Key×W)} {vs:List (Key×V)},KR K H l vs ->cF K H (l.map λkv=>eZ kv.1) (vs.map λkv=>kV kv.1)
 | _,_, .nil=>cF.nil
 | _,_, .cons (a:=a) (b:=b) ⟨e,_⟩ t=>by refine cF.cons ?_ (vn t);show WR K H (eZ a.1) (kV b.1);rw[e];cases b.1<;>exact WR.v
instance:IC K Df Kn where
 imp:=by rintro xs v M H q Q m r1 ⟨d,kvs,rfl,hd,h⟩ k;obtain⟨v,rfl,r⟩:=r1.one;cases r.eq;obtain⟨ks,ek,rr⟩:=m d _ hd;exact⟨d,ks,rfl, .inl ek,λp hp=>k _ _ _ _ (h p (m.fresh hp)) (L2.eg.ts (b8 hp)) (m.nY hp (vn rr)) WR.v⟩
def sq (a:WE):WE:=λρ M q=>a ρ M λx M1=> ∃d kvs,x=wr d /\ M1 d=some (.dK kvs) /\ ∀p,M1 p=none ->q (wr p) (um M1 p (.lst (kvs.map λkv=> .tup [eZ kv.1,kv.2])))
theorem wLItems_e {a:WE}{ρ:dm}{M:Mp}{q:WK}:sq a ρ M q=a ρ M λx M1=>fS x λd=>ja (M1 d) λkvs=>px M1 λp=>q (wr p) (um M1 p (.lst (kvs.map λkv=> .tup [eZ kv.1,kv.2]))):=by
 unfold sq fS ja px;congr 1;funext x M1;apply propext;constructor
 ·rintro⟨d,kvs,e1,e2,h⟩;exact⟨d,e1,kvs,e2,h⟩
 ·rintro⟨d,e1,kvs,e2,h⟩;exact⟨d,kvs,e1,e2,h⟩
instance {t:TE}{a:WE} [ia:IE K t a]:IE K (yB t) (sq a) where
 imp :=λρ M σ H q Q o h k=>ia.imp ρ M σ H _ _ o h λx M1 v H1 ⟨d,kvs,ex,hd,h1⟩ t1 m1 r1=>by
  subst ex;obtain⟨ks,ek,rr⟩:=m1 d _ hd;refine⟨d,ks,r1.eq, .inl ek,λl vs H2 hl sm el hlen zC Hn=> ?_⟩;have ts:bo H1 H2:=L2.eg.ts sm;refine k _ _ _ _ (h1 l (m1.fresh hl)) (t1.trans ts) (λb x e=> ?_) WR.v;by_cases hb:b=l
  ·subst hb;rw[um_same] at e;cases e;refine⟨vs,el,cF.mk (by rw[hlen,aa,pF rr]) λj d' v' e1 e2=> ?_⟩;rw[aA] at e1;cases e3:kvs[j]? with
   | none=>rw[e3] at e1;cases e1
   | some kv=>
    rw[e3] at e1;cases e1;obtain⟨RY,e4⟩: ∃RY,ks[j]? =some RY:=⟨ks[j]'(by rw[<- pF rr];exact(ag.mp e3).1),ae _⟩
    obtain⟨p2,e5,e6,rp⟩:=xG rr e4;rw[e3] at e5;cases e5;obtain⟨a2,e7,e8⟩:=zC j RY e4;rw[e2] at e7;cases e7;refine WR.Nm (iS.of e8) (cF.cons ?_ (cF.cons (rp.ts ts) cF.nil));rw[e6];cases RY.1<;>exact WR.v
  ·rw[aJ hb] at e;have hm:=m1 b x e;obtain⟨u,hu⟩:=hm.some;exact hm.mv ts (by rw[hu];exact sm b u hu)
def zO (i:Int)(n:Nat):List W:=(List.range n).map λ(k:Nat)=>wi (i - (k:Int))
def Ca (a:WA):WE:=λρ M q=>a ρ M λxs M1=> ∃i j:Int,xs= [wi i,wi j,wi (-1)] /\ yj i j (-1) /\ (i - j).toNat<=16000000 /\ ∀l,M1 l=none ->q (wr l) (um M1 l (.lst (zO i (i - j).toNat)))
theorem zN {H:Hp}(i:Int): ∀ (l:List Nat),cF K H (l.map λ(k:Nat)=>wi (i - (k:Int))) (l.map λ(k:Nat)=>V.int (i - (k:Int)))
 | []=>by simp only[List.map_nil,cF]
 | k::r=>by simp only[aH,cF];exact⟨_,_,rfl,WR.v,zN i r⟩
instance {t:TA}{a:WA} [ia:IA K t a]:IE K (Cz t) (Ca a) where
 imp:=λρ M σ H q Q o h k=>ia.imp ρ M σ H _ _ o h λxs M1 vs H1 ⟨i,j,ex,h1,h2,h3⟩ t1 m1 r1=>by subst ex;simp only[cF] at r1;obtain⟨v1,t2,rfl,g1,v2,t3,rfl,g2,v3,t4,rfl,g3,rfl⟩:=r1;cases g1.eq;cases g2.eq;cases g3.eq;exact⟨i,j,rfl,h1,h2,λp hp=>k _ _ _ _ (h3 p (m1.fresh hp)) (t1.trans (L2.eg.ts (b8 hp))) (m1.nY hp (zN i _)) WR.v⟩
end WL
namespace WQ
open PySem L2 WL WP
def GD (p:Int)(m:Pt):Prop:=(m.map (·.1)).Nodup /\ ∀z∈m,0<z.2 /\ z.2<p
def fK (m:Pt)(x:Int):Pt:=m.filter λq=>decide (q.1≠x)
theorem E9 (m:Pt)(x:Int):rE (eY m) (.inl x)=eY (fK m x):=by unfold rE eY fK;rw[List.filter_map];congr 1;apply List.filter_congr;intro q _;simp
theorem fo: ∀ {m:Pt},(m.map (·.1)).Nodup -> ∀x,dA m x=look m x
 | [],_,x=>rfl
 | q ::r,h,x=>by
  rw[aH,bw] at h;have ih:=fo h.2 x;rw[dA,look,ih];by_cases e:q.1=x
  ·rw[ak e,ak e];have:look r x=0:=dX λz hz ez=>h.1 (af.mpr ⟨z,hz,by rw[ez,e]⟩);rw[this];lia
  ·rw[aj e,aj e];lia
theorem gL {m:Pt}(h:(m.map (·.1)).Nodup){z:Int×Int}(hz:z∈m):look m z.1=z.2:=by
 induction m with
 | nil=>cases hz
 | cons q r ih=>
  rw[aH,bw] at h;rw[look];rcases av.mp hz with rfl | ng
  ·rw[ak rfl]
  ·rw[aj (λe=>h.1 (af.mpr ⟨z,ng,e.symm⟩))];exact ih h.2 ng
theorem xC (m:Pt)(x y:Int):look (fK m x) y=if y=x then 0 else look m y:=by
 induction m with
 | nil=>simp[fK,look]
 | cons q r ih=>
  unfold fK at ih ⊢;rw[List.filter_cons];by_cases e:q.1=x
  ·simp only[e,ne_eq,not_true_eq_false,decide_false,ay,bf];rw[ih,look];by_cases ey:y=x
   ·rw[ak ey,ak ey]
   ·rw[aj ey,aj ey,aj (by rw[e];exact a5 ey)]
  ·simp only[ne_eq,e,not_false_eq_true,decide_true,bN];rw[look,look,ih];by_cases ey:q.1=y
   ·rw[ak ey,ak ey,aj (by rw[<- ey];exact e)]
   ·rw[aj ey,aj ey]
theorem GD.range {p:Int}{m:Pt}(hp:0<p)(h:GD p m)(x:Int):0<=look m x /\ look m x<p:=by
 by_cases hx: ∃z∈m,z.1=x
 ·obtain⟨z,hz,rfl⟩:=hx;rw[gL h.1 hz];have:=h.2 z hz;lia
 ·rw[dX λz hz e=>hx ⟨z,hz,e⟩];lia
theorem GD.drop {p:Int}{m:Pt}(h:GD p m)(x:Int):GD p (fK m x):=by refine⟨h.1.sublist (List.Sublist.map _ List.filter_sublist),λz hz=>h.2 z (aP.mp hz).1⟩
theorem G7 {m:Pt}{x v:Int}{z:Int×Int}(h:z∈kf m x v):z=(x,v) \/ z∈m:=by
 unfold kf at h;split at h
 ·obtain⟨q,hq,e⟩:=af.mp h;split at e
  ·rename_i e2;left;rw[<- e,e2]
  ·right;rw[<- e];exact hq
 ·rcases ax.mp h with h | h
  ·exact .inr h
  ·exact .inl (ah.mp h)
theorem GD.put {p:Int}{m:Pt}(h:GD p m){x v:Int}(h0:0<v)(h1:v<p):GD p (kf m x v):=⟨tw h.1,λz hz=>by
 rcases G7 hz with rfl | hz
 ·exact⟨h0,h1⟩
 ·exact h.2 z hz⟩
theorem Hv {m:Pt}{x:Int}(h:look m x≠0):(d5 (eY m) (.inl x)).isSome=true:=by
 rw[sy];rcases j8 (m:=m) (x:=x) with⟨_,e,_⟩ | ⟨q,e,_⟩
 ·exact absurd e h
 ·rw[e];rfl
def NZ (p n:Int):Prop:= ∀y,0<y ->y<p ->y*n % p≠0
def IW (mw:Int)(b:Pt):Pt:=b.map λz=>(z.1+mw,z.2)
theorem yu (mw:Int): ∀ (b:Pt) (x:Int),dA (IW mw b) x=dA b (x - mw)
 | [],x=>rfl
 | z::r,x=>by
  show dA ((z.1+mw,z.2)::IW mw r) x=_;rw[dA,dA,yu mw r x];by_cases e:z.1+mw=x
  ·rw[ak e,ak (by lia)]
  ·rw[aj e,aj (by lia)]
def Pc:kb:=λxs M q=> ∃ (h o:Addr) (p mw n:Int) (a b:Pt),xs= [wi p,wr h,wr o,wi mw,wi n] /\ h≠o /\ M h=some (.dK (eY a)) /\ M o=some (.dK (eY b)) /\ 0<p /\ p<1000 /\ GD p a /\ GD p b /\ NZ p n /\ a.length+b.length<=16000000 /\∀c,GD p c ->c.length<=a.length+b.length ->(∀x,look c x=(look a x+look b (x - mw)*n) % p) ->q wn (um M h (.dK (eY c)))
theorem AO (m:Pt)(x:Int):(fK m x).length<=m.length:=List.length_filter_le _ _
def Lg (C:Addr):kb:=λxs M q=> ∃ (s dx:Addr) (l r:W),xs= [wr s,l,r] /\ M s=some (.ins C dx []) /\ q wn (um M s (.ins C dx [("lamps",l),("parts",r)]))
def DG (R C:Addr):kb:=λxs M q=> ∃ (s dx r dr:Addr) (l u f g e:W),xs= [wr s,wr r,f,g,e] /\ s≠r /\ M s=some (.ins C dx []) /\ M r=some (.ins R dr [("lamps",l),("parts",u)]) /\ q wn (um M s (.ins C dx [("lamps",l),("parts",u),("first",f),("length",g),("foot",e)]))
end WQ
namespace WL
open PySem L2
theorem sDDelW_e {a b:WE}{D:iR}{ρ:dm}{M:Mp}:xh a b D ρ M=a ρ M λx M1=>b ρ M1 λy M2=>fS x λp=>m8 y λk=>ja (M2 p) λkvs=>gR ((d5 kvs k).isSome=true) (D.nx ρ (um M2 p (.dK (rE kvs k)))):=by
 unfold xh fS m8 ja gR;congr 1;funext x M1;congr 1;funext y M2;apply propext;constructor
 ·rintro⟨p,kvs,k,e1,e2,e3,e4,h⟩;exact⟨p,e1,k,e3,kvs,e2,e4,h⟩
 ·rintro⟨p,e1,k,e3,kvs,e2,e4,h⟩;exact⟨p,kvs,k,e1,e2,e3,e4,h⟩
end WL
namespace WQ
open PySem L2 WL WP
abbrev Pq:=List (Int×Addr×Pt)
def k8 (P:Pq):List (Key×W):=P.map λt=>((Sum.inl t.1:Key),wr t.2.1)
def pf (P:Pq)(w:Int):Pt:=match P.find? (λt=>decide (t.1=w)) with
 | some t=>t.2.2
 | none=> []
def bL (rl rp:Addr)(P:Pq):List Addr:=rl::rp::P.map λt=>t.2.1
structure cL (p:Int)(M:Mp)(rl rp:Addr)(a:Pt)(P:Pq):Prop where
 lam:M rl=some (.dK (eY a))
 par:M rp=some (.dK (k8 P))
 zy: ∀t∈P,M t.2.1=some (.dK (eY t.2.2))
 ga:GD p a
 gp: ∀t∈P,GD p t.2.2
 mK:(P.map (·.1)).Nodup
 Jm:(bL rl rp P).Nodup
def d9 (M M':Mp)(L:List Addr):Prop:= ∀d o,M d=some o ->d∉L ->M' d=some o
theorem d9.trans {M M1 M2:Mp}{L L':List Addr}(h:d9 M M1 L)(h':d9 M1 M2 L')(hs: ∀x∈L',x∈L \/ M x=none):d9 M M2 L:=λd o e n=>h' d o (h d o e n) λhd=>(hs d hd).elim n λz=>by rw[e] at z;cases z
theorem d9.sm {M M':Mp}(h:Sm M M')(L:List Addr):d9 M M' L:=λd o e _=>h d o e
theorem fV {α β:Type}{f:α ->β}: ∀ {l:List α},(l.map f).Nodup -> ∀ {x y:α},x∈l ->y∈l ->f x=f y ->x=y
 | [],_,x,_,hx,_,_=>by cases hx
 | z ::r,h,x,y,hx,hy,e=>by
  rw[aH,bw] at h;rcases av.mp hx with ex | hx
  ·rcases av.mp hy with ey | hy
   ·rw[ex,ey]
   ·exact absurd (af.mpr ⟨y,hy,by rw[<- e,ex]⟩) h.1
  ·rcases av.mp hy with ey | hy
   ·exact absurd (af.mpr ⟨x,hx,by rw[e,ey]⟩) h.1
   ·exact fV h.2 hx hy e
theorem find_some {P:Pq}{w:Int}{t:Int×Addr×Pt}(h:P.find? (λt=>decide (t.1=w))=some t):t∈P /\ t.1=w:=⟨List.mem_of_find?_eq_some h,by simpa using List.find?_some h⟩
theorem find_none {P:Pq}{w:Int}(h:P.find? (λt=>decide (t.1=w))=none):w∉P.map (·.1):=λhm=>by obtain⟨t,ht,e⟩:=af.mp hm;have:=List.find?_eq_none.mp h t ht;simp[e] at this
theorem sx (P:Pq)(w:Int):d5 (k8 P) (.inl w)=(P.find? λt=>decide (t.1=w)).map λt=>wr t.2.1:=by
 induction P with
 | nil=>rfl
 | cons t r ih=>
  unfold d5 k8 at ih ⊢;rw[aH,cM,cM];have e:decide ((Sum.inl t.1:Key)=Sum.inl w)=decide (t.1=w):=tL _ _;simp only[e];cases decide (t.1=w) with
  | true=>rfl
  | false=>exact ih
theorem Dh {P:Pq}{w:Int}{e:Addr}{c:Pt}(h:w∉P.map (·.1)):iH (k8 P) (.inl w) (wr e)=k8 (P++ [(w,e,c)]):=by
 unfold iH;have:((k8 P).any λkv=>decide (kv.1=Sum.inl w))=false:=by rw[List.any_eq_false];intro kv A4;obtain⟨t,ht,rfl⟩:=af.mp A4;simp only[cq,Sum.inl.injEq];exact λew=>h (af.mpr ⟨t,ht,ew⟩)
 rw[this];unfold k8;rw[aN];rfl
def kG (P:Pq)(w:Int)(c:Pt):Pq:=P.map λu=>if u.1=w then(u.1,u.2.1,c) else u
theorem GO (P:Pq)(w:Int)(c:Pt):k8 (kG P w c)=k8 P:=by unfold k8 kG;rw[aD];apply bF;intro t _;simp only[Function.comp];split<;>rfl
theorem v8 (P:Pq)(w:Int)(c:Pt):(kG P w c).map (λt=>t.2.1)=P.map λt=>t.2.1:=by unfold kG;rw[aD];apply bF;intro t _;simp only[Function.comp];split<;>rfl
theorem vp (P:Pq)(w:Int)(c:Pt):(kG P w c).map (·.1)=P.map (·.1):=by unfold kG;rw[aD];apply bF;intro t _;simp only[Function.comp];split<;>rfl
theorem hV (t:Int×Addr×Pt)(P:Pq)(w:Int):pf (t::P) w=if t.1=w then t.2.2 else pf P w:=by
 unfold pf;rw[cM];by_cases e:t.1=w
 ·simp[e]
 ·simp[e]
theorem zb {P:Pq}{w:Int}{c:Pt}(v:Int)(h:w∈P.map (·.1)):pf (kG P w c) v=if v=w then c else pf P v:=by
 induction P with
 | nil=>cases h
 | cons t r ih=>
  show pf ((if t.1=w then(t.1,t.2.1,c) else t)::kG r w c) v=_;by_cases e:t.1=w
  ·rw [ak e,hV,hV];by_cases ev:v=w
   ·rw[ak (show t.1=v by rw[ev,e]),ak ev]
   ·rw [aj (show ¬t.1=v from λz=>ev (z.symm.trans e)),aj ev,aj (show ¬t.1=v from λz=>ev (z.symm.trans e))];by_cases hr:w∈r.map (·.1)
    ·rw[ih hr,aj ev]
    ·have:kG r w c=r:=by unfold kG;refine(bF (g:=id) λu hu=> ?_).trans (List.map_id r);exact aj λeu=>hr (af.mpr ⟨u,hu,eu⟩)
     rw[this]
  ·rw[aj e,hV,hV];have hr:w∈r.map (·.1):=by
    rcases av.mp (show w∈t.1::r.map (·.1) from h) with z | z
    ·exact absurd z.symm e
    ·exact z
   by_cases ev:t.1=v
   ·rw[ak ev,ak ev,aj (λz=>e (ev.trans z))]
   ·rw[aj ev,aj ev,ih hr]
theorem xm {P:Pq}{w:Int}{e:Addr}{c:Pt}(v:Int)(h:w∉P.map (·.1)):pf (P++ [(w,e,c)]) v=if v=w then c else pf P v:=by
 induction P with
 | nil=>
  rw[List.nil_append,hV];by_cases ev:v=w
  ·rw[ak ev.symm,ak ev]
  ·rw[aj (a5 ev),aj ev]
 | cons t r ih=>
  rw[List.cons_append,hV,hV];have hr:w∉r.map (·.1):=λz=>h (aw _ z);by_cases ev:t.1=v
  ·rw[ak ev,ak ev,aj (λz=>h (by rw[<- z, <- ev];exact aE))]
  ·rw[aj ev,aj ev,ih hr]
theorem oA {P:Pq}{w:Int}(h:w∉P.map (·.1)):pf P w= []:=by
 unfold pf;cases e:P.find? (λt=>decide (t.1=w)) with
 | none=>rfl
 | some t=>obtain⟨h1,h2⟩:=find_some e;exact absurd (af.mpr ⟨t,h1,h2⟩) h
theorem o9 {P:Pq}(h:(P.map (·.1)).Nodup){t:Int×Addr×Pt}(ht:t∈P):pf P t.1=t.2.2:=by
 induction P with
 | nil=>cases ht
 | cons u r ih=>
  rw[aH,bw] at h;rw[hV];rcases av.mp ht with rfl | lY
  ·rw[ak rfl]
  ·rw[aj (λe=>h.1 (af.mpr ⟨t,lY,e.symm⟩))];exact ih h.2 lY
section
variable {p:Int}{M M':Mp}{rl rp:Addr}{a:Pt}{P:Pq}
theorem cL.same (h:cL p M rl rp a P)(hk: ∀d∈bL rl rp P,M' d=M d):cL p M' rl rp a P:=⟨(hk rl (by simp[bL])).trans h.lam,(hk rp (by simp[bL])).trans h.par,λt ht=>(hk _ (by simp only[bL,av,af];exact .inr (.inr ⟨t,ht,rfl⟩))).trans (h.zy t ht),h.ga,h.gp,h.mK,h.Jm⟩
theorem cL.mem (h:cL p M rl rp a P){d:Addr}(hd:d∈bL rl rp P): ∃kvs,M d=some (.dK kvs):=by
 simp only[bL,av,af] at hd;rcases hd with rfl | rfl | ⟨t,ht,rfl⟩
 ·exact⟨_,h.lam⟩
 ·exact⟨_,h.par⟩
 ·exact⟨_,h.zy t ht⟩
theorem cL.keep (h:cL p M rl rp a P){L:List Addr}(hk:d9 M M' L)(hd: ∀d∈bL rl rp P,d∉L):cL p M' rl rp a P:=h.same λd kh=>by obtain⟨kvs,e⟩:=h.mem kh;rw[e];exact hk d _ e (hd d kh)
theorem cL.T7 (h:cL p M rl rp a P){c:Pt}(gc:GD p c):cL p (um M rl (.dK (eY c))) rl rp c P:=by
 have nd:=bw.mp h.Jm;refine⟨um_same,?_,λt ht=> ?_,gc,h.gp,h.mK,h.Jm⟩
 ·rw[aJ (λe=>nd.1 (by rw[<- e];exact aE))];exact h.par
 ·rw[aJ (λe=>nd.1 (by rw[<- e];exact aw _ (af.mpr ⟨t,ht,rfl⟩)))];exact h.zy t ht
theorem cL.set (h:cL p M rl rp a P){t:Int×Addr×Pt}(ht:t∈P){c:Pt}(gc:GD p c):cL p (um M t.2.1 (.dK (eY c))) rl rp a (kG P t.1 c):=by
 have nd:=bw.mp h.Jm;have RN:=bw.mp nd.2;have ea:bL rl rp (kG P t.1 c)=bL rl rp P:=by unfold bL;rw[v8]
 refine⟨?_,?_,λu hu=> ?_,h.ga,λu hu=> ?_,by rw[vp];exact h.mK,by rw[ea];exact h.Jm⟩
 ·rw[aJ (λe=>nd.1 (by rw[e];exact aw _ (af.mpr ⟨t,ht,rfl⟩)))];exact h.lam
 ·rw[aJ (λe=>RN.1 (by rw[e];exact af.mpr ⟨t,ht,rfl⟩)),GO];exact h.par
 ·obtain⟨v,hv,rfl⟩:=af.mp hu;by_cases e:v.1=t.1
  ·rw[ak e];have:v=t:=fV h.mK hv ht e;rw[this];exact um_same
  ·rw[aj e,aJ (λea=> ?_)]
   ·exact h.zy v hv
   ·exact e (by rw[fV RN.2 hv ht ea])
 ·obtain⟨v,hv,rfl⟩:=af.mp hu;split
  ·exact gc
  ·exact h.gp v hv
theorem cL.new (h:cL p M rl rp a P){w:Int}{e:Addr}{c:Pt}(he:M e=none)(hw:w∉P.map (·.1))(gc:GD p c):cL p (um (um M e (.dK (eY c))) rp (.dK (k8 (P++ [(w,e,c)])))) rl rp a (P++ [(w,e,c)]):=by
 have nd:=bw.mp h.Jm;have RN:=bw.mp nd.2;have ne: ∀d∈bL rl rp P,d≠e:=λd hd z=>by obtain⟨kvs,q⟩:=h.mem hd;rw[z,he] at q;cases q
 have erl:=ne rl (by simp[bL]);have erp:=ne rp (by simp[bL]);have ein: ∀t∈P,t.2.1≠e:=λt ht=>ne _ (by simp only[bL,av,af];exact .inr (.inr ⟨t,ht,rfl⟩));refine⟨?_,um_same,λu hu=> ?_,h.ga,λu hu=> ?_,?_,?_⟩
 ·rw[aJ (λz=>nd.1 (by rw[z];exact aE)),aJ erl];exact h.lam
 ·rcases ax.mp hu with hu | hu
  ·rw[aJ (λz=>RN.1 (by rw[<- z];exact af.mpr ⟨u,hu,rfl⟩)),aJ (ein u hu)];exact h.zy u hu
  ·rw[ah.mp hu,aJ (a5 erp),um_same]
 ·rcases ax.mp hu with hu | hu
  ·exact h.gp u hu
  ·rw[ah.mp hu];exact gc
 ·rw[aN];refine List.nodup_append.mpr ⟨h.mK,by simp,λx hx y hy=> ?_⟩;simp at hy;subst hy;exact λz=>hw (z▸hx)
 ·have:bL rl rp (P++ [(w,e,c)])=bL rl rp P++ [e]:=by unfold bL;rw[aN];rfl
  rw[this];refine List.nodup_append.mpr ⟨h.Jm,by simp,λx hx y hy=> ?_⟩;simp at hy;subst hy;exact ne x hx
end
def p9 (R S:Addr)(M:Mp)(o ol op:Addr):Prop:=(∃d,M o=some (.ins R d [("lamps",wr ol),("parts",wr op)])) \/ ∃d f g e,M o=some (.ins S d [("lamps",wr ol),("parts",wr op),("first",f),("length",g),("foot",e)])
theorem p9.keep {R S:Addr}{M M':Mp}{o ol op:Addr}{L:List Addr}(h:p9 R S M o ol op)(k:d9 M M' L)(n:o∉L):p9 R S M' o ol op:=h.imp (λ⟨d,e⟩=>⟨d,k _ _ e n⟩) λ⟨d,f,g,e',e⟩=>⟨d,f,g,e',k _ _ e n⟩
def Jk (R S:Addr):kb:=λxs M q=> ∃ (r rl rp o ol op:Addr) (p s sh n:Int) (a b:Pt) (P Q:Pq) (B C:Nat),xs= [wi p,wi s,wr r,wr o,wi sh,wi n] /\ p9 R S M r rl rp /\ p9 R S M o ol op /\ 0<p /\ p<1000 /\ 0<=s /\ s<2 ^ 30 /\ NZ p n /\cL p M rl rp a P /\ cL p M ol op b Q /\ (∀x∈bL rl rp P,x∉bL ol op Q) /\ a.length+b.length<=16000000 /\ P.length+Q.length<=16000000 /\ (∀t∈P,t.2.2.length<=B) /\ (∀t∈Q,t.2.2.length<=C) /\ B+C<=16000000 /\∀ M' c P',cL p M' rl rp c P' ->(∀x,look c x=(look a x+look b (x - s*sh)*n) % p) ->(∀w x,look (pf P' w) x=(look (pf P w) x+look (pf Q w) (x - sh)*n) % p) ->d9 M M' (bL rl rp P) ->(∀x∈bL rl rp P',x∈bL rl rp P \/ M x=none) ->(∀x∈bL rl rp P,x∈bL rl rp P') ->c.length<=a.length+b.length ->P'.length<=P.length+Q.length ->(∀t∈P',t.2.2.length<=B+C) ->(∀w∈P'.map (·.1),w∈P.map (·.1) \/ w∈Q.map (·.1)) ->q wn M'
theorem za {Q:Pq}{i:Nat}{t:Int×Addr×Pt}(hn:(Q.map (·.1)).Nodup)(h:Q[i]? =some t)(w:Int):pf (Q.take (i+1)) w=if w=t.1 then t.2.2 else pf (Q.take i) w:=by
 have UG:t.1∉(Q.take i).map (·.1):=λhm=>by rw[List.map_take] at hm;obtain⟨j,hj,e⟩:=List.mem_iff_getElem.mp hm;rw[a6,aa] at hj;rw[List.getElem_take] at e;obtain⟨hi,e2⟩:=ag.mp h;have:=bj.mp hn j i (by simp;lia) (by simpa using hi) (by lia);apply this;rw[e];simp[e2]
 rw[bD,h];obtain⟨t1,t2,t3⟩:=t;exact xm w UG
theorem Ct {Q:Pq}{i:Nat}{t:Int×Addr×Pt}(hn:(Q.map (·.1)).Nodup)(h:Q[i]? =some t):t.1∉(Q.take i).map (·.1):=λhm=>by rw[List.map_take] at hm;obtain⟨j,hj,e⟩:=List.mem_iff_getElem.mp hm;rw[a6,aa] at hj;rw[List.getElem_take] at e;obtain⟨hi,e2⟩:=ag.mp h;have:=bj.mp hn j i (by simp;lia) (by simpa using hi) (by lia);apply this;rw[e];simp[e2]
theorem GD.nil {p:Int}:GD p []:=⟨List.nodup_nil,λz hz=>by cases hz⟩
theorem eN {p:Int}{m:Pt}(p0:0<p)(h:GD p m)(x:Int):look m x % p=look m x:=cW (h.range p0 x).1 (h.range p0 x).2
theorem cL.Dw {p:Int}{M:Mp}{rl rp:Addr}{a:Pt}{P:Pq}(h:cL p M rl rp a P)(w:Int):GD p (pf P w):=by
 unfold pf;cases e:P.find? (λt=>decide (t.1=w)) with
 | none=>exact GD.nil
 | some t=>exact h.gp t (find_some e).1
def l9 (a:Int)(n:Nat):List Int:=(List.range n).map λ(k:Nat)=>a - (k:Int)
def wO (a:Int)(n:Nat):List Int:=(List.range n).map λ(k:Nat)=>a+(k:Int)
def qg (ns:List Int)(len:Int):List Int:=if len=0 \/ ns= [] then ns else l9 (ns.getLastD 0) (ns.getLastD 0 - (len - 1)).toNat++wO (ns.headD 0) (0 - ns.headD 0).toNat
def To:kb:=λxs M q=> ∃ (f:Addr) (ns:List Int) (len:Int),xs= [wr f,wi len] /\ M f=some (.lst (ns.map wi)) /\ 0<=len /\ len<4000000 /\ ns.length<=16000000 /\ (∀x∈ns, -4000000<x /\ x<4000000) /\ ∀p M',Sm M M' ->M' p=some (.lst ((qg ns len).map wi)) ->q (wr p) M'
end WQ
namespace WL
open PySem L2
theorem Cm {M:Mp}{x:Addr}{l:List W}{k:Bool ->Prop}(h:M x=some (.lst l)):KG M (.v (.ref x)) k=k (!l.isEmpty):=by
 apply propext;constructor
 ·rintro⟨b,⟨l',h1,h2⟩ | ⟨l',h1,_⟩,z⟩
  ·rw[h] at h1;cases h1;rw[h2] at z;exact z
  ·rw[h] at h1;cases h1
 ·intro z;exact⟨_, .inl ⟨l,h,rfl⟩,z⟩
theorem B9 {a:WA}{ρ:dm}{M:Mp}{q:WK}:Ca a ρ M q=a ρ M λxs M1=> ∃i j:Int,xs= [wi i,wi j,wi (-1)] /\ yj i j (-1) /\ (i - j).toNat<=16000000 /\ px M1 λl=>q (wr l) (um M1 l (.lst (zO i (i - j).toNat))):=rfl
end WL
namespace WQ
open PySem L2 WL WP
theorem jV {l:List Int}(h:l≠ []):l.getLastD 0∈l:=by
 induction l using WP.fX with
 | h0=>exact absurd rfl h
 | h1 l a _=>simp
def iD (len h:Int):Int:=if h<0 then h else h - len
structure Hs (hs:List Int)(len:Int):Prop where
 out: ∀h∈hs,h<0 \/ len<=h
 ord: ∀ (i j:Nat) h g,j<i ->hs[i]? =some h ->hs[j]? =some g ->¬(0<=g - iD len h /\ g - iD len h<=len)
 clo: ∀h∈hs, ∀y,iD len h<=y ->y<=iD len h+len ->y∈hs \/ (0<=y /\ y<len)
theorem jU {a x:Int}{n:Nat}:x∈l9 a n↔a - n<x /\ x<=a:=by
 unfold l9;rw[af];constructor
 ·rintro⟨k,hk,rfl⟩;have:=List.mem_range.mp hk;lia
 ·rintro⟨h1,h2⟩;exact⟨(a - x).toNat,List.mem_range.mpr (by lia),by lia⟩
theorem lQ {a x:Int}{n:Nat}:x∈wO a n↔a<=x /\ x<a+n:=by
 unfold wO;rw[af];constructor
 ·rintro⟨k,hk,rfl⟩;have:=List.mem_range.mp hk;lia
 ·rintro⟨h1,h2⟩;exact⟨(x - a).toNat,List.mem_range.mpr (by lia),by lia⟩
theorem v7 {a x:Int}{n i:Nat}(h:(l9 a n)[i]? =some x):i<n /\ x=a - i:=by
 unfold l9 at h;rw[aA] at h;by_cases hi:i<n
 ·rw[List.getElem?_range hi] at h;cases h;exact⟨hi,rfl⟩
 ·rw[cZ (by simp;lia)] at h;cases h
theorem Fw {a x:Int}{n i:Nat}(h:(wO a n)[i]? =some x):i<n /\ x=a+i:=by
 unfold wO at h;rw[aA] at h;by_cases hi:i<n
 ·rw[List.getElem?_range hi] at h;cases h;exact⟨hi,rfl⟩
 ·rw[cZ (by simp;lia)] at h;cases h
theorem zB {l:List Int}(h:l.Pairwise (· <= ·)): ∀x∈l,l.headD 0<=x:=by
 cases l with
 | nil=>intro x hx;cases hx
 | cons a r=>
  intro x hx;rcases av.mp hx with rfl | hx
  ·exact aV _
  ·exact(bT.mp h).1 x hx
theorem Cq {ns:List Int}{len:Int}(l0:0<=len)(hs:ns.Pairwise (· <= ·))(hn:ns.Nodup):Hs (qg ns len) len /\ ∀y∈ns,y∈qg ns len \/ (0<=y /\ y<len):=by
 unfold qg;by_cases hc:len=0 \/ ns= []
 ·rw [ak hc];rcases hc with hz | hz
  ·subst hz;refine⟨⟨λh _=>by lia,λi j h g Qw hi hj=> ?_,λh hh y h1 h2=> .inl ?_⟩,λy hy=> .inl hy⟩
   ·have c8:g≠h:=λe=>by obtain⟨a1,a2⟩:=ag.mp hi;obtain⟨b1,b2⟩:=ag.mp hj;exact bj.mp hn j i b1 a1 Qw (by rw[a2,b2,e])
    unfold iD;split<;>lia
   ·have:y=h:=by unfold iD at h1 h2;split at h1<;>lia
    rw[this];exact hh
  ·subst hz;exact⟨⟨(λh hh=>nomatch hh),(λi j h g _ hi _=>by simp at hi),(λh hh=>nomatch hh)⟩,(λy hy=>nomatch hy)⟩
 ·rw [aj hc];have hl:0<len:=by have:=λe=>hc (.inl e);lia
  have c8:ns≠ []:=λe=>hc (.inr e);have JJ:=zm hs c8;have JM:=zB hs;generalize ns.getLastD 0=b at JJ;generalize ns.headD 0=a at JM;have mem: ∀x,x∈l9 b (b - (len - 1)).toNat++wO a (0 - a).toNat↔(len<=x /\ x<=b) \/ (a<=x /\ x<0):=λx=>by rw[ax,jU,lQ];constructor<;>(intro h;lia)
  refine⟨⟨λh hh=> ?_,λi j h g Qw hi hj=> ?_,λh hh y h1 h2=> ?_⟩,λy hy=> ?_⟩
  ·rw[mem] at hh;lia
  ·rw [List.getElem?_append] at hi hj;unfold iD;split at hi
   ·obtain⟨_,e1⟩:=v7 hi;split at hj
    ·obtain⟨_,e2⟩:=v7 hj;have:=(jU (a:=b) (x:=h) (n:=(b - (len - 1)).toNat)).mp (ai hi);split<;>lia
    ·rename_i q1 q2;lia
   ·obtain⟨r1,e1⟩:=Fw hi;split at hj
    ·have:=(jU (a:=b) (x:=g) (n:=(b - (len - 1)).toNat)).mp (ai hj);split<;>lia
    ·obtain⟨_,e2⟩:=Fw hj;split<;>lia
  ·rw[mem] at hh ⊢;unfold iD at h1 h2;split at h1<;>lia
  ·rw[mem];have:=JJ.2 y hy;have:=JM y hy;lia
structure yi (s p:Int)(b:Pt)(f len foot:Int):Prop where
 ok:iU s f
 l0:0<=len
 s0:s=0 ->len=0
 ge: ∀x,look b x≠0 ->f<=bM s x
 n9: ∀x,look b x≠0 ->bM s x=f ->0<=hI s x /\ hI s x<=len
 top:look b (f+len*s)=1
 bot:look b f*foot % p=1
 ft:0<foot /\ foot<p
theorem vW {s:Int}(x k:Int):bM s (x+k*s)=bM s x:=by
 unfold bM;split
 ·rename_i e;subst e;simp
 ·rw[Int.add_mul_emod_self_right]
theorem oC {s:Int}(h:s≠0)(x k:Int):hI s (x+k*s)=hI s x+k:=by unfold hI;rw[aj h,aj h,Int.add_mul_ediv_right _ _ h]
theorem l4 {s f:Int}(ok:iU s f)(h:s≠0)(k:Int):hI s (f+k*s)=k:=by
 rw[oC h];have:hI s f=0:=by
  unfold hI;rw[aj h];rcases ok with z | ⟨z1,z2⟩
  ·exact absurd z h
  ·exact Int.ediv_eq_zero_of_lt z1 z2
 rw[this,bP]
theorem nk {s f x:Int}(s0:0<=s)(e:bM s x=f):x=f+hI s x*s:=by
 rcases Int.lt_or_eq_of_le s0 with h | h
 ·have:=Bo (x:=x) h;rw[e] at this;rw[bK];exact this
 ·subst h;have:x=f:=e;rw[this];simp
def dv (g:Int ->Int)(js:List (Int×Int)):Int:=js.foldr (λj r=>g j.1*j.2+r) 0
theorem cf (g:Int ->Int)(j:Int×Int)(js:List (Int×Int)):dv g (j::js)=g j.1*j.2+dv g js:=rfl
theorem qQ {p n:Int}(hp:p=2 \/ p=3 \/ p=5 \/ p=7)(hn:n % p≠0):NZ p n:=by
 intro y y0 y1 e;have e2:y*(n % p) % p=0:=by rw[bZ,Int.emod_emod_of_dvd _ (Int.dvd_refl p), <- bZ];exact e
 have r0:=cN n (show p≠0 by lia);have r1:=cz n (show 0<p by lia);generalize n % p=r at hn e2 r0 r1;have key: ∀p∈([2,3,5,7]:List Nat), ∀y∈List.range p, ∀r∈List.range p,y≠0 ->r≠0 ->y*r % p≠0:=by decide
 obtain⟨p',rfl⟩:=Int.eq_ofNat_of_zero_le (show 0<=p by lia);obtain⟨y',rfl⟩:=Int.eq_ofNat_of_zero_le (show 0<=y by lia);obtain⟨r',rfl⟩:=Int.eq_ofNat_of_zero_le r0;refine key p' (by simp;lia) y' (List.mem_range.mpr (by lia)) r' (List.mem_range.mpr (by lia)) (by lia) (by lia) ?_;have:((y'*r' % p':Nat):Int)=0:=by push_cast;exact e2
 lia
structure mH (s p f len:Int)(b a:Pt)(hs:List Int)(i:Nat)(c:Pt)(js:List (Int×Int)):Prop where
 rel: ∀x,look c x=(look a x+dv (λsh=>look b (x - s*sh)) js) % p
 Wm: ∀ (j:Nat) g,j<i ->hs[j]? =some g ->look c (f+g*s)=0
 sup: ∀x,bM s x=f ->look c x≠0 ->hI s x∈hs \/ (0<=hI s x /\ hI s x<len)
 LG: ∀x,bM s x<f ->look c x=look a x
section
variable {s p f len foot:Int}{b a c:Pt}{hs:List Int}{i:Nat}{js:List (Int×Int)}{h:Int}
theorem mH.skip (st:mH s p f len b a hs i c js)(hh:hs[i]? =some h)(hz:look c (f+h*s)=0):mH s p f len b a hs (i+1) c js:=⟨st.rel,λj g hj hg=>by
 rcases Nat.lt_or_ge j i with z | z
 ·exact st.Wm j g z hg
 ·have:j=i:=by lia
  subst this;rw[hh] at hg;cases hg;exact hz,st.sup,st.LG⟩
theorem gf (s x sh:Int):bM s (x - s*sh)=bM s x:=by have:=vW (s:=s) x (-sh);rw[show x+ -sh*s=x - s*sh by rw[Int.neg_mul,bK s sh];lia] at this;exact this
theorem jE {s:Int}(hs:s≠0)(x sh:Int):hI s (x - s*sh)=hI s x - sh:=by have:=oC hs x (-sh);rw[show x+ -sh*s=x - s*sh by rw[Int.neg_mul,bK s sh];lia] at this;rw[this];lia
theorem mH.step {c':Pt}{n:Int}(F:yi s p b f len foot)(H:Hs hs len)(s0:0<=s)(p0:0<p)(xP:s=0 -> ∀h∈hs,h=0)(gc:GD p c)(Sy:GD p c')(st:mH s p f len b a hs i c js)(hh:hs[i]? =some h) (hn:n=if h<0 then -(look c (f+h*s))*foot else -(look c (f+h*s))) (e: ∀x,look c' x=(look c x+look b (x - s*iD len h)*n) % p):mH s p f len b a hs (i+1) c' ((iD len h,n)::js):=by
 have hm:=ai hh;have quiet: ∀x,look b (x - s*iD len h)=0 ->look c' x=look c x:=λx hx=>by rw[e,hx,bG,bu,eN p0 gc]
 have here:look c' (f+h*s)=0:=by
  rw[e,hn];by_cases jq:h<0
  ·rw[ak jq];have e1:f+h*s - s*iD len h=f:=by unfold iD;rw[ak jq,bK s h];lia
   rw[e1];generalize look c (f+h*s)=v;have e2:v+look b f*(-v*foot)=v - v*(look b f*foot):=by rw[Int.neg_mul,Int.mul_neg, <- Int.mul_assoc,bK (look b f) v,Int.mul_assoc];lia
   rw[e2,Int.sub_emod,bZ,F.bot];rw[Int.mul_one,Int.emod_emod_of_dvd _ (Int.dvd_refl p),Int.sub_self];rfl
  ·rw[aj jq];have e1:f+h*s - s*iD len h=f+len*s:=by unfold iD;rw[aj jq,bK s (h - len),Int.sub_mul];lia
   rw[e1,F.top,Int.one_mul];rw[show look c (f+h*s)+ -look c (f+h*s)=0 by lia];rfl
 refine⟨λx=> ?_,λj g hj hg=> ?_,λx hx c8=> ?_,λx hx=> ?_⟩
 ·rw[e,st.rel,Int.emod_add_emod,cf,Int.add_assoc,Int.add_comm (dv _ js)]
 ·rcases Nat.lt_or_ge j i with z | z
  ·rw [quiet]
   ·exact st.Wm j g z hg
   ·by_cases c8:look b (f+g*s - s*iD len h)=0
    ·exact c8
    ·exfalso;have qp:bM s (f+g*s - s*iD len h)=f:=by rw[gf,F.ok.on]
     have hr:=F.n9 _ c8 qp;by_cases uq:s=0
     ·have g0:=xP uq g (ai hg);have h0:=xP uq h hm;have:=H.ord i j h g z hh hg;have l0:=F.s0 uq;subst l0;rw[g0,h0] at this;exact this (by unfold iD;simp)
     ·rw[jE uq,l4 F.ok uq] at hr;exact H.ord i j h g z hh hg hr
  ·have:j=i:=by lia
   subst this;rw[hh] at hg;cases hg;exact here
 ·by_cases hb:look b (x - s*iD len h)=0
  ·rw[quiet x hb] at c8;exact st.sup x hx c8
  ·have qp:bM s (x - s*iD len h)=f:=by rw[gf];exact hx
   have hr:=F.n9 _ hb qp;by_cases uq:s=0
   ·have h0:=xP uq h hm;have:hI s x=0:=by unfold hI;rw[ak uq]
    left;rw[this, <- h0];exact hm
   ·rw[jE uq] at hr;exact H.clo h hm _ (by lia) (by lia)
 ·rw [quiet x]
  ·exact st.LG x hx
  ·by_cases hb:look b (x - s*iD len h)=0
   ·exact hb
   ·have:=F.ge _ hb;rw[gf] at this;lia
theorem mH.low (st:mH s p f len b a hs hs.length c js)(s0:0<=s): ∀x,bM s x=f ->look c x≠0 ->0<=hI s x /\ hI s x<len:=λx hx c8=>by
 rcases st.sup x hx c8 with z | z
 ·exfalso;obtain⟨j,hj⟩:=bA.mp z;have:=st.Wm j _ (ag.mp hj).1 hj;rw[<- nk s0 hx] at this;exact c8 this
 ·exact z
end
def Wt (Z:Int)(m:Pt):Prop:= ∀x,look m x≠0 -> -Z<=x /\ x<=Z
theorem Wt.len {p Z:Int}{m:Pt}(g:GD p m)(h:Wt Z m)(z0:0<=Z):m.length<=(2*Z+1).toNat:=by
 have:=gA (l:=wO (-Z) (2*Z+1).toNat) g.1 λk hk=>by
  obtain⟨z,hz,rfl⟩:=af.mp hk;have c8:look m z.1≠0:=by rw[gL g.1 hz];have:=g.2 z hz;lia
  have:=h z.1 c8;exact lQ.mpr (by lia)
 rw[aa] at this;unfold wO at this;rw[aa,cV] at this;exact this
theorem jY {s f:Int}{ns:List Int}(hn:ns.Nodup)(s0:0<=s):(nE s f ns).Nodup:=by
 unfold nE;have h2:(ns.filter λx=>decide (bM s x=f)).Nodup:=hn.sublist List.filter_sublist;refine List.Pairwise.map _ (R:=λx y=>x≠y /\ bM s x=f /\ bM s y=f) (λx y h e=> ?_) ?_
 ·exact h.1 (by rw[nk s0 h.2.1,nk s0 h.2.2,e])
 ·refine List.Pairwise.imp_of_mem (λ{x y} hx hy h=>⟨h,?_,?_⟩) h2
  ·simpa using(aP.mp hx).2
  ·simpa using(aP.mp hy).2
def CJ (s p f len foot:Int)(b:Pt)(g:Int ->Int)(h:Int):Int ->Int:=if g (f+h*s)=0 then g else λx=>(g x+look b (x - s*iD len h)*(if h<0 then -(g (f+h*s))*foot else -(g (f+h*s)))) % p
def Fh (s p f len foot:Int)(b:Pt)(hs:List Int)(g:Int ->Int):Int ->Int:=hs.foldl (CJ s p f len foot b) g
theorem rM {s p f len foot:Int}{b:Pt}{hs:List Int}{g:Int ->Int}{i:Nat}{h:Int}(e:hs[i]? =some h):Fh s p f len foot b (hs.take (i+1)) g=CJ s p f len foot b (Fh s p f len foot b (hs.take i) g) h:=by unfold Fh;rw[bD,e,List.foldl_append];rfl
theorem Ie {P:Pq}{B:Int}(h: ∀t∈P,Wt B t.2.2)(w:Int):Wt B (pf P w):=by
 unfold pf;cases e:P.find? (λu=>decide (u.1=w)) with
 | none=>intro x hx;exact absurd rfl hx
 | some u=>exact h u (find_some e).1
theorem Wt.up {Z Z':Int}{m:Pt}(h:Wt Z m)(l:Z<=Z'):Wt Z' m:=λx hx=>by have:=h x hx;lia
def Ts (R S:Addr):kb:=λxs M q=> ∃ (r rl rp o ds ol op:Addr) (p s f len foot:Int) (a b:Pt) (P Q:Pq) (B C Z D:Int),xs= [wi p,wi s,wr r,wr o] /\ p9 R S M r rl rp /\M o=some (.ins S ds [("lamps",wr ol),("parts",wr op),("first",wi f),("length",wi len),("foot",wi foot)]) /\ (p=2 \/ p=3 \/ p=5 \/ p=7) /\ 0<=s /\ s<=8 /\ len<3000000 /\ yi s p b f len foot /\ cL p M rl rp a P /\ cL p M ol op b Q /\ (∀x∈bL rl rp P,x∉bL ol op Q) /\Wt Z a /\ Wt D b /\ 0<=Z /\ Z<=1000000 /\ 0<=D /\ D<=1000000 /\ (∀t∈P,Wt B t.2.2) /\ (∀t∈Q,Wt C t.2.2) /\ 0<=B /\ B<=1000000 /\ 0<=C /\ C<=1000000 /\ P.length+Q.length<=1000 /\∀ M' c P' js,cL p M' rl rp c P' ->(∀x,look c x=(look a x+dv (λsh=>look b (x - s*sh)) js) % p) ->(∀w x,look (pf P' w) x=(look (pf P w) x+dv (λsh=>look (pf Q w) (x - sh)) js) % p) ->(s=0 -> ∀j∈js,j.1=0) ->(∀x,bM s x=f ->look c x≠0 ->0<=hI s x /\ hI s x<len) ->(∀x,bM s x<f ->look c x=look a x) ->Wt (Z+D+s) c ->d9 M M' (bL rl rp P) ->(∀x∈bL rl rp P',x∈bL rl rp P \/ M x=none) ->(∀x∈bL rl rp P,x∈bL rl rp P') ->(∀t∈P',Wt (max B (C+Z+1)) t.2.2) ->(∀w∈P'.map (·.1),w∈P.map (·.1) \/ w∈Q.map (·.1)) ->(∃ms:List Int,ms.Perm (nE s f (dN a)) /\ ms.Pairwise (· <= ·) /\ look c=Fh s p f len foot b (qg ms len) (look a) /\ ∀j∈js, ∃h∈qg ms len,j.1=iD len h) ->(∀j∈js, -Z - 1<=j.1 /\ j.1<=Z) ->q wn M'
theorem En {P P' Q:Pq}(hn:(P'.map (·.1)).Nodup)(h: ∀w∈P'.map (·.1),w∈P.map (·.1) \/ w∈Q.map (·.1)):P'.length<=P.length+Q.length:=by have:=gA (l:=P.map (·.1)++Q.map (·.1)) hn λk hk=>ax.mpr (h k hk);rw[aa,aL,aa,aa] at this;exact this
theorem lS (a:Pt):(eY a).map (λkv=>eZ kv.1)=(dN a).map wi:=by unfold eY dN;rw[aD,aD];rfl
theorem QP {s f x Z:Int}(s0:0<=s)(s8:s<=8)(h: -Z<=x /\ x<=Z)(z0:0<=Z): -Z - 1<=hI s x /\ hI s x<=Z:=by
 unfold hI;split
 ·lia
 ·rename_i hs;have R9:1<=s:=by lia
  have h1:=Int.emod_add_mul_ediv x s;have h2:=cN x hs;have h3:=cz x (show 0<s by lia);generalize x / s=y at h1;generalize x % s=m at h1 h2 h3;constructor
  ·rcases Int.lt_or_le y (-Z - 1) with q | q
   ·have:s*y<=s*(-Z - 2):=aZ (by lia) (by lia);have e:s*(-Z - 2)= -(s*Z) - 2*s:=by rw[Int.mul_sub,Int.mul_neg];lia
    have:Z<=s*Z:=by have:=bg R9 z0;lia
    lia
   ·exact q
  ·rcases Int.lt_or_le Z y with q | q
   ·have:s*(Z+1) <=s*y:=aZ (by lia) (by lia);have e:s*(Z+1)=s*Z+s:=by rw[Int.mul_add];lia
    have:Z<=s*Z:=by have:=bg R9 z0;lia
    lia
   ·exact q
theorem Cs {ns:List Int}{len h:Int}(l0:0<=len)(hh:h∈qg ns len):(h<0 -> ∃m∈ns,m<=h) /\ (0<=h -> ∃m∈ns,h<=m):=by
 unfold qg at hh;by_cases hc:len=0 \/ ns= []
 ·rw[ak hc] at hh;exact⟨λ_=>⟨h,hh,aV _⟩,λ_=>⟨h,hh,aV _⟩⟩
 ·rw[aj hc,ax,jU,lQ] at hh;have c8:ns≠ []:=λe=>hc (.inr e);have hl:0<len:=by have:=λe=>hc (.inl e);lia
  have h1:ns.getLastD 0∈ns:=jV c8;have h2:ns.headD 0∈ns:=by cases ns with | nil=>exact absurd rfl c8 | cons x r=>exact aE
  exact⟨λz=>⟨_,h2,by lia⟩,λz=>⟨_,h1,by lia⟩⟩
theorem Gi {ns:List Int}{len Z:Int}{n:Nat}(l0:0<=len)(z0:0<=Z)(hb: ∀x∈ns, -Z - 1<=x /\ x<=Z)(hn:ns.length<=n):(qg ns len).length<=max n (2*Z+2).toNat:=by
 unfold qg;by_cases hc:len=0 \/ ns= []
 ·rw[ak hc];lia
 ·rw[aj hc,aL];have c8:ns≠ []:=λe=>hc (.inr e);have hl:0<len:=by have:=λe=>hc (.inl e);lia
  have h1:ns.getLastD 0∈ns:=jV c8;have h2:ns.headD 0∈ns:=by cases ns with | nil=>exact absurd rfl c8 | cons x r=>exact aE
  have b1:=hb _ h1;have b2:=hb _ h2;unfold l9 wO;rw[aa,aa,cV,cV];lia
theorem xU {s x:Int}(s0:0<s):x - s<s*hI s x /\ s*hI s x<=x:=by unfold hI;rw[aj (by lia)];have h1:=Int.emod_add_mul_ediv x s;have h2:=cN x (show s≠0 by lia);have h3:=cz x s0;exact⟨by lia,by lia⟩
theorem cJ {m:Pt}{x:Int}(h:look m x≠0):x∈dN m:=by
 rcases j8 (m:=m) (x:=x) with⟨h1,h2,_⟩ | ⟨q,h1,h2⟩
 ·exact absurd h2 h
 ·have h3:=List.find?_some h1;have h4:=List.mem_of_find?_eq_some h1;refine af.mpr ⟨q,h4,?_⟩;first | exact of_decide_eq_true h3 | exact beq_iff_eq.mp h3 | simpa using h3
theorem dM {p:Int}{a:Pt}(ga:GD p a){x:Int}(h:x∈dN a):0<look a x /\ look a x<p:=by obtain⟨z,hz,rfl⟩:=af.mp h;rw[gL ga.1 hz];exact ga.2 z hz
theorem ub {s f h:Int}{a:Pt}(s0:0<=s)(hh:h∈nE s f (dN a)):f+h*s∈dN a /\ bM s (f+h*s)=f:=by
 obtain⟨x,hx,e⟩:=af.mp hh;have h1:=(aP.mp hx).1;have h2:bM s x=f:=by simpa using(aP.mp hx).2
 have h3:=nk s0 h2;rw[e] at h3;rw[<- h3];exact⟨h1,h2⟩
theorem jB {s f x:Int}{a:Pt}(h:x∈dN a)(e:bM s x=f):hI s x∈nE s f (dN a):=af.mpr ⟨x,aP.mpr ⟨h,by simpa using e⟩,rfl⟩
theorem tY {s x:Int}(s0:0<=s):iU s (bM s x):=by
 unfold iU bM;by_cases h:s=0
 ·exact .inl h
 ·rw[aj h];exact .inr ⟨cN _ h,cz _ (by lia)⟩
structure Mn (s f m t:Int)(a:Pt):Prop where
 mn:gT ((dN a).map (bM s)) f
 lo:m∈nE s f (dN a)
 hi:t∈nE s f (dN a)
 bd: ∀h∈nE s f (dN a),m<=h /\ h<=t
theorem Mn.ok {s f m t:Int}{a:Pt}(h:Mn s f m t a)(s0:0<=s):iU s f:=by obtain⟨x,_,e⟩:=af.mp h.mn.1;rw[<- e];exact tY s0
theorem uE {f t m s:Int}:f+(t - m)*s+s*m=f+t*s:=by rw[Int.sub_mul,bK s m];lia
theorem Au {s p f m t tn foot:Int}{a b:Pt}(p1:1<p)(s0:0<=s)(ga:GD p a)(N:Mn s f m t a)(Jy:tn*look a (f+t*s) % p=1)(e: ∀x,look b x=look a (x+s*m)*tn % p) (QC:foot*look b f % p=1) (f0:0<foot) (f1:foot<p):yi s p b f (t - m) foot:=by
 have lit: ∀x,look b x≠0 ->x+s*m∈dN a:=λx hx=>cJ λz=>hx (by rw[e,z,bG];rfl);have col: ∀x,bM s (x+s*m)=bM s x:=λx=>by rw[bK];exact vW x m
 refine⟨N.ok s0,by have:=N.bd _ N.lo;lia,λz=> ?_,λx hx=> ?_,λx hx hc=> ?_,?_,by rw[bK];exact QC,f0,f1⟩
 ·obtain⟨x,_,e1⟩:=af.mp N.lo;obtain⟨y,_,e2⟩:=af.mp N.hi;rw[<- e1, <- e2];unfold hI;rw[ak z,ak z];rfl
 ·rw[<- col x];exact N.mn.2 _ (af.mpr ⟨_,lit x hx,rfl⟩)
 ·have h1:=N.bd _ (jB (lit x hx) ((col x).trans hc));by_cases z:s=0
  ·have h2:=N.bd _ N.lo;unfold hI;rw[ak z];lia
  ·rw[bK,oC z] at h1;lia
 ·rw[e,uE,bK];exact Jy
theorem xa {s p f m t tn:Int}{a b:Pt}(s0:0<=s)(p0:0<p)(ga:GD p a)(N:Mn s f m t a)(nz:NZ p tn)(e: ∀x,look b x=look a (x+s*m)*tn % p):0<look b f /\ look b f<p:=by have h1:=dM ga (ub s0 N.lo).1;have h2:=nz _ h1.1 h1.2;rw[e,bK s m];have h3:=cN (look a (f+m*s)*tn) (show p≠0 by lia);have h4:=cz (look a (f+m*s)*tn) p0;lia
theorem PF {s:Int}{a:Pt}{ms:List Int}(c8:a≠ [])(c6:ms.Perm (nE s (eM ((dN a).map (bM s))) (dN a)))(gv:ms.Pairwise (· <= ·)): ms≠ [] /\ Mn s (eM ((dN a).map (bM s))) (ms.headD 0) (ms.getLastD 0) a:=by
 have rb:dN a≠ []:=λe=>c8 (List.map_eq_nil_iff.mp e);have mn:=fg (l:=(dN a).map (bM s)) (λe=>rb (List.map_eq_nil_iff.mp e));obtain⟨x,hx,e⟩:=af.mp mn.1;have mL:ms≠ []:=λz=>by have:=c6.mem_iff.mpr (jB hx e);rw[z] at this;cases this
 have hl:=zm gv mL;refine⟨mL,mn,c6.mem_iff.mp ?_,c6.mem_iff.mp (jV mL),λh hh=>⟨zB gv h (c6.mem_iff.mpr hh),hl.2 h (c6.mem_iff.mpr hh)⟩⟩;cases ms with | nil=>exact absurd rfl mL | cons x r=>exact aE
def Lf (R S:Addr):kb:=λxs M q=> ∃ (r dr rl rp:Addr) (p s:Int) (a:Pt) (P:Pq) (B:Nat) (D:Int),xs= [wi p,wi s,wr r] /\ M r=some (.ins R dr [("lamps",wr rl),("parts",wr rp)]) /\ (p=2 \/ p=3 \/ p=5 \/ p=7) /\ 0<=s /\ s<=8 /\ cL p M rl rp a P /\ a≠ [] /\ Wt D a /\ 0<=D /\ D<=2000000 /\(∀t∈P,t.2.2.length<=B) /\ B<=8000000 /\ P.length<=1000 /\∀ M' o ds ol op b Q f m t foot tn,M' o=some (.ins S ds [("lamps",wr ol),("parts",wr op),("first",wi f),("length",wi (t - m)),("foot",wi foot)]) ->cL p M' ol op b Q ->yi s p b f (t - m) foot ->Mn s f m t a ->0<tn ->tn<p ->tn*look a (f+t*s) % p=1 ->(∀x,look b x=look a (x+s*m)*tn % p) ->(∀w x,look (pf Q w) x=look (pf P w) (x+m)*tn % p) ->Sm M M' ->(∀x∈o::bL ol op Q,M x=none) ->(∀t∈Q,t.2.2.length<=B) ->(∀w∈Q.map (·.1),w∈P.map (·.1)) ->q (wr o) M'
end WQ
namespace WL
open PySem L2
theorem IV {p:Addr}{M M':Mp}{o:MO}(h:WQ.iT p M M'):WQ.iT p M (um M' p o):=λb u n e=>by rw[aJ n];exact h b u n e
theorem ye {α β:Type}{l:List α}{fW:α ->W}(gW:β ->W)(R:α ->List W ->Prop)(n:Nat){keep:Mp ->Prop}{M1:Mp}{own:Nat}{fr:List Nat}{ρ:dm}{g:WG}{c:WT}{vq:WI}{g2:WG}{c2:WT}{el:WE}{q:WK} (hz:l.length*n<sizeLine) (iN: ∀p M,M1 p=none ->WQ.iT p M1 M ->keep M) (hs: ∀a∈l, ∀p M ys,M1 p=none ->WQ.iT p M1 M ->M p=some (.lst ys) -> ∀ (B:dm ->List W ->(Mp ->Prop) ->Mp ->Prop) (N0:Mp ->Prop),(∀ρ2 fA (bs:List β) (eW:β ->W) M4,WQ.iT p M M4 ->M4 p=some (.lst ys) ->R a (bs.map eW) ->bs.length<=n ->(∀M',WQ.iT p M4 M' ->fA M') ->(∀b∈bs, ∀M',WQ.iT p M4 M' -> ∀N:Option W ->Mp ->Prop,N (some (eW b)) M' ->g2 (gW b) ρ2 M' λρ3 M5=>c2 ρ3 M5 λb M6=>gM b (el ρ3 M6 λz M7=>N (some z) M7) (N none M6)) ->B ρ2 (bs.map gW) fA M4) ->g (fW a) (capρ own fr ρ) M λρ2 M2=>c ρ2 M2 λb M3=>gM b (vq ρ2 M3 λuj fA M4=>B ρ2 uj fA M4) (N0 M3)) (hq: ∀p M (yss:List (List W)),M1 p=none ->WQ.iT p M1 M ->M p=some (.lst yss.flatten) ->yss.length=l.length ->(∀ (i:Nat) a zs,l[i]? =some a ->yss[i]? =some zs ->R a zs) ->q (wr p) M): tW (l.map fW) keep own fr g c vq g2 c2 el ρ M1 q:=by
 intro p hp;refine⟨λi ys M=>WQ.iT p M1 M /\ M p=some (.lst ys) /\ ∃yss:List (List W),yss.length=i /\ ys=yss.flatten /\ ys.length<=i*n /\ ∀ (j:Nat) a zs,l[j]? =some a ->yss[j]? =some zs ->R a zs,⟨IV (WQ.iT.refl p M1),um_same,[],rfl,rfl,cU _,λj a zs _ h=>by simp at h⟩,?_,?_,?_⟩
 ·rintro i ys M hi ⟨h1,h2,_⟩;exact⟨iN p M hp h1,h2⟩
 ·rintro i x ys M hx ⟨h1,h2,yss,h3,h4,h5,h6⟩;obtain⟨a,ha,rfl⟩:=kM hx;have FX:=(ag.mp ha).1;have gU:(i+1)*n<=l.length*n:=Nat.mul_le_mul_right _ FX;have Qz:(i+1)*n=i*n+n:=by rw[Nat.add_mul,Nat.one_mul]
  refine hs a (ai ha) p M ys hp h1 h2 (λρ2 uj fA M4=>LS uj fA g2 c2 el ρ2 p ys M4 _) (λM3=>_) ?_;intro ρ2 fA bs eW M4 k1 k2 k3 k4 k5 k6;refine⟨λj zs M'=>WQ.iT p M4 M' /\ M' p=some (.lst zs) /\ zs=ys++(bs.take j).map eW,⟨WQ.iT.refl p M4,k2,by simp⟩,?_,?_,?_⟩
  ·rintro j zs M' hj ⟨z1,z2,rfl⟩;refine⟨k5 M' z1,z2,?_⟩;rw[aL,aa,a6];lia
  ·rintro j y zs M' hy ⟨z1,z2,rfl⟩;obtain⟨b,hb,rfl⟩:=kM hy;have e2:bs.take (j+1)=bs.take j++ [b]:=by rw[bD,hb];rfl
   refine k6 b (ai hb) M' z1 (λo M5=>match o with
   | some z=>M5 p=some (.lst (ys++(bs.take j).map eW)) /\ (WQ.iT p M4 (um M5 p (.lst (ys++(bs.take j).map eW++ [z]))) /\ um M5 p (.lst (ys++(bs.take j).map eW++ [z])) p=some (.lst (ys++(bs.take j).map eW++ [z])) /\ ys++(bs.take j).map eW++ [z]=ys++(bs.take (j+1)).map eW)
   | none=>WQ.iT p M4 M5 /\ M5 p=some (.lst (ys++(bs.take j).map eW)) /\ ys++(bs.take j).map eW=ys++(bs.take (j+1)).map eW) ?_
   exact⟨z2,IV z1,um_same,by rw[e2,aN];simp⟩
  ·rintro zs M' ⟨z1,z2,rfl⟩;rw[aa,cn] at*;refine⟨h1.trans (k1.trans z1),z2,yss++ [bs.map eW],by simp[h3],by rw[h4];simp,?_,λj a' Y0 vB Nq=> ?_⟩
   ·rw[aL,aa];lia
   ·rw [List.getElem?_append] at Nq;split at Nq
    ·exact h6 j a' Y0 vB Nq
    ·rename_i hj;have gX:j=i:=by obtain⟨q1,_⟩:=ag.mp Nq;simp at q1;lia
     subst gX;rw[ha] at vB;cases vB;rw[h3,Nat.sub_self] at Nq;cases Nq;exact k3
 ·rintro ys M ⟨h1,h2,yss,h3,h4,h5,h6⟩;rw[aa] at h3;exact hq p M yss hp h1 (h4▸h2) h3 h6
end WL
namespace WQ
open PySem L2 WL WP
abbrev Part:=Int×Int×Int
def lM (t:Part):W:= .tup [wi t.1,wi t.2.1,wi t.2.2]
def uC (p n:Int)(P:Pq):List Part:=P.flatMap λt=>t.2.2.map λz=>(t.1,z.1,z.2*n % p)
def Pa:kb:=λxs M q=> ∃ (rl rp:Addr) (p n:Int) (a:Pt) (P:Pq) (B:Nat),xs= [wi p,wr rp,wi n] /\ 0<p /\ p<1000 /\ -1000<n /\ n<1000 /\ cL p M rl rp a P /\ P.length<=1000 /\ (∀t∈P,t.2.2.length<=B) /\ B<=16000000 /\ P.length*B<=16000000 /\∀t M' (tl:List Part),Sm M M' ->M t=none ->M' t=some (.lst (tl.map lM)) ->tl.Perm (uC p n P) ->q (wr t) M'
theorem Cp {p n w:Int}{m:Pt}(g:(m.map (·.1)).Nodup){wy:List Int}(h:wy.Perm (dN m)):(wy.map λsh=>((w,sh,look m sh*n % p):Part)).Perm (m.map λz=>(w,z.1,z.2*n % p)):=by
 have h1:=h.map λsh=>((w,sh,look m sh*n % p):Part)
 have e:(dN m).map (λsh=>((w,sh,look m sh*n % p):Part))=m.map λz=>(w,z.1,z.2*n % p):=by unfold dN;rw[aD];apply bF;intro z hz;simp only[Function.comp];rw[gL g hz]
 rw[e] at h1;exact h1
theorem qD {p n:Int}{P:Pq}(hg: ∀w,((pf P w).map (·.1)).Nodup): ∀ {ws:List Int} {yss:List (List W)},yss.length=ws.length ->(∀ (i:Nat) a zs,ws[i]? =some a ->yss[i]? =some zs -> ∃wy:List Int,wy.Perm (dN (pf P a)) /\ zs=wy.map λsh=>lM (a,sh,look (pf P a) sh*n % p)) ->∃tl:List Part,yss.flatten=tl.map lM /\ tl.Perm (ws.flatMap λw=>(pf P w).map λz=>(w,z.1,z.2*n % p))
 | [],[],_,_=>⟨[],rfl, .nil⟩
 | [],_::_,h,_=>by cases h
 | _::_,[],h,_=>by cases h
 | w::ws,zs::yss,h,hR=>by
  obtain⟨wy,h1,e1⟩:=hR 0 w zs rfl rfl;obtain⟨tl,e2,h2⟩:=qD hg (ws:=ws) (yss:=yss) (by simpa using h) λi a z ha hz=>hR (i+1) a z (by simpa using ha) (by simpa using hz);refine⟨(wy.map λsh=>((w,sh,look (pf P w) sh*n % p):Part))++tl,?_,?_⟩
  ·rw[List.flatten_cons,e2,e1,aN,aD];rfl
  ·rw[List.flatMap_cons];exact(Cp (hg w) h1).append h2
theorem Ar {p n:Int}{P:Pq}(nd:(P.map (·.1)).Nodup)(hg: ∀w,((pf P w).map (·.1)).Nodup){ws:List Int}(c6:ws.Perm (P.map (·.1))){yss:List (List W)}(hlen:yss.length=ws.length) (hR: ∀ (i:Nat) a zs,ws[i]? =some a ->yss[i]? =some zs -> ∃wy:List Int,wy.Perm (dN (pf P a)) /\ zs=wy.map λsh=>lM (a,sh,look (pf P a) sh*n % p)): ∃tl:List Part,yss.flatten=tl.map lM /\ tl.Perm (uC p n P):=by
 obtain⟨tl,e,h⟩:=qD hg hlen hR;refine⟨tl,e,h.trans ?_⟩;have h2:=c6.flatMap_right λw=>(pf P w).map λz=>((w,z.1,z.2*n % p):Part)
 refine h2.trans (List.Perm.of_eq ?_);unfold uC;rw[List.flatMap_def,List.flatMap_def,aD];congr 1;apply bF;intro t ht;simp only[Function.comp];rw[o9 nd ht]
theorem ml (G:Int ->Int)(x:Int): ∀d:Pt,dv G d=G x*dA d x+dv G (fK d x)
 | []=>by simp[dv,dA,fK]
 | z ::r=>by
  have ih:=ml G x r;rw[cf,ih];unfold fK;rw[List.filter_cons];by_cases e:z.1=x
  ·rw[aj (by simpa using e)];have:dA (z::r) x=z.2+dA r x:=by show(if z.1=x then z.2 else 0)+dA r x=_;rw[ak e]
   rw[this,e,Int.mul_add];exact(Int.add_assoc _ _ _).symm
  ·rw[ak (by simpa using e),cf];have:dA (z::r) x=dA r x:=by show(if z.1=x then z.2 else 0)+dA r x=_;rw[aj e,bP]
   rw[this];exact Int.add_left_comm _ _ _
theorem jO (x y:Int): ∀d:Pt,dA (fK d x) y=if y=x then 0 else dA d y
 | []=>by simp[fK,dA]
 | z ::r=>by
  have ih:=jO x y r;have e1:dA (z::r) y=(if z.1=y then z.2 else 0)+dA r y:=rfl;unfold fK at ih ⊢;rw[List.filter_cons];by_cases e:z.1=x
  ·rw[aj (by simpa using e),ih,e1];by_cases ey:y=x
   ·rw[ak ey,ak ey]
   ·rw[aj ey,aj ey,aj (λq=>ey (by rw[<- q,e])),bP]
  ·rw[ak (by simpa using e)];show(if z.1=y then z.2 else 0)+_=_;rw[ih,e1];by_cases ey:y=x
   ·rw[ak ey,ak ey,aj (λq=>e (by rw[q,ey]))];rfl
   ·rw[aj ey,aj ey]
theorem jJ {p:Int}(G:Int ->Int): ∀ (n:Nat) (d:Pt),d.length<=n ->(∀x,dA d x % p=0) ->dv G d % p=0
 | n,[],_,_=>Int.zero_emod _
 | 0,_::_,h,_=>by simp at h
 | n +1,z::r,h,ht=>by
  rw[ml G z.1];have hl:(fK (z::r) z.1).length<=n:=by unfold fK;rw[List.filter_cons,aj (by simp)];have:=List.length_filter_le (λq:Int×Int=>decide (q.1≠z.1)) r;simp only[aG] at h;lia
  have ih:=jJ G n _ hl λx=>by
   rw[jO];split
   ·rfl
   ·exact ht x
  rw[bH,ih,bZ,ht,Int.mul_zero];simp
theorem mq (G:Int ->Int)(b:Pt): ∀a:Pt,dv G (a++b)=dv G a+dv G b
 | []=>by show dv G b=0+_;rw[bP]
 | z::r=>by rw[List.cons_append,cf,cf,mq G b r,Int.add_assoc]
theorem pS (G:Int ->Int)(k:Int): ∀a:Pt,dv G (tm k a)=dv G a*k
 | []=>by show(0:Int)=0*k;simp
 | z::r=>by have:tm k (z::r)=(z.1,z.2*k)::tm k r:=rfl;rw[this,cf,cf,pS G k r,Int.add_mul,Int.mul_assoc]
theorem Ab {p:Int}(G:Int ->Int){a b:Pt}(h: ∀x,dA a x % p=dA b x % p):dv G a % p=dv G b % p:=by
 have h1:=jJ (p:=p) G _ (a++tm (-1) b) (aq _) λx=>by rw[gD,sC,Int.mul_neg,Int.mul_one, <- Int.sub_eq_add_neg];exact cc.mp (h x)
 rw[mq,pS,Int.mul_neg,Int.mul_one, <- Int.sub_eq_add_neg] at h1;exact cc.mpr h1
theorem Ac (x:Int): ∀js:Pt,dv (λsh=>if x - sh=0 then 1 else 0) js=dA js x
 | []=>rfl
 | z::r=>by
  rw[cf,Ac x r];show _=(if z.1=x then z.2 else 0)+dA r x;by_cases e:z.1=x
  ·rw[ak e,ak (by lia),Int.one_mul]
  ·rw[aj e,aj (by lia),bG]
theorem z6 (js:Pt):dv (λ_=>0) js=0:=by
 induction js with
 | nil=>rfl
 | cons z r ih=>rw[cf,ih,bG];rfl
def mJ (s:Int)(sts:List Pt)(P:Pq)(x:Int):Nat ->Int
 | 0=>0
 | n+1=>mJ s sts P x n+dv (λsh=>look (sts.getD n []) (x - s*sh)) (pf P n)
theorem zg: ∀ {a b:List Int},a.Pairwise (· <= ·) ->b.Pairwise (· <= ·) ->a.Perm b ->a=b:=λ{a b} ha hb h=>List.Perm.eq_of_pairwise (le:=(· <= ·)) (λx y _ _ h1 h2=>by lia) ha hb h
structure Sr (s p:Int)(st:Pt)(c len D:Int):Prop where
 pat:du p st
 ok:iU s c
 l0:0<=len
 s0:s=0 ->len=0
 ge: ∀x∈dN st,c<=bM s x
 n9: ∀x∈dN st,bM s x=c ->0<=hI s x /\ hI s x<=len
 bot:c∈dN st
 top:look st (c+len*s)=1
 wt:Wt D st
theorem EZ {s c:Int}(ok:iU s c):hI s c=0:=by
 unfold hI;rcases ok with h | h
 ·rw[ak h]
 ·rw[aj (by lia)];exact Int.ediv_eq_zero_of_lt h.1 h.2
theorem Sr.KH {s p:Int}{st:Pt}{c len D:Int}(h:Sr s p st c len D):c+len*s∈dN st:=cJ (by rw[h.top];decide)
theorem Sr.Cn {s p:Int}{st:Pt}{c len D:Int}(h:Sr s p st c len D):hI s (c+len*s)=len:=by
 by_cases z:s=0
 ·rw[h.s0 z];unfold hI;rw[ak z]
 ·exact l4 h.ok z len
theorem Sr.uniq {s p:Int}{st:Pt}{c len D c' AQ D':Int}(h:Sr s p st c len D)(h':Sr s p st c' AQ D'):c=c' /\ len=AQ:=by
 have e:c=c':=by have h1:=h.ge c' h'.bot;have h2:=h'.ge c h.bot;rw[h'.ok.own] at h1;rw[h.ok.own] at h2;lia
 subst e;have h1:=h'.n9 _ h.KH (h.ok.on len);have h2:=h.n9 _ h'.KH (h.ok.on AQ);rw[h.Cn] at h1;rw[h'.Cn] at h2;exact⟨rfl,by lia⟩
structure qw (s p:Int)(sts:List Pt)(D:Int):Prop where
 each: ∀ (i:Nat) st,sts[i]? =some st -> ∃c len,Sr s p st c len D /\ len<3000000
 yS: ∀ (i j:Nat) st bB c len c' AQ,i<j ->sts[i]? =some st ->sts[j]? =some bB ->Sr s p st c len D ->Sr s p bB c' AQ D ->c<c'
theorem Di {m:Pt}{x v:Int}(h:x∉m.map (·.1)):kf m x v=m++ [(x,v)]:=by unfold kf;rw[aj (λe=>h (mB.mp e))]
def Lb (m:Pt):List (Key×W):=m.map λz=>((Sum.inl z.1:Key),wi z.2)
theorem HD (m:Pt)(nd:(m.map (·.1)).Nodup):(Lb m).foldl (λm p=>iH m p.1 p.2) []=eY m:=by
 have key: ∀ (b a:Pt),((a++b).map (·.1)).Nodup ->(Lb b).foldl (λm p=>iH m p.1 p.2) (eY a)=eY (a++b):=by
  intro b;induction b with
  | nil=>intro a _;rw[List.append_nil];rfl
  | cons z r ih=>
   intro a h;have hx:z.1∉a.map (·.1):=λhm=>by rw[aN,aH] at h;exact(List.nodup_append.mp h).2.2 _ hm _ aE rfl
   show(Lb r).foldl _ (iH (eY a) (.inl z.1) (wi z.2))=_;rw[oy,Di hx,ih (a++ [z]) (by rw[bR];exact h),bR];rfl
 exact key m [] nd
theorem GP (m:Pt):cR m= .tup ((Lb m).map λp=> .tup [eZ p.1,p.2]):=by unfold cR Lb;rw[aD];rfl
theorem mX {p:Int}{m:Pt}(h:du p m):GD p m:=⟨(bY.mpr h.2).imp λh e=>by rw[e] at h;exact absurd h (Int.lt_irrefl _),h.1⟩
theorem eR {g:Int ->Int}: ∀ {js:Pt},(∀j∈js,g j.1=0) ->dv g js=0
 | [],_=>rfl
 | z::r,h=>by rw[cf,h z aE,bG,eR (js:=r) λj hj=>h j (aw _ hj)];rfl
def putL (s:Int)(sts:List Pt)(tl:List Part):Pt:=tl.flatMap λt=>(sts.getD t.1.toNat []).map λz=>(z.1+t.2.1*s,z.2*t.2.2)
theorem Sr.j9 {s p c len D:Int}{st:Pt}(h:Sr s p st c len D):dg s st=c:=by
 have c8:(dN st).map (bM s)≠ []:=by intro e;have:=List.mem_map_of_mem (f:=bM s) h.bot;rw[e] at this;cases this
 exact gT.uniq (fg c8) ⟨af.mpr ⟨c,h.bot,h.ok.own⟩,λx hx=>by obtain⟨y,hy,rfl⟩:=af.mp hx;exact h.ge y hy⟩
theorem Sr.gZ {s p c len D:Int}{st:Pt}(h:Sr s p st c len D):d6 s st=len:=by
 unfold d6;rw[h.j9];have hm:len∈nE s c (dN st):=by have:=jB h.KH (h.ok.on len);rw[h.Cn] at this;exact this
 have c8:nE s c (dN st)≠ []:=λe=>by rw[e] at hm;cases hm
 refine nU.uniq (lP c8) ⟨hm,λy hy=> ?_⟩;obtain⟨x,hx,e⟩:=af.mp hy;have:=h.n9 x (aP.mp hx).1 (by simpa using(aP.mp hx).2);rw[e] at this;exact this.2
def iI (s x:Int)(sts:List Pt)(t:Part):Int:=dA (sts.getD t.1.toNat []) (x - t.2.1*s)*t.2.2
end WQ
namespace L2
open PySem
def BJ:Nat ->(List Value ->Prop) ->Prop
 | 0,p=>p []
 | n+1,p=> ∀v,BJ n λus=>p (v::us)
theorem BJ.to: ∀ {n:Nat} {p:List Value ->Prop},BJ n p -> ∀us,us.length=n ->p us
 | 0,_,h,[],_=>h
 | _+1,_,h,v::us,e=>BJ.to (h v) us (Nat.succ.inj e)
section
variable {K:PySem.W.Frag}{h:Heap}{mg:Str ->Option Value}{x:Str}{ps:List Str}{st:Stmt}{f C:Addr}{oc:Value}{od an:Option Addr}{BM:Array (Option Value)}{kV doc pm dQ ct:Value}
theorem dz (X:K.In h)(G:h.Ns mainGlobals mg)(a:PySem.W.nsIn K mainGlobals x=some (some (.ref f))) (l:K.lookup f=some ⟨oc,od, .func (PySem.W.fnOf x x (fL st) (d3 st) (aQ st) .none kV doc pm an dQ ct),BM⟩) (c:PySem.W.codeIn K dQ x=true) (k:PySem.W.keepIn K (.ref f)=true) (b: ∀ (kV doc pm:Value) (an:Option Addr) (dQ ct:Value),BJ ps.length λus=>bindArgs (PySem.W.fnOf x x (fL st) (d3 st) (aQ st) .none kV doc pm an dQ ct) ⟨us,[]⟩=pure (ps.zip us)): mM K mg x ps st f (PySem.W.fnOf x x (fL st) (d3 st) (aQ st) .none kV doc pm an dQ ct):=⟨PySem.W.mg_of X G a,tQ l c k,(tQ (st:=st) l c k).binds λkV doc pm an dQ ct us e=>(b kV doc pm an dQ ct).to us e⟩
theorem Fm {q:Str}(X:K.In h)(G:h.Ns mainGlobals mg)(a:PySem.W.nsIn K mainGlobals x=some (some (.ref C)))(g:PySem.W.findIn K (.ref C) "__init__" =some (some (.ref f))) (l:K.lookup f=some ⟨oc,od, .func (PySem.W.fnOf "__init__" q (fL st) (d3 st) (aQ st) .none kV doc pm an dQ ct),BM⟩) (c:PySem.W.codeIn K dQ q=true) (k:PySem.W.keepIn K (.ref f)=true) (h1:PySem.W.makesIn K C=true) (h2:PySem.W.isFn K (.ref f)=true) (h3:PySem.W.keepIn K (.ref C)=true) (h4:PySem.W.plainGet K C Str.empty=true) (h5:PySem.W.hasDictIn K C=true) (h6:PySem.W.plainOver K C=true) (h7:PySem.W.findIn K (.ref C) "__setattr__" =some (some (.builtin "object.__setattr__"))) (b: ∀ (kV doc pm:Value) (an:Option Addr) (dQ ct:Value),BJ ps.length λus=>bindArgs (PySem.W.fnOf "__init__" q (fL st) (d3 st) (aQ st) .none kV doc pm an dQ ct) ⟨us,[]⟩=pure (ps.zip us)): Ru K mg x q ps st C f (PySem.W.fnOf "__init__" q (fL st) (d3 st) (aQ st) .none kV doc pm an dQ ct):=⟨PySem.W.mg_of X G a,⟨h1,g,h2,h3⟩,⟨h4,h5,h6,h7⟩,tQ l c k,(tQ (st:=st) l c k).binds λkV doc pm an dQ ct us e=>(b kV doc pm an dQ ct).to us e⟩
theorem pz {q:Str}{fd:FuncData}(_:Ru K mg x q ps st C f fd)(a:Str)(e:PySem.W.findIn K (.ref C) a=some none):dC K C a:=e
theorem LI {l:PySem.W.OpenLaw}{w:World}{fa:Addr}{fd:FuncData}{p:Str}{kd:Nat}(T:mM K mg "law" [p] st f fd)(hfa:mg "law" =some (.ref fa))(hb: ∀ (kV doc pm:Value) (an:Option Addr) (dQ ct v:Value),bindArgs (PySem.W.fnOf "law" "law" (fL st) (d3 st) (aQ st) .none kV doc pm an dQ ct) ⟨[v],[]⟩=pure [(p,v)]) (ok: ∀base,dI l.prog w K mg base iV kd f fd [p] (WQ.uH K)): ∃fd:FuncData,(∀ (s:Shared) (v:Value),BindsTo s fd ⟨[v],[]⟩ [(p,v)]) /\ ∀base:Heap,K.In base ->base.Ns mainGlobals mg ->dI l.prog w K mg base iV kd fa fd [p] (WQ.uH K):=by have e:=hfa.symm.trans T.at_;cases e;obtain⟨oc,od,kV,doc,pm,an,dQ,ct,BM,rfl,lk,A7⟩:=T.fn.ex;exact⟨_,λs v=> .of_eq (hb kV doc pm an dQ ct v),λbase _ _=>ok base⟩
end
end L2
namespace WQ
open PySem L2 WL WP
theorem pT {p:Int}(G:Int ->Int): ∀ (n:Nat) (d:Pt),d.length<=n ->(∀x,G x*dA d x % p=0) ->dv G d % p=0
 | n,[],_,_=>Int.zero_emod _
 | 0,_::_,h,_=>by simp at h
 | n +1,z::r,h,ht=>by
  rw[ml G z.1];have hl:(fK (z::r) z.1).length<=n:=by unfold fK;rw[List.filter_cons,aj (by simp)];have:=List.length_filter_le (λq:Int×Int=>decide (q.1≠z.1)) r;simp only[aG] at h;lia
  have ih:=pT G n _ hl λx=>by
   rw[jO];split
   ·rw[Int.mul_zero];rfl
   ·exact ht x
  rw[bH,ih,ht];rfl
theorem rN (v:Int): ∀js:Pt,dv (λ_=>v) js=v*dv (λ_=>1) js
 | []=>by show(0:Int)=v*0;simp
 | z::r=>by rw[cf,cf,rN v r,Int.mul_add,Int.one_mul]
theorem jN {d:Pt}{x:Int}(h:dA d x≠0):x∈d.map (·.1):=by refine au λhn=>h (yw λq hq e=>hn (af.mpr ⟨q,hq,e⟩))
theorem pU {p:Int}(G:Int ->Int)(d:Pt)(m:Int)(h: ∀y,y≠m ->G y*dA d y % p=0):dv G d % p=G m*dA d m % p:=by
 rw[ml G m,bH,pT (p:=p) G _ (fK d m) (aq _) λx=>by
  rw[jO];split
  ·rw[Int.mul_zero];rfl
  ·rename_i e;exact h x e]
 rw[bu,cE]
theorem Sr.out {s p c len D:Int}{st:Pt}(h:Sr s p st c len D)(hs:s≠0){k:Int}(hk:¬(0<=k /\ k<=len)):look st (c+k*s)=0:=by refine au λhn=>hk ?_;have:=h.n9 _ (cJ hn) (h.ok.on k);rwa [l4 h.ok hs] at this
theorem z8 {s p c len D:Int}{st js:Pt}(hp:p=2 \/ p=3 \/ p=5 \/ p=7)(s0:0<=s)(sr:Sr s p st c len D) (low: ∀x,bM s x=c ->dv (λsh=>look st (x - s*sh)) js % p≠0 ->0<=hI s x /\ hI s x<len) (x:Int):dv (λsh=>look st (x - s*sh)) js % p=0:=by
 have p0:0<p:=by lia
 by_cases z:s=0
 ·have e: ∀x,dv (λsh=>look st (x - s*sh)) js=look st x*dv (λ_=>1) js:=λx=>by rw[<- rN];congr 1;funext sh;rw[z,bG,Int.sub_zero]
  have ht:=sr.top;rw[z,Int.mul_zero,bu] at ht;have h0:dv (λ_=>1) js % p=0:=by refine au λhn=> ?_;have:=low c sr.ok.own (by rw[e,ht,Int.one_mul];exact hn);have:=sr.s0 z;lia
  rw[e,bZ,h0,Int.mul_zero];rfl
 ·have Zk:0<s:=by lia
  have hmul: ∀a b:Int,c+a*s - s*b=c+(a - b)*s:=λa b=>by rw[Int.sub_mul,bK s b];lia
  suffices xT: ∀y,dA js y % p=0 by exact jJ _ _ _ (aq _) xT
  intro y;refine au λhy=> ?_;have c8:(js.map (·.1)).filter (λy=>decide (dA js y % p≠0))≠ []:=λe=>by have:y∈(js.map (·.1)).filter (λy=>decide (dA js y % p≠0)):=aP.mpr ⟨jN λe0=>hy (by rw[e0];rfl),decide_eq_true hy⟩;rw[e] at this;cases this
  obtain⟨ma,mb⟩:=lP c8;obtain⟨la,lb⟩:=fg c8;generalize qT _=m at ma mb;generalize eM _=k at la lb;have hm:dA js m % p≠0:=by simpa using(aP.mp ma).2
  have hk:dA js k % p≠0:=by simpa using(aP.mp la).2
  have zy: ∀y,dA js y % p≠0 ->k<=y /\ y<=m:=λy h=>by have:y∈(js.map (·.1)).filter (λy=>decide (dA js y % p≠0)):=aP.mpr ⟨jN λe0=>h (by rw[e0];rfl),decide_eq_true h⟩;exact⟨lb y this,mb y this⟩
  have out: ∀y,¬(k<=y /\ y<=m) ->dA js y % p=0:=λy h=>au λh2=>h (zy y h2);have h1:=low (c+(len+m)*s) (sr.ok.on _) (by
   rw[pU _ js m λy ne=> ?_,hmul,show len+m - m=len by lia,sr.top,Int.one_mul]
   ·exact hm
   ·rw[hmul];rcases Int.lt_or_le m y with h | h
    ·rw[bZ,out y (by lia),Int.mul_zero];rfl
    ·rw[sr.out z (by lia),bG];rfl)
  rw[l4 sr.ok z] at h1;have hc:=dM (mX sr.pat) sr.bot;have h2:=low (c+k*s) (sr.ok.on _) (by
   rw[pU _ js k λy ne=> ?_,hmul,Int.sub_self,bG,bu]
   ·exact qQ hp hk _ hc.1 hc.2
   ·rw[hmul];rcases Int.lt_or_le y k with h | h
    ·rw[bZ,out y (by lia),Int.mul_zero];rfl
    ·rw[sr.out z (by lia),bG];rfl)
  rw[l4 sr.ok z] at h2;have:=(zy k hk).2;lia
def fu (s:Int)(sts:List Pt)(J:Nat ->Pt)(x:Int):Nat ->Int
 | 0=>0
 | n+1=>fu s sts J x n+dv (λsh=>look (sts.getD n []) (x - s*sh)) (J n)
theorem Gh (s:Int)(sts:List Pt)(P:Pq)(x:Int): ∀n,mJ s sts P x n=fu s sts (λi=>pf P i) x n
 | 0=>rfl
 | n+1=>by rw[mJ,fu,Gh s sts P x n]
theorem yI (s:Int)(sts:List Pt)(J J':Nat ->Pt)(x:Int): ∀n,fu s sts (λi=>J i++J' i) x n=fu s sts J x n+fu s sts J' x n
 | 0=>rfl
 | n+1=>by rw[fu,fu,fu,yI s sts J J' x n,mq];lia
theorem CM (s:Int)(sts:List Pt)(J:Nat ->Pt)(k x:Int): ∀n,fu s sts (λi=>tm k (J i)) x n=fu s sts J x n*k
 | 0=>by show(0:Int)=0*k;simp
 | n+1=>by rw[fu,fu,CM s sts J k x n,pS,Int.add_mul]
theorem yG (s:Int)(sts:List Pt)(x:Int): ∀n,fu s sts (λ_=> []) x n=0
 | 0=>rfl
 | n+1=>by rw[fu,yG s sts x n];rfl
theorem sF {s p:Int}{sts:List Pt}{J:Nat ->Pt}{x:Int}{i:Nat}: ∀n,i<n ->(∀j,j<n ->j≠i ->dv (λsh=>look (sts.getD j []) (x - s*sh)) (J j) % p=0) ->fu s sts J x n % p=dv (λsh=>look (sts.getD i []) (x - s*sh)) (J i) % p
 | 0,h,_=>absurd h (Nat.not_lt_zero _)
 | n + 1,h,hj=>by
  rw[fu];by_cases e:i=n
  ·subst e;have: ∀m,m<=i ->fu s sts J x m % p=0:=λm=>by
    induction m with
    | zero=>intro _;exact Int.zero_emod _
    | succ m ih=>intro hm;rw[fu,bH,ih (by lia),hj m (by lia) (by lia)];rfl
   rw[bH,this i (aq _),bP,cE]
  ·rw[bH,sF n (by lia) (λj h1 h2=>hj j (by lia) h2),hj n (by lia) (λq=>e q.symm),bu,cE]
def Rl (s p:Int)(sts:List Pt)(D:Int)(g:Int ->Int):Prop:= ∀ (i:Nat) st c len,sts[i]? =some st ->Sr s p st c len D -> ∀x,bM s x=c ->g x % p≠0 ->0<=hI s x /\ hI s x<len
theorem yH {s p D:Int}{sts:List Pt}{J:Nat ->Pt}{g:Int ->Int}(hp:p=2 \/ p=3 \/ p=5 \/ p=7)(s0:0<=s)(f9:qw s p sts D)(e: ∀x,g x % p=fu s sts J x sts.length % p)(low:Rl s p sts D g)(x:Int):fu s sts J x sts.length % p=0:=by
 have get: ∀i st,sts[i]? =some st ->sts.getD i []=st:=λi st h=>by rw[bI,h];rfl
 have key : ∀ (i:Nat),i<sts.length -> ∀x,dv (λsh=>look (sts.getD i []) (x - s*sh)) (J i) % p=0:=λi=>by
  induction i using Nat.strongRecOn with
  | ind i ih=>
   intro hi x;obtain⟨c,len,sr,_⟩:=f9.each i _ (ae hi);rw[get i _ (ae hi)];refine z8 hp s0 sr (λx hx c8=> ?_) x;refine low i _ c len (ae hi) sr x hx ?_;rw[e,sF (i:=i) _ hi λj hj Qw=> ?_,get i _ (ae hi)]
   ·exact c8
   ·rcases Nat.lt_or_ge j i with h | h
    ·exact ih j h hj x
    ·obtain⟨c2,PH,Xs,_⟩:=f9.each j _ (ae hj);have eX:=f9.yS i j _ _ c len c2 PH (by lia) (ae hi) (ae hj) sr Xs;rw[get j _ (ae hj)];rw[eR λk _=> ?_]
     ·rfl
     ·refine au λhn=> ?_;have:=Xs.ge _ (cJ hn);rw[gf,hx] at this;lia
 have: ∀m,m<=sts.length ->fu s sts J x m % p=0:=λm=>by
  induction m with
  | zero=>intro _;exact Int.zero_emod _
  | succ m ih=>intro hm;rw[fu,bH,ih (by lia),key m (by lia)];rfl
 exact this _ (aq _)
theorem Ed {p:Int}(p0:0<p){a b:Pt}(ha:du p a)(hb:du p b)(y n x:Int):look (jo p (a++tD y n b)) x=(look a x+look b (x - y)*n) % p:=by rw[pB p0,gD,Ly,sC,wX,uB ha.2,uB hb.2]
def cX (s p:Int)(sts:List Pt)(f:Int ->Int):Prop:= ∃J:Nat ->Pt, ∀x,f x % p=fu s sts J x sts.length % p
section
variable {s p:Int}{sts:List Pt}{f g:Int ->Int}
theorem cX.ext (h:cX s p sts f)(e: ∀x,g x % p=f x % p):cX s p sts g:=h.elim λJ hJ=>⟨J,λx=>(e x).trans (hJ x)⟩
theorem cX.zero:cX s p sts λ_=>0:=⟨λ_=> [],λx=>by rw[yG]⟩
theorem cX.add (h:cX s p sts f)(h':cX s p sts g):cX s p sts λx=>f x+g x:=by obtain⟨J,hJ⟩:=h;obtain⟨J',Sw⟩:=h';exact⟨λi=>J i++J' i,λx=>by rw[yI,bH,hJ,Sw, <- bH]⟩
theorem cX.mul (h:cX s p sts f)(k:Int):cX s p sts λx=>f x*k:=by obtain⟨J,hJ⟩:=h;exact⟨λi=>tm k (J i),λx=>by rw[CM,bZ,hJ, <- bZ]⟩
theorem tV (G:Int ->Int)(k:Int): ∀js:Pt,dv (λsh=>G (sh+k)) js=dv G (mv k js)
 | []=>rfl
 | z::r=>by have:mv k (z::r)=(z.1+k,z.2)::mv k r:=rfl;rw[this,cf,cf,tV G k r]
theorem CN (s:Int)(sts:List Pt)(J:Nat ->Pt)(k x:Int): ∀n,fu s sts (λi=>mv k (J i)) x n=fu s sts J (x - s*k) n
 | 0=>rfl
 | n+1=>by rw[fu,fu,CN s sts J k x n, <- tV];congr 2;funext sh;rw[Int.mul_add];congr 1;lia
theorem cX.shift (h:cX s p sts f)(k:Int):cX s p sts λx=>f (x - s*k):=by obtain⟨J,hJ⟩:=h;exact⟨λi=>mv k (J i),λx=>by rw[CN,hJ]⟩
theorem cX.dv (h:cX s p sts f): ∀js:Pt,cX s p sts λx=>dv (λsh=>f (x - s*sh)) js
 | []=>cX.zero
 | z::r=>((h.shift z.1).mul z.2).add (cX.dv h r)
theorem oQ (s:Int)(sts:List Pt)(k:Nat)(v:Pt)(x:Int): ∀n,fu s sts (λi=>if i=k then v else []) x n=if k<n then dv (λsh=>look (sts.getD k []) (x - s*sh)) v else 0
 | 0=>rfl
 | n +1=>by
  rw[fu,oQ s sts k v x n];by_cases e:n=k
  ·subst e;rw[ak rfl,aj (cb _),ak (Nat.lt_succ_self _),bP]
  ·rw[aj e];by_cases h:k<n
   ·rw[ak h,ak (by lia)];show _+0=_;rw[bu]
   ·rw[aj h,aj (by lia)];rfl
theorem cX.of {st:Pt}(h:st∈sts):cX s p sts (look st):=by obtain⟨i,hi⟩:=bA.mp h;have hl:=(ag.mp hi).1;refine⟨λj=>if j=i then [(0,1)] else [],λx=> ?_⟩;rw[oQ,ak hl,bI,hi];show _=(look st (x - s*0)*1+0) % p;rw[Int.mul_zero,Int.sub_zero,Int.mul_one,bu]
theorem cX.fu {sts':List Pt}(h: ∀st∈sts,cX s p sts' (look st))(J:Nat ->Pt): ∀n,n<=sts.length ->cX s p sts' λx=>fu s sts J x n
 | 0,_=>cX.zero
 | n+1,hn=>by
  have hm:sts.getD n []∈sts:=by rw[bI,ae (by lia)];exact bW _
  exact(cX.fu h J n (by lia)).add ((h _ hm).dv (J n))
theorem cX.trans {sts':List Pt}(hf:cX s p sts f)(h: ∀st∈sts,cX s p sts' (look st)):cX s p sts' f:=by obtain⟨J,hJ⟩:=hf;exact(cX.fu h J _ (aq _)).ext hJ
end
theorem lx (s:Int)(A B:List Pt)(J:Nat ->Pt)(x:Int): ∀n,fu s (A++B) J x (A.length+n)=fu s A J x A.length+fu s B (λi=>J (A.length+i)) x n
 | 0 =>by
  have: ∀n,n<=A.length ->fu s (A++B) J x n=fu s A J x n:=λn=>by
   induction n with
   | zero=>intro _;rfl
   | succ n ih=>
    intro h;rw[fu,fu,ih (by lia)];have e:(A++B).getD n []=A.getD n []:=by rw[bI,bI,a9 (by lia)]
    rw[e]
  rw[Nat.add_zero,this _ (aq _)];show _=_+0;rw[bu]
 | n +1=>by
  have e:(A++B).getD (A.length+n) []=B.getD n []:=by rw[bI,bI,aU (by lia),Nat.add_sub_cancel_left]
  rw[<- Nat.add_assoc,fu,lx s A B J x n,fu,e,Int.add_assoc]
def yh (p:Nat):Nat ->List (List Int)
 | 0=> [[]]
 | n+1=>(List.range p).flatMap λa:Nat=>(yh p n).map λv=>(a:Int)::v
theorem jL {p:Nat}: ∀ {n:Nat} {v:List Int},v∈yh p n↔v.length=n /\ ∀a∈v,0<=a /\ a<p
 | 0,v=>by
  show v∈ [[]]↔_;rw[ah];constructor
  ·rintro rfl;exact⟨rfl,λa h=>by cases h⟩
  ·rintro⟨h,_⟩;exact cI.mp h
 | n + 1,v=>by
  show v∈(List.range p).flatMap _↔_;rw[List.mem_flatMap];constructor
  ·rintro⟨a,ha,hv⟩;obtain⟨u,hu,rfl⟩:=af.mp hv;obtain⟨h1,h2⟩:=jL.mp hu;have:=List.mem_range.mp ha;refine⟨by rw[aG,h1],λb hb=> ?_⟩;rcases av.mp hb with rfl | hb
   ·exact⟨by lia,by lia⟩
   ·exact h2 b hb
  ·rintro⟨h1,h2⟩;cases v with
   | nil=>cases h1
   | cons a u=>have ha:=h2 a aE;refine⟨a.toNat,List.mem_range.mpr (by lia),af.mpr ⟨u,jL.mpr ⟨Nat.succ.inj h1,λb hb=>h2 b (aw _ hb)⟩,?_⟩⟩;rw[show((a.toNat:Nat):Int)=a by lia]
theorem pX (p:Nat): ∀n,(yh p n).length=p ^ n
 | 0=>rfl
 | n +1=>by
  show((List.range p).flatMap _).length=_;rw[List.length_flatMap];have:((List.range p).map λa:Nat=>((yh p n).map λv=>(a:Int)::v).length)=List.replicate p (p ^ n):=by refine List.eq_replicate_iff.mpr ⟨by simp,λb hb=> ?_⟩;obtain⟨a,_,rfl⟩:=af.mp hb;rw[aa,pX p n]
  rw[this,List.sum_replicate_nat,Nat.pow_succ,Nat.mul_comm]
theorem Ai (p:Nat): ∀n,(yh p n).Nodup
 | 0=>by show([[]]:List (List Int)).Nodup;simp
 | n +1=>by
  show((List.range p).flatMap _).Nodup;rw[List.Nodup,List.pairwise_flatMap];refine⟨λa _=> ?_,?_⟩
  ·rw[bY];exact(Ai p n).imp λh e=>h (List.cons.inj e).2
  ·refine List.Pairwise.imp_of_mem (R:=(· ≠ ·)) (λ{a b} _ _ h=> ?_) List.nodup_range;intro v h1 v' h2 ev;obtain⟨u1,_,e1⟩:=af.mp h1;obtain⟨u2,_,e2⟩:=af.mp h2;rw[<- ev, <- e1] at e2;exact h (by have:=(List.cons.inj e2).1;lia)
theorem D8 {α:Type} [DecidableEq α]{ks:List α}: ∀ {l:List α},ks.Nodup ->(∀k∈ks,k∈l) ->ks.length<=l.length:=by
 induction ks with
 | nil=>intro l _ _;simp
 | cons k r ih=>
  intro l hn hs;rw[bw] at hn;have hk:k∈l:=hs k (by simp);have:=ih (l:=l.erase k) hn.2 λz hz=>by have Ue:z≠k:=λe=>hn.1 (e▸hz);exact(List.mem_erase_of_ne Ue).mpr (hs z (by simp[hz]))
  rw[List.length_erase_of_mem hk] at this;have:0<l.length:=List.length_pos_of_mem hk;rw[aG];lia
def lc:List Int ->List (Int ->Int) ->Int ->Int
 | v::vs,g::gs,x=>v*g x+lc vs gs x
 | _,_,_=>0
theorem LH (x:Int): ∀ (gs:List (Int ->Int)) (v u:List Int),v.length=gs.length ->u.length=gs.length ->lc (List.zipWith (· - ·) v u) gs x=lc v gs x - lc u gs x:=by
 intro gs;induction gs with
 | nil=>intro v u h1 h2;cases cI.mp h1;cases cI.mp h2;rfl
 | cons g gs ih=>
  intro v u h1 h2;cases v with
  | nil=>cases h1
  | cons a v=>
   cases u with
   | nil=>cases h2
   | cons b u=>show(a - b)*g x+lc (List.zipWith (· - ·) v u) gs x=a*g x+lc v gs x - (b*g x+lc u gs x);rw[ih v u (Nat.succ.inj h1) (Nat.succ.inj h2),Int.sub_mul];lia
theorem BS {p:Int}: ∀ {v u:List Int},v.length=u.length ->(∀a∈List.zipWith (· - ·) v u,a % p=0) ->(∀a∈v,0<=a /\ a<p) ->(∀a∈u,0<=a /\ a<p) ->v=u:=by
 intro v;induction v with
 | nil=>intro u h _ _ _;exact(cI.mp h.symm).symm
 | cons a v ih=>
  intro u h hz hv hu;cases u with
  | nil=>cases h
  | cons b u=>
   have h1:=hz (a - b) aE;have h2:=ih (Nat.succ.inj h) (λc hc=>hz c (aw _ hc)) (λc hc=>hv c (aw _ hc)) (λc hc=>hu c (aw _ hc));have ha:=hv a aE;have hb:=hu b aE;have e:a=b:=by have:=cc.mpr h1;rwa [cW ha.1 ha.2,cW hb.1 hb.2] at this
   rw[e,h2]
theorem ME {p:Nat}(p2:2<=p){gs:List (Int ->Int)}{X:List Int}(h: ∀v:List Int,v.length=gs.length ->(∀x∈X,lc v gs x % (p:Int)=0) -> ∀a∈v,a % (p:Int)=0):gs.length<=X.length:=by
 have p0:(0:Int) <p:=by lia
 have key:((yh p gs.length).map λv=>X.map λx=>lc v gs x % (p:Int)).Nodup:=by rw[List.Nodup,bY];refine List.Pairwise.imp_of_mem (λ{v u} hv hu c8 e=>c8 ?_) (Ai p gs.length);obtain⟨v1,v2⟩:=jL.mp hv;obtain⟨u1,u2⟩:=jL.mp hu;refine BS (p:=p) (v1.trans u1.symm) (h _ (by rw[List.length_zipWith,v1,u1,Nat.min_self]) λx hx=> ?_) v2 u2;rw[LH x gs v u v1 u1];exact cc.mp (List.map_inj_left.mp e x hx)
 have:=D8 (l:=yh p X.length) key λk hk=>by obtain⟨v,_,rfl⟩:=af.mp hk;refine jL.mpr ⟨by rw[aa],λa ha=> ?_⟩;obtain⟨x,_,rfl⟩:=af.mp ha;exact⟨cN _ (by lia),cz _ p0⟩
 rw[aa,pX,pX] at this;exact(Nat.pow_le_pow_iff_right (by lia)).mp this
def JX (s:Int)(b:Pt):Int ->Nat ->List (Int ->Int)
 | _,0=> []
 | lo,n+1=>(λx=>look b (x - s*lo))::JX s b (lo+1) n
def Ay:Int ->List Int ->Pt
 | _,[]=> []
 | lo,a::v=>(lo,a)::Ay (lo+1) v
theorem oF (s:Int)(b:Pt): ∀ (n:Nat) (lo:Int),(JX s b lo n).length=n
 | 0,_=>rfl
 | n+1,lo=>by show(JX s b (lo+1) n).length+1=_;rw[oF s b n]
theorem Eh (s:Int)(b:Pt)(x:Int): ∀ (v:List Int) (n:Nat) (lo:Int),v.length=n ->lc v (JX s b lo n) x=dv (λsh=>look b (x - s*sh)) (Ay lo v)
 | [],_,lo,rfl=>rfl
 | a::v,_,lo,rfl=>by show a*look b (x - s*lo)+lc v (JX s b (lo+1) v.length) x=_;rw[Eh s b x v _ (lo+1) rfl];have e:Ay lo (a::v)=(lo,a)::Ay (lo+1) v:=rfl;rw[e,cf,bK]
theorem sU: ∀ (v:List Int) (lo:Int), ∀z∈Ay lo v,lo<=z.1 /\ z.1<lo+v.length
 | [],_,z,h=>by cases h
 | a::v,lo,z,h=>by
  rw[aG];rcases av.mp h with rfl | h
  ·exact⟨aV _,by show lo<lo+_;push_cast;lia⟩
  ·have:=sU v (lo+1) z h;push_cast;lia
theorem uX {p:Int}: ∀ (v:List Int) (lo:Int),(∀y,dA (Ay lo v) y % p=0) -> ∀a∈v,a % p=0
 | [],_,_,a,h=>by cases h
 | b ::v,lo,ht,a,h=>by
  have e: ∀y,dA (Ay lo (b::v)) y=(if lo=y then b else 0)+dA (Ay (lo+1) v) y:=λy=>rfl;have h0:dA (Ay (lo+1) v) lo=0:=yw λq hq e=>by have:=sU v (lo+1) q hq;lia
  rcases av.mp h with rfl | h
  ·have:=ht lo;rwa [e,ak rfl,h0,bu] at this
  ·refine uX v (lo+1) (λy=> ?_) a h;by_cases z:lo=y
   ·rw[<- z,h0];rfl
   ·have:=ht y;rwa [e,aj z,bP] at this
theorem Ej (x:Int): ∀ (v1:List Int) (g1:List (Int ->Int)) (v2:List Int) (g2:List (Int ->Int)),v1.length=g1.length ->lc (v1++v2) (g1++g2) x=lc v1 g1 x+lc v2 g2 x
 | [],[],v2,g2,_=>by show lc v2 g2 x=0+_;rw[bP]
 | a::v1,g::g1,v2,g2,h=>by show a*g x+lc (v1++v2) (g1++g2) x=a*g x+lc v1 g1 x+_;rw[Ej x v1 g1 v2 g2 (Nat.succ.inj h),Int.add_assoc]
def cps (s:Int)(G:List (Pt×Int×Nat)):List (Int ->Int):=G.flatMap λg=>JX s g.1 g.2.1 g.2.2
theorem z3 (s:Int): ∀G:List (Pt×Int×Nat),(cps s G).length=(G.map λg=>g.2.2).sum
 | []=>rfl
 | g::G=>by show(JX s g.1 g.2.1 g.2.2++cps s G).length=_;rw[aL,oF,z3 s G];rfl
theorem Ei {p:Int}(s:Int): ∀ (G:List (Pt×Int×Nat)) (v:List Int),v.length=(cps s G).length -> ∃J:Nat ->Pt,(∀x,lc v (cps s G) x=fu s (G.map (·.1)) J x G.length) /\ (∀i g,G[i]? =some g -> ∀z∈J i,g.2.1<=z.1 /\ z.1<g.2.1+g.2.2) /\ ((∀i,i<G.length -> ∀y,dA (J i) y % p=0) -> ∀a∈v,a % p=0)
 | [],v,h=>by cases cI.mp h;exact⟨λ_=> [],λx=>rfl,λi g h=>by simp at h,λ_ a h=>by cases h⟩
 | g ::G,v,h=>by
  have e:cps s (g::G)=JX s g.1 g.2.1 g.2.2++cps s G:=rfl;rw[e,aL,oF] at h;obtain⟨J,h1,h2,h3⟩:=Ei (p:=p) s G (v.drop g.2.2) (by rw[List.length_drop,h];lia);have l1:(v.take g.2.2).length=g.2.2:=by rw[a6,h];lia
  refine⟨λi=>match i with | 0=>Ay g.2.1 (v.take g.2.2) | i+1=>J i,λx=> ?_,λi u hu z hz=> ?_,λhz a ha=> ?_⟩
  ·have hc:=lx s [g.1] (G.map (·.1)) (λi=>match i with | 0=>Ay g.2.1 (v.take g.2.2) | i+1=>J i) x G.length;have e3:(λi=>(λi:Nat=>match i with | 0=>Ay g.2.1 (v.take g.2.2) | i+1=>J i) ([g.1].length+i))=J:=by funext i;show(match 1+i with | 0=>_ | i+1=>J i)=_;rw[Nat.add_comm]
   rw[e3] at hc;rw[e, <- a8 g.2.2 v,Ej x _ _ _ _ (by rw[l1,oF]),a8,Eh s g.1 x _ _ _ l1,h1 x,aG,Nat.add_comm];show _=fu s ([g.1]++G.map (·.1)) _ x ([g.1].length+G.length);rw[hc];show _=0+dv (λsh=>look ([g.1].getD 0 []) (x - s*sh)) (Ay g.2.1 (v.take g.2.2))+_;rw[bP];rfl
  ·cases i with
   | zero=>cases (show g=u from by simpa using hu);have:=sU _ _ z hz;rw[l1] at this;exact this
   | succ i=>exact h2 i u (by simpa using hu) z hz
  ·rw[<- a8 g.2.2 v] at ha;rcases ax.mp ha with ha | ha
   ·exact uX _ _ (hz 0 (Nat.succ_pos _)) a ha
   ·exact h3 (λi hi=>hz (i+1) (by rw[aG];lia)) a ha
def Indep (s p:Int)(bs:List Pt):Prop:= ∀J:Nat ->Pt,(∀x,fu s bs J x bs.length % p=0) -> ∀i,i<bs.length -> ∀y,dA (J i) y % p=0
def Trim (s p:Int)(sts:List Pt)(D:Int):Prop:= ∀ (i j:Nat) st bB c len,i<j ->sts[i]? =some st ->sts[j]? =some bB ->Sr s p bB c len D -> ∀x,bM s x=c ->look st x≠0 ->0<=hI s x /\ hI s x<len
section
variable {s p D:Int}{sts bs:List Pt}
theorem j7 {sts:List Pt}{i:Nat}{st:Pt}(h:sts[i]? =some st):sts.getD i []=st:=by rw[bI,h];rfl
theorem yJ {s:Int}{bs:List Pt}{J:Nat ->Pt}{x:Int}: ∀n,(∀i,i<n -> ∀z∈J i,look (bs.getD i []) (x - s*z.1)=0) ->fu s bs J x n=0
 | 0,_=>rfl
 | n+1,h=>by rw[fu,yJ n λi hi=>h i (by lia),eR λz hz=>h n (by lia) z hz];rfl
theorem count_le {t:Pt}{w h an:Nat}{alo Lm:Int}(hp:p=2 \/ p=3 \/ p=5 \/ p=7)(s0:0<s)(f9:qw s p sts D)(trim:an=0 \/ Trim s p sts D)(EW:bs.length=sts.length)(ind:Indep s p bs)(gU: ∀b∈bs,cX s p sts (look b))(hw: ∀b∈bs, ∀x,look b x≠0 -> -(w:Int) <=hI s x /\ hI s x<=w) (ht:t∈sts) (hh:2*w<=h) (Vi: ∀st∈sts,d6 s st<=Lm) (hLh:Lm<=h) (a0:0<=alo) (a1:alo+an+Lm<=h) (out: ∀js:Pt,(∀z∈js,alo<=z.1 /\ z.1<alo+an) ->(∀x,¬(0<=hI s x /\ hI s x<h) ->dv (λsh=>look t (x - s*sh)) js % p=0) -> ∀y,dA js y % p=0): sts.length*(h - 2*w)+an+(sts.map λst=>(d6 s st).toNat).sum<=sts.length*h:=by
 have p0:0<p:=by lia
 have sn:s≠0:=by lia
 have kE: ∀ (i:Nat) st,sts[i]? =some st ->Sr s p st (dg s st) (d6 s st) D:=λi st hi=>by obtain⟨c,len,sr,_⟩:=f9.each i st hi;rw[sr.j9,sr.gZ];exact sr
 let G:List (Pt×Int×Nat):=bs.map (λb=>(b,(w:Int),h - 2*w))++((t,alo,an)::sts.map λst=>([(dg s st,1)],0,(d6 s st).toNat))
 let X:List Int:=sts.flatMap λst=>(List.range h).map λη:Nat=>dg s st+(η:Int)*s
 have hX:X.length=sts.length*h:=by show(sts.flatMap _).length=_;rw[List.length_flatMap];have:(sts.map λst=>((List.range h).map λη:Nat=>dg s st+(η:Int)*s).length)=List.replicate sts.length h:=List.eq_replicate_iff.mpr ⟨by simp,λb hb=>by obtain⟨a,_,rfl⟩:=af.mp hb;simp⟩;rw[this,List.sum_replicate_nat]
 have hG:(cps s G).length=sts.length*(h - 2*w)+an+(sts.map λst=>(d6 s st).toNat).sum:=by rw[z3];show((bs.map (λb=>(b,(w:Int),h - 2*w))++((t,alo,an)::sts.map λst=>([(dg s st,1)],0,(d6 s st).toNat))).map λg:Pt×Int×Nat=>g.2.2).sum=_;rw[aN,List.sum_append,aH,List.sum_cons,aD,aD];have:(bs.map ((λg:Pt×Int×Nat=>g.2.2) ∘ λb=>(b,(w:Int),h - 2*w)))=List.replicate bs.length (h - 2*w):=List.eq_replicate_iff.mpr ⟨by simp,λb hb=>by obtain⟨a,_,rfl⟩:=af.mp hb;rfl⟩;rw[this,List.sum_replicate_nat,EW,Nat.add_assoc];rfl
 rw[<- hG, <- hX];obtain⟨P,hP⟩: ∃P:Nat,(P:Int)=p:=⟨p.toNat,by lia⟩
 refine ME (p:=P) (by lia) λv hv hz=> ?_;rw[hP] at hz ⊢;obtain⟨J,e1,e2,e3⟩:=Ei (p:=p) s G v hv;have GB:G.map (·.1)=bs++(t::sts.map λst=> [(dg s st,1)]):=by show(bs.map (λb=>(b,(w:Int),h - 2*w))++((t,alo,an)::sts.map λst=>([(dg s st,1)],0,(d6 s st).toNat))).map (·.1)=_;rw[aN,aH,aD,aD];congr 1;exact List.map_id _
 have GL:G.length=bs.length+(1+sts.length):=by show(bs.map (λb=>(b,(w:Int),h - 2*w))++((t,alo,an)::sts.map λst=>([(dg s st,1)],0,(d6 s st).toNat))).length=_;rw[aL,aa,aG,aa];lia
 let C:Int ->Int:=λx=>fu s (sts.map λst=> [(dg s st,1)]) (λi=>J (bs.length+(1+i))) x sts.length
 let B:Int ->Int:=λx=>dv (λsh=>look t (x - s*sh)) (J bs.length)
 let U:Int ->Int:=λx=>fu s bs J x bs.length
 have eJ: ∀x,lc v (cps s G) x=U x+(B x+C x):=λx=>by rw[e1,GB,GL,lx];have:=lx s [t] (sts.map λst=> [(dg s st,1)]) (λi=>J (bs.length+i)) x sts.length;show U x+fu s ([t]++sts.map λst=> [(dg s st,1)]) (λi=>J (bs.length+i)) x ([t].length+sts.length)=_;rw[this];show U x+(0+dv (λsh=>look t (x - s*sh)) (J (bs.length+0))+C x)=_;rw[bP,Nat.add_zero]
 have kU: ∀i,i<bs.length -> ∀z∈J i,(w:Int) <=z.1 /\ z.1< (w:Int)+((h - 2*w:Nat):Int):=λi hi z ng=>by have:=e2 i (bs[i],(w:Int),h - 2*w) (by show(bs.map _++_)[i]? =_;rw[a9 (by simpa using hi),aA,ae hi];rfl) z ng;exact this
 have kB: ∀z∈J bs.length,alo<=z.1 /\ z.1<alo+an:=λz ng=>by have:=e2 bs.length (t,alo,an) (by show(bs.map _++_)[bs.length]? =_;rw[aU (by simp)];simp) z ng;exact this
 have kC: ∀i st,sts[i]? =some st -> ∀z∈J (bs.length+(1+i)),0<=z.1 /\ z.1<d6 s st:=λi st hi z ng=>by have:=e2 (bs.length+(1+i)) ([(dg s st,1)],0,(d6 s st).toNat) (by show(bs.map _++_)[_]? =_;rw[aU (by simp),aa,Nat.add_sub_cancel_left,Nat.add_comm,List.getElem?_cons_succ,aA,hi];rfl) z ng;have h2:=(kE i st hi).l0;refine⟨this.1,?_⟩;have h3:=this.2;simp only[bP] at h3;lia
 have zU: ∀x,¬(0<=hI s x /\ hI s x<h) ->U x=0:=λx hx=>yJ _ λi hi z ng=>au λc8=>hx (by
  have hb:bs.getD i []∈bs:=by rw[j7 (ae hi)];exact bW _
  have h1:=hw _ hb _ c8;rw[jE sn] at h1;have h2:=kU i hi z ng;omega)
 have single: ∀ (c x:Int),look [(c,1)] x≠0 ->x=c:=λc x c8=>au λhn=>c8 (dX λq hq e=>hn (by rw[ah.mp hq] at e;exact e.symm));have atC: ∀x i st,sts[i]? =some st ->bM s x=dg s st ->C x % p=dv (λsh=>look [(dg s st,1)] (x - s*sh)) (J (bs.length+(1+i))) % p:=λx i st hi hx=>by
  have hl:=(ag.mp hi).1;have h1:=sF (s:=s) (p:=p) (sts:=sts.map λst=> [(dg s st,1)]) (J:=λi=>J (bs.length+(1+i))) (x:=x) (i:=i) sts.length hl λj hj Qw=>by
   have gX:sts[j]? =some sts[j]:=ae hj;rw[j7 (st:= [(dg s sts[j],1)]) (by rw[aA,gX];rfl)];rw[eR λz ng=>au λc8=> ?_]
   ·rfl
   ·have h2:=single _ _ c8;have h3:bM s (x - s*z.1)=dg s sts[j]:=by rw[h2];exact(kE j _ gX).ok.own
    rw[gf,hx] at h3;rcases Nat.lt_or_ge i j with q | q
    ·have:=f9.yS i j st _ _ _ _ _ q hi gX (kE i st hi) (kE j _ gX);omega
    ·have:=f9.yS j i _ st _ _ _ _ (by omega) gX hi (kE j _ gX) (kE i st hi);omega
  have e4:(sts.map λst=> [(dg s st,(1:Int))]).getD i []= [(dg s st,1)]:=j7 (by rw[aA,hi];rfl);rw[e4] at h1;exact h1
 have YK: ∀ (c x:Int) (js:Pt),dv (λsh=>look [(c,1)] (x - s*sh)) js=dv (λsh=>if x - s*sh=c then 1 else 0) js:=λc x js=>by
  congr 1;funext sh;by_cases e:x - s*sh=c
  ·rw[ak e,e];exact ak rfl
  ·rw[aj e];exact dX λq hq e'=>e (by rw[ah.mp hq] at e';exact e'.symm)
 have Ra : ∀i st,sts[i]? =some st -> ∀x,bM s x=dg s st ->(U x+B x+C x) % p=0:=λi st hi x hx=>by
  by_cases hr:0<=hI s x /\ hI s x<h
  ·have:x∈X:=List.mem_flatMap.mpr ⟨st,ai hi,af.mpr ⟨(hI s x).toNat,List.mem_range.mpr (by lia),by rw[show(((hI s x).toNat:Nat):Int)=hI s x by lia];exact(nk (by lia) hx).symm⟩⟩;have:=hz x this;rwa [eJ, <- Int.add_assoc] at this
  ·have hb:B x=0:=eR λz ng=>au λc8=>hr (by
    have h2:=kB z ng;obtain⟨k,hk⟩:=bA.mp ht;have hc:bM s (x - s*z.1)=dg s st:=by rw[gf];exact hx
    have h3:0<=hI s (x - s*z.1) /\ hI s (x - s*z.1) <=Lm:=by
     rcases trim with an0 | trim
     ·exfalso;omega
     rcases Nat.lt_trichotomy k i with q | q | q
     ·have:=trim k i t st _ _ q hk hi (kE i st hi) _ hc c8;have:=Vi st (ai hi);omega
     ·subst q;rw[hk] at hi;cases hi;have:=(kE k t hk).n9 _ (cJ c8) hc;have:=Vi t ht;omega
     ·have h5:=f9.yS i k st t _ _ _ _ q hi hk (kE i st hi) (kE k t hk);have:=(kE k t hk).ge _ (cJ c8);omega
    rw[jE sn] at h3;omega)
   have hc:C x % p=0:=by
    rw[atC x i st hi hx,eR λz ng=>au λc8=>hr ?_]
    ·rfl
    ·have h2:=single _ _ c8;have h3:hI s (x - s*z.1)=0:=by rw[h2];exact EZ (kE i st hi).ok
     rw[jE sn] at h3;have:=kC i st hi z ng;have:=Vi st (ai hi);omega
   rw[zU x hr,hb,bH,hc];rfl
 have hUB:cX s p sts λx=>U x+B x:=(cX.fu gU J _ (aq _)).add ((cX.of ht).dv _);have hzero: ∀x,(U x+B x) % p=0:=by
  obtain⟨J',Sw⟩:=hUB;intro x;rw[Sw];refine yH hp (by lia) f9 Sw (λi st c len hi sr x hx c8=> ?_) x;have e5:=sr.uniq (kE i st hi);rw[e5.1] at hx;have h0:=Ra i st hi x hx;have NK:C x % p≠0:=λe=>c8 (by rw[bH,e,bu,cE] at h0;exact h0);rw[atC x i st hi hx,YK] at NK;have: ∃z∈J (bs.length+(1+i)),x - s*z.1=dg s st:=au λhn=>NK (by rw[eR λz ng=>aj λe=>hn ⟨z,ng,e⟩];rfl);obtain⟨z,Nr,P5⟩:=this;have h3:hI s (x - s*z.1)=0:=by rw[P5];exact EZ (kE i st hi).ok
  rw[jE sn] at h3;have:=kC i st hi z Nr;rw[e5.2];exact⟨by lia,by lia⟩
 have YA: ∀y,dA (J bs.length) y % p=0:=out _ kB λx hx=>by have h1:=hzero x;rw[zU x hx,bP] at h1;exact h1
 have hBx: ∀x,B x % p=0:=λx=>jJ _ _ _ (aq _) YA;have hU0:=ind J λx=>by have h1:=hzero x;rw[bH,hBx,bu,cE] at h1;exact h1
 refine e3 λi hi y=> ?_;rw[GL] at hi;rcases Nat.lt_trichotomy i bs.length with q | q | q
 ·exact hU0 i q y
 ·rw[q];exact YA y
 ·obtain⟨k,rfl⟩: ∃k,i=bs.length+(1+k):=⟨i - bs.length - 1,by lia⟩
  have hk:sts[k]? =some sts[k]:=ae (by lia);have hx:bM s (dg s sts[k]+y*s)=dg s sts[k]:=(kE k _ hk).ok.on y;have h0:=Ra k _ hk _ hx;rw[bH,hzero,bP,cE,atC _ k _ hk hx,YK] at h0;have e6:(λsh=>if dg s sts[k]+y*s - s*sh=dg s sts[k] then(1:Int) else 0)=λsh=>if y - sh=0 then 1 else 0:=by
   funext sh;have e7:dg s sts[k]+y*s - s*sh=dg s sts[k]+(y - sh)*s:=by rw[Int.sub_mul,bK s sh];lia
   by_cases z:y - sh=0
   ·rw[ak z,e7,z,ak (by lia)]
   ·rw[aj z,e7,aj];intro e8;have:(y - sh)*s=0:=by lia
    rcases Int.mul_eq_zero.mp this with h9 | h9
    ·exact z h9
    ·exact sn h9
  rw[e6,Ac] at h0;exact h0
end
section
variable {s p D:Int}{sts bs:List Pt}
theorem qw.of (f9:qw s p sts D){st:Pt}(h:st∈sts):Sr s p st (dg s st) (d6 s st) D:=by obtain⟨i,hi⟩:=bA.mp h;obtain⟨c,len,sr,_⟩:=f9.each i st hi;rw[sr.j9,sr.gZ];exact sr
theorem w5 {α:Type}{f:α ->Nat}: ∀ {l:List α} {a:α},a∈l ->f a<=(l.map f).sum
 | b::l,a,h=>by
  rw[aH,List.sum_cons];rcases av.mp h with rfl | h
  ·lia
  ·have:=w5 (f:=f) h;lia
theorem pA {m h w:Nat}(hh:2*w<=h){a:Nat}(e:m*(h - 2*w)+a<=m*h):a<=2*m*w:=by
 have:m*(h - 2*w)+m*(2*w)=m*h:=by rw[<- Nat.mul_add];congr 1;lia
 have e2:m*(2*w)=2*m*w:=by rw[Nat.mul_left_comm,Nat.mul_assoc]
 lia
theorem zk {w:Nat}(hp:p=2 \/ p=3 \/ p=5 \/ p=7)(s0:0<s)(f9:qw s p sts D)(EW:bs.length=sts.length)(ind:Indep s p bs)(gU: ∀b∈bs,cX s p sts (look b))(hw: ∀b∈bs, ∀x,look b x≠0 -> -(w:Int) <=hI s x /\ hI s x<=w): (sts.map λst=>(d6 s st).toNat).sum<=2*sts.length*w:=by
 cases hs:sts with
 | nil=>exact cU _
 | cons t r=>
  rw[<- hs];have ht:t∈sts:=by rw[hs];exact aE
  have hL: ∀st∈sts,d6 s st<=(((sts.map λst=>(d6 s st).toNat).sum:Nat):Int):=λst h=>by have:=w5 (f:=λst=>(d6 s st).toNat) h;have:=(f9.of h).l0;lia
  have:=count_le (t:=t) (w:=w) (h:=2*w+(sts.map λst=>(d6 s st).toNat).sum) (an:=0) (alo:=0) (Lm:=(((sts.map λst=>(d6 s st).toNat).sum:Nat):Int)) hp s0 f9 (.inl rfl) EW ind gU hw ht (by lia) hL (by push_cast;lia) (aV _) (by push_cast;lia) λjs hk _ y=>by
   have:js= []:=by
    cases js with
    | nil=>rfl
    | cons z r=>have:=hk z aE;simp at this;lia
   rw[this];rfl
  rw[Nat.add_zero] at this;exact pA (by lia) this
theorem Dc {w:Nat}(hp:p=2 \/ p=3 \/ p=5 \/ p=7)(s0:0<s)(f9:qw s p sts D)(trim:Trim s p sts D)(EW:bs.length=sts.length)(ind:Indep s p bs)(gU: ∀b∈bs,cX s p sts (look b))(hw: ∀b∈bs, ∀x,look b x≠0 -> -(w:Int) <=hI s x /\ hI s x<=w) {t:Pt} (ht:t∈sts) {x:Int} (hx:look t x≠0): -((2*sts.length*w:Nat):Int) <=hI s x /\ hI s x<=((2*sts.length*w:Nat):Int):=by
 have sn:s≠0:=by lia
 have p0:0<p:=by lia
 have hL: ∀st∈sts,d6 s st<=(((sts.map λst=>(d6 s st).toNat).sum:Nat):Int):=λst h=>by have:=w5 (f:=λst=>(d6 s st).toNat) h;have:=(f9.of h).l0;lia
 have gt:=mX (f9.of ht).pat;have c8:nE s (bM s x) (dN t)≠ []:=λe=>by have:=jB (cJ hx) (rfl:bM s x=bM s x);rw[e] at this;cases this
 obtain⟨ma,mb⟩:=lP c8;obtain⟨la,lb⟩:=fg c8;generalize qT _=H at ma mb;generalize eM _=B at la lb;have hxH:=mb _ (jB (cJ hx) rfl);have hxB:=lb _ (jB (cJ hx) rfl);obtain⟨mh,mc⟩:=ub (by lia) ma;obtain⟨lh,lc'⟩:=ub (by lia) la;have GW:iU s (bM s x):=tY (by lia);have GS: ∀k,H<k ->look t (bM s x+k*s)=0:=λk hk=>au λhn=>by have:=mb _ (jB (cJ hn) (GW.on k));rw[l4 GW sn] at this;lia
 have Tu: ∀k,k<B ->look t (bM s x+k*s)=0:=λk hk=>au λhn=>by have:=lb _ (jB (cJ hn) (GW.on k));rw[l4 GW sn] at this;lia
 have hmul: ∀a b:Int,bM s x+a*s - s*b=bM s x+(a - b)*s:=λa b=>by rw[Int.sub_mul,bK s b];lia
 have S:=zk hp s0 f9 EW ind gU hw;have uI: ∀js:Pt,(∃y,dA js y % p≠0) ->(js.map (·.1)).filter (λy=>decide (dA js y % p≠0))≠ []:=λjs ⟨y,hy⟩ e=>by have:y∈(js.map (·.1)).filter (λy=>decide (dA js y % p≠0)):=aP.mpr ⟨jN λe0=>hy (by rw[e0];rfl),decide_eq_true hy⟩;rw[e] at this;cases this
 have Eo: ∀ (js:Pt) y,dA js y % p≠0 ->y∈(js.map (·.1)).filter (λy=>decide (dA js y % p≠0)):=λjs y hy=>aP.mpr ⟨jN λe0=>hy (by rw[e0];rfl),decide_eq_true hy⟩;generalize hΛ:(sts.map λst=>(d6 s st).toNat).sum=Λ at hL S;constructor
 ·rcases Int.lt_or_le B 0 with hb | hb
  ·have :=count_le (t:=t) (w:=w) (h:=(-B).toNat+Λ+2*w) (an:=(-B).toNat) (alo:=0) (Lm:=(Λ:Int)) hp s0 f9 (.inr trim) EW ind gU hw ht (by lia) hL (by push_cast;lia) (aV _) (by push_cast;lia) λjs hk hz y=>by
    refine au λhy=> ?_;obtain⟨k1,k2⟩:=fg (uI js ⟨y,hy⟩);generalize eM _=k at k1 k2;have UT:dA js k % p≠0:=by simpa using(aP.mp k1).2
    obtain⟨z,Nr,P5⟩:=af.mp (aP.mp k1).1;have UR:=hk z Nr;rw[P5] at UR;have h1:=hz (bM s x+(B+k)*s) (by rw[l4 GW sn];lia);rw[pU _ js k λy' ne=> ?_,hmul,show B+k - k=B by lia] at h1
    ·have hv:=dM gt lh;exact qQ hp UT _ hv.1 hv.2 h1
    ·rw[hmul];rcases Int.lt_or_le y' k with h | h
     ·have:dA js y' % p=0:=au λh2=>by have:=k2 _ (Eo js y' h2);lia
      rw[bZ,this,Int.mul_zero];rfl
     ·rw[Tu _ (by lia),bG];rfl
   rw[hΛ,Nat.add_assoc] at this;have:=pA (by lia) this;lia
  ·lia
 ·rcases Int.lt_or_le (Λ:Int) H with hb | hb
  ·have :=count_le (t:=t) (w:=w) (h:=H.toNat+2*w) (an:=(H - Λ).toNat) (alo:=2*w) (Lm:=(Λ:Int)) hp s0 f9 (.inr trim) EW ind gU hw ht (by lia) hL (by push_cast;lia) (by lia) (by push_cast;lia) λjs hk hz y=>by
    refine au λhy=> ?_;obtain⟨k1,k2⟩:=lP (uI js ⟨y,hy⟩);generalize qT _=k at k1 k2;have UT:dA js k % p≠0:=by simpa using(aP.mp k1).2
    obtain⟨z,Nr,P5⟩:=af.mp (aP.mp k1).1;have UR:=hk z Nr;rw[P5] at UR;have h1:=hz (bM s x+(H+k)*s) (by rw[l4 GW sn];push_cast;lia);rw[pU _ js k λy' ne=> ?_,hmul,show H+k - k=H by lia] at h1
    ·have hv:=dM gt mh;exact qQ hp UT _ hv.1 hv.2 h1
    ·rw[hmul];rcases Int.lt_or_le k y' with h | h
     ·have:dA js y' % p=0:=au λh2=>by have:=k2 _ (Eo js y' h2);lia
      rw[bZ,this,Int.mul_zero];rfl
     ·rw[GS _ (by lia),bG];rfl
   rw[hΛ,Nat.add_assoc] at this;have:=pA (by lia) this;lia
  ·lia
theorem vD {A:Int ->Int}{c:Int}(hp:p=2 \/ p=3 \/ p=5 \/ p=7)(s0:0<=s)(f9:qw s p sts D)(h:cX s p sts A)(hz: ∀x,bM s x<c ->A x % p=0)(hx: ∃x,bM s x=c /\ A x % p≠0):c∈sts.map (dg s):=by
 obtain⟨J,hJ⟩:=h;obtain⟨x0,Uj,c8⟩:=hx;refine au λhc=>c8 ?_;have get: ∀i st,sts[i]? =some st ->sts.getD i []=st:=λi st h=>j7 h;have sr: ∀i (hi:i<sts.length),Sr s p sts[i] (dg s sts[i]) (d6 s sts[i]) D:=λi hi=>f9.of (bW _);have later: ∀i j (hi:i<sts.length) (hj:j<sts.length),i<j -> ∀x,bM s x<=dg s sts[i] ->dv (λsh=>look sts[j] (x - s*sh)) (J j)=0:=λi j hi hj fY x hx=>eR λz _=>au λhn=>by have h1:=(sr j hj).ge _ (cJ hn);rw[gf] at h1;have:=f9.yS i j _ _ _ _ _ _ fY (ae hi) (ae hj) (sr i hi) (sr j hj);lia
 have key: ∀ (i:Nat) (hi:i<sts.length),dg s sts[i] <c -> ∀x,dv (λsh=>look sts[i] (x - s*sh)) (J i) % p=0:=λi=>by
  induction i using Nat.strongRecOn with
  | ind i ih=>
   intro hi eX x;refine z8 hp s0 (sr i hi) (λx hx hn=> ?_) x;exfalso;refine hn ?_;have h1:=hz x (by lia);rw[hJ,sF (i:=i) _ hi λj hj Qw=> ?_,get i _ (ae hi)] at h1
   ·exact h1
   ·rw[get j _ (ae hj)];rcases Nat.lt_or_ge j i with q | q
    ·have:=f9.yS j i _ _ _ _ _ _ q (ae hj) (ae hi) (sr j hj) (sr i hi);exact ih j q hj (by lia) x
    ·rw[later i j hi hj (by lia) x (by lia)];rfl
 rw[hJ];have : ∀ m,m<=sts.length ->fu s sts J x0 m % p=0:=λm=>by
  induction m with
  | zero=>intro _;exact Int.zero_emod _
  | succ m ih=>
   intro hm;have FR:m<sts.length:=by lia
   rw[fu,bH,ih (by lia),get m _ (ae FR)];have h2:dv (λsh=>look sts[m] (x0 - s*sh)) (J m) % p=0:=by
    rcases Int.lt_trichotomy (dg s sts[m]) c with q | q | q
    ·exact key m FR q x0
    ·exact absurd (af.mpr ⟨_,bW FR,q⟩) hc
    ·rw[eR λz _=>au λhn=>by have h1:=(sr m FR).ge _ (cJ hn);rw[gf] at h1;lia];rfl
   rw[h2];rfl
 exact this _ (aq _)
theorem oH (F G:Int ->Int): ∀js:Pt,dv (λt=>F t+G t) js=dv F js+dv G js
 | []=>rfl
 | z::r=>by rw[cf,cf,cf,oH F G r,Int.add_mul];lia
theorem z4 (F:Int ->Int)(k:Int): ∀js:Pt,dv (λt=>F t*k) js=dv F js*k
 | []=>by show(0:Int)=0*k;simp
 | z::r=>by rw[cf,cf,z4 F k r,Int.add_mul];congr 1;rw[Int.mul_assoc,Int.mul_assoc,bK k]
theorem vT (f:Int ->Int)(s x:Int)(q:Pt): ∀a:Pt,dv (λsh=>dv (λt=>f (x - s*sh - s*t)) q) a=dv (λt=>dv (λsh=>f (x - s*t - s*sh)) a) q
 | []=>by rw[show(λt:Int=>dv (λsh=>f (x - s*t - s*sh)) [])=λ_=>0 from rfl,z6];rfl
 | z::r=>by have e:(λt=>dv (λsh=>f (x - s*t - s*sh)) (z::r))=λt=>f (x - s*t - s*z.1)*z.2+dv (λsh=>f (x - s*t - s*sh)) r:=rfl;rw[cf,vT f s x q r,e,oH,z4];congr 2;congr 1;funext t;congr 1;lia
theorem z7 {F G:Int ->Int}(h: ∀t,F t % p=G t % p): ∀js:Pt,dv F js % p=dv G js % p
 | []=>rfl
 | z::r=>by rw[cf,cf,bH,z7 h r,bZ,h, <- bZ, <- bH]
theorem xO {sts':List Pt}{D':Int}{P:Pt}(hp:p=2 \/ p=3 \/ p=5 \/ p=7)(s0:0<s)(f9:qw s p sts D)(iy:qw s p sts' D')(ind:Indep s p bs)(gU: ∀b∈bs,cX s p sts (look b))(hlen:sts.length<sts'.length) (hq: ∀st∈sts', ∃q:Pt,cX s p sts λx=>look st x - dv (λsh=>look P (x - s*sh)) q):Indep s p (bs++ [P]):=by
 have sn:s≠0:=by lia
 intro J hJ;have vv: ∀x,(fu s bs J x bs.length+dv (λsh=>look P (x - s*sh)) (J bs.length)) % p=0:=λx=>by
  have h1:=hJ x;rw[aL,cY,lx s bs [P] J x 1] at h1;have e:fu s [P] (λi=>J (bs.length+i)) x 1=dv (λsh=>look P (x - s*sh)) (J bs.length):=by show 0+dv (λsh=>look ([P].getD 0 []) (x - s*sh)) (J (bs.length+0))=_;rw[bP];rfl
  rw[e] at h1;exact h1
 have a0 : ∀ y,dA (J bs.length) y % p=0:=by
  intro y;refine au λhy=> ?_;have hP:cX s p sts λx=>dv (λsh=>look P (x - s*sh)) (J bs.length):=by refine((cX.fu gU J _ (aq _)).mul (-1)).ext λx=> ?_;have h1:=vv x;refine cc.mpr ?_;rw[<- h1];congr 1;lia
  have hA: ∀st∈sts',cX s p sts λx=>dv (λsh=>look st (x - s*sh)) (J bs.length):=λst jZ=>by obtain⟨q,hq⟩:=hq st jZ;refine((hq.dv (J bs.length)).add (hP.dv q)).ext λx=> ?_;rw[<- vT (look P) s x q (J bs.length), <- oH];congr 2;funext sh;lia
  have c8:((J bs.length).map (·.1)).filter (λy=>decide (dA (J bs.length) y % p≠0))≠ []:=λe=>by have:y∈((J bs.length).map (·.1)).filter (λy=>decide (dA (J bs.length) y % p≠0)):=aP.mpr ⟨jN λe0=>hy (by rw[e0];rfl),decide_eq_true hy⟩;rw[e] at this;cases this
  obtain⟨k1,k2⟩:=lP c8;generalize qT _=m at k1 k2;have hm:dA (J bs.length) m % p≠0:=by simpa using(aP.mp k1).2
  have QI: ∀c∈sts'.map (dg s),c∈sts.map (dg s):=λc hc=>by
   obtain⟨st,jZ,rfl⟩:=af.mp hc;have sr:=iy.of jZ;have hmul: ∀a b:Int,dg s st+a*s - s*b=dg s st+(a - b)*s:=λa b=>by rw[Int.sub_mul,bK s b];lia
   refine vD hp (by lia) f9 (hA st jZ) (λx hx=> ?_) ⟨dg s st+(d6 s st+m)*s,sr.ok.on _,?_⟩
   ·rw[eR λz _=>au λhn=>by have h1:=sr.ge _ (cJ hn);rw[gf] at h1;lia];rfl
   ·rw [pU _ (J bs.length) m λy' ne=> ?_,hmul,show d6 s st+m - m=d6 s st by lia,sr.top,Int.one_mul]
    ·exact hm
    ·rw [hmul];rcases Int.lt_or_le m y' with h | h
     ·have:dA (J bs.length) y' % p=0:=au λh2=>by have:=k2 y' (aP.mpr ⟨jN λe0=>h2 (by rw[e0];rfl),decide_eq_true h2⟩);lia
      rw[bZ,this,Int.mul_zero];rfl
     ·rw[sr.out sn (by lia),bG];rfl
  have nd:(sts'.map (dg s)).Nodup:=by rw[List.Nodup,bY,bj];intro i j hi hj fY e;have:=iy.yS i j _ _ _ _ _ _ fY (ae hi) (ae hj) (iy.of (bW _)) (iy.of (bW _));lia
  have:=gA nd QI;rw[aa,aa] at this;lia
 intro i hi y;rw[aL,cY] at hi;rcases Nat.lt_or_ge i bs.length with q | q
 ·refine ind J (λx=> ?_) i q y;have h1:=vv x;rw[bH,jJ _ _ _ (aq _) a0,bu,cE] at h1;exact h1
 ·rw[show i=bs.length by lia];exact a0 y
end
def jm (s Z l h:Int)(a:Pt):Prop:=(∀x,look a x≠0 -> -l<=hI s x /\ hI s x<=h) /\ (s=0 ->Wt Z a)
def ny (s l h:Int)(P:Pq):Prop:= ∀w x,look (pf P w) x≠0 -> -l<=x /\ x<=h
section
variable {s p Z l h l' h':Int}{a b c:Pt}{P Q:Pq}
theorem jm.up (x:jm s Z l h a)(hl:l<=l')(hh:h<=h'):jm s Z l' h' a:=⟨λy hy=>by have:=x.1 y hy;lia,x.2⟩
theorem ny.up (x:ny s l h P)(hl:l<=l')(hh:h<=h'):ny s l' h' P:=λw y hy=>by have:=x w y hy;lia
theorem j6 (x:Int):hI 0 x=0:=ak rfl
theorem jm.wt (x:jm s Z l h a)(s0:0<=s)(s8:s<=8)(z0:0<=Z){E:Int}(hl:l<=E)(hh:h<=E)(e0:0<=E):Wt (Z+8*(E+1)) a:=λy hy=>by
 by_cases z:s=0
 ·have:=x.2 z y hy;lia
 ·have h1:=x.1 y hy;have h2:=xU (s:=s) (x:=y) (by lia);have h3:=aZ (show hI s y<=E by lia) s0;have h4:=aZ (show -E<=hI s y by lia) s0;have h5:=bg s8 e0;rw[Int.mul_neg] at h4;lia
theorem ny.wt (x:ny s l h P)(nd:(P.map (·.1)).Nodup){E:Int}(hl:l<=E)(hh:h<=E): ∀t∈P,Wt E t.2.2:=λt ht y hy=>by rw[<- o9 nd ht] at hy;have:=x t.1 y hy;lia
theorem jm.cut {lb hb jl jh:Int}{js:Pt}(ha:jm s Z l h a)(NN:jm s Z lb hb b)(ec: ∀x,look c x=(look a x+dv (λsh=>look b (x - s*sh)) js) % p)(hj: ∀j∈js, -jl<=j.1 /\ j.1<=jh)(FW:s=0 -> ∀j∈js,j.1=0) (hl:l<=l') (Ma:lb+jl<=l') (hh:h<=h') (hh2:hb+jh<=h'):jm s Z l' h' c:=by
 have one: ∀x,look c x≠0 ->look a x≠0 \/ ∃j∈js,look b (x - s*j.1)≠0:=λx hx=>by
  by_cases z:look a x=0
  ·refine .inr (au λhn=>hx ?_);rw[ec,z,eR λj gX=>au λhq=>hn ⟨j,gX,hq⟩];rfl
  ·exact .inl z
 refine⟨λx hx=> ?_,λz x hx=> ?_⟩
 ·rcases one x hx with q | ⟨j,gX,q⟩
  ·have:=ha.1 x q;lia
  ·have h1:=NN.1 _ q;have h2:=hj j gX;by_cases z:s=0
   ·have h3:=FW z j gX;rw[z,j6] at h1 ⊢;lia
   ·rw[jE z] at h1;lia
 ·rcases one x hx with q | ⟨j,gX,q⟩
  ·exact ha.2 z x q
  ·have:=NN.2 z _ q;rw[z,bG,Int.sub_zero] at this;exact this
theorem ny.cut {P':Pq}{lb hb jl jh:Int}{js:Pt}(ha:ny s l h P)(NN:ny s lb hb Q)(ec: ∀w x,look (pf P' w) x=(look (pf P w) x+dv (λsh=>look (pf Q w) (x - sh)) js) % p)(hj: ∀j∈js, -jl<=j.1 /\ j.1<=jh) (hl:l<=l') (Ma:lb+jl<=l') (hh:h<=h') (hh2:hb+jh<=h'):ny s l' h' P':=λw x hx=>by
 by_cases z:look (pf P w) x=0
 ·have: ∃j∈js,look (pf Q w) (x - j.1)≠0:=au λhn=>hx (by rw[ec,z,eR λj gX=>au λhq=>hn ⟨j,gX,hq⟩];rfl);obtain⟨j,gX,q⟩:=this;have h1:=NN w _ q;have h2:=hj j gX;lia
 ·have:=ha w x z;lia
theorem jm.stood {m tn:Int}(ha:jm s Z l h a)(eb: ∀x,look b x=look a (x+s*m)*tn % p)(hm:s=0 ->m=0):jm s Z (l+m) (h - m) b:=by
 have one: ∀x,look b x≠0 ->look a (x+s*m)≠0:=λx hx e=>hx (by rw[eb,e,bG];rfl);refine⟨λx hx=> ?_,λz x hx=> ?_⟩
 ·have h1:=ha.1 _ (one x hx);by_cases z:s=0
  ·have h2:=hm z;rw[z,j6] at h1 ⊢;lia
  ·rw[bK,oC z] at h1;lia
 ·have:=ha.2 z _ (one x hx);rw[z,bG,bu] at this;exact this
theorem ny.stood {m tn:Int}(ha:ny s l h P)(eb: ∀w x,look (pf Q w) x=look (pf P w) (x+m)*tn % p):ny s (l+m) (h - m) Q:=λw x hx=>by have:=ha w (x+m) (λe=>hx (by rw[eb,e,bG];rfl));lia
theorem wY {f len bl bh:Int}{ms:List Int}{js:Pt}(l0:0<=len)(hs:ms.Pairwise (· <= ·))(hn:ms.Nodup)(hm: ∀m∈ms,bl<=m /\ m<=bh)(hj: ∀j∈js, ∃h∈qg ms len,j.1=iD len h): ∀j∈js,(bl<=j.1 /\ j.1<0) \/ (0<=j.1 /\ j.1<=bh - len):=λj gX=>by
 obtain⟨h,hh,e⟩:=hj j gX;have H:=(Cq l0 hs hn).1.out h hh;have B:=Cs l0 hh;rw[e];unfold iD;split
 ·rename_i z;obtain⟨m,h1,h2⟩:=B.1 z;have:=hm m h1;exact .inl ⟨by lia,z⟩
 ·rename_i z;obtain⟨m,h1,h2⟩:=B.2 (by lia);have:=hm m h1;exact .inr ⟨by lia,by lia⟩
end
structure nr (s p:Int)(pats:List Pt)(b:Pt)(Q:Pq):Prop where
 is: ∀x,look b x % p=mJ s pats Q x pats.length % p
 key: ∀w∈Q.map (·.1),0<=w /\ w< (pats.length:Int)
def zF (q js:Pt):Pt:=js.flatMap λj=>tm j.2 (mv j.1 q)
theorem yx (q:Pt)(y:Int): ∀js:Pt,dA (zF q js) y=dv (λsh=>dA q (y - sh)) js
 | []=>rfl
 | j::r=>by show dA (tm j.2 (mv j.1 q)++zF q r) y=_;rw[gD,yx q y r,cf,sC,wX]
theorem Aa (G:Int ->Int)(q:Pt): ∀js:Pt,dv G (zF q js)=dv (λj=>dv (λsh=>G (sh+j)) q) js
 | []=>rfl
 | j::r=>by show dv G (tm j.2 (mv j.1 q)++zF q r)=_;rw[mq,Aa G q r,cf,pS, <- tV]
theorem yy {s p:Int}{pats:List Pt}{P P' Q:Pq}{js:Pt}(nP: ∀w,((pf P w).map (·.1)).Nodup)(RP: ∀w,((pf P' w).map (·.1)).Nodup)(nQ: ∀w,((pf Q w).map (·.1)).Nodup) (ep: ∀w x,look (pf P' w) x=(look (pf P w) x+dv (λsh=>look (pf Q w) (x - sh)) js) % p) (x:Int): ∀n,mJ s pats P' x n % p=(mJ s pats P x n+dv (λsh=>mJ s pats Q (x - s*sh) n) js) % p
 | 0=>by show(0:Int) % p=(0+dv (λ_=>0) js) % p;rw[z6];rfl
 | n +1=>by
  have h1:=Ab (p:=p) (λsh=>look (pats.getD n []) (x - s*sh)) (a:=pf P' n) (b:=pf P n++zF (pf Q n) js) λy=>by rw[gD,yx,fo (RP n),fo (nP n),ep,cE];congr 2;congr 1;funext sh;rw[fo (nQ n)]
  rw[mq,Aa] at h1;have e:(λsh=>mJ s pats Q (x - s*sh) (n+1))=λsh=>mJ s pats Q (x - s*sh) n+dv (λt=>look (pats.getD n []) (x - s*sh - s*t)) (pf Q n):=rfl;have e2:(λj=>dv (λsh=>look (pats.getD n []) (x - s*(sh+j))) (pf Q n))=λsh=>dv (λt=>look (pats.getD n []) (x - s*sh - s*t)) (pf Q n):=by funext j;congr 1;funext sh;congr 1;rw[Int.mul_add];lia
  rw[e2] at h1;rw[mJ,mJ,e,oH,bH,yy nP RP nQ ep x n,h1, <- bH];congr 1;lia
theorem qF {s p m tn:Int}{pats:List Pt}{P Q:Pq}(nP: ∀w,((pf P w).map (·.1)).Nodup)(nQ: ∀w,((pf Q w).map (·.1)).Nodup)(ep: ∀w x,look (pf Q w) x=look (pf P w) (x+m)*tn % p)(x:Int): ∀n,mJ s pats Q x n % p=mJ s pats P (x+s*m) n*tn % p
 | 0=>by show(0:Int) % p=0*tn % p;rw[bG]
 | n +1=>by
  have h1:=Ab (p:=p) (λsh=>look (pats.getD n []) (x - s*sh)) (a:=pf Q n) (b:=tm tn (mv (-m) (pf P n))) λy=>by rw[sC,wX,fo (nQ n),fo (nP n),ep,cE,Int.sub_neg]
  rw[pS, <- tV] at h1;have e2:(λsh=>look (pats.getD n []) (x - s*(sh+ -m)))=λsh=>look (pats.getD n []) (x+s*m - s*sh):=by funext sh;congr 1;rw[Int.mul_add,Int.mul_neg];lia
  rw[e2] at h1;rw[mJ,mJ,Int.add_mul,bH,qF nP nQ ep x n,h1, <- bH]
section
variable {s p:Int}{pats:List Pt}{a b c:Pt}{P P' Q:Pq}{js:Pt}
theorem nr.cut (ha:nr s p pats a P)(hb:nr s p pats b Q)(nP: ∀w,((pf P w).map (·.1)).Nodup)(RP: ∀w,((pf P' w).map (·.1)).Nodup)(nQ: ∀w,((pf Q w).map (·.1)).Nodup) (ec: ∀x,look c x=(look a x+dv (λsh=>look b (x - s*sh)) js) % p) (ep: ∀w x,look (pf P' w) x=(look (pf P w) x+dv (λsh=>look (pf Q w) (x - sh)) js) % p) (hk: ∀w∈P'.map (·.1),w∈P.map (·.1) \/ w∈Q.map (·.1)):nr s p pats c P':=⟨λx=>by rw[ec,cE,yy nP RP nQ ep,bH,ha.is,z7 (λsh=>hb.is (x - s*sh)) js, <- bH],λw hw=>(hk w hw).elim (ha.key w) (hb.key w)⟩
theorem nr.stood {m tn:Int}(ha:nr s p pats a P)(nP: ∀w,((pf P w).map (·.1)).Nodup)(nQ: ∀w,((pf Q w).map (·.1)).Nodup)(eb: ∀x,look b x=look a (x+s*m)*tn % p)(ep: ∀w x,look (pf Q w) x=look (pf P w) (x+m)*tn % p)(hk: ∀w∈Q.map (·.1),w∈P.map (·.1)):nr s p pats b Q:=⟨λx=>by rw[eb,cE,qF nP nQ ep,bZ,ha.is, <- bZ],λw hw=>ha.key w (hk w hw)⟩
theorem cX.back {G:List Pt}(hc:cX s p G (look c))(hb:cX s p G (look b))(ec: ∀x,look c x=(look a x+WQ.dv (λsh=>look b (x - s*sh)) js) % p):cX s p G (look a):=by refine(hc.add ((hb.dv js).mul (-1))).ext λx=> ?_;rw[ec,Int.emod_add_emod];congr 1;lia
theorem cX.sA {G:List Pt}{m tn:Int}(hp:p=2 \/ p=3 \/ p=5 \/ p=7)(t0:0<tn)(t1:tn<p)(hb:cX s p G (look b))(eb: ∀x,look b x=look a (x+s*m)*tn % p):cX s p G (look a):=by
 obtain ⟨u, hu⟩ : ∃u:Int,tn*u % p=1:=by
  rcases hp with rfl | rfl | rfl | rfl
  ·exact ⟨1, by have:tn=1:=by lia
                rw[this];rfl⟩
  ·have:tn=1 \/ tn=2:=by lia
   rcases this with rfl | rfl
   ·exact⟨1,rfl⟩
   ·exact⟨2,rfl⟩
  ·have:tn=1 \/ tn=2 \/ tn=3 \/ tn=4:=by lia
   rcases this with rfl | rfl | rfl | rfl
   ·exact⟨1,rfl⟩
   ·exact⟨3,rfl⟩
   ·exact⟨2,rfl⟩
   ·exact⟨4,rfl⟩
  ·have:tn=1 \/ tn=2 \/ tn=3 \/ tn=4 \/ tn=5 \/ tn=6:=by lia
   rcases this with rfl | rfl | rfl | rfl | rfl | rfl
   ·exact⟨1,rfl⟩
   ·exact⟨4,rfl⟩
   ·exact⟨5,rfl⟩
   ·exact⟨2,rfl⟩
   ·exact⟨3,rfl⟩
   ·exact⟨6,rfl⟩
 refine((hb.shift m).mul u).ext λx=> ?_;rw[eb,bZ,cE, <- bZ,show x - s*m+s*m=x by lia,Int.mul_assoc,bZ,hu,Int.mul_one,cE]
end
structure dY where
 c:Int
 o:Addr
 ds:Addr
 ol:Addr
 op:Addr
 len:Int
 foot:Int
 b:Pt
 Q:Pq
def dY.adr (t:dY):List Addr:=bL t.ol t.op t.Q
def kg (L:List dY):List (Key×W):=L.map λt=>((Sum.inl t.c:Key),wr t.o)
structure r9 (S:Addr)(s p:Int)(M:Mp)(t:dY):Prop where
 ins:M t.o=some (.ins S t.ds [("lamps",wr t.ol),("parts",wr t.op),("first",wi t.c),("length",wi t.len),("foot",wi t.foot)])
 row:cL p M t.ol t.op t.b t.Q
 lr:yi s p t.b t.c t.len t.foot
structure k7 (S:Addr)(s p:Int)(M:Mp)(hd:Addr)(L:List dY):Prop where
 rF:M hd=some (.dK (kg L))
 each: ∀t∈L,r9 S s p M t
 nd:(L.map (·.c)).Nodup
 nL:L.Pairwise λt u=> ∀x∈t.adr,x∉u.adr
 rh: ∀t∈L,hd∉t.adr
def gh (L:List dY)(t:dY):List dY:=L.map λu=>if u.c=t.c then t else u
section
variable {S:Addr}{s p:Int}{M M':Mp}{hd:Addr}{L:List dY}
theorem wN (L:List dY)(c:Int):d5 (kg L) (.inl c)=(L.find? λt=>decide (t.c=c)).map λt=>wr t.o:=by
 have:kg L=k8 (L.map λt=>(t.c,t.o,[])):=by unfold kg k8;rw[aD];rfl
 rw[this,sx,List.find?_map];cases e:L.find? (λt=>decide (t.c=c)) with
 | none=>rw[show((λt:Int×Addr×Pt=>decide (t.1=c)) ∘ λt:dY=>(t.c,t.o,[]))=λt=>decide (t.c=c) from rfl,e];rfl
 | some t=>rw[show((λt:Int×Addr×Pt=>decide (t.1=c)) ∘ λt:dY=>(t.c,t.o,[]))=λt=>decide (t.c=c) from rfl,e];rfl
theorem kF {c:Int}{t:dY}(h:L.find? (λt=>decide (t.c=c))=some t):t∈L /\ t.c=c:=⟨List.mem_of_find?_eq_some h,by simpa using List.find?_some h⟩
theorem oR {c:Int}(h:L.find? (λt=>decide (t.c=c))=none):c∉L.map (·.c):=λhm=>by obtain⟨t,ht,e⟩:=af.mp hm;have:=List.find?_eq_none.mp h t ht;simp[e] at this
theorem qI (nd:(L.map (·.c)).Nodup){t:dY}(h:t∈L):L.find? (λu=>decide (u.c=t.c))=some t:=by
 cases e:L.find? (λu=>decide (u.c=t.c)) with
 | none=>exact absurd (af.mpr ⟨t,h,rfl⟩) (oR e)
 | some u=>obtain⟨h1,h2⟩:=kF e;rw[fV nd h1 h h2]
theorem GA {c:Int}{t:dY}(hc:t.c=c)(h:c∉L.map (·.c)):iH (kg L) (.inl c) (wr t.o)=kg (L++ [t]):=by
 have e1:kg L=k8 (L.map λt=>(t.c,t.o,[])):=by unfold kg k8;rw[aD];rfl
 rw[e1,Dh (c:= []) (by rw[aD];exact h)];unfold kg k8;rw[aN,aN,aD, <- hc];rfl
theorem Gz {t:dY}(h:t.c∈L.map (·.c)):iH (kg L) (.inl t.c) (wr t.o)=kg (gh L t):=by
 unfold iH kg gh;have e:((L.map λt=>((Sum.inl t.c:Key),wr t.o)).any λq=>decide (q.1= .inl t.c))=true:=by rw[List.any_eq_true];obtain⟨u,hu,e⟩:=af.mp h;exact⟨_,af.mpr ⟨u,hu,rfl⟩,by simp[e]⟩
 rw[ak e,aD,aD];refine bF λu _=> ?_;show(if(Sum.inl u.c:Key)= .inl t.c then((Sum.inl u.c:Key),wr t.o) else((Sum.inl u.c:Key),wr u.o))=((Sum.inl (if u.c=t.c then t else u).c:Key),wr (if u.c=t.c then t else u).o)
 by_cases z:u.c=t.c
 ·rw[ak (by rw[z]),ak z,z]
 ·rw[aj (λq=>z (Sum.inl.inj q)),aj z]
theorem lT (L:List dY)(t:dY):(gh L t).map (·.c)=L.map (·.c):=by
 unfold gh;rw[aD];refine bF λu _=> ?_;show(if u.c=t.c then t else u).c=u.c;by_cases z:u.c=t.c
 ·rw[ak z,z]
 ·rw[aj z]
theorem dW {t u:dY}(h:u∈gh L t):u=t \/ (u∈L /\ u.c≠t.c):=by
 obtain⟨v,hv,e⟩:=af.mp h;by_cases z:v.c=t.c
 ·rw[ak z] at e;exact .inl e.symm
 ·rw[aj z] at e;subst e;exact .inr ⟨hv,z⟩
theorem r9.keep {t:dY}{F:List Addr}(h:r9 S s p M t)(k:d9 M M' F)(ho:t.o∉F)(ha: ∀x∈t.adr,x∉F):r9 S s p M' t:=⟨k _ _ h.ins ho,h.row.keep k ha,h.lr⟩
theorem r9.nd {t:dY}(h:r9 S s p M t)(w:Int):((pf t.Q w).map (·.1)).Nodup:=(h.row.Dw w).1
theorem cL.Lc {p:Int}{M:Mp}{rl rp:Addr}{a:Pt}{P:Pq}(h:cL p M rl rp a P)(w:Int):((pf P w).map (·.1)).Nodup:=(h.Dw w).1
theorem tT {t u:dY}(h:k7 S s p M hd L)(ht:t∈L)(hu:u∈L)(ne:t.c≠u.c): ∀x∈t.adr,x∉u.adr:=by
 have sym: ∀ {L:List dY},L.Pairwise (λt u=> ∀x∈t.adr,x∉u.adr) ->t∈L ->u∈L ->t≠u -> ∀x∈t.adr,x∉u.adr:=λ{L}=>by
  induction L with
  | nil=>intro _ h;cases h
  | cons v r ih=>
   intro hp h1 h2 h3;obtain⟨q1,q2⟩:=bT.mp hp;rcases av.mp h1 with e1 | k1
   ·rcases av.mp h2 with e2 | k2
    ·exact absurd (e1.trans e2.symm) h3
    ·rw[e1];exact q1 u k2
   ·rcases av.mp h2 with e2 | k2
    ·rw[e2];exact λx hx gk=>q1 t k1 x gk hx
    ·exact ih q2 k1 k2 h3
 exact sym h.nL ht hu λe=>ne (by rw[e])
end
def Kd (s c:Int):Int:=if s=0 then 0 else c
def qk (s Z c:Int):Nat:=if s=0 then(Z - c+1).toNat else(s - c).toNat
def vC (hd:Addr)(L:List dY)(rl rp:Addr)(P:Pq):List Addr:=hd::(L.flatMap (·.adr)++bL rl rp P)
structure WW (R S:Addr)(s p:Int)(M:Mp)(hd r dr rl rp:Addr)(pats:List Pt)(a:Pt)(P:Pq)(L:List dY):Prop where
 ins:M r=some (.ins R dr [("lamps",wr rl),("parts",wr rp)])
 held:k7 S s p M hd L
 row:cL p M rl rp a P
 nL: ∀t∈L, ∀x∈bL rl rp P,x∉t.adr
 rh:hd∉bL rl rp P
 md:nr s p pats a P
 qU: ∀t∈L,nr s p pats t.b t.Q
theorem nr.len {s p:Int}{pats:List Pt}{b:Pt}{Q:Pq}(h:nr s p pats b Q)(nd:(Q.map (·.1)).Nodup):Q.length<=pats.length:=by have:=gA (l:=wO 0 pats.length) nd λk hk=>lQ.mpr (by have:=h.key k hk;lia);rw[aa] at this;unfold wO at this;rw[aa,cV] at this;exact this
structure om (s Z E EP:Int)(t:dY):Prop where
 bx:jm s Z E E t.b
 len:t.len<=E
 bp:ny s EP EP t.Q
def GQ (R S:Addr):kb:=λxs M q=> ∃ (hd r dr rl rp:Addr) (p s Z K w KP:Int) (pats:List Pt) (a:Pt) (P:Pq) (L:List dY),xs= [wi p,wi s,wr hd,wr r] /\ (p=2 \/ p=3 \/ p=5 \/ p=7) /\ 0<=s /\ s<=8 /\ WW R S s p M hd r dr rl rp pats a P L /\0<=Z /\ 0<=K /\ 0<=w /\ 0<=KP /\ (s=0 ->K=0 /\ w=0) /\ Z+8*(2*(w+16*K)+2*K+2) <=400000 /\ KP+10*(w+18*K) <=900000 /\ pats.length<=100 /\ L.length<=1000 /\ jm s Z w w a /\ ny s KP KP P /\ (∀t∈L,om s Z K KP t) /\∀ M' L',k7 S s p M' hd L' ->d9 M M' (vC hd L rl rp P) ->(∀t∈L', ∀x∈t.adr,x∈vC hd L rl rp P \/ M x=none) ->(∀f,cX s p (L.map (·.b)++ [a]) f ->cX s p (L'.map (·.b)) f) ->(∀t∈L',nr s p pats t.b t.Q) ->(∀t∈L',om s Z (2*(w+2*K*s)) (KP+(s+1)*(w+2*K*s+2*K)) t) ->L'.length<=L.length+1 ->(∀c∈L.map (·.c),c∈L'.map (·.c)) ->q wn M'
section
variable {s Z K w KP c c2 dr:Int}{a c1:Pt}{P P1:Pq}{L:List dY}{t:dY}
def eA (s K w c:Int):Int:=w+2*K*Kd s c
def eP (s K w KP c:Int):Int:=KP+Kd s c*(w+2*K*s+2*K)
structure pY (s Z K w KP:Int):Prop where
 s0:0<=s
 k0:0<=K
 w0:0<=w
 PM:0<=KP
 uq:s=0 ->K=0 /\ w=0
theorem pY.E0 (h:pY s Z K w KP):0<=2*K*s:=Int.mul_nonneg (by have:=h.k0;lia) h.s0
theorem pY.step (h:pY s Z K w KP)(hc:c<c2):eA s K w c+2*K<=eA s K w c2:=by
 unfold eA Kd;by_cases z:s=0
 ·have:=h.uq z;rw[ak z,ak z];lia
 ·rw[aj z,aj z];have:=aZ (show c+1<=c2 by lia) (show 0<=2*K by have:=h.k0;lia);rw[Int.mul_add,Int.mul_one] at this;lia
theorem pY.top (h:pY s Z K w KP)(hc:s≠0 ->c+1<=s):eA s K w c+2*K<=w+2*K*s:=by
 unfold eA Kd;by_cases z:s=0
 ·have:=h.uq z;rw[ak z,z];lia
 ·rw[aj z];have:=aZ (hc z) (show 0<=2*K by have:=h.k0;lia);rw[Int.mul_add,Int.mul_one] at this;lia
theorem pY.low (h:pY s Z K w KP)(hc:s≠0 ->0<=c):w<=eA s K w c:=by
 unfold eA Kd;by_cases z:s=0
 ·rw[ak z];lia
 ·rw[aj z];have:=Int.mul_nonneg (show 0<=2*K by have:=h.k0;lia) (hc z);lia
theorem pY.OH (h:pY s Z K w KP)(hc:c<c2):eP s K w KP c+(w+2*K*s)+2*K<=eP s K w KP c2:=by
 unfold eP Kd;by_cases z:s=0
 ·have:=h.uq z;rw[ak z,ak z,z];lia
 ·rw[aj z,aj z];have h0:=h.E0;have:=bg (show c+1<=c2 by lia) (show 0<=w+2*K*s+2*K by have:=h.k0;have:=h.w0;lia);rw[Int.add_mul,Int.one_mul] at this;lia
theorem pY.S4 (h:pY s Z K w KP)(hc:s≠0 ->c+1<=s):eP s K w KP c+(w+2*K*s)+2*K<=KP+s*(w+2*K*s+2*K):=by
 unfold eP Kd;by_cases z:s=0
 ·have:=h.uq z;rw[ak z,z];lia
 ·rw[aj z];have h0:=h.E0;have:=bg (hc z) (show 0<=w+2*K*s+2*K by have:=h.k0;have:=h.w0;lia);rw[Int.add_mul,Int.one_mul] at this;lia
theorem pY.lowP (h:pY s Z K w KP)(hc:s≠0 ->0<=c):KP<=eP s K w KP c:=by
 unfold eP Kd;by_cases z:s=0
 ·rw[ak z];lia
 ·rw[aj z];have h0:=h.E0;have:=Int.mul_nonneg (hc z) (show 0<=w+2*K*s+2*K by have:=h.k0;have:=h.w0;lia);lia
theorem pY.KY (h:pY s Z K w KP):K<=w+2*K*s:=by
 by_cases z:s=0
 ·have:=h.uq z;rw[z];lia
 ·have:=aZ (show 1<=s by have:=h.s0;lia) (show 0<=2*K by have:=h.k0;lia);have:=h.w0;have:=h.k0;lia
theorem pY.Rm (h:pY s Z K w KP):KP<=KP+s*(w+2*K*s+2*K):=by have h0:=h.E0;have:=Int.mul_nonneg h.s0 (show 0<=w+2*K*s+2*K by have:=h.k0;have:=h.w0;lia);lia
theorem om.up {E EP E' YY:Int}(h:om s Z E EP t)(h1:E<=E')(h2:EP<=YY):om s Z E' YY t:=⟨h.bx.up h1 h1,by have:=h.len;lia,h.bp.up h2 h2⟩
structure Rf (s Z K w KP c:Int)(a:Pt)(P:Pq)(L:List dY):Prop where
 bx:jm s Z (eA s K w c) (eA s K w c) a
 bp:ny s (eP s K w KP c) (eP s K w KP c) P
 ge: ∀u∈L,c<=u.c ->om s Z K KP u
 lt: ∀u∈L,u.c<c ->om s Z (w+2*K*s) (KP+s*(w+2*K*s+2*K)) u
structure HV (s Z K w KP c dr:Int)(a:Pt)(P:Pq)(L:List dY)(t:dY):Prop where
 mem:t∈L
 at_:t.c=c
 shr:t.len<dr
 dk:dr<=K
 col: ∀x,bM s x=c ->look a x≠0 ->0<=hI s x /\ hI s x<=dr
 bx:jm s Z (eA s K w c+2*K - dr) (eA s K w c+2*K - dr) a
 bt:jm s Z (eA s K w c+2*K - t.len) (eA s K w c+2*K - dr) t.b
 bp:ny s (eP s K w KP c+(w+2*K*s)+2*K - dr) (eP s K w KP c+(w+2*K*s)+2*K - dr) P
 bq:ny s (eP s K w KP c+(w+2*K*s)+2*K - t.len) (eP s K w KP c+(w+2*K*s)+2*K - dr) t.Q
 gt: ∀u∈L,c<u.c ->om s Z K KP u
 lt: ∀u∈L,u.c<c ->om s Z (w+2*K*s) (KP+s*(w+2*K*s+2*K)) u
structure yl (s Z K w KP c:Int)(c1:Pt)(P1:Pq)(t:dY)(la lp:Int):Prop where
 bx:jm s Z la la c1
 bp:ny s lp lp P1
 low: ∀x,bM s x=c ->look c1 x≠0 ->0<=hI s x /\ hI s x<t.len
variable {p:Int}{js:Pt}{ms:List Int}
theorem Rf.cut (h:pY s Z K w KP)(ph:Rf s Z K w KP c a P L)(xS:s≠0 ->0<=c)(Mg:s≠0 ->c+1<=s)(ht:t∈L)(e:t.c=c)(l0:0<=t.len)(ga:GD p a) (mL:ms.Perm (nE s c (dN a))) (JB:ms.Pairwise (· <= ·)) (JK: ∀j∈js, ∃h∈qg ms t.len,j.1=iD t.len h) (ej:s=0 -> ∀j∈js,j.1=0) (ec: ∀x,look c1 x=(look a x+dv (λsh=>look t.b (x - s*sh)) js) % p) (ep: ∀w x,look (pf P1 w) x=(look (pf P w) x+dv (λsh=>look (pf t.Q w) (x - sh)) js) % p) (low: ∀x,bM s x=c ->look c1 x≠0 ->0<=hI s x /\ hI s x<t.len): yl s Z K w KP c c1 P1 t (eA s K w c+K) (eP s K w KP c+eA s K w c):=by
 have f:=ph.ge t ht (by lia);have hw:=h.low xS;have hk:=h.lowP xS;have w0:=h.w0;have k0:=h.k0;have hj:=wY (f:=c) (bl:= -(eA s K w c)) (bh:=eA s K w c) l0 JB (mL.nodup_iff.mpr (jY ga.1 h.s0)) (λm hm=>by obtain⟨x,hx,e1⟩:=af.mp (mL.mem_iff.mp hm);have:=ph.bx.1 x (by have:=dM ga (aP.mp hx).1;lia);lia) JK;have FU: ∀j∈js, -(eA s K w c) <=j.1 /\ j.1<=eA s K w c:=λj gX=>by have:=hj j gX;lia
 exact⟨ph.bx.cut f.bx ec FU ej (by lia) (by lia) (by lia) (by lia),ph.bp.cut f.bp ep FU (by lia) (by lia) (by lia) (by lia),low⟩
theorem HV.cut (h:pY s Z K w KP)(ph:HV s Z K w KP c dr a P L t)(l0:0<=t.len)(ga:GD p a) (mL:ms.Perm (nE s c (dN a))) (JB:ms.Pairwise (· <= ·)) (JK: ∀j∈js, ∃h∈qg ms t.len,j.1=iD t.len h) (ej:s=0 -> ∀j∈js,j.1=0) (ec: ∀x,look c1 x=(look a x+dv (λsh=>look t.b (x - s*sh)) js) % p) (ep: ∀w x,look (pf P1 w) x=(look (pf P w) x+dv (λsh=>look (pf t.Q w) (x - sh)) js) % p) (low: ∀x,bM s x=c ->look c1 x≠0 ->0<=hI s x /\ hI s x<t.len): yl s Z K w KP c c1 P1 t (eA s K w c+2*K - t.len) (eP s K w KP c+(w+2*K*s)+2*K - t.len):=by
 have q:=ph.shr;have hj:=wY (f:=c) (bl:=0) (bh:=dr) l0 JB (mL.nodup_iff.mpr (jY ga.1 h.s0)) (λm hm=>by obtain⟨x,hx,e1⟩:=af.mp (mL.mem_iff.mp hm);have:=ph.col x (by simpa using(aP.mp hx).2) (by have:=dM ga (aP.mp hx).1;lia);lia) JK;have FU: ∀j∈js, -0<=j.1 /\ j.1<=dr - t.len:=λj gX=>by have:=hj j gX;lia
 exact⟨ph.bx.cut ph.bt ec FU ej (by lia) (by lia) (by lia) (by lia),ph.bp.cut ph.bq ep FU (by lia) (by lia) (by lia) (by lia),low⟩
theorem yl.on {la lp:Int}(h:pY s Z K w KP)(d:yl s Z K w KP c c1 P1 t la lp)(NA:la<=eA s K w c+2*K)(UL:lp<=eP s K w KP c+(w+2*K*s)+2*K)(hc:c<c2) (BP: ∀u∈L,c<u.c ->om s Z K KP u) (eX: ∀u∈L,u.c<c ->om s Z (w+2*K*s) (KP+s*(w+2*K*s+2*K)) u) (zC: ∀u∈L,u.c=c ->om s Z (w+2*K*s) (KP+s*(w+2*K*s+2*K)) u):Rf s Z K w KP c2 c1 P1 L:=by
 have h1:=h.step hc;have h2:=h.OH hc;refine⟨d.bx.up (by lia) (by lia),d.bp.up (by lia) (by lia),λu hu hle=>BP u hu (by lia),λu hu hle=> ?_⟩;rcases Int.lt_trichotomy u.c c with q | q | q
 ·exact eX u hu q
 ·exact zC u hu q
 ·exact(BP u hu q).up h.KY h.Rm
theorem yl.turn {la lp m tt tn:Int}{t':dY}(d:yl s Z K w KP c c1 P1 t la lp)(NA:la<=eA s K w c+2*K - t.len)(UL:lp<=eP s K w KP c+(w+2*K*s)+2*K - t.len)(tk:t.len<=K) (N:Mn s c m tt c1) (ga:GD p c1) (hlen:t'.len=tt - m) (NM:t'.c=c) (lr:yi s p t.b c t.len t.foot) (UK:s=0 ->m=0) (hbt:jm s Z (eA s K w c+2*K - t.len) (eA s K w c+2*K - t.len) t.b) (hbq:ny s (eP s K w KP c+(w+2*K*s)+2*K - t.len) (eP s K w KP c+(w+2*K*s)+2*K - t.len) t.Q) (eb: ∀x,look t'.b x=look c1 (x+s*m)*tn % p) (eq: ∀w x,look (pf t'.Q w) x=look (pf P1 w) (x+m)*tn % p) (BP: ∀u∈L,c<u.c ->om s Z K KP u) (eX: ∀u∈L,u.c<c ->om s Z (w+2*K*s) (KP+s*(w+2*K*s+2*K)) u) (A3:t'∈gh L t'):HV s Z K w KP c t.len t.b t.Q (gh L t') t':=by
 have hb: ∀h∈nE s c (dN c1),0<=h /\ h<t.len:=λh hh=>by obtain⟨x,hx,e1⟩:=af.mp hh;have:=d.low x (by simpa using(aP.mp hx).2) (by have:=dM ga (aP.mp hx).1;lia);lia
 have h1:=hb _ N.lo;have h2:=hb _ N.hi;have h3:=N.bd _ N.lo;have b1:=d.bx.stood eb UK;have b2:=d.bp.stood (s:=s) eq;refine⟨A3,NM,by lia,tk,λx hx c8=>lr.n9 x c8 hx,hbt,b1.up (by lia) (by lia),hbq,b2.up (by lia) (by lia),λu hu n9=> ?_,λu hu hl=> ?_⟩
 ·rcases dW hu with e | ⟨e,_⟩
  ·rw[e,NM] at n9;lia
  ·exact BP u e n9
 ·rcases dW hu with e | ⟨e,_⟩
  ·rw[e,NM] at hl;lia
  ·exact eX u e hl
end
structure TC (R S:Addr)(s p:Int)(pats:List Pt)(M0:Mp)(F0:List Addr)(G0:List Pt)(L0:List dY)(hd:Addr)(M:Mp)(r dr rl rp:Addr)(a:Pt)(P:Pq)(L:List dY):Prop where
 jt:WW R S s p M hd r dr rl rp pats a P L
 kp:d9 M0 M F0
 fr: ∀t∈L, ∀x∈t.adr,x∈F0 \/ M0 x=none
 QS: ∀x∈bL rl rp P,x∈F0 \/ M0 x=none
 sp: ∀f,cX s p G0 f ->cX s p (L.map (·.b)++ [a]) f
 len:L.length=L0.length
 key:L.map (·.c)=L0.map (·.c)
section
variable {R S:Addr}{s p:Int}{pats:List Pt}{M0 M M2 M3 M4 M5:Mp}{F0:List Addr}{G0:List Pt}{L0 L:List dY}{hd r dr rl rp:Addr}{a c1:Pt}{P P1:Pq}{js:Pt}{t:dY}
theorem d9.free {F:List Addr}(k:d9 M0 M F){x:Addr}(h:M x=none):x∈F \/ M0 x=none:=by
 cases e:M0 x with
 | none=>exact .inr rfl
 | some u=>refine .inl (au λhn=> ?_);rw[k x u e hn] at h;cases h
theorem tU {rl rp:Addr}(row:cL p M rl rp a P){x C d:Addr}{fs:List (Str×W)}(h:M x=some (.ins C d fs)):x∉bL rl rp P:=λhx=>by obtain⟨kvs,e⟩:=row.mem hx;rw[h] at e;cases e
theorem TC.cut (tc:TC R S s p pats M0 F0 G0 L0 hd M r dr rl rp a P L)(ht:t∈L)(ke:cL p M2 rl rp c1 P1)(ec: ∀x,look c1 x=(look a x+dv (λsh=>look t.b (x - s*sh)) js) % p) (ep: ∀w x,look (pf P1 w) x=(look (pf P w) x+dv (λsh=>look (pf t.Q w) (x - sh)) js) % p) (kp:d9 M M2 (bL rl rp P)) (fr: ∀x∈bL rl rp P1,x∈bL rl rp P \/ M x=none) (hk: ∀w∈P1.map (·.1),w∈P.map (·.1) \/ w∈t.Q.map (·.1)): TC R S s p pats M0 F0 G0 L0 hd M2 r dr rl rp c1 P1 L:=by
 obtain⟨ins,ff,row,nL,rh,md,qU⟩:=tc.jt;have st:=ff.each t ht;refine⟨⟨kp _ _ ins (tU row ins),⟨kp _ _ ff.rF rh,λu hu=>(ff.each u hu).keep kp (tU row (ff.each u hu).ins) (λx hx gk=>nL u hu x gk hx),ff.nd,ff.nL,ff.rh⟩,ke,λu hu x hx gk=> ?_,λhx=> ?_,md.cut (qU t ht) row.Lc ke.Lc st.nd ec ep hk,qU⟩,tc.kp.trans kp tc.QS,tc.fr,λx hx=> ?_,λf hf=> ?_,tc.len,tc.key⟩
 ·rcases fr x hx with z | z
  ·exact nL u hu x z gk
  ·obtain⟨kvs,e⟩:=(ff.each u hu).row.mem gk;rw[z] at e;cases e
 ·rcases fr hd hx with z | z
  ·exact rh z
  ·rw[ff.rF] at z;cases z
 ·rcases fr x hx with z | z
  ·exact tc.QS x z
  ·exact tc.kp.free z
 ·refine(tc.sp f hf).trans λb hb=> ?_;rcases ax.mp hb with hb | hb
  ·exact cX.of (ax.mpr (.inl hb))
  ·rw[ah.mp hb];exact cX.back (cX.of (ax.mpr (.inr (ah.mpr rfl)))) (cX.of (ax.mpr (.inl (af.mpr ⟨t,ht,rfl⟩)))) ec
theorem TC.sm (tc:TC R S s p pats M0 F0 G0 L0 hd M r dr rl rp a P L)(sm:Sm M M2):TC R S s p pats M0 F0 G0 L0 hd M2 r dr rl rp a P L:=by obtain⟨i1,i2,i3,i4,i5,i6,i7⟩:=tc.jt;exact⟨⟨sm _ _ i1,⟨sm _ _ i2.rF,λt ht=>(i2.each t ht).keep (d9.sm sm []) (λh=>by cases h) (λ_ _ h=>by cases h),i2.nd,i2.nL,i2.rh⟩,i3.keep (d9.sm sm []) (λ_ _ h=>by cases h),i4,i5,i6,i7⟩,tc.kp.trans (d9.sm sm []) (λ_ h=>by cases h),tc.fr,tc.QS,tc.sp,tc.len,tc.key⟩
theorem lA {t':dY}(h:t'.c∈L.map (·.c)):t'∈gh L t':=by obtain⟨u,hu,e⟩:=af.mp h;exact af.mpr ⟨u,hu,ak e⟩
theorem jP {t' u:dY}(h:u∈L)(ne:u.c≠t'.c):u∈gh L t':=af.mpr ⟨u,h,aj ne⟩
theorem CU {t':dY}(nd:(L.map (·.c)).Nodup)(h:L.Pairwise λt u=> ∀x∈t.adr,x∉u.adr)(hf: ∀u∈L, ∀x∈t'.adr,x∉u.adr):(gh L t').Pairwise λt u=> ∀x∈t.adr,x∉u.adr:=by
 unfold gh;rw[bY];have Pp:L.Pairwise λa b=>a.c≠b.c:=bY.mp nd;refine(List.pairwise_and_iff.mpr ⟨h,Pp⟩ |>.imp_of_mem λ{u v} hu hv q=> ?_);by_cases z:u.c=t'.c
 ·rw[ak z];by_cases y:v.c=t'.c
  ·exact absurd (z.trans y.symm) q.2
  ·rw[aj y];exact hf v hv
 ·rw[aj z];by_cases y:v.c=t'.c
  ·rw[ak y];exact λx hx gk=>hf u hu x gk hx
  ·rw[aj y];exact q.1
theorem TC.turn {t':dY}{m tn:Int}{r' dx:Addr}{D:List (Key×W)}(hp:p=2 \/ p=3 \/ p=5 \/ p=7)(tc:TC R S s p pats M0 F0 G0 L0 hd M r dr rl rp a P L)(NJ:hd∈F0)(ht:t∈L)(hc:t'.c=t.c) (sm:Sm M M3) (ins:M3 t'.o=some (.ins S t'.ds [("lamps",wr t'.ol),("parts",wr t'.op),("first",wi t'.c),("length",wi t'.len),("foot",wi t'.foot)])) (uS:cL p M3 t'.ol t'.op t'.b t'.Q) (lr:yi s p t'.b t'.c t'.len t'.foot) (t0:0<tn) (t1:tn<p) (eb: ∀x,look t'.b x=look a (x+s*m)*tn % p) (eq: ∀w x,look (pf t'.Q w) x=look (pf P w) (x+m)*tn % p) (fr: ∀x∈t'.o::t'.adr,M x=none) (hk: ∀w∈t'.Q.map (·.1),w∈P.map (·.1)) (hD:D=kg (gh L t')) (kO:um M3 hd (.dK D) r'=none): TC R S s p pats M0 F0 G0 L0 hd (um (um M3 hd (.dK D)) r' (.ins R dx [("lamps",wr t.ol),("parts",wr t.op)])) r' dx t.ol t.op t.b t.Q (gh L t'):=by
 subst hD;obtain⟨_,ff,row,nL,rh,md,qU⟩:=tc.jt;have U8:hd≠r':=dw um_same kO;have R':M3 r'=none:=by rw[aJ (a5 U8)] at kO;exact kO
 have Mf:=sm _ _ ff.rF;have Nn:d9 M (um (um M3 hd (.dK (kg (gh L t')))) r' (.ins R dx [("lamps",wr t.ol),("parts",wr t.op)])) [hd]:=λd o e nd=>by have e3:=sm _ _ e;rw[aJ (dw e3 R'),aJ (λz=>nd (ah.mpr z))];exact e3
 have Np: ∀ {d o},M3 d=some o ->d≠hd ->um (um M3 hd (.dK (kg (gh L t')))) r' (.ins R dx [("lamps",wr t.ol),("parts",wr t.op)]) d=some o:=λe ne=>by rw[aJ (dw e R'),aJ ne];exact e
 have MA: ∀x∈t'.o::t'.adr,x≠hd:=λx hx e=>by have:=fr x hx;rw[e,ff.rF] at this;cases this
 have st:=ff.each t ht;have Lw: ∀ {x C d fs},M x=some (.ins C d fs) ->x∉ [hd]:=λe hx=>by rw[ah.mp hx,ff.rF] at e;cases e
 have gU:t'.c∈L.map (·.c):=by rw[hc];exact af.mpr ⟨t,ht,rfl⟩
 have V': ∀u∈L,u.c=t'.c ->u=t:=λu hu e=>fV ff.nd hu ht (e.trans hc);have Sz: ∀u∈L, ∀x∈t'.adr,x∉u.adr:=λu hu x hx gk=>by obtain⟨kvs,e⟩:=(ff.each u hu).row.mem gk;rw[fr x (aw _ hx)] at e;cases e
 refine⟨⟨um_same,⟨by rw[aJ U8];exact um_same,λu hu=> ?_,by rw[lT];exact ff.nd,CU ff.nd ff.nL Sz,λu hu hx=> ?_⟩,st.row.keep Nn λx hx gk=>ff.rh t ht (by rw[ah.mp gk] at hx;exact hx),λu hu x hx gk=> ?_,ff.rh t ht,qU t ht,λu hu=> ?_⟩,tc.kp.trans Nn λx hx=> .inl (by rw[ah.mp hx];exact NJ),λu hu x hx=> ?_,tc.fr t ht,λf hf=> ?_,by unfold gh;rw[aa];exact tc.len,by rw[lT];exact tc.key⟩
 ·rcases dW hu with e | ⟨e,_⟩
  ·rw[e];refine⟨Np ins (MA _ aE),uS.same λd kh=> ?_,lr⟩;obtain⟨kvs,e2⟩:=uS.mem kh;rw[Np e2 (MA d (aw _ kh)),e2]
  ·exact(ff.each u e).keep Nn (Lw (ff.each u e).ins) λx hx gk=>ff.rh u e (by rw[ah.mp gk] at hx;exact hx)
 ·rcases dW hu with e | ⟨e,_⟩
  ·rw[e] at hx;exact MA hd (aw _ hx) rfl
  ·exact ff.rh u e hx
 ·rcases dW hu with e | ⟨e,ne⟩
  ·rw[e] at gk;exact Sz t ht x gk hx
  ·exact tT ff ht e (λz=>ne (by rw[hc,z])) x hx gk
 ·rcases dW hu with e | ⟨e,_⟩
  ·rw[e];exact md.stood row.Lc uS.Lc eb eq hk
  ·exact qU u e
 ·rcases dW hu with e | ⟨e,_⟩
  ·rw[e] at hx;exact tc.kp.free (fr x (aw _ hx))
  ·exact tc.fr u e x hx
 ·refine(tc.sp f hf).trans λb hb=> ?_;have k9:cX s p ((gh L t').map (·.b)++ [t.b]) (look t'.b):=cX.of (ax.mpr (.inl (af.mpr ⟨t',lA gU,rfl⟩)));rcases ax.mp hb with hb | hb
  ·obtain⟨u,hu,rfl⟩:=af.mp hb;by_cases z:u.c=t'.c
   ·rw[V' u hu z];exact cX.of (ax.mpr (.inr (ah.mpr rfl)))
   ·exact cX.of (ax.mpr (.inl (af.mpr ⟨u,jP hu z,rfl⟩)))
  ·rw[ah.mp hb];exact cX.sA hp t0 t1 k9 eb
theorem TC.new {t':dY}{m tn:Int}{D:List (Key×W)}(hp:p=2 \/ p=3 \/ p=5 \/ p=7)(tc:TC R S s p pats M0 F0 G0 L0 hd M r dr rl rp a P L)(NJ:hd∈F0)(hc:t'.c∉L.map (·.c)) (sm:Sm M M3) (ins:M3 t'.o=some (.ins S t'.ds [("lamps",wr t'.ol),("parts",wr t'.op),("first",wi t'.c),("length",wi t'.len),("foot",wi t'.foot)])) (uS:cL p M3 t'.ol t'.op t'.b t'.Q) (lr:yi s p t'.b t'.c t'.len t'.foot) (t0:0<tn) (t1:tn<p) (eb: ∀x,look t'.b x=look a (x+s*m)*tn % p) (eq: ∀w x,look (pf t'.Q w) x=look (pf P w) (x+m)*tn % p) (fr: ∀x∈t'.o::t'.adr,M x=none) (hk: ∀w∈t'.Q.map (·.1),w∈P.map (·.1)) (hD:D=kg (L++ [t'])): k7 S s p (um M3 hd (.dK D)) hd (L++ [t']) /\ d9 M0 (um M3 hd (.dK D)) F0 /\ (∀u∈L++ [t'], ∀x∈u.adr,x∈F0 \/ M0 x=none) /\ (∀f,cX s p G0 f ->cX s p ((L++ [t']).map (·.b)) f) /\ (∀u∈L++ [t'],nr s p pats u.b u.Q):=by
 subst hD;obtain⟨_,ff,row,nL,rh,md,qU⟩:=tc.jt;have Nn:d9 M (um M3 hd (.dK (kg (L++ [t'])))) [hd]:=λd o e nd=>by rw[aJ (λz=>nd (ah.mpr z))];exact sm _ _ e
 have MA: ∀x∈t'.o::t'.adr,x≠hd:=λx hx e=>by have:=fr x hx;rw[e,ff.rF] at this;cases this
 have Lw: ∀ {x C d fs},M x=some (.ins C d fs) ->x∉ [hd]:=λe hx=>by rw[ah.mp hx,ff.rF] at e;cases e
 have Sz: ∀u∈L, ∀x∈t'.adr,x∉u.adr:=λu hu x hx gk=>by obtain⟨kvs,e⟩:=(ff.each u hu).row.mem gk;rw[fr x (aw _ hx)] at e;cases e
 have one: ∀u∈L++ [t'],u∈L \/ u=t':=λu hu=>(ax.mp hu).imp id ah.mp;refine⟨⟨um_same,λu hu=> ?_,?_,?_,λu hu hx=> ?_⟩,tc.kp.trans Nn λx hx=> .inl (by rw[ah.mp hx];exact NJ),λu hu x hx=> ?_,λf hf=> ?_,λu hu=> ?_⟩
 ·rcases one u hu with e | e
  ·exact(ff.each u e).keep Nn (Lw (ff.each u e).ins) λx hx gk=>ff.rh u e (by rw[ah.mp gk] at hx;exact hx)
  ·rw[e];refine⟨by rw[aJ (MA _ aE)];exact ins,uS.same λd kh=> ?_,lr⟩;rw[aJ (MA d (aw _ kh))]
 ·rw[aN];exact List.nodup_append.mpr ⟨ff.nd,by simp,λx hx y hy e=>hc (by rw[List.map_singleton] at hy;rw[<- ah.mp hy, <- e];exact hx)⟩
 ·refine cx.mpr ⟨ff.nL,List.pairwise_singleton _ _,λu hu v hv x hx gk=> ?_⟩;rw[ah.mp hv] at gk;exact Sz u hu x gk hx
 ·rcases one u hu with e | e
  ·exact ff.rh u e hx
  ·rw[e] at hx;exact MA hd (aw _ hx) rfl
 ·rcases one u hu with e | e
  ·exact tc.fr u e x hx
  ·rw[e] at hx;exact tc.kp.free (fr x (aw _ hx))
 ·refine(tc.sp f hf).trans λb hb=> ?_;rw[aN];rcases ax.mp hb with hb | hb
  ·exact cX.of (ax.mpr (.inl hb))
  ·rw[ah.mp hb];exact cX.sA hp t0 t1 (cX.of (ax.mpr (.inr (ah.mpr rfl)))) eb
 ·rcases one u hu with e | e
  ·exact qU u e
  ·rw[e];exact md.stood row.Lc uS.Lc eb eq hk
end
def fW (s:Int)(a:Pt):W:=if dN a= [] then wn else wi (eM ((dN a).map (bM s)))
def mz (s Z K c:Int)(q:Nat):Nat:=qk s Z c*(K.toNat+2)+q
def Ph (s Z K w KP:Int)(m:Nat)(a:Pt)(P:Pq)(L:List dY):Prop:=(dN a= [] -> ∀u∈L,om s Z (w+2*K*s) (KP+s*(w+2*K*s+2*K)) u) /\ (dN a≠ [] -> ∃c,c=eM ((dN a).map (bM s)) /\ ((Rf s Z K w KP c a P L /\ m=mz s Z K c (K.toNat+1)) \/ ∃t dr,HV s Z K w KP c dr a P L t /\ m=mz s Z K c t.len.toNat))
theorem Gw {s Z c c2:Int}(h:c<c2)(h1:s≠0 ->c+1<=s)(h2:s=0 ->c<=Z):qk s Z c2<qk s Z c:=by
 unfold qk;by_cases z:s=0
 ·have:=h2 z;rw[ak z,ak z];lia
 ·have:=h1 z;rw[aj z,aj z];lia
theorem Py {s Z K c c2:Int}{q q2:Nat}(h:qk s Z c2<qk s Z c)(hq:q2<=K.toNat+1):mz s Z K c2 q2<mz s Z K c q:=by unfold mz;have:=Nat.mul_le_mul_right (K.toNat+2) (show qk s Z c2+1<=qk s Z c from h);rw[Nat.add_mul,Nat.one_mul] at this;lia
theorem HN {s Z K w KP c:Int}{L:List dY}(h:pY s Z K w KP)(BP: ∀u∈L,c<u.c ->om s Z K KP u)(eX: ∀u∈L,u.c<c ->om s Z (w+2*K*s) (KP+s*(w+2*K*s+2*K)) u)(zC: ∀u∈L,u.c=c ->om s Z (w+2*K*s) (KP+s*(w+2*K*s+2*K)) u): ∀u∈L,om s Z (w+2*K*s) (KP+s*(w+2*K*s+2*K)) u:=λu hu=>by
 rcases Int.lt_trichotomy u.c c with q | q | q
 ·exact eX u hu q
 ·exact zC u hu q
 ·exact(BP u hu q).up h.KY h.Rm
theorem GH {a:Pt}(h:dN a= []):a= []:=List.map_eq_nil_iff.mp h
theorem yi.lit {s p f len foot:Int}{b:Pt}(h:yi s p b f len foot)(hp:1<p):look b f≠0:=λe=>by have:=h.bot;rw[e,bG,Int.zero_emod] at this;cases this
theorem MD {s p f len foot:Int}{b:Pt}(h:yi s p b f len foot)(hp:1<p)(g:GD p b):fW s b=wi f /\ dN b≠ [] /\ f=eM ((dN b).map (bM s)):=by
 have hm:=cJ (h.lit hp);have c8:dN b≠ []:=λe=>by rw[e] at hm;cases hm
 have e:f=eM ((dN b).map (bM s)):=gT.uniq ⟨af.mpr ⟨f,hm,h.ok.own⟩,λx hx=>by obtain⟨y,hy,rfl⟩:=af.mp hx;exact h.ge y (by have:=dM g hy;lia)⟩ (fg (by simpa using c8));exact⟨by rw[e];exact aj c8,c8,e⟩
theorem EE {s Z l h f:Int}{a:Pt}{p:Int}(bx:jm s Z l h a)(g:GD p a){m:Int}(hm:m∈nE s f (dN a)): -l<=m /\ m<=h:=by obtain⟨x,hx,e⟩:=af.mp hm;rw[<- e];exact bx.1 x (by have:=dM g (aP.mp hx).1;lia)
theorem Jx {s f:Int}{a:Pt}{m:Int}(hm:m∈nE s f (dN a))(z:s=0):m=0:=by obtain⟨x,hx,e⟩:=af.mp hm;rw[<- e,z];exact j6 x
theorem pM {s:Int}{a:Pt}{u:Addr}{M:Mp}{F:WK}(hu:M u=some (.lst ((dN a).map wi)))(hl:(dN a).length<=16000000)(s0:0<=s)(s8:s<=8)(h:F (fW s a) M):Ft DI [wr u,wi s] M F:=by unfold fW at h;exact⟨u,dN a,s,rfl,hu,hl,s0,by lia,λe=>by rwa [ak e] at h,λe=>by rwa [aj e] at h⟩
def dY.BV (u:dY)(b:Pt)(Q:Pq):dY:=⟨u.c,u.o,u.ds,u.ol,u.op,u.len,u.foot,b,Q⟩
structure LL (S:Addr)(s p:Int)(pats:List Pt)(M0:Mp)(L0:List dY)(hd:Addr)(M:Mp)(L:List dY):Prop where
 held:k7 S s p M hd L
 qU: ∀t∈L,nr s p pats t.b t.Q
 kp:d9 M0 M (L0.flatMap (·.adr))
 fr: ∀t∈L, ∀x∈t.adr,x∈L0.flatMap (·.adr) \/ M0 x=none
 sp: ∀f,cX s p (L0.map (·.b)) f ->cX s p (L.map (·.b)) f
 key:L.map (·.c)=L0.map (·.c)
 ln: ∀t∈L, ∀u∈L0,t.c=u.c ->t.len=u.len
section
variable {S:Addr}{s p:Int}{pats:List Pt}{M0 M M2:Mp}{L0 L:List dY}{hd:Addr}{c1:Pt}{P1:Pq}{js:Pt}{u t:dY}
theorem yi.Wj {f len foot:Int}{b:Pt}{fc:Int}(h:yi s p b f len foot)(hf:f<fc)(e: ∀x,bM s x<fc ->look c1 x=look b x):yi s p c1 f len foot:=by
 have at_: ∀k,look c1 (f+k*s)=look b (f+k*s):=λk=>e _ (by rw[h.ok.on];exact hf);refine⟨h.ok,h.l0,h.s0,λx hx=> ?_,λx hx hc=> ?_,by rw[at_];exact h.top,?_,h.ft⟩
 ·rcases Int.lt_or_le (bM s x) fc with q | q
  ·exact h.ge x (by rw[<- e x q];exact hx)
  ·lia
 ·exact h.n9 x (by rw[<- e x (by lia)];exact hx) hc
 ·have:=at_ 0;rw[bG,bu] at this;rw[this];exact h.bot
theorem ET {u':dY}(hu:u∈L)(nd:(L.map (·.c)).Nodup)(hc:u'.c=u.c)(ho:u'.o=u.o):kg (gh L u')=kg L:=by
 unfold kg gh;rw[aD];refine bF λv hv=> ?_;show((Sum.inl (if v.c=u'.c then u' else v).c:Key),wr (if v.c=u'.c then u' else v).o)=((Sum.inl v.c:Key),wr v.o)
 by_cases z:v.c=u'.c
 ·rw[ak z];have:v=u:=fV nd hv hu (z.trans hc);rw[this,hc,ho]
 ·rw[aj z]
theorem LL.cut (ll:LL S s p pats M0 L0 hd M L)(hu:u∈L)(ht:t∈L)(eX:u.c<t.c)(ke:cL p M2 u.ol u.op c1 P1)(ec: ∀x,look c1 x=(look u.b x+dv (λsh=>look t.b (x - s*sh)) js) % p) (ep: ∀w x,look (pf P1 w) x=(look (pf u.Q w) x+dv (λsh=>look (pf t.Q w) (x - sh)) js) % p) (el: ∀x,bM s x<t.c ->look c1 x=look u.b x) (kp:d9 M M2 u.adr) (fr: ∀x∈bL u.ol u.op P1,x∈u.adr \/ M x=none) (hk: ∀w∈P1.map (·.1),w∈u.Q.map (·.1) \/ w∈t.Q.map (·.1)): LL S s p pats M0 L0 hd M2 (gh L (u.BV c1 P1)):=by
 obtain⟨ff,qU,PM,xW,sp,key,ln⟩:=ll;have su:=ff.each u hu;have st:=ff.each t ht;have gU:u.c∈L.map (·.c):=af.mpr ⟨u,hu,rfl⟩;have Pu: ∀v∈L,v.c≠u.c -> ∀x∈bL u.ol u.op P1,x∉v.adr:=λv hv ne x hx gk=>by
  rcases fr x hx with z | z
  ·exact tT ff hu hv (a5 ne) x z gk
  ·obtain⟨kvs,e⟩:=(ff.each v hv).row.mem gk;rw[z] at e;cases e
 refine⟨⟨by rw[ET (u':=u.BV c1 P1) hu ff.nd rfl rfl];exact kp _ _ ff.rF (ff.rh u hu),λv hv=> ?_,by rw[lT];exact ff.nd,?_,λv hv hx=> ?_⟩,λv hv=> ?_,PM.trans kp λx hx=>xW u hu x hx,λv hv x hx=> ?_,λf hf=> ?_,by rw[lT];exact key,λv hv w hw e=> ?_⟩
 ·rcases dW hv with e | ⟨e,ne⟩
  ·rw[e];exact⟨kp _ _ su.ins (tU su.row su.ins),ke,su.lr.Wj eX el⟩
  ·exact(ff.each v e).keep kp (tU su.row (ff.each v e).ins) λx hx gk=>tT ff e hu ne x hx gk
 ·unfold gh;rw[bY];have Pp:L.Pairwise λa b=>a.c≠b.c:=bY.mp ff.nd;refine(List.pairwise_and_iff.mpr ⟨ff.nL,Pp⟩ |>.imp_of_mem λ{v w} hv hw q=> ?_);by_cases z:v.c=u.c
  ·rw[ak (show v.c=(u.BV c1 P1).c from z)];by_cases y:w.c=u.c
   ·exact absurd (z.trans y.symm) q.2
   ·rw[aj (show ¬w.c=(u.BV c1 P1).c from y)];exact Pu w hw y
  ·rw[aj (show ¬v.c=(u.BV c1 P1).c from z)];by_cases y:w.c=u.c
   ·rw[ak (show w.c=(u.BV c1 P1).c from y)];exact λx hx gk=>Pu v hv z x gk hx
   ·rw[aj (show ¬w.c=(u.BV c1 P1).c from y)];exact q.1
 ·rcases dW hv with e | ⟨e,_⟩
  ·rw[e] at hx;rcases fr hd hx with z | z
   ·exact ff.rh u hu z
   ·rw[ff.rF] at z;cases z
  ·exact ff.rh v e hx
 ·rcases dW hv with e | ⟨e,_⟩
  ·rw[e];exact(qU u hu).cut (qU t ht) su.nd ke.Lc st.nd ec ep hk
  ·exact qU v e
 ·rcases dW hv with e | ⟨e,_⟩
  ·rw[e] at hx;rcases fr x hx with z | z
   ·exact xW u hu x z
   ·exact PM.free z
  ·exact xW v e x hx
 ·refine(sp f hf).trans λb hb=> ?_;obtain⟨v,hv,rfl⟩:=af.mp hb;have h1:cX s p ((gh L (u.BV c1 P1)).map (·.b)) (look c1):=cX.of (af.mpr ⟨_,lA gU,rfl⟩);have h2:cX s p ((gh L (u.BV c1 P1)).map (·.b)) (look t.b):=cX.of (af.mpr ⟨t,jP ht (show t.c≠u.c by lia),rfl⟩);by_cases z:v.c=u.c
  ·rw[fV ff.nd hv hu z];exact cX.back h1 h2 ec
  ·exact cX.of (af.mpr ⟨v,jP hv z,rfl⟩)
 ·rcases dW hv with e2 | ⟨e2,_⟩
  ·rw[e2] at e ⊢;exact ln u hu w hw e
  ·exact ln v e2 w hw e
def Ia (s c E:Int)(b:Pt):Prop:= ∀x,bM s x=c ->look b x≠0 -> -E<=hI s x /\ hI s x<=E
def p8 (s c len:Int)(b:Pt):Prop:= ∀x,bM s x=c ->look b x≠0 ->0<=hI s x /\ hI s x<len
theorem Ia.cut {c E lt:Int}{a b:Pt}{jl jh:Int}(ha:Ia s c E a)(hb:p8 s c lt b)(ec: ∀x,look c1 x=(look a x+dv (λsh=>look b (x - s*sh)) js) % p)(hj: ∀j∈js, -jl<=j.1 /\ j.1<=jh)(FW:s=0 -> ∀j∈js,j.1=0){E':Int}(h1:E<=E')(h2:jl<=E')(h3:lt+jh<=E'):Ia s c E' c1:=λx hx c8=>by
 by_cases z:look a x=0
 ·obtain⟨j,gX,q⟩: ∃j∈js,look b (x - s*j.1)≠0:=au λhn=>c8 (by rw[ec,z,eR λj gX=>au λhq=>hn ⟨j,gX,hq⟩];rfl);have h4:=hb (x - s*j.1) (by rw[gf];exact hx) q;have h5:=hj j gX;by_cases y:s=0
  ·have h6:=FW y j gX;rw[y,j6] at h4 ⊢;lia
  ·rw[jE y] at h4;lia
 ·have:=ha x hx z;lia
end
def fI (L:List dY)(c:Int):Int:=match L.find? (λt=>decide (t.c=c)) with
 | some t=>t.len
 | none=>0
theorem zi {L:List dY}(nd:(L.map (·.c)).Nodup){t:dY}(h:t∈L):fI L t.c=t.len:=by unfold fI;rw[qI nd h]
def iY (l:List Int):Int:=l.foldr (· + ·) 0
theorem lz {l:List Int}(h: ∀x∈l,0<=x): ∀k,0<=iY (l.take k) /\ iY (l.take k) <=iY l:=by
 induction l with
 | nil=>intro k;simp[iY]
 | cons a r ih=>
  intro k;cases k with
  | zero=>
   have:=(ih (λx hx=>h x (aw _ hx)) r.length)
   rw[cn] at this;have:=h a aE;show 0<=(0:Int) /\ (0:Int) <=a+iY r;lia
  | succ k=>have:=ih (λx hx=>h x (aw _ hx)) k;have:=h a aE;show 0<=a+iY (r.take k) /\ a+iY (r.take k) <=a+iY r;lia
theorem CP (l:List Int)(a:Int):iY (l++ [a])=iY l+a:=by
 induction l with
 | nil=>show a+0=0+a;lia
 | cons b r ih=>show b+iY (r++ [a])=b+iY r+a;rw[ih];lia
theorem CQ {l:List Int}(h: ∀x∈l,0<=x)(k:Nat):iY (l.drop k) <=iY l:=by
 induction l generalizing k with
 | nil=>simp
 | cons a r ih=>
  cases k with
  | zero=>exact aV _
  | succ k=>have:=ih (λx hx=>h x (aw _ hx)) k;have:=h a aE;show iY (r.drop k) <=a+iY r;lia
theorem uK {a b:List Int}(h:a.Perm b):iY a=iY b:=by
 induction h with
 | nil=>rfl
 | cons x _ ih=>show x+_=x+_;rw[show List.foldr (· + ·) 0 _=iY _ from rfl,ih];rfl
 | swap x y l=>show y+(x+iY l)=x+(y+iY l);lia
 | trans _ _ h1 h2=>exact h1.trans h2
theorem Ee {L:List dY}(nd:(L.map (·.c)).Nodup):(L.map (·.c)).map (fI L)=L.map (·.len):=by rw[aD];exact bF λt ht=>zi nd ht
section
variable {S:Addr}{s p:Int}{pats:List Pt}{M0 M M2:Mp}{L0 L:List dY}{hd:Addr}
theorem LL.sm (h:LL S s p pats M0 L0 hd M L)(sm:Sm M M2):LL S s p pats M0 L0 hd M2 L:=by obtain⟨i2,i3,i4,i5,i6,i7,i8⟩:=h;exact⟨⟨sm _ _ i2.rF,λt ht=>(i2.each t ht).keep (d9.sm sm []) (λh=>by cases h) (λ_ _ h=>by cases h),i2.nd,i2.nL,i2.rh⟩,i3,i4.trans (d9.sm sm []) (λ_ h=>by cases h),i5,i6,i7,i8⟩
theorem LL.init (h:k7 S s p M hd L)(md: ∀t∈L,nr s p pats t.b t.Q):LL S s p pats M L hd M L:=⟨h,md,λd o e _=>e,λt ht x hx=> .inl (List.mem_flatMap.mpr ⟨t,ht,hx⟩),λf hf=>hf,rfl,λt ht u hu e=>by rw[fV h.nd ht hu e]⟩
theorem LL.fI (h:LL S s p pats M0 L0 hd M L)(nd:(L0.map (·.c)).Nodup){t:dY}(ht:t∈L):t.len=fI L0 t.c:=by
 have:t.c∈L0.map (·.c):=by rw[<- h.key];exact af.mpr ⟨t,ht,rfl⟩
 obtain⟨u,hu,e⟩:=af.mp this;rw[<- e,zi nd hu];exact h.ln t ht u hu e.symm
theorem LL.get (h:LL S s p pats M0 L0 hd M L){c:Int}(hc:c∈L0.map (·.c)): ∃t∈L,t.c=c:=by rw[<- h.key] at hc;exact af.mp hc
theorem wM (nd:(L.map (·.c)).Nodup){t:dY}(h:t∈L):d5 (kg L) (.inl t.c)=some (wr t.o):=by rw[wN,qI nd h];rfl
end
theorem Fg (l:List W)(k:Nat):yc l (some ((k:Nat):Int)) none=l.drop k:=by
 unfold yc;rw[HT.C3,HT.Gr];rcases Nat.le_total k l.length with h | h
 ·rw[Nat.min_eq_left h,List.take_of_length_le (by rw[List.length_drop];exact aq _)]
 ·rw[Nat.min_eq_right h,List.drop_length,List.take_nil,List.drop_of_length_le h]
theorem gB {cs:List Int}(h:cs.Pairwise (· < ·)){i j:Nat}{a b:Int}(hi:cs[i]? =some a)(hj:cs[j]? =some b)(fY:i<j):a<b:=by obtain⟨g1,g2⟩:=ag.mp hi;obtain⟨g3,g4⟩:=ag.mp hj;rw[<- g2, <- g4];exact bj.mp h i j g1 g3 fY
theorem AZ {cs:List Int}(h:cs.Pairwise (· < ·)){i j:Nat}{a b:Int}(hi:cs[i]? =some a)(hj:cs[j]? =some b)(EX:a<b):i<j:=by
 rcases Nat.lt_trichotomy i j with q | q | q
 ·exact q
 ·subst q;rw[hi] at hj;cases hj;lia
 ·have:=gB h hj hi q;lia
def GR (R S:Addr):kb:=λxs M q=> ∃ (hd:Addr) (p s Z E EP Λ:Int) (pats:List Pt) (L:List dY),xs= [wi p,wi s,wr hd] /\ (p=2 \/ p=3 \/ p=5 \/ p=7) /\ 0<=s /\ s<=8 /\ k7 S s p M hd L /\ (∀t∈L,nr s p pats t.b t.Q) /\ (∀t∈L,om s Z E EP t) /\ 0<=Z /\ 0<=E /\ 0<=EP /\ pats.length<=100 /\ L.length<=13 /\ iY (L.map (·.len)) <=Λ /\Z+8*(E+14*(E+Λ)+1) <=1000000 /\ EP+14*(E+Λ) <=1000000 /\∀M' L',LL S s p pats M L hd M' L' ->(∀t∈L', ∀u∈L',t.c<u.c ->p8 s u.c u.len t.b) ->(∀t∈L',jm s Z (E+L.length*(E+Λ)) (E+L.length*(E+Λ)) t.b /\ ny s (EP+L.length*(E+Λ)) (EP+L.length*(E+Λ)) t.Q) ->q wn M'
theorem fw {p:Int}(p0:0<p){b:Pt}(g:GD p b)(x:Int):look (jo p b) x=look b x:=by rw[pB p0,fo g.1,eN p0 g]
theorem yF {s p D:Int}{t:dY}(hp:1<p)(g:GD p t.b)(h:yi s p t.b t.c t.len t.foot)(w:Wt D t.b):Sr s p (jo p t.b) t.c t.len D:=by
 have p0:0<p:=by lia
 have e:=fw p0 g;have gn:=mX (jS p0 t.b);refine⟨jS p0 _,h.ok,h.l0,h.s0,λx hx=>h.ge x ?_,λx hx hc=>h.n9 x ?_ hc,cJ (by rw[e];exact h.lit hp),by rw[e];exact h.top,λx hx=>w x (by rw[<- e];exact hx)⟩
 ·have:=dM gn hx;rw[e] at this;lia
 ·have:=dM gn hx;rw[e] at this;lia
structure Ord (L Ls:List dY):Prop where
 perm:Ls.Perm L
 yS:Ls.Pairwise λa b=>a.c<b.c
theorem pe (L:List dY)(nd:(L.map (·.c)).Nodup): ∃Ls,Ord L Ls:=by refine⟨L.mergeSort λa b=>decide (a.c<=b.c),List.mergeSort_perm _ _,?_⟩;have h1:=List.pairwise_mergeSort (le:=λa b:dY=>decide (a.c<=b.c)) (λa b c h1 h2=>by simp only[cq] at*;lia) (λa b=>by simp only[Bool.or_eq_true,cq];lia) L;have h2:((L.mergeSort λa b=>decide (a.c<=b.c)).map (·.c)).Nodup:=((List.mergeSort_perm L _).map (·.c)).nodup_iff.mpr nd;have h3:=bY.mp h2;exact(List.pairwise_and_iff.mpr ⟨h1,h3⟩).imp λh=>by have:=h.1;simp only[cq] at this;have:=h.2;lia
section
variable {S:Addr}{s p D:Int}{M:Mp}{hd:Addr}{L Ls:List dY}
def eE (p:Int)(Ls:List dY):List Pt:=Ls.map λt=>jo p t.b
theorem oP (hp:1<p)(h:k7 S s p M hd L)(o:Ord L Ls)(w: ∀t∈L,Wt D t.b)(hl: ∀t∈L,t.len<3000000):qw s p (eE p Ls) D:=by
 have sr: ∀t∈Ls,Sr s p (jo p t.b) t.c t.len D:=λt ht=>yF hp (h.each t (o.perm.mem_iff.mp ht)).row.ga (h.each t (o.perm.mem_iff.mp ht)).lr (w t (o.perm.mem_iff.mp ht));have get: ∀ {i st},(eE p Ls)[i]? =some st -> ∃t:dY,Ls[i]? =some t /\ st=jo p t.b:=λ{i st} e=>by
  unfold eE at e;rw[aA] at e;cases e2:Ls[i]? with
  | none=>rw[e2] at e;cases e
  | some t=>rw[e2] at e;cases e;exact⟨t,e2,rfl⟩
 refine⟨λi st hi=> ?_,λi j st bB c len c' AQ fY hi hj h1 h2=> ?_⟩
 ·obtain⟨t,ht,rfl⟩:=get hi;exact⟨_,_,sr t (ai ht),hl t (o.perm.mem_iff.mp (ai ht))⟩
 ·obtain⟨t,ht,rfl⟩:=get hi;obtain⟨t',lY,rfl⟩:=get hj;rw[(h1.uniq (sr t (ai ht))).1,(h2.uniq (sr t' (ai lY))).1];obtain⟨g1,g2⟩:=ag.mp ht;obtain⟨g3,g4⟩:=ag.mp lY;rw[<- g2, <- g4];exact bj.mp o.yS i j g1 g3 fY
theorem yt (hp:1<p)(h:k7 S s p M hd L)(o:Ord L Ls)(w: ∀t∈L,Wt D t.b)(low: ∀t∈L, ∀u∈L,t.c<u.c ->p8 s u.c u.len t.b):Trim s p (eE p Ls) D:=by
 intro i j st bB c len fY hi hj K0 x hx c8;unfold eE at hi hj;rw[aA] at hi hj;cases e1:Ls[i]? with
 | none=>rw[e1] at hi;cases hi
 | some t=>
  cases e2:Ls[j]? with
  | none=>rw[e2] at hj;cases hj
  | some t'=>
   rw[e1] at hi;rw[e2] at hj;cases hi;cases hj;have m1:=o.perm.mem_iff.mp (ai e1);have m2:=o.perm.mem_iff.mp (ai e2);have e3:=K0.uniq (yF hp (h.each t' m2).row.ga (h.each t' m2).lr (w t' m2));have eX:t.c<t'.c:=by obtain⟨g1,g2⟩:=ag.mp e1;obtain⟨g3,g4⟩:=ag.mp e2;rw[<- g2, <- g4];exact bj.mp o.yS i j g1 g3 fY
   rw[e3.2];exact low t m1 t' m2 eX x (by rw[hx,e3.1]) (by rw[<- fw (by lia) (h.each t m1).row.ga];exact c8)
theorem lX (p0:0<p)(h:k7 S s p M hd L)(o:Ord L Ls){f:Int ->Int}(hf:cX s p (L.map (·.b)) f):cX s p (eE p Ls) f:=hf.trans λb hb=>by obtain⟨t,ht,rfl⟩:=af.mp hb;refine(cX.of (af.mpr ⟨t,o.perm.mem_iff.mpr ht,rfl⟩)).ext λx=> ?_;rw[fw p0 (h.each t ht).row.ga]
structure Base (s p w:Int)(pats bs:List Pt)(L:List dY):Prop where
 len:bs.length=L.length
 ind:s≠0 ->Indep s p bs
 of: ∀b∈bs,b∈pats
theorem Gx {w:Nat}{pats bs:List Pt}(hp:p=2 \/ p=3 \/ p=5 \/ p=7)(s0:0<s)(h:k7 S s p M hd L)(hw: ∀t∈L,Wt D t.b)(hl: ∀t∈L,t.len<3000000)(low: ∀t∈L, ∀u∈L,t.c<u.c ->p8 s u.c u.len t.b) (B:Base s p w pats bs L) (gU: ∀b∈bs,cX s p (L.map (·.b)) (look b)) (hb: ∀b∈bs, ∀x,look b x≠0 -> -(w:Int) <=hI s x /\ hI s x<=w) {t:dY} (ht:t∈L) {x:Int} (hx:look t.b x≠0): -((2*L.length*w:Nat):Int) <=hI s x /\ hI s x<=((2*L.length*w:Nat):Int):=by
 obtain⟨Ls,o⟩:=pe L h.nd;have e:(eE p Ls).length=L.length:=by unfold eE;rw[aa];exact o.perm.length_eq
 have:=Dc hp s0 (oP (by lia) h o hw hl) (yt (by lia) h o hw low) (by rw[B.len,e]) (B.ind (by lia)) (λb k9=>lX (by lia) h o (gU b k9)) hb (t:=jo p t.b) (af.mpr ⟨t,o.perm.mem_iff.mpr ht,rfl⟩) (x:=x) (by rw[fw (by lia) (h.each t ht).row.ga];exact hx);rw[e] at this;exact this
theorem K2 {l:List Int}(h: ∀x∈l,0<=x):iY l=(((l.map Int.toNat).sum:Nat):Int):=by
 induction l with
 | nil=>rfl
 | cons a r ih=>
  show a+iY r=_
  rw[ih λx hx=>h x (aw _ hx),aH,List.sum_cons]
  have:=h a aE
  push_cast;lia
theorem Ef {w:Nat}{pats bs:List Pt}(hp:p=2 \/ p=3 \/ p=5 \/ p=7)(s0:0<s)(h:k7 S s p M hd L)(hw: ∀t∈L,Wt D t.b)(hl: ∀t∈L,t.len<3000000) (B:Base s p w pats bs L) (gU: ∀b∈bs,cX s p (L.map (·.b)) (look b)) (hb: ∀b∈bs, ∀x,look b x≠0 -> -(w:Int) <=hI s x /\ hI s x<=w):iY (L.map (·.len)) <=((2*L.length*w:Nat):Int):=by
 obtain⟨Ls,o⟩:=pe L h.nd;have e:(eE p Ls).length=L.length:=by unfold eE;rw[aa];exact o.perm.length_eq
 have:=zk hp s0 (oP (by lia) h o hw hl) (by rw[B.len,e]) (B.ind (by lia)) (λb k9=>lX (by lia) h o (gU b k9)) hb;rw[e] at this;rw[<- uK (o.perm.map (·.len)),K2 λx hx=>by obtain⟨t,ht,rfl⟩:=af.mp hx;exact((h.each t (o.perm.mem_iff.mp ht)).lr).l0];have e2:((eE p Ls).map λst=>(d6 s st).toNat)=(Ls.map (·.len)).map Int.toNat:=by unfold eE;rw[aD,aD];refine bF λt ht=> ?_;have m:=o.perm.mem_iff.mp ht;show(d6 s (jo p t.b)).toNat=t.len.toNat;rw[(yF (by lia) (h.each t m).row.ga (h.each t m).lr (hw t m)).gZ]
 rw[e2] at this;exact Int.ofNat_le.mpr this
theorem GV {w:Nat}{L:List dY}{t:dY}(ht:t∈L)(h0: ∀u∈L,0<=u.len):t.len<=iY (L.map (·.len)):=by
 induction L with
 | nil=>cases ht
 | cons a r ih=>
  show t.len<=a.len+iY (r.map (·.len));have h1:=(lz (l:=r.map (·.len)) (λx hx=>by obtain⟨u,hu,rfl⟩:=af.mp hx;exact h0 u (aw _ hu)) 0)
  have h2:=h0 a aE;rcases av.mp ht with rfl | ht
  ·show t.len<=_;have:0<=iY (r.map (·.len)):=by simp[iY] at h1;exact h1
   lia
  ·have:=ih ht λu hu=>h0 u (aw _ hu);lia
end
def PL:Nat ->Int
 | 0=>0
 | i+1=>PL i+(9*(332+272*(i:Int))+((i:Int)+1)*(256+544*(i:Int)))
theorem LK: ∀i:Nat,i<=8 ->0<=PL i /\ PL i<=193056:=by decide
def uo (s:Int)(i:Nat):Int:=if s=0 then 0 else PL i
theorem Em (s:Int)(i:Nat)(h:i<=8):0<=uo s i /\ uo s i<=193056:=by unfold uo;have:=LK i h;split<;>lia
structure SS (S:Addr)(s p Z:Int)(w:Nat)(pats:List Pt)(i:Nat)(M:Mp)(hd:Addr)(L:List dY)(bs:List Pt):Prop where
 held:k7 S s p M hd L
 md: ∀t∈L,nr s p (pats.take i) t.b t.Q
 low: ∀t∈L, ∀u∈L,t.c<u.c ->p8 s u.c u.len t.b
 sp: ∀pt∈pats.take i,cX s p (L.map (·.b)) (look pt)
 base:Base s p w (pats.take i) bs L
 bz:s=0 -> ∀t∈L,Wt Z t.b
 bp: ∀t∈L,ny s (uo s i) (uo s i) t.Q
 fin: ∀t∈L,Wt 1000000 t.b /\ t.len<3000000
 len:L.length<=i
structure By (s p Z:Int)(w:Nat)(pats:List Pt):Prop where
 pat: ∀pt∈pats,du p pt /\ jm s Z w w pt
 len:pats.length<=8
 hp:p=2 \/ p=3 \/ p=5 \/ p=7
 s0:0<=s
 s8:s<=8
 z0:0<=Z
 z1:Z<=10000
 RC:s=0 ->w=0
 Xi:w<=60
 sw:s*w<=68
section
variable {S:Addr}{s p Z:Int}{w:Nat}{pats bs:List Pt}{M:Mp}{hd:Addr}{L:List dY}{i:Nat}
theorem tX (h:k7 S s p M hd L)(s0:0<s):(L.length:Int) <=s:=by
 have:=gA (l:=wO 0 s.toNat) h.nd λc hc=>by
  obtain⟨t,ht,rfl⟩:=af.mp hc;rcases (h.each t ht).lr.ok with z | z
  ·lia
  ·exact lQ.mpr (by lia)
 rw[aa] at this;unfold wO at this;rw[aa,cV] at this;lia
theorem Jn (P:By s p Z w pats){m:Nat}(hm:s≠0 ->(m:Int) <=s):(m:Int)*w<=68:=by
 by_cases z:s=0
 ·rw[P.RC z];simp
 ·have:=bg (hm z) (show 0<=(w:Int) by lia);have:=P.sw;lia
theorem SS.ki (P:By s p Z w pats)(h:SS S s p Z w pats i M hd L bs): ∀t∈L,om s Z (2*((L.length:Int)*w)) (uo s i) t:=λt ht=>by
 have hl0: ∀u∈L,0<=u.len:=λu hu=>(h.held.each u hu).lr.l0;by_cases z:s=0
 ·have e:=P.RC z;rw[e];refine⟨⟨λx _=>by rw[z,j6];simp,λ_=>h.bz z t ht⟩,by rw[(h.held.each t ht).lr.s0 z];simp,h.bp t ht⟩
 ·have s1:0<s:=by have:=P.s0;lia
  have hb: ∀b∈bs,b∈pats:=λb hb=>List.mem_of_mem_take (h.base.of b hb);have hw: ∀b∈bs, ∀x,look b x≠0 -> -(w:Int) <=hI s x /\ hI s x<=w:=λb k9 x hx=>(P.pat b (hb b k9)).2.1 x hx;have gU: ∀b∈bs,cX s p (L.map (·.b)) (look b):=λb k9=>h.sp b (h.base.of b k9);have h1:=λ{x} hx=>Gx (D:=1000000) P.hp s1 h.held (λt ht=>(h.fin t ht).1) (λt ht=>(h.fin t ht).2) h.low h.base gU hw ht (x:=x) hx;have h2:=Ef (D:=1000000) P.hp s1 h.held (λt ht=>(h.fin t ht).1) (λt ht=>(h.fin t ht).2) h.base gU hw;have h3:=GV (w:=w) ht hl0;have e:((2*L.length*w:Nat):Int)=2*((L.length:Int)*w):=by push_cast;rw[Int.mul_assoc]
  rw[e] at h2;refine⟨⟨λx hx=>by have:=h1 hx;rw[e] at this;exact this,λq=>absurd q z⟩,by lia,h.bp t ht⟩
theorem gC {l:List Pt}{n k:Nat}(h:n<k):(l.take k).getD n []=l.getD n []:=by rw[bI,bI,List.getElem?_take_of_lt h]
theorem nr.more {b:Pt}{Q:Pq}(h:nr s p (pats.take i) b Q)(hi:i<pats.length):nr s p (pats.take (i+1)) b Q:=by
 have l1:(pats.take i).length=i:=by rw[a6];lia
 have l2:(pats.take (i+1)).length=i+1:=by rw[a6];lia
 refine⟨λx=> ?_,λw hw=>by have:=h.key w hw;rw[l1] at this;rw[l2];push_cast;lia⟩;rw[h.is,l1,l2];have hno:pf Q (i:Int)= []:=oA λhm=>by have:=h.key _ hm;rw[l1] at this;lia
 have: ∀n,n<=i ->mJ s (pats.take i) Q x n=mJ s (pats.take (i+1)) Q x n:=λn=>by
  induction n with
  | zero=>intro _;rfl
  | succ n ih=>intro hn;rw[mJ,mJ,ih (by lia),gC (by lia),gC (by lia)]
 rw[mJ,hno,this i (aq _)];show _=(_+0) % p;rw[bu]
theorem nr.first {pt:Pt}{q:Addr}(p0:0<p)(hi:pats[i]? =some pt):nr s p (pats.take (i+1)) pt [((i:Int),q,[(0,1)])]:=by
 have hl:=(ag.mp hi).1;have l2:(pats.take (i+1)).length=i+1:=by rw[a6];lia
 refine⟨λx=> ?_,λw hw=>by rw[List.map_singleton,ah] at hw;rw[l2,hw];push_cast;lia⟩;rw[l2,mJ];have h0: ∀n,n<=i ->mJ s (pats.take (i+1)) [((i:Int),q,[(0,1)])] x n=0:=λn=>by
  induction n with
  | zero=>intro _;rfl
  | succ n ih=>
   intro hn;have:pf [((i:Int),q,[((0:Int),(1:Int))])] (n:Int)= []:=oA λhm=>by rw[List.map_singleton,ah] at hm;have:(n:Int)=i:=hm;lia
   rw[mJ,ih (by lia),this];rfl
 have e:pf [((i:Int),q,[((0:Int),(1:Int))])] (i:Int)= [(0,1)]:=by simp[pf]
 rw[h0 i (aq _),e,gC (Nat.lt_succ_self _),j7 hi];show _=(0+(look pt (x - s*0)*1+0)) % p;rw[Int.mul_zero,Int.sub_zero,Int.mul_one,bu,bP]
theorem Bt {M1:Mp}{L1:List dY}{pt:Pt}(P:By s p Z w pats)(h:SS S s p Z w pats i M hd L bs)(hi:pats[i]? =some pt)(lZ:k7 S s p M1 hd L1)(xY: ∀t∈L1,Wt 1000000 t.b /\ t.len<3000000)(RU: ∀t∈L1,nr s p (pats.take (i+1)) t.b t.Q) (hlen:L1.length<=L.length+1) (pL: ∀c∈L.map (·.c),c∈L1.map (·.c)): ∃Wx,Base s p w (pats.take (i+1)) Wx L1:=by
 have hl:=(ag.mp hi).1;have BP:=gA h.held.nd pL;rw[aa,aa] at BP;have nh: ∀b∈pats.take i,b∈pats.take (i+1):=λb hb=>by rw[bD];exact ax.mpr (.inl hb)
 have kP:pt∈pats.take (i+1):=by rw[bD,hi];exact ax.mpr (.inr (ah.mpr rfl))
 have p0:0<p:=by have:=P.hp;lia
 have p1:1<p:=by have:=P.hp;lia
 by_cases e:L1.length=L.length
 ·exact⟨bs,by rw[e];exact h.base.len,h.base.ind,λb hb=>nh b (h.base.of b hb)⟩
 ·refine⟨bs++ [pt],by rw[aL,cY,h.base.len];lia,λz=> ?_,λb hb=> ?_⟩
  ·have s1:0<s:=by have:=P.s0;lia
   obtain⟨Ls,o⟩:=pe L h.held.nd;obtain⟨Ls1,o1⟩:=pe L1 lZ.nd;have e1:(eE p Ls).length=L.length:=by unfold eE;rw[aa];exact o.perm.length_eq
   have e2:(eE p Ls1).length=L1.length:=by unfold eE;rw[aa];exact o1.perm.length_eq
   refine xO P.hp s1 (oP p1 h.held o (λt ht=>(h.fin t ht).1) λt ht=>(h.fin t ht).2) (oP p1 lZ o1 (λt ht=>(xY t ht).1) λt ht=>(xY t ht).2) (h.base.ind z) (λb hb=>lX p0 h.held o (h.sp b (h.base.of b hb))) (by rw[e1,e2];lia) λst jZ=> ?_;obtain⟨t,ht,rfl⟩:=af.mp jZ;have n8:=o1.perm.mem_iff.mp ht;have m:=RU t n8;have l2:(pats.take (i+1)).length=i+1:=by rw[a6];lia
   refine⟨pf t.Q i,(cX.fu (sts:=pats.take i) (sts':=eE p Ls) (λb hb=>lX p0 h.held o (h.sp b hb)) (λn=>pf t.Q n) i (by rw[a6];lia)).ext λx=> ?_⟩;rw[fw p0 (lZ.each t n8).row.ga,Int.sub_emod,m.is,l2,mJ,gC (Nat.lt_succ_self _),j7 hi, <- Int.sub_emod];have: ∀n,n<=i ->mJ s (pats.take (i+1)) t.Q x n=fu s (pats.take i) (λn=>pf t.Q n) x n:=λn=>by
    induction n with
    | zero=>intro _;rfl
    | succ n ih=>intro hn;rw[mJ,fu,ih (by lia),gC (by lia),gC (by lia)]
   rw[this i (aq _)];congr 1;lia
  ·rcases ax.mp hb with hb | hb
   ·exact nh b (h.base.of b hb)
   ·rw[ah.mp hb];exact kP
end
structure Rv (s p Z:Int)(w:Nat)(pats sts:List Pt)(Ps:List Pq):Prop where
 f9:qw s p sts 1000000
 trim:Trim s p sts 1000000
 sp: ∀pt∈pats,cX s p sts (look pt)
 len:Ps.length=sts.length
 MB:sts.length<=pats.length
 md: ∀ (k:Nat) st P,sts[k]? =some st ->Ps[k]? =some P ->nr s p pats st P /\ (P.map (·.1)).Nodup /\ (∀t∈P,GD p t.2.2) /\ ny s (uo s pats.length) (uo s pats.length) P
 bx: ∀st∈sts,jm s Z (2*((sts.length:Int)*w)) (2*((sts.length:Int)*w)) st /\ d6 s st<=2*((sts.length:Int)*w)
 cols:s≠0 ->(sts.length:Int) <=s
def Li:kb:=λxs M q=> ∃ (u:Addr) (p s Z:Int) (w:Nat) (pats:List Pt),xs= [wi p,wi s,wr u] /\ M u=some (.lst (pats.map cR)) /\ By s p Z w pats /\∀ (M':Mp) (v:Addr) (as:List Addr) (sts:List Pt) (Ps:List Pq),Rv s p Z w pats sts Ps ->Sm M M' ->M v=none ->M' v=some (.lst (as.map wr)) ->as.length=sts.length ->(∀ (k:Nat) a P,as[k]? =some a ->Ps[k]? =some P -> ∃tl:List Part,tl.Perm (uC p 1 P) /\ M' a=some (.lst (tl.map lM))) ->q (.tup [.tup (sts.map cR),wr v]) M'
theorem yM {M0 M M':Mp}{F:List Addr}(h:Sm M0 M)(k:d9 M M' F)(hf: ∀x∈F,M0 x=none):Sm M0 M':=λd o e=>k d o (h d o e) λhx=>by rw[hf d hx] at e;cases e
end WQ
namespace L2
open PySem
theorem zc {X:Cx}{K:PySem.W.Frag}{e:Expr}{f:Str}{pos:Pos}{ta:TE}(hK:X.K=K)(he:PE X e ta)(hb:attributeBase e f X.env (eval e X.env)=eval e X.env):PE X (.Attribute e f pos) (KN K ta f):=by subst hK;exact dH he hb
end L2
namespace WQ
open PySem L2 WL WP
def AE:kb:=λxs M q=> ∃ (d l:Addr) (p most:Int),xs= [wr d,wi p,wi most] /\ Dr M d l /\ 2<=p /\ p<=7 /\ 0<=most /\ most<=60 /\ ∀ (u:Addr) (pats:List Pt) (M':Mp),(∀pt∈pats,du p pt /\ Wt 6 pt /\ pt.length<=4) ->(pats.length:Int) <=most ->M u=none ->M' u=some (.lst (pats.map cR)) ->Dr M' d l ->iT d M M' ->q (wr u) M'
def wx (s p:Int)(A B:List Pt):Prop:=(∀a∈A,cX s p B (look a)) /\ ∀b∈B,cX s p A (look b)
section
variable {s p D:Int}{A B C sts sts':List Pt}
theorem wx.refl:wx s p A A:=⟨λ_ h=>cX.of h,λ_ h=>cX.of h⟩
theorem wx.trans (h:wx s p A B)(h':wx s p B C):wx s p A C:=⟨λa ha=>(h.1 a ha).trans h'.1,λc hc=>(h'.2 c hc).trans h.2⟩
theorem wx.symm (h:wx s p A B):wx s p B A:=⟨h.2,h.1⟩
theorem zT {g:Int ->Int}(hp:p=2 \/ p=3 \/ p=5 \/ p=7)(s0:0<=s)(f9:qw s p sts D)(h:cX s p sts g)(low:Rl s p sts D g)(x:Int):g x % p=0:=by obtain⟨J,hJ⟩:=h;rw[hJ];exact yH hp s0 f9 hJ low x
theorem zj {st:Pt}{x:Int}(p0:0<p)(h:du p st)(hx:look st x≠0):look st x % p≠0:=by have:=kN p0 h x;rw[cW this.1 this.2];exact hx
theorem Sr.lit {st:Pt}{c len:Int}(h:Sr s p st c len D):look st c≠0:=λe=>by obtain⟨z,hz,e2⟩:=af.mp h.bot;have:=(h.pat.1 z hz).1;rw[<- e2,Ec h.pat.2 hz] at e;lia
theorem Ae (hp:p=2 \/ p=3 \/ p=5 \/ p=7)(s0:0<=s)(f9:qw s p sts D)(iy:qw s p sts' D)(h: ∀a∈sts,cX s p sts' (look a)){c:Int}(hc:c∈sts.map (dg s)):c∈sts'.map (dg s):=by
 obtain⟨st,jZ,rfl⟩:=af.mp hc;have sr:=f9.of jZ;refine vD hp s0 iy (h st jZ) (λx hx=> ?_) ⟨dg s st,sr.ok.own,zj (by lia) sr.pat sr.lit⟩;have:look st x=0:=au λhn=>by have:=sr.ge x (cJ hn);lia
 rw[this];exact Int.zero_emod _
theorem Ad (f9:qw s p sts D):(sts.map (dg s)).Pairwise (· < ·):=by rw[bY,bj];intro i j hi hj fY;exact f9.yS i j _ _ _ _ _ _ fY (ae hi) (ae hj) (f9.of (bW _)) (f9.of (bW _))
theorem Bn (hp:p=2 \/ p=3 \/ p=5 \/ p=7)(s0:0<=s)(f9:qw s p sts D)(iy:qw s p sts' D)(e:wx s p sts sts'):sts.map (dg s)=sts'.map (dg s):=by
 have u:=Ad f9;have u':=Ad iy;have nd:(sts.map (dg s)).Nodup:=u.imp λh e=>by lia
 have Pp:(sts'.map (dg s)).Nodup:=u'.imp λh e=>by lia
 refine zg (u.imp λh=>by lia) (u'.imp λh=>by lia) ((List.perm_ext_iff_of_nodup nd Pp).mpr λc=>⟨Ae hp s0 f9 iy e.1,Ae hp s0 iy f9 e.2⟩)
theorem qR (hp:p=2 \/ p=3 \/ p=5 \/ p=7)(s0:0<=s)(f9:qw s p sts D)(iy:qw s p sts' D)(Ry:Trim s p sts' D)(h: ∀a∈sts',cX s p sts (look a))(ec: ∀ (j:Nat) a b,sts[j]? =some a ->sts'[j]? =some b ->dg s a=dg s b) (hl:sts.length=sts'.length) {i:Nat} {st bB:Pt} (hi:sts[i]? =some st) (ko:sts'[i]? =some bB) (ej: ∀ (j:Nat) a b,i<j ->sts[j]? =some a ->sts'[j]? =some b ->d6 s a=d6 s b):d6 s st<=d6 s bB:=by
 refine au λhn=> ?_;have K0:=iy.of (ai ko);have hz:=zT hp s0 f9 (h bB (ai ko)) (λj a c len hj sr x hx c8=> ?_) (dg s bB)
 ·exact zj (by lia) K0.pat K0.lit hz
 ·have Uj:look bB x≠0:=λe=>c8 (by show look bB x % p=0;rw[e];exact Int.zero_emod _);have X2:=cJ Uj;obtain⟨b,hb⟩: ∃b,sts'[j]? =some b:=⟨_,ae (by have:=(ag.mp hj).1;omega)⟩
  have e1:=ec j a b hj hb;rw[sr.j9] at e1;rcases Nat.lt_trichotomy j i with q | q | q
  ·have h1:=iy.yS j i _ _ _ _ _ _ q hb ko (iy.of (ai hb)) K0;have h2:=K0.ge x X2;lia
  ·subst q;rw[ko] at hb;cases hb;rw[hi] at hj;cases hj;have h1:=K0.n9 x X2 (by rw[hx,e1]);rw[sr.gZ] at hn;lia
  ·have h1:=Ry i j _ _ _ _ q ko hb (iy.of (ai hb)) x (by rw[hx,e1]) Uj;have h2:=ej j a b q hj hb;rw[sr.gZ] at h2;lia
theorem DP (hp:p=2 \/ p=3 \/ p=5 \/ p=7)(s0:0<=s)(f9:qw s p sts D)(iy:qw s p sts' D)(tr:Trim s p sts D)(Ry:Trim s p sts' D)(e:wx s p sts sts'):sts=sts':=by
 have em:=Bn hp s0 f9 iy e;have hl:sts.length=sts'.length:=by have:=congrArg List.length em;rwa [aa,aa] at this
 have ec: ∀ (j:Nat) a b,sts[j]? =some a ->sts'[j]? =some b ->dg s a=dg s b:=λj a b ha hb=>by have:=congrArg (λl=>l[j]?) em;simp only[aA,ha,hb,Option.map_some,Option.some.injEq] at this;exact this
 have SG: ∀ (j:Nat) a b,sts'[j]? =some a ->sts[j]? =some b ->dg s a=dg s b:=λj a b ha hb=>(ec j b a hb ha).symm;have el: ∀ (n i:Nat) a b,sts.length - i=n ->sts[i]? =some a ->sts'[i]? =some b ->d6 s a=d6 s b:=λn=>by
  induction n using Nat.strongRecOn with
  | ind n ih=>intro i a b hn ha hb;have hi:=(ag.mp ha).1;have later: ∀ (j:Nat) a b,i<j ->sts[j]? =some a ->sts'[j]? =some b ->d6 s a=d6 s b:=λj a b fY ha hb=>ih (sts.length - j) (by have:=(ag.mp ha).1;omega) j a b rfl ha hb;have h1:=qR hp s0 f9 iy Ry e.2 ec hl ha hb later;have h2:=qR hp s0 iy f9 tr e.1 SG hl.symm hb ha λj a b fY ha hb=>(later j b a fY hb ha).symm;lia
 refine List.ext_getElem? λi=> ?_;by_cases hi:i<sts.length
 ·obtain⟨a,ha⟩: ∃a,sts[i]? =some a:=⟨_,ae hi⟩
  obtain⟨b,hb⟩: ∃b,sts'[i]? =some b:=⟨_,ae (by omega)⟩
  rw[ha,hb];congr 1;have OM:=f9.of (ai ha);have OL:=iy.of (ai hb);have e1:=ec i a b ha hb;have e2:=el _ i a b rfl ha hb;refine sY OM.pat OL.pat λx=> ?_;have gU:cX s p sts λx=>look a x+look b x*(-1):=(cX.of (ai ha)).add ((e.2 b (ai hb)).mul (-1));have hz:=zT hp s0 f9 gU (λj u c len hj sr y hy c8=> ?_) x
  ·have h1:=kN (p:=p) (by lia) OM.pat x;have h2:=kN (p:=p) (by lia) OL.pat x;have ng:(look a x - look b x) % p=0:=by rw[<- hz];congr 1;lia
   have:=cc.mpr ng;rwa [cW h1.1 h1.2,cW h2.1 h2.2] at this
  ·have Qk:look a y≠0 \/ look b y≠0:=by
    by_cases z:look a y=0
    ·refine .inr λz'=>c8 ?_;show(look a y+look b y* -1) % p=0;rw[z,z'];exact Int.zero_emod _
    ·exact .inl z
   obtain⟨v,hv⟩: ∃v,sts'[j]? =some v:=⟨_,ae (by have:=(ag.mp hj).1;omega)⟩
   have c1:=ec j u v hj hv;have l1:=el _ j u v rfl hj hv;rw[sr.j9] at c1;rw[sr.gZ] at l1;rcases Nat.lt_trichotomy j i with q | q | q
   ·have h1:=f9.yS j i _ _ _ _ _ _ q hj ha sr OM;rcases Qk with z | z
    ·have:=OM.ge y (cJ z);lia
    ·have:=OL.ge y (cJ z);lia
   ·subst q;rw[ha] at hj;cases hj;have c0:=sr.j9;have l0:=sr.gZ;have hb2:0<=hI s y /\ hI s y<=len:=by
     rcases Qk with z | z
     ·have:=OM.n9 y (cJ z) (by lia);lia
     ·have:=OL.n9 y (cJ z) (by lia);lia
    refine⟨hb2.1,au λhnl=>c8 ?_⟩;have hh:hI s y=len:=by lia
    have Nt:=nk s0 hy;rw[hh] at Nt;have t1:=sr.top;have t2:=OL.top;rw[<- e1, <- e2,c0,l0] at t2;show(look a y+look b y* -1) % p=0;rw[Nt,t1,t2];exact Int.zero_emod _
   ·rcases Qk with z | z
    ·exact tr i j _ _ _ _ q ha hj sr y hy z
    ·have:=Ry i j _ _ _ _ q hb hv (iy.of (ai hv)) y (by lia) z;lia
 ·rw[cZ (by omega),cZ (by omega)]
end
end WQ
namespace L2
open PySem PySem.Spec PyProof.Rows
section
variable {X:Cx}
def yV:V ->List V ->Hp ->VK ->Prop:=λx vs H Q=> ∃l xs y, ∃i:Nat,x= .ref l /\ vs= [.int i,y] /\ H l=some (.lst xs) /\ xs.length<sizeLine /\ i<=xs.length /\ Q .dB (upd H l (.lst (xs.take i++y::xs.drop i)))
theorem AI:WY X "list.insert" yV:=by
 intro pins s σ H x vs v us Q I rx rv h;obtain⟨l,xs,y,i,rfl,rfl,hH,hz,hi,q⟩:=h;cases rx;obtain⟨u0,u,rfl,⟨tk,rfl⟩,ru⟩:=rv.two;obtain⟨z,its,n,r,hl,e⟩:=I.AM hH;have hf:Builtin.List.listFitsIndex (i:Int)=true:=by have hs:=cC;unfold Builtin.List.listFitsIndex;rw[Bool.and_eq_true,cq,cq];omega
 obtain⟨x,hx⟩: ∃x:Int,x=(i:Int):=⟨_,rfl⟩
 rw[<- hx] at hf ⊢;refine call_meets F.slot_list_insert ⟨_,e,rfl⟩ F.entry_list_insert (F.args_list_insert_3 _ _ _) (PySem.AutoSeq1.list_insert_list_int_val_1 l its.toArray n x tk u (by simp[hf]) (by rw[aO];lia)) ⟨e,?_⟩;refine⟨.dB,_,I.LF (its':=its.take i++u::its.drop i) hH e ?_ ((r.take i).append (.cons ru (r.drop i))) ?_,rfl,q⟩
 ·have hk:(if x<0 then(x+(its.toArray.size:Int)).toNat else min x.toNat its.toArray.size)=i:=by rw[aj (by lia),aO];omega
  show(its.toArray.extract 0 (if x<0 then(x+(its.toArray.size:Int)).toNat else min x.toNat its.toArray.size)).push u++its.toArray.extract (if x<0 then(x+(its.toArray.size:Int)).toNat else min x.toNat its.toArray.size)=_;rw[hk];apply Array.toList_inj.mp;simp;exact List.take_of_length_le (by simp)
 ·rw[aL,aG,a6,List.length_drop];omega
end
end L2
namespace WL
open PySem L2
section
variable {K:PySem.W.Frag}{M:Mp}{q:WK}
def Ga:WM:=λx ys M q=> ∃a l y, ∃i:Nat,x=wr a /\ ys= [wi i,y] /\ M a=some (.lst l) /\ l.length<sizeLine /\ i<=l.length /\ q wn (um M a (.lst (l.take i++y::l.drop i)))
instance:IM K yV Ga where
 imp:=by rintro x v ys us M H q Q m r1 r2 ⟨a,l,y,i,rfl,rfl,hl,hn,hi,h⟩ k;cases r1.eq;obtain⟨u0,u,rfl,r0,r⟩:=r2.two;cases r0.eq;obtain⟨vs,hv,rr⟩:=m a _ hl;exact⟨a,vs,u,i,rfl,rfl,hv,by rw[rr.length];exact hn,by rw[rr.length];exact hi,k _ _ _ _ h (kD hv) (m.putL hv ((rr.take i).append (.cons r (rr.drop i)))) WR.v⟩
end
end WL
namespace WQ
open PySem L2 WL WP
def BK (s:Int)(w:Nat):Nat:=if s=0 then 0 else w+1
def mC (s p Z:Int)(w:Nat)(pats:List Pt):Prop:= ∀pt∈pats,du p pt /\ jm s Z w w pt
def kz (s k:Int):Int:=if s=0 then 0 else k
structure Kh (s p Z:Int)(w:Nat)(pats hW:List Pt):Prop where
 eqs:wx s p pats hW
 row:mC s p Z (BK s w) hW
 len:hW.length<=pats.length+1
section
variable {s p Z k n:Int}{w i j:Nat}{pats:List Pt}{a b:Pt}
theorem LJ:kz s k*s=k*s:=by
 unfold kz;split
 ·rename_i h;rw[h,Int.mul_zero,Int.mul_zero]
 ·rfl
theorem PK (h0: -1<=k)(h1:k<=1): -1<=kz s k /\ kz s k<=1 /\ (s=0 ->kz s k=0):=by
 unfold kz;split
 ·exact⟨by decide,by decide,λ_=>rfl⟩
 ·rename_i h;exact⟨h0,h1,λz=>absurd z h⟩
theorem Ka (h:jm s Z ((w:Int)+1) ((w:Int)+1) a):jm s Z (BK s w) (BK s w) a:=by
 unfold BK;by_cases z:s=0
 ·rw[ak z];exact⟨λx _=>by rw[z,j6];exact⟨by decide,by decide⟩,h.2⟩
 ·rw[aj z];exact h
theorem mC.up (h:mC s p Z w pats):mC s p Z (BK s w) pats:=λpt kP=>⟨(h pt kP).1,Ka ((h pt kP).2.up (by lia) (by lia))⟩
theorem lq (p0:0<p)(ha:du p a)(hb:du p b)(x:Int):look (jo p (a++tD (k*s) n b)) x=(look a x+dv (λsh=>look b (x - s*sh)) [(kz s k,n)]) % p:=by have e:=LJ (s:=s) (k:=k);rw[Ed p0 ha hb, <- e];show _=(look a x+(look b (x - s*kz s k)*n+0)) % p;rw[bu,bK s]
theorem uL {c:Pt}(hi:pats[i]? =some a):c∈pats.set i c:=ai (i:=i) (by rw[List.getElem?_set,ak rfl,ak (ag.mp hi).1])
theorem mQ {c:Pt}(hj:pats[j]? =some b)(h:i≠j):b∈pats.set i c:=ai (i:=j) (by rw[List.getElem?_set,aj h];exact hj)
theorem yR {c:Pt}(h:mC s p Z w pats)(hc:du p c /\ jm s Z (BK s w) (BK s w) c):mC s p Z (BK s w) (pats.set i c):=λpt kP=>by
 rcases List.mem_or_eq_of_mem_set kP with q | q
 ·exact h.up pt q
 ·rw[q];exact hc
theorem sE (p0:0<p)(h0: -1<=k)(h1:k<=1)(ha:du p a /\ jm s Z w w a)(hb:du p b /\ jm s Z w w b):du p (jo p (a++tD (k*s) n b)) /\ jm s Z (BK s w) (BK s w) (jo p (a++tD (k*s) n b)):=by
 have hk:=PK (s:=s) h0 h1;refine⟨jS p0 _,Ka (jm.cut (jl:=1) (jh:=1) ha.2 hb.2 (lq p0 ha.1 hb.1) (λj hj=> ?_) (λz j hj=> ?_) (by lia) (by lia) (by lia) (by lia))⟩
 ·rw[ah.mp hj];exact⟨hk.1,hk.2.1⟩
 ·rw[ah.mp hj];exact hk.2.2 z
theorem HG (p0:0<p)(h:mC s p Z w pats)(hi:pats[i]? =some a)(hj:pats[j]? =some b)(fY:i≠j)(h0: -1<=k)(h1:k<=1):Kh s p Z w pats (pats.set i (jo p (a++tD (k*s) n b))):=by
 have ha:=h a (ai hi);have hb:=h b (ai hj);refine⟨⟨λa' vB=> ?_,λb' k9=> ?_⟩,yR h (sE p0 h0 h1 ha hb),by rw[List.length_set];omega⟩
 ·obtain⟨m,hm⟩:=bA.mp vB;by_cases e:i=m
  ·subst e;rw[hi] at hm;cases hm;exact cX.back (cX.of (uL hi)) (cX.of (mQ hj fY)) (lq p0 ha.1 hb.1)
  ·exact cX.of (mQ hm e)
 ·rcases List.mem_or_eq_of_mem_set k9 with q | q
  ·exact cX.of q
  ·rw[q];exact((cX.of (ai hi)).add ((cX.of (ai hj)).dv [(kz s k,n)])).ext λx=>by rw[lq p0 ha.1 hb.1,cE]
theorem oB (p0:0<p):du p ([]:Pt) /\ jm s Z w w ([]:Pt):=⟨du.nil,λ_ h=>absurd rfl h,λ_ _ h=>absurd rfl h⟩
theorem va (p0:0<p)(ha:du p a)(x:Int):look (jo p ([]++tD (k*s) n a)) x=look a (x+s*(-kz s k))*n % p:=by rw[lq p0 du.nil ha];show(0+(look a (x - s*kz s k)*n+0)) % p=_;rw[bP,bu,Int.mul_neg, <- Int.sub_eq_add_neg]
theorem DK {G:List Pt}(p0:0<p)(ha:du p a)(h:cX s p G (look a)):cX s p G (look (jo p ([]++tD (k*s) n a))):=((h.shift (kz s k)).mul n).ext λx=>by rw[va p0 ha,cE,Int.mul_neg, <- Int.sub_eq_add_neg]
theorem HH (hp:p=2 \/ p=3 \/ p=5 \/ p=7)(h:mC s p Z w pats)(hi:pats[i]? =some a)(h0: -1<=k)(h1:k<=1)(n0:0<n)(n1:n<p):Kh s p Z w pats (pats.set i (jo p ([]++tD (k*s) n a))):=by
 have p0:0<p:=by lia
 have ha:=h a (ai hi);refine⟨⟨λa' vB=> ?_,λb' k9=> ?_⟩,yR h (sE p0 h0 h1 (oB p0) ha),by rw[List.length_set];omega⟩
 ·obtain⟨m,hm⟩:=bA.mp vB;by_cases e:i=m
  ·subst e;rw[hi] at hm;cases hm;exact cX.sA hp n0 n1 (cX.of (uL hi)) (va p0 ha.1)
  ·exact cX.of (mQ hm e)
 ·rcases List.mem_or_eq_of_mem_set k9 with q | q
  ·exact cX.of q
  ·rw[q];exact DK p0 ha.1 (cX.of (ai hi))
theorem HJ (p0:0<p)(h:mC s p Z w pats)(hi:pats[i]? =some a)(h0: -1<=k)(h1:k<=1):Kh s p Z w pats (pats++ [jo p ([]++tD (k*s) n a)]):=by
 have ha:=h a (ai hi);refine⟨⟨λa' vB=>cX.of (List.mem_append_left _ vB),λb' k9=> ?_⟩,λpt kP=> ?_,by simp⟩
 ·rcases ax.mp k9 with q | q
  ·exact cX.of q
  ·rw[ah.mp q];exact DK p0 ha.1 (cX.of (ai hi))
 ·rcases ax.mp kP with q | q
  ·exact h.up pt q
  ·rw[ah.mp q];exact sE p0 h0 h1 (oB p0) ha
theorem zx {G:List Pt}:cX s p G (look []):=cX.zero
theorem HI (p0:0<p)(h:mC s p Z w pats)(hi:i<=pats.length):Kh s p Z w pats (pats.take i++ []::pats.drop i):=by
 have hm: ∀x:Pt,x∈pats.take i++ []::pats.drop i↔x= [] \/ x∈pats:=λx=>by
  rw[ax,av];constructor
  ·rintro(q | q | q)
   ·exact .inr (List.mem_of_mem_take q)
   ·exact .inl q
   ·exact .inr (List.mem_of_mem_drop q)
  ·rintro(q | q)
   ·exact .inr (.inl q)
   ·rw[<- a8 i pats,ax] at q;rcases q with q | q
    ·exact .inl q
    ·exact .inr (.inr q)
 refine⟨⟨λa' vB=>cX.of ((hm _).mpr (.inr vB)),λb' k9=> ?_⟩,λpt kP=> ?_,by rw[aL,aG,a6,List.length_drop];omega⟩
 ·rcases (hm _).mp k9 with q | q
  ·rw[q];exact zx
  ·exact cX.of q
 ·rcases (hm _).mp kP with q | q
  ·rw[q];exact oB p0
  ·exact h.up pt q
theorem Fn (h:mC s p Z w pats)(hi:pats[i]? =some a)(hj:pats[j]? =some b):Kh s p Z w pats ((pats.set i b).set j a):=by
 have hm: ∀x:Pt,x∈(pats.set i b).set j a ->x∈pats:=λx hx=>by
  rcases List.mem_or_eq_of_mem_set hx with q | q
  ·rcases List.mem_or_eq_of_mem_set q with q | q
   ·exact q
   ·rw[q];exact ai hj
  ·rw[q];exact ai hi
 have hjl:=(ag.mp hj).1;have FX:=(ag.mp hi).1;refine⟨⟨λa' vB=> ?_,λb' k9=>cX.of (hm _ k9)⟩,λpt kP=>h.up pt (hm _ kP),by rw[List.length_set,List.length_set];omega⟩;obtain⟨m,FR⟩:=bA.mp vB;refine cX.of ?_;by_cases e:m=i
 ·rw[e,hi] at FR;cases FR;exact ai (i:=j) (by rw[List.getElem?_set,ak rfl,ak (by rw[List.length_set];exact hjl)])
 ·by_cases e2:m=j
  ·rw[e2,hj] at FR;cases FR;exact ai (i:=i) (by rw[List.getElem?_set,aj (by omega),List.getElem?_set,ak rfl,ak FX])
  ·exact ai (i:=m) (by rw[List.getElem?_set,aj (by omega),List.getElem?_set,aj (by omega)];exact FR)
theorem Fo (p0:0<p):Kh s p Z w [] [[]]:=⟨⟨λa ha=>absurd ha List.not_mem_nil,λb hb=>by rw[ah.mp hb];exact zx⟩,λpt kP=>by rw[ah.mp kP];exact oB p0,by simp⟩
end
theorem iT.fresh {d l b:Addr}{M M':Mp}(h:iT d M M')(D:Dr M' d l)(hb:M' b=none):M b=none:=by
 obtain⟨nd,_⟩:=D.ne hb;cases e:M b with
 | none=>rfl
 | some o=>rw[h b o nd e] at hb;cases hb
def DJ:kb:=λxs M q=> ∃ (d l u:Addr) (p s Z:Int) (w:Nat) (pats:List Pt),xs= [wr d,wi p,wi s,wr u] /\ Dr M d l /\ M u=some (.lst (pats.map cR)) /\ (p=2 \/ p=3 \/ p=5 \/ p=7) /\ 0<=s /\ s<=8 /\ 0<=Z /\ Z<=1000 /\ w<=60 /\ pats.length<=60 /\ mC s p Z w pats /\∀ (t:Addr) (hW:List Pt) (M':Mp),Kh s p Z w pats hW ->M t=none ->M' t=some (.lst (hW.map cR)) ->Dr M' d l ->iT d M M' ->q (wr t) M'
theorem nr.ins {s p:Int}{pats:List Pt}{b:Pt}{Q:Pq}(h:nr s p pats b Q):cX s p pats (look b):=by
 refine⟨λn=>pf Q n,λx=> ?_⟩;rw[h.is];have: ∀n,mJ s pats Q x n=fu s pats (λn=>pf Q n) x n:=λn=>by
  induction n with
  | zero=>rfl
  | succ n ih=>rw[mJ,fu,ih]
 rw[this]
theorem Rv.one {s p Z Z':Int}{w w':Nat}{pats hW sts sts':List Pt}{Ps Ps':List Pq}(hp:p=2 \/ p=3 \/ p=5 \/ p=7)(s0:0<=s)(h:Rv s p Z w pats sts Ps)(h':Rv s p Z' w' hW sts' Ps')(e:wx s p pats hW):sts=sts':=by
 have own: ∀ {Z:Int} {w:Nat} {pats sts:List Pt} {Ps:List Pq},Rv s p Z w pats sts Ps ->wx s p sts pats:=λ{Z w pats sts Ps} h=>by
  refine⟨λst jZ=> ?_,h.sp⟩;obtain⟨i,hi⟩:=bA.mp jZ;obtain⟨P,hP⟩: ∃P,Ps[i]? =some P:=⟨_,ae (by rw[h.len];exact(ag.mp hi).1)⟩
  exact(h.md i st P hi hP).1.ins
 exact DP hp s0 h.f9 h'.f9 h.trim h'.trim ((own h).trans (e.trans (own h').symm))
end WQ
set_option synthInstance.maxSize 100000
set_option synthInstance.maxHeartbeats 0
open PySem L2 WL WP WQ EN PyProof.Rows
local macro_rules | `(tactic| simp? [$xs,*]) => do let a <- ("lstK_e dicK_e optK_e andK_e iteK_t iteK_f isB_e refK_e tupK_e keyK_i wVar_0 wVar_1 wVar_2 wVar_3 wVar_4 wVar_5 wVar_6 wVar_7 wVar_8 wVar_9 wVar_10 wVar_11 wVar_12 wVar_13 wVar_14 wVar_15 wVar_16 wVar_17 wVar_18 wVar_19 wVar_20 wVar_21 wVar_22 wVar_23 wC_e wOp_e wUn_e wI_e wI0_e wU_e wEq_i wNe_i wTest_e wAnd_e wOr_e wNot_e wAndV_e wNotV_e wChain_e wNil_e wCons_e wTup_e wLst_e wIxL_e wIxT_e wNoPart_e intK_e wPart_e wSl_e wSlL_e wCB_e wCall_e wLen_l wLen_t wAbs_e wListOf_l wListOf_t wTupleOf_l wIsX_e wBM_e wAppend_e wCat_e wTruth_e wDNew_e wDGet_e wDNotIn_e wDGet2_e sNext_e sCont_e sDrop_e sRet_e sRetN_e sIf_e sAsg_e sDPutW_e sFor_e sWhile_e vName_e vNil_e vCons_e vTup_e vSub_e wSetL_e jList_e jTup_e oneK_e jRng1_e wComp_e wYes_e wComp2_e jRng3_e wDSetD_e setdK_s setdK_n wFld_e sFldW_e insK_e jItems_e wLItems_e wMinD_e sDDelW_e".splitOn " ").toArray.mapM λs => `(Lean.Parser.Tactic.simpLemma| ↓ $(Lean.mkIdent s.toName):term); let b <- ("kit_int_int kit_int_bool kit_int_str kit_int_tuple kit_int_list kit_bool_int kit_bool_bool kit_bool_str kit_bool_tuple kit_bool_list kit_str_int kit_str_bool kit_str_str kit_str_tuple kit_str_list kit_NoneType_int kit_NoneType_bool kit_NoneType_str kit_NoneType_tuple kit_NoneType_list kit_tuple_int kit_tuple_bool kit_tuple_str kit_tuple_tuple kit_tuple_list kit_list_int kit_list_bool kit_list_str kit_list_tuple kit_list_list sl1 sl2 sl3 sl4 sl0 List.map_cons List.map_nil List.length_cons List.length_nil Nat.zero_add List.cons_append List.nil_append List.set_cons_zero List.set_cons_succ um_same um_um atI_0 atI_1 atI_2 atI_3 ixN_1 ixN_2 ixN_3 Bool.not_true Bool.not_false List.getElem?_cons_zero List.getElem?_cons_succ Option.join_some and_self and_true true_and Option.getD_some Option.getD_none tyW capρ".splitOn " ").toArray.mapM λs => `(Lean.Parser.Tactic.simpLemma| $(Lean.mkIdent s.toName):term); `(tactic| try simp only [$a,*, $b,*, Nat.reduceAdd, Nat.reduceSub, List.reduceReplicate, $xs,*])
local macro_rules | `(tactic| dsimp? [$xs,*]) => `(tactic| (simp? [↓dS, $xs,*]; repeat (with_reducible refine jC ?_; simp? [↓dS, $xs,*])))
namespace f7
open PySem L2 WL WP WQ EN PyProof.Rows
def top (i:Nat):Stmt:=PySem.Challenge.pw_duskround_k22_whole_one_form_of_stairs.main.body.getD i (.Pass ⟨0,0,0,0⟩)
abbrev sI:Stmt:=top 1
abbrev mU:Stmt:=top 3
abbrev C2:Stmt:=Js (top 5) 0
abbrev sM:Stmt:=Js (top 6) 0
abbrev oY:Stmt:=top 7
abbrev fF:Stmt:=top 8
abbrev iF:Stmt:=top 9
abbrev iz:Stmt:=top 10
abbrev jz:Stmt:=top 11
abbrev fE:Stmt:=top 12
abbrev C1:Stmt:=top 13
abbrev sJ:Stmt:=top 14
abbrev gx:Stmt:=top 15
abbrev mR:Stmt:=top 16
abbrev mS:Stmt:=top 17
abbrev lF:Stmt:=top 18
abbrev mT:Stmt:=top 20
abbrev oX:Stmt:=top 21
abbrev C0:Stmt:=top 22
abbrev lE:Stmt:=top 23
abbrev jx:Stmt:=top 24
abbrev eh:Stmt:=top 25
abbrev ou:Stmt:=top 26
abbrev sL:Stmt:=top 27
abbrev gG:Stmt:=top 28
abbrev jy:Stmt:=top 29
abbrev yQ:Stmt:=top 30
set_option genInjectivity false in
set_option genSizeOf false in
structure Am where
 E4:Addr
 Fe:FuncData
 rA:Addr
 rK:FuncData
 J1:Addr
 J8:FuncData
 zK:Addr
 zZ:FuncData
 vG:Addr
 vP:FuncData
 jG:Addr
 jI:FuncData
 rB:Addr
 rL:FuncData
 kq:Addr
 ku:FuncData
 nJ:Addr
 nO:FuncData
 ij:Addr
 iq:FuncData
 J0:Addr
 J7:FuncData
 zG:Addr
 zV:FuncData
 l6:Addr
 mj:FuncData
 rm:Addr
 rG:FuncData
 rn:Addr
 rH:FuncData
 zJ:Addr
 zY:FuncData
 rq:Addr
 rJ:FuncData
 vF:Addr
 vO:FuncData
 JZ:Addr
 J6:FuncData
 vE:Addr
 vN:FuncData
 nG:Addr
 nM:FuncData
 ik:Addr
 iu:FuncData
 zH:Addr
 zW:FuncData
 zI:Addr
 zX:FuncData
 jF:Addr
 jH:FuncData
 nH:Addr
 nN:FuncData
 JY:Addr
 J5:FuncData
 d8:Addr
 dh:Addr
structure Txt (K:PySem.W.Frag)(mg:Str ->Option Value)(A:Am):Prop where
 Kc:mg "abs" =none
 Q8:mg "all" =none
 MN:mg "bool" =none
 MM:mg "dict" =none
 vY:mg "enumerate" =none
 Q7:mg "int" =none
 eV:mg "isinstance" =none
 nR:mg "len" =none
 fM:mg "list" =none
 Q6:mg "min" =none
 iw:mg "range" =none
 gQ:mg "sorted" =none
 jd:mg "tuple" =none
 tidy:mM K mg "tidy" ["p","pairs"] sI A.E4 A.Fe
 inverse:mM K mg "inverse" ["p","setting"] mU A.rA A.rK
 Row:Ru K mg "Row" "Row.__init__" ["self","lamps","parts"] C2 A.d8 A.J1 A.J8
 Stair:Ru K mg "Stair" "Stair.__init__" ["self","row","first","length","foot"] sM A.dh A.zK A.zZ
 column:mM K mg "column" ["place","stride"] oY A.vG A.vP
 first_column:mM K mg "first_column" ["places","stride"] fF A.jG A.jI
 heights:mM K mg "heights" ["places","stride","first"] iF A.rB A.rL
 add_shifted:mM K mg "add_shifted" ["p","held","others","by","n"] iz A.kq A.ku
 add_moved:mM K mg "add_moved" ["p","stride","row","other","shift","n"] jz A.nJ A.nO
 too_high_or_low:mM K mg "too_high_or_low" ["found","length"] fE A.ij A.iq
 cut:mM K mg "cut" ["p","stride","row","stair"] C1 A.J0 A.J7
 stood:mM K mg "stood" ["p","stride","row"] sJ A.zG A.zV
 told_parts:mM K mg "told_parts" ["p","parts","n"] gx A.l6 A.mj
 take_in:mM K mg "take_in" ["p","stride","held","row"] mR A.rm A.rG
 lie_low:mM K mg "lie_low" ["p","stride","held"] mS A.rn A.rH
 built:mM K mg "built" ["p","stride","patterns"] lF A.zJ A.zY
 zp:mM K mg "_law_begin" ["_law_script"] mT A.rq A.rJ
 fk:mM K mg "_law_take" ["_law_draw","_law_many"] oX A.vF A.vO
 XW:mM K mg "_law_p" ["_law_draw"] C0 A.JZ A.J6
 xE:mM K mg "_law_tidy" ["_law_p_here","_law_pairs"] lE A.vE A.vN
 qW:mM K mg "_law_pattern" ["_law_draw","_law_p_here","_law_most","_law_far"] jx A.nG A.nM
 jk:mM K mg "_law_draw_patterns" ["_law_draw","_law_p_here","_law_most"] eh A.ik A.iu
 zo:mM K mg "_law_sum" ["_law_p_here","_law_one","_law_other","_law_by","_law_many"] ou A.zH A.zW
 El:mM K mg "_law_int" ["_law_thing"] sL A.zI A.zX
 lR:mM K mg "_law_is_pattern" ["_law_p_here","_law_thing"] gG A.jF A.jH
 qX:mM K mg "_law_changed" ["_law_draw","_law_p_here","_law_stride","_law_patterns"] jy A.nH A.nN
 law:mM K mg "law" ["_law_script"] yQ A.JY A.J5
 dJ:dC K A.d8 "lamps"
 dZ:dC K A.d8 "parts"
 gd:dC K A.dh "first"
 gy:dC K A.dh "foot"
 dE:dC K A.dh "lamps"
 fH:dC K A.dh "length"
 dD:dC K A.dh "parts"
theorem yP:b7 ["p","pairs","turned","place","setting"] ["p","pairs"] (aQ sI):=⟨rfl,rfl,rfl,by decide+kernel,rfl,by decide+kernel,by decide+kernel⟩
theorem oV:b7 ["p","setting","found","at"] ["p","setting"] (aQ mU):=⟨rfl,rfl,rfl,by decide+kernel,rfl,by decide+kernel,by decide+kernel⟩
theorem CZ:b7 ["self","lamps","parts"] ["self","lamps","parts"] (aQ C2):=⟨rfl,rfl,rfl,by decide+kernel,rfl,by decide+kernel,by decide+kernel⟩
theorem uQ:b7 ["self","row","first","length","foot"] ["self","row","first","length","foot"] (aQ sM):=⟨rfl,rfl,rfl,by decide+kernel,rfl,by decide+kernel,by decide+kernel⟩
theorem qM:b7 ["place","stride"] ["place","stride"] (aQ oY):=⟨rfl,rfl,rfl,by decide+kernel,rfl,by decide+kernel,by decide+kernel⟩
theorem jg:b7 ["places","stride"] ["places","stride"] (aQ fF):=⟨rfl,rfl,rfl,by decide+kernel,rfl,by decide+kernel,by decide+kernel⟩
theorem oW:b7 ["places","stride","first"] ["places","stride","first"] (aQ iF):=⟨rfl,rfl,rfl,by decide+kernel,rfl,by decide+kernel,by decide+kernel⟩
theorem jw:b7 ["p","held","others","by","n","key","setting","now"] ["p","held","others","by","n"] (aQ iz):=⟨rfl,rfl,rfl,by decide+kernel,rfl,by decide+kernel,by decide+kernel⟩
theorem lD:b7 ["p","stride","row","other","shift","n","which","settings"] ["p","stride","row","other","shift","n"] (aQ jz):=⟨rfl,rfl,rfl,by decide+kernel,rfl,by decide+kernel,by decide+kernel⟩
theorem gE:b7 ["found","length"] ["found","length"] (aQ fE):=⟨rfl,rfl,rfl,by decide+kernel,rfl,by decide+kernel,by decide+kernel⟩
theorem CY:b7 ["p","stride","row","stair","found","height","setting"] ["p","stride","row","stair"] (aQ C1):=⟨rfl,rfl,rfl,by decide+kernel,rfl,by decide+kernel,by decide+kernel⟩
theorem uM:b7 ["p","stride","row","first","found","turn","upright"] ["p","stride","row"] (aQ sJ):=⟨rfl,rfl,rfl,by decide+kernel,rfl,by decide+kernel,by decide+kernel⟩
theorem kl:b7 ["p","parts","n"] ["p","parts","n"] (aQ gx):=⟨rfl,rfl,rfl,by decide+kernel,rfl,by decide+kernel,by decide+kernel⟩
theorem oS:b7 ["p","stride","held","row","first","stair","left"] ["p","stride","held","row"] (aQ mR):=⟨rfl,rfl,rfl,by decide+kernel,rfl,by decide+kernel,by decide+kernel⟩
theorem oT:b7 ["p","stride","held","firsts","at","behind"] ["p","stride","held"] (aQ mS):=⟨rfl,rfl,rfl,by decide+kernel,rfl,by decide+kernel,by decide+kernel⟩
theorem uP:b7 ["p","stride","patterns","held","which","pattern","firsts","stairs"] ["p","stride","patterns"] (aQ lF):=⟨rfl,rfl,rfl,by decide+kernel,rfl,by decide+kernel,by decide+kernel⟩
theorem oU:b7 ["_law_script"] ["_law_script"] (aQ mT):=⟨rfl,rfl,rfl,by decide+kernel,rfl,by decide+kernel,by decide+kernel⟩
theorem qL:b7 ["_law_draw","_law_many","_law_number","_law_got"] ["_law_draw","_law_many"] (aQ oX):=⟨rfl,rfl,rfl,by decide+kernel,rfl,by decide+kernel,by decide+kernel⟩
theorem CW:b7 ["_law_draw"] ["_law_draw"] (aQ C0):=⟨rfl,rfl,rfl,by decide+kernel,rfl,by decide+kernel,by decide+kernel⟩
theorem qK:b7 ["_law_p_here","_law_pairs","_law_sums","_law_place","_law_setting"] ["_law_p_here","_law_pairs"] (aQ lE):=⟨rfl,rfl,rfl,by decide+kernel,rfl,by decide+kernel,by decide+kernel⟩
theorem lB:b7 ["_law_draw","_law_p_here","_law_most","_law_far","_law_pairs","_law_k","_law_place"] ["_law_draw","_law_p_here","_law_most","_law_far"] (aQ jx):=⟨rfl,rfl,rfl,by decide+kernel,rfl,by decide+kernel,by decide+kernel⟩
theorem gF:b7 ["_law_draw","_law_p_here","_law_most"] ["_law_draw","_law_p_here","_law_most"] (aQ eh):=⟨rfl,rfl,rfl,by decide+kernel,rfl,by decide+kernel,by decide+kernel⟩
theorem uN:b7 ["_law_p_here","_law_one","_law_other","_law_by","_law_many"] ["_law_p_here","_law_one","_law_other","_law_by","_law_many"] (aQ ou):=⟨rfl,rfl,rfl,by decide+kernel,rfl,by decide+kernel,by decide+kernel⟩
theorem uO:b7 ["_law_thing"] ["_law_thing"] (aQ sL):=⟨rfl,rfl,rfl,by decide+kernel,rfl,by decide+kernel,by decide+kernel⟩
theorem jf:b7 ["_law_p_here","_law_thing","_law_k","_law_pair"] ["_law_p_here","_law_thing"] (aQ gG):=⟨rfl,rfl,rfl,by decide+kernel,rfl,by decide+kernel,by decide+kernel⟩
theorem lC:b7 ["_law_draw","_law_p_here","_law_stride","_law_patterns","_law_row","_law_one","_law_other","_law_by","_law_many","_law_way","_law_kept"] ["_law_draw","_law_p_here","_law_stride","_law_patterns"] (aQ jy):=⟨rfl,rfl,rfl,by decide+kernel,rfl,by decide+kernel,by decide+kernel⟩
theorem CV:b7 ["_law_script","_law_draw","_law_p_here","_law_stride","_law_patterns","_law_row","_law_k","_law_found","_law_other","_law_again","_law_told"] ["_law_script"] (aQ yQ):=⟨rfl,rfl,rfl,by decide+kernel,rfl,by decide+kernel,by decide+kernel⟩
section
variable {P:Program}{w:World}{K:PySem.W.Frag}{mg:Str ->Option Value}{base:Heap}{A:Am}
theorem AF (T:Txt K mg A):dI P w K mg base iV 1 A.vG A.vP ["place","stride"] (ly K Tt):=by
 refine nX T.column.fn qM (by rintro vs M q ⟨x,s,rfl,_⟩;rfl) λdQ A' outer s H E hr=> ?_;have nd:=qM.nd;refine⟨_,(aI (eG (cH iL (pv 1) aK (c9 _)) (aR (cQ (pv 0))) dR) (aR (cQ (bQ gq (pv 0) (pv 1))))),?_⟩;try dsimp only[eQ]
 refine⟨_,inferInstance,?_⟩;rintro vs M q ⟨x,s,rfl,s0,s1,k⟩;dsimp? [];refine dG (λh=> ?_) λh=> ?_
 ·dsimp? [];rw[bM,ak h] at k;exact kr k
 ·have h0:0<s:=by omega
  dsimp? [h0];rw[bM,aj h] at k;exact kr k
theorem jj (T:Txt K mg A):dI P w K mg base iV 2 A.jG A.jI ["places","stride"] (ly K DI):=by
 have FE:=AF (P:=P) (w:=w) (base:=base) T;refine nX T.first_column.fn jg (by rintro vs M q ⟨a,ns,s,rfl,_⟩;rfl) λdQ A' outer s H E hr=> ?_;have nd:=jg.nd;refine⟨_,(aR (cQ (GI (by rfl) T.Q6 rfl (f' rfl (d4.of (sc:=aQ fF) (N:= ["places","stride"]) (own:= ["place"]) (fr:= [1]) (N':= ["place","stride"]) rfl rfl rfl (by decide+kernel) rfl (by decide+kernel) (by decide+kernel) (by decide+kernel) (by decide+kernel) (by decide+kernel)) (eB (pv 0)) (λ_ _ _ _=>(cj (i:=0) (by show(["place","stride"]:List Str).Nodup;decide+kernel) rfl (by first | exact Or.inl rfl | exact Or.inr rfl))) eT (λ_ _ _ _=>hU) (λ_ _ _ _=>(aY T.column FE (hr.mono (by decide)) (by rfl) (ab (pv 0) (ab (pv 1) aC))))) Dy))),?_⟩;try dsimp only[eQ]
 refine⟨_,inferInstance,?_⟩;rintro vs M q ⟨a,ns,s,rfl,ha,hl,s0,s1,k0,k1⟩;dsimp? [B8,ha];refine vV (λx:Int=>wi (bM s x)) (big (by omega)) (λM6 s6=>s6 _ _ ha) ?_ λt ht=> ?_
 ·intro x hx M3 N s3 hN;dsimp? [];refine⟨x,s,rfl,s0,s1,?_⟩;dsimp? [];exact hN
 dsimp? [];refine⟨t,ns.map (bM s),rfl,by rw[um_same,aD];rfl,λe=> ?_,λm hm=> ?_⟩
 ·dsimp? [];exact⟨M,c4 ht,k0 (by simpa using e)⟩
 ·dsimp? [];have c8:ns≠ []:=by rintro rfl;exact absurd hm.1 (by simp)
  rw[gT.uniq hm (fg (by simpa using c8))];exact⟨M,c4 ht,k1 c8⟩
theorem pj (T:Txt K mg A):dI P w K mg base iV 1 A.rB A.rL ["places","stride","first"] (ly K Tr):=by
 refine nX T.heights.fn oW (by rintro vs M q ⟨a,ns,s,f,rfl,_⟩;rfl) λdQ A' outer s H E hr=> ?_;have nd:=oW.nd;refine⟨_,(aI (eG (cH iL (pv 1) aK (c9 _)) (aR (cQ (f' rfl (d4.of (sc:=aQ iF) (N:= ["places","stride","first"]) (own:= ["place"]) (fr:= [2]) (N':= ["place","first"]) rfl rfl rfl (by decide+kernel) rfl (by decide+kernel) (by decide+kernel) (by decide+kernel) (by decide+kernel) (by decide+kernel)) (eB (pv 0)) (λ_ _ _ _=>(cj (i:=0) (by show(["place","first"]:List Str).Nodup;decide+kernel) rfl (by first | exact Or.inl rfl | exact Or.inr rfl))) eT (λ_ _ _ _=>(oz (cH iL (pv 0) (pv 1) (c9 _)))) (λ_ _ _ _=>aK)))) dR) (aR (cQ (cA yf (by rfl) T.gQ Boot.«sorted» (ab (f' rfl (d4.of (sc:=aQ iF) (N:= ["places","stride","first"]) (own:= ["place"]) (fr:= [1,2]) (N':= ["place","stride","first"]) rfl rfl rfl (by decide+kernel) rfl (by decide+kernel) (by decide+kernel) (by decide+kernel) (by decide+kernel) (by decide+kernel)) (eB (pv 0)) (λ_ _ _ _=>(cj (i:=0) (by show(["place","stride","first"]:List Str).Nodup;decide+kernel) rfl (by first | exact Or.inl rfl | exact Or.inr rfl))) eT (λ_ _ _ _=>(oz (cH iL (bQ gq (pv 0) (pv 1)) (pv 2) (c9 _)))) (λ_ _ _ _=>(bQ sZ (pv 0) (pv 1)))) aC))))),?_⟩;try dsimp only[eQ]
 refine⟨_,inferInstance,?_⟩;rintro vs M q ⟨a,ns,s,f,rfl,ha,hl,s0,s1,k⟩;dsimp? [];refine dG (λh=> ?_) λh=> ?_
 ·subst h;dsimp? [ha];refine comp_map (λx:Int=>decide (x=f)) (λx:Int=>wi 0) (big (by omega)) (λM6 s6=>s6 _ _ ha) ?_ λt ht=> ?_
  ·intro x hx M3 N s3 hN;dsimp? [];refine dG (λh=> ?_) λh=> ?_
   ·dsimp? [];simpa only[h,decide_true,bN] using hN
   ·dsimp? [];simpa only[h,decide_false,ay,bf] using hN
  dsimp? [];have e:(ns.filter λx=>decide (x=f)).map (λ_=>wi 0)=(nE 0 f ns).map wi:=by unfold nE;rw[aD];rfl
  rw[e];refine kr (k t _ ht (List.Perm.refl _) ?_);unfold nE;rw[bY];exact List.pairwise_of_forall λ_ _=>aV _
 ·have h0:0<s:=by omega
  have cd: ∀x,yn x s=True:=λx=>by simp[yn];omega
  dsimp? [ha,h0,cd];refine comp_map (λx:Int=>decide (x % s=f)) (λx:Int=>wi (x / s)) (big (by omega)) (λM6 s6=>s6 _ _ ha) ?_ λt ht=> ?_
  ·intro x hx M3 N s3 hN;dsimp? [h0];refine dG (λh=> ?_) λh=> ?_
   ·dsimp? [h0,cd];simpa only[h,decide_true,bN] using hN
   ·dsimp? [];simpa only[h,decide_false,ay,bf] using hN
  dsimp? [B7];have e:(ns.filter λx=>decide (x % s=f)).map (λx=>wi (x / s))=(nE s f ns).map wi:=by unfold nE bM hI;rw[aD];simp only[h,bf];rfl
  refine⟨t,nE s f ns,rfl,by rw[um_same,e],λp ms hp h1 h2=> ?_⟩;dsimp? [];exact⟨_,K1 ht hp,k p ms (by rw[aJ (λz=>by rw[z,um_same] at hp;cases hp)] at hp;exact hp) h1 h2⟩
theorem xu (T:Txt K mg A):dI P w K mg base iV 1 A.J1 A.J8 ["self","lamps","parts"] (ly K (Lg A.d8)):=by
 have cl:=a7 T.Row.cl;have n1:=a7 T.dJ;have n2:=a7 T.dZ;refine nX T.Row.fn CZ (by rintro vs M q ⟨s,dx,l,r,rfl,_⟩;rfl) λdQ A' outer s H E hr=> ?_;have nd:=CZ.nd;refine⟨_,(aI (kI (pv 0) (pv 1) rfl) (aR (kI (pv 0) (pv 2) rfl))),?_⟩;try dsimp only[eQ]
 refine⟨_,inferInstance,?_⟩;rintro vs M q ⟨s,dx,l,r,rfl,hs,k⟩;have e1:ji "lamps" l []= [(("lamps" :Str),l)]:=rfl;have e2:ji "parts" r [(("lamps" :Str),l)]= [(("lamps" :Str),l),(("parts" :Str),r)]:=rfl;dsimp? [hs,cl,n1,n2,e1,e2,Nat.reduceLT];exact kr k
theorem DX (T:Txt K mg A):dI P w K mg base iV 1 A.zK A.zZ ["self","row","first","length","foot"] (ly K (DG A.d8 A.dh)):=by
 have cl:=a7 T.Row.cl;have cl2:=a7 T.Stair.cl;have n1:=a7 T.dJ;have n2:=a7 T.dZ;have m1:=a7 T.dE;have m2:=a7 T.dD;have m3:=a7 T.gd;have m4:=a7 T.fH;have m5:=a7 T.gy;refine nX T.Stair.fn uQ (by rintro vs M q ⟨s,dx,r,dr,l,u,f,g,e,rfl,_⟩;rfl) λdQ A' outer s H E hr=> ?_;have nd:=uQ.nd;refine⟨_,(aI (kI (pv 0) (dH (pv 1) rfl) rfl) (aI (kI (pv 0) (dH (pv 1) rfl) rfl) (aI (kI (pv 0) (pv 2) rfl) (aI (kI (pv 0) (pv 3) rfl) (aR (kI (pv 0) (pv 4) rfl)))))),?_⟩;try dsimp only[eQ]
 refine⟨_,inferInstance,?_⟩;rintro vs M q ⟨s,dx,r,dr,l,u,f,g,e,rfl,hsr,hs,hr,k⟩;have f1: [(("lamps" :Str),l),(("parts" :Str),u)].lookup ("lamps" :Str)=some l:=rfl;have f2: [(("lamps" :Str),l),(("parts" :Str),u)].lookup ("parts" :Str)=some u:=rfl;have e1:ji "lamps" l []= [(("lamps" :Str),l)]:=rfl;have e2:ji "parts" u [(("lamps" :Str),l)]= [(("lamps" :Str),l),(("parts" :Str),u)]:=rfl;have e3:ji "first" f [(("lamps" :Str),l),(("parts" :Str),u)]= [(("lamps" :Str),l),(("parts" :Str),u),(("first" :Str),f)]:=rfl;have e4:ji "length" g [(("lamps" :Str),l),(("parts" :Str),u),(("first" :Str),f)]= [(("lamps" :Str),l),(("parts" :Str),u),(("first" :Str),f),(("length" :Str),g)]:=rfl;have e5:ji "foot" e [(("lamps" :Str),l),(("parts" :Str),u),(("first" :Str),f),(("length" :Str),g)]= [(("lamps" :Str),l),(("parts" :Str),u),(("first" :Str),f),(("length" :Str),g),(("foot" :Str),e)]:=rfl;dsimp? [hs,hr,cl,cl2,n1,n2,m1,m2,m3,m4,m5,f1,f2,e1,e2,e3,e4,e5,aJ (a5 hsr),Nat.reduceLT];exact kr k
theorem pk (T:Txt K mg A):dI P w K mg base iV 1 A.kq A.ku ["p","held","others","by","n"] (ly K Pc):=by
 refine nX T.add_shifted.fn jw (by rintro vs M q ⟨h,o,p,b,n,a,c,rfl,_⟩;rfl) λdQ A' outer s H E hr=> ?_;have nd:=jw.nd;refine⟨_,(aR (yY (fT cw rfl (uY rfl (pv 2)) (mW (n:=2) rfl (d7 (cj (i:=5) nd rfl (by first | exact Or.inl rfl | exact Or.inr rfl)) (d7 (cj (i:=6) nd rfl (by first | exact Or.inl rfl | exact Or.inr rfl)) jQ))) (aI (bX (i:=7) nd rfl (by first | exact Or.inl rfl | exact Or.inr rfl) (bQ gq (bQ dU (lL (eD hr) (pv 1) (bQ dU (pv 5) (pv 3)) aK ⟨by rfl,by rfl,by rfl,by rfl⟩) (bQ fU (pv 6) (pv 4))) (pv 0))) (aR (eG (cH vb (pv 7) aK (c9 _)) (aR (lI (eD hr) (pv 1) (bQ dU (pv 5) (pv 3)) (pv 7) rfl)) (aR (GF (pv 1) (bQ dU (pv 5) (pv 3)))))))))),?_⟩;try dsimp only[eQ]
 refine⟨_,inferInstance,?_⟩;rintro vs M q ⟨h,o,p,mw,n,a,b,rfl,Sj,hh,ho,p0,p1,ga,gb,nz,hl,k⟩;refine⟨o,_,ho,?_⟩;dsimp? [ho];intro ob ks;have A4:(eY b).map (λkv=>W.tup [eZ kv.1,kv.2])=b.map dy:=by unfold eY;rw[aD];rfl
 rw[A4];refine iO (λi ρ M'=> ∃ (o1 o2 o3:Option W) (c:Pt),ρ= [some (wi p),some (wr h),some (wr o),some (wi mw),some (wi n),o1,o2,o3] /\ M' h=some (.dK (eY c)) /\ M' o=some (.fz ob ks (eY b)) /\ (∀d,d≠h ->d≠o ->M' d=M d) /\ GD p c /\ c.length<=a.length+i /\ ∀x,look c x=(look a x+dA (IW mw (b.take i)) x*n) % p) ⟨none,none,none,a,rfl,by rw[aJ Sj];exact hh,um_same,λd _ h2=>aJ h2,ga,aq _,λx=>by have:=ga.range p0 x;simp[IW,dA];exact(cW this.1 this.2).symm⟩ ?_ ?_ ?_
 ·rintro i ρ M' _ ⟨o1,o2,o3,c,rfl,_,h2,_⟩;exact h2
 ·rintro i x ρ M' hx ⟨o1,o2,o3,c,rfl,h1,h2,h3,gc,og,Hr⟩ N hN;obtain⟨z,hz,rfl⟩:=pairs_at hx;have FX:=(ag.mp hz).1;have XZ:=gb.2 z (ai hz);have cm:iW z.2 n=True:=a7 (.inl ⟨by lia,by lia⟩);have hs:((eY c).length<sizeLine)=True:=by rw[eY,aa];exact a7 (qv (by lia))
  have IL: ∀x,(look a x+dA (IW mw (b.take (i+1))) x*n) % p=if x=z.1+mw then(look c (z.1+mw)+z.2*n) % p else look c x:=λx=>by
   have e:IW mw (b.take (i+1))=IW mw (b.take i)++ [(z.1+mw,z.2)]:=by rw[bD,hz];unfold IW;rw[aN];rfl
   rw[e,lj];by_cases ex:x=z.1+mw
   ·subst ex;rw[ak rfl,ak rfl,Hr,Int.emod_add_emod,Int.add_mul,Int.add_assoc]
   ·rw[aj ex,aj (λq=>ex q.symm),Hr,bu]
  dsimp? [dy,h1,oE,cm,p0];refine tG (λc8=> ?_) λhe=> ?_
  ·have h0:=cN (look c (z.1+mw)+z.2*n) (show p≠0 by lia);have hp:=cz (look c (z.1+mw)+z.2*n) p0;dsimp? [h1,hs,oy];refine hN _ _ ⟨_,_,_,kf c (z.1+mw) ((look c (z.1+mw)+z.2*n) % p),rfl,um_same,by rw[aJ (a5 Sj)];exact h2,λd d1 d2=>by rw[aJ d1];exact h3 d d1 d2,gc.put (by lia) hp,a4 pE (by lia),λx=> ?_⟩;rw[IL,mZ]
  ·have U1:((d5 (eY c) (Sum.inl (z.1+mw))).isSome=true)=True:=a7 (Hv λe0=>by rw[e0,bP] at he;exact nz z.2 XZ.1 XZ.2 he);dsimp? [h1,U1,E9];refine hN _ _ ⟨_,_,_,fK c (z.1+mw),rfl,um_same,by rw[aJ (a5 Sj)];exact h2,λd d1 d2=>by rw[aJ d1];exact h3 d d1 d2,gc.drop _,a4 (AO _ _) (by lia),λx=> ?_⟩;rw[IL,xC,he]
 ·rintro ρ M' ⟨o1,o2,o3,c,rfl,h1,h2,h3,gc,og,Hr⟩;rw[aa] at og Hr;rw[cn] at Hr;refine⟨ob,ks,eY b,h2,um M h (.dK (eY c)),λd u e=> ?_,k c gc og λx=> ?_⟩
  ·by_cases d1:d=h
   ·subst d1;rw[um_same] at e;rw[aJ Sj,h1];exact e
   ·rw[aJ d1] at e;by_cases d2:d=o
    ·subst d2;rw[um_same, <- ho];exact e
    ·rw[aJ d2,h3 d d1 d2];exact e
  ·rw[Hr,yu,fo gb.1]
end
end f7
open PySem L2 WL WP WQ EN PyProof.Rows
namespace f7
open PySem L2 WL WP WQ EN PyProof.Rows
section
variable {P:Program}{w:World}{K:PySem.W.Frag}{mg:Str ->Option Value}{base:Heap}{A:Am}
theorem lN (T:Txt K mg A):dI P w K mg base iV 2 A.nJ A.nO ["p","stride","row","other","shift","n"] (ly K (Jk A.d8 A.dh)):=by
 have kA:=pk (P:=P) (w:=w) (base:=base) T;refine nX T.add_moved.fn lD (by rintro vs M q ⟨r,rl,rp,o,ol,op,p,s,sh,n,a,b,P,Q,B,C,rfl,_⟩;rfl) λdQ A' outer s H E hr=> ?_;have nd:=lD.nd;refine⟨_,(aI (fi (aY T.add_shifted kA (hr.mono (by decide)) (by rfl) (ab (pv 0) (ab (dH (pv 2) rfl) (ab (dH (pv 3) rfl) (ab (bQ fU (pv 1) (pv 4)) (ab (pv 5) aC))))))) (aR (yY (fT cw rfl (uY rfl (dH (pv 3) rfl)) (mW (n:=2) rfl (d7 (cj (i:=6) nd rfl (by first | exact Or.inl rfl | exact Or.inr rfl)) (d7 (cj (i:=7) nd rfl (by first | exact Or.inl rfl | exact Or.inr rfl)) jQ))) (aR (fi (aY T.add_shifted kA (hr.mono (by decide)) (by rfl) (ab (pv 0) (ab (Dz (dH (pv 2) rfl) (pv 6) iK ⟨by rfl,by rfl,by rfl,by rfl⟩) (ab (pv 7) (ab (pv 4) (ab (pv 5) aC)))))))))))),?_⟩;try dsimp only[eQ]
 refine⟨_,inferInstance,?_⟩;rintro vs M q ⟨r,rl,rp,o,ol,op,p,s,sh,n,a,b,P,Q,B,C,rfl,Hh,JE,p0,p1,s0,s1,nz,gH,gV,nL,EX,hPQ,hB,hC,hBC,k⟩;obtain⟨Cr,dr,xW,wA,Bp,BN,RO,E5,V9⟩: ∃Cr dr xW,M r=some (.ins Cr dr xW) /\ (ym K Cr=True) /\ (dC K Cr "lamps" =True) /\ (dC K Cr "parts" =True) /\ xW.lookup ("lamps" :Str)=some (wr rl) /\ xW.lookup ("parts" :Str)=some (wr rp):=by
  rcases Hh with⟨d,e⟩ | ⟨d,f,g,e',e⟩
  ·exact⟨_,_,_,e,a7 T.Row.cl,a7 T.dJ,a7 T.dZ,rfl,rfl⟩
  ·exact⟨_,_,_,e,a7 T.Stair.cl,a7 T.dE,a7 T.dD,rfl,rfl⟩
 obtain⟨Co,dO,fs,ho,YL,ZP,XS,fO1,YF⟩: ∃Co dO fs,M o=some (.ins Co dO fs) /\ (ym K Co=True) /\ (dC K Co "lamps" =True) /\ (dC K Co "parts" =True) /\ fs.lookup ("lamps" :Str)=some (wr ol) /\ fs.lookup ("parts" :Str)=some (wr op):=by
  rcases JE with⟨d,e⟩ | ⟨d,f,g,e',e⟩
  ·exact⟨_,_,_,e,a7 T.Row.cl,a7 T.dJ,a7 T.dZ,rfl,rfl⟩
  ·exact⟨_,_,_,e,a7 T.Stair.cl,a7 T.dE,a7 T.dD,rfl,rfl⟩
 have cm:iW s sh=True:=a7 (.inl ⟨by lia,by lia⟩);have xv: ∀ {x C' d' Ba},M x=some (.ins C' d' Ba) ->x∉bL rl rp P:=λ{x C' d' Ba} e hx=>by obtain⟨kvs,e2⟩:=gH.mem hx;rw[e] at e2;cases e2
 have ZL: ∀ {x C' d' Ba},M x=some (.ins C' d' Ba) ->x∉bL ol op Q:=λ{x C' d' Ba} e hx=>by obtain⟨kvs,e2⟩:=gV.mem hx;rw[e] at e2;cases e2
 have Nl:rl∈bL rl rp P:=by simp[bL]
 have ZR:rp∈bL rl rp P:=by simp[bL]
 have ZS:ol∈bL ol op Q:=by simp[bL]
 have RT:op∈bL ol op Q:=by simp[bL]
 have min: ∀t∈Q,t.2.1∈bL ol op Q:=λt ht=>by simp only[bL,av,af];exact .inr (.inr ⟨t,ht,rfl⟩)
 have ZO:=bw.mp (bw.mp gV.Jm).2;dsimp? [wA,ho,Bp,BN,RO,YL,ZP,XS,E5,V9,fO1,YF,cm];refine⟨rl,ol,p,s*sh,n,a,b,rfl,λe=>nL rl Nl (by rw[e];exact ZS),gH.lam,gV.lam,p0,p1,gH.ga,gV.ga,nz,EX,λc gc og Hr=> ?_⟩;simp? [↓dS];refine jC ?_;have K6:=gH.T7 gc;have Ye:um M rl (.dK (eY c)) o=some (.ins Co dO fs):=by rw[aJ (λe=>xv ho (by rw[e];exact Nl))];exact ho
 have LW:um M rl (.dK (eY c)) r=some (.ins Cr dr xW):=by rw[aJ (λe=>xv wA (by rw[e];exact Nl))];exact wA
 have A0:um M rl (.dK (eY c)) op=some (.dK (k8 Q)):=by rw[aJ (λe=>nL rl Nl (by rw[<- e];exact RT))];exact gV.par
 refine⟨op,k8 Q,A0,?_⟩;dsimp? [Ye,YL,XS,YF,A0];intro ob ks;have A4:(k8 Q).map (λkv=>W.tup [eZ kv.1,kv.2])=Q.map λt=>W.tup [wi t.1,wr t.2.1]:=by unfold k8;rw[aD];rfl
 rw[A4];generalize Ms:um M rl (.dK (eY c))=M1 at K6 Ye LW A0;have T9:d9 M M1 (bL rl rp P):=λd u e nd=>by rw[<- Ms,aJ (λz=>nd (by rw[z];exact Nl))];exact e
 have SD: ∀x,M1 x=none ->M x=none:=λx e=>by
  cases e2:M x with
  | none=>rfl
  | some u=>by_cases hx:x=rl;(· subst hx;rw[K6.lam] at e;cases e);(· rw[<- Ms,aJ hx,e2] at e;cases e)
 refine iO (λi ρ M'=> ∃ (o1 o2:Option W) (P':Pq),ρ= [some (wi p),some (wi s),some (wr r),some (wr o),some (wi sh),some (wi n),o1,o2] /\ M' op=some (.fz ob ks (k8 Q)) /\ cL p M' rl rp c P' /\ d9 M1 M' (op::bL rl rp P) /\ (∀x∈bL rl rp P',x∈bL rl rp P \/ M1 x=none) /\ (∀x∈bL rl rp P,x∈bL rl rp P') /\ (∀w x,look (pf P' w) x=(look (pf P w) x+look (pf (Q.take i) w) (x - sh)*n) % p) /\ (∀w,w∉(Q.take i).map (·.1) ->pf P' w=pf P w) /\ P'.length<=P.length+i /\ (∀t∈P',t.2.2.length<=B+C) /\ (∀w∈P'.map (·.1),w∈P.map (·.1) \/ w∈Q.map (·.1))) ⟨none,none,P,rfl,um_same,K6.same λd hd=>aJ (λz=>nL d hd (by rw[z];exact RT)),λd u e nd=>by rw[aJ (λz=>nd (by rw[z];exact aE))];exact e,λx hx=> .inl hx,λx hx=>hx,λw x=>by show _=(look (pf P w) x+0*n) % p;rw[bG,bu,eN p0 (gH.Dw w)],λw _=>rfl,aq _,λt ht=>a4 (hB t ht) (Nat.le_add_right _ _),λw hw=> .inl hw⟩ ?_ ?_ ?_
 ·rintro i ρ M' _ ⟨o1,o2,P',rfl,h2,_⟩;exact h2
 ·rintro i x ρ M' hx ⟨o1,o2,P',rfl,h2,row,kp,fr,nh,zA,Nv,UN,gU,FT⟩ N hN;obtain⟨t,hz,rfl⟩: ∃t,Q[i]? =some t /\ x=W.tup [wi t.1,wr t.2.1]:=by
   rw[aA] at hx;cases e:Q[i]? with
   | none=>rw[e] at hx;cases hx
   | some q=>rw[e] at hx;cases hx;exact⟨q,rfl,rfl⟩
  have FX:=(ag.mp hz).1;have Jz:=ai hz;have X3:=Nv t.1 (Ct gV.mK hz);have Hg:M' r=some (.ins Cr dr xW):=kp r _ LW (λhm=>by
   rcases av.mp hm with z | z
   ·rw[z,A0] at LW;cases LW
   ·exact xv wA z)
  have jt:t.2.1∉bL rl rp P:=λz=>nL _ z (min t Jz);have Uu:M' t.2.1=some (.dK (eY t.2.2)):=kp _ _ (by rw[<- Ms,aJ (λz=>jt (by rw[z];exact Nl))];exact gV.zy t Jz) (λhm=>by
   rcases av.mp hm with z | z
   ·exact ZO.1 (by rw[<- z];exact af.mpr ⟨t,Jz,rfl⟩)
   ·exact jt z)
  have Ot:t.2.1∉bL rl rp P':=λz=>by
   rcases fr _ z with z | z
   ·exact jt z
   ·have:=gV.zy t Jz;rw[SD _ z] at this;cases this
  have hs:((k8 P').length<sizeLine)=True:=by rw[k8,aa];exact a7 (qv (by lia))
  have Yb:=row.par;dsimp? [Hg,Bp,RO,V9,Yb];intro e he;have TJ:rp≠e:=dw row.par he;have TK:t.2.1≠e:=dw Uu he;dsimp? [aJ TJ,Yb,hs,sx];have TM:op∉bL rl rp P:=λz=>nL _ z RT;have G3:op∉bL rl rp P':=λz=>by
   rcases fr _ z with z | z
   ·exact TM z
   ·rw[A0] at z;cases z
  have G2:op≠e:=dw h2 he;have hBw:(pf P t.1).length<=B:=by
   unfold pf;cases e2:P.find? (λu=>decide (u.1=t.1)) with
   | none=>exact cU _
   | some u=>exact hB u (find_some e2).1
  have htC:=hC t Jz;have Rz: ∀w,w∉(Q.take (i+1)).map (·.1) ->w≠t.1 /\ w∉(Q.take i).map (·.1):=λw hw=>by rw[bD,hz,aN] at hw;exact⟨λz=>hw (ax.mpr (.inr (by rw[z];exact ah.mpr rfl))),λz=>hw (ax.mpr (.inl z))⟩
  have dne: ∀ {d u},M1 d=some u ->d≠e ->d∉op::bL rl rp P ->M' d=some u:=λh1 _ h3=>kp _ _ h1 h3;have WZ:M1 e=none:=by
   cases e2:M1 e with
   | none=>rfl
   | some u=>
    exfalso;by_cases hm:e∈op::bL rl rp P
    ·rcases av.mp hm with z | z
     ·exact G2 z.symm
     ·obtain⟨kvs,q2⟩:=row.mem (nh e z);rw[he] at q2;cases q2
    ·rw[kp e u e2 hm] at he;cases he
  cases hf:P'.find? (λu=>decide (u.1=t.1)) with
  | some u=>
   obtain⟨hu,hw⟩:=find_some hf;have eu:u.2.2=pf P t.1:=by rw[<- X3, <- hw];exact(o9 row.mK hu).symm
   have Y8:u.2.1≠e:=dw (row.zy u hu) he;have Kt:u.2.1∈bL rl rp P':=by simp only[bL,av,af];exact .inr (.inr ⟨u,hu,rfl⟩)
   rw[Option.map_some,setdK_s];refine⟨u.2.1,t.2.1,p,sh,n,u.2.2,t.2.2,rfl,λz=>Ot (by rw[<- z];exact Kt),by rw[aJ Y8];exact row.zy u hu,by rw[aJ TK];exact Uu,p0,p1,row.gp u hu,gV.gp t Jz,nz,by rw[eu];lia,λc' Sy pK L8=> ?_⟩;have Be:bL rl rp (kG P' u.1 c')=bL rl rp P':=by unfold bL;rw[v8]
   have Oi:u.1∈P'.map (·.1):=af.mpr ⟨u,hu,rfl⟩;refine hN _ _ ⟨_,_,kG P' u.1 c',rfl,by rw[aJ (λz=>G3 (by rw[z];exact Kt)),aJ G2];exact h2,(row.set hu Sy).same λd hd=> ?_,λd o' e1 nd=> ?_,by rw[Be];exact fr,by rw[Be];exact nh,λw' x=> ?_,λw' FP=> ?_,by unfold kG;rw[aa];lia,λv hv=> ?_,by rw[vp];exact FT⟩
   ·rw[Be] at hd;by_cases z:d=u.2.1
    ·rw[z,um_same,um_same]
    ·obtain⟨kvs,q2⟩:=row.mem hd;rw[aJ z,aJ z,aJ (dw q2 he)]
   ·have n1:d≠e:=λz=>by rw[z,WZ] at e1;cases e1
    have n2:d≠u.2.1:=λz=>by
     rcases fr _ Kt with q2 | q2
     ·exact nd (aw _ (by rw[z];exact q2))
     ·rw[z,q2] at e1;cases e1
    rw[aJ n2,aJ n1];exact kp d o' e1 nd
   ·rw[zb w' Oi,za gV.mK hz,hw];by_cases z:w'=t.1
    ·rw[ak z,ak z,L8,eu,z]
    ·rw[aj z,aj z];exact zA w' x
   ·obtain⟨z1,z2⟩:=Rz w' FP;rw[zb w' Oi,hw,aj z1];exact Nv w' z2
   ·obtain⟨v',tM,rfl⟩:=af.mp hv;split
    ·show c'.length<=B+C;rw[eu] at pK;lia
    ·exact gU v' tM
  | none=>
   have Hm:=find_none hf;have Tj:pf P t.1= []:=by rw[<- X3];exact oA Hm
   rw[Option.map_none,setdK_n,Dh (c:= []) Hm];refine⟨e,t.2.1,p,sh,n,[],t.2.2,rfl,a5 TK,by rw[aJ (a5 TJ),um_same];rfl,by rw[aJ (λz=>Ot (by rw[z];simp[bL])),aJ TK];exact Uu,p0,p1,GD.nil,gV.gp t Jz,nz,by simp only[List.length_nil];lia,λc' Sy pK L8=> ?_⟩;have epd:k8 (P'++ [(t.1,e,[])])=k8 (P'++ [(t.1,e,c')]):=by unfold k8;rw[aN,aN];rfl
   have Be:bL rl rp (P'++ [(t.1,e,c')])=bL rl rp P'++ [e]:=by unfold bL;rw[aN];rfl
   refine hN _ _ ⟨_,_,P'++ [(t.1,e,c')],rfl,by rw[aJ G2,aJ (λz=>G3 (by rw[z];simp[bL])),aJ G2];exact h2,(row.new he Hm Sy).same λd hd=> ?_,λd o' e1 nd=> ?_,λx hx=> ?_,λx hx=>by rw[Be];exact ax.mpr (.inl (nh x hx)),λw' x=> ?_,λw' FP=> ?_,by rw[aL,cY];lia,λv hv=> ?_,λw' FP=> ?_⟩
   ·by_cases z:d=e
    ·rw[z,um_same,aJ (a5 TJ),um_same]
    ·rw[aJ z];by_cases z2:d=rp
     ·rw[z2,um_same,um_same,epd]
     ·rw[aJ z2,aJ z2,aJ z,aJ z]
   ·have n1:d≠e:=λz=>by rw[z,WZ] at e1;cases e1
    have n2:d≠rp:=λz=>nd (aw _ (by rw[z];exact ZR));rw[aJ n1,aJ n2,aJ n1];exact kp d o' e1 nd
   ·rw[Be] at hx;rcases ax.mp hx with hx | hx
    ·exact fr x hx
    ·rw[ah.mp hx];exact .inr WZ
   ·rw[xm w' Hm,za gV.mK hz];by_cases z:w'=t.1
    ·rw[ak z,ak z,L8,z,Tj]
    ·rw[aj z,aj z];exact zA w' x
   ·obtain⟨z1,z2⟩:=Rz w' FP;rw[xm w' Hm,aj z1];exact Nv w' z2
   ·rcases ax.mp hv with hv | hv
    ·exact gU v hv
    ·rw[ah.mp hv];show c'.length<=B+C;simp only[List.length_nil] at pK;lia
   ·rw[aN] at FP;rcases ax.mp FP with FP | FP
    ·exact FT w' FP
    ·rw[ah.mp FP];exact .inr (af.mpr ⟨t,Jz,rfl⟩)
 ·rintro ρ M' ⟨o1,o2,P',rfl,h2,row,kp,fr,nh,zA,Nv,UN,gU,FT⟩;rw[aa] at UN zA Nv;rw[cn] at zA Nv;have TM:op∉bL rl rp P:=λz=>nL _ z RT;have G3:op∉bL rl rp P':=λz=>by
   rcases fr _ z with z | z
   ·exact TM z
   ·rw[A0] at z;cases z
  refine⟨ob,ks,k8 Q,h2,kr (k _ c P' (row.same λd hd=>aJ (λz=>G3 (by rw[<- z];exact hd))) Hr zA (λd u e nd=> ?_) (λx hx=>(fr x hx).imp id (SD x)) nh og UN gU FT)⟩;by_cases hd:d=op
  ·subst hd;rw[um_same, <- gV.par];exact e
  ·rw[aJ hd];exact kp d u (T9 d u e nd) λhm=>(av.mp hm).elim hd nd
end
end f7
open PySem L2 WL WP WQ EN PyProof.Rows
namespace f7
open PySem L2 WL WP WQ EN PyProof.Rows
section
variable {P:Program}{w:World}{K:PySem.W.Frag}{mg:Str ->Option Value}{base:Heap}{A:Am}
theorem kK (T:Txt K mg A):dI P w K mg base iV 1 A.ij A.iq ["found","length"] (ly K To):=by
 refine nX T.too_high_or_low.fn gE (by rintro vs M q ⟨f,ns,len,rfl,_⟩;rfl) λdQ A' outer s H E hr=> ?_;have nd:=gE.nd;refine⟨_,(aI (eG (qO (cH iL (pv 1) aK (c9 _)) (sR (iZ (Ax (pv 0))))).pt (aR (cQ (pv 0))) dR) (aR (cQ (bQ DO (xn (by rfl) T.fM (by rfl) T.iw rfl (ab (c5 cK (pv 0) (lJ iX aK) (λ_ _=>rfl)) (ab (bQ iC (pv 1) aK) (ab (lJ iX aK) aC)))) (xo (by rfl) T.fM (by rfl) T.iw rfl (ab (c5 cK (pv 0) aK (λ_ _=>rfl)) (ab aK aC))))))),?_⟩;try dsimp only[eQ]
 refine⟨_,inferInstance,?_⟩;rintro vs M q ⟨f,ns,len,rfl,hf,l0,l1,hn,hb,k⟩;by_cases hl:len=0
 ·have e:qg ns len=ns:=ak (.inl hl);rw[e] at k;dsimp? [hl,decide_true];exact kr (k f M (Sm.refl M) hf)
 ·have pK:decide (len=0)=false:=decide_eq_false hl;have X7: ∀ {k:Bool ->Prop},KG M (.v (.ref f)) k=k (!(ns.map wi).isEmpty):=Cm hf;by_cases c8:ns= []
  ·have e:qg ns len=ns:=ak (.inr c8);rw[e] at k;subst c8;dsimp? [pK,X7,List.map_nil,List.isEmpty_nil,Bool.not_true,Bool.not_false];exact kr (k f M (Sm.refl M) hf)
  ·have hie:(ns.map wi).isEmpty=false:=by cases ns with | nil=>exact absurd rfl c8 | cons a r=>rfl
   have h1:kj (ns.map wi) (-1)=some (wi (ns.getLastD 0)):=rY c8;have h0:kj (ns.map wi) 0=some (wi (ns.headD 0)):=by
    cases ns with
    | nil=>exact absurd rfl c8
    | cons a r=>exact atI_0
   have EW: -4000000<ns.getLastD 0 /\ ns.getLastD 0<4000000:=hb _ (jV c8);have hbh: -4000000<ns.headD 0 /\ ns.headD 0<4000000:=by
    refine hb _ ?_;cases ns with
    | nil=>exact absurd rfl c8
    | cons a r=>exact aE
   dsimp? [pK,X7,hie,Bool.not_false,hf,h1,h0,B9];refine⟨ns.getLastD 0,len - 1,rfl,⟨by decide,by decide,by lia,by lia⟩,by lia,λu hu=> ?_⟩;have nu:f≠u:=dw hf hu;dsimp? [aJ nu,hf,h0,Cb];refine⟨ns.headD 0,0,rfl,⟨by lia,by lia,by lia,by lia⟩,by lia,λv hv=> ?_⟩;have Tz:u≠v:=dw um_same hv;dsimp? [aJ Tz];have e:qg ns len=l9 (ns.getLastD 0) (ns.getLastD 0 - (len - 1)).toNat++wO (ns.headD 0) (0 - ns.headD 0).toNat:=aj (by rintro(z | z);(· exact hl z);(· exact c8 z));refine⟨big (by unfold zO fG;rw[aa,aa,cV,cV];lia),λp hp=>kr (k p _ (((c4 hu).trans (c4 hv)).trans (c4 hp)) ?_)⟩;rw[um_same,e,aN];unfold zO fG l9 wO;rw[aD,aD];rfl
end
end f7
open PySem L2 WL WP WQ EN PyProof.Rows
namespace f7
open PySem L2 WL WP WQ EN PyProof.Rows
section
variable {P:Program}{w:World}{K:PySem.W.Frag}{mg:Str ->Option Value}{base:Heap}{A:Am}
theorem DV (T:Txt K mg A):dI P w K mg base iV 3 A.J0 A.J7 ["p","stride","row","stair"] (ly K (Ts A.d8 A.dh)):=by
 have ix:=lN (P:=P) (w:=w) (base:=base) T;have mD:=kK (P:=P) (w:=w) (base:=base) T;have nv:=pj (P:=P) (w:=w) (base:=base) T;have F2:=a7 T.Stair.cl;have XR:=a7 T.gd;have TU:=a7 T.fH;have XQ:=a7 T.gy;refine nX T.cut.fn CY (by rintro vs M q ⟨r,rl,rp,o,ds,ol,op,p,s,f,len,foot,a,b,P,Q,B,C,Z,D,rfl,_⟩;rfl) λdQ A' outer s H E hr=> ?_;have nd:=CY.nd;refine⟨_,(aI (bX (i:=4) nd rfl (by first | exact Or.inl rfl | exact Or.inr rfl) (aY T.heights nv (hr.mono (by decide)) (by rfl) (ab (dj (gP rfl) (by rfl) T.fM Boot.«list» (ab (dH (pv 2) rfl) aC)) (ab (pv 1) (ab (dH (pv 3) rfl) aC))))) (aR (fT cw rfl (eB (aY T.too_high_or_low mD (hr.mono (by decide)) (by rfl) (ab (pv 4) (ab (dH (pv 3) rfl) aC)))) (cj (i:=5) nd rfl (by first | exact Or.inl rfl | exact Or.inr rfl)) (aI (bX (i:=6) nd rfl (by first | exact Or.inl rfl | exact Or.inr rfl) (lL (eD hr) (dH (pv 2) rfl) (bQ dU (dH (pv 3) rfl) (bQ fU (pv 5) (pv 1))) aK ⟨by rfl,by rfl,by rfl,by rfl⟩)) (aI (eG (cH iL (pv 6) aK (c9 _)) (aR uW) dR) (aR (eG (cH vc (pv 5) aK (c9 _)) (aR (fi (aY T.add_moved ix (hr.mono (by decide)) (by rfl) (ab (pv 0) (ab (pv 1) (ab (pv 2) (ab (pv 3) (ab (pv 5) (ab (bQ fU (lJ iX (pv 6)) (dH (pv 3) rfl)) aC))))))))) (aR (fi (aY T.add_moved ix (hr.mono (by decide)) (by rfl) (ab (pv 0) (ab (pv 1) (ab (pv 2) (ab (pv 3) (ab (bQ iC (pv 5) (dH (pv 3) rfl)) (ab (lJ iX (pv 6)) aC)))))))))))))))),?_⟩;try dsimp only[eQ]
 refine⟨_,inferInstance,?_⟩;rintro vs M q ⟨r,rl,rp,o,ds,ol,op,p,s,f,len,foot,a,b,P,Q,B,C,Z,D,rfl,Hh,JE,hp,s0,s8,Ha,F,gH,gV,nL,wa,Rw,z0,z1,d0,d1,hB,hC,b0,b1,c0,c1,hPQ,k⟩;obtain⟨Cr,dr,xW,wA,Bp,BN,RO,E5,V9⟩: ∃Cr dr xW,M r=some (.ins Cr dr xW) /\ (ym K Cr=True) /\ (dC K Cr "lamps" =True) /\ (dC K Cr "parts" =True) /\ xW.lookup ("lamps" :Str)=some (wr rl) /\ xW.lookup ("parts" :Str)=some (wr rp):=by
  rcases Hh with⟨d,e⟩ | ⟨d,f,g,e',e⟩
  ·exact⟨_,_,_,e,a7 T.Row.cl,a7 T.dJ,a7 T.dZ,rfl,rfl⟩
  ·exact⟨_,_,_,e,a7 T.Stair.cl,a7 T.dE,a7 T.dD,rfl,rfl⟩
 have p0:0<p:=by lia
 have YE: [(("lamps" :Str),wr ol),(("parts" :Str),wr op),(("first" :Str),wi f),(("length" :Str),wi len),(("foot" :Str),wi foot)].lookup ("first" :Str)=some (wi f):=rfl;have V6: [(("lamps" :Str),wr ol),(("parts" :Str),wr op),(("first" :Str),wi f),(("length" :Str),wi len),(("foot" :Str),wi foot)].lookup ("length" :Str)=some (wi len):=rfl;have YD: [(("lamps" :Str),wr ol),(("parts" :Str),wr op),(("first" :Str),wi f),(("length" :Str),wi len),(("foot" :Str),wi foot)].lookup ("foot" :Str)=some (wi foot):=rfl;have NA:=wa.len gH.ga z0;have rb:(dN a).length<=16000000:=by unfold dN;rw[aa];lia
 have vz:=gH.lam;dsimp? [wA,Bp,BN,E5];refine⟨rl,eY a,rfl,vz,λu hu=> ?_⟩;rw[lS];have TL:o≠u:=dw JE hu;dsimp? [aJ TL,JE,F2,XR,YE];refine⟨u,dN a,s,f,rfl,um_same,rb,s0,by lia,λv ms hv c6 gv=> ?_⟩;have ZK:o≠v:=dw (by rw[aJ TL];exact JE) hv;dsimp? [aJ TL,aJ ZK,JE,F2,TU,V6];have hpa: ∀x∈dN a, -Z<=x /\ x<=Z:=λx hx=>by obtain⟨z,hz,rfl⟩:=af.mp hx;exact wa z.1 (by rw[gL gH.ga.1 hz];have:=gH.ga.2 z hz;lia)
 have mL: ∀m∈ms, ∃x, -Z<=x /\ x<=Z /\ m=hI s x:=λm hm=>by obtain⟨x,hx,e⟩:=af.mp (c6.mem_iff.mp hm);have:=hpa x (aP.mp hx).1;exact⟨x,this.1,this.2,e.symm⟩
 have Nz: ∀m∈ms, -Z - 1<=m /\ m<=Z:=λm hm=>by obtain⟨x,h1,h2,rfl⟩:=mL m hm;exact QP (f:=f) s0 s8 ⟨h1,h2⟩ z0
 have L5:ms.length<=(2*Z+1).toNat:=by rw[c6.length_eq];refine a4 ?_ (a4 (Nat.le_of_eq (aa (as:=a) (λz=>z.1))) NA);unfold nE;rw[aa];exact List.length_filter_le _ _
 refine⟨v,ms,len,rfl,um_same,F.l0,by lia,by lia,λx hx=>by have:=Nz x hx;lia,λt M1 sm Ms=> ?_⟩;obtain⟨HS,QH⟩:=Cq F.l0 gv (c6.nodup_iff.mpr (jY gH.ga.1 s0));have hlen:(qg ms len).length<=(2*Z+2).toNat:=a4 (Gi F.l0 z0 Nz L5) (by lia);have Mj:=λh (hh:h∈qg ms len)=>Cs F.l0 hh;have xP:s=0 -> ∀h∈qg ms len,h=0:=λe h hh=>by have l0:=F.s0 e;have e2:qg ms len=ms:=ak (.inl l0);rw[e2] at hh;obtain⟨x,_,_,rfl⟩:=mL h hh;unfold hI;rw[ak e]
 obtain⟨hs,Wc⟩: ∃hs,hs=qg ms len:=⟨_,rfl⟩
 rw[<- Wc] at Ms HS QH hlen Mj xP;dsimp? [Ms];have Xw:Sm M M1:=((c4 hu).trans (c4 hv)).trans sm;refine iO (λi ρ M'=> ∃ (o5 o6:Option W) (c:Pt) (P':Pq) (js:List (Int×Int)),ρ= [some (wi p),some (wi s),some (wr r),some (wr o),some (wr v),o5,o6] /\ M' t=some (.lst (hs.map wi)) /\ cL p M' rl rp c P' /\ mH s p f len b a hs i c js /\(∀w x,look (pf P' w) x=(look (pf P w) x+dv (λsh=>look (pf Q w) (x - sh)) js) % p) /\ (s=0 -> ∀j∈js,j.1=0) /\ Wt (Z+D+s) c /\ d9 M M' (bL rl rp P) /\ (∀x∈bL rl rp P',x∈bL rl rp P \/ M x=none) /\ (∀x∈bL rl rp P,x∈bL rl rp P') /\(∀t∈P',Wt (max B (C+Z+1)) t.2.2) /\ (∀w∈P'.map (·.1),w∈P.map (·.1) \/ w∈Q.map (·.1)) /\ look c=Fh s p f len foot b (hs.take i) (look a) /\ (∀j∈js, -Z - 1<=j.1 /\ j.1<=Z) /\ (∀j∈js, ∃h∈hs,j.1=iD len h)) ⟨none,none,a,P,[],rfl,Ms,gH.keep (d9.sm Xw []) (λd _ h=>by cases h),⟨λx=> ?i1,λj g hj _=>absurd hj (Nat.not_lt_zero j),λx hx c8=> ?i2,λx _=>rfl⟩,λw x=> ?i3,(λ_ j hj=>by cases hj),λx hx=> ?i4,d9.sm Xw _,λx hx=> .inl hx,λx hx=>hx,λt ht=>(hB t ht).up (by lia),λw hw=> .inl hw,rfl,(λj h=>by cases h),(λj h=>by cases h)⟩ ?_ ?_ ?_;case i1=>show _=(look a x+0) % p;rw[bu,eN p0 gH.ga]
 case i2=>
  refine QH _ (c6.mem_iff.mpr (af.mpr ⟨x,aP.mpr ⟨?_,by simpa using hx⟩,rfl⟩))
  exact cJ c8
 case i3=>show _=(look (pf P w) x+0) % p;rw[bu,eN p0 (gH.Dw w)]
 case i4=>have:=wa x hx;lia
 ·rintro i ρ M' _ ⟨o5,o6,c,P',js,rfl,h2,_⟩;exact h2
 ·rintro i x ρ M' hx ⟨o5,o6,c,P',js,rfl,h2,row,cst,zA,FW,wc,kp,fr,nh,gU,FT,BQ,NC,Si⟩ N hN;obtain⟨h,hz,rfl⟩: ∃h,hs[i]? =some h /\ x=wi h:=by
   rw[aA] at hx;cases e:hs[i]? with
   | none=>rw[e] at hx;cases hx
   | some q=>rw[e] at hx;cases hx;exact⟨q,rfl,rfl⟩
  have hm:=ai hz;have FX:=(ag.mp hz).1;have xv: ∀ {x C' d' Ba},M x=some (.ins C' d' Ba) ->x∉bL rl rp P:=λ{x C' d' Ba} e hx=>by obtain⟨kvs,e2⟩:=gH.mem hx;rw[e] at e2;cases e2
  have Hg:=kp r _ wA (xv wA);have Sd:=kp o _ JE (xv JE);have hlm:=row.lam;have hh1: -4000000<h /\ h<4000000:=by
   rcases Int.lt_or_le h 0 with z | z
   ·obtain⟨m,h3,h4⟩:=(Mj h hm).1 z;have:=Nz m h3;lia
   ·obtain⟨m,h3,h4⟩:=(Mj h hm).2 z;have:=Nz m h3;lia
  have cm:iW h s=True:=a7 (.inr ⟨by lia,by lia⟩);dsimp? [Hg,Sd,Bp,F2,BN,XR,TU,XQ,E5,YE,V6,YD,hlm,cm,oE];refine dG (λe0=>hN _ _ ⟨_,_,c,P',js,rfl,h2,row,cst.skip hz e0,zA,FW,wc,kp,fr,nh,gU,FT,by rw[rM hz, <- BQ];exact(ak e0).symm,NC,Si⟩) λe0=> ?_;have hl:=row.ga.range p0 (f+h*s);have Mc:=F.ft;have Ql:NZ p (-look c (f+h*s)):=qQ hp λe=>e0 (by have:=Int.emod_emod_of_dvd (-look c (f+h*s)) (Int.dvd_refl p);have h3:(-look c (f+h*s)) % p=0:=e;have:=Int.dvd_of_emod_eq_zero h3;have h4:=Int.dvd_neg.mp this;have h5:=Int.emod_eq_zero_of_dvd h4;rw[cW hl.1 hl.2] at h5;exact h5);have UE:NZ p (-look c (f+h*s)*foot):=qQ hp λe=>Ql foot Mc.1 Mc.2 (by rw[bK];exact e);have OW:=gV.keep kp λd hd kh=>nL d kh hd;have Wh: ∀x∈bL rl rp P',x∉bL ol op Q:=λx hx gk=>by
   rcases fr x hx with z | z
   ·exact nL x z gk
   ·obtain⟨kvs,e⟩:=gV.mem gk;rw[z] at e;cases e
  have og:=wc.len row.ga (by lia);have EW:=Rw.len gV.ga d0;have Sh:=En row.mK FT;have Qz: ∀t∈P',t.2.2.length<=(2*max B (C+Z+1)+1).toNat:=λt ht=>(gU t ht).len (row.gp t ht) (by lia);have hC': ∀t∈Q,t.2.2.length<=(2*C+1).toNat:=λt ht=>(hC t ht).len (gV.gp t ht) c0;have Uc:p9 A.d8 A.dh M' r rl rp:=Hh.keep kp (xv wA);have Tb: -Z - 1<=iD len h /\ iD len h<=Z:=by
   have l0:=F.l0;unfold iD;split
   ·rename_i jq;obtain⟨m,h3,h4⟩:=(Mj h hm).1 jq;have:=Nz m h3;lia
   ·rename_i jq;obtain⟨m,h3,h4⟩:=(Mj h hm).2 (by lia);have:=Nz m h3;have:=HS.out h hm;lia
  have shb: -(Z+s) <=s*iD len h /\ s*iD len h<=Z+s:=by
   rcases Int.lt_or_eq_of_le s0 with z | z
   ·unfold iD;split
    ·rename_i jq;obtain⟨m,h3,h4⟩:=(Mj h hm).1 jq;obtain⟨x,h5,h6,rfl⟩:=mL m h3;have h7:=xU (x:=x) z;have h8:=aZ h4 s0;have h9:s*h<=0:=Int.mul_nonpos_of_nonneg_of_nonpos s0 (by lia);lia
    ·rename_i jq;obtain⟨m,h3,h4⟩:=(Mj h hm).2 (by lia);obtain⟨x,h5,h6,rfl⟩:=mL m h3;have h7:=xU (x:=x) z;have h8:=aZ h4 s0;have hol:=HS.out h hm;have h9:0<=s*(h - len):=Int.mul_nonneg s0 (by lia);have Sx:s*(h - len) <=s*h:=aZ (by have:=F.l0;lia) s0;lia
   ·rw[<- z,bG];lia
  have fin: ∀n,(n=if h<0 then -(look c (f+h*s))*foot else -(look c (f+h*s))) ->NZ p n ->Jk A.d8 A.dh [wi p,wi s,wr r,wr o,wi (iD len h),wi n] M' λ_ M2=>N [some (wi p),some (wi s),some (wr r),some (wr o),some (wr v),some (wi h),some (wi (look c (f+h*s)))] M2:=λn hn nz=>by
   refine⟨r,rl,rp,o,ol,op,p,s,iD len h,n,c,b,P',Q,_,_,rfl,Uc, .inr ⟨_,_,_,_,Sd⟩,p0,by lia,s0,by lia,nz,row,OW,Wh,by lia,by lia,Qz,hC',by lia,λM2 c' P2 ke ec ep Hb Hy KS _ _ Qx EJ=>hN _ _ ⟨_,_,c',P2,(iD len h,n)::js,rfl,?_,ke,cst.step F HS s0 p0 xP row.ga ke.ga hz hn ec,λw x=> ?_,λe j hj=> ?_,λx hx=> ?_,kp.trans Hb fr,λx hx=> ?_,λx hx=>KS x (nh x hx),λt ht=> ?_,λw hw=> ?_,?_,λj hj=> ?_,λj hj=> ?_⟩⟩
   ·exact Hb t _ h2 λhx=>by obtain⟨kvs,e⟩:=row.mem hx;rw[h2] at e;cases e
   ·rw[ep,zA,Int.emod_add_emod,cf,Int.add_assoc,Int.add_comm (dv _ js)]
   ·rcases av.mp hj with rfl | hj
    ·have e1:=xP e h hm;have e2:=F.s0 e;show iD len h=0;rw[e1,e2];rfl
    ·exact FW e j hj
   ·rw[ec] at hx;by_cases hc:look c x=0
    ·have hb:look b (x - s*iD len h)≠0:=λe=>hx (by rw[hc,e,bG];rfl);have:=Rw _ hb;lia
    ·exact wc x hc
   ·rcases Hy x hx with z | z
    ·exact fr x z
    ·cases e:M x with
     | none=>exact .inr rfl
     | some u=>
      by_cases gk:x∈bL rl rp P
      ·exact .inl gk
      ·rw[kp x _ e gk] at z;cases z
   ·intro x hx;rw[<- o9 ke.mK ht,ep] at hx;by_cases hc:look (pf P' t.1) x=0
    ·have hb:look (pf Q t.1) (x - iD len h)≠0:=λe=>hx (by rw[hc,e,bG];rfl);have:=Ie hC t.1 _ hb;lia
    ·exact Ie gU t.1 x hc
   ·rcases EJ w hw with z | z
    ·exact FT w z
    ·exact .inr z
   ·rw[rM hz, <- BQ];unfold CJ;rw[aj e0, <- hn];exact funext ec
   ·rcases av.mp hj with rfl | hj
    ·exact Tb
    ·exact NC j hj
   ·rcases av.mp hj with rfl | hj
    ·exact⟨h,hm,rfl⟩
    ·exact Si j hj
  dsimp? [];refine dG (λjq=> ?_) λjq=> ?_
  ·have Wl:iW (-look c (f+h*s)) foot=True:=a7 (.inr ⟨by lia,by lia⟩);dsimp? [Sd,F2,XQ,YD,Wl];have:=fin _ rfl (by rw[ak jq];exact UE);rw[ak jq,show iD len h=h from ak jq] at this;exact this
  ·dsimp? [Sd,F2,TU,V6];have:=fin _ rfl (by rw[aj jq];exact Ql);rw[aj jq,show iD len h=h - len from aj jq] at this;exact this
 ·rintro ρ M' ⟨o5,o6,c,P',js,rfl,h2,row,cst,zA,FW,wc,kp,fr,nh,gU,FT,BQ,NC,Si⟩;rw[aa] at cst BQ;rw[cn] at BQ;exact kr (k M' c P' js row cst.rel zA FW (cst.low s0) cst.LG wc kp fr nh gU FT ⟨ms,c6,gv,by rw[BQ,Wc],by rw[<- Wc];exact Si⟩ NC)
end
end f7
open PySem L2 WL WP WQ EN PyProof.Rows
namespace f7
open PySem L2 WL WP WQ EN PyProof.Rows
section
variable {P:Program}{w:World}{K:PySem.W.Frag}{mg:Str ->Option Value}{base:Heap}{A:Am}
theorem xt (T:Txt K mg A):dI P w K mg base iV 1 A.rA A.rK ["p","setting"] (ly K DH):=by
 refine nX T.inverse.fn oV (by rintro vs M q ⟨p,s,rfl,_⟩;rfl) λdQ A' outer s H E hr=> ?_;have nd:=oV.nd;refine⟨_,(aI (bX (i:=2) nd rfl (by first | exact Or.inl rfl | exact Or.inr rfl) aK) (aI (fT cw rfl (iJ (by rfl) T.iw (ab (bQ iC (pv 0) aK) aC)) (cj (i:=3) nd rfl (by first | exact Or.inl rfl | exact Or.inr rfl)) (aR (bX (i:=2) nd rfl (by first | exact Or.inl rfl | exact Or.inr rfl) (bQ gq (bQ fU (pv 2) (pv 1)) (pv 0))))) (aR (cQ (pv 2))))),?_⟩;try dsimp only[eQ]
 refine⟨_,inferInstance,?_⟩;rintro vs M q ⟨p,s,rfl,hp,s0,s1,k⟩;have Uz:(0<p)=True:=a7 (by omega);have cm: ∀x,iW x s=True:=λx=>a7 (.inr ⟨by omega,by omega⟩);simp? [↓dS];refine jC ?_; simp? [↓dS];refine⟨⟨by omega,by omega⟩,iO (λi ρ M'=> ∃o:Option W,ρ= [some (wi p),some (wi s),some (wi (pw p s i)),o] /\ M'=M) ⟨none,rfl,rfl⟩ (λ_ _ _ _ _=>trivial) ?_ ?_⟩
 ·rintro i x ρ M' hx ⟨o,rfl,rfl⟩ N hN;obtain⟨hi,rfl⟩:=lH hx;simp? [↓dS,cm,Uz];exact hN _ _ ⟨_,rfl,rfl⟩
 ·rintro ρ M' ⟨o,rfl,rfl⟩;rw[iG];dsimp only;refine jC ?_; simp? [↓dS];obtain⟨h1,h2,h3⟩:=K8 p s hp s0 s1;exact kr (k _ h1 h2 h3)
theorem DS (T:Txt K mg A):dI P w K mg base iV 4 A.zG A.zV ["p","stride","row"] (ly K (Lf A.d8 A.dh)):=by
 have ix:=lN (P:=P) (w:=w) (base:=base) T;have fN:=jj (P:=P) (w:=w) (base:=base) T;have nv:=pj (P:=P) (w:=w) (base:=base) T;have se:=xt (P:=P) (w:=w) (base:=base) T;have wj:=xu (P:=P) (w:=w) (base:=base) T;have HW:=DX (P:=P) (w:=w) (base:=base) T;have Bp:=a7 T.Row.cl;have BN:=a7 T.dJ;refine nX T.stood.fn uM (by rintro vs M q ⟨r,dr,rl,rp,p,s,a,P,B,D,rfl,_⟩;rfl) λdQ A' outer s H E hr=> ?_;have nd:=uM.nd;refine⟨_,(aI (bX (i:=3) nd rfl (by first | exact Or.inl rfl | exact Or.inr rfl) (aY T.first_column fN (hr.mono (by decide)) (by rfl) (ab (dj (gP rfl) (by rfl) T.fM Boot.«list» (ab (dH (pv 2) rfl) aC)) (ab (pv 1) aC)))) (aI (bX (i:=4) nd rfl (by first | exact Or.inl rfl | exact Or.inr rfl) (aY T.heights nv (hr.mono (by decide)) (by rfl) (ab (dj (gP rfl) (by rfl) T.fM Boot.«list» (ab (dH (pv 2) rfl) aC)) (ab (pv 1) (ab (pv 3) aC))))) (aI (bX (i:=5) nd rfl (by first | exact Or.inl rfl | exact Or.inr rfl) (aY T.inverse se (hr.mono (by decide)) (by rfl) (ab (pv 0) (ab (eC (eD hr) (dH (pv 2) rfl) (bQ dU (pv 3) (bQ fU (c5 cK (pv 4) (lJ iX aK) (λ_ _=>rfl)) (pv 1))) (λ_ _=>rfl)) aC)))) (aI (bX (i:=6) nd rfl (by first | exact Or.inl rfl | exact Or.inr rfl) (lK T.Row wj (hr.mono (by decide)) (by rfl) (ab iK (ab iK aC)))) (aI (fi (aY T.add_moved ix (hr.mono (by decide)) (by rfl) (ab (pv 0) (ab (pv 1) (ab (pv 6) (ab (pv 2) (ab (lJ iX (c5 cK (pv 4) aK (λ_ _=>rfl))) (ab (pv 5) aC)))))))) (aR (cQ (lK T.Stair HW (hr.mono (by decide)) (by rfl) (ab (pv 6) (ab (pv 3) (ab (bQ iC (c5 cK (pv 4) (lJ iX aK) (λ_ _=>rfl)) (c5 cK (pv 4) aK (λ_ _=>rfl))) (ab (aY T.inverse se (hr.mono (by decide)) (by rfl) (ab (pv 0) (ab (eC (eD hr) (dH (pv 6) rfl) (pv 3) (λ_ _=>rfl)) aC))) aC)))))))))))),?_⟩;try dsimp only[eQ]
 refine⟨_,inferInstance,?_⟩;rintro vs M q ⟨r,dr,rl,rp,p,s,a,P,B,D,rfl,wA,hp,s0,s8,gH,c8,wa,d0,d1,hB,hBl,Yu,k⟩;have p0:0<p:=by lia
 have E5: [(("lamps" :Str),wr rl),(("parts" :Str),wr rp)].lookup ("lamps" :Str)=some (wr rl):=rfl;have NA:=wa.len gH.ga d0;have rb:(dN a).length<=16000000:=by unfold dN;rw[aa];lia
 have vz:=gH.lam;dsimp? [wA,Bp,BN,E5];refine⟨rl,eY a,rfl,vz,λu hu=> ?_⟩;rw[lS];refine⟨u,dN a,s,rfl,um_same,rb,s0,by lia,λe=>absurd (List.map_eq_nil_iff.mp e) c8,λ_=> ?_⟩;have mm:=λms=>PF (s:=s) (a:=a) (ms:=ms) c8;generalize eM ((dN a).map (bM s))=f at mm ⊢;have ZJ:r≠u:=dw wA hu;have XH:rl≠u:=dw vz hu;dsimp? [aJ ZJ,aJ XH,wA,Bp,BN,E5];refine⟨rl,eY a,rfl,by rw[aJ XH];exact vz,λu2 hu2=> ?_⟩;rw[lS];refine⟨u2,dN a,s,f,rfl,um_same,rb,s0,by lia,λv ms hv c6 gv=> ?_⟩;obtain⟨mL,mn⟩:=mm ms c6 gv;have h1:kj (ms.map wi) (-1)=some (wi (ms.getLastD 0)):=rY mL;have h0:kj (ms.map wi) 0=some (wi (ms.headD 0)):=by
  cases ms with
  | nil=>exact absurd rfl mL
  | cons a r=>exact atI_0
 generalize ms.getLastD 0=tp at mn h1;generalize ms.headD 0=m at mn h0;have qh:Sm M (um (um (um M u (.lst ((dN a).map wi))) u2 (.lst ((dN a).map wi))) v (.lst (ms.map wi))):=((c4 hu).trans (c4 hu2)).trans (c4 hv);have P9:um (um (um M u (.lst ((dN a).map wi))) u2 (.lst ((dN a).map wi))) v (.lst (ms.map wi)) v=some (.lst (ms.map wi)):=um_same;generalize um (um (um M u (.lst ((dN a).map wi))) u2 (.lst ((dN a).map wi))) v (.lst (ms.map wi))=M1 at qh P9 ⊢;have LW:=qh _ _ wA;have Qs:=qh _ _ vz;have cm:iW tp s=True:=a7 (.inr ⟨by lia,by lia⟩);have LU:=ub s0 mn.hi;have He:=oJ (m:=a) LU.1;have L9:=dM gH.ga LU.1;dsimp? [P9,h1,LW,Bp,BN,E5,Qs,cm,He];refine⟨p,_,rfl,hp,L9.1,L9.2,λtn Oo MZ Jy=> ?_⟩;dsimp? [];intro e1 QD e2 FY x dx hx NG U6;refine⟨x,dx,wr e1,wr e2,rfl,um_same,rfl,?_⟩;have CS:Sm M1 (um (um (um M1 e1 (.dK [])) e2 (.dK [])) x (.ins A.d8 dx [("lamps",wr e1),("parts",wr e2)])):=((c4 QD).trans (c4 FY)).trans (c4 hx);dsimp? [];have Nu:um (um (um M1 e1 (.dK [])) e2 (.dK [])) x (.ins A.d8 dx [("lamps",wr e1),("parts",wr e2)]) x=some (.ins A.d8 dx [("lamps",wr e1),("parts",wr e2)]):=um_same;have BO:e1≠e2:=dw um_same FY;have Px:e1≠x:=dw (by rw[aJ BO];exact um_same) hx;have Nj:e2≠x:=dw um_same hx;have hf1:M1 e2=none:=by rw[aJ (a5 BO)] at FY;exact FY
 have hf2:M1 x=none:=by rw[aJ (a5 Nj),aJ (a5 Px)] at hx;exact hx
 have xj:cL p (um (um (um M1 e1 (.dK [])) e2 (.dK [])) x (.ins A.d8 dx [("lamps",wr e1),("parts",wr e2)])) e1 e2 [] []:=⟨by rw[aJ Px,aJ BO];exact um_same,by rw[aJ Nj];exact um_same,(λt ht=>by cases ht),GD.nil,(λt ht=>by cases ht),List.nodup_nil,by simp[bL,BO]⟩
 generalize um (um (um M1 e1 (.dK [])) e2 (.dK [])) x (.ins A.d8 dx [("lamps",wr e1),("parts",wr e2)])=M2 at CS Nu xj ⊢;have P8:=CS _ _ P9;have Hg:=CS _ _ LW;have Hy: ∀d,d∈x::bL e1 e2 [] ->M1 d=none:=λd hd=>by
  simp only[bL,av,List.map_nil,List.not_mem_nil,or_false] at hd;rcases hd with rfl | rfl | rfl
  ·exact hf2
  ·exact QD
  ·exact hf1
 have V2: ∀d,M1 d=none ->M d=none:=λd hd=>by
  cases e:M d with
  | none=>rfl
  | some o=>rw[qh _ _ e] at hd;cases hd
 have OX:cL p M2 rl rp a P:=gH.keep (d9.sm (qh.trans CS) []) (λd _ h=>by cases h);have nz:NZ p tn:=qQ hp (by rw[cW (by lia) MZ];lia);dsimp? [P8,h0];refine⟨x,e1,e2,r,rl,rp,p,s, -m,tn,[],a,[],P,0,B,rfl, .inl ⟨_,Nu⟩, .inl ⟨_,Hg⟩,p0,by lia,s0,by lia,nz,xj,OX,?_,by show 0+a.length<=_;lia,by show 0+P.length<=_;lia,(λt ht=>by cases ht),hB,by lia,λM3 b Q qj eb eq Np Hx Zh EW _ UY UP=> ?_⟩
 ·intro d hd kh;obtain⟨kvs,e⟩:=gH.mem kh;rw[V2 d (Hy d (aw _ hd))] at e;cases e
 have We: ∀x,look b x=look a (x+s*m)*tn % p:=λx=>by rw[eb];show(0+_) % p=_;rw[bP,Int.mul_neg,Int.sub_neg]
 have Mc:=xa s0 p0 gH.ga mn nz We;have P7:=oJ (m:=b) (cJ (m:=b) (x:=f) (by lia));have ZG: ∀ {d kvs},M2 d=some (.lst kvs) ->d∉bL e1 e2 []:=λ{d kvs} e hd=>by obtain⟨kvs,e2⟩:=xj.mem hd;rw[e] at e2;cases e2
 have ZN: ∀ {d C' d' Ba},M2 d=some (.ins C' d' Ba) ->d∉bL e1 e2 []:=λ{d C' d' Ba} e hd=>by obtain⟨kvs,e2⟩:=xj.mem hd;rw[e] at e2;cases e2
 have Z8:=Np _ _ P8 (ZG P8);have Ui:=Np _ _ Nu (ZN Nu);have Qq:=qj.lam;have fX1: [(("lamps" :Str),wr e1),(("parts" :Str),wr e2)].lookup ("lamps" :Str)=some (wr e1):=rfl;dsimp? [];rw[sj];dsimp? [Z8,h0,h1,Ui,Bp,BN,fX1,Qq,P7];refine⟨p,_,rfl,hp,Mc.1,Mc.2,λfoot f0 f1 hfo=> ?_⟩;dsimp? [];intro o ds ho hds NH;have XF:x≠o:=dw Ui ho;refine⟨o,ds,x,dx,wr e1,wr e2,wi f,wi (tp - m),wi foot,rfl,a5 XF,um_same,by rw[aJ XF];exact Ui,rfl,kr ?_⟩;have V1: ∀d,M2 d=none ->M d=none:=λd hd=>by
  cases e:M d with
  | none=>rfl
  | some o=>rw[CS _ _ (qh _ _ e)] at hd;cases hd
 have BL:Sm M M3:=λd u e=>Np _ _ (CS _ _ (qh _ _ e)) λhd=>by rw[V2 d (Hy d (aw _ hd))] at e;cases e
 have QU: ∀d,M3 d=none ->M d=none:=λd hd=>by
  cases e:M d with
  | none=>rfl
  | some o=>rw[BL _ _ e] at hd;cases hd
 refine k _ o ds e1 e2 b Q f m tp foot tn um_same (qj.same λd hd=> ?_) (Au (by lia) s0 gH.ga mn Jy We hfo f0 f1) mn Oo MZ Jy We (λw x=> ?_) (λd u e=> ?_) (λd hd=> ?_) (λt ht=>a4 (UY t ht) (by lia)) λw hw=>(UP w hw).elim (λz=>by cases z) id
 ·have NH:d≠o:=λz=>by obtain⟨kvs,e⟩:=qj.mem hd;rw[z,ho] at e;cases e
  rw[aJ NH,aJ NH]
 ·rw[eq];show(0+_) % p=_;rw[bP,Int.sub_neg]
 ·have NH:d≠o:=λz=>by rw[z,QU o ho] at e;cases e
  rw[aJ NH,aJ NH];exact BL _ _ e
 ·rcases av.mp hd with rfl | hd
  ·exact QU _ ho
  ·rcases Hx d hd with z | z
   ·exact V2 d (Hy d (aw _ z))
   ·exact V1 d z
end
end f7
open PySem L2 WL WP WQ EN PyProof.Rows
namespace f7
open PySem L2 WL WP WQ EN PyProof.Rows
section
variable {P:Program}{w:World}{K:PySem.W.Frag}{mg:Str ->Option Value}{base:Heap}{A:Am}
theorem qo (T:Txt K mg A):dI P w K mg base iV 1 A.l6 A.mj ["p","parts","n"] (ly K Pa):=by
 refine nX T.told_parts.fn kl (by rintro vs M q ⟨rl,rp,p,n,a,P,B,rfl,_⟩;rfl) λdQ A' outer s H E hr=> ?_;have nd:=kl.nd;refine⟨_,(aR (cQ (DA (n1:=1) rfl (d4.of (sc:=aQ gx) (N:= ["p","parts","n"]) (own:= ["which","shift"]) (fr:= [0,2,1]) (N':= ["which","shift","p","n","parts"]) rfl rfl rfl (by decide+kernel) rfl (by decide+kernel) (by decide+kernel) (by decide+kernel) (by decide+kernel) (by decide+kernel)) (eB (cA (eU rfl) (by rfl) T.gQ Boot.«sorted» (ab (pv 1) aC))) (λ_ _ _ _=>(cj (i:=0) (by show(["which","shift","p","n","parts"]:List Str).Nodup;decide+kernel) rfl (by first | exact Or.inl rfl | exact Or.inr rfl))) (by decide) (vo (by show _<_;decide)) (λ_ _ _ _=>hU) (λ_ _ _ _=>(Du (K:=K) rfl (cA (eU rfl) (by rfl) T.gQ Boot.«sorted» (ab (eC (eD hr) (pv 4) (pv 0) (λ_ _=>rfl)) aC)))) (λ_ _ _ _=>(cj (i:=1) (by show(["which","shift","p","n","parts"]:List Str).Nodup;decide+kernel) rfl (by first | exact Or.inl rfl | exact Or.inr rfl))) (vo (by show _<=_ /\ _<_;decide)) (λ_ _ _ _=>hU) (λ_ _ _ _=>(gK (ab (pv 0) (ab (pv 1) (ab (bQ gq (bQ fU (eC (eD hr) (eC (eD hr) (pv 4) (pv 0) (λ_ _=>rfl)) (pv 1) (λ_ _=>rfl)) (pv 3)) (pv 2)) aC)))))))),?_⟩;try dsimp only[eQ]
 refine⟨_,inferInstance,?_⟩;rintro vs M q ⟨rl,rp,p,n,a,P,B,rfl,p0,p1,n0,n1,row,Yu,hB,hB9,hPB,k⟩;have Hj:=row.par;dsimp? [Hj];refine⟨rp,k8 P,P.map (·.1),rfl,Hj,by unfold k8;rw[aD,aD];rfl,big (by rw[aa];lia),λu ws hu c6 gv=> ?_⟩;dsimp? [um_same];have P6:ws.length=P.length:=by rw[c6.length_eq,aa]
 have ON:=c4 (o:= .lst (ws.map wi)) hu;refine ye (λx:Int=>wi x) (λw zs=> ∃wy:List Int,wy.Perm (dN (pf P w)) /\ zs=wy.map λsh=>lM (w,sh,look (pf P w) sh*n % p)) B (qv (by rw[P6];lia)) (λp' M' h1 h2=>h2 u _ (dw um_same h1) um_same) ?_ ?_
 ·intro w hw p' M' ys JC sm EB B' N0 hB';obtain⟨t,ht,rfl⟩:=af.mp (c6.mem_iff.mp hw);have zA:pf P t.1=t.2.2:=o9 row.mK ht;have hM: ∀d o,M d=some o ->M' d=some o:=λd o e=>sm d o (λz=>by rw[z] at e;rw[ON _ _ e] at JC;cases JC) (ON _ _ e);have Qj:=hM _ _ Hj;have Qy:=hM _ _ (row.zy t ht);have He:d5 (k8 P) (Sum.inl t.1)=some (wr t.2.1):=by
   rw[sx];cases e:P.find? (λu=>decide (u.1=t.1)) with
   | none=>exact absurd (List.find?_eq_none.mp e t ht) (by simp)
   | some u=>have h1:=find_some e;have h2:u=t:=fV row.mK h1.1 ht h1.2;rw[h2];rfl
  dsimp? [Qj,He,Qy];refine⟨t.2.1,eY t.2.2,dN t.2.2,rfl,Qy,by unfold eY dN;rw[aD,aD];rfl,big (by unfold dN;rw[aa];have:=hB t ht;lia),λv wy hv tN Ur=> ?_⟩;dsimp? [um_same];refine hB' _ _ wy (λsh=>lM (t.1,sh,look (pf P t.1) sh*n % p)) _ (iT.sm (c4 hv)) (by rw[aJ (dw EB hv)];exact EB) ⟨wy,by rw[zA];exact tN,rfl⟩ ?_ (λM5 h5=>h5 v _ (a5 (dw EB hv)) um_same) ?_
  ·rw[tN.length_eq];unfold dN;rw[aa];exact hB t ht
  ·intro sh R8 M5 Zo N hN;have np: ∀ {d o},M d=some o ->d≠p':=λ{d o} e z=>by rw[z] at e;rw[ON _ _ e] at JC;cases JC
   have Yx: ∀d o,M d=some o ->M5 d=some o:=λd o e=>Zo d o (np e) (c4 hv _ _ (hM d o e));have Qi:=Yx _ _ Hj;have UX:=Yx _ _ (row.zy t ht);have L9:=dM (row.gp t ht) (tN.mem_iff.mp R8);have EC:=oJ (m:=t.2.2) (tN.mem_iff.mp R8);have cm:iW (look t.2.2 sh) n=True:=a7 (.inr ⟨by lia,by lia⟩);dsimp? [Qi,He,UX,EC,cm,p0];rw[zA] at hN;exact hN
 ·intro t M' yss ht sm Vh hlen hR;obtain⟨tl,e,hp⟩:=Ar row.mK (λw=>(row.Dw w).1) c6 hlen hR;have NO:M t=none:=by
   cases e:M t with
   | none=>rfl
   | some o=>rw[ON _ _ e] at ht;cases ht
  exact kr (k t M' tl (λd o e=>sm d o (λz=>by rw[z,NO] at e;cases e) (ON _ _ e)) NO (by rw[Vh,e]) hp)
end
end f7
open PySem L2 WL WP WQ EN PyProof.Rows
namespace f7
open PySem L2 WL WP WQ EN PyProof.Rows
section
variable {P:Program}{w:World}{K:PySem.W.Frag}{mg:Str ->Option Value}{base:Heap}{A:Am}
theorem xr (T:Txt K mg A):dI P w K mg base iV 1 A.rq A.rJ ["_law_script"] (yK K):=by
 refine T.zp.fn.ok oU (λvs H Q E h=> ?_) (λdQ A' outer s H vs Q E hr h=> ?_)
 ·obtain⟨a,ns,rfl,_⟩:=h;rfl
 ·obtain⟨a,ns,rfl,hs,k⟩:=h;have nd:=oU.nd;refine⟨_,(aR (cQ (sX (ab (dj fZ (by rfl) T.fM Boot.«list» (ab (uZ yN (pv 0) y3 (yZ aK)) aC)) (ab aK (ab aK (ab aK aC))))))),?_⟩;have ec: ∃ms:List Int,vS (ns.map V.int) none (some 63)=ms.map V.int:=by refine⟨(ns.drop (HT.oZ (ns.map V.int).length 0 none)).take (HT.oZ (ns.map V.int).length (ns.map V.int).length (some 63) - HT.oZ (ns.map V.int).length 0 none),?_⟩;unfold vS;rw[List.map_take,List.map_drop]
  obtain⟨ms,em⟩:=ec;refine⟨_,rfl,_,rfl,_,_,rfl,hs,λp hp=>⟨_,_,rfl, .inl (f6.of bU),λl hl=>⟨by show 4<=sizeLine;decide,λd hd=> ?_⟩⟩⟩;have ff:l≠d:=λe=>by rw[e,bU] at hd;cases hd
  refine k d l ms _ ff.symm bU ?_;rw[bC ff,bU,em]
theorem iM (T:Txt K mg A):dI P w K mg base iV 1 A.vF A.vO ["_law_draw","_law_many"] (ly K Pb):=by
 refine nX T.fk.fn qL (by rintro vs M q ⟨d,l,n,rfl,_⟩;rfl) λdQ A' outer s H E hr=> ?_;have nd:=qL.nd;refine⟨_,(aI (eG (xk (cH vc (c5 cK (pv 0) aK (λ_ _=>rfl)) (pv 1) (c9 _)) (sS (cH vc (c5 cK (pv 0) aK (λ_ _=>rfl)) (cA fB (by rfl) T.nR Boot.«len» (ab (c5 cK (pv 0) aK (λ_ _=>rfl)) aC)) (c9 _)))).pt (aI (bX (i:=2) nd rfl (by first | exact Or.inl rfl | exact Or.inr rfl) (c5 cK (c5 cK (pv 0) aK (λ_ _=>rfl)) (c5 cK (pv 0) aK (λ_ _=>rfl)) (λ_ _=>rfl))) (aI (iA (bQ dU (c5 cK (pv 0) aK (λ_ _=>rfl)) aK) (iB (pv 0) aK set_list)) (aI (iA aK (iB (pv 0) aK set_list)) (aR (eG (cH DM (cA rQ (by rfl) T.Kc Boot.«abs» (ab (pv 2) aC)) (bQ Lj aK aK) (c9 _)) (aR (iA (cA rQ (by rfl) T.Kc Boot.«abs» (ab (pv 2) aC)) (iB (pv 0) aK set_list))) (aR (iA (bQ gq (bQ dU (bQ dU (bQ fU (c5 cK (pv 0) aK (λ_ _=>rfl)) aK) (bQ fU (bQ gq (pv 2) aK) aK)) aK) aK) (iB (pv 0) aK set_list)))))))) dR) (aI (eG (cH DM (c5 cK (pv 0) aK (λ_ _=>rfl)) (pv 1) (c9 _)) (aI (bX (i:=3) nd rfl (by first | exact Or.inl rfl | exact Or.inr rfl) (bQ gq (c5 cK (pv 0) aK (λ_ _=>rfl)) (pv 1))) (aI (iA (bQ sZ (c5 cK (pv 0) aK (λ_ _=>rfl)) (pv 1)) (iB (pv 0) aK set_list)) (aR (cQ (pv 3))))) dR) (aI (iA (bQ gq (bQ dU (bQ fU (c5 cK (pv 0) aK (λ_ _=>rfl)) aK) aK) aK) (iB (pv 0) aK set_list)) (aR (cQ (bQ gq (bQ sZ (c5 cK (pv 0) aK (λ_ _=>rfl)) aK) (pv 1))))))),?_⟩;try dsimp only[eQ]
 refine⟨_,inferInstance,?_⟩;rintro vs M q ⟨d,l,n,rfl,⟨ns,i,c,sd,hd,hl,hi,c8⟩,n0,n1,k⟩;refine Ex (λρ M'=> ∃ (o1 o2:Option W) (i' c' s':Int),ρ= [some (wr d),some (wi n),o1,o2] /\ M' d=some (.lst [wr l,wi i',wi c',wi s']) /\ NB d M M' /\ 0<=i') ?_ λN hN=> ?_
 ·rintro ρ M' ⟨o1,o2,i',c',s',rfl,h,nb,ko⟩;have fin: ∀ (r c' s':Int),0<=r ->r<n -> ∃M0,Sm M0 (um M' d (.lst [wr l,wi i',wi c',wi s'])) /\ q (wi r) M0:=λr c' s' h0 h1=>kr (k r _ h0 h1 ⟨ns,i',c',s',um_same,by rw[aJ (a5 c8),nb l (a5 c8)];exact hl,ko,c8⟩ (nb.trans NB.put));have cm3: ∀x,iW x 16807=True:=λx=>by simp[iW]
  have cd1: ∀x,yn x n=True:=λx=>by simp[yn,n0,n1]
  have cd2: ∀x,yn x 64=True:=λx=>by simp[yn]
  have z2:((0:Int) <2147483647)=True:=by decide
  simp? [↓cP,h,n0,cm3,cd1,cd2,z2];exact dG (λ_=>fin _ _ _ (cN _ (by lia)) (cz _ n0)) λ_=>fin _ _ _ (cN _ (by lia)) (cz _ n0)
 ·have nx: ∀ (o1 o2:Option W) (i' c' s':Int),0<=i' ->N [some (wr d),some (wi n),o1,o2] (um M d (.lst [wr l,wi i',wi c',wi s'])):=λ_ _ _ _ _ h=>hN _ _ ⟨_,_,_,_,_,rfl,um_same,NB.put,h⟩;have RK: ∀ (o1 o2:Option W),N [some (wr d),some (wi n),o1,o2] M:=λ_ _=>hN _ _ ⟨_,_,_,_,_,rfl,hd,NB.refl d M,hi⟩;have cp:MY 10 18=True:=by simp[MY]
  have cm: ∀x,iW x 48271=True:=λx=>by simp[iW]
  have Wl: ∀x,iW x 69621=True:=λx=>by simp[iW]
  have z1:((0:Int) <2147483629)=True:=by decide
  have z2:((0:Int) <2147483647)=True:=by decide
  by_cases eX:i<ns.length
  ·have hx:kj (ns.map wi) i=some (wi (ns[i.toNat]'(by lia))):=HM hi (by rw[aA,ae (by lia)];rfl);simp? [↓cP,hd,hl,hx,aa,cp,cm,Wl,z1,z2];exact dG (λ_=>dG (λ_=>dG (λ_=>nx _ _ _ _ _ (by lia)) λ_=>nx _ _ _ _ _ (by lia)) λ_=>RK _ _) λ_=>RK _ _
  ·simp? [↓cP,hd,hl,eX,aa,decide_false];exact dG (λ_=>RK _ _) λ_=>RK _ _
theorem Lp (T:Txt K mg A):dI P w K mg base iV 2 A.JZ A.J6 ["_law_draw"] (ly K pP):=by
 have di:=iM (P:=P) (w:=w) (base:=base) T;refine nX T.XW.fn CW (by rintro vs M q ⟨d,l,rfl,_⟩;rfl) λdQ A' outer s H E hr=> ?_;have nd:=CW.nd;refine⟨_,(aR (cQ (c5 fJ (gK (ab aK (ab aK (ab aK (ab aK aC))))) (aY T.fk di (hr.mono (by decide)) (by rfl) (ab (pv 0) (ab aK aC))) (λ_ _=>rfl)))),?_⟩;try dsimp only[eQ]
 refine⟨_,inferInstance,?_⟩;rintro vs M q ⟨d,l,rfl,hD,k⟩;simp? [↓cP];refine⟨d,l,4,rfl,hD,by decide,by decide,λr M1 r0 r1 D1 b1=> ?_⟩;have hr4:r=0 \/ r=1 \/ r=2 \/ r=3:=by omega
 rcases hr4 with rfl | rfl | rfl | rfl<;> simp? [↓cP]
 ·exact kr (k 2 _ (by decide) D1 b1)
 ·exact kr (k 3 _ (by decide) D1 b1)
 ·exact kr (k 5 _ (by decide) D1 b1)
 ·exact kr (k 7 _ (by decide) D1 b1)
theorem DU (T:Txt K mg A):dI P w K mg base iV 1 A.zI A.zX ["_law_thing"] (ly K Tq):=by
 refine nX T.El.fn uO (by rintro vs M q ⟨i,rfl,_⟩;rfl) λdQ A' outer s H E hr=> ?_;have nd:=uO.nd;refine⟨_,(aR (cQ (DD (cA iP (by rfl) T.eV Boot.«isinstance» (ab (pv 0) (ab (jR (by rfl) T.Q7 Boot.«int» (show RelV (.ty "int") _ from rfl)) aC))) (Dx (Le (cA iP (by rfl) T.eV Boot.«isinstance» (ab (pv 0) (ab (jR (by rfl) T.MN Boot.«bool» (show RelV (.ty "bool") _ from rfl)) aC)))))))),?_⟩;try dsimp only[eQ]
 refine⟨_,inferInstance,?_⟩;rintro vs M q ⟨i,rfl,k⟩;simp? [↓cP];exact kr k
theorem GX (T:Txt K mg A):dI P w K mg base iV 1 A.E4 A.Fe ["p","pairs"] (ly K Jj):=by
 refine nX T.tidy.fn yP (by rintro vs M q ⟨a,p,ps,rfl,_⟩;rfl) λdQ A' outer s H E hr=> ?_;have nd:=yP.nd;refine⟨_,(aI (bX (i:=2) nd rfl (by first | exact Or.inl rfl | exact Or.inr rfl) iK) (aI (fT cw rfl (eB (pv 1)) (mW (n:=2) rfl (d7 (cj (i:=3) nd rfl (by first | exact Or.inl rfl | exact Or.inr rfl)) (d7 (cj (i:=4) nd rfl (by first | exact Or.inl rfl | exact Or.inr rfl)) jQ))) (aR (lI (eD hr) (pv 2) (pv 3) (bQ gq (bQ dU (lL (eD hr) (pv 2) (pv 3) aK ⟨by rfl,by rfl,by rfl,by rfl⟩) (pv 4)) (pv 0)) rfl))) (aR (cQ (dj jK (by rfl) T.jd Boot.«tuple» (ab (f' rfl (d4.of (sc:=aQ sI) (N:= ["p","pairs","turned","place","setting"]) (own:= ["place"]) (fr:= [2]) (N':= ["place","turned"]) rfl rfl rfl (by decide+kernel) rfl (by decide+kernel) (by decide+kernel) (by decide+kernel) (by decide+kernel) (by decide+kernel)) (eB (cA (eU rfl) (by rfl) T.gQ Boot.«sorted» (ab (pv 2) aC))) (λ_ _ _ _=>(cj (i:=0) (by show(["place","turned"]:List Str).Nodup;decide+kernel) rfl (by first | exact Or.inl rfl | exact Or.inr rfl))) eT (λ_ _ _ _=>(oz (cH vb (eC (eD hr) (pv 1) (pv 0) (λ_ _=>rfl)) aK (c9 _)))) (λ_ _ _ _=>(gK (ab (pv 0) (ab (eC (eD hr) (pv 1) (pv 0) (λ_ _=>rfl)) aC))))) aC)))))),?_⟩;try dsimp only[eQ]
 refine⟨_,inferInstance,?_⟩;rintro vs M q ⟨a,p,ps,rfl,ha,p0,QQ,Va,k⟩;simp? [↓cP];intro d hd;have Ea:a≠d:=dw ha hd;simp? [↓cP,aJ Ea,ha];refine iO (λi ρ M'=> ∃ (o1 o2:Option W) (m:Pt),ρ= [some (wi p),some (wr a),some (wr d),o1,o2] /\ M'=um M d (.dK (eY m)) /\ (m.map (·.1)).Nodup /\ m.length<=i /\ (∀x,look m x=dA (ps.take i) x % p) /\ ∀k∈m.map (·.1), ∃q∈ps,q.1=k) ⟨none,none,[],rfl,rfl,List.nodup_nil,aq _,λx=>by simp[look,dA],by simp⟩ ?_ ?_ ?_
 ·rintro i ρ M' _ ⟨o1,o2,m,rfl,rfl,_⟩;rw[aJ Ea];exact ha
 ·rintro i x ρ M' hx ⟨o1,o2,m,rfl,rfl,hn,hl,ht,gU⟩ N hN;obtain⟨z,hz,rfl⟩:=pairs_at hx;have FX:=(ag.mp hz).1;have hs:((eY m).length<sizeLine)=True:=by rw[eY,aa];exact a7 (qv (by omega))
  simp? [↓cP,dy,oE,p0,hs,oy];refine hN _ _ ⟨_,_,_,rfl,rfl,tw hn,a4 pE (by omega),λx=> ?_,λk hk=>(vh hk).elim (λe=>⟨z,ai hz,e.symm⟩) (gU k)⟩;rw[mZ,bD,hz];show _=dA (ps.take i++ [z]) x % p;rw[lj];by_cases hx:x=z.1
  ·subst hx;rw[ak rfl,ak rfl,ht,Int.emod_add_emod]
  ·rw[aj hx,aj (a5 hx),bu];exact ht x
 ·rintro ρ M' ⟨o1,o2,m,rfl,rfl,hn,hl,ht,gU⟩;rw[aa] at hl ht;rw[cn] at ht;simp? [↓cP];refine⟨d,eY m,m.map (·.1),rfl,um_same,vk m,(by rw[aa];exact big (by omega)),λsp ns vv c6 gv=> ?_⟩;have Me:d≠sp:=dw um_same vv;have JF:ns.length<=16000000:=by rw[c6.length_eq,aa];omega
  simp? [↓cP];refine kT (λx=>match x with | .v (.int n)=>if look m n=0 then none else some (dy (n,look m n)) | _=>none) (by rw[aa];exact big JF) (λM3 s3=>s3 _ _ um_same) ?_ λt Uq=> ?_
  ·intro i x hx M3 N s3 hN;obtain⟨n,L4,rfl⟩:=pJ hx;have U9:M3 d=some (.dK (eY m)):=s3 _ _ (by rw[aJ Me,um_same]);have Hm:n∈m.map (·.1):=c6.mem_iff.mp (ai L4);simp? [↓cP,U9,oJ Hm];refine tG (λh=> ?_) λh=> ?_
   ·simp only[h,bf] at hN;exact hN
   ·simp only[h,bN] at hN;exact hN
  ·simp? [↓cP];refine⟨M,((Sm.um (Sm.refl M) hd).trans (c4 vv)).trans (c4 Uq),?_⟩
   ·have e:(ns.map wi).filterMap (λx=>match x with | .v (.int n)=>if look m n=0 then none else some (dy (n,look m n)) | _=>none)=(jo p ps).map dy:=by rw[<- yO p0 hn ht c6 gv,List.filterMap_map];unfold sel;rw[List.map_filterMap];congr 1;funext n;simp only[Function.comp];split<;>rfl
    rw[e];exact k
theorem qP (T:Txt K mg A):dI P w K mg base iV 1 A.vE A.vN ["_law_p_here","_law_pairs"] (ly K Jj):=by
 refine nX T.xE.fn qK (by rintro vs M q ⟨a,p,ps,rfl,_⟩;rfl) λdQ A' outer s H E hr=> ?_;have nd:=qK.nd;refine⟨_,(aI (bX (i:=2) nd rfl (by first | exact Or.inl rfl | exact Or.inr rfl) iK) (aI (fT cw rfl (eB (pv 1)) (mW (n:=2) rfl (d7 (cj (i:=3) nd rfl (by first | exact Or.inl rfl | exact Or.inr rfl)) (d7 (cj (i:=4) nd rfl (by first | exact Or.inl rfl | exact Or.inr rfl)) jQ))) (aR (lI (eD hr) (pv 2) (pv 3) (bQ gq (bQ dU (lL (eD hr) (pv 2) (pv 3) aK ⟨by rfl,by rfl,by rfl,by rfl⟩) (pv 4)) (pv 0)) rfl))) (aR (cQ (dj jK (by rfl) T.jd Boot.«tuple» (ab (f' rfl (d4.of (sc:=aQ lE) (N:= ["_law_p_here","_law_pairs","_law_sums","_law_place","_law_setting"]) (own:= ["_law_place"]) (fr:= [2]) (N':= ["_law_place","_law_sums"]) rfl rfl rfl (by decide+kernel) rfl (by decide+kernel) (by decide+kernel) (by decide+kernel) (by decide+kernel) (by decide+kernel)) (eB (cA (eU rfl) (by rfl) T.gQ Boot.«sorted» (ab (pv 2) aC))) (λ_ _ _ _=>(cj (i:=0) (by show(["_law_place","_law_sums"]:List Str).Nodup;decide+kernel) rfl (by first | exact Or.inl rfl | exact Or.inr rfl))) eT (λ_ _ _ _=>(oz (cH Jl (eC (eD hr) (pv 1) (pv 0) (λ_ _=>rfl)) aK (c9 _)))) (λ_ _ _ _=>(gK (ab (pv 0) (ab (eC (eD hr) (pv 1) (pv 0) (λ_ _=>rfl)) aC))))) aC)))))),?_⟩;try dsimp only[eQ]
 refine⟨_,inferInstance,?_⟩;rintro vs M q ⟨a,p,ps,rfl,ha,p0,QQ,Va,k⟩;simp? [↓cP];intro d hd;have Ea:a≠d:=dw ha hd;simp? [↓cP,aJ Ea,ha];refine iO (λi ρ M'=> ∃ (o1 o2:Option W) (m:Pt),ρ= [some (wi p),some (wr a),some (wr d),o1,o2] /\ M'=um M d (.dK (eY m)) /\ (m.map (·.1)).Nodup /\ m.length<=i /\ (∀x,look m x=dA (ps.take i) x % p) /\ ∀k∈m.map (·.1), ∃q∈ps,q.1=k) ⟨none,none,[],rfl,rfl,List.nodup_nil,aq _,λx=>by simp[look,dA],by simp⟩ ?_ ?_ ?_
 ·rintro i ρ M' _ ⟨o1,o2,m,rfl,rfl,_⟩;rw[aJ Ea];exact ha
 ·rintro i x ρ M' hx ⟨o1,o2,m,rfl,rfl,hn,hl,ht,gU⟩ N hN;obtain⟨z,hz,rfl⟩:=pairs_at hx;have FX:=(ag.mp hz).1;have hs:((eY m).length<sizeLine)=True:=by rw[eY,aa];exact a7 (qv (by omega))
  simp? [↓cP,dy,oE,p0,hs,oy];refine hN _ _ ⟨_,_,_,rfl,rfl,tw hn,a4 pE (by omega),λx=> ?_,λk hk=>(vh hk).elim (λe=>⟨z,ai hz,e.symm⟩) (gU k)⟩;rw[mZ,bD,hz];show _=dA (ps.take i++ [z]) x % p;rw[lj];by_cases hx:x=z.1
  ·subst hx;rw[ak rfl,ak rfl,ht,Int.emod_add_emod]
  ·rw[aj hx,aj (a5 hx),bu];exact ht x
 ·rintro ρ M' ⟨o1,o2,m,rfl,rfl,hn,hl,ht,gU⟩;rw[aa] at hl ht;rw[cn] at ht;simp? [↓cP];refine⟨d,eY m,m.map (·.1),rfl,um_same,vk m,(by rw[aa];exact big (by omega)),λsp ns vv c6 gv=> ?_⟩;have Me:d≠sp:=dw um_same vv;have JF:ns.length<=16000000:=by rw[c6.length_eq,aa];omega
  simp? [↓cP];refine kT (λx=>match x with | .v (.int n)=>if look m n=0 then none else some (dy (n,look m n)) | _=>none) (by rw[aa];exact big JF) (λM3 s3=>s3 _ _ um_same) ?_ λt Uq=> ?_
  ·intro i x hx M3 N s3 hN;obtain⟨n,L4,rfl⟩:=pJ hx;have U9:M3 d=some (.dK (eY m)):=s3 _ _ (by rw[aJ Me,um_same]);have Hm:n∈m.map (·.1):=c6.mem_iff.mp (ai L4);simp? [↓cP,U9,oJ Hm];have BP:0<=look m n:=by rw[ht];exact cN _ (by omega)
   refine dG (λh=> ?_) λh=> ?_
   ·have h':¬look m n=0:=by omega
    simp only[h',bf] at hN;exact hN
   ·have h':look m n=0:=by omega
    simp only[h',bN] at hN;exact hN
  ·simp? [↓cP];refine⟨M,((Sm.um (Sm.refl M) hd).trans (c4 vv)).trans (c4 Uq),?_⟩
   ·have e:(ns.map wi).filterMap (λx=>match x with | .v (.int n)=>if look m n=0 then none else some (dy (n,look m n)) | _=>none)=(jo p ps).map dy:=by rw[<- yO p0 hn ht c6 gv,List.filterMap_map];unfold sel;rw[List.map_filterMap];congr 1;funext n;simp only[Function.comp];split<;>rfl
    rw[e];exact k
theorem tf (T:Txt K mg A):dI P w K mg base iV 2 A.nG A.nM ["_law_draw","_law_p_here","_law_most","_law_far"] (ly K DF):=by
 have di:=iM (P:=P) (w:=w) (base:=base) T;have qa:=qP (P:=P) (w:=w) (base:=base) T;refine nX T.qW.fn lB (by rintro vs M q ⟨d,l,p,most,ki,rfl,_⟩;rfl) λdQ A' outer s H E hr=> ?_;have nd:=lB.nd;refine⟨_,(aI (bX (i:=4) nd rfl (by first | exact Or.inl rfl | exact Or.inr rfl) (sX aC)) (aI (fT cw rfl (iJ (by rfl) T.iw (ab (aY T.fk di (hr.mono (by decide)) (by rfl) (ab (pv 0) (ab (bQ dU (pv 2) aK) aC))) aC)) (cj (i:=5) nd rfl (by first | exact Or.inl rfl | exact Or.inr rfl)) (aI (bX (i:=6) nd rfl (by first | exact Or.inl rfl | exact Or.inr rfl) (bQ iC (aY T.fk di (hr.mono (by decide)) (by rfl) (ab (pv 0) (ab (bQ dU (bQ fU aK (pv 3)) aK) aC))) (pv 3))) (aR (fi (DB PySem.F.plainAttrs_list PySem.F.slot_list_append PySem.F.type_list_append jT (pv 4) (ab (gK (ab (pv 6) (ab (bQ dU aK (aY T.fk di (hr.mono (by decide)) (by rfl) (ab (pv 0) (ab (bQ iC (pv 1) aK) aC)))) aC))) aC)))))) (aR (cQ (aY T.xE qa (hr.mono (by decide)) (by rfl) (ab (pv 1) (ab (pv 4) aC))))))),?_⟩;try dsimp only[eQ]
 refine⟨_,inferInstance,?_⟩;rintro vs M q ⟨d,l,p,most,ki,rfl,hD,p2,p3,m0,m1,f0,f1,k⟩;simp? [↓dS];intro a ha;obtain⟨Ea,XO⟩:=hD.ne ha;refine jC ?_;simp? [↓dS];refine⟨d,l,most+1,rfl,hD.put ha,by omega,by omega,λn M1 n0 n1 D1 b1=> ?_⟩;have ha1:M1 a=some (.lst []):=by rw[b1 a Ea,um_same]
 simp? [↓dS];refine⟨⟨by omega,by omega⟩,iO (λi ρ M'=> ∃ (o1 o2:Option W) (ps:Pt),ρ= [some (wr d),some (wi p),some (wi most),some (wi ki),some (wr a),o1,o2] /\ Dr M' d l /\ M' a=some (.lst (ps.map dy)) /\ ps.length=i /\ (∀z∈ps, -ki<=z.1 /\ z.1<=ki /\ 0<z.2 /\ z.2<p) /\ (∀b,b≠d ->b≠a ->M' b=M b)) ⟨none,none,[],rfl,D1,ha1,rfl,by simp,λb h1 h2=>by rw[b1 b h1,aJ h2]⟩ (λ_ _ _ _ _=>trivial) ?_ ?_⟩
 ·rintro i x ρ M' hx ⟨o1,o2,ps,rfl,D2,Vf,hl,hz,hb⟩ N hN;obtain⟨hi,rfl⟩:=lH hx;have cm: ∀x,iW 2 x=True:=λx=>by simp[iW]
  simp? [↓dS,cm];refine⟨d,l,2*ki+1,rfl,D2,by omega,by omega,λr M3 r0 r1 D3 b3=> ?_⟩;simp? [↓dS];refine jC ?_;have Yq:M3 a=some (.lst (ps.map dy)):=by rw[b3 a Ea];exact Vf
  simp? [↓dS,Yq];refine⟨d,l,p - 1,rfl,D3,by omega,by omega,λs' M4 s0 s1 D4 b4=> ?_⟩;have ha4:M4 a=some (.lst (ps.map dy)):=by rw[b4 a Ea];exact Yq
  have hs:((ps.map dy).length<sizeLine)=True:=by rw[aa];exact a7 (qv (by omega))
  simp? [↓dS,ha4,hs];refine hN _ _ ⟨_,_,ps++ [(r - ki,1+s')],rfl,D4.K9 Ea XO,?_,by simp[hl],λz ng=> ?_,λb h1 h2=> ?_⟩
  ·rw[um_same,aN];rfl
  ·rcases ax.mp ng with ng | ng
   ·exact hz z ng
   ·rw[ah.mp ng];exact⟨by show -ki<=r - ki;omega,by show r - ki<=ki;omega,by show 0<1+s';omega,by show 1+s'<p;omega⟩
  ·rw[aJ h2,b4 b h1,b3 b h1,hb b h1 h2]
 ·rintro ρ M' ⟨o1,o2,ps,rfl,D2,Vf,hl,hz,hb⟩;rw[iG] at hl;dsimp only;refine jC ?_;simp? [↓dS];refine⟨a,p,ps,rfl,Vf,by omega,Hz (by omega),by omega,?_⟩;refine⟨λb=>if b=a then none else M' b,λb o e=> ?_,k ps _ (by omega) hz ?_ ?_⟩
  ·dsimp only at e;split at e
   ·cases e
   ·exact e
  ·obtain⟨ns,i,c,s',h1,h2,h3,h4⟩:=D2;exact⟨ns,i,c,s',by dsimp only;rw[aj (a5 Ea)];exact h1,by dsimp only;rw[aj (a5 XO)];exact h2,h3,h4⟩
  ·intro b k9;dsimp only;split
   ·rename_i e;rw[e];exact ha.symm
   ·rename_i e;exact hb b k9 e
theorem nW (T:Txt K mg A):dI P w K mg base iV 2 A.jF A.jH ["_law_p_here","_law_thing"] (ly K Lh):=by
 have Al:=DU (P:=P) (w:=w) (base:=base) T;refine nX T.lR.fn jf (by rintro vs M q ⟨p,pat,rfl,_⟩;rfl) λdQ A' outer s H E hr=> ?_;have nd:=jf.nd;refine⟨_,(aI (eG (iZ (kH (cA iP (by rfl) T.eV Boot.«isinstance» (ab (pv 1) (ab (jR (by rfl) T.jd Boot.«tuple» (show RelV (.ty "tuple") _ from rfl)) aC))))) (aR (cQ pd)) dR) (aI (fT cw rfl (iJ (by rfl) T.iw (ab (cA fB (by rfl) T.nR Boot.«len» (ab (pv 1) aC)) aC)) (cj (i:=2) nd rfl (by first | exact Or.inl rfl | exact Or.inr rfl)) (aI (bX (i:=3) nd rfl (by first | exact Or.inl rfl | exact Or.inr rfl) (c5 fJ (pv 1) (pv 2) (λ_ _=>rfl))) (aI (eG (qO (iZ (kH (cA iP (by rfl) T.eV Boot.«isinstance» (ab (pv 3) (ab (jR (by rfl) T.jd Boot.«tuple» (show RelV (.ty "tuple") _ from rfl)) aC))))) (sR (cH vb (cA fB (by rfl) T.nR Boot.«len» (ab (pv 3) aC)) aK (c9 _)))).pt (aR (cQ pd)) dR) (aI (eG (qO (iZ (kH (aY T.El Al (hr.mono (by decide)) (by rfl) (ab (c5 fJ (pv 3) aK (λ_ _=>rfl)) aC)))) (qO (iZ (kH (aY T.El Al (hr.mono (by decide)) (by rfl) (ab (c5 fJ (pv 3) aK (λ_ _=>rfl)) aC)))) (sR (iZ (Dl vc vc aK (c5 fJ (pv 3) aK (λ_ _=>rfl)) (pv 0)))))).pt (aR (cQ pd)) dR) (aR (eG (xk (cH Jl (pv 2) aK (c9 _)) (sS (cH DM (c5 fJ (c5 fJ (pv 1) (bQ iC (pv 2) aK) (λ_ _=>rfl)) aK (λ_ _=>rfl)) (c5 fJ (pv 3) aK (λ_ _=>rfl)) (c9 _)))).pt (aR (cQ pd)) dR)))))) (aR (cQ pd)))),?_⟩;try dsimp only[eQ]
 refine⟨_,inferInstance,?_⟩;rintro vs M q ⟨p,pat,rfl,⟨h1,h2⟩,hl,k⟩;have pK:(pat.map dy).length=pat.length:=aa _;simp? [↓cP,cR,pK];refine⟨⟨by omega,by omega⟩,iO (λi ρ M'=> ∃o1 o2:Option W,ρ= [some (wi p),some (cR pat),o1,o2] /\ M'=M) ⟨none,none,rfl,rfl⟩ (λ_ _ _ _ _=>trivial) ?_ ?_⟩
 ·rintro i x ρ M' hx ⟨o1,o2,rfl,rfl⟩ N hN;obtain⟨hi,rfl⟩:=lH hx;have ko:i<pat.length:=by omega
  have ha:kj (pat.map dy) (0+(i:Int))=some (dy pat[i]):=by rw[bP];exact gg (by rw[aA,ae ko];rfl)
  have hz:=h1 pat[i] (bW ko);simp? [↓cP,cR,ha,dy];refine⟨_,rfl,?_⟩;simp? [↓cP];refine⟨_,rfl,?_⟩;simp? [↓cP,hz.1,hz.2,decide_true];refine dG (λh=> ?_) λh=>hN _ _ ⟨_,_,rfl,rfl⟩;have Yj:i - 1<pat.length:=by omega
  have vB:kj (pat.map dy) (0+(i:Int) - 1)=some (dy pat[i - 1]):=by
   have:(0+(i:Int) - 1)=((i - 1:Nat):Int):=by omega
   rw[this];exact gg (by rw[aA,ae Yj];rfl)
  have eX:=bj.mp h2 (i - 1) i Yj ko (by omega);simp? [↓cP,vB,dy];exact dG (λh=>by omega) λ_=>hN _ _ ⟨_,_,rfl,rfl⟩
 ·rintro ρ M' ⟨o1,o2,rfl,rfl⟩;simp? [↓cP];exact kr k
theorem DT (T:Txt K mg A):dI P w K mg base iV 2 A.zH A.zW ["_law_p_here","_law_one","_law_other","_law_by","_law_many"] (ly K Tp):=by
 have qa:=qP (P:=P) (w:=w) (base:=base) T;refine nX T.zo.fn uN (by rintro vs M q ⟨p,a,b,y,n,rfl,_⟩;rfl) λdQ A' outer s H E hr=> ?_;have nd:=uN.nd;refine⟨_,(aR (cQ (aY T.xE qa (hr.mono (by decide)) (by rfl) (ab (pv 0) (ab (bQ DO (dj fZ (by rfl) T.fM Boot.«list» (ab (pv 1) aC)) (f' rfl (d4.of (sc:=aQ ou) (N:= ["_law_p_here","_law_one","_law_other","_law_by","_law_many"]) (own:= ["_law_place","_law_setting"]) (fr:= [3,4]) (N':= ["_law_place","_law_setting","_law_by","_law_many"]) rfl rfl rfl (by decide+kernel) rfl (by decide+kernel) (by decide+kernel) (by decide+kernel) (by decide+kernel) (by decide+kernel)) (Ds (pv 2)) (λ_ _ _ _=>(mW (n:=2) rfl (d7 (cj (i:=0) (by show(["_law_place","_law_setting","_law_by","_law_many"]:List Str).Nodup;decide+kernel) rfl (by first | exact Or.inl rfl | exact Or.inr rfl)) (d7 (cj (i:=1) (by show(["_law_place","_law_setting","_law_by","_law_many"]:List Str).Nodup;decide+kernel) rfl (by first | exact Or.inl rfl | exact Or.inr rfl)) jQ)))) Fq (λ_ _ _ _=>hU) (λ_ _ _ _=>(gK (ab (bQ dU (pv 0) (pv 2)) (ab (bQ fU (pv 1) (pv 3)) aC)))))) aC))))),?_⟩;try dsimp only[eQ]
 refine⟨_,inferInstance,?_⟩;rintro vs M q ⟨p,a,b,y,n,rfl,p0,hf,ha,hb,hz,k⟩;simp? [↓cP,cR];intro u hu;simp? [↓cP];refine kT (λx=>match x with | .tup [.v (.int x), .v (.int s)]=>some (.tup [wi (x+y),wi (s*n)]) | _=>none) (by rw[aa];exact big (by omega)) (λ_ _=>trivial) ?_ λt ht=> ?_
 ·intro i x hx M3 N s3 hN;obtain⟨z,ng,rfl⟩:=pairs_at hx;have:=hz z (ai ng);have cm:iW z.2 n=True:=a7 (.inl ⟨by omega,by omega⟩);simp? [↓cP,dy,cm];exact hN
 ·have e:(b.map dy).filterMap (λx=>match x with | .tup [.v (.int x), .v (.int s)]=>some (.tup [wi (x+y),wi (s*n)]) | _=>none)=(tD y n b).map dy:=by rw[List.filterMap_map,tD,aD];exact List.filterMap_eq_map.symm▸rfl
  rw[e];have Z9:u≠t:=dw um_same ht;have hs:((a.map dy).length+((tD y n b).map dy).length<=sizeLine)=True:=a7 (big (by rw[aa,aa,tD,aa];omega));simp? [↓cP,aJ Z9,hs];intro c hc;simp? [↓cP];refine⟨c,p,a++tD y n b,rfl,by rw[um_same,aN],p0,hf,by rw[aL,tD,aa];omega,?_⟩;exact⟨M,((c4 hu).trans (c4 ht)).trans (c4 hc),k⟩
end
end f7
open PySem L2 WL WP WQ EN PyProof.Rows
namespace f7
open PySem L2 WL WP WQ EN PyProof.Rows
section
variable {P:Program}{w:World}{K:PySem.W.Frag}{mg:Str ->Option Value}{base:Heap}{A:Am}
theorem xp (T:Txt K mg A):dI P w K mg base iV 5 A.rm A.rG ["p","stride","held","row"] (ly K (GQ A.d8 A.dh)):=by
 have Ak:=DS (P:=P) (w:=w) (base:=base) T;have FD:=DV (P:=P) (w:=w) (base:=base) T;have fN:=jj (P:=P) (w:=w) (base:=base) T;have wj:=xu (P:=P) (w:=w) (base:=base) T;have Bp:=a7 T.Row.cl;have BN:=a7 T.dJ;have RO:=a7 T.dZ;have F2:=a7 T.Stair.cl;have TX:=a7 T.dE;have TV:=a7 T.dD;refine nX T.take_in.fn oS (by rintro vs M q ⟨hd,r,dr,rl,rp,p,s,Z,K',w',KP,pats,a,P,L,rfl,_⟩;rfl) λdQ A' outer s H E hr=> ?_;have nd:=oS.nd;refine⟨_,(aI (bX (i:=4) nd rfl (by first | exact Or.inl rfl | exact Or.inr rfl) (aY T.first_column fN (hr.mono (by decide)) (by rfl) (ab (dj (gP rfl) (by rfl) T.fM Boot.«list» (ab (dH (pv 3) rfl) aC)) (ab (pv 1) aC)))) (aR (Dm cw (cH DL (pv 4) Dy (c9 _)) (aI (eG (La (AD (eD hr) (pv 4) (pv 2))) (aI (lI (eD hr) (pv 2) (pv 4) (aY T.stood Ak (hr.mono (by decide)) (by rfl) (ab (pv 0) (ab (pv 1) (ab (pv 3) aC)))) rfl) (aR GC)) dR) (aI (bX (i:=5) nd rfl (by first | exact Or.inl rfl | exact Or.inr rfl) (eC (eD hr) (pv 2) (pv 4) (λ_ _=>rfl))) (aI (fi (aY T.cut FD (hr.mono (by decide)) (by rfl) (ab (pv 0) (ab (pv 1) (ab (pv 3) (ab (pv 5) aC)))))) (aI (bX (i:=6) nd rfl (by first | exact Or.inl rfl | exact Or.inr rfl) (aY T.first_column fN (hr.mono (by decide)) (by rfl) (ab (dj (gP rfl) (by rfl) T.fM Boot.«list» (ab (dH (pv 3) rfl) aC)) (ab (pv 1) aC)))) (aI (eG (cH iL (pv 6) (pv 4) (c9 _)) (aI (lI (eD hr) (pv 2) (pv 4) (aY T.stood Ak (hr.mono (by decide)) (by rfl) (ab (pv 0) (ab (pv 1) (ab (pv 3) aC)))) rfl) (aR (bX (i:=3) nd rfl (by first | exact Or.inl rfl | exact Or.inr rfl) (lK T.Row wj (hr.mono (by decide)) (by rfl) (ab (dH (pv 5) rfl) (ab (dH (pv 5) rfl) aC)))))) dR) (aR (bX (i:=4) nd rfl (by first | exact Or.inl rfl | exact Or.inr rfl) (pv 6))))))))))),?_⟩;try dsimp only[eQ]
 refine⟨_,inferInstance,?_⟩;rintro vs M q ⟨hd,r,dr,rl,rp,p,s,Z,K',w',KP,pats,a,P,L,rfl,hp,s0,s8,jt,z0,k0,w0,PM,uq,Wo,Wn,Qh,hL,YM,bxp,ki,k⟩;have P0:pY s Z K' w' KP:=⟨s0,k0,w0,PM,uq⟩
 have E5: ∀l q:Addr,[(("lamps" :Str),wr l),(("parts" :Str),wr q)].lookup ("lamps" :Str)=some (wr l):=λ_ _=>rfl;have V8: ∀ (l q:Addr) (f g e:W),[(("lamps" :Str),wr l),(("parts" :Str),wr q),(("first" :Str),f),(("length" :Str),g),(("foot" :Str),e)].lookup ("lamps" :Str)=some (wr l):=λ_ _ _ _ _=>rfl;have V7: ∀ (l q:Addr) (f g e:W),[(("lamps" :Str),wr l),(("parts" :Str),wr q),(("first" :Str),f),(("length" :Str),g),(("foot" :Str),e)].lookup ("parts" :Str)=some (wr q):=λ_ _ _ _ _=>rfl;have wA:=jt.ins;have vz:=jt.row.lam;have p0:0<p:=by lia
 have hE0:=P0.E0;have hE8:2*K'*s<=16*K':=by have:=aZ s8 (show 0<=2*K' by lia);lia
 have O9: ∀ {M':Mp} {rl rp:Addr} {a:Pt} {P:Pq} {E:Int},cL p M' rl rp a P ->jm s Z E E a ->0<=E ->E<=2*(w'+16*K')+2*K' ->(dN a).length<=16000000:=λ{_ _ _ _ _ E} row bx e0 e1=>by have:=(bx.wt s0 s8 z0 (aV E) (aV E) e0).len row.ga (by lia);unfold dN;rw[aa];lia
 dsimp? [wA,Bp,BN,E5];refine⟨rl,eY a,rfl,vz,λu hu=> ?_⟩;rw[lS];have qh:Sm M (um M u (.lst ((dN a).map wi))):=c4 hu;have Zf:TC A.d8 A.dh s p pats M (vC hd L rl rp P) (L.map (·.b)++ [a]) L hd (um M u (.lst ((dN a).map wi))) r dr rl rp a P L:=by obtain⟨i1,i2,i3,i4,i5,i6,i7⟩:=jt;refine⟨⟨qh _ _ i1,⟨qh _ _ i2.rF,λt ht=>(i2.each t ht).keep (d9.sm qh []) (λh=>by cases h) (λ_ _ h=>by cases h),i2.nd,i2.nL,i2.rh⟩,i3.keep (d9.sm qh []) (λ_ _ h=>by cases h),i4,i5,i6,i7⟩,d9.sm qh _,λt ht x hx=> .inl (aw _ (ax.mpr (.inl (List.mem_flatMap.mpr ⟨t,ht,hx⟩)))),λx hx=> .inl (aw _ (ax.mpr (.inr hx))),λf hf=>hf,rfl,rfl⟩
 have NJ:hd∈vC hd L rl rp P:=aE;have Tn: ∃m,Ph s Z K' w' KP m a P L:=by
  refine⟨mz s Z K' (eM ((dN a).map (bM s))) (K'.toNat+1),λ_ t ht=>(ki t ht).up P0.KY P0.Rm,λc8=>⟨_,rfl, .inl ⟨?_,rfl⟩⟩⟩;have qp:s≠0 ->0<=eM ((dN a).map (bM s)):=λz=>by
   obtain⟨x,_,e⟩:=af.mp (fg (l:=(dN a).map (bM s)) (by simpa using c8)).1;rw[<- e];rcases tY (x:=x) s0 with h | h
   ·exact absurd h z
   ·exact h.1
  have h1:=P0.low qp;have h2:=P0.lowP qp;exact⟨YM.up h1 h1,bxp.up h2 h2,λt ht _=>ki t ht,λt ht _=>(ki t ht).up P0.KY P0.Rm⟩
 obtain⟨m0,Tn⟩:=Tn;refine pM um_same (O9 jt.row YM w0 (by lia)) s0 s8 ?_;dsimp? [];refine F8 (λm ρ M'=> ∃ (o5 o6:Option W) (r dr Zy Zx:Addr) (a':Pt) (P':Pq) (L':List dY),ρ= [some (wi p),some (wi s),some (wr hd),some (wr r),some (fW s a'),o5,o6] /\ TC A.d8 A.dh s p pats M (vC hd L rl rp P) (L.map (·.b)++ [a]) L hd M' r dr Zy Zx a' P' L' /\ Ph s Z K' w' KP m a' P' L') m0 ⟨none,none,r,dr,rl,rp,a,P,L,rfl,Zf,Tn⟩ ?_;rintro m ρ M' ⟨o5,o6,r1,SH,Nf,OU,a1,P1,L1,rfl,tc,ph⟩ N hN;have hE:w'+2*K'*s<=2*(w'+2*K'*s):=by lia
 have Yz:KP+s*(w'+2*K'*s+2*K') <=KP+(s+1)*(w'+2*K'*s+2*K'):=by rw[Int.add_mul,Int.one_mul];lia
 by_cases c8:dN a1= []
 ·have e1:fW s a1=wn:=ak c8;have n1:Lu wn=true:=rfl;dsimp? [e1];refine⟨rfl,?_⟩;dsimp? [n1,Bool.not_true];refine kr (k M' L1 tc.jt.held tc.kp tc.fr (λf hf=>(tc.sp f hf).trans λb hb=> ?_) tc.jt.qU (λt ht=>(ph.1 c8 t ht).up hE Yz) (by have:=tc.len;lia) (by rw[tc.key];exact λc hc=>hc));rcases ax.mp hb with hb | hb
  ·exact cX.of hb
  ·rw[ah.mp hb,GH c8];exact cX.zero
 ·obtain ⟨c,hc,ph⟩:=ph.2 c8;have e1:fW s a1=wi c:=by rw[hc];exact aj c8
  have n1:Lu (wi c)=false:=by show decide (V.int c=V.dB)=false;exact decide_eq_false (λh=>by cases h)
  have A2:=fg (l:=(dN a1).map (bM s)) (by simpa using c8);rw[<- hc] at A2;have GW:iU s c:=by obtain⟨x,_,e⟩:=af.mp A2.1;rw[<- e];exact tY s0
  have xS:s≠0 ->0<=c:=λz=>by rcases GW with h | h;(· exact absurd h z);(· exact h.1)
  have Mg:s≠0 ->c+1<=s:=λz=>by rcases GW with h | h;(· exact absurd h z);(· lia)
  have oe:=tc.jt.held.rF;have gz:=tc.jt.row;have EI:=P0.low xS;have Yh:=P0.lowP xS;have LU:=P0.top Mg;have X8:=P0.S4 Mg;dsimp? [e1];refine⟨rfl,?_⟩;dsimp? [n1,Bool.not_false,oe];rw[wN];have hs8:s*(w'+2*K'*s+2*K') <=8*(w'+18*K'):=by have h1:=bg s8 (show 0<=w'+2*K'*s+2*K' by lia);lia
  have Yu:P1.length<=100:=by have:=tc.jt.md.len gz.mK;lia
  have hsz:((kg L1).length<sizeLine)=True:=by unfold kg;rw[aa];exact a7 (qv (by have:=tc.len;lia))
  have WH:a1≠ []:=λe=>c8 (by rw[e];rfl);cases hf:L1.find? (λt=>decide (t.c=c)) with
  | none=>
   have NK:=oR hf;obtain⟨Jh,hm⟩:Rf s Z K' w' KP c a1 P1 L1 /\ m=mz s Z K' c (K'.toNat+1):=by
    rcases ph with h | ⟨t,d,h,_⟩
    ·exact h
    ·exact absurd (af.mpr ⟨t,h.mem,h.at_⟩) NK
   have Ht:=tc.jt.ins;have SX:=Jh.bp.wt gz.mK (aV _) (aV _);dsimp? [Option.map_none,Option.isSome_none,Bool.not_false];refine⟨r1,SH,Nf,OU,p,s,a1,P1,(2*eP s K' w' KP c+1).toNat,Z+8*(eA s K' w' c+1),rfl,Ht,hp,s0,s8,gz,WH,Jh.bx.wt s0 s8 z0 (aV _) (aV _) (by lia),by lia,by lia,λt ht=>(SX t ht).len (gz.gp t ht) (by lia),by lia,by lia,λM3 o ds ol op b Q f mm tt foot tn ho gV lr mn Oo MZ Jy eb eq BL Hx T6 LQ=> ?_⟩;obtain rfl:f=c:=gT.uniq mn.mn A2;have Mf:=BL _ _ oe;dsimp? [Mf,hsz];obtain⟨g1,g2,g3,g4,g5⟩:=tc.new (t':=⟨f,o,ds,ol,op,tt - mm,foot,b,Q⟩) hp NJ NK BL ho gV lr Oo MZ eb eq Hx LQ (GA rfl NK);refine kr (k _ _ g1 g2 g3 g4 g5 (λu hu=> ?_) (by rw[aL,cY,tc.len];exact aq _) (λc hc=>by rw[aN];exact ax.mpr (.inl (by rw[tc.key];exact hc))));rcases ax.mp hu with hu | hu
   ·rcases Int.lt_or_le u.c f with q | q
    ·exact(Jh.lt u hu q).up hE Yz
    ·exact(Jh.ge u hu q).up (by have:=P0.KY;lia) (by have:=P0.Rm;lia)
   ·rw[ah.mp hu];have b1:=EE Jh.bx gz.ga mn.lo;have b2:=EE Jh.bx gz.ga mn.hi;exact⟨(Jh.bx.stood eb λz=>Jx mn.lo z).up (by lia) (by lia),by show tt - mm<=_;lia,(Jh.bp.stood (s:=s) eq).up (by lia) (by lia)⟩
  | some t=>
   obtain⟨n8,xQ⟩:=kF hf;have st:=tc.jt.held.each t n8;have stI:=st.ins;have l0:=st.lr.l0;have lr:=st.lr;rw[xQ] at lr;obtain⟨tK,Ws,Wr,bpr,Wy,n9,eX,hmm⟩:t.len<=K' /\ jm s Z (eA s K' w' c+2*K') (eA s K' w' c+2*K') a1 /\ jm s Z (eA s K' w' c+2*K' - t.len) (eA s K' w' c+2*K' - t.len) t.b /\ ny s (eP s K' w' KP c+(w'+2*K'*s)+2*K') (eP s K' w' KP c+(w'+2*K'*s)+2*K') P1 /\ ny s (eP s K' w' KP c+(w'+2*K'*s)+2*K' - t.len) (eP s K' w' KP c+(w'+2*K'*s)+2*K' - t.len) t.Q /\ (∀u∈L1,c<u.c ->om s Z K' KP u) /\ (∀u∈L1,u.c<c ->om s Z (w'+2*K'*s) (KP+s*(w'+2*K'*s+2*K')) u) /\ ∃q:Nat,m=mz s Z K' c q /\ t.len.toNat<=q:=by
    rcases ph with⟨h,e⟩ | ⟨t2,d,h,e⟩
    ·have f:=h.ge t n8 (by lia);have:=f.len;exact⟨this,h.bx.up (by lia) (by lia),f.bx.up (by lia) (by lia),h.bp.up (by lia) (by lia),f.bp.up (by lia) (by lia),λu hu q=>h.ge u hu (by lia),h.lt,_,e,by lia⟩
    ·obtain rfl:t2=t:=fV tc.jt.held.nd h.mem n8 (h.at_.trans xQ.symm);have h1:=h.shr;have h2:=h.dk;exact⟨by lia,h.bx.up (by lia) (by lia),h.bt.up (by lia) (by lia),h.bp.up (by lia) (by lia),h.bq.up (by lia) (by lia),h.gt,h.lt,_,e,aq _⟩
   obtain⟨q0,hm,hq0⟩:=hmm;have SX:=bpr.wt gz.mK (aV _) (aV _);have SV:=Wy.wt st.row.mK (show _<=eP s K' w' KP c+(w'+2*K'*s)+2*K' by lia) (by lia);have Yt:t.Q.length<=100:=by have:=(tc.jt.qU t n8).len st.row.mK;lia
   dsimp? [Option.map_some,Option.isSome_some,Bool.not_true];have hv:d5 (kg L1) (.inl c)=some (wr t.o):=by rw[wN,hf];rfl
   dsimp? [oe,hv];have wa:=Ws.wt s0 s8 z0 (aV _) (aV _) (by lia);have Rw:=Wr.wt s0 s8 z0 (show _<=eA s K' w' c+2*K' by lia) (show _<=eA s K' w' c+2*K' by lia) (by lia);refine⟨r1,Nf,OU,t.o,t.ds,t.ol,t.op,p,s,t.c,t.len,t.foot,a1,t.b,P1,t.Q,eP s K' w' KP c+(w'+2*K'*s)+2*K',eP s K' w' KP c+(w'+2*K'*s)+2*K',Z+8*(eA s K' w' c+2*K'+1),Z+8*(eA s K' w' c+2*K'+1),rfl, .inl ⟨_,tc.jt.ins⟩,stI,hp,s0,s8,by lia,st.lr,gz,st.row,λx hx=>tc.jt.nL t n8 x hx,wa,Rw,by lia,by lia,by lia,by lia,SX,SV,by lia,by lia,by lia,by lia,by lia,λM2 c1 P2 js ke ec ep ej Bd rC ew Hb Hy KS Qx EJ BQ NC=> ?_⟩;rw[xQ] at Bd rC;obtain⟨ms,mL,JB,BQ,JK⟩:=BQ;rw[xQ] at mL;have uk:=tc.cut n8 ke ec ep Hb Hy EJ;obtain⟨la,lp,d,NA,UL⟩: ∃la lp,yl s Z K' w' KP c c1 P2 t la lp /\ la<=eA s K' w' c+2*K' - t.len /\ lp<=eP s K' w' KP c+(w'+2*K'*s)+2*K' - t.len:=by
    rcases ph with⟨h,e⟩ | ⟨t2,d,h,e⟩
    ·exact⟨_,_,h.cut P0 xS Mg n8 xQ l0 gz.ga mL JB JK ej ec ep Bd,by lia,by lia⟩
    ·obtain rfl:t2=t:=fV tc.jt.held.nd h.mem n8 (h.at_.trans xQ.symm);exact⟨_,_,h.cut P0 l0 gz.ga mL JB JK ej ec ep Bd,aV _,aV _⟩
   have zC: ∀u∈L1,u.c=c ->om s Z (w'+2*K'*s) (KP+s*(w'+2*K'*s+2*K')) u:=λu hu e=>by obtain rfl:u=t:=fV tc.jt.held.nd hu n8 (e.trans xQ.symm);exact⟨Wr.up (by lia) (by lia),by lia,Wy.up (by lia) (by lia)⟩
   have ge2: ∀x∈dN c1,c<=bM s x:=λx hx=>by have h1:=dM ke.ga hx;refine au λhn=> ?_;rw[rC x (by lia)] at h1;have:=A2.2 _ (af.mpr ⟨x,cJ (show look a1 x≠0 by lia),rfl⟩);lia
   have Hg:=uk.jt.ins;have Qr:=ke.lam;have hd2:=uk.jt.held.rF;dsimp? [Hg,Bp,BN,E5];refine⟨Nf,eY c1,rfl,Qr,λu hu=> ?_⟩;rw[lS];refine pM um_same (O9 ke (d.bx.up (show la<=eA s K' w' c+2*K' by lia) (show la<=eA s K' w' c+2*K' by lia)) (by lia) (by lia)) s0 s8 ?_;have FL:=uk.sm (c4 (o:= .lst ((dN c1).map wi)) hu);have qj:=FL.jt.row;have TY:0<m:=by
    rw[hm];unfold mz;have h1:0<qk s Z c:=by
     unfold qk;by_cases z:s=0
     ·obtain⟨x,hx,e⟩:=af.mp A2.1;have h2:=Ws.2 z x (by have:=dM gz.ga hx;lia);have h3:bM s x=x:=by unfold bM;rw[ak z]
      rw[ak z];lia
     ·have:=Mg z;rw[aj z];lia
    have:=Nat.mul_pos h1 (show 0<K'.toNat+2 by lia);lia
   generalize um M2 u (.lst ((dN c1).map wi))=M3 at FL qj ⊢;have R':=FL.jt.ins;have Mf:=FL.jt.held.rF;by_cases A1:dN c1= []
   ·have e2:fW s c1=wn:=ak A1;dsimp? [e2];refine⟨V.dB,V.int c,rfl,rfl,rfl,?_⟩;have e3:decide (V.dB=V.int c)=false:=decide_eq_false (λh=>by cases h);dsimp? [e3];exact hN 0 _ _ TY ⟨_,_,r1,SH,Nf,OU,c1,P2,L1,by rw[e2],FL,λ_=>HN P0 n9 eX zC,λh=>absurd A1 h⟩
   ·have e2:fW s c1=wi (eM ((dN c1).map (bM s))):=aj A1;have EH:=fg (l:=(dN c1).map (bM s)) (by simpa using A1);obtain⟨c2,NL⟩: ∃c2,c2=eM ((dN c1).map (bM s)):=⟨_,rfl⟩
    rw[<- NL] at e2 EH;have hle:c<=c2:=by obtain⟨x,hx,e⟩:=af.mp EH.1;rw[<- e];exact ge2 x hx
    dsimp? [e2];refine dG (λe3=> ?_) λe3=> ?_
    ·have Wq:c1≠ []:=λe=>A1 (by rw[e];rfl);have SW:=d.bp.wt qj.mK (show lp<=eP s K' w' KP c+(w'+2*K'*s)+2*K' by lia) (show lp<=eP s K' w' KP c+(w'+2*K'*s)+2*K' by lia);have aao:P2.length<=100:=by have:=FL.jt.md.len qj.mK;lia
     dsimp? [];refine⟨r1,SH,Nf,OU,p,s,c1,P2,(2*(eP s K' w' KP c+(w'+2*K'*s)+2*K')+1).toNat,Z+8*(eA s K' w' c+2*K'+1),rfl,R',hp,s0,s8,qj,Wq,d.bx.wt s0 s8 z0 (show la<=eA s K' w' c+2*K' by lia) (by lia) (by lia),by lia,by lia,λt ht=>(SW t ht).len (qj.gp t ht) (by lia),by lia,by lia,λM4 o ds ol op b Q f mm tt foot tn ho gV OG mn Oo MZ Jy eb eq OO Mz T6 LQ=> ?_⟩;obtain rfl:f=c:=(gT.uniq mn.mn EH).trans e3;have hd4:=OO _ _ Mf;dsimp? [hd4,hsz];rw[Gz (t:=⟨f,o,ds,ol,op,tt - mm,foot,b,Q⟩) (af.mpr ⟨t,n8,xQ⟩)];have nB:=(FL.jt.held.each t n8).ins;have ZI:t.o≠hd:=λe=>by rw[e,Mf] at nB;cases nB
     have fq:=OO _ _ nB;rw[sj];dsimp? [aJ ZI,fq,F2,TX,TV,V8,V7];intro r' dx kO NG U8;refine⟨r',dx,wr t.ol,wr t.op,rfl,um_same,rfl,?_⟩;rw[um_um];have Ze:=FL.turn (t:=t) (t':=⟨f,o,ds,ol,op,tt - mm,foot,b,Q⟩) (r':=r') (dx:=dx) hp NJ n8 xQ.symm OO ho gV OG Oo MZ eb eq Mz LQ rfl kO;dsimp? [];have U3:=MD (s:=s) (p:=p) lr (by lia) (FL.jt.held.each t n8).row.ga;have A3:(⟨f,o,ds,ol,op,tt - mm,foot,b,Q⟩:dY)∈gh L1 ⟨f,o,ds,ol,op,tt - mm,foot,b,Q⟩:=lA (af.mpr ⟨t,n8,xQ⟩);have XD:=d.turn (L:=L1) (t':=⟨f,o,ds,ol,op,tt - mm,foot,b,Q⟩) NA UL tK mn qj.ga rfl rfl lr (λz=>Jx mn.lo z) Wr Wy eb eq n9 eX A3;refine hN (mz s Z K' f (tt - mm).toNat) _ _ ?_ ⟨_,_,r',dx,t.ol,t.op,t.b,t.Q,gh L1 ⟨f,o,ds,ol,op,tt - mm,foot,b,Q⟩,by rw[U3.1,e3],Ze,λh=>absurd h U3.2.1,λ_=>⟨f,U3.2.2, .inr ⟨_,_,XD,rfl⟩⟩⟩;rw[hm];have h1:tt - mm<t.len:=XD.shr;have h2:=OG.l0;unfold mz;lia
    ·dsimp? [];have vw:c<c2:=by lia
     refine hN (mz s Z K' c2 (K'.toNat+1)) _ _ ?_ ⟨_,_,r1,SH,Nf,OU,c1,P2,L1,by rw[e2],FL,λh=>absurd h A1,λ_=>⟨c2,NL, .inl ⟨d.on P0 (by lia) (by lia) vw n9 eX zC,rfl⟩⟩⟩;rw[hm];refine Py (Gw vw Mg λz=> ?_) (aq _);obtain⟨x,hx,e⟩:=af.mp A2.1;have h2:=Ws.2 z x (by have:=dM gz.ga hx;lia);have h3:bM s x=x:=by unfold bM;rw[ak z]
     lia
end
end f7
open PySem L2 WL WP WQ EN PyProof.Rows
namespace f7
open PySem L2 WL WP WQ EN PyProof.Rows
section
variable {P:Program}{w:World}{K:PySem.W.Frag}{mg:Str ->Option Value}{base:Heap}{A:Am}
theorem xq (T:Txt K mg A):dI P w K mg base iV 4 A.rn A.rH ["p","stride","held"] (ly K (GR A.d8 A.dh)):=by
 have FD:=DV (P:=P) (w:=w) (base:=base) T;refine nX T.lie_low.fn oT (by rintro vs M q ⟨hd,p,s,Z,E',EP,Λ,pats,L,rfl,_⟩;rfl) λdQ A' outer s H E hr=> ?_;have nd:=oT.nd;refine⟨_,(aI (bX (i:=3) nd rfl (by first | exact Or.inl rfl | exact Or.inr rfl) (cA (eU rfl) (by rfl) T.gQ Boot.«sorted» (ab (pv 2) aC))) (aR (fT cw rfl (AA (by rfl) T.iw (ab (bQ iC (cA fB (by rfl) T.nR Boot.«len» (ab (pv 3) aC)) aK) (ab (lJ iX aK) (ab (lJ iX aK) aC)))) (cj (i:=4) nd rfl (by first | exact Or.inl rfl | exact Or.inr rfl)) (aR (fT cw rfl (eB (uZ yN (pv 3) (yZ (bQ dU (pv 4) aK)) y3)) (cj (i:=5) nd rfl (by first | exact Or.inl rfl | exact Or.inr rfl)) (aR (fi (aY T.cut FD (hr.mono (by decide)) (by rfl) (ab (pv 0) (ab (pv 1) (ab (eC (eD hr) (pv 2) (c5 cK (pv 3) (pv 4) (λ_ _=>rfl)) (λ_ _=>rfl)) (ab (eC (eD hr) (pv 2) (pv 5) (λ_ _=>rfl)) aC)))))))))))),?_⟩;try dsimp only[eQ]
 refine⟨_,inferInstance,?_⟩;rintro vs M q ⟨hd,p,s,Z,E',EP,Λ,pats,L,rfl,hp,s0,s8,ff,qU,ki,z0,e0,ep0,Qh,hL,hΛ,Wo,Wn,k⟩;have oe:=ff.rF;dsimp? [oe];refine⟨hd,kg L,L.map (·.c),rfl,oe,by unfold kg;rw[aD,aD];rfl,big (by rw[aa];lia),λu cs hu c6 gv=> ?_⟩;have og:cs.length=L.length:=by rw[c6.length_eq,aa]
 have eX:=qG gv (c6.nodup_iff.mpr ff.nd);have qh:Sm M (um M u (.lst (cs.map wi))):=c4 hu;have ZV:LL A.dh s p pats M L hd (um M u (.lst (cs.map wi))) L:=(LL.init ff qU).sm qh;have Hq: ∀c,0<=fI L c:=λc=>by
  unfold fI;cases e:L.find? (λt=>decide (t.c=c)) with
  | none=>exact aV _
  | some t=>exact((ff.each t (kF e).1).lr).l0
 have Ho: ∀l:List Int, ∀x∈l.map (fI L),0<=x:=λl x hx=>by obtain⟨c,_,rfl⟩:=af.mp hx;exact Hq c
 have aab:iY (cs.map (fI L)) <=Λ:=by rw[uK (c6.map (fI L)),Ee ff.nd];exact hΛ
 have hΛ0:0<=Λ:=by have:=lz (Ho cs) 0;lia
 have YJ:0<=E'+Λ:=by lia
 have Rj: ∀i:Nat,i<=13 ->0<=(i:Int)*(E'+Λ) /\ (i:Int)*(E'+Λ) <=13*(E'+Λ):=λi hi=>⟨Int.mul_nonneg (by lia) YJ,bg (by lia) YJ⟩
 have Rh: ∀i:Nat,((i+1:Nat):Int)*(E'+Λ)=i*(E'+Λ)+(E'+Λ):=λi=>by push_cast;rw[Int.add_mul,Int.one_mul]
 have pL: ∀ {c:Int},c∈cs ->c∈L.map (·.c):=λh=>c6.mem_iff.mp h;have EL: ∀ {c:Int},c∈L.map (·.c) -> ∃j,cs[j]? =some c:=λh=>bA.mp (c6.mem_iff.mpr h);dsimp? [um_same,aa,jRng3_e];refine⟨(cs.length:Int) - 1, -1, -1,rfl,⟨by decide,by decide,by lia,by decide⟩,?_⟩;rw[uT];refine iO (λi ρ M'=> ∃ (o4 o5:Option W) (L':List dY),ρ= [some (wi p),some (wi s),some (wr hd),some (wr u),o4,o5] /\ M' u=some (.lst (cs.map wi)) /\ LL A.dh s p pats M L hd M' L' /\(∀t∈L', ∀j:Nat,cs[j]? =some t.c ->(j+i<cs.length ->om s Z E' EP t) /\ (cs.length<=j+i ->jm s Z (E'+i*(E'+Λ)) (E'+i*(E'+Λ)) t.b /\ ny s (EP+i*(E'+Λ)) (EP+i*(E'+Λ)) t.Q /\ ∀v∈L',t.c<v.c ->p8 s v.c v.len t.b))) ⟨none,none,L,rfl,um_same,ZV,λt ht j hj=>⟨λ_=>ki t ht,λh=>by have:=(ag.mp hj).1;lia⟩⟩ (λ_ _ _ _ _=>trivial) ?_ ?_
 ·rintro i x ρ M' hx ⟨o4,o5,L',rfl,Hw,ll,JT⟩ N hN;obtain⟨hi,rfl⟩:=step_at hx;obtain⟨j0,FW⟩: ∃j0:Nat,(j0:Int)=(cs.length:Int) - 1+(i:Int)* -1:=⟨cs.length - 1 - i,by lia⟩
  rw[<- FW];have hj1:j0+i+1=cs.length:=by lia
  obtain⟨c0,xS⟩: ∃c0,cs[j0]? =some c0:=⟨_,ae (by lia)⟩
  have Wd:yc (cs.map wi) (some ((j0:Int)+1)) none=(cs.drop (j0+1)).map wi:=by rw[show(j0:Int)+1=((j0+1:Nat):Int) by push_cast;rfl,Fg,List.map_drop]
  obtain⟨u0,X6,Qa⟩:=ll.get (pL (ai xS));have MC:=(JT u0 X6 j0 (by rw[Qa];exact xS)).1 (by lia);have Ni:=Rj i (by lia);have Ni1:=Rh i;dsimp? [Hw];intro v hv;rw[Wd];dsimp? [];have Tz:u≠v:=dw Hw hv;have IQ:Sm M' (um M' v (.lst ((cs.drop (j0+1)).map wi))):=c4 hv;refine iO (λk ρ M2=> ∃ (o5:Option W) (L1:List dY) (uu:dY),ρ= [some (wi p),some (wi s),some (wr hd),some (wr u),some (wi j0),o5] /\ M2 u=some (.lst (cs.map wi)) /\ M2 v=some (.lst ((cs.drop (j0+1)).map wi)) /\ LL A.dh s p pats M L hd M2 L1 /\ uu∈L1 /\ uu.c=c0 /\ (∀t∈L1,t.c≠c0 ->t∈L') /\ (∀t∈L',t.c≠c0 ->t∈L1) /\(∀ (q:Nat) d,q<k ->(cs.drop (j0+1))[q]? =some d ->p8 s d (fI L d) uu.b) /\ (∀ (q:Nat) d,k<=q ->(cs.drop (j0+1))[q]? =some d ->Ia s d (E'+iY (((cs.drop (j0+1)).take k).map (fI L))+fI L d) uu.b) /\jm s Z (E'+i*(E'+Λ)+(E'+Λ)) (E'+i*(E'+Λ)+(E'+Λ)) uu.b /\ ny s (EP+i*(E'+Λ)+(E'+Λ)) (EP+i*(E'+Λ)+(E'+Λ)) uu.Q) ⟨_,L',u0,rfl,by rw[aJ Tz];exact Hw,um_same,ll.sm IQ,X6,Qa,λt ht _=>ht,λt ht _=>ht,λq d h=>absurd h (Nat.not_lt_zero q),λq d _ kh x hx c8=> ?_,MC.bx.up (by lia) (by lia),MC.bp.up (by lia) (by lia)⟩ ?_ ?_ ?_
  ·have h1:=MC.bx.1 x c8;have h2:=Hq d;show -(E'+0+fI L d) <=_ /\ _<=E'+0+fI L d;lia
  ·rintro k ρ M2 _ ⟨o5,L1,uu,rfl,h1,h2,_⟩;exact h2
  ·rintro k x ρ M2 hx ⟨o5,L1,uu,rfl,h1,h2,wz,Jw,Nw,Nx,JN,EI,qp,Mh,So⟩ N2 Vg;obtain⟨d,QE,rfl⟩:=pJ hx;have NI:cs[j0+1+k]? =some d:=by rw[List.getElem?_drop] at QE;exact QE
   have aal:=(ag.mp NI).1;have A7:c0<d:=gB eX xS NI (by lia);obtain⟨t,n8,xQ⟩:=wz.get (pL (ai NI));have Up:=Nx t n8 (by lia);have Qb:=(JT t Up (j0+1+k) (by rw[xQ];exact NI)).2 (by lia);have su:=wz.held.each uu Jw;have st:=wz.held.each t n8;have Sn:=wz.held.rF;have Vd:kj (cs.map wi) (j0:Int)=some (wi c0):=gg (by rw[aA,xS];rfl);have P9:d5 (kg L1) (.inl c0)=some (wr uu.o):=by rw[<- Nw];exact wM wz.held.nd Jw
   have P8:d5 (kg L1) (.inl d)=some (wr t.o):=by rw[<- xQ];exact wM wz.held.nd n8
   have Za:t.len=fI L d:=by rw[<- xQ];exact wz.fI ff.nd n8
   have hS:=lz (Ho (cs.drop (j0+1))) (k+1);have Yr:iY (((cs.drop (j0+1)).take (k+1)).map (fI L))=iY (((cs.drop (j0+1)).take k).map (fI L))+fI L d:=by rw[bD,QE];show iY (((cs.drop (j0+1)).take k++ [d]).map (fI L))=_;rw[aN];exact CP _ _
   have Ys:=lz (Ho (cs.drop (j0+1))) k;rw[<- List.map_take] at hS Ys;have hSd:iY ((cs.drop (j0+1)).map (fI L)) <=Λ:=by have:=CQ (Ho cs) (j0+1);rw[<- List.map_drop] at this;lia
   have aaj:=Hq d;generalize hSS:iY (((cs.drop (j0+1)).take k).map (fI L))=Sk at Yr Ys qp;have hQ1:uu.Q.length<=100:=by have:=(wz.qU uu Jw).len su.row.mK;lia
   have hQ2:t.Q.length<=100:=by have:=(wz.qU t n8).len st.row.mK;lia
   dsimp? [h1,Vd,Sn,P9,P8];refine⟨uu.o,uu.ol,uu.op,t.o,t.ds,t.ol,t.op,p,s,t.c,t.len,t.foot,uu.b,t.b,uu.Q,t.Q,EP+i*(E'+Λ)+(E'+Λ),EP+i*(E'+Λ)+(E'+Λ),Z+8*(E'+i*(E'+Λ)+(E'+Λ)+1),Z+8*(E'+i*(E'+Λ)+(E'+Λ)+1),rfl, .inr ⟨_,_,_,_,su.ins⟩,st.ins,hp,s0,s8,by lia,st.lr,su.row,st.row,tT wz.held Jw n8 (by lia),Mh.wt s0 s8 z0 (aV _) (aV _) (by lia),Qb.1.wt s0 s8 z0 (by lia) (by lia) (by lia),by lia,by lia,by lia,by lia,So.wt su.row.mK (aV _) (aV _),Qb.2.1.wt st.row.mK (by lia) (by lia),by lia,by lia,by lia,by lia,by lia,λM3 c1 P2 js ke ec ep ej Bd rC ew Hb Hy KS Qx EJ BQ NC=> ?_⟩;obtain⟨ms,mL,JB,BQ,JK⟩:=BQ;have ZU:=wz.cut Jw n8 (by lia) ke ec ep rC Hb Hy EJ;rw[xQ] at Bd rC mL;have QJ:=qp k d (aq _) QE;have hj:=wY (f:=d) (bl:= -(E'+Sk+fI L d)) (bh:=E'+Sk+fI L d) st.lr.l0 JB (mL.nodup_iff.mpr (jY su.row.ga.1 s0)) (λm hm=>by obtain⟨x,hx,e1⟩:=af.mp (mL.mem_iff.mp hm);have:=QJ x (by simpa using(aP.mp hx).2) (by have:=dM su.row.ga (aP.mp hx).1;lia);lia) JK;have FU: ∀j∈js, -(E'+Sk+fI L d) <=j.1 /\ j.1<=E'+Sk:=λj gX=>by have:=hj j gX;lia
   have nl: ∀ {y:Addr} {l:List W},M2 y=some (.lst l) ->M3 y=some (.lst l):=λe=>Hb _ _ e λhx=>by obtain⟨kvs,e2⟩:=su.row.mem hx;rw[e] at e2;cases e2
   have gU:uu.c∈L1.map (·.c):=af.mpr ⟨uu,Jw,rfl⟩;refine Vg _ _ ⟨_,gh L1 (uu.BV c1 P2),uu.BV c1 P2,rfl,nl h1,nl h2,ZU,lA gU,Nw,λt' lY ne=> ?_,λt' lY ne=>jP (JN t' lY ne) (λz=>ne (z.trans Nw)),λq d' hq kh x hx c8=> ?_,λq d' hq kh=> ?_,Mh.cut Qb.1 ec FU ej (by lia) (by lia) (by lia) (by lia),So.cut Qb.2.1 ep FU (by lia) (by lia) (by lia) (by lia)⟩
   ·rcases dW lY with e | ⟨e,_⟩
    ·exact absurd (by rw[e];exact Nw) ne
    ·exact Nx t' e ne
   ·rcases Nat.lt_or_ge q k with z | z
    ·have h3:d'<d:=gB eX (by rw[List.getElem?_drop] at kh;exact kh) NI (by lia);have Qm:look c1 x≠0:=c8;rw[rC x (by lia)] at Qm;exact EI q d' z kh x hx Qm
    ·have:q=k:=by lia
     subst this;rw[QE] at kh;cases kh;rw[<- Za];exact Bd x hx c8
   ·have QG:cs[j0+1+q]? =some d':=by rw[List.getElem?_drop] at kh;exact kh
    have h3:d<d':=gB eX NI QG (by lia);obtain⟨v',tM,X4⟩:=ll.get (pL (ai QG));have h4:=Qb.2.2 v' tM (by lia);rw[X4,show v'.len=fI L d' by rw[<- X4];exact ll.fI ff.nd tM] at h4;have:=Hq d';rw[Yr];exact(qp q d' (by lia) kh).cut h4 ec FU ej (by lia) (by lia) (by lia)
  ·rintro ρ M2 ⟨o5,L1,uu,rfl,h1,h2,wz,Jw,Nw,Nx,JN,EI,_,Mh,So⟩;rw[aa] at EI;refine hN _ _ ⟨_,_,L1,rfl,h1,wz,λt ht j hj=>⟨λh=> ?_,λh=> ?_⟩⟩
   ·have ne:t.c≠c0:=λe=>by rw[e] at hj;have:=gB eX hj xS (by lia);lia
    exact(JT t (Nx t ht ne) j hj).1 (by lia)
   ·rw[Ni1];by_cases e:t.c=c0
    ·have:t=uu:=fV wz.held.nd ht Jw (e.trans Nw.symm);subst this;refine⟨Mh.up (by lia) (by lia),So.up (by lia) (by lia),λv' tM Qo=> ?_⟩;obtain⟨j',gX⟩:=EL (show v'.c∈L.map (·.c) by rw[<- wz.key];exact af.mpr ⟨v',tM,rfl⟩);have h4:=AZ eX xS gX (by lia);have h5:=(ag.mp gX).1;rw[wz.fI ff.nd tM];exact EI (j' - (j0+1)) v'.c (by rw[List.length_drop];lia) (by rw[List.getElem?_drop,show j0+1+(j' - (j0+1))=j' by lia];exact gX)
    ·have FU:j≠j0:=λz=>e (by rw[z,xS] at hj;cases hj;rfl);have h4:=(JT t (Nx t ht e) j hj).2 (by lia);refine⟨h4.1.up (by lia) (by lia),h4.2.1.up (by lia) (by lia),λv' tM Qo=> ?_⟩;have n9:=gB eX xS hj (by lia);exact h4.2.2 v' (Nx v' tM (by lia)) Qo
 ·rintro ρ M' ⟨o4,o5,L',rfl,Hw,ll,JT⟩;rw[uG,show((cs.length:Int) - 1 - -1).toNat=cs.length by lia] at JT;refine kr (k M' L' ll (λt ht v hv h=> ?_) λt ht=> ?_)
  ·obtain⟨j,hj⟩:=EL (show t.c∈L.map (·.c) by rw[<- ll.key];exact af.mpr ⟨t,ht,rfl⟩);exact((JT t ht j hj).2 (by lia)).2.2 v hv h
  ·obtain⟨j,hj⟩:=EL (show t.c∈L.map (·.c) by rw[<- ll.key];exact af.mpr ⟨t,ht,rfl⟩);have:=(JT t ht j hj).2 (by lia);rw[og] at this;exact⟨this.1,this.2.1⟩
end
end f7
open PySem L2 WL WP WQ EN PyProof.Rows
namespace f7
open PySem L2 WL WP WQ EN PyProof.Rows
section
variable {P:Program}{w:World}{K:PySem.W.Frag}{mg:Str ->Option Value}{base:Heap}{A:Am}
theorem DW (T:Txt K mg A):dI P w K mg base iV 6 A.zJ A.zY ["p","stride","patterns"] (ly K Li):=by
 have BB:=xp (P:=P) (w:=w) (base:=base) T;have BC:=xq (P:=P) (w:=w) (base:=base) T;have wj:=xu (P:=P) (w:=w) (base:=base) T;have MU:=GX (P:=P) (w:=w) (base:=base) T;have ue:=qo (P:=P) (w:=w) (base:=base) T;have F2:=a7 T.Stair.cl;have TX:=a7 T.dE;have TV:=a7 T.dD;refine nX T.built.fn uP (by rintro vs M q ⟨u,p,s,Z,w',pats,rfl,_⟩;rfl) λdQ A' outer s H E hr=> ?_;have nd:=uP.nd;refine⟨_,(aI (bX (i:=3) nd rfl (by first | exact Or.inl rfl | exact Or.inr rfl) iK) (aI (fT cw rfl (Dv rfl (by rfl) T.vY (ab (pv 2) aC)) (mW (n:=2) rfl (d7 (cj (i:=4) nd rfl (by first | exact Or.inl rfl | exact Or.inr rfl)) (d7 (cj (i:=5) nd rfl (by first | exact Or.inl rfl | exact Or.inr rfl)) jQ))) (aI (fi (aY T.take_in BB (hr.mono (by decide)) (by rfl) (ab (pv 0) (ab (pv 1) (ab (pv 3) (ab (lK T.Row wj (hr.mono (by decide)) (by rfl) (ab (dj (kW rfl) (by rfl) T.MM Boot.«dict» (ab (pv 5) aC)) (ab (u4 (pv 4) (u4 aK aK)) aC))) aC)))))) (aR (fi (aY T.lie_low BC (hr.mono (by decide)) (by rfl) (ab (pv 0) (ab (pv 1) (ab (pv 3) aC)))))))) (aI (bX (i:=6) nd rfl (by first | exact Or.inl rfl | exact Or.inr rfl) (cA (eU rfl) (by rfl) T.gQ Boot.«sorted» (ab (pv 3) aC))) (aI (bX (i:=7) nd rfl (by first | exact Or.inl rfl | exact Or.inr rfl) (dj jK (by rfl) T.jd Boot.«tuple» (ab (f' rfl (d4.of (sc:=aQ lF) (N:= ["p","stride","patterns","held","which","pattern","firsts","stairs"]) (own:= ["first"]) (fr:= [0,3]) (N':= ["first","p","held"]) rfl rfl rfl (by decide+kernel) rfl (by decide+kernel) (by decide+kernel) (by decide+kernel) (by decide+kernel) (by decide+kernel)) (eB (pv 6)) (λ_ _ _ _=>(cj (i:=0) (by show(["first","p","held"]:List Str).Nodup;decide+kernel) rfl (by first | exact Or.inl rfl | exact Or.inr rfl))) eT (λ_ _ _ _=>hU) (λ_ _ _ _=>(aY T.tidy MU (hr.mono (by decide)) (by rfl) (ab (pv 1) (ab (AB (by rfl) T.fM rfl (zc (K:=K) rfl (eC (eD hr) (pv 2) (pv 0) (λ_ _=>rfl)) rfl)) aC))))) aC))) (aR (cQ (gK (ab (pv 7) (ab (f' rfl (d4.of (sc:=aQ lF) (N:= ["p","stride","patterns","held","which","pattern","firsts","stairs"]) (own:= ["first"]) (fr:= [0,3]) (N':= ["first","p","held"]) rfl rfl rfl (by decide+kernel) rfl (by decide+kernel) (by decide+kernel) (by decide+kernel) (by decide+kernel) (by decide+kernel)) (eB (pv 6)) (λ_ _ _ _=>(cj (i:=0) (by show(["first","p","held"]:List Str).Nodup;decide+kernel) rfl (by first | exact Or.inl rfl | exact Or.inr rfl))) eT (λ_ _ _ _=>hU) (λ_ _ _ _=>(aY T.told_parts ue (hr.mono (by decide)) (by rfl) (ab (pv 1) (ab (zc (K:=K) rfl (eC (eD hr) (pv 2) (pv 0) (λ_ _=>rfl)) rfl) (ab aK aC)))))) aC))))))))),?_⟩;try dsimp only[eQ]
 refine⟨_,inferInstance,?_⟩;rintro vs M q ⟨u,p,s,Z,w',pats,rfl,hu,PP,k⟩;have hp:=PP.hp;have p0:0<p:=by lia
 have s0:=PP.s0;have s8:=PP.s8;have hp8:=PP.len;have Z5:=PP.Xi;have Nr:=PP.z1;have xP:=PP.z0;dsimp? [];intro hd Sl;have ZH:u≠hd:=dw hu Sl;dsimp? [aJ ZH,hu,Es];rw[show MO.dK []=MO.dK (kg []) from rfl];refine iO (λi ρ M'=> ∃ (o4 o5:Option W) (L:List dY) (bs:List Pt),ρ= [some (wi p),some (wi s),some (wr u),some (wr hd),o4,o5,none,none] /\ SS A.dh s p Z w' pats i M' hd L bs /\ Sm M M' /\ ∀t∈L, ∀x∈t.adr,M x=none) ⟨none,none,[],[],rfl,⟨⟨um_same,(λt h=>by cases h),List.nodup_nil,List.Pairwise.nil,(λt h=>by cases h)⟩,(λt h=>by cases h),(λt h=>by cases h),(λt h=>by cases h),⟨rfl,λ_ J _ i hi=>absurd hi (Nat.not_lt_zero i),(λt h=>by cases h)⟩,(λ_ t h=>by cases h),(λt h=>by cases h),(λt h=>by cases h),aq _⟩,c4 Sl,(λt h=>by cases h)⟩ ?_ ?_ ?_
 ·rintro i ρ M' _ ⟨o4,o5,L,bs,rfl,_,sm,_⟩;exact sm _ _ hu
 ·rintro i x ρ M' hx ⟨o4,o5,L,bs,rfl,B,sm,V3⟩ N hN;obtain⟨y,hy,rfl⟩:=HC hx;obtain⟨st,jZ,rfl⟩:=kM hy;obtain⟨Uw,Mh⟩:=PP.pat st (ai jZ);have Vm:=mX Uw;have FX:=(ag.mp jZ).1;have hsl:=(Mh.wt s0 s8 xP (aV _) (aV _) (by lia)).len Vm (by lia);have oe:=B.held.rF;dsimp? [];rw[sj];dsimp? [];refine⟨Lb st,by rw[GP],by rw[Lb,aa];lia,λe1 QD=> ?_⟩;rw[HD st Vm.1];dsimp? [Cd];intro q1 Uv q2 Sa;have BO:e1≠q1:=dw um_same Uv;have RQ:e1≠q2:=dw (by rw[aJ BO];exact um_same) Sa;have Pw:q1≠q2:=dw um_same Sa;have f1:M' q1=none:=by rw[aJ (a5 BO)] at Uv;exact Uv
  have f2:M' q2=none:=by rw[aJ (a5 Pw),aJ (a5 RQ)] at Sa;exact Sa
  refine⟨.inl 0,rfl,by rw[aJ Pw];exact um_same, .inl i,rfl,?_⟩;intro x dx gk NG U6;have Px:e1≠x:=dw (by rw[aJ BO,aJ RQ,aJ BO];exact um_same) gk;have Nj:q1≠x:=dw um_same gk;have XT:q2≠x:=dw (by rw[aJ (a5 Pw)];exact um_same) gk;have f3:M' x=none:=by rw[aJ (a5 Nj),aJ (a5 XT),aJ (a5 Nj),aJ (a5 Px)] at gk;exact gk
  refine⟨x,dx,wr e1,wr q1,rfl,um_same,rfl,?_⟩;rw[um_um];have Gv:cL p (um (um (um (um (um M' e1 (.dK (eY st))) q1 (.dK [])) q2 (.dK [(.inl 0,W.v (V.int 1))])) q1 (.dK [(.inl (i:Int),wr q2)])) x (.ins A.d8 dx [("lamps",wr e1),("parts",wr q1)])) e1 q1 st [((i:Int),q2,[(0,1)])]:=⟨by rw[aJ Px,aJ BO,aJ RQ,aJ BO];exact um_same,by rw[aJ Nj];exact um_same,(λt ht=>by rw[ah.mp ht,aJ XT,aJ (a5 Pw)];exact um_same),Vm,(λt ht=>by rw[ah.mp ht];exact⟨by simp,λz hz=>by rw[ah.mp hz];exact⟨by decide,by show(1:Int) <p;lia⟩⟩),by simp,by simp[bL,BO,RQ,Pw]⟩
  have Jv:um (um (um (um (um M' e1 (.dK (eY st))) q1 (.dK [])) q2 (.dK [(.inl 0,W.v (V.int 1))])) q1 (.dK [(.inl (i:Int),wr q2)])) x (.ins A.d8 dx [("lamps",wr e1),("parts",wr q1)]) x=some (.ins A.d8 dx [("lamps",wr e1),("parts",wr q1)]):=um_same;have qh:Sm M' (um (um (um (um (um M' e1 (.dK (eY st))) q1 (.dK [])) q2 (.dK [(.inl 0,W.v (V.int 1))])) q1 (.dK [(.inl (i:Int),wr q2)])) x (.ins A.d8 dx [("lamps",wr e1),("parts",wr q1)])):=λd o e=>by rw[aJ (dw e f3),aJ (dw e f1),aJ (dw e f2),aJ (dw e f1),aJ (dw e QD)];exact e
  generalize um (um (um (um (um M' e1 (.dK (eY st))) q1 (.dK [])) q2 (.dK [(.inl 0,W.v (V.int 1))])) q1 (.dK [(.inl (i:Int),wr q2)])) x (.ins A.d8 dx [("lamps",wr e1),("parts",wr q1)])=M2 at Gv Jv qh ⊢;have SA: ∀y∈bL e1 q1 [((i:Int),q2,[((0:Int),(1:Int))])],M' y=none:=λy hy=>by
   simp only[bL,av,aH,List.map_nil,List.not_mem_nil,or_false] at hy;rcases hy with rfl | rfl | rfl
   ·exact QD
   ·exact f1
   ·exact f2
  have YC: ∀ {y},M' y=none ->M y=none:=λ{y} e=>by
   cases e2:M y with
   | none=>rfl
   | some o=>rw[sm _ _ e2] at e;cases e
  obtain⟨mI,L6⟩: ∃mI:Int,mI=(L.length:Int)*w':=⟨_,rfl⟩
  have aah:=B.len;have mL:s≠0 ->(L.length:Int) <=s:=λz=>tX B.held (by lia);have aai:mI<=68:=by rw[L6];exact Jn PP mL
  have UK:0<=mI:=by rw[L6];exact Int.mul_nonneg (by lia) (by lia)
  have ki:=B.ki PP;rw[<- L6] at ki;have EK:=Em s i (by lia);have l2:(pats.take (i+1)).length=i+1:=by rw[a6];lia
  have aaf:mI*s<=68*i:=by
   rw[L6,Int.mul_assoc];have h1:(w':Int)*s<=68:=by rw[bK];exact PP.sw
   have h2:=aZ h1 (show 0<=(L.length:Int) by lia);have h3:=bg (show(L.length:Int) <=i by lia) (show(0:Int) <=68 by decide);lia
  have aag:0<=mI*s:=Int.mul_nonneg UK s0;have eK:2*(2*mI)*s=4*(mI*s):=by rw[<- Int.mul_assoc];exact Int.mul_assoc _ _ _
  have rf:=B.held;have jt:WW A.d8 A.dh s p M2 hd x dx e1 q1 (pats.take (i+1)) st [((i:Int),q2,[(0,1)])] L:=by
   refine⟨Jv,⟨qh _ _ rf.rF,λt ht=>(rf.each t ht).keep (d9.sm qh []) (λh=>by cases h) (λ_ _ h=>by cases h),rf.nd,rf.nL,rf.rh⟩,Gv,λt ht y hy Nt=> ?_,λhy=> ?_,nr.first p0 jZ,λt ht=>(B.md t ht).more FX⟩
   ·obtain⟨kvs,e⟩:=(rf.each t ht).row.mem Nt;rw[SA y hy] at e;cases e
   ·have:=SA hd hy;rw[oe] at this;cases this
  have bp0:ny s (uo s i) (uo s i) [((i:Int),q2,[((0:Int),(1:Int))])]:=λw y hy=>by
   by_cases z:w=(i:Int)
   ·have e:pf [((i:Int),q2,[((0:Int),(1:Int))])] w= [(0,1)]:=by rw[z];simp[pf]
    rw[e] at hy;have:y=0:=au λhn=>hy (dX λq hq e=>hn (by rw[ah.mp hq] at e;exact e.symm));lia
   ·have:pf [((i:Int),q2,[((0:Int),(1:Int))])] w= []:=oA λhm=>by rw[List.map_singleton,ah] at hm;exact z hm
    rw[this] at hy;exact absurd rfl hy
  refine⟨hd,x,dx,e1,q1,p,s,Z,2*mI,w',uo s i,pats.take (i+1),st,[((i:Int),q2,[(0,1)])],L,rfl,hp,s0,s8,jt,xP,by lia,by lia,EK.1,λz=> ?_,by lia,by lia,by lia,by lia,Mh,bp0,ki,λM3 L1 lZ T9 SD Zl RU HA Ha Hc=> ?_⟩
  ·have e:=PP.RC z;rw[e] at L6;exact⟨by rw[L6];simp,by rw[e];rfl⟩
  rw[eK] at HA;have hs9:(s+1)*(w'+4*(mI*s)+2*(2*mI)) <=9*(332+272*i):=by have h1:=bg (show s+1<=9 by lia) (show 0<=w'+4*(mI*s)+2*(2*mI) by lia);lia
  have aac:0<=(s+1)*(w'+4*(mI*s)+2*(2*mI)):=Int.mul_nonneg (by lia) (by lia);have xY: ∀t∈L1,Wt 1000000 t.b /\ t.len<3000000:=λt ht=>⟨((HA t ht).bx.wt s0 s8 xP (aV _) (aV _) (by lia)).up (by lia),by have:=(HA t ht).len;lia⟩
  obtain⟨Wx,rX⟩:=Bt PP B jZ lZ xY RU Ha Hc;have UJ:s≠0 ->(L1.length:Int) <=s:=λz=>tX lZ (by lia);have JA: ∀pt∈pats.take (i+1),cX s p (L1.map (·.b)) (look pt):=λpt kP=>by
   refine Zl _ ?_;rw[bD,jZ] at kP;rcases ax.mp kP with h | h
   ·exact(B.sp pt h).trans λb hb=>cX.of (ax.mpr (.inl hb))
   ·rw[ah.mp h];exact cX.of (ax.mpr (.inr (ah.mpr rfl)))
  obtain⟨nI,Se⟩: ∃nI:Int,nI=(L1.length:Int)*w':=⟨_,rfl⟩
  have aae:nI<=68:=by rw[Se];exact Jn PP UJ
  have hn0:0<=nI:=by rw[Se];exact Int.mul_nonneg (by lia) (by lia)
  have hΛ:iY (L1.map (·.len)) <=2*nI:=by
   by_cases z:s=0
   ·have:L1.map (·.len)=List.replicate L1.length 0:=List.eq_replicate_iff.mpr ⟨by simp,λb hb=>by obtain⟨t,ht,rfl⟩:=af.mp hb;exact((lZ.each t ht).lr).s0 z⟩;rw[this];have: ∀n:Nat,iY (List.replicate n 0)=0:=λn=>by induction n with | zero=>rfl | succ n ih=>rw[List.replicate_succ];show 0+iY _=0;rw[ih];rfl
    rw[this];lia
   ·have:=Ef (D:=1000000) hp (by lia) lZ (λt ht=>(xY t ht).1) (λt ht=>(xY t ht).2) rX (λb hb=>JA b (rX.of b hb)) (λb hb y hy=>(PP.pat b (List.mem_of_mem_take (rX.of b hb))).2.1 y hy);rw[show((2*L1.length*w':Nat):Int)=2*nI by rw[Se];push_cast;rw[Int.mul_assoc]] at this;exact this
  dsimp? [];refine⟨hd,p,s,Z,2*(w'+4*(mI*s)),uo s i+(s+1)*(w'+4*(mI*s)+2*(2*mI)),2*nI,pats.take (i+1),L1,rfl,hp,s0,s8,lZ,RU,HA,xP,by lia,by lia,by lia,by lia,hΛ,by lia,by lia,λM4 L2 ll T1 Wu=> ?_⟩;have JI:L2.length=L1.length:=by have:=congrArg List.length ll.key;rwa [aa,aa] at this
  have hgr:(L1.length:Int)*(2*(w'+4*(mI*s))+2*nI) <=(i+1)*(256+544*i):=by have h1:=bg (show(L1.length:Int) <=i+1 by lia) (show 0<=2*(w'+4*(mI*s))+2*nI by lia);have h2:=aZ (show 2*(w'+4*(mI*s))+2*nI<=256+544*i by lia) (show 0<=(i:Int)+1 by lia);lia
  have aan:0<=(L1.length:Int)*(2*(w'+4*(mI*s))+2*nI):=Int.mul_nonneg (by lia) (by lia);have aam:(L1.length:Int)*(2*(w'+4*(mI*s))+2*nI) <=8*(256+544*7):=by have h1:=Int.mul_le_mul (show(L1.length:Int) <=8 by lia) (show 2*(w'+4*(mI*s))+2*nI<=256+544*7 by lia) (by lia) (by decide);exact h1
  have ekp:uo s i+((s+1)*(w'+4*(mI*s)+2*(2*mI))+(L1.length:Int)*(2*(w'+4*(mI*s))+2*nI)) <=uo s (i+1):=by
   by_cases z:s=0
   ·have ew:=PP.RC z;have em:mI=0:=by rw[L6,ew];simp
    have en:nI=0:=by rw[Se,ew];simp
    rw[uo,uo,ak z,ak z,em,en,ew];simp
   ·rw[uo,uo,aj z,aj z,PL];lia
  have BL:Sm M M3:=yM (sm.trans qh) T9 λy hy=>by
   rcases av.mp hy with e | e
   ·rw[e];exact Sl
   ·rcases ax.mp e with e | e
    ·obtain⟨t,ht,e⟩:=List.mem_flatMap.mp e;exact V3 t ht y e
    ·exact YC (SA y e)
  have Hx: ∀t∈L1, ∀y∈t.adr,M y=none:=λt ht y hy=>by
   rcases SD t ht y hy with e | e
   ·rcases av.mp e with e | e
    ·rw[e];exact Sl
    ·rcases ax.mp e with e | e
     ·obtain⟨t,ht,e⟩:=List.mem_flatMap.mp e;exact V3 t ht y e
     ·exact YC (SA y e)
   ·cases e2:M y with
    | none=>rfl
    | some o=>rw[(sm.trans qh) _ _ e2] at e;cases e
  have OO:Sm M M4:=yM BL ll.kp λy hy=>by obtain⟨t,ht,e⟩:=List.mem_flatMap.mp hy;exact Hx t ht y e
  refine hN _ _ ⟨_,_,L2,Wx,rfl,⟨ll.held,ll.qU,T1,λpt kP=>ll.sp _ (JA pt kP),⟨by rw[rX.len,JI],rX.ind,rX.of⟩,λz t ht=>(Wu t ht).1.2 z,λt ht=>(Wu t ht).2.up (by lia) (by lia),λt ht=>⟨((Wu t ht).1.wt s0 s8 xP (aV _) (aV _) (by lia)).up (by lia),?_⟩,by rw[JI];lia⟩,OO,λt ht y hy=> ?_⟩
  ·obtain⟨v,hv,e⟩:=af.mp (show t.c∈L1.map (·.c) by rw[<- ll.key];exact af.mpr ⟨t,ht,rfl⟩);rw[ll.ln t ht v hv e.symm];exact(xY v hv).2
  ·rcases ll.fr t ht y hy with e | e
   ·obtain⟨v,hv,e⟩:=List.mem_flatMap.mp e;exact Hx v hv y e
   ·cases e2:M y with
    | none=>rfl
    | some o=>rw[BL _ _ e2] at e;cases e
 ·rintro ρ M' ⟨o4,o5,L,bs,rfl,B,sm,V3⟩;have Wb:(gO (pats.map cR)).length=pats.length:=by unfold gO;rw[aa,cV,aa]
  rw[Wb] at B;obtain⟨Ls,o⟩:=pe L B.held.nd;have Vj:Ls.length=L.length:=o.perm.length_eq;have hL8:=B.len;have oe:=B.held.rF;have V8: ∀ (l q:Addr) (f g e:W),[(("lamps" :Str),wr l),(("parts" :Str),wr q),(("first" :Str),f),(("length" :Str),g),(("foot" :Str),e)].lookup ("lamps" :Str)=some (wr l):=λ_ _ _ _ _=>rfl;have V7: ∀ (l q:Addr) (f g e:W),[(("lamps" :Str),wr l),(("parts" :Str),wr q),(("first" :Str),f),(("length" :Str),g),(("foot" :Str),e)].lookup ("parts" :Str)=some (wr q):=λ_ _ _ _ _=>rfl;dsimp? [oe];refine⟨hd,kg L,L.map (·.c),rfl,oe,by unfold kg;rw[aD,aD];rfl,big (by rw[aa];lia),λv cs hv c6 gv=> ?_⟩;have ecs:cs=Ls.map (·.c):=zg gv (bY.mpr (o.yS.imp λh=>by lia)) (c6.trans (o.perm.map (·.c)).symm);have eW1:cs.map wi=Ls.map λt=>wi t.c:=by rw[ecs,aD];rfl
  have IQ:Sm M' (um M' v (.lst (cs.map wi))):=c4 hv;have Su:um M' v (.lst (cs.map wi)) v=some (.lst (Ls.map λt=>wi t.c)):=by rw[um_same,eW1]
  generalize um M' v (.lst (cs.map wi))=M1 at IQ Su ⊢;have mem: ∀ {t},t∈Ls ->t∈L:=λh=>o.perm.mem_iff.mp h;have YO: ∀ {M3},Sm M1 M3 -> ∀t∈Ls,M3 hd=some (.dK (kg L)) /\ d5 (kg L) (.inl t.c)=some (wr t.o) /\ M3 t.o=some (.ins A.dh t.ds [("lamps",wr t.ol),("parts",wr t.op),("first",wi t.c),("length",wi t.len),("foot",wi t.foot)]) /\ cL p M3 t.ol t.op t.b t.Q:=λ{M3} BL t ht=>by have st:=B.held.each t (mem ht);exact⟨BL _ _ (IQ _ _ oe),wM B.held.nd (mem ht),BL _ _ (IQ _ _ st.ins),st.row.keep (d9.sm (IQ.trans BL) []) (λ_ _ h=>by cases h)⟩
  dsimp? [Su];refine Fi (λt:dY=>cR (jo p t.b)) (big (by lia)) (λM3 s3=>s3 _ _ Su) ?_ λc1 M2 Mg CS QN=> ?_
  ·intro t ht M3 N s3 hN;obtain⟨g1,g2,g3,g4⟩:=YO s3 t ht;have g5:=g4.lam;dsimp? [g1,g2,g3,F2,TX,V8,g5];intro y hy;have A4:(eY t.b).map (λkv=>W.tup [eZ kv.1,kv.2])=t.b.map dy:=by unfold eY;rw[aD];rfl
   rw[A4];have EW:=(B.fin t (mem ht)).1.len g4.ga (by decide);refine⟨y,p,t.b,rfl,um_same,p0,MB,by lia,?_⟩;dsimp? [];exact hN _ (c4 hy)
  have Mq:=CS _ _ Su;have EK:=Em s pats.length hp8;dsimp? [QN,Mq];refine Fj (by rw[aa];exact big (by lia)) λr hr=> ?_;have nrv:v≠r:=dw Mq hr;have QS: ∀ {y o},M2 y=some o ->y≠r:=λe=>dw e hr;refine⟨λi ys M3=> ∃as:List Addr,ys=as.map wr /\ as.length=i /\ (∀ (k:Nat) a,as[k]? =some a ->a≠r /\ ∃ (t:dY) (tl:List Part),Ls[k]? =some t /\ tl.Perm (uC p 1 t.Q) /\ M3 a=some (.lst (tl.map lM))) /\ M3 r=some (.lst ys) /\ Sm M2 M3,⟨[],rfl,rfl,(λk a h=>by simp at h),um_same,c4 hr⟩,?_,?_,?_⟩
  ·rintro i ys M3 hi ⟨as,rfl,hl,_,h3,s3⟩;exact⟨s3 _ _ Mq,h3,by rw[aa];lia⟩
  ·rintro i x ys M3 hx ⟨as,rfl,hl,has,h3,s3⟩ N hN;obtain⟨t,ht,rfl⟩: ∃t,Ls[i]? =some t /\ x=wi t.c:=by
    rw[aA] at hx;cases e:Ls[i]? with
    | none=>rw[e] at hx;cases hx
    | some q=>rw[e] at hx;cases hx;exact⟨q,rfl,rfl⟩
   have zz:=ai ht;obtain⟨g1,g2,g3,g4⟩:=YO (CS.trans s3) t zz;have SV:=(B.bp t (mem zz)).wt g4.mK (aV _) (aV _);have Yt:t.Q.length<=8:=by have:=(B.md t (mem zz)).len g4.mK;rw[a6] at this;lia
   have hlen: ∀z∈t.Q,z.2.2.length<=400000:=λz hz=>by have:=(SV z hz).len (g4.gp z hz) EK.1;lia
   simp? [↓dS,g1,g2,g3,F2,TV,V7];refine⟨t.ol,t.op,p,1,t.b,t.Q,400000,rfl,p0,by lia,by decide,by decide,g4,by lia,hlen,by decide,a4 (Nat.mul_le_mul_right _ Yt) (by decide),λa M4 tl s4 ha hM4 c6=> ?_⟩;have XN:a≠r:=a5 (dw h3 ha);simp? [↓dS];refine⟨s4 _ _ h3,hN _ _ ⟨as++ [a],by rw[aN];rfl,by rw[aL,hl];rfl,λk b hb=> ?_,um_same,λy o' e=>by rw[aJ (QS e)];exact s4 _ _ (s3 _ _ e)⟩⟩;rw[List.getElem?_append] at hb;split at hb
   ·obtain⟨h5,t',Zb,h6,h7,h8⟩:=has k b hb;exact⟨h5,t',Zb,h6,h7,by rw[aJ h5];exact s4 _ _ h8⟩
   ·rename_i hk;have Qv:k=i:=by obtain⟨q1,_⟩:=ag.mp hb;simp at q1;lia
    subst Qv;rw[hl,Nat.sub_self] at hb;cases hb;exact⟨XN,t,tl,ht,c6,by rw[aJ XN];exact hM4⟩
  ·rintro ys M3 ⟨as,rfl,hl,has,h3,s3⟩;rw[aa] at hl;have ki:=B.ki PP;have fin:=B.fin;have Zm:Sm M M3:=((sm.trans IQ).trans CS).trans s3;have PD:M r=none:=by
    cases e:M r with
    | none=>rfl
    | some o=>rw[((sm.trans IQ).trans CS) _ _ e] at hr;cases hr
   have QZ:(eE p Ls).length=L.length:=by unfold eE;rw[aa];exact Vj
   have f9:=oP (by lia) B.held o (λt ht=>(fin t ht).1) λt ht=>(fin t ht).2;have YI:pats.take pats.length=pats:=cn;refine kr ?_;have e7:(Ls.map λt=>cR (jo p t.b))=(eE p Ls).map cR:=by unfold eE;rw[aD];rfl
   rw[e7];refine k M3 r as (eE p Ls) (Ls.map (·.Q)) ⟨f9,yt (by lia) B.held o (λt ht=>(fin t ht).1) B.low,λpt kP=>lX p0 B.held o (B.sp pt (by rw[YI];exact kP)),by rw[aa,QZ,Vj],by rw[QZ];exact B.len,λk st P hk hP=> ?_,λst jZ=> ?_,λz=>by rw[QZ];exact tX B.held (by lia)⟩ Zm PD h3 (by rw[hl,QZ,Vj]) λk a P ha hP=> ?_
   ·unfold eE at hk;rw[aA] at hk hP;cases e:Ls[k]? with
    | none=>rw[e] at hk;cases hk
    | some t=>rw[e] at hk hP;cases hk;cases hP;have zz:=mem (ai e);have row:=(B.held.each t zz).row;have m:=B.md t zz;rw[YI] at m;exact⟨⟨λx=>by rw[fw p0 row.ga];exact m.is x,m.key⟩,row.mK,row.gp,B.bp t zz⟩
   ·obtain⟨t,ht,rfl⟩:=af.mp jZ;have zz:=mem ht;have row:=(B.held.each t zz).row;have sr:=yF (by lia) row.ga (B.held.each t zz).lr (fin t zz).1;rw[sr.gZ,QZ];refine⟨⟨λx hx=>(ki t zz).bx.1 x (by rw[<- fw p0 row.ga];exact hx),λz x hx=>(ki t zz).bx.2 z x (by rw[<- fw p0 row.ga];exact hx)⟩,(ki t zz).len⟩
   ·obtain⟨_,t,tl,h6,h7,h8⟩:=has k a ha;rw[aA,h6] at hP;cases hP;exact⟨tl,h7,h8⟩
end
end f7
open PySem L2 WL WP WQ EN PyProof.Rows
namespace f7
open PySem L2 WL WP WQ EN PyProof.Rows
section
variable {P:Program}{w:World}{K:PySem.W.Frag}{mg:Str ->Option Value}{base:Heap}{A:Am}
theorem kL (T:Txt K mg A):dI P w K mg base iV 3 A.ik A.iu ["_law_draw","_law_p_here","_law_most"] (ly K AE):=by
 have di:=iM (P:=P) (w:=w) (base:=base) T;have we:=tf (P:=P) (w:=w) (base:=base) T;refine nX T.jk.fn gF (by rintro vs M q ⟨d,l,p,most,rfl,_⟩;rfl) λdQ A' outer s H E hr=> ?_;have nd:=gF.nd;refine⟨_,(aR (cQ (f' rfl (d4.of (sc:=aQ eh) (N:= ["_law_draw","_law_p_here","_law_most"]) (own:= ["_law_k"]) (fr:= [0,1]) (N':= ["_law_k","_law_draw","_law_p_here"]) rfl rfl rfl (by decide+kernel) rfl (by decide+kernel) (by decide+kernel) (by decide+kernel) (by decide+kernel) (by decide+kernel)) (iJ (by rfl) T.iw (ab (aY T.fk di (hr.mono (by decide)) (by rfl) (ab (pv 0) (ab (bQ dU (pv 2) aK) aC))) aC)) (λ_ _ _ _=>(cj (i:=0) (by show(["_law_k","_law_draw","_law_p_here"]:List Str).Nodup;decide+kernel) rfl (by first | exact Or.inl rfl | exact Or.inr rfl))) eT (λ_ _ _ _=>hU) (λ_ _ _ _=>(aY T.qW we (hr.mono (by decide)) (by rfl) (ab (pv 1) (ab (pv 2) (ab aK (ab aK aC))))))))),?_⟩;try dsimp only[eQ]
 refine⟨_,inferInstance,?_⟩;rintro vs M q ⟨d,l,p,most,rfl,hD,p2,p7,m0,m1,k⟩;dsimp? [];refine⟨d,l,most+1,rfl,hD,by omega,by omega,λn M1 n0 n1 D1 b1=> ?_⟩;dsimp? [];refine⟨⟨by omega,by omega⟩,Fj (by rw[iG];exact big (by omega)) λt ht=> ?_⟩;obtain⟨FO,TH⟩:=D1.ne ht;have Uo:M t=none:=by
  cases e2:M t with
  | none=>rfl
  | some o=>rw[b1 t FO,e2] at ht;cases ht
 refine⟨λi ys M'=> ∃pats:List Pt,ys=pats.map cR /\ pats.length=i /\ (∀pt∈pats,du p pt /\ Wt 6 pt /\ pt.length<=4) /\ Dr M' d l /\ M' t=some (.lst ys) /\ iT d M M',⟨[],rfl,rfl,by simp,D1.put ht,um_same,(iT.nb b1).um Uo⟩,?_,?_,?_⟩
 ·rintro i ys M' hi ⟨pats,rfl,hl,_,_,hM,_⟩;exact⟨trivial,hM,by rw[aa];omega⟩
 ·rintro i x ys M' hx ⟨pats,rfl,hl,hk,D5,hM,s5⟩ N2 Vg;simp? [↓dS];refine⟨d,l,p,4,6,rfl,D5,p2,by omega,by decide,by decide,by decide,by decide,λps M6 rb Ny D6 b6=> ?_⟩;simp? [↓dS];refine⟨by rw[b6 t FO];exact hM,Vg _ _ ⟨pats++ [jo p ps],by rw[aN];rfl,by simp[hl],λpt kP=> ?_,D6.K9 FO TH,um_same,(s5.trans (iT.nb b6)).um Uo⟩⟩;rcases ax.mp kP with h | h
  ·exact hk pt h
  ·rw[ah.mp h];refine⟨jS (by omega) ps,λx hx=> ?_,a4 (G1 _ _) (by omega)⟩;obtain⟨z,hz,e⟩:=af.mp (cJ hx);obtain⟨y,hy,e2⟩:=Lq hz;have:=Ny y hy;omega
 ·rintro ys M' ⟨pats,rfl,hl,hk,D5,hM,s5⟩;rw[iG] at hl;exact kr (k t pats M' hk (by omega) Uo hM D5 s5)
end
end f7
open PySem L2 WL WP WQ EN PyProof.Rows
namespace f7
open PySem L2 WL WP WQ EN PyProof.Rows
section
variable {P:Program}{w:World}{K:PySem.W.Frag}{mg:Str ->Option Value}{base:Heap}{A:Am}
theorem tq (T:Txt K mg A):dI P w K mg base iV 3 A.nH A.nN ["_law_draw","_law_p_here","_law_stride","_law_patterns"] (ly K DJ):=by
 have di:=iM (P:=P) (w:=w) (base:=base) T;have uf:=DT (P:=P) (w:=w) (base:=base) T;refine nX T.qX.fn lC (by rintro vs M q ⟨d,l,u,p,s,Z,w',pats,rfl,_⟩;rfl) λdQ A' outer s H E hr=> ?_;have nd:=lC.nd;refine⟨_,(aI (bX (i:=4) nd rfl (by first | exact Or.inl rfl | exact Or.inr rfl) (dj fZ (by rfl) T.fM Boot.«list» (ab (pv 3) aC))) (aI (eG (cH iL (cA fB (by rfl) T.nR Boot.«len» (ab (pv 4) aC)) aK (c9 _)) (aR (cQ (sX (ab (gK aC) aC)))) dR) (aI (bX (i:=5) nd rfl (by first | exact Or.inl rfl | exact Or.inr rfl) (aY T.fk di (hr.mono (by decide)) (by rfl) (ab (pv 0) (ab (cA fB (by rfl) T.nR Boot.«len» (ab (pv 4) aC)) aC)))) (aI (bX (i:=6) nd rfl (by first | exact Or.inl rfl | exact Or.inr rfl) (aY T.fk di (hr.mono (by decide)) (by rfl) (ab (pv 0) (ab (cA fB (by rfl) T.nR Boot.«len» (ab (pv 4) aC)) aC)))) (aI (bX (i:=7) nd rfl (by first | exact Or.inl rfl | exact Or.inr rfl) (bQ fU (bQ iC (aY T.fk di (hr.mono (by decide)) (by rfl) (ab (pv 0) (ab aK aC))) aK) (pv 2))) (aI (bX (i:=8) nd rfl (by first | exact Or.inl rfl | exact Or.inr rfl) (bQ dU aK (aY T.fk di (hr.mono (by decide)) (by rfl) (ab (pv 0) (ab (bQ iC (pv 1) aK) aC))))) (aI (bX (i:=9) nd rfl (by first | exact Or.inl rfl | exact Or.inr rfl) (aY T.fk di (hr.mono (by decide)) (by rfl) (ab (pv 0) (ab aK aC)))) (aI (eG (cH iL (pv 9) aK (c9 _)) (aR (iA (aY T.zo uf (hr.mono (by decide)) (by rfl) (ab (pv 1) (ab (gK aC) (ab (c5 cK (pv 4) (pv 5) (λ_ _=>rfl)) (ab (pv 7) (ab (pv 8) aC)))))) (iB (pv 4) (pv 5) set_list))) (aR (eG (xk (cH iL (pv 9) aK (c9 _)) (sS (cH vb (pv 5) (pv 6) (c9 _)))).pt (aR (iA (aY T.zo uf (hr.mono (by decide)) (by rfl) (ab (pv 1) (ab (c5 cK (pv 4) (pv 5) (λ_ _=>rfl)) (ab (c5 cK (pv 4) (pv 6) (λ_ _=>rfl)) (ab (pv 7) (ab (pv 8) aC)))))) (iB (pv 4) (pv 5) set_list))) (aR (eG (cH iL (pv 9) aK (c9 _)) (aI (bX (i:=10) nd rfl (by first | exact Or.inl rfl | exact Or.inr rfl) (c5 cK (pv 4) (pv 5) (λ_ _=>rfl))) (aI (iA (c5 cK (pv 4) (pv 6) (λ_ _=>rfl)) (iB (pv 4) (pv 5) set_list)) (aR (iA (pv 10) (iB (pv 4) (pv 6) set_list))))) (aR (eG (cH iL (pv 9) aK (c9 _)) (aR (fi (DB PySem.F.plainAttrs_list PySem.F.slot_list_append PySem.F.type_list_append jT (pv 4) (ab (aY T.zo uf (hr.mono (by decide)) (by rfl) (ab (pv 1) (ab (gK aC) (ab (c5 cK (pv 4) (pv 5) (λ_ _=>rfl)) (ab (pv 7) (ab (pv 8) aC)))))) aC)))) (aR (fi (DB PySem.F.plainAttrs_list PySem.F.slot_list_insert PySem.F.type_list_insert AI (pv 4) (ab (pv 5) (ab (gK aC) aC)))))))))))) (aR (cQ (pv 4))))))))))),?_⟩;try dsimp only[eQ]
 refine⟨_,inferInstance,?_⟩;rintro vs M q ⟨d,l,u,p,s,Z,w',pats,rfl,hD,hu,hp,s0,s8,z0,z1,Xi,hn,gz,k⟩;have p0:0<p:=by omega
 have p7:p<=7:=by omega
 dsimp? [hu];intro t ht;have TB:u≠t:=λe=>by rw[<- e,hu] at ht;cases ht
 obtain⟨FO,TH⟩:=hD.ne ht;have Nd:iT d M (um M t (.lst (pats.map cR))):=λb o hb e=>by rw[aJ (λz=>by rw[z,ht] at e;cases e)];exact e
 have D0:=hD.put (o:= .lst (pats.map cR)) ht;have QO:um M t (.lst (pats.map cR)) t=some (.lst (pats.map cR)):=um_same;generalize um M t (.lst (pats.map cR))=M1 at Nd D0 QO ⊢;dsimp? [QO];refine dG (λh=> ?_) λh=> ?_
 ·intro t2 FQ;have e:pats= []:=by
   cases pats with
   | nil=>rfl
   | cons a b=>rw[aH,aG] at h;omega
  subst e;obtain⟨n2d,n2l⟩:=D0.ne FQ;exact kr (k t2 [[]] _ (Fo p0) (Nd.fresh D0 FQ) um_same (D0.put FQ) (Nd.um (Nd.fresh D0 FQ)))
 rw[aa] at h;have hlen:(pats.map cR).length=pats.length:=aa _;dsimp? [QO];refine⟨d,l,pats.length,by rw[hlen],D0,by omega,by omega,λone M2 o0 o1 D2 b2=> ?_⟩;have QN:=(b2 t FO).trans QO;dsimp? [QN];refine⟨d,l,pats.length,by rw[hlen],D2,by omega,by omega,λother M3 q0 q1 D3 b3=> ?_⟩;dsimp? [];refine⟨d,l,3,rfl,D3,by decide,by decide,λg M4 g0 g1 D4 b4=> ?_⟩;dsimp? [];have hg: -8<=(g - 1)*s /\ (g - 1)*s<=8:=by
  have:g=0 \/ g=1 \/ g=2:=by omega
  rcases this with rfl | rfl | rfl<;>omega
 refine⟨by unfold iW;omega,?_⟩;dsimp? [];refine⟨d,l,p - 1,rfl,D4,by omega,by omega,λm M5 m0 m1 D5 b5=> ?_⟩;dsimp? [];refine⟨d,l,5,rfl,D5,by decide,by decide,λway M6 w0 w1 D6 b6=> ?_⟩;have EY:=(b6 t FO).trans ((b5 t FO).trans ((b4 t FO).trans ((b3 t FO).trans QN)));have Zr:=Nd.trans ((iT.nb b2).trans ((iT.nb b3).trans ((iT.nb b4).trans ((iT.nb b5).trans (iT.nb b6)))));clear b2 b3 b4 b5 b6 QN QO D0 D2 D3 D4 D5 Nd;obtain⟨i,rfl⟩: ∃i:Nat,one=(i:Int):=⟨one.toNat,by omega⟩
 obtain⟨j,rfl⟩: ∃j:Nat,other=(j:Int):=⟨other.toNat,by omega⟩
 obtain⟨a,hi⟩: ∃a,pats[i]? =some a:=⟨_,ae (by omega)⟩
 obtain⟨b,hj⟩: ∃b,pats[j]? =some b:=⟨_,ae (by omega)⟩
 have Sq:kj (pats.map cR) (i:Int)=some (cR a):=gg (by rw[aA,hi];rfl);have Yp:kj (pats.map cR) (j:Int)=some (cR b):=gg (by rw[aA,hj];rfl);have Uh:pH (pats.map cR).length (i:Int)=some i:=by rw[hlen];unfold pH;simp;omega
 have Z3:pH (pats.map cR).length (j:Int)=some j:=by rw[hlen];unfold pH;simp;omega
 have hl: ∀pt∈pats,pt.length<=8000000 /\ ∀z∈pt,0<=z.2 /\ z.2<1000:=λpt kP=>by have h1:=gz pt kP;have h2:=Wt.len (mX h1.1) (h1.2.wt s0 s8 z0 (E:=60) (by omega) (by omega) (by decide)) (by omega);exact⟨by omega,λz hz=>by have:=h1.1.1 z hz;omega⟩
 have ha:=hl a (ai hi);have hb:=hl b (ai hj);have Yg:M t=none:=ht;have fin: ∀hW:List Pt,Kh s p Z w' pats hW ->q (wr t) (um M6 t (.lst (hW.map cR))):=λhW hc=>k t hW _ hc Yg um_same (D6.K9 FO TH) (Zr.um Yg);dsimp? [];refine dG (λh=> ?_) λh=> ?_
 ·dsimp? [EY,Sq];refine⟨p,[],a,(g - 1)*s,1+m,rfl,p0,trivial,by decide,ha.1,ha.2,?_⟩;dsimp? [EY,Uh];rw[<- List.map_set];exact kr (fin _ (HH hp gz hi (by omega) (by omega) (by omega) (by omega)))
 have Ht:q (wr t) (um M6 t (.lst ((pats.map cR).take i++ .tup []::(pats.map cR).drop i))):=by rw[<- List.map_take, <- List.map_drop];have:=fin _ (HI p0 gz (i:=i) (by omega));rwa [aN,aH] at this
 dsimp? [];refine dG (λh1=> ?_) λh1=> ?_
 ·refine tG (λc8=> ?_) λheq=> ?_
  ·dsimp? [EY,Sq,Yp];refine⟨p,a,b,(g - 1)*s,1+m,rfl,p0,trivial,ha.1,hb.1,hb.2,?_⟩;dsimp? [EY,Uh];rw[<- List.map_set];exact kr (fin _ (HG p0 gz hi hj (by omega) (by omega) (by omega)))
  ·refine dG (λh2=>by omega) λ_=>dG (λh3=>by omega) λ_=> ?_;dsimp? [EY];refine⟨t,_,_,i,rfl,rfl,EY,by rw[hlen];exact qv (by omega),by rw[hlen];omega,?_⟩;dsimp? [];exact kr Ht
 ·refine dG (λh2=> ?_) λh2=>dG (λh3=> ?_) λh3=> ?_
  ·dsimp? [EY,Sq,Yp,Uh];have hMs:um M6 t (.lst ((pats.map cR).set i (cR b))) t=some (.lst ((pats.map cR).set i (cR b))):=um_same;have Jv:pH ((pats.map cR).set i (cR b)).length (j:Int)=some j:=by rw[List.length_set];exact Z3
   dsimp? [hMs,Jv];rw[<- List.map_set, <- List.map_set];exact kr (fin _ (Fn gz hi hj))
  ·dsimp? [EY,Sq];refine⟨p,[],a,(g - 1)*s,1+m,rfl,p0,trivial,by decide,ha.1,ha.2,?_⟩;dsimp? [EY];refine⟨by rw[hlen];exact qv (by omega),?_⟩;dsimp? [];have:=fin _ (HJ (n:=1+m) p0 gz hi (show -1<=g - 1 by omega) (by omega));rw[aN] at this;exact kr this
  ·dsimp? [EY];refine⟨t,_,_,i,rfl,rfl,EY,by rw[hlen];exact qv (by omega),by rw[hlen];omega,?_⟩;dsimp? [];exact kr Ht
end
end f7
open PySem L2 WL WP WQ EN PyProof.Rows
namespace f7
open PySem L2 WL WP WQ EN PyProof.Rows
section
variable {P:Program}{w:World}{K:PySem.W.Frag}{mg:Str ->Option Value}{base:Heap}{A:Am}
def w6 (s:Int):Nat:=if s=0 then 0 else((5+s) / s).toNat
theorem bx6 {s:Int}{a:Pt}(s0:0<=s)(s8:s<=8)(h:Wt 6 a):jm s 6 (w6 s) (w6 s) a:=by
 refine⟨λx hx=> ?_,λ_=>h⟩;have h1:=h x hx;have:s=0 \/ s=1 \/ s=2 \/ s=3 \/ s=4 \/ s=5 \/ s=6 \/ s=7 \/ s=8:=by omega
 rcases this with rfl | rfl | rfl | rfl | rfl | rfl | rfl | rfl | rfl<;>simp[hI,w6] <;>omega
def si (s:Int)(k:Nat):Nat:=if s=0 then 0 else w6 s+k
theorem Kl (s:Int)(k:Nat):BK s (si s k)=si s (k+1):=by unfold BK si;split<;>rfl
theorem NW (s:Int):si s 0=w6 s:=by unfold si w6;split<;>rfl
theorem wJ {s:Int}(s0:0<=s)(s8:s<=8){k:Nat}(hk:k<=4):si s k<=60 /\ s*si s k<=68 /\ (s=0 ->si s k=0):=by
 have:s=0 \/ s=1 \/ s=2 \/ s=3 \/ s=4 \/ s=5 \/ s=6 \/ s=7 \/ s=8:=by omega
 have h4:k=0 \/ k=1 \/ k=2 \/ k=3 \/ k=4:=by omega
 rcases this with rfl | rfl | rfl | rfl | rfl | rfl | rfl | rfl | rfl<;>rcases h4 with rfl | rfl | rfl | rfl | rfl<;>decide
theorem zM (l:List Pt):wB (.tup (l.map DE)) <=50:=by rw[wB];have:=vI (n:=2) (g:=DE) (λa=>by unfold DE;rw[wB];have:=pO a;lia) l;lia
theorem Lo (T:Txt K mg A):dI P w K mg base iV 8 A.JY A.J5 ["_law_script"] (uH K):=by
 have BD:=xr (P:=P) (w:=w) (base:=base) T
 have Rp:=Lp (P:=P) (w:=w) (base:=base) T
 have di:=iM (P:=P) (w:=w) (base:=base) T
 have mE:=kL (P:=P) (w:=w) (base:=base) T
 have wg:=tq (P:=P) (w:=w) (base:=base) T
 have ug:=DW (P:=P) (w:=w) (base:=base) T
 have qb:=nW (P:=P) (w:=w) (base:=base) T
 refine Pk T.law.fn CV (by decide) λdQ A' outer s H E hr=> ?_
 have nd:=CV.nd
 refine⟨_,(aI (bX (i:=1) nd rfl (by first | exact Or.inl rfl | exact Or.inr rfl) (aY T.zp BD (hr.mono (by decide)) (by rfl) (ab (pv 0) aC))) (aI (bX (i:=2) nd rfl (by first | exact Or.inl rfl | exact Or.inr rfl) (aY T.XW Rp (hr.mono (by decide)) (by rfl) (ab (pv 1) aC))) (aI (bX (i:=3) nd rfl (by first | exact Or.inl rfl | exact Or.inr rfl) (aY T.fk di (hr.mono (by decide)) (by rfl) (ab (pv 1) (ab aK aC)))) (aI (eG (cH iL (aY T.fk di (hr.mono (by decide)) (by rfl) (ab (pv 1) (ab aK aC))) aK (c9 _)) (aR (bX (i:=3) nd rfl (by first | exact Or.inl rfl | exact Or.inr rfl) (bQ dU aK (aY T.fk di (hr.mono (by decide)) (by rfl) (ab (pv 1) (ab aK aC)))))) dR) (aI (bX (i:=4) nd rfl (by first | exact Or.inl rfl | exact Or.inr rfl) (aY T.jk mE (hr.mono (by decide)) (by rfl) (ab (pv 1) (ab (pv 2) (ab aK aC))))) (aI (bX (i:=5) nd rfl (by first | exact Or.inl rfl | exact Or.inr rfl) (dj fZ (by rfl) T.fM Boot.«list» (ab (pv 4) aC))) (aI (fT cw rfl (iJ (by rfl) T.iw (ab (aY T.fk di (hr.mono (by decide)) (by rfl) (ab (pv 1) (ab aK aC))) aC)) (cj (i:=6) nd rfl (by first | exact Or.inl rfl | exact Or.inr rfl)) (aR (bX (i:=5) nd rfl (by first | exact Or.inl rfl | exact Or.inr rfl) (aY T.qX wg (hr.mono (by decide)) (by rfl) (ab (pv 1) (ab (pv 2) (ab (pv 3) (ab (pv 5) aC)))))))) (aI (bX (i:=7) nd rfl (by first | exact Or.inl rfl | exact Or.inr rfl) (aY T.built ug (hr.mono (by decide)) (by rfl) (ab (pv 2) (ab (pv 3) (ab (dj fZ (by rfl) T.fM Boot.«list» (ab (pv 4) aC)) aC))))) (aI (bX (i:=8) nd rfl (by first | exact Or.inl rfl | exact Or.inr rfl) (aY T.built ug (hr.mono (by decide)) (by rfl) (ab (pv 2) (ab (pv 3) (ab (pv 5) aC))))) (aI (bX (i:=9) nd rfl (by first | exact Or.inl rfl | exact Or.inr rfl) (aY T.built ug (hr.mono (by decide)) (by rfl) (ab (pv 2) (ab (pv 3) (ab (dj fZ (by rfl) T.fM Boot.«list» (ab (pv 4) aC)) aC))))) (aI (fT cw rfl (eB (sX (ab (pv 7) (ab (pv 8) (ab (pv 9) aC))))) (cj (i:=10) nd rfl (by first | exact Or.inl rfl | exact Or.inr rfl)) (aI (eG (qO (iZ (kH (cA iP (by rfl) T.eV Boot.«isinstance» (ab (pv 10) (ab (jR (by rfl) T.jd Boot.«tuple» (show RelV (.ty "tuple") _ from rfl)) aC))))) (qO (cH vb (cA fB (by rfl) T.nR Boot.«len» (ab (pv 10) aC)) aK (c9 _)) (sR (iZ (kH (cA iP (by rfl) T.eV Boot.«isinstance» (ab (c5 fJ (pv 10) aK (λ_ _=>rfl)) (ab (jR (by rfl) T.jd Boot.«tuple» (show RelV (.ty "tuple") _ from rfl)) aC)))))))).pt (aR (cQ pd)) dR) (aR (eG (iZ (kH (cA (Br rfl) (by rfl) T.Q8 Boot.«all» (ab (f' rfl (d4.of (sc:=aQ yQ) (N:= ["_law_script","_law_draw","_law_p_here","_law_stride","_law_patterns","_law_row","_law_k","_law_found","_law_other","_law_again","_law_told"]) (own:= ["_law_stair"]) (fr:= [2]) (N':= ["_law_stair","_law_p_here"]) rfl rfl rfl (by decide+kernel) rfl (by decide+kernel) (by decide+kernel) (by decide+kernel) (by decide+kernel) (by decide+kernel)) (Ds (c5 fJ (pv 10) aK (λ_ _=>rfl))) (λ_ _ _ _=>(cj (i:=0) (by show(["_law_stair","_law_p_here"]:List Str).Nodup;decide+kernel) rfl (by first | exact Or.inl rfl | exact Or.inr rfl))) eT (λ_ _ _ _=>hU) (λ_ _ _ _=>(aY T.lR qb (hr.mono (by decide)) (by rfl) (ab (pv 1) (ab (pv 0) aC))))) aC)))) (aR (cQ pd)) dR)))) (aR (cQ (DD (zd (DN hr.Xj) (c5 fJ (pv 7) aK (λ_ _=>rfl)) (c5 fJ (pv 8) aK (λ_ _=>rfl)) (c9 _)) (Dx (zd (DN hr.Xj) (c5 fJ (pv 7) aK (λ_ _=>rfl)) (c5 fJ (pv 9) aK (λ_ _=>rfl)) (c9 _))))))))))))))))),?_⟩
 try dsimp only[eQ]
 refine⟨_,inferInstance,?_⟩
 intro d l M hD
 dsimp? []
 refine⟨d,l,rfl,hD,λp M1 hp D1 _=> ?_⟩
 have p0:0<p:=by omega
 have p7:p<=7:=by omega
 have p2:2<=p:=by omega
 dsimp? []
 refine⟨d,l,5,rfl,D1,by decide,by decide,λs M2 s0 s1 D2 _=> ?_⟩
 simp? [↓dS]
 refine jC (Ex (λρ M'=> ∃s:Int,ρ= [none,some (wr d),some (wi p),some (wi s),none,none,none,none,none,none,none] /\ 0<=s /\ s<=8 /\ Dr M' d l) ?_ λN hN=> ?_)
 rotate_left
 ·dsimp? [];refine⟨d,l,6,rfl,D2,by decide,by decide,λg M3 g0 g1 D3 _=> ?_⟩;dsimp? [];refine dG (λh=> ?_) λh=>hN _ _ ⟨s,rfl,s0,by omega,D3⟩;dsimp? [];refine⟨d,l,4,rfl,D3,by decide,by decide,λg M3 g0 g1 D3 _=> ?_⟩;dsimp? [];exact hN _ _ ⟨5+g,rfl,by omega,by omega,D3⟩
 clear s0 s1 D2
 rintro ρ M3 ⟨s,rfl,s0,s8,D3⟩
 dsimp? []
 refine⟨d,l,p,3,rfl,D3,p2,p7,by decide,by decide,λu pats M4 Ny hn hu Hw D4 _=> ?_⟩
 obtain⟨XG,nul⟩:=D3.ne hu
 dsimp? [Hw]
 intro t ht
 have TB:u≠t:=λe=>by rw[<- e,Hw] at ht;cases ht
 have D5:=D4.put (o:= .lst (pats.map cR)) ht
 have NO:um M4 t (.lst (pats.map cR)) t=some (.lst (pats.map cR)):=um_same
 have Mr:um M4 t (.lst (pats.map cR)) u=some (.lst (pats.map cR)):=by rw[aJ TB];exact Hw
 have xj:mC s p 6 (si s 0) pats:=λpt kP=>⟨(Ny pt kP).1,by rw[NW];exact bx6 s0 s8 (Ny pt kP).2.1⟩
 generalize um M4 t (.lst (pats.map cR))=M5 at D5 NO Mr ⊢
 dsimp? []
 refine⟨d,l,5,rfl,D5,by decide,by decide,λn M6 n0 n1 D6 b6=> ?_⟩
 have QM:=(b6 t (D4.ne ht).1).trans NO
 have QL:=(b6 u XG).trans Mr
 dsimp? []
 refine⟨⟨by omega,by omega⟩,iO (λi ρ M'=> ∃ (o:Option W) (v:Addr) (row:List Pt),ρ= [none,some (wr d),some (wi p),some (wi s),some (wr u),some (wr v),o,none,none,none,none] /\ Dr M' d l /\ M' u=some (.lst (pats.map cR)) /\ M' v=some (.lst (row.map cR)) /\ wx s p pats row /\ mC s p 6 (si s i) row /\ row.length<=3+i) ⟨_,t,pats,rfl,D6,QL,QM,wx.refl,xj,by omega⟩ (λ_ _ _ _ _=>trivial) ?_ ?_⟩
 ·rintro i x ρ M' hx ⟨o,v,row,rfl,D',hu',tM,es,gz,hl⟩ N hN;obtain⟨hi,rfl⟩:=lH hx;dsimp? [];refine⟨d,l,v,p,s,6,si s i,row,rfl,D',tM,hp,s0,s8,by decide,by decide,(wJ s0 s8 (by omega)).1,by omega,gz,λt' uS M'' ch lY Vh D'' sb=> ?_⟩;dsimp? [];exact hN _ _ ⟨_,t',uS,rfl,D'',sb u _ XG hu',Vh,es.trans ch.eqs,by rw[<- Kl];exact ch.row,by have:=ch.len;omega⟩
 rintro ρ M7 ⟨o,v,row,rfl,D7,R1,Um,es,gz,hl⟩
 rw[iG] at gz hl
 clear D4 D5 D6 b6 NO Mr QM QL Hw ht TB hu
 dsimp? [R1]
 intro t1 Ya
 dsimp? []
 have R0:=wJ s0 s8 (k:=0) (by decide)
 have Uk:=wJ s0 s8 (k:=n.toNat) (by omega)
 have Yv:By s p 6 (si s 0) pats:=⟨xj,by omega,hp,s0,s8,by decide,by decide,R0.2.2,R0.1,R0.2.1⟩
 have hPb:By s p 6 (si s n.toNat) row:=⟨gz,by omega,hp,s0,s8,by decide,by decide,Uk.2.2,Uk.1,Uk.2.1⟩
 refine⟨t1,p,s,6,si s 0,pats,rfl,um_same,Yv,λM8 v1 as1 sts Ps NR Xv _ _ _ _=> ?_⟩
 have Z7:M8 v=some (.lst (row.map cR)):=Xv v _ (by rw[aJ (λe=>by rw[e,Ya] at Um;cases Um)];exact Um)
 have hu8:M8 u=some (.lst (pats.map cR)):=Xv u _ (by rw[aJ (λe=>by rw[e,Ya] at R1;cases R1)];exact R1)
 dsimp? []
 refine⟨v,p,s,6,si s n.toNat,row,rfl,Z7,hPb,λM9 v2 as2 Zj Ps2 Ww Zn _ _ _ _=> ?_⟩
 obtain rfl:=NR.one hp s0 Ww es
 have hu9:=Zn u _ hu8
 dsimp? [hu9]
 intro t2 FQ
 dsimp? []
 refine⟨t2,p,s,6,si s 0,pats,rfl,um_same,Yv,λM10 v3 as3 Zi Ps3 Wv Zp _ _ _ _=> ?_⟩
 obtain rfl:=NR.one hp s0 Wv wx.refl
 dsimp? []
 intro r hr
 dsimp? []
 have hn3:sts.length<=3:=a4 NR.MB (by omega)
 have hE:2*((sts.length:Int)*si s 0) <=960:=by have h:=Nat.mul_le_mul hn3 R0.1;have e:(sts.length:Int)*si s 0=((sts.length*si s 0:Nat):Int):=(Int.natCast_mul _ _).symm;rw[e];lia
 have hL: ∀st∈sts,st.length<=16000000:=λst h=>by have:=Wt.len (mX (NR.f9.of h).pat) ((NR.bx st h).1.wt s0 s8 (by decide) hE hE (by decide)) (by decide);exact a4 this (by decide)
 refine iO (λi ρ M'=> ∃o2:Option W,ρ= [none,some (wr d),some (wi p),some (wi s),some (wr u),some (wr v),o,some (.tup [.tup (sts.map cR),wr v1]),some (.tup [.tup (sts.map cR),wr v2]),some (.tup [.tup (sts.map cR),wr v3]),o2] /\ M' r=some (.lst [.tup [.tup (sts.map cR),wr v1], .tup [.tup (sts.map cR),wr v2], .tup [.tup (sts.map cR),wr v3]])) ⟨_,rfl,um_same⟩ (λi ρ M' _ h=>h.elim λ_ h=>h.2) ?_ ?_
 ·rintro i x ρ M' hx ⟨o2,rfl,kO⟩ N hN;obtain⟨vx,rfl⟩: ∃vx,x= .tup [.tup (sts.map cR),wr vx]:=by
   match i,hx with
   | 0,hx=>exact⟨v1,by simpa using hx.symm⟩
   | 1,hx=>exact⟨v2,by simpa using hx.symm⟩
   | 2,hx=>exact⟨v3,by simpa using hx.symm⟩
   | i+3,hx=>simp at hx
  dsimp? [];refine tG (λh=>absurd rfl h) λ_=> ?_;dsimp? [];refine vV (λ_:Pt=>wb true) (big (by omega)) (λ_ _=>trivial) ?_ λr2 Hg=> ?_
  ·intro pt kP M3 N s3 hN;dsimp? [];refine⟨p,pt,rfl,(NR.f9.of kP).pat,hL pt kP,?_⟩;dsimp? [];exact hN
  have Wf: ∀l:List Pt,((l.map λ_=>true).all id)=true:=λl=>by rw[List.all_eq_true];intro b hb;obtain⟨_,_,rfl⟩:=af.mp hb;rfl
  refine Kr (bs:=sts.map λ_=>true) (by rw[um_same,aD];rfl) ?_;rw[Wf];dsimp? [];exact hN _ _ ⟨_,rfl,by rw[aJ (dw kO Hg)];exact kO⟩
 rintro ρ M' ⟨o2,rfl,kO⟩
 dsimp? []
 have hd:Bk (.tup (sts.map cR))=some (.tup (sts.map DE)):=by rw[Bk,vQ HF];rfl
 refine E7 (.inl hd) (.inl hd) (zM sts) rfl ?_
 dsimp? []
 refine E7 (.inl hd) (.inl hd) (zM sts) rfl ?_
 dsimp? []
 done
end
end f7
namespace f7
open PySem L2 WL WQ PyProof.Rows
theorem walk {l:PySem.W.OpenLaw}{q:Program}{loose:List Str}{XP:(Str ->Option Value) ->Heap ->Prop}{YP:World ->Heap ->Prop}{d:DefRec}{K:Params ->PySem.W.Frag}(hn:l.most=some 63)(QF:d.params.defaults= []) (hY: ∀ (w:World) (h:Heap),YP w h ->(K w.params).In h) (nm:d.name= "law") (F: ∀ (w:World) (mg:Str ->Option Value) (h:Heap),(K w.params).In h ->h.Ns mainGlobals mg -> ∃A,Txt (K w.params) mg A): PySem.W.WalkO q loose XP YP l.row.toRowW d [] (λf vs=>PySem.call f vs):=L2.F9 (n:=63) (k:=8) (x:= "_law_script") (CX:=λ_=>iV) (sp:=λw=>uH (K w.params)) hn (by decide) QF ⟨rfl,by decide,by decide⟩ hY (λw mg fa h X G e=>(F w mg h X G).elim λ_ T=>LI T.law (nm▸e) (λ_ _ _ _ _ _ _=>rfl) λ_=>Lo T) (λ_ _ a ns hl _ hS=>⟨a,ns,rfl,hS,λ_=>rfl⟩) λ_ _ _ _ _ z=>z
end f7
def PySem.W.Fast.tw2712393993265628633:Nat:=0
def PySem.W.Fast.tw14178297393973869920:Nat:=0
def PySem.W.Fast.tw5039464981239515627:Nat:=0
def PySem.W.Fast.tw12468153394376142350:Nat:=0
def PySem.W.Fast.tw14616785232405591774:Nat:=0
def PySem.W.Fast.tw5317040415346826411:Nat:=0
def PySem.W.Fast.tw7537523194505096061:Nat:=0
def PySem.W.Fast.tw10523212703246914668:Nat:=0
def PySem.W.Fast.tw2295192464279175502:Nat:=0
def PySem.W.Fast.tw15387914696709316868:Nat:=0
def PySem.W.Fast.tw713645563590300882:Nat:=0
def PySem.W.Fast.tw11647779417036433081:Nat:=0
def PySem.W.Fast.tw14609847958399240537:Nat:=0
def PySem.W.Fast.tw13469523572298019155:Nat:=0
def PySem.W.Fast.tw11300400397860362315:Nat:=0
def PySem.W.Fast.tw12909396292343953736:Nat:=0
def PySem.W.Fast.tw9602839498526562267:Nat:=0
def PySem.W.Fast.tw17607074299155190611:Nat:=0
def PySem.W.Fast.tw10431904771141084203:Nat:=0
def PySem.W.Fast.tw1495684731346390271:Nat:=0
def PySem.W.Fast.tw8090740322025170735:Nat:=0
def PySem.W.Fast.tw12388099917876582462:Nat:=0
def PySem.W.Fast.tw391174431134716254:Nat:=0
def PySem.W.Fast.tw9049830385516666501:Nat:=0
def PySem.W.Fast.tw15687565273672187541:Nat:=0
def PySem.W.Fast.tw12938377762298046598:Nat:=0
def PySem.W.Fast.tw1567132936643894791:Nat:=0
def PySem.W.Fast.tw1536117943888691841:Nat:=0
def PySem.W.Fast.tw499543008251012297:Nat:=0
def PySem.W.Fast.tw13630833542159614420:Nat:=0
def PySem.W.Fast.tw16492500767999907922:Nat:=0
def PySem.W.Fast.tw14676539498816102086:Nat:=0
def PySem.W.Fast.tw9670970077532495628:Nat:=0
def PySem.W.Fast.tw10558917282258717627:Nat:=0
def PySem.W.Fast.tw3646908725859837654:Nat:=0
def PySem.W.Fast.tw7778762962774565427:Nat:=0
def PySem.W.Fast.tw3688749244303511040:Nat:=0
def PySem.W.Fast.tw15621679650787198973:Nat:=0
def PySem.W.Fast.tw14584584921077765555:Nat:=0
def PySem.W.Fast.tw5124193723044306300:Nat:=0
def PySem.W.Fast.tw14385485190973551885:Nat:=0
def PySem.W.Fast.tw15229951549317592946:Nat:=0
def PySem.W.Fast.tw2010982615044416231:Nat:=0
def PySem.W.Fast.tw7867374257406033606:Nat:=0
def PySem.W.Fast.tw6728348413346894728:Nat:=0
def PySem.W.Fast.tw13703485418368633520:Nat:=0
def PySem.W.Fast.tw315155290285399176:Nat:=0
def PySem.W.Fast.tw6601280031250643923:Nat:=0
def PySem.W.Fast.tw2274020052156000592:Nat:=0
def PySem.W.Fast.tw17117817857125735702:Nat:=0
def PySem.W.Fast.tw12596370480473954759:Nat:=0
def PySem.W.Fast.tw6246742873935016525:Nat:=0
def PySem.W.Fast.tw17695876937194871351:Nat:=0
def PySem.W.Fast.tw3536860750894709014:Nat:=0
def PySem.W.Fast.tw1993481691843821689:Nat:=0
def PySem.W.Fast.tw13582462419605379747:Nat:=0
def PySem.W.Fast.tw6368470317853764390:Nat:=0
open PySem PySem.W PyProof.Rows L2
set_option maxRecDepth 100000 in
set_option maxHeartbeats 0 in
theorem PySem.Challenge.cw_duskround_k22_whole_one_form_of_stairs_holds : PySem.Challenge.rw_duskround_k22_whole_one_form_of_stairs.Holds := by
 w_on;o_law;k_head;(case hw=>w_witness2)
 k_fill
 refine f7.walk (l:=PySem.Challenge.rw_duskround_k22_whole_one_form_of_stairs) rfl rfl (λw h Y=>PySem.W.kIn_of Y) rfl λw mg h X G=> ?_
 have' MV:=dz (x:= "tidy") (ps:= ["p","pairs"]) (st:=f7.sI) X G ?g14 ?g15 ?g16 ?g17 (λ_ _ _ _ _ _ _ _=>rfl);(case g14=>k_is);(case g15=>k_is);(case g16=>k_is);(case g17=>k_is);have' BH:=dz (x:= "inverse") (ps:= ["p","setting"]) (st:=f7.mU) X G ?g18 ?g19 ?g20 ?g21 (λ_ _ _ _ _ _ _ _=>rfl);(case g18=>k_is);(case g19=>k_is);(case g20=>k_is);(case g21=>k_is);have' FI:=Fm (x:= "Row") (ps:= ["self","lamps","parts"]) (st:=f7.C2) X G ?g22 ?g23 ?g24 ?g25 ?g26 ?g27 ?g28 ?g29 ?g30 ?g31 ?g32 ?g33 (λ_ _ _ _ _ _ _ _ _=>rfl);(case g22=>k_is);(case g23=>k_is);(case g24=>k_is);(case g25=>k_is);(case g26=>k_is);(case g27=>k_is);(case g28=>k_is);(case g29=>k_is);(case g30=>k_is);(case g31=>k_is);(case g32=>k_is);(case g33=>k_is);have' kc:=Fm (x:= "Stair") (ps:= ["self","row","first","length","foot"]) (st:=f7.sM) X G ?g34 ?g35 ?g36 ?g37 ?g38 ?g39 ?g40 ?g41 ?g42 ?g43 ?g44 ?g45 (λ_ _ _ _ _ _ _ _ _ _ _=>rfl);(case g34=>k_is);(case g35=>k_is);(case g36=>k_is);(case g37=>k_is);(case g38=>k_is);(case g39=>k_is);(case g40=>k_is);(case g41=>k_is);(case g42=>k_is);(case g43=>k_is);(case g44=>k_is);(case g45=>k_is);have' FH:=dz (x:= "column") (ps:= ["place","stride"]) (st:=f7.oY) X G ?g46 ?g47 ?g48 ?g49 (λ_ _ _ _ _ _ _ _=>rfl);(case g46=>k_is);(case g47=>k_is);(case g48=>k_is);(case g49=>k_is);have' qd:=dz (x:= "first_column") (ps:= ["places","stride"]) (st:=f7.fF) X G ?g50 ?g51 ?g52 ?g53 (λ_ _ _ _ _ _ _ _=>rfl);(case g50=>k_is);(case g51=>k_is);(case g52=>k_is);(case g53=>k_is);have' BI:=dz (x:= "heights") (ps:= ["places","stride","first"]) (st:=f7.iF) X G ?g54 ?g55 ?g56 ?g57 (λ_ _ _ _ _ _ _ _ _=>rfl);(case g54=>k_is);(case g55=>k_is);(case g56=>k_is);(case g57=>k_is);have' qA:=dz (x:= "add_shifted") (ps:= ["p","held","others","by","n"]) (st:=f7.iz) X G ?g58 ?g59 ?g60 ?g61 (λ_ _ _ _ _ _ _ _ _ _ _=>rfl);(case g58=>k_is);(case g59=>k_is);(case g60=>k_is);(case g61=>k_is);have' wu:=dz (x:= "add_moved") (ps:= ["p","stride","row","other","shift","n"]) (st:=f7.jz) X G ?g62 ?g63 ?g64 ?g65 (λ_ _ _ _ _ _ _ _ _ _ _ _=>rfl);(case g62=>k_is);(case g63=>k_is);(case g64=>k_is);(case g65=>k_is);have' mF:=dz (x:= "too_high_or_low") (ps:= ["found","length"]) (st:=f7.fE) X G ?g66 ?g67 ?g68 ?g69 (λ_ _ _ _ _ _ _ _=>rfl);(case g66=>k_is);(case g67=>k_is);(case g68=>k_is);(case g69=>k_is);have' Rt:=dz (x:= "cut") (ps:= ["p","stride","row","stair"]) (st:=f7.C1) X G ?g70 ?g71 ?g72 ?g73 (λ_ _ _ _ _ _ _ _ _ _=>rfl);(case g70=>k_is);(case g71=>k_is);(case g72=>k_is);(case g73=>k_is);have' HX:=dz (x:= "stood") (ps:= ["p","stride","row"]) (st:=f7.sJ) X G ?g74 ?g75 ?g76 ?g77 (λ_ _ _ _ _ _ _ _ _=>rfl);(case g74=>k_is);(case g75=>k_is);(case g76=>k_is);(case g77=>k_is);have' uh:=dz (x:= "told_parts") (ps:= ["p","parts","n"]) (st:=f7.gx) X G ?g78 ?g79 ?g80 ?g81 (λ_ _ _ _ _ _ _ _ _=>rfl);(case g78=>k_is);(case g79=>k_is);(case g80=>k_is);(case g81=>k_is);have' BE:=dz (x:= "take_in") (ps:= ["p","stride","held","row"]) (st:=f7.mR) X G ?g82 ?g83 ?g84 ?g85 (λ_ _ _ _ _ _ _ _ _ _=>rfl);(case g82=>k_is);(case g83=>k_is);(case g84=>k_is);(case g85=>k_is);have' BF:=dz (x:= "lie_low") (ps:= ["p","stride","held"]) (st:=f7.mS) X G ?g86 ?g87 ?g88 ?g89 (λ_ _ _ _ _ _ _ _ _=>rfl);(case g86=>k_is);(case g87=>k_is);(case g88=>k_is);(case g89=>k_is);have' H0:=dz (x:= "built") (ps:= ["p","stride","patterns"]) (st:=f7.lF) X G ?g90 ?g91 ?g92 ?g93 (λ_ _ _ _ _ _ _ _ _=>rfl);(case g90=>k_is);(case g91=>k_is);(case g92=>k_is);(case g93=>k_is);have' BG:=dz (x:= "_law_begin") (ps:= ["_law_script"]) (st:=f7.mT) X G ?g94 ?g95 ?g96 ?g97 (λ_ _ _ _ _ _ _=>rfl);(case g94=>k_is);(case g95=>k_is);(case g96=>k_is);(case g97=>k_is);have' FG:=dz (x:= "_law_take") (ps:= ["_law_draw","_law_many"]) (st:=f7.oX) X G ?g98 ?g99 ?V0 ?VZ (λ_ _ _ _ _ _ _ _=>rfl);(case g98=>k_is);(case g99=>k_is);(case V0=>k_is);(case VZ=>k_is);have' Rr:=dz (x:= "_law_p") (ps:= ["_law_draw"]) (st:=f7.C0) X G ?VY ?VX ?VW ?VU (λ_ _ _ _ _ _ _=>rfl);(case VY=>k_is);(case VX=>k_is);(case VW=>k_is);(case VU=>k_is);have' FF:=dz (x:= "_law_tidy") (ps:= ["_law_p_here","_law_pairs"]) (st:=f7.lE) X G ?VT ?VS ?VR ?VQ (λ_ _ _ _ _ _ _ _=>rfl);(case VT=>k_is);(case VS=>k_is);(case VR=>k_is);(case VQ=>k_is);have' wo:=dz (x:= "_law_pattern") (ps:= ["_law_draw","_law_p_here","_law_most","_law_far"]) (st:=f7.jx) X G ?VP ?VO ?VN ?VM (λ_ _ _ _ _ _ _ _ _ _=>rfl);(case VP=>k_is);(case VO=>k_is);(case VN=>k_is);(case VM=>k_is);have' mG:=dz (x:= "_law_draw_patterns") (ps:= ["_law_draw","_law_p_here","_law_most"]) (st:=f7.eh) X G ?VL ?VJ ?VI ?VH (λ_ _ _ _ _ _ _ _ _=>rfl);(case VL=>k_is);(case VJ=>k_is);(case VI=>k_is);(case VH=>k_is);have' HY:=dz (x:= "_law_sum") (ps:= ["_law_p_here","_law_one","_law_other","_law_by","_law_many"]) (st:=f7.ou) X G ?VG ?VF ?VE ?VD (λ_ _ _ _ _ _ _ _ _ _ _=>rfl);(case VG=>k_is);(case VF=>k_is);(case VE=>k_is);(case VD=>k_is);have' HZ:=dz (x:= "_law_int") (ps:= ["_law_thing"]) (st:=f7.sL) X G ?VC ?VB ?VA ?Vz (λ_ _ _ _ _ _ _=>rfl);(case VC=>k_is);(case VB=>k_is);(case VA=>k_is);(case Vz=>k_is);have' qc:=dz (x:= "_law_is_pattern") (ps:= ["_law_p_here","_law_thing"]) (st:=f7.gG) X G ?Vy ?Vx ?Vw ?Vv (λ_ _ _ _ _ _ _ _=>rfl);(case Vy=>k_is);(case Vx=>k_is);(case Vw=>k_is);(case Vv=>k_is);have' wq:=dz (x:= "_law_changed") (ps:= ["_law_draw","_law_p_here","_law_stride","_law_patterns"]) (st:=f7.jy) X G ?Vu ?Vt ?Vs ?Vr (λ_ _ _ _ _ _ _ _ _ _=>rfl);(case Vu=>k_is);(case Vt=>k_is);(case Vs=>k_is);(case Vr=>k_is);have' Rq:=dz (x:= "law") (ps:= ["_law_script"]) (st:=f7.yQ) X G ?Vq ?Vp ?Vo ?Vn (λ_ _ _ _ _ _ _=>rfl);(case Vq=>k_is);(case Vp=>k_is);(case Vo=>k_is);(case Vn=>k_is);have' wd:=pz FI "lamps" ?dJ;(case dJ=>k_is);have' v9:=pz FI "parts" ?dZ;(case dZ=>k_is);have' qz:=pz kc "first" ?gd;(case gd=>k_is);have' uc:=pz kc "foot" ?gy;(case gy=>k_is);have' qy:=pz kc "lamps" ?dE;(case dE=>k_is);have' p6:=pz kc "length" ?fH;(case fH=>k_is);have' qx:=pz kc "parts" ?dD;(case dD=>k_is)
 refine' ⟨⟨_,_,_,_,_,_,_,_,_,_,_,_,_,_,_,_,_,_,_,_,_,_,_,_,_,_,_,_,_,_,_,_,_,_,_,_,_,_,_,_,_,_,_,_,_,_,_,_,_,_,_,_,_,_,_,_⟩,bS X G ?g1,bS X G ?g2,bS X G ?g3,bS X G ?g4,bS X G ?g5,bS X G ?g6,bS X G ?g7,bS X G ?g8,bS X G ?g9,bS X G ?g10,bS X G ?g11,bS X G ?g12,bS X G ?g13,MV,BH,FI,kc,FH,qd,BI,qA,wu,mF,Rt,HX,uh,BE,BF,H0,BG,FG,Rr,FF,wo,mG,HY,HZ,qc,wq,Rq,wd,v9,qz,uc,qy,p6,qx⟩
 (case g1=>k_is);(case g2=>k_is);(case g3=>k_is);(case g4=>k_is);(case g5=>k_is);(case g6=>k_is);(case g7=>k_is);(case g8=>k_is);(case g9=>k_is);(case g10=>k_is);(case g11=>k_is);(case g12=>k_is);(case g13=>k_is)
