import PyProof.Rows.All
import Wide.All
import OpenK.AllK
import Wide.FinOn
import Lean
import PyProof.EqAt
import PyProof.EqKinds
import PyProof.TupleCall
import PyProof.NeKinds
import PyProof.SumAny
import PyProof.ConsumeS
import PyProof.WalkInts
import PyProof.Draws
import PyProof.EnumMake
import PyProof.Rows.Range3
import PyProof.MeetsStr
import KE.KDictLaws
import PyProof.Rows.CallKwBuiltin
import PyProof.DictItems
import KE.KPairComp
import PyProof.AttrMissHeap
import KE.KDictOf
import KE.KItemsList
import PySem.Challenge.RW_duskround_k20_whole_one_rest_each
set_option Elab.async false
set_option linter.all false
set_option maxRecDepth 100000
namespace TS
open PySem PyProof.Rows
def LE (less:Keyed ->Keyed ->Bool)(x y:Keyed):Prop:=less y x=false
structure Ord (less:Keyed ->Keyed ->Bool):Prop where
 asym: ∀x y,less x y=true ->less y x=false
 trans: ∀x y z,LE less x y ->LE less y z ->LE less x z
section
variable {less:Keyed ->Keyed ->Bool}
theorem Ord.refl (O:Ord less)(x:Keyed):LE less x x:=by
 unfold LE
 cases h:less x x with
 | false=>rfl
 | true=>exact(O.asym x x h).symm.trans h▸rfl
theorem Ord.le (O:Ord less){x y:Keyed}(h:less x y=true):LE less x y:=O.asym x y h
theorem Ord.le_lt (O:Ord less){x y z:Keyed}(h:LE less x y)(h':less y z=true):less x z=true:=by
 cases e:less x z with
 | true=>rfl
 | false=>
   have:=O.trans z x y e h
   unfold LE at this
   rw[h'] at this;cases this
end
def ath (xs:Array Keyed)(i:Nat):Keyed:=(xs[i]?).getD (.none, .none)
theorem tG {xs:Array Keyed}{i:Nat}(h:i<xs.size):xs[i]? =some (ath xs i):=by
 unfold ath;rw[getElem?_pos xs i h];rfl
theorem c5 {xs ys:Array Keyed}{i j:Nat}(h:xs[i]? =ys[j]?):ath xs i=ath ys j:=by unfold ath;rw[h]
theorem kf {xs:Array Keyed}{i:Nat}(h:i<xs.size):ath xs i∈xs.toList:=by
 unfold ath;rw[getElem?_pos xs i h];simp
def Sg (less:Keyed ->Keyed ->Bool)(xs:Array Keyed)(lo hi:Nat):Prop:= ∀i j,lo<=i ->i<=j ->j<hi ->LE less (ath xs i) (ath xs j)
def Ng (less:Keyed ->Keyed ->Bool)(xs:Array Keyed)(lo hi:Nat):Prop:= ∀i j,lo<=i ->i<=j ->j<hi ->LE less (ath xs j) (ath xs i)
structure SB (kd:SortKind)(a₀:Array Keyed)(st:SortSt):Prop where
 perm:(arrOf st).Perm a₀
 kd:kindOf st=kd
 fl:failedOf st=none
theorem SB.size {kd:SortKind}{a₀:Array Keyed}{st:SortSt}(h:SB kd a₀ st):(arrOf st).size=a₀.size:=h.perm.size_eq
theorem SB.mem {kd:SortKind}{a₀:Array Keyed}{st:SortSt}(h:SB kd a₀ st){i:Nat}(hi:i<a₀.size):ath (arrOf st) i∈a₀.toList:=
 (Array.perm_iff_toList_perm.mp h.perm).mem_iff.mp (kf (by rw[h.size];exact hi))
theorem SB.arr {kd:SortKind}{a₀:Array Keyed}{st:SortSt}(h:SB kd a₀ st){xs:Array Keyed}(hp:xs.Perm (arrOf st)):SB kd a₀ (setArr st xs):=⟨hp.trans h.perm,h.kd,h.fl⟩
def cG (prog:Program)(w:World)(A:Around)(E:Value ->Shared ->Prop)(s:Shared)(kd:SortKind)(a₀:Array Keyed)(less:Keyed ->Keyed ->Bool):Prop:=
 ∀ (x y:Keyed) (st:SortSt) (Q:Option Bool ->SortSt ->Prop),x∈a₀.toList ->y∈a₀.toList ->kindOf st=kd ->Q (some (less x y)) st ->wpS (model prog w) A E s (lt' x y) Q st
section
variable {prog:Program}{w:World}{A:Around}{E:Value ->Shared ->Prop}{s:Shared}{kd:SortKind}{a₀:Array Keyed}{less:Keyed ->Keyed ->Bool}
theorem aK {xs:Array Keyed}{i:Nat}{Q:Keyed ->SortSt ->Prop}{st:SortSt}(hi:i<xs.size)(h:Q (ath xs i) st):wpS (model prog w) A E s (elem' xs i) Q st:=by
 rw[elem'_eq,tG hi];exact wpS_pure h
theorem kn (L:cG prog w A E s kd a₀ less){st:SortSt}{i j:Nat}{Q:Option Bool ->SortSt ->Prop}(B:SB kd a₀ st)(hi:i<a₀.size)(hj:j<a₀.size)
   (h:Q (some (less (ath (arrOf st) i) (ath (arrOf st) j))) st):wpS (model prog w) A E s (ltAt' i j) Q st:=by
 rw[ltAt'_eq]
 refine wpS_bind (wpS_get ?_)
 exact wpS_bind (aK (by rw[B.size];exact hi) (wpS_bind (aK (by rw[B.size];exact hj) (L _ _ _ _ (B.mem hi) (B.mem hj) B.kd h))))
theorem jl {st:SortSt}{i j:Nat}{Q:Unit ->SortSt ->Prop}(h:Q () (setArr st (mirror (arrOf st) i j ((j - i) / 2)))):wpS (model prog w) A E s (reverseSlice' i j) Q st:=by
 rw[reverseSlice'_eq];exact wpS_modify h
theorem a6 {xs:Array Keyed}{i j:Nat}(hj:j<=xs.size)(k:Nat):ath (mirror xs i j ((j - i) / 2)) k=if i<=k /\ k<j then ath xs (i+j - 1 - k) else ath xs k:=by
 have e:=getElem?_mirror_all (i:=i) hj k
 by_cases c:i<=k /\ k<j
 · rw[if_pos c] at e ⊢;exact c5 e
 · rw[if_neg c] at e ⊢;exact c5 e
theorem eR {xs:Array Keyed}{src d:Nat}(hs:src<xs.size)(hd:d<=src)(k:Nat):ath (bubble xs src d) k=if k=src - d then ath xs src else if src - d<k /\ k<=src then ath xs (k - 1) else ath xs k:=by
 have e:=getElem?_bubble hs d hd k
 by_cases c:k=src - d
 · rw[if_pos c] at e ⊢;exact c5 e
 · rw[if_neg c] at e ⊢
   by_cases c':src - d<k /\ k<=src
   · rw[if_pos c'] at e ⊢;exact c5 e
   · rw[if_neg c'] at e ⊢;exact c5 e
def tK (lo a nrem:Nat):StateT SortSt Sem AscSt:=
 forIn [a:nrem] ((none,a):AscSt) fun _ c=>do
   let x <- ltAt' (lo+c.snd) (lo+c.snd - 1)
   match x with
   | some b=>if b=true then pure (ForInStep.done (none,c.snd)) else pure (ForInStep.yield (none,c.snd+1))
   | _=>pure (ForInStep.done (some none,c.snd))
def kz (lo n nrem:Nat):StateT SortSt Sem (Option Nat):=do
 reverseSlice' lo (lo+n)
 let c <- tK lo n nrem
 match c.fst with
 | some r=>pure r
 | none=>pure (some c.snd)
def oh (lo n nrem:Nat):StateT SortSt Sem DescSt:=
 forIn [n:nrem] ((none,n,0):DescSt) fun _ c=>do
   let x <- ltAt' (lo+c.snd.fst) (lo+c.snd.fst - 1)
   match x with
   | some b=>
     if b=true then
       if c.snd.snd >0 then do
         reverseSlice' (lo+c.snd.fst - (c.snd.snd+1)) (lo+c.snd.fst)
         pure (ForInStep.yield (none,c.snd.fst+1,0))
       else pure (ForInStep.yield (none,c.snd.fst+1,0))
     else do
       let y <- ltAt' (lo+c.snd.fst - 1) (lo+c.snd.fst)
       match y with
       | some d=>
         if d=true then pure (ForInStep.done (none,c.snd.fst,c.snd.snd))
         else pure (ForInStep.yield (none,c.snd.fst+1,c.snd.snd+1))
       | _=>pure (ForInStep.done (some none,c.snd.fst,c.snd.snd))
   | _=>pure (ForInStep.done (some none,c.snd.fst,c.snd.snd))
def kQ (lo n nrem:Nat):StateT SortSt Sem (Option Nat):=do
 liftM (rule "list.sort.descending-run")
 let c <- oh lo (n+1) nrem
 match c.fst with
 | some r=>pure r
 | none=>
   if c.snd.snd >0 then do
     reverseSlice' (lo+c.snd.fst - (c.snd.snd+1)) (lo+c.snd.fst)
     kz lo c.snd.fst nrem
   else kz lo c.snd.fst nrem
theorem uv (lo nrem:Nat):countRun' lo nrem=(do
   let c <- tK lo 1 nrem
   match c.fst with
   | some r=>pure r
   | none =>
     if(c.snd==nrem)=true then pure (some c.snd)
     else if c.snd >1 then do
       let x <- ltAt' lo (lo+c.snd - 1)
       match x with
       | some b=>if b=true then pure (some c.snd) else do
           reverseSlice' lo (lo+c.snd)
           kQ lo c.snd nrem
       | _=>pure none
     else kQ lo c.snd nrem):=by
 rw[countRun'_eq]
 dsimp only
 unfold kQ kz oh tK
 congr 1
 funext c
 obtain⟨r,n⟩:=c
 cases r with
 | some r=>rfl
 | none =>
   dsimp only
   split
   · rfl
   · split
     · congr 1
       funext x
       cases x with
       | none=>rfl
       | some b=>
         dsimp only
         split
         · rfl
         · congr 1
           funext _r
           congr 1;funext _u;congr 1;congr 1;funext s2;obtain⟨r2,n2,q2⟩:=s2
           cases r2 with
           | some r2=>rfl
           | none=>
             dsimp only;split
             · congr 1;funext _v;congr 1;funext _w;congr 1;funext s3;obtain⟨r3,n3⟩:=s3;cases r3<;>rfl
             · congr 1;funext _w;congr 1;funext s3;obtain⟨r3,n3⟩:=s3;cases r3<;>rfl
     · congr 1;funext _u;congr 1;congr 1;funext s2;obtain⟨r2,n2,q2⟩:=s2
       cases r2 with
       | some r2=>rfl
       | none=>
         dsimp only;split
         · congr 1;funext _v;congr 1;funext _w;congr 1;funext s3;obtain⟨r3,n3⟩:=s3;cases r3<;>rfl
         · congr 1;funext _w;congr 1;funext s3;obtain⟨r3,n3⟩:=s3;cases r3<;>rfl
def Out (lo hi:Nat)(xs ys:Array Keyed):Prop:= ∀k,k<lo \/ hi<=k ->ath ys k=ath xs k
theorem Out.refl {lo hi:Nat}{xs:Array Keyed}:Out lo hi xs xs:=fun _ _=>rfl
theorem Out.trans {lo hi:Nat}{xs ys zs:Array Keyed}(a:Out lo hi xs ys)(b:Out lo hi ys zs):Out lo hi xs zs:=fun k h=>(b k h).trans (a k h)
theorem mS (O:Ord less)(L:cG prog w A E s kd a₀ less){st:SortSt}{lo a nrem:Nat}{Q:AscSt ->SortSt ->Prop}(hn:lo+nrem<=a₀.size)(ha:1<=a)(han:a<=nrem)(B:SB kd a₀ st)
   (hs:Sg less (arrOf st) lo (lo+a))
   (h: ∀n,a<=n ->n<=nrem ->Sg less (arrOf st) lo (lo+n) ->(n=nrem \/ less (ath (arrOf st) (lo+n)) (ath (arrOf st) (lo+n - 1))=true) ->Q (none,n) st):
   wpS (model prog w) A E s (tK lo a nrem) Q st:=by
 unfold tK
 refine wpS_forRange (I:=fun x c st'=>st'=st /\ c=(none,x) /\ Sg less (arrOf st) lo (lo+x)) ?step ?fin ⟨rfl,rfl,hs⟩
 case fin=>
   rintro c st' ⟨rfl,rfl,hs'⟩
   rw[show max a nrem=nrem by lia] at hs' ⊢
   exact h nrem han (Nat.le_refl _) hs' (.inl rfl)
 case step=>
   rintro x c st' hax hxn ⟨rfl,rfl,hs'⟩
   dsimp only
   refine wpS_bind (kn L B (by lia) (by lia) ?_)
   cases e:less (ath (arrOf st') (lo+x)) (ath (arrOf st') (lo+x - 1)) with
   | true=>
     simp only[if_true]
     exact wpS_pure (h x hax (by lia) hs' (.inr e))
   | false=>
     simp only[Bool.false_eq_true,if_false]
     refine wpS_pure ⟨rfl,rfl,fun i j hi hij hj=> ?_⟩
     by_cases c:j<lo+x
     · exact hs' i j hi hij c
     · have:j=lo+x:=by lia
       subst this
       by_cases c2:i=lo+x
       · subst c2;exact O.refl _
       · exact O.trans _ _ _ (hs' i (lo+x - 1) hi (by lia) (by lia)) e
theorem kl (O:Ord less)(L:cG prog w A E s kd a₀ less){st:SortSt}{lo n nrem:Nat}{Q:Option Nat ->SortSt ->Prop}(hn:lo+nrem<=a₀.size)(h1:1<=n)(hnn:n<=nrem)(B:SB kd a₀ st)
   (hs:Ng less (arrOf st) lo (lo+n)) (h: ∀m st',SB kd a₀ st' ->1<=m ->m<=nrem ->Sg less (arrOf st') lo (lo+m) ->pendingOf st'=pendingOf st ->Out lo (lo+nrem) (arrOf st) (arrOf st') ->Q (some m) st'):
   wpS (model prog w) A E s (kz lo n nrem) Q st:=by
 unfold kz
 have hsz:lo+n<=(arrOf st).size:=by rw[B.size];lia
 refine wpS_bind (jl ?_)
 have B':SB kd a₀ (setArr st (mirror (arrOf st) lo (lo+n) ((lo+n - lo) / 2))):=B.arr (mirror_perm _ _ _ _)
 refine wpS_bind (mS O L hn h1 hnn B' ?_ fun m hm1 hm2 hsm _=>wpS_pure (h m _ B' (by lia) hm2 hsm rfl ?_))
 · intro i j hi hij hj
   show LE less (ath (mirror (arrOf st) lo (lo+n) ((lo+n - lo) / 2)) i) (ath (mirror (arrOf st) lo (lo+n) ((lo+n - lo) / 2)) j)
   rw[a6 hsz,a6 hsz,if_pos (by lia),if_pos (by lia)]
   exact hs _ _ (by lia) (by lia) (by lia)
 · intro k hk
   show ath (mirror (arrOf st) lo (lo+n) ((lo+n - lo) / 2)) k=_
   rw[a6 hsz,if_neg (by lia)]
theorem fQ (O:Ord less){xs:Array Keyed}{lo i m:Nat}(hj:m<=xs.size)(hli:lo<=i)(hs:Ng less xs lo m)(he: ∀k,i<=k ->k<m ->LE less (ath xs k) (ath xs (m - 1))):Ng less (mirror xs i m ((m - i) / 2)) lo m:=by
 intro a b ha hab hb
 rw[a6 hj,a6 hj]
 by_cases c1:i<=a
 · rw[if_pos (by lia),if_pos (by lia)]
   refine O.trans _ _ _ (he (i+m - 1 - b) (by lia) (by lia)) (hs _ _ (by lia) (by lia) (by lia))
 · rw[if_neg (show ¬(i<=a /\ a<m) by lia)]
   by_cases c2:i<=b
   · rw[if_pos (by lia)]
     exact hs _ _ (by lia) (by lia) (by lia)
   · rw[if_neg (by lia)]
     exact hs _ _ (by lia) (by lia) (by lia)
theorem eG {xs:Array Keyed}{lo hi i j:Nat}(hj:j<=xs.size)(h1:lo<=i)(h2:j<=hi):Out lo hi xs (mirror xs i j ((j - i) / 2)):=fun k hk=>by
 rw[a6 hj,if_neg (by lia)]
theorem pW (O:Ord less)(L:cG prog w A E s kd a₀ less){st:SortSt}{lo n nrem:Nat}{Q:DescSt ->SortSt ->Prop}(hn:lo+nrem<=a₀.size)(h1:1<=n)(hnn:n<=nrem)(B:SB kd a₀ st)
   (hs:Ng less (arrOf st) lo (lo+n))
   (h: ∀m neq st',SB kd a₀ st' ->n<=m ->m<=nrem ->Ng less (arrOf st') lo (lo+m) ->neq+1<=m ->(∀i,lo+m - (neq+1) <=i ->i<lo+m ->LE less (ath (arrOf st') i) (ath (arrOf st') (lo+m - 1))) ->pendingOf st'=pendingOf st ->Out lo (lo+nrem) (arrOf st) (arrOf st') ->Q (none,m,neq) st'):
   wpS (model prog w) A E s (oh lo n nrem) Q st:=by
 unfold oh
 refine wpS_forRange (I:=fun x c st'=> ∃neq,c=(none,x,neq) /\ SB kd a₀ st' /\ Ng less (arrOf st') lo (lo+x) /\ neq+1<=x /\
     (∀i,lo+x - (neq+1) <=i ->i<lo+x ->LE less (ath (arrOf st') i) (ath (arrOf st') (lo+x - 1))) /\ pendingOf st'=pendingOf st /\ Out lo (lo+nrem) (arrOf st) (arrOf st')) ?step ?fin
     ⟨0,rfl,B,hs,by lia,fun i h1 h2=>by rw[show i=lo+n - 1 by lia];exact O.refl _,rfl,Out.refl⟩
 case fin=>
   rintro c st' ⟨neq,rfl,B',hs',hq,he,hp,ho⟩
   rw[show max n nrem=nrem by lia] at hs' hq he ⊢
   exact h nrem neq st' B' hnn (Nat.le_refl _) hs' hq he hp ho
 case step =>
   rintro x c st' hax hxn ⟨neq,rfl,B',hs',hq,he,hp,ho⟩
   dsimp only
   have hsz:lo+x<=(arrOf st').size:=by rw[B'.size];lia
   refine wpS_bind (kn L B' (by lia) (by lia) ?_)
   cases e:less (ath (arrOf st') (lo+x)) (ath (arrOf st') (lo+x - 1)) with
   | true =>
     simp only[if_true]
     by_cases hneq:neq >0
     · rw [if_pos hneq]
       refine wpS_bind (jl (wpS_pure ⟨0,rfl,B'.arr (mirror_perm _ _ _ _),?_,by lia,fun i h1 h2=>by rw[show i=lo+(x+1) - 1 by lia];exact O.refl _,hp,ho.trans (eG hsz (by lia) (by lia))⟩))
       have hm:=fQ O (i:=lo+x - (neq+1)) hsz (by lia) hs' he
       intro i j hi hij hj
       by_cases c:j<lo+x
       · exact hm i j hi hij c
       · have:j=lo+x:=by lia
         subst this
         by_cases c2:i=lo+x
         · subst c2;exact O.refl _
         · refine O.trans _ _ _ ?_ (hm i (lo+x - 1) hi (by lia) (by lia))
           show LE less (ath (mirror (arrOf st') (lo+x - (neq+1)) (lo+x) ((lo+x - (lo+x - (neq+1))) / 2)) (lo+x)) (ath (mirror (arrOf st') (lo+x - (neq+1)) (lo+x) ((lo+x - (lo+x - (neq+1))) / 2)) (lo+x - 1))
           rw[a6 hsz,a6 hsz,if_neg (by lia),if_pos (by lia)]
           exact O.trans _ _ _ (O.le e) (hs' _ _ (by lia) (by lia) (by lia))
     · rw[if_neg hneq]
       refine wpS_pure ⟨0,rfl,B',fun i j hi hij hj=> ?_,by lia,fun i h1 h2=>by rw[show i=lo+(x+1) - 1 by lia];exact O.refl _,hp,ho⟩
       by_cases c:j<lo+x
       · exact hs' i j hi hij c
       · have:j=lo+x:=by lia
         subst this
         by_cases c2:i=lo+x
         · subst c2;exact O.refl _
         · exact O.trans _ _ _ (O.le e) (hs' i (lo+x - 1) hi (by lia) (by lia))
   | false =>
     simp only[Bool.false_eq_true,if_false]
     refine wpS_bind (kn L B' (by lia) (by lia) ?_)
     cases e2:less (ath (arrOf st') (lo+x - 1)) (ath (arrOf st') (lo+x)) with
     | true=>
       simp only[if_true]
       exact wpS_pure (h x neq st' B' hax (by lia) hs' hq he hp ho)
     | false=>
       simp only[Bool.false_eq_true,if_false]
       refine wpS_pure ⟨neq+1,rfl,B',fun i j hi hij hj=> ?_,by lia,fun i h1 h2=> ?_,hp,ho⟩
       · by_cases c:j<lo+x
         · exact hs' i j hi hij c
         · have:j=lo+x:=by lia
           subst this
           by_cases c2:i=lo+x
           · subst c2;exact O.refl _
           · exact O.trans _ _ _ e2 (hs' i (lo+x - 1) hi (by lia) (by lia))
       · rw[show lo+(x+1) - 1=lo+x by lia]
         by_cases c:i=lo+x
         · subst c;exact O.refl _
         · exact O.trans _ _ _ (he i (by lia) (by lia)) e
theorem km (O:Ord less)(L:cG prog w A E s kd a₀ less){st:SortSt}{lo n nrem:Nat}{Q:Option Nat ->SortSt ->Prop}(hn:lo+nrem<=a₀.size)(hnn:n+1<=nrem)(B:SB kd a₀ st)
   (hs:Ng less (arrOf st) lo (lo+(n+1))) (h: ∀m st',SB kd a₀ st' ->1<=m ->m<=nrem ->Sg less (arrOf st') lo (lo+m) ->pendingOf st'=pendingOf st ->Out lo (lo+nrem) (arrOf st) (arrOf st') ->Q (some m) st'):
   wpS (model prog w) A E s (kQ lo n nrem) Q st:=by
 unfold kQ
 refine wpS_bind (wpS_lift (wpAny_rule ⟨rfl,?_⟩))
 refine wpS_bind (pW O L hn (by lia) hnn B hs fun m neq st' B' hm1 hm2 hs' hq he hp ho=> ?_)
 dsimp only
 have hsz:lo+m<=(arrOf st').size:=by rw[B'.size];lia
 by_cases hneq:neq >0
 · rw[if_pos hneq]
   refine wpS_bind (jl (kl O L hn (by lia) hm2 (B'.arr (mirror_perm _ _ _ _)) (fQ O hsz (by lia) hs' he) fun m2 st2 b1 b2 b3 b4 b5 b6=>h m2 st2 b1 b2 b3 b4 (b5.trans hp) (ho.trans ((eG hsz (by lia) (by lia)).trans b6))))
 · rw[if_neg hneq]
   exact kl O L hn (by lia) hm2 B' hs' fun m2 st2 b1 b2 b3 b4 b5 b6=>h m2 st2 b1 b2 b3 b4 (b5.trans hp) (ho.trans b6)
theorem wp_run (O:Ord less)(L:cG prog w A E s kd a₀ less){st:SortSt}{lo nrem:Nat}{Q:Option Nat ->SortSt ->Prop}(hn:lo+nrem<=a₀.size)(h1:1<=nrem)(B:SB kd a₀ st)
   (h: ∀m st',SB kd a₀ st' ->1<=m ->m<=nrem ->Sg less (arrOf st') lo (lo+m) ->pendingOf st'=pendingOf st ->Out lo (lo+nrem) (arrOf st) (arrOf st') ->Q (some m) st'):
   wpS (model prog w) A E s (countRun' lo nrem) Q st:=by
 rw[uv]
 refine wpS_bind (mS O L hn (Nat.le_refl 1) h1 B (fun i j hi hij hj=>by rw[show i=j by lia];exact O.refl _) fun n hn1 hn2 hsn hor=> ?_)
 dsimp only
 by_cases hnn:n=nrem
 · rw[if_pos (by simpa using hnn)]
   exact wpS_pure (h n st B hn1 hn2 hsn rfl Out.refl)
 · rw [if_neg (by simpa using hnn)]
   have hlt:=hor.resolve_left hnn
   have hsz:lo+n<=(arrOf st).size:=by rw[B.size];lia
   by_cases hgt:n >1
   · rw [if_pos hgt]
     refine wpS_bind (kn L B (by lia) (by lia) ?_)
     cases e:less (ath (arrOf st) lo) (ath (arrOf st) (lo+n - 1)) with
     | true=>
       simp only[if_true]
       exact wpS_pure (h n st B hn1 hn2 hsn rfl Out.refl)
     | false=>
       simp only[Bool.false_eq_true,if_false]
       have hng:Ng less (arrOf st) lo (lo+n):=fun i j hi hij hj=>O.trans _ _ _ (O.trans _ _ _ (hsn j (lo+n - 1) (by lia) (by lia) (by lia)) e) (hsn lo i (Nat.le_refl _) hi (by lia))
       refine wpS_bind (jl (km O L hn (by lia) (B.arr (mirror_perm _ _ _ _)) ?_ fun m2 st2 b1 b2 b3 b4 b5 b6=>h m2 st2 b1 b2 b3 b4 b5 ((eG hsz (by lia) (by lia)).trans b6)))
       have hm:=fQ O (i:=lo) hsz (Nat.le_refl _) hng fun k _ _=>hsn k (lo+n - 1) (by lia) (by lia) (by lia)
       intro i j hi hij hj
       by_cases c:j<lo+n
       · exact hm i j hi hij c
       · have:j=lo+n:=by lia
         subst this
         by_cases c2:i=lo+n
         · subst c2;exact O.refl _
         · refine O.trans _ _ _ ?_ (hm i (lo+n - 1) hi (by lia) (by lia))
           show LE less (ath (mirror (arrOf st) lo (lo+n) ((lo+n - lo) / 2)) (lo+n)) (ath (mirror (arrOf st) lo (lo+n) ((lo+n - lo) / 2)) (lo+n - 1))
           rw[a6 hsz,a6 hsz,if_neg (by lia),if_pos (by lia)]
           exact O.trans _ _ _ (O.le hlt) (hng _ _ (by lia) (by lia) (by lia))
   · rw[if_neg hgt]
     have hn1':n=1:=by lia
     subst hn1'
     refine km O L hn (by lia) B (fun i j hi hij hj=> ?_) h
     by_cases c:i=j
     · subst c;exact O.refl _
     · rw[show i=lo+1 - 1 by lia,show j=lo+1 by lia]
       exact O.le hlt
theorem wg (O:Ord less)(L:cG prog w A E s kd a₀ less){st:SortSt}{lo n ok:Nat}{Q:Bool ->SortSt ->Prop}(hn:lo+n<=a₀.size)(hok:ok<=n)(B:SB kd a₀ st)(hs:Sg less (arrOf st) lo (lo+ok))
   (h: ∀st',SB kd a₀ st' ->Sg less (arrOf st') lo (lo+n) ->pendingOf st'=pendingOf st ->Out lo (lo+n) (arrOf st) (arrOf st') ->Q true st'):wpS (model prog w) A E s (binarySort' lo n ok) Q st:=by
 rw[binarySort'_eq]
 refine wpS_bind (wpS_mono (wpS_forRange (I:=fun k c st'=>c=(none,()) /\ SB kd a₀ st' /\ Sg less (arrOf st') lo (lo+min k n) /\ pendingOf st'=pendingOf st /\ Out lo (lo+n) (arrOf st) (arrOf st'))
   (Q:=fun c st'=>c=(none,()) /\ SB kd a₀ st' /\ Sg less (arrOf st') lo (lo+n) /\ pendingOf st'=pendingOf st /\ Out lo (lo+n) (arrOf st) (arrOf st')) ?step ?fin ?init) ?post)
 case post=>
   rintro c st' ⟨rfl,B',hs',hp,ho⟩
   exact wpS_pure (h st' B' hs' hp ho)
 case init=>
   refine⟨rfl,B,fun i j hi hij hj=> ?_,rfl,Out.refl⟩
   by_cases c:ok=0
   · rw[show i=j by lia];exact O.refl _
   · exact hs i j hi hij (by lia)
 case fin=>
   rintro c st' ⟨hc,B',hs',hp,ho⟩
   refine⟨hc,B',?_,hp,ho⟩
   rwa [show min (max (max ok 1) n) n=n by lia] at hs'
 case step=>
   rintro k c st' hak hkn ⟨rfl,B',hs',hp,ho⟩
   rw[show min k n=k by lia] at hs'
   have hk:lo+k<a₀.size:=by lia
   refine wpS_bind (wpS_mono (wpS_forRange (I:=fun x c st''=>st''=st' /\ ∃l r,c=(none,l,r) /\ l<=r /\ r<=k /\ r - l<=k - x /\
       (∀i,i<l ->LE less (ath (arrOf st') (lo+i)) (ath (arrOf st') (lo+k))) /\ (∀i,r<=i ->i<k ->LE less (ath (arrOf st') (lo+k)) (ath (arrOf st') (lo+i))))
     (Q:=fun c st''=>st''=st' /\ ∃l r,c=(none,l,r) /\ l<=k /\
       (∀i,i<l ->LE less (ath (arrOf st') (lo+i)) (ath (arrOf st') (lo+k))) /\ (∀i,l<=i ->i<k ->LE less (ath (arrOf st') (lo+k)) (ath (arrOf st') (lo+i)))) ?istep ?ifin ?iinit) ?ipost)
   case iinit=>exact⟨rfl,0,k,rfl,by lia,by lia,by lia,fun i hi=>by lia,fun i h1 h2=>by lia⟩
   case ifin=>
     rintro c st'' ⟨rfl,l,r,rfl,hlr,hrk,hm,hlo,hhi⟩
     have:l=r:=by lia
     subst this
     exact⟨rfl,l,l,rfl,hrk,hlo,hhi⟩
   case istep=>
     rintro x c st'' _ hxk ⟨rfl,l,r,rfl,hlr,hrk,hm,hlo,hhi⟩
     dsimp only
     by_cases hge:l≥r
     · rw[if_pos hge]
       have:l=r:=by lia
       subst this
       exact wpS_pure ⟨rfl,l,l,rfl,hrk,hlo,hhi⟩
     · rw[if_neg hge]
       refine wpS_bind (kn L B' hk (by lia) ?_)
       cases e:less (ath (arrOf st'') (lo+k)) (ath (arrOf st'') (lo+(l+r) / 2)) with
       | true=>
         simp only[if_true]
         refine wpS_pure ⟨rfl,l,(l+r) / 2,rfl,by lia,by lia,by lia,hlo,fun i h1 h2=> ?_⟩
         exact O.trans _ _ _ (O.le e) (hs' _ _ (by lia) (by lia) (by lia))
       | false=>
         simp only[Bool.false_eq_true,if_false]
         refine wpS_pure ⟨rfl,(l+r) / 2+1,r,rfl,by lia,by lia,by lia,fun i h1=> ?_,hhi⟩
         exact O.trans _ _ _ (hs' (lo+i) (lo+(l+r) / 2) (by lia) (by lia) (by lia)) e
   case ipost=>
     rintro c st'' ⟨rfl,l,r,rfl,hlk,hlo,hhi⟩
     show wpS _ _ _ _ (do moveDown' (lo+k) (lo+l);pure (ForInStep.yield (none,()))) _ _
     rw[moveDown'_eq]
     have hks:lo+k< (arrOf st'').size:=by rw[B'.size];exact hk
     refine wpS_bind (wpS_modify (wpS_pure ⟨rfl,B'.arr (bubble_perm _ _ _),?_,hp,ho.trans fun j hj=> ?_⟩))
     · rw[show min (k+1) n=k+1 by lia]
       intro i j hi hij hj
       show LE less (ath (bubble (arrOf st'') (lo+k) (lo+k - (lo+l))) i) (ath (bubble (arrOf st'') (lo+k) (lo+k - (lo+l))) j)
       rw[eR hks (by lia),eR hks (by lia),show lo+k - (lo+k - (lo+l))=lo+l by lia]
       have hlo': ∀i,lo<=i ->i<lo+l ->LE less (ath (arrOf st'') i) (ath (arrOf st'') (lo+k)):=fun i h1 h2=>by
         have:=hlo (i - lo) (by lia)
         rwa [show lo+(i - lo)=i by lia] at this
       have hhi': ∀i,lo+l<=i ->i<lo+k ->LE less (ath (arrOf st'') (lo+k)) (ath (arrOf st'') i):=fun i h1 h2=>by
         have:=hhi (i - lo) (by lia) (by lia)
         rwa [show lo+(i - lo)=i by lia] at this
       repeat' split
       all_goals first
         | (exfalso;lia)
         | exact O.refl _
         | exact hlo' _ (by lia) (by lia)
         | exact hhi' _ (by lia) (by lia)
         | exact hs' _ _ (by lia) (by lia) (by lia)
     · show ath (bubble (arrOf st'') (lo+k) (lo+k - (lo+l))) j=_
       rw[eR hks (by lia),if_neg (by lia),if_neg (by lia)]
end
end TS
namespace TS
open PySem PyProof.Rows
def gal:Bool ->Keyed ->Array Keyed ->Nat ->Nat ->Nat ->StateT SortSt Sem (Option Nat):=sortPriv% PySem.Builtin.gallop
def mLo:Array Keyed ->Array Keyed ->StateT SortSt Sem (Array Keyed):=sortPriv% PySem.Builtin.mergeLo
def mHi:Array Keyed ->Array Keyed ->StateT SortSt Sem (Array Keyed):=sortPriv% PySem.Builtin.mergeHi
abbrev aD (st:SortSt)(g:Nat):SortSt:=SortSt.mk' (kindOf st) (arrOf st) (pendingOf st) g (failedOf st)
def bey (left:Bool)(key:Keyed)(arr:Array Keyed)(base i:Nat):StateT SortSt Sem (Option Bool):=do
 let x <- elem' arr (base+i)
 if left then lt' x key else return(<- lt' key x).map (!·)
theorem xB (left:Bool)(key:Keyed)(arr:Array Keyed)(base n hint:Nat):gal left key arr base n hint=(do
 let mut la:=0
 let mut f:=1
 let mut lo:=0
 let mut hi:=0
 let some g <- bey left key arr base hint | return none
 if g then
   let mx:=n - hint
   for _ in [0:n] do
     if f≥mx then break
     let some g <- bey left key arr base (hint+f) | return none
     if !g then break
     la:=f
     f:=2*f+1
   lo:=hint+la+1
   hi:=hint+min f mx
 else
   let mx:=hint+1
   for _ in [0:n] do
     if f≥mx then break
     let some g <- bey left key arr base (hint - f) | return none
     if g then break
     la:=f
     f:=2*f+1
   lo:=hint+1 - min f mx
   hi:=hint - la
 for _ in [0:n] do
   if lo≥hi then break
   let m:=lo+(hi - lo) / 2
   let some g <- bey left key arr base m | return none
   if g then lo:=m+1 else hi:=m
 return some hi):=rfl
section
variable {prog:Program}{w:World}{A:Around}{E:Value ->Shared ->Prop}{s:Shared}{kd:SortKind}{a₀:Array Keyed}{less:Keyed ->Keyed ->Bool}
theorem mR {st:SortSt}{left:Bool}{key:Keyed}{arr:Array Keyed}{base n hint:Nat}{Q:Option Nat ->SortSt ->Prop}(Bf:Nat ->Bool)(hh:hint<n)
   (hb: ∀i,i<n -> ∀Q':Option Bool ->SortSt ->Prop,Q' (some (Bf i)) st ->wpS (model prog w) A E s (bey left key arr base i) Q' st)
   (mono: ∀i j,i<=j ->j<n ->Bf j=true ->Bf i=true)
   (h: ∀k,k<=n ->(∀i,i<k ->Bf i=true) ->(∀i,k<=i ->i<n ->Bf i=false) ->Q (some k) st):
   wpS (model prog w) A E s (gal left key arr base n hint) Q st:=by
 have mono': ∀i j,i<=j ->j<n ->Bf i=false ->Bf j=false:=fun i j hij hj e=>by
   cases e2:Bf j with
   | false=>rfl
   | true=>rw[mono i j hij hj e2] at e;cases e
 rw[xB]
 dsimp only
 refine wpS_bind (hb hint hh _ ?_)
 dsimp only
 cases hB:Bf hint with
 | true =>
   simp only[if_true]
   refine wpS_bind (wpS_mono (wpS_forRange (I:=fun i c st'=>st'=st /\ ∃la f,c=(none,la,f) /\ i+1<=f /\ la<f /\ hint+la<n /\ Bf (hint+la)=true)
     (Q:=fun c st'=>st'=st /\ ∃la f,c=(none,la,f) /\ la<f /\ hint+la<n /\ Bf (hint+la)=true /\ (n - hint<=f \/ (hint+f<n /\ Bf (hint+f)=false)))
     ?_ ?_ ⟨rfl,0,1,rfl,by omega,by omega,by omega,hB⟩) ?_)
   · rintro i c st' _ hi ⟨rfl,la,f,rfl,h1,h2,h3,h4⟩
     dsimp only
     by_cases c1:f≥n - hint
     · rw[if_pos c1]
       exact wpS_pure ⟨rfl,la,f,rfl,h2,h3,h4, .inl c1⟩
     · rw[if_neg c1]
       refine wpS_bind (hb _ (by omega) _ ?_)
       cases e:Bf (hint+f) with
       | true=>
         simp only[Bool.not_true,Bool.false_eq_true,if_false]
         exact wpS_pure ⟨rfl,f,2*f+1,rfl,by omega,by omega,by omega,e⟩
       | false=>
         simp only[Bool.not_false,if_true]
         exact wpS_pure ⟨rfl,la,f,rfl,h2,h3,h4, .inr ⟨by omega,e⟩⟩
   · rintro c st' ⟨rfl,la,f,rfl,h1,h2,h3,h4⟩
     exact⟨rfl,la,f,rfl,h2,h3,h4, .inl (by omega)⟩
   · rintro c st' ⟨rfl,la,f,rfl,h2,h3,h4,h5⟩
     dsimp only
     refine wpS_bind (wpS_mono (wpS_forRange (I:=fun i c st''=>st''=st' /\ ∃lo hi,c=(none,lo,hi) /\ lo<=hi /\ hi<=n /\ hi - lo<=n - i /\ (∀i,i<lo ->Bf i=true) /\ (∀i,hi<=i ->i<n ->Bf i=false))
       (Q:=fun c st''=>st''=st' /\ ∃lo hi,c=(none,lo,hi) /\ hi<=n /\ (∀i,i<hi ->Bf i=true) /\ (∀i,hi<=i ->i<n ->Bf i=false)) ?_ ?_
       ⟨rfl,_,_,rfl,by omega,by omega,by omega,fun i hi=>mono i (hint+la) (by omega) h3 h4,fun i hi hin=> ?_⟩) ?_)
     · rintro i c st'' _ hi ⟨rfl,lo,hi',rfl,g1,g2,g3,g4,g5⟩
       dsimp only
       by_cases c1:lo≥hi'
       · rw[if_pos c1]
         have:lo=hi':=by omega
         subst this
         exact wpS_pure ⟨rfl,_,_,rfl,g2,g4,g5⟩
       · rw[if_neg c1]
         refine wpS_bind (hb _ (by omega) _ ?_)
         cases e:Bf (lo+(hi' - lo) / 2) with
         | true=>
           simp only[if_true]
           exact wpS_pure ⟨rfl,_,_,rfl,by omega,g2,by omega,fun j hj=>mono j _ (by omega) (by omega) e,g5⟩
         | false=>
           simp only[Bool.false_eq_true,if_false]
           exact wpS_pure ⟨rfl,_,_,rfl,by omega,by omega,by omega,g4,fun j hj hjn=>mono' _ j hj hjn e⟩
     · rintro c st'' ⟨rfl,lo,hi',rfl,g1,g2,g3,g4,g5⟩
       have:lo=hi':=by omega
       subst this
       exact⟨rfl,_,_,rfl,g2,g4,g5⟩
     · rcases h5 with h5 | ⟨h5,h6⟩
       · omega
       · exact mono' (hint+f) i (by omega) hin h6
     · rintro c st'' ⟨rfl,lo,hi',rfl,g2,g4,g5⟩
       exact wpS_pure (h _ g2 g4 g5)
 | false =>
   simp only[Bool.false_eq_true,if_false]
   refine wpS_bind (wpS_mono (wpS_forRange (I:=fun i c st'=>st'=st /\ ∃la f,c=(none,la,f) /\ i+1<=f /\ la<f /\ la<=hint /\ Bf (hint - la)=false)
     (Q:=fun c st'=>st'=st /\ ∃la f,c=(none,la,f) /\ la<f /\ la<=hint /\ Bf (hint - la)=false /\ (hint+1<=f \/ (f<=hint /\ Bf (hint - f)=true)))
     ?_ ?_ ⟨rfl,0,1,rfl,by omega,by omega,by omega,hB⟩) ?_)
   · rintro i c st' _ hi ⟨rfl,la,f,rfl,h1,h2,h3,h4⟩
     dsimp only
     by_cases c1:f≥hint+1
     · rw[if_pos c1]
       exact wpS_pure ⟨rfl,la,f,rfl,h2,h3,h4, .inl c1⟩
     · rw[if_neg c1]
       refine wpS_bind (hb _ (by omega) _ ?_)
       cases e:Bf (hint - f) with
       | false=>
         simp only[Bool.false_eq_true,if_false]
         exact wpS_pure ⟨rfl,f,2*f+1,rfl,by omega,by omega,by omega,e⟩
       | true=>
         simp only[if_true]
         exact wpS_pure ⟨rfl,la,f,rfl,h2,h3,h4, .inr ⟨by omega,e⟩⟩
   · rintro c st' ⟨rfl,la,f,rfl,h1,h2,h3,h4⟩
     exact⟨rfl,la,f,rfl,h2,h3,h4, .inl (by omega)⟩
   · rintro c st' ⟨rfl,la,f,rfl,h2,h3,h4,h5⟩
     dsimp only
     refine wpS_bind (wpS_mono (wpS_forRange (I:=fun i c st''=>st''=st' /\ ∃lo hi,c=(none,lo,hi) /\ lo<=hi /\ hi<=n /\ hi - lo<=n - i /\ (∀i,i<lo ->Bf i=true) /\ (∀i,hi<=i ->i<n ->Bf i=false))
       (Q:=fun c st''=>st''=st' /\ ∃lo hi,c=(none,lo,hi) /\ hi<=n /\ (∀i,i<hi ->Bf i=true) /\ (∀i,hi<=i ->i<n ->Bf i=false)) ?_ ?_
       ⟨rfl,_,_,rfl,by omega,by omega,by omega,fun i hi=> ?_,fun i hi hin=>mono' (hint - la) i (by omega) hin h4⟩) ?_)
     · rintro i c st'' _ hi ⟨rfl,lo,hi',rfl,g1,g2,g3,g4,g5⟩
       dsimp only
       by_cases c1:lo≥hi'
       · rw[if_pos c1]
         have:lo=hi':=by omega
         subst this
         exact wpS_pure ⟨rfl,_,_,rfl,g2,g4,g5⟩
       · rw[if_neg c1]
         refine wpS_bind (hb _ (by omega) _ ?_)
         cases e:Bf (lo+(hi' - lo) / 2) with
         | true=>
           simp only[if_true]
           exact wpS_pure ⟨rfl,_,_,rfl,by omega,g2,by omega,fun j hj=>mono j _ (by omega) (by omega) e,g5⟩
         | false=>
           simp only[Bool.false_eq_true,if_false]
           exact wpS_pure ⟨rfl,_,_,rfl,by omega,by omega,by omega,g4,fun j hj hjn=>mono' _ j hj hjn e⟩
     · rintro c st'' ⟨rfl,lo,hi',rfl,g1,g2,g3,g4,g5⟩
       have:lo=hi':=by omega
       subst this
       exact⟨rfl,_,_,rfl,g2,g4,g5⟩
     · rcases h5 with h5 | ⟨h5,h6⟩
       · omega
       · exact mono i (hint - f) (by omega) (by omega) h6
     · rintro c st'' ⟨rfl,lo,hi',rfl,g2,g4,g5⟩
       exact wpS_pure (h _ g2 g4 g5)
theorem jo (O:Ord less)(L:cG prog w A E s kd a₀ less){st:SortSt}{key:Keyed}{arr:Array Keyed}{base n hint:Nat}{Q:Option Nat ->SortSt ->Prop}(B:kindOf st=kd)(hk:key∈a₀.toList)
   (hm: ∀i,i<n ->base+i<arr.size /\ ath arr (base+i)∈a₀.toList) (hh:hint<n) (hs:Sg less arr base (base+n))
   (h: ∀k,k<=n ->(∀i,i<k ->less (ath arr (base+i)) key=true) ->(∀i,k<=i ->i<n ->LE less key (ath arr (base+i))) ->Q (some k) st):
   wpS (model prog w) A E s (gal true key arr base n hint) Q st:=by
 refine mR (fun i=>less (ath arr (base+i)) key) hh (fun i hi Q' hq=> ?_) (fun i j hij hj e=>O.le_lt (hs (base+i) (base+j) (by omega) (by omega) (by omega)) e) h
 unfold bey
 refine wpS_bind (aK (hm i hi).1 ?_)
 simp only[if_true]
 exact L _ _ _ _ (hm i hi).2 hk B hq
theorem jm (O:Ord less)(L:cG prog w A E s kd a₀ less){st:SortSt}{key:Keyed}{arr:Array Keyed}{base n hint:Nat}{Q:Option Nat ->SortSt ->Prop}(B:kindOf st=kd)(hk:key∈a₀.toList)
   (hm: ∀i,i<n ->base+i<arr.size /\ ath arr (base+i)∈a₀.toList) (hh:hint<n) (hs:Sg less arr base (base+n))
   (h: ∀k,k<=n ->(∀i,i<k ->LE less (ath arr (base+i)) key) ->(∀i,k<=i ->i<n ->less key (ath arr (base+i))=true) ->Q (some k) st):
   wpS (model prog w) A E s (gal false key arr base n hint) Q st:=by
 refine mR (fun i=> !less key (ath arr (base+i))) hh (fun i hi Q' hq=> ?_) (fun i j hij hj e=> ?_) (fun k h1 h2 h3=>h k h1 (fun i hi=> ?_) fun i h4 h5=> ?_)
 · unfold bey
   refine wpS_bind (aK (hm i hi).1 ?_)
   simp only[Bool.false_eq_true,if_false]
   exact wpS_bind (L _ _ _ _ hk (hm i hi).2 B (wpS_pure hq))
 · simp only[Bool.not_eq_true'] at e ⊢
   exact O.trans _ _ _ (hs (base+i) (base+j) (by omega) (by omega) (by omega)) e
 · have:=h2 i hi
   simp only[Bool.not_eq_true'] at this
   exact this
 · have:=h3 i h4 h5
   simpa using this
theorem xq (a b:Array Keyed):mLo a b=(do
 rule "list.sort.merge-lo"
 let tt:=a.size+b.size
 let dn (o:Array Keyed) (i j:Nat):=o++a.extract i a.size++b.extract j b.size
 let la (o:Array Keyed) (i j:Nat):=o++b.extract j b.size++a.extract i a.size
 let mut o:Array Keyed:= #[<- elem' b 0]
 let mut i:=0
 let mut j:=1
 if j==b.size then return dn o i j
 if i+1==a.size then return la o i j
 let mut mg:=gallopOf (<- get)
 for _ in [0:tt] do
   let mut ac:=0
   let mut bc:=0
   for _ in [0:tt] do
     let some g <- lt' (<- elem' b j) (<- elem' a i) | return dn o i j
     if g then
       o:=o.push (<- elem' b j);j:=j+1;bc:=bc+1;ac:=0
       if j==b.size then return dn o i j
       if bc≥mg then break
     else
       o:=o.push (<- elem' a i);i:=i+1;ac:=ac+1;bc:=0
       if i+1==a.size then return la o i j
       if ac≥mg then break
   rule "list.sort.gallop"
   mg:=mg+1
   for _ in [0:tt] do
     if mg >1 then mg:=mg - 1
     modify fun s=>aD s mg
     let some k <- gal false (<- elem' b j) a i (a.size - i) 0 | return dn o i j
     ac:=k
     if k >0 then
       o:=o++a.extract i (i+k);i:=i+k
       if i+1==a.size then return la o i j
       if i==a.size then return dn o i j
     o:=o.push (<- elem' b j);j:=j+1
     if j==b.size then return dn o i j
     let some k <- gal true (<- elem' a i) b j (b.size - j) 0 | return dn o i j
     bc:=k
     if k >0 then
       o:=o++b.extract j (j+k);j:=j+k
       if j==b.size then return dn o i j
     o:=o.push (<- elem' a i);i:=i+1
     if i+1==a.size then return la o i j
     if ac<7 && bc<7 then break
   mg:=mg+1
   modify fun s=>aD s mg
 unsupported "internal:list.sort.merge-bound"):=rfl
theorem xr (a b:Array Keyed):mHi a b=(do
 rule "list.sort.merge-hi"
 let tt:=a.size+b.size
 let dn (o:Array Keyed) (i j:Nat):=a.extract 0 i++b.extract 0 j++o.reverse
 let fb (o:Array Keyed) (i j:Nat):=b.extract 0 j++a.extract 0 i++o.reverse
 let mut i:=a.size - 1
 let mut j:=b.size
 let mut o:Array Keyed:= #[<- elem' a i]
 if i==0 then return dn o i j
 if j==1 then return fb o i j
 let mut mg:=gallopOf (<- get)
 for _ in [0:tt] do
   let mut ac:=0
   let mut bc:=0
   for _ in [0:tt] do
     let some g <- lt' (<- elem' b (j - 1)) (<- elem' a (i - 1)) | return dn o i j
     if g then
       i:=i - 1;o:=o.push (<- elem' a i);ac:=ac+1;bc:=0
       if i==0 then return dn o i j
       if ac≥mg then break
     else
       j:=j - 1;o:=o.push (<- elem' b j);bc:=bc+1;ac:=0
       if j==1 then return fb o i j
       if bc≥mg then break
   rule "list.sort.gallop"
   mg:=mg+1
   for _ in [0:tt] do
     if mg >1 then mg:=mg - 1
     modify fun s=>aD s mg
     let some at_ <- gal false (<- elem' b (j - 1)) a 0 i (i - 1) | return dn o i j
     let k:=i - at_
     ac:=k
     if k >0 then
       o:=o++(a.extract at_ i).reverse;i:=at_
       if i==0 then return dn o i j
     j:=j - 1;o:=o.push (<- elem' b j)
     if j==1 then return fb o i j
     let some at_ <- gal true (<- elem' a (i - 1)) b 0 j (j - 1) | return dn o i j
     let k:=j - at_
     bc:=k
     if k >0 then
       o:=o++(b.extract at_ j).reverse;j:=at_
       if j==1 then return fb o i j
       if j==0 then return dn o i j
     i:=i - 1;o:=o.push (<- elem' a i)
     if i==0 then return dn o i j
     if ac<7 && bc<7 then break
   mg:=mg+1
   modify fun s=>aD s mg
 unsupported "internal:list.sort.merge-bound"):=rfl
end
end TS
namespace TS
open PySem PyProof.Rows
structure MI (less:Keyed ->Keyed ->Bool)(al bl o:List Keyed)(i j:Nat):Prop where
 pm:o.Perm (al.take i++bl.take j)
 so:o.Pairwise (LE less)
 ba: ∀x∈o, ∀y∈al.drop i,LE less x y
 bb: ∀x∈o, ∀y∈bl.drop j,LE less x y
section
variable {less:Keyed ->Keyed ->Bool}{al bl o:List Keyed}{i j:Nat}
theorem MI.swap (h:MI less al bl o i j):MI less bl al o j i:=⟨h.pm.trans List.perm_append_comm,h.so,h.bb,h.ba⟩
theorem take_add {α:Type}(l:List α)(i k:Nat):l.take (i+k)=l.take i++(l.drop i).take k:=by
 rw[List.take_add]
theorem MI.blk (h:MI less al bl o i j)(sa:al.Pairwise (LE less))(k:Nat)(hk: ∀x∈(al.drop i).take k, ∀y∈bl.drop j,LE less x y):MI less al bl (o++(al.drop i).take k) (i+k) j:=by
 have sd:(al.drop i).Pairwise (LE less):=sa.sublist (List.drop_sublist _ _)
 have e:(al.drop i).take k++al.drop (i+k)=al.drop i:=by rw[<- List.drop_drop,List.take_append_drop]
 have sd2:=sd
 rw[<- e,List.pairwise_append] at sd2
 refine⟨?_,?_,?_,?_⟩
 · rw[take_add,List.append_assoc]
   refine(h.pm.append_right _).trans ?_
   rw[List.append_assoc]
   exact List.Perm.append_left _ List.perm_append_comm
 · rw[List.pairwise_append]
   exact⟨h.so,sd2.1,fun x hx y hy=>h.ba x hx y (List.mem_of_mem_take hy)⟩
 · intro x hx y hy
   rcases List.mem_append.mp hx with hx | hx
   · exact h.ba x hx y (by rw[<- e];exact List.mem_append_right _ hy)
   · exact sd2.2.2 x hx y hy
 · intro x hx y hy
   rcases List.mem_append.mp hx with hx | hx
   · exact h.bb x hx y hy
   · exact hk x hx y hy
theorem MI.fin (h:MI less al bl o i j)(sa:al.Pairwise (LE less))(sb:bl.Pairwise (LE less))(hk: ∀x∈bl.drop j, ∀y∈al.drop i,LE less x y):(o++bl.drop j++al.drop i).Perm (al++bl) /\ (o++bl.drop j++al.drop i).Pairwise (LE less):=by
 constructor
 · rw[List.append_assoc]
   refine(h.pm.append_right _).trans ?_
   have e1:(al++bl).Perm ((al.take i++al.drop i)++(bl.take j++bl.drop j)):=by rw[List.take_append_drop,List.take_append_drop]
   refine List.Perm.trans ?_ e1.symm
   rw[List.append_assoc,List.append_assoc]
   refine List.Perm.append_left _ ?_
   rw[<- List.append_assoc]
   exact List.perm_append_comm
 · rw[List.pairwise_append,List.pairwise_append]
   refine⟨⟨h.so,sb.sublist (List.drop_sublist _ _),h.bb⟩,sa.sublist (List.drop_sublist _ _),fun x hx y hy=> ?_⟩
   rcases List.mem_append.mp hx with hx | hx
   · exact h.ba x hx y hy
   · exact hk x hx y hy
structure MH (less:Keyed ->Keyed ->Bool)(al bl t:List Keyed)(i j:Nat):Prop where
 pm:t.Perm (al.drop i++bl.drop j)
 so:t.Pairwise (LE less)
 ba: ∀x∈t, ∀y∈al.take i,LE less y x
 bb: ∀x∈t, ∀y∈bl.take j,LE less y x
theorem MH.swap {t:List Keyed}(h:MH less al bl t i j):MH less bl al t j i:=⟨h.pm.trans List.perm_append_comm,h.so,h.bb,h.ba⟩
theorem MH.blk {t:List Keyed}(h:MH less al bl t i j)(sa:al.Pairwise (LE less)){k:Nat}(hki:k<=i)(hk: ∀x∈(al.take i).drop k, ∀y∈bl.take j,LE less y x):MH less al bl ((al.take i).drop k++t) k j:=by
 have sd:(al.take i).Pairwise (LE less):=sa.sublist (List.take_sublist _ _)
 have e0:(al.take i).take k=al.take k:=by rw[List.take_take,Nat.min_eq_left hki]
 have e:al.take k++(al.take i).drop k=al.take i:=by rw[<- e0,List.take_append_drop]
 have sd2:=sd
 rw[<- e,List.pairwise_append] at sd2
 have e3:al.drop k=(al.take i).drop k++al.drop i:=by
   have:=List.take_append_drop i al
   have e4:al.drop k=(al.take i++al.drop i).drop k:=by rw[this]
   rw[e4]
   by_cases c:i<=al.length
   · rw[List.drop_append_of_le_length (by rw[List.length_take];lia)]
   · have z:al.drop i= []:=List.drop_eq_nil_of_le (by lia)
     rw[z,List.append_nil,List.append_nil]
 refine⟨?_,?_,?_,?_⟩
 · rw[e3,List.append_assoc]
   exact List.Perm.append_left _ h.pm
 · rw[List.pairwise_append]
   exact⟨sd2.2.1,h.so,fun x hx y hy=>h.ba y hy x (by rw[<- e];exact List.mem_append_right _ hx)⟩
 · intro x hx y hy
   rcases List.mem_append.mp hx with hx | hx
   · exact sd2.2.2 y hy x hx
   · exact h.ba x hx y (by rw[<- e];exact List.mem_append_left _ hy)
 · intro x hx y hy
   rcases List.mem_append.mp hx with hx | hx
   · exact hk x hx y hy
   · exact h.bb x hx y hy
theorem MH.fin {t:List Keyed}(h:MH less al bl t i j)(sa:al.Pairwise (LE less))(sb:bl.Pairwise (LE less))(hk: ∀x∈al.take i, ∀y∈bl.take j,LE less x y):(al.take i++bl.take j++t).Perm (al++bl) /\ (al.take i++bl.take j++t).Pairwise (LE less):=by
 constructor
 · refine(List.Perm.append_left _ h.pm).trans ?_
   have e1:(al++bl).Perm ((al.take i++al.drop i)++(bl.take j++bl.drop j)):=by rw[List.take_append_drop,List.take_append_drop]
   refine List.Perm.trans ?_ e1.symm
   rw[List.append_assoc,List.append_assoc]
   refine List.Perm.append_left _ ?_
   rw[<- List.append_assoc, <- List.append_assoc]
   exact List.Perm.append_right _ List.perm_append_comm
 · rw[List.pairwise_append,List.pairwise_append]
   refine⟨⟨sa.sublist (List.take_sublist _ _),sb.sublist (List.take_sublist _ _),hk⟩,h.so,fun x hx y hy=> ?_⟩
   rcases List.mem_append.mp hx with hx | hx
   · exact h.ba y hy x hx
   · exact h.bb y hy x hx
end
abbrev R5:=Option (Array Keyed)×Array Keyed×Nat×Nat×Nat
abbrev R6:=Option (Array Keyed)×Array Keyed×Nat×Nat×Nat×Nat
abbrev R7:=Option (Array Keyed)×Array Keyed×Nat×Nat×Nat×Nat×Nat
section
variable (a b:Array Keyed)
abbrev dnL (o:Array Keyed)(i j:Nat):Array Keyed:=o++a.extract i a.size++b.extract j b.size
abbrev laL (o:Array Keyed)(i j:Nat):Array Keyed:=o++b.extract j b.size++a.extract i a.size
def one1 (mg:Nat)(o:Array Keyed)(i j ac bc:Nat):StateT SortSt Sem (ForInStep R6):=do
 let x <- elem' b j
 let y <- elem' a i
 let g <- lt' x y
 match g with
 | some g=>
   if g=true then do
     let x <- elem' b j
     if(j+1==b.size)=true then pure (.done (some (dnL a b (o.push x) i (j+1)),o.push x,i,j+1,0,bc+1))
     else if bc+1≥mg then pure (.done (none,o.push x,i,j+1,0,bc+1))
     else pure (.yield (none,o.push x,i,j+1,0,bc+1))
   else do
     let x <- elem' a i
     if(i+1+1==a.size)=true then pure (.done (some (laL a b (o.push x) (i+1) j),o.push x,i+1,j,ac+1,0))
     else if ac+1≥mg then pure (.done (none,o.push x,i+1,j,ac+1,0))
     else pure (.yield (none,o.push x,i+1,j,ac+1,0))
 | _=>pure (.done (some (dnL a b o i j),o,i,j,ac,bc))
def p3L (mg ac bc:Nat)(o:Array Keyed)(i j:Nat):StateT SortSt Sem (ForInStep R7):=do
 let x <- elem' a i
 if(i+1+1==a.size)=true then pure (.done (some (laL a b (o.push x) (i+1) j),o.push x,i+1,j,mg,ac,bc))
 else if(decide (ac<7) && decide (bc<7))=true then pure (.done (none,o.push x,i+1,j,mg,ac,bc))
 else pure (.yield (none,o.push x,i+1,j,mg,ac,bc))
def p2L (mg ac bc:Nat)(o:Array Keyed)(i j:Nat):StateT SortSt Sem (ForInStep R7):=do
 let x <- elem' b j
 if(j+1==b.size)=true then pure (.done (some (dnL a b (o.push x) i (j+1)),o.push x,i,j+1,mg,ac,bc))
 else do
   let y <- elem' a i
   let r <- gal true y b (j+1) (b.size - (j+1)) 0
   match r with
   | some k=>
     if k >0 then
       if(j+1+k==b.size)=true then pure (.done (some (dnL a b (o.push x++b.extract (j+1) (j+1+k)) i (j+1+k)),o.push x++b.extract (j+1) (j+1+k),i,j+1+k,mg,ac,k))
       else p3L a b mg ac k (o.push x++b.extract (j+1) (j+1+k)) i (j+1+k)
     else p3L a b mg ac k (o.push x) i (j+1)
   | _=>pure (.done (some (dnL a b (o.push x) i (j+1)),o.push x,i,j+1,mg,ac,bc))
def p1L (mg ac bc:Nat)(o:Array Keyed)(i j:Nat):StateT SortSt Sem (ForInStep R7):=do
 modify fun s=>aD s mg
 let x <- elem' b j
 let r <- gal false x a i (a.size - i) 0
 match r with
 | some k=>
   if k >0 then
     if(i+k+1==a.size)=true then pure (.done (some (laL a b (o++a.extract i (i+k)) (i+k) j),o++a.extract i (i+k),i+k,j,mg,k,bc))
     else if(i+k==a.size)=true then pure (.done (some (dnL a b (o++a.extract i (i+k)) (i+k) j),o++a.extract i (i+k),i+k,j,mg,k,bc))
     else p2L a b mg k bc (o++a.extract i (i+k)) (i+k) j
   else p2L a b mg k bc o i j
 | _=>pure (.done (some (dnL a b o i j),o,i,j,mg,ac,bc))
def outL (c:R5):StateT SortSt Sem (ForInStep R5):=do
 let d <- forIn [:a.size+b.size] ((none,c.2.1,c.2.2.1,c.2.2.2.1,0,0):R6) fun _ d=>one1 a b c.2.2.2.2 d.2.1 d.2.2.1 d.2.2.2.1 d.2.2.2.2.1 d.2.2.2.2.2
 match d.1 with
 | some r=>pure (.done (some r,d.2.1,d.2.2.1,d.2.2.2.1,c.2.2.2.2))
 | none=>do
   liftM (rule "list.sort.gallop")
   let e <- forIn [:a.size+b.size] ((none,d.2.1,d.2.2.1,d.2.2.2.1,c.2.2.2.2+1,d.2.2.2.2.1,d.2.2.2.2.2):R7) fun _ e=>
     if e.2.2.2.2.1 >1 then p1L a b (e.2.2.2.2.1 - 1) e.2.2.2.2.2.1 e.2.2.2.2.2.2 e.2.1 e.2.2.1 e.2.2.2.1
     else p1L a b e.2.2.2.2.1 e.2.2.2.2.2.1 e.2.2.2.2.2.2 e.2.1 e.2.2.1 e.2.2.2.1
   match e.1 with
   | some r=>pure (.done (some r,e.2.1,e.2.2.1,e.2.2.2.1,e.2.2.2.2.1))
   | none=>do
     modify fun s=>aD s (e.2.2.2.2.1+1)
     pure (.yield (none,e.2.1,e.2.2.1,e.2.2.2.1,e.2.2.2.2.1+1))
end
theorem bnd {σ α β:Type}{m:StateT σ Sem α}{f g:α ->StateT σ Sem β}(h: ∀x,f x=g x):(m >>=f)=(m >>=g):=by rw[funext h]
theorem pJ {σ α β:Type}{m m':StateT σ Sem α}{f g:α ->StateT σ Sem β}(e:m=m')(h: ∀x,f x=g x):(m >>=f)=(m' >>=g):=by rw[e,funext h]
theorem ifc {α:Sort _}{c:Prop} [Decidable c]{x y x' y':α}(h:x=x')(h':y=y'):(if c then x else y)=(if c then x' else y'):=by rw[h,h']
theorem pq {σ β:Type}{r:Std.Legacy.Range}{c:β}{f g:Nat ->β ->StateT σ Sem (ForInStep β)}(h: ∀i c,f i c=g i c):forIn r c f=forIn r c g:=by rw[funext fun i=>funext (h i)]
section
variable (a b:Array Keyed)
theorem nK (mg ac bc:Nat)(o:Array Keyed)(i j:Nat):(do
     modify fun s=>aD s mg
     let __do_lift <- elem' b j
     let __x <- gal false __do_lift a i (a.size - i) 0
     match __x with
     | some k =>
       have ac:=k
       have jp :=fun(__r:Unit) (o:Array Keyed) (i:Nat)=>do
         let x <- elem' b j
         have o:Array Keyed:=o.push x
         have j:Nat:=j+1
         if(j==b.size)=true then pure (ForInStep.done ((some (dnL a b o i j),o,i,j,mg,ac,bc):R7))
         else do
           let y <- elem' a i
           let __x <- gal true y b j (b.size - j) 0
           match __x with
           | some k=>
             have bc:=k
             have jp:=fun(__r:Unit) (o:Array Keyed) (j:Nat)=>do
               let x <- elem' a i
               have o:Array Keyed:=o.push x
               have i:Nat:=i+1
               if(i+1==a.size)=true then pure (ForInStep.done ((some (laL a b o i j),o,i,j,mg,ac,bc):R7))
               else if(decide (ac<7) && decide (bc<7))=true then pure (.done (none,o,i,j,mg,ac,bc))
               else pure (.yield (none,o,i,j,mg,ac,bc))
             if k >0 then
               have o:=o++b.extract j (j+k)
               have j:=j+k
               if(j==b.size)=true then pure (.done (some (dnL a b o i j),o,i,j,mg,ac,bc)) else jp () o j
             else jp () o j
           | _=>pure (.done (some (dnL a b o i j),o,i,j,mg,ac,bc))
       if k >0 then
         have o:=o++a.extract i (i+k)
         have i:=i+k
         if(i+1==a.size)=true then pure (.done (some (laL a b o i j),o,i,j,mg,ac,bc))
         else if(i==a.size)=true then pure (.done (some (dnL a b o i j),o,i,j,mg,ac,bc)) else jp () o i
       else jp () o i
     | _=>pure (.done (some (dnL a b o i j),o,i,j,mg,ac,bc)))=p1L a b mg ac bc o i j:=by
 refine bnd fun _=>bnd fun x=>bnd fun r=> ?_
 cases r with
 | none=>rfl
 | some k=>
   refine ifc (ifc rfl (ifc rfl ?_)) ?_
   all_goals
     refine bnd fun y=>ifc rfl (bnd fun z=>bnd fun r=> ?_)
     cases r with
     | none=>rfl
     | some k=>rfl
theorem oR:mLo a b=(do
   liftM (rule "list.sort.merge-lo")
   let x <- elem' b 0
   if(1==b.size)=true then pure (dnL a b #[x] 0 1)
   else if(0+1==a.size)=true then pure (laL a b #[x] 0 1)
   else do
     let g <- get
     let c <- forIn [:a.size+b.size] ((none, #[x],0,1,gallopOf g):R5) fun _ c=>outL a b c
     match c.1 with
     | some r=>pure r
     | none=>unsupported "internal:list.sort.merge-bound"):=by
 rw[xq]
 refine bnd fun _=> ?_
 refine bnd fun x=> ?_
 refine ifc rfl (ifc rfl (bnd fun g=>pJ (pq fun _ c=> ?_) fun c=> ?_))
 · refine pJ (pq fun _ d=>rfl) fun d=> ?_
   obtain⟨r,d⟩:=d
   cases r with
   | some r=>rfl
   | none=>
     refine bnd fun _=>pJ (pq fun _ e=> ?_) fun e=> ?_
     · refine ifc ?_ ?_
       · exact nK a b _ _ _ _ _ _
       · exact nK a b _ _ _ _ _ _
     · obtain⟨r,e⟩:=e
       cases r<;>rfl
 · obtain⟨r,c⟩:=c
   cases r<;>rfl
abbrev dnH (o:Array Keyed)(i j:Nat):Array Keyed:=a.extract 0 i++b.extract 0 j++o.reverse
abbrev fbH (o:Array Keyed)(i j:Nat):Array Keyed:=b.extract 0 j++a.extract 0 i++o.reverse
def two1 (mg:Nat)(i j:Nat)(o:Array Keyed)(ac bc:Nat):StateT SortSt Sem (ForInStep (Option (Array Keyed)×Nat×Nat×Array Keyed×Nat×Nat)):=do
 let x <- elem' b (j - 1)
 let y <- elem' a (i - 1)
 let g <- lt' x y
 match g with
 | some g=>
   if g=true then do
     let x <- elem' a (i - 1)
     if(i - 1==0)=true then pure (.done (some (dnH a b (o.push x) (i - 1) j),i - 1,j,o.push x,ac+1,0))
     else if ac+1≥mg then pure (.done (none,i - 1,j,o.push x,ac+1,0))
     else pure (.yield (none,i - 1,j,o.push x,ac+1,0))
   else do
     let x <- elem' b (j - 1)
     if(j - 1==1)=true then pure (.done (some (fbH a b (o.push x) i (j - 1)),i,j - 1,o.push x,0,bc+1))
     else if bc+1≥mg then pure (.done (none,i,j - 1,o.push x,0,bc+1))
     else pure (.yield (none,i,j - 1,o.push x,0,bc+1))
 | _=>pure (.done (some (dnH a b o i j),i,j,o,ac,bc))
abbrev S7:=Option (Array Keyed)×Nat×Nat×Array Keyed×Nat×Nat×Nat
def p3H (mg ac bc:Nat)(i j:Nat)(o:Array Keyed):StateT SortSt Sem (ForInStep S7):=do
 let x <- elem' a (i - 1)
 if(i - 1==0)=true then pure (.done (some (dnH a b (o.push x) (i - 1) j),i - 1,j,o.push x,mg,ac,bc))
 else if(decide (ac<7) && decide (bc<7))=true then pure (.done (none,i - 1,j,o.push x,mg,ac,bc))
 else pure (.yield (none,i - 1,j,o.push x,mg,ac,bc))
def p2H (mg ac bc:Nat)(i j:Nat)(o:Array Keyed):StateT SortSt Sem (ForInStep S7):=do
 let x <- elem' b (j - 1)
 if(j - 1==1)=true then pure (.done (some (fbH a b (o.push x) i (j - 1)),i,j - 1,o.push x,mg,ac,bc))
 else do
   let y <- elem' a (i - 1)
   let r <- gal true y b 0 (j - 1) (j - 1 - 1)
   match r with
   | some k=>
     if j - 1 - k >0 then
       if(k==1)=true then pure (.done (some (fbH a b (o.push x++(b.extract k (j - 1)).reverse) i k),i,k,o.push x++(b.extract k (j - 1)).reverse,mg,ac,j - 1 - k))
       else if(k==0)=true then pure (.done (some (dnH a b (o.push x++(b.extract k (j - 1)).reverse) i k),i,k,o.push x++(b.extract k (j - 1)).reverse,mg,ac,j - 1 - k))
       else p3H a b mg ac (j - 1 - k) i k (o.push x++(b.extract k (j - 1)).reverse)
     else p3H a b mg ac (j - 1 - k) i (j - 1) (o.push x)
   | _=>pure (.done (some (dnH a b (o.push x) i (j - 1)),i,j - 1,o.push x,mg,ac,bc))
def p1H (mg ac bc:Nat)(i j:Nat)(o:Array Keyed):StateT SortSt Sem (ForInStep S7):=do
 modify fun s=>aD s mg
 let x <- elem' b (j - 1)
 let r <- gal false x a 0 i (i - 1)
 match r with
 | some k=>
   if i - k >0 then
     if(k==0)=true then pure (.done (some (dnH a b (o++(a.extract k i).reverse) k j),k,j,o++(a.extract k i).reverse,mg,i - k,bc))
     else p2H a b mg (i - k) bc k j (o++(a.extract k i).reverse)
   else p2H a b mg (i - k) bc i j o
 | _=>pure (.done (some (dnH a b o i j),i,j,o,mg,ac,bc))
abbrev S5:=Option (Array Keyed)×Nat×Nat×Array Keyed×Nat
def outH (c:S5):StateT SortSt Sem (ForInStep S5):=do
 let d <- forIn [:a.size+b.size] ((none,c.2.1,c.2.2.1,c.2.2.2.1,0,0):Option (Array Keyed)×Nat×Nat×Array Keyed×Nat×Nat) fun _ d=>two1 a b c.2.2.2.2 d.2.1 d.2.2.1 d.2.2.2.1 d.2.2.2.2.1 d.2.2.2.2.2
 match d.1 with
 | some r=>pure (.done (some r,d.2.1,d.2.2.1,d.2.2.2.1,c.2.2.2.2))
 | none=>do
   liftM (rule "list.sort.gallop")
   let e <- forIn [:a.size+b.size] ((none,d.2.1,d.2.2.1,d.2.2.2.1,c.2.2.2.2+1,d.2.2.2.2.1,d.2.2.2.2.2):S7) fun _ e=>
     if e.2.2.2.2.1 >1 then p1H a b (e.2.2.2.2.1 - 1) e.2.2.2.2.2.1 e.2.2.2.2.2.2 e.2.1 e.2.2.1 e.2.2.2.1
     else p1H a b e.2.2.2.2.1 e.2.2.2.2.2.1 e.2.2.2.2.2.2 e.2.1 e.2.2.1 e.2.2.2.1
   match e.1 with
   | some r=>pure (.done (some r,e.2.1,e.2.2.1,e.2.2.2.1,e.2.2.2.2.1))
   | none=>do
     modify fun s=>aD s (e.2.2.2.2.1+1)
     pure (.yield (none,e.2.1,e.2.2.1,e.2.2.2.1,e.2.2.2.2.1+1))
theorem kS (mg ac bc:Nat)(i j:Nat)(o:Array Keyed):(do
     modify fun s=>aD s mg
     let x <- elem' b (j - 1)
     let r <- gal false x a 0 i (i - 1)
     match r with
     | some at_=>
       have k:=i - at_
       have ac:=k
       have jp :=fun(__r:Unit) (i:Nat) (o:Array Keyed)=>do
         have j:Nat:=j - 1
         let x <- elem' b j
         have o:Array Keyed:=o.push x
         if(j==1)=true then pure (ForInStep.done ((some (fbH a b o i j),i,j,o,mg,ac,bc):S7))
         else do
           let y <- elem' a (i - 1)
           let r <- gal true y b 0 j (j - 1)
           match r with
           | some at_=>
             have k:=j - at_
             have bc:=k
             have jp:=fun(__r:Unit) (j:Nat) (o:Array Keyed)=>do
               have i:Nat:=i - 1
               let x <- elem' a i
               have o:Array Keyed:=o.push x
               if(i==0)=true then pure (ForInStep.done ((some (dnH a b o i j),i,j,o,mg,ac,bc):S7))
               else if(decide (ac<7) && decide (bc<7))=true then pure (.done (none,i,j,o,mg,ac,bc))
               else pure (.yield (none,i,j,o,mg,ac,bc))
             if k >0 then
               have o:=o++(b.extract at_ j).reverse
               have j:=at_
               if(j==1)=true then pure (.done (some (fbH a b o i j),i,j,o,mg,ac,bc)) else if(j==0)=true then pure (.done (some (dnH a b o i j),i,j,o,mg,ac,bc)) else jp () j o
             else jp () j o
           | _=>pure (.done (some (dnH a b o i j),i,j,o,mg,ac,bc))
       if k >0 then
         have o:=o++(a.extract at_ i).reverse
         have i:=at_
         if(i==0)=true then pure (.done (some (dnH a b o i j),i,j,o,mg,ac,bc)) else jp () i o
       else jp () i o
     | _=>pure (.done (some (dnH a b o i j),i,j,o,mg,ac,bc)))=p1H a b mg ac bc i j o:=by
 refine bnd fun _=>bnd fun x=>bnd fun r=> ?_
 cases r with
 | none=>rfl
 | some k=>
   refine ifc (ifc rfl ?_) ?_
   all_goals
     refine bnd fun y=>ifc rfl (bnd fun z=>bnd fun r=> ?_)
     cases r with
     | none=>rfl
     | some k=>rfl
theorem oS:mHi a b=(do
   liftM (rule "list.sort.merge-hi")
   let x <- elem' a (a.size - 1)
   if(a.size - 1==0)=true then pure (dnH a b #[x] (a.size - 1) b.size)
   else if(b.size==1)=true then pure (fbH a b #[x] (a.size - 1) b.size)
   else do
     let g <- get
     let c <- forIn [:a.size+b.size] ((none,a.size - 1,b.size, #[x],gallopOf g):S5) fun _ c=>outH a b c
     match c.1 with
     | some r=>pure r
     | none=>unsupported "internal:list.sort.merge-bound"):=by
 rw[xr]
 refine bnd fun _=> ?_
 refine bnd fun x=> ?_
 refine ifc rfl (ifc rfl (bnd fun g=>pJ (pq fun _ c=> ?_) fun c=> ?_))
 · refine pJ (pq fun _ d=>rfl) fun d=> ?_
   obtain⟨r,d⟩:=d
   cases r with
   | some r=>rfl
   | none=>
     refine bnd fun _=>pJ (pq fun _ e=> ?_) fun e=> ?_
     · refine ifc ?_ ?_
       · exact kS a b _ _ _ _ _ _
       · exact kS a b _ _ _ _ _ _
     · obtain⟨r,e⟩:=e
       cases r<;>rfl
 · obtain⟨r,c⟩:=c
   cases r<;>rfl
end
end TS
namespace TS
open PySem PyProof.Rows
theorem bX {xs:Array Keyed}{i:Nat}(h:i<xs.size):xs.toList[i]? =some (ath xs i):=by
 rw[<- tG h];simp
theorem drop_cons {xs:Array Keyed}{i:Nat}(h:i<xs.size):xs.toList.drop i=ath xs i::xs.toList.drop (i+1):=by
 have h':i<xs.toList.length:=by simpa using h
 have e:=bX h
 rw[List.getElem?_eq_getElem h'] at e
 rw[List.drop_eq_getElem_cons h',Option.some.inj e]
theorem take1 {xs:Array Keyed}{i:Nat}(h:i<xs.size):(xs.toList.drop i).take 1= [ath xs i]:=by
 rw[drop_cons h];rfl
theorem cJ {xs:Array Keyed}{i:Nat}{y:Keyed}(h:y∈xs.toList.drop i): ∃k,i<=k /\ k<xs.size /\ y=ath xs k:=by
 obtain⟨n,hn⟩:=List.mem_iff_getElem?.mp h
 rw[List.getElem?_drop] at hn
 have hl:=(List.getElem?_eq_some_iff.mp hn).1
 have hl':i+n<xs.size:=by simpa using hl
 rw[bX hl'] at hn
 exact⟨i+n,by lia,hl',(Option.some.inj hn).symm⟩
theorem jv {xs:Array Keyed}{i k:Nat}{y:Keyed}(h:y∈(xs.toList.drop i).take k): ∃n,i<=n /\ n<i+k /\ n<xs.size /\ y=ath xs n:=by
 obtain⟨n,hn⟩:=List.mem_iff_getElem?.mp h
 rw[List.getElem?_take] at hn
 split at hn
 · rename_i hk
   rw[List.getElem?_drop] at hn
   have hl:=(List.getElem?_eq_some_iff.mp hn).1
   have hl':i+n<xs.size:=by simpa using hl
   rw[bX hl'] at hn
   exact⟨i+n,by lia,by lia,hl',(Option.some.inj hn).symm⟩
 · cases hn
theorem d7 {less:Keyed ->Keyed ->Bool}(O:Ord less){xs:Array Keyed}(h:xs.toList.Pairwise (LE less)){i j:Nat}(hij:i<=j)(hj:j<xs.size):LE less (ath xs i) (ath xs j):=by
 by_cases c:i=j
 · subst c;exact O.refl _
 · rw[List.pairwise_iff_getElem] at h
   have hi':i<xs.toList.length:=by simp;lia
   have hj':j<xs.toList.length:=by simpa using hj
   have:=h i j hi' hj' (by lia)
   have e1:=bX (xs:=xs) (i:=i) (by lia)
   have e2:=bX hj
   rw[List.getElem?_eq_getElem hi'] at e1
   rw[List.getElem?_eq_getElem hj'] at e2
   rwa [Option.some.inj e1,Option.some.inj e2] at this
theorem jz {less:Keyed ->Keyed ->Bool}(O:Ord less){xs:Array Keyed}(h:xs.toList.Pairwise (LE less)){i n:Nat}(hn:i+n<=xs.size):Sg less xs i (i+n):=fun x y _ hxy hy=>d7 O h hxy (by lia)
theorem lq (xs:Array Keyed)(i k:Nat):(xs.extract i (i+k)).toList=(xs.toList.drop i).take k:=by
 rw[Array.toList_extract,List.extract_eq_take_drop];congr 1;lia
theorem gB (xs:Array Keyed)(i:Nat):(xs.extract i xs.size).toList=xs.toList.drop i:=by
 rw[Array.toList_extract,List.extract_eq_take_drop]
 exact List.take_of_length_le (by simp)
section
variable {prog:Program}{w:World}{A:Around}{E:Value ->Shared ->Prop}{s:Shared}{kd:SortKind}{a₀:Array Keyed}{less:Keyed ->Keyed ->Bool}
structure Two (less:Keyed ->Keyed ->Bool)(a₀ a b:Array Keyed):Prop where
 sa:a.toList.Pairwise (LE less)
 sb:b.toList.Pairwise (LE less)
 ma: ∀i,i<a.size ->ath a i∈a₀.toList
 mb: ∀i,i<b.size ->ath b i∈a₀.toList
 na:1<=a.size
 nb:1<=b.size
 h0:less (ath b 0) (ath a 0)=true
 hl: ∀j,j<b.size ->less (ath b j) (ath a (a.size - 1))=true
def Res (less:Keyed ->Keyed ->Bool)(a b r:Array Keyed):Prop:=r.toList.Perm (a.toList++b.toList) /\ r.toList.Pairwise (LE less)
structure JL (less:Keyed ->Keyed ->Bool)(a b o:Array Keyed)(i j:Nat):Prop where
 mi:MI less a.toList b.toList o.toList i j
 hi:i+1<a.size
 hj:j<b.size
variable {a b:Array Keyed}
theorem jG (T:Two less a₀ a b){o:Array Keyed}{i j:Nat}(h:MI less a.toList b.toList o.toList i j)(hj:b.size<=j \/ a.size<=i):Res less a b (dnL a b o i j):=by
 unfold Res dnL
 rw[Array.toList_append,Array.toList_append,gB,gB]
 have:=h.swap.fin T.sb T.sa fun x hx y hy=>by
   rcases hj with hj | hj
   · obtain⟨k,h1,h2,_⟩:=cJ hy;lia
   · obtain⟨k,h1,h2,_⟩:=cJ hx;lia
 exact⟨this.1.trans List.perm_append_comm,this.2⟩
theorem jF (O:Ord less)(T:Two less a₀ a b){o:Array Keyed}{i j:Nat}(h:MI less a.toList b.toList o.toList i j)(hi:i+1=a.size):Res less a b (laL a b o i j):=by
 unfold Res laL
 rw[Array.toList_append,Array.toList_append,gB,gB]
 refine h.fin T.sa T.sb fun x hx y hy=> ?_
 obtain⟨k,h1,h2,rfl⟩:=cJ hx
 obtain⟨k',h1',h2',rfl⟩:=cJ hy
 rw[show k'=a.size - 1 by lia]
 exact O.le (T.hl k h2)
theorem lY (O:Ord less)(T:Two less a₀ a b){o:Array Keyed}{i j:Nat}(h:MI less a.toList b.toList o.toList i j)(hj:j<b.size)(hc:i<a.size ->LE less (ath b j) (ath a i)):MI less a.toList b.toList (o.push (ath b j)).toList i (j+1):=by
 have:=(h.swap.blk T.sb 1 fun x hx y hy=>by
   rw[take1 hj] at hx
   rw[List.mem_singleton.mp hx]
   obtain⟨k,h1,h2,rfl⟩:=cJ hy
   exact O.trans _ _ _ (hc (by lia)) (d7 O T.sa h1 h2)).swap
 rw[take1 hj] at this
 rwa [Array.toList_push]
theorem rn (O:Ord less)(T:Two less a₀ a b){o:Array Keyed}{i j:Nat}(h:MI less a.toList b.toList o.toList i j)(hi:i<a.size)(hc:j<b.size ->LE less (ath a i) (ath b j)):MI less a.toList b.toList (o.push (ath a i)).toList (i+1) j:=by
 have:=h.blk T.sa 1 fun x hx y hy=>by
   rw[take1 hi] at hx
   rw[List.mem_singleton.mp hx]
   obtain⟨k,h1,h2,rfl⟩:=cJ hy
   exact O.trans _ _ _ (hc (by lia)) (d7 O T.sb h1 h2)
 rw[take1 hi] at this
 rwa [Array.toList_push]
def EndG (less:Keyed ->Keyed ->Bool)(a b:Array Keyed)(st:SortSt)(N:Nat)(r:ForInStep R7)(st':SortSt):Prop:=
 (∃g,st'=aD st g) /\ ((∃x c,r= .done (some x,c) /\ Res less a b x) \/ (∃o i j c,(r= .done (none,o,i,j,c) \/ r= .yield (none,o,i,j,c)) /\ JL less a b o i j /\ N<=i+j))
theorem pR (O:Ord less)(T:Two less a₀ a b){st st':SortSt}{mg ac bc N:Nat}{o:Array Keyed}{i j:Nat}(hg: ∃g,st'=aD st g)(J:JL less a b o i j)(hc:LE less (ath a i) (ath b j))(hN:N<=i+j):wpS (model prog w) A E s (p3L a b mg ac bc o i j) (EndG less a b st N) st':=by
 unfold p3L
 have hi:=J.hi
 refine wpS_bind (aK (by lia) ?_)
 have m:=rn O T J.mi (by lia) fun _=>hc
 by_cases c:i+1+1=a.size
 · rw[if_pos (by simpa using c)]
   exact wpS_pure ⟨hg, .inl ⟨_,_,rfl,jF O T m c⟩⟩
 · rw[if_neg (by simpa using c)]
   have J':JL less a b (o.push (ath a i)) (i+1) j:=⟨m,by lia,J.hj⟩
   split
   · exact wpS_pure ⟨hg, .inr ⟨_,_,_,_, .inl rfl,J',by lia⟩⟩
   · exact wpS_pure ⟨hg, .inr ⟨_,_,_,_, .inr rfl,J',by lia⟩⟩
theorem pT (O:Ord less)(L:cG prog w A E s kd a₀ less)(T:Two less a₀ a b){st st':SortSt}{mg ac bc N:Nat}{o:Array Keyed}{i j:Nat}(hk:kindOf st'=kd)(hg: ∃g,st'=aD st g)(J:JL less a b o i j)(hc:less (ath b j) (ath a i)=true)(hN:N<=i+j):wpS (model prog w) A E s (p2L a b mg ac bc o i j) (EndG less a b st N) st':=by
 unfold p2L
 have hi:=J.hi
 have hj:=J.hj
 refine wpS_bind (aK hj ?_)
 have m:=lY O T J.mi hj fun _=>O.le hc
 by_cases c:j+1=b.size
 · rw[if_pos (by simpa using c)]
   exact wpS_pure ⟨hg, .inl ⟨_,_,rfl,jG T m (.inl (by lia))⟩⟩
 · rw [if_neg (by simpa using c)]
   refine wpS_bind (aK (by lia) ?_)
   refine wpS_bind (jo O L hk (T.ma i (by lia)) (fun k hk=>⟨by lia,T.mb _ (by lia)⟩) (by lia) (jz O T.sb (by lia)) fun k h1 h2 h3=> ?_)
   dsimp only
   by_cases ck:k >0
   · rw[if_pos ck]
     have m2:MI less a.toList b.toList (o.push (ath b j)++b.extract (j+1) (j+1+k)).toList i (j+1+k):=by
       rw[Array.toList_append,lq]
       refine(m.swap.blk T.sb k fun x hx y hy=> ?_).swap
       obtain⟨n,n1,n2,n3,rfl⟩:=jv hx
       obtain⟨k',k1,k2,rfl⟩:=cJ hy
       have:=h2 (n - (j+1)) (by lia)
       rw[show j+1+(n - (j+1))=n by lia] at this
       exact O.trans _ _ _ (O.le this) (d7 O T.sa k1 k2)
     by_cases c2:j+1+k=b.size
     · rw[if_pos (by simpa using c2)]
       exact wpS_pure ⟨hg, .inl ⟨_,_,rfl,jG T m2 (.inl (by lia))⟩⟩
     · rw[if_neg (by simpa using c2)]
       exact pR O T hg ⟨m2,hi,by lia⟩ (h3 k (Nat.le_refl _) (by lia)) (by lia)
   · rw[if_neg ck]
     have:k=0:=by lia
     subst this
     exact pR O T hg ⟨m,hi,by lia⟩ (h3 0 (Nat.le_refl _) (by lia)) (by lia)
theorem v7 (O:Ord less)(L:cG prog w A E s kd a₀ less)(T:Two less a₀ a b){st st':SortSt}{mg ac bc N:Nat}{o:Array Keyed}{i j:Nat}(hk:kindOf st=kd)(hg: ∃g,st'=aD st g)(J:JL less a b o i j)(hN:N<=i+j):wpS (model prog w) A E s (p1L a b mg ac bc o i j) (EndG less a b st N) st':=by
 unfold p1L
 have hi:=J.hi
 have hj:=J.hj
 refine wpS_bind (wpS_modify ?_)
 have hg': ∃g,aD st' mg=aD st g:=by obtain⟨g,rfl⟩:=hg;exact⟨mg,rfl⟩
 have hk':kindOf (aD st' mg)=kd:=by obtain⟨g,rfl⟩:=hg;exact hk
 refine wpS_bind (aK hj ?_)
 refine wpS_bind (jm O L hk' (T.mb j hj) (fun k hk=>⟨by lia,T.ma _ (by lia)⟩) (by lia) (jz O T.sa (by lia)) fun k h1 h2 h3=> ?_)
 dsimp only
 have hkl:i+k<a.size:=by
   by_cases c:i+k<a.size
   · exact c
   · have:=h2 (a.size - 1 - i) (by lia)
     rw[show i+(a.size - 1 - i)=a.size - 1 by lia] at this
     unfold LE at this
     rw[T.hl j hj] at this;cases this
 have hnext:=h3 k (Nat.le_refl _) (by lia)
 by_cases ck:k >0
 · rw[if_pos ck]
   have m2:MI less a.toList b.toList (o++a.extract i (i+k)).toList (i+k) j:=by
     rw[Array.toList_append,lq]
     refine J.mi.blk T.sa k fun x hx y hy=> ?_
     obtain⟨n,n1,n2,n3,rfl⟩:=jv hx
     obtain⟨k',k1,k2,rfl⟩:=cJ hy
     have:=h2 (n - i) (by lia)
     rw[show i+(n - i)=n by lia] at this
     exact O.trans _ _ _ this (d7 O T.sb k1 k2)
   by_cases c2:i+k+1=a.size
   · rw[if_pos (by simpa using c2)]
     exact wpS_pure ⟨hg', .inl ⟨_,_,rfl,jF O T m2 c2⟩⟩
   · rw[if_neg (by simpa using c2),if_neg (by simp;lia)]
     exact pT O L T hk' hg' ⟨m2,by lia,hj⟩ hnext (by lia)
 · rw[if_neg ck]
   have:k=0:=by lia
   subst this
   exact pT O L T hk' hg' J hnext hN
theorem ub (O:Ord less)(L:cG prog w A E s kd a₀ less)(T:Two less a₀ a b){st':SortSt}{mg ac bc:Nat}{o:Array Keyed}{i j:Nat}{Q:ForInStep R6 ->SortSt ->Prop}(hk:kindOf st'=kd)(J:JL less a b o i j)
   (h1: ∀x c,Res less a b x ->Q (.done (some x,c)) st') (h2: ∀o i' j' c,JL less a b o i' j' ->i'+j'=i+j+1 ->Q (.done (none,o,i',j',c)) st' /\ Q (.yield (none,o,i',j',c)) st'):
   wpS (model prog w) A E s (one1 a b mg o i j ac bc) Q st':=by
 unfold one1
 have hi:=J.hi
 have hj:=J.hj
 refine wpS_bind (aK hj (wpS_bind (aK (by lia) (wpS_bind (L _ _ _ _ (T.mb j hj) (T.ma i (by lia)) hk ?_)))))
 dsimp only
 cases e:less (ath b j) (ath a i) with
 | true=>
   simp only[if_true]
   refine wpS_bind (aK hj ?_)
   have m:=lY O T J.mi hj fun _=>O.le e
   by_cases c:j+1=b.size
   · rw[if_pos (by simpa using c)]
     exact wpS_pure (h1 _ _ (jG T m (.inl (by lia))))
   · rw[if_neg (by simpa using c)]
     have:=h2 _ i (j+1) (0,bc+1) ⟨m,hi,by lia⟩ (by lia)
     split
     · exact wpS_pure this.1
     · exact wpS_pure this.2
 | false=>
   simp only[Bool.false_eq_true,if_false]
   refine wpS_bind (aK (by lia) ?_)
   have m:=rn O T J.mi (by lia) fun _=>e
   by_cases c:i+1+1=a.size
   · rw[if_pos (by simpa using c)]
     exact wpS_pure (h1 _ _ (jF O T m c))
   · rw[if_neg (by simpa using c)]
     have:=h2 _ (i+1) j (ac+1,0) ⟨m,by lia,hj⟩ (by lia)
     split
     · exact wpS_pure this.1
     · exact wpS_pure this.2
theorem v9 (O:Ord less)(L:cG prog w A E s kd a₀ less)(T:Two less a₀ a b){st:SortSt}{Q:Array Keyed ->SortSt ->Prop}(hk:kindOf st=kd)(h: ∀r g,Res less a b r ->Q r (aD st g)):wpS (model prog w) A E s (mLo a b) Q st:=by
 rw[oR]
 have na:=T.na
 have nb:=T.nb
 refine wpS_bind (wpS_lift (wpAny_rule ⟨rfl,?_⟩))
 refine wpS_bind (aK (by lia) ?_)
 have h': ∀r,Res less a b r ->Q r st:=fun r hr=>h r (gallopOf st) hr
 have m:MI less a.toList b.toList (#[ath b 0]:Array Keyed).toList 0 1:=by
   have m0:MI less a.toList b.toList (#[]:Array Keyed).toList 0 0:=⟨by simp,by simp,by simp,by simp⟩
   exact lY O T m0 (by lia) fun _=>O.le T.h0
 by_cases c:1=b.size
 · rw[if_pos (by simpa using c)]
   exact wpS_pure (h' _ (jG T m (.inl (by lia))))
 rw[if_neg (by simpa using c)]
 by_cases c2:0+1=a.size
 · rw[if_pos (by simpa using c2)]
   exact wpS_pure (h' _ (jF O T m c2))
 rw[if_neg (by simpa using c2)]
 refine wpS_bind (wpS_get ?_)
 refine wpS_bind (wpS_mono (wpS_forRange (I:=fun n c st'=>(∃g,st'=aD st g) /\ ∃o i j mg,c=(none,o,i,j,mg) /\ JL less a b o i j /\ n+1<=i+j)
   (Q:=fun c st'=>(∃g,st'=aD st g) /\ ∃x d,c=(some x,d) /\ Res less a b x) ?_ ?_ ⟨⟨gallopOf st,rfl⟩,_,0,1,_,rfl,⟨m,by lia,by lia⟩,by lia⟩) ?_)
 · rintro n c st' _ hn ⟨hg,o,i,j,mg,rfl,J,hN⟩
   unfold outL
   dsimp only
   have hk':kindOf st'=kd:=by obtain⟨g,rfl⟩:=hg;exact hk
   refine wpS_bind (wpS_mono (wpS_forRange (I:=fun x c st2=>st2=st' /\ ∃o' i' j' d,c=(none,o',i',j',d) /\ JL less a b o' i' j' /\ i'+j'=i+j+x)
     (Q:=fun c st2=>st2=st' /\ ((∃x d,c=(some x,d) /\ Res less a b x) \/ ∃o' i' j' d,c=(none,o',i',j',d) /\ JL less a b o' i' j' /\ i+j+1<=i'+j')) ?_ ?_ ⟨rfl,o,i,j,_,rfl,J,rfl⟩) ?_)
   · rintro x c st2 _ hx ⟨rfl,o',i',j',⟨ac,bc⟩,rfl,J',hN'⟩
     dsimp only
     refine ub O L T hk' J' (fun x c hr=>⟨rfl, .inl ⟨x,c,rfl,hr⟩⟩) fun o2 i2 j2 c J2 h2=>⟨⟨rfl, .inr ⟨o2,i2,j2,c,rfl,J2,by lia⟩⟩,⟨rfl,o2,i2,j2,c,rfl,J2,by lia⟩⟩
   · rintro c st2 ⟨rfl,o',i',j',d,rfl,J',hN'⟩
     exact⟨rfl, .inr ⟨o',i',j',d,rfl,J',by lia⟩⟩
   · rintro c st2 ⟨rfl,⟨x,d,rfl,hr⟩ | ⟨o',i',j',⟨ac,bc⟩,rfl,J',hN'⟩⟩
     · exact wpS_pure ⟨hg,x,_,rfl,hr⟩
     · dsimp only
       refine wpS_bind (wpS_lift (wpAny_rule ⟨rfl,?_⟩))
       refine wpS_bind (wpS_mono (wpS_forRange (I:=fun x c st3=>(∃g,st3=aD st g) /\ ∃o' i' j' d,c=(none,o',i',j',d) /\ JL less a b o' i' j' /\ i+j+1<=i'+j')
         (Q:=fun c st3=>(∃g,st3=aD st g) /\ ((∃x d,c=(some x,d) /\ Res less a b x) \/ ∃o' i' j' d,c=(none,o',i',j',d) /\ JL less a b o' i' j' /\ i+j+1<=i'+j')) ?_ ?_ ⟨hg,o',i',j',_,rfl,J',hN'⟩) ?_)
       · rintro x c st3 _ hx ⟨hg3,o3,i3,j3,⟨mg3,ac3,bc3⟩,rfl,J3,hN3⟩
         dsimp only
         split
         all_goals
           refine wpS_mono (v7 O L T hk hg3 J3 hN3) ?_
           rintro r st4 ⟨hg4,⟨x,c,rfl,hr⟩ | ⟨o,i,j,c,rfl | rfl,J4,h4⟩⟩
           · exact⟨hg4, .inl ⟨x,c,rfl,hr⟩⟩
           · exact⟨hg4, .inr ⟨o,i,j,c,rfl,J4,h4⟩⟩
           · exact⟨hg4,o,i,j,c,rfl,J4,h4⟩
       · rintro c st3 ⟨hg3,o3,i3,j3,d,rfl,J3,hN3⟩
         exact⟨hg3, .inr ⟨o3,i3,j3,d,rfl,J3,hN3⟩⟩
       · rintro c st3 ⟨hg3,⟨x,d,rfl,hr⟩ | ⟨o3,i3,j3,⟨mg3,ac3,bc3⟩,rfl,J3,hN3⟩⟩
         · exact wpS_pure ⟨hg3,x,_,rfl,hr⟩
         · dsimp only
           refine wpS_bind (wpS_modify (wpS_pure ⟨?_,o3,i3,j3,_,rfl,J3,by lia⟩))
           obtain⟨g,rfl⟩:=hg3
           exact⟨_,rfl⟩
 · rintro c st' ⟨hg,o,i,j,mg,rfl,J,hN⟩
   have:=J.hi
   have:=J.hj
   lia
 · rintro c st' ⟨⟨g,rfl⟩,x,d,rfl,hr⟩
   exact wpS_pure (h x g hr)
end
end TS
namespace TS
open PySem PyProof.Rows
theorem iR {xs:Array Keyed}{i:Nat}{y:Keyed}(h:y∈xs.toList.take i): ∃n,n<i /\ n<xs.size /\ y=ath xs n:=by
 obtain⟨n,hn⟩:=List.mem_iff_getElem?.mp h
 rw[List.getElem?_take] at hn
 split at hn
 · have hl:=(List.getElem?_eq_some_iff.mp hn).1
   have hl':n<xs.size:=by simpa using hl
   rw[bX hl'] at hn
   exact⟨n,by lia,hl',(Option.some.inj hn).symm⟩
 · cases hn
theorem nh {xs:Array Keyed}{i k:Nat}{y:Keyed}(h:y∈(xs.toList.take i).drop k): ∃n,k<=n /\ n<i /\ n<xs.size /\ y=ath xs n:=by
 rw[List.drop_take] at h
 obtain⟨n,h1,h2,h3,e⟩:=jv h
 exact⟨n,h1,by lia,h3,e⟩
theorem td1 {xs:Array Keyed}{i:Nat}(h0:1<=i)(h:i<=xs.size):(xs.toList.take i).drop (i - 1)= [ath xs (i - 1)]:=by
 rw[List.drop_take,show i - (i - 1)=1 by lia,take1 (by lia)]
theorem eK (xs:Array Keyed)(k i:Nat):(xs.extract k i).toList=(xs.toList.take i).drop k:=by
 rw[Array.toList_extract,List.extract_eq_take_drop,List.drop_take]
theorem n6 (xs:Array Keyed)(i:Nat):(xs.extract 0 i).toList=xs.toList.take i:=by
 rw[eK,List.drop_zero]
section
variable {prog:Program}{w:World}{A:Around}{E:Value ->Shared ->Prop}{s:Shared}{kd:SortKind}{a₀:Array Keyed}{less:Keyed ->Keyed ->Bool}
structure JH (less:Keyed ->Keyed ->Bool)(a b o:Array Keyed)(i j:Nat):Prop where
 mi:MH less a.toList b.toList o.toList.reverse i j
 hi:1<=i
 hj:2<=j
 ia:i<=a.size
 jb:j<=b.size
variable {a b:Array Keyed}
theorem fc (T:Two less a₀ a b){o:Array Keyed}{i j:Nat}(h:MH less a.toList b.toList o.toList.reverse i j)(hj:i=0 \/ j=0):Res less a b (dnH a b o i j):=by
 unfold Res dnH
 rw[Array.toList_append,Array.toList_append,n6,n6,Array.toList_reverse]
 refine h.fin T.sa T.sb fun x hx y hy=> ?_
 rcases hj with hj | hj
 · subst hj;simp at hx
 · subst hj;simp at hy
theorem gv (O:Ord less)(T:Two less a₀ a b){o:Array Keyed}{i j:Nat}(h:MH less a.toList b.toList o.toList.reverse i j)(hj:j=1):Res less a b (fbH a b o i j):=by
 unfold Res fbH
 rw[Array.toList_append,Array.toList_append,n6,n6,Array.toList_reverse]
 have:=h.swap.fin T.sb T.sa fun x hx y hy=>by
   obtain⟨n,n1,n2,rfl⟩:=iR hx
   obtain⟨k,k1,k2,rfl⟩:=iR hy
   rw[show n=0 by lia]
   exact O.trans _ _ _ (O.le T.h0) (d7 O T.sa (Nat.zero_le _) k2)
 exact⟨this.1.trans List.perm_append_comm,this.2⟩
theorem jI (O:Ord less)(T:Two less a₀ a b){o:Array Keyed}{i j:Nat}(h:MH less a.toList b.toList o.toList.reverse i j)(h1:1<=i)(hi:i<=a.size)(hj:j<=b.size)(hc:1<=j ->LE less (ath b (j - 1)) (ath a (i - 1))):MH less a.toList b.toList (o.push (ath a (i - 1))).toList.reverse (i - 1) j:=by
 have:=h.blk T.sa (k:=i - 1) (by lia) fun x hx y hy=>by
   rw[td1 h1 hi] at hx
   rw[List.mem_singleton.mp hx]
   obtain⟨k,k1,k2,rfl⟩:=iR hy
   exact O.trans _ _ _ (d7 O T.sb (show k<=j - 1 by lia) (by lia)) (hc (by lia))
 rw[td1 h1 hi] at this
 rw[Array.toList_push,List.reverse_append]
 exact this
theorem nF (O:Ord less)(T:Two less a₀ a b){o:Array Keyed}{i j:Nat}(h:MH less a.toList b.toList o.toList.reverse i j)(h1:1<=j)(hi:i<=a.size)(hj:j<=b.size)(hc:1<=i ->LE less (ath a (i - 1)) (ath b (j - 1))):MH less a.toList b.toList (o.push (ath b (j - 1))).toList.reverse i (j - 1):=by
 have:=(h.swap.blk T.sb (k:=j - 1) (by lia) fun x hx y hy=>by
   rw[td1 h1 hj] at hx
   rw[List.mem_singleton.mp hx]
   obtain⟨k,k1,k2,rfl⟩:=iR hy
   exact O.trans _ _ _ (d7 O T.sa (show k<=i - 1 by lia) (by lia)) (hc (by lia))).swap
 rw[td1 h1 hj] at this
 rw[Array.toList_push,List.reverse_append]
 exact this
theorem nA (o x:Array Keyed):(o++x.reverse).toList.reverse=x.toList++o.toList.reverse:=by
 rw[Array.toList_append,Array.toList_reverse,List.reverse_append,List.reverse_reverse]
def EndH (less:Keyed ->Keyed ->Bool)(a b:Array Keyed)(st:SortSt)(N:Nat)(r:ForInStep S7)(st':SortSt):Prop:=
 (∃g,st'=aD st g) /\ ((∃x c,r= .done (some x,c) /\ Res less a b x) \/ (∃i j o c,(r= .done (none,i,j,o,c) \/ r= .yield (none,i,j,o,c)) /\ JH less a b o i j /\ i+j<=N))
theorem pS (O:Ord less)(T:Two less a₀ a b){st st':SortSt}{mg ac bc N:Nat}{o:Array Keyed}{i j:Nat}(hg: ∃g,st'=aD st g)(J:JH less a b o i j)(hc:LE less (ath b (j - 1)) (ath a (i - 1)))(hN:i+j<=N):wpS (model prog w) A E s (p3H a b mg ac bc i j o) (EndH less a b st N) st':=by
 unfold p3H
 have hi:=J.hi
 have ia:=J.ia
 refine wpS_bind (aK (by lia) ?_)
 have m:=jI O T J.mi J.hi J.ia J.jb fun _=>hc
 by_cases c:i - 1=0
 · rw[if_pos (by simpa using c)]
   exact wpS_pure ⟨hg, .inl ⟨_,_,rfl,fc T m (.inl c)⟩⟩
 · rw[if_neg (by simpa using c)]
   have J':JH less a b (o.push (ath a (i - 1))) (i - 1) j:=⟨m,by lia,J.hj,by lia,J.jb⟩
   split
   · exact wpS_pure ⟨hg, .inr ⟨_,_,_,_, .inl rfl,J',by lia⟩⟩
   · exact wpS_pure ⟨hg, .inr ⟨_,_,_,_, .inr rfl,J',by lia⟩⟩
theorem pU (O:Ord less)(L:cG prog w A E s kd a₀ less)(T:Two less a₀ a b){st st':SortSt}{mg ac bc N:Nat}{o:Array Keyed}{i j:Nat}(hk:kindOf st'=kd)(hg: ∃g,st'=aD st g)(J:JH less a b o i j)(hc:LE less (ath a (i - 1)) (ath b (j - 1)))(hN:i+j<=N):wpS (model prog w) A E s (p2H a b mg ac bc i j o) (EndH less a b st N) st':=by
 unfold p2H
 have hi:=J.hi
 have hj:=J.hj
 have ia:=J.ia
 have jb:=J.jb
 refine wpS_bind (aK (by lia) ?_)
 have m:=nF O T J.mi (by lia) ia jb fun _=>hc
 by_cases c:j - 1=1
 · rw[if_pos (by simpa using c)]
   exact wpS_pure ⟨hg, .inl ⟨_,_,rfl,gv O T m c⟩⟩
 · rw [if_neg (by simpa using c)]
   refine wpS_bind (aK (by lia) ?_)
   have sg:=jz O T.sb (i:=0) (n:=j - 1) (by lia)
   refine wpS_bind (jo O L hk (T.ma (i - 1) (by lia)) (fun k hk=>⟨by lia,T.mb _ (by lia)⟩) (by lia) sg fun k h1 h2 h3=> ?_)
   dsimp only
   simp only[Nat.zero_add] at h2 h3
   by_cases ck:j - 1 - k >0
   · rw[if_pos ck]
     have m2:MH less a.toList b.toList (o.push (ath b (j - 1))++(b.extract k (j - 1)).reverse).toList.reverse i k:=by
       rw[nA,eK]
       refine(m.swap.blk T.sb (by lia) fun x hx y hy=> ?_).swap
       obtain⟨n,n1,n2,n3,rfl⟩:=nh hx
       obtain⟨k',k1,k2,rfl⟩:=iR hy
       exact O.trans _ _ _ (d7 O T.sa (show k'<=i - 1 by lia) (by lia)) (h3 n n1 n2)
     by_cases c2:k=1
     · rw[if_pos (by simpa using c2)]
       exact wpS_pure ⟨hg, .inl ⟨_,_,rfl,gv O T m2 c2⟩⟩
     rw[if_neg (by simpa using c2)]
     by_cases c3:k=0
     · rw[if_pos (by simpa using c3)]
       exact wpS_pure ⟨hg, .inl ⟨_,_,rfl,fc T m2 (.inr c3)⟩⟩
     · rw[if_neg (by simpa using c3)]
       exact pS O T hg ⟨m2,hi,by lia,ia,by lia⟩ (O.le (h2 (k - 1) (by lia))) (by lia)
   · rw[if_neg ck]
     exact pS O T hg ⟨m,hi,by lia,ia,by lia⟩ (O.le (h2 (j - 1 - 1) (by lia))) (by lia)
theorem v8 (O:Ord less)(L:cG prog w A E s kd a₀ less)(T:Two less a₀ a b){st st':SortSt}{mg ac bc N:Nat}{o:Array Keyed}{i j:Nat}(hk:kindOf st=kd)(hg: ∃g,st'=aD st g)(J:JH less a b o i j)(hN:i+j<=N):wpS (model prog w) A E s (p1H a b mg ac bc i j o) (EndH less a b st N) st':=by
 unfold p1H
 have hi:=J.hi
 have hj:=J.hj
 have ia:=J.ia
 have jb:=J.jb
 refine wpS_bind (wpS_modify ?_)
 have hg': ∃g,aD st' mg=aD st g:=by obtain⟨g,rfl⟩:=hg;exact⟨mg,rfl⟩
 have hk':kindOf (aD st' mg)=kd:=by obtain⟨g,rfl⟩:=hg;exact hk
 refine wpS_bind (aK (by lia) ?_)
 have sg:=jz O T.sa (i:=0) (n:=i) (by lia)
 refine wpS_bind (jm O L hk' (T.mb (j - 1) (by lia)) (fun k hk=>⟨by lia,T.ma _ (by lia)⟩) (by lia) sg fun k h1 h2 h3=> ?_)
 dsimp only
 simp only[Nat.zero_add] at h2 h3
 by_cases ck:i - k >0
 · rw[if_pos ck]
   have m2:MH less a.toList b.toList (o++(a.extract k i).reverse).toList.reverse k j:=by
     rw[nA,eK]
     refine J.mi.blk T.sa (by lia) fun x hx y hy=> ?_
     obtain⟨n,n1,n2,n3,rfl⟩:=nh hx
     obtain⟨k',k1,k2,rfl⟩:=iR hy
     exact O.trans _ _ _ (d7 O T.sb (show k'<=j - 1 by lia) (by lia)) (O.le (h3 n n1 n2))
   by_cases c2:k=0
   · rw[if_pos (by simpa using c2)]
     exact wpS_pure ⟨hg', .inl ⟨_,_,rfl,fc T m2 (.inl c2)⟩⟩
   · rw[if_neg (by simpa using c2)]
     exact pU O L T hk' hg' ⟨m2,by lia,hj,by lia,jb⟩ (h2 (k - 1) (by lia)) (by lia)
 · rw[if_neg ck]
   exact pU O L T hk' hg' J (h2 (i - 1) (by lia)) hN
theorem t7 (O:Ord less)(L:cG prog w A E s kd a₀ less)(T:Two less a₀ a b){st':SortSt}{mg ac bc:Nat}{o:Array Keyed}{i j:Nat}{Q:ForInStep (Option (Array Keyed)×Nat×Nat×Array Keyed×Nat×Nat) ->SortSt ->Prop}(hk:kindOf st'=kd)(J:JH less a b o i j)
   (h1: ∀x c,Res less a b x ->Q (.done (some x,c)) st') (h2: ∀i' j' o c,JH less a b o i' j' ->i'+j'+1=i+j ->Q (.done (none,i',j',o,c)) st' /\ Q (.yield (none,i',j',o,c)) st'):
   wpS (model prog w) A E s (two1 a b mg i j o ac bc) Q st':=by
 unfold two1
 have hi:=J.hi
 have hj:=J.hj
 have ia:=J.ia
 have jb:=J.jb
 refine wpS_bind (aK (by lia) (wpS_bind (aK (by lia) (wpS_bind (L _ _ _ _ (T.mb (j - 1) (by lia)) (T.ma (i - 1) (by lia)) hk ?_)))))
 dsimp only
 cases e:less (ath b (j - 1)) (ath a (i - 1)) with
 | true=>
   simp only[if_true]
   refine wpS_bind (aK (by lia) ?_)
   have m:=jI O T J.mi hi ia jb fun _=>O.le e
   by_cases c:i - 1=0
   · rw[if_pos (by simpa using c)]
     exact wpS_pure (h1 _ _ (fc T m (.inl c)))
   · rw[if_neg (by simpa using c)]
     have:=h2 (i - 1) j _ (ac+1,0) ⟨m,by lia,hj,by lia,jb⟩ (by lia)
     split
     · exact wpS_pure this.1
     · exact wpS_pure this.2
 | false=>
   simp only[Bool.false_eq_true,if_false]
   refine wpS_bind (aK (by lia) ?_)
   have m:=nF O T J.mi (by lia) ia jb fun _=>e
   by_cases c:j - 1=1
   · rw[if_pos (by simpa using c)]
     exact wpS_pure (h1 _ _ (gv O T m c))
   · rw[if_neg (by simpa using c)]
     have:=h2 i (j - 1) _ (0,bc+1) ⟨m,hi,by lia,ia,by lia⟩ (by lia)
     split
     · exact wpS_pure this.1
     · exact wpS_pure this.2
theorem wd (O:Ord less)(L:cG prog w A E s kd a₀ less)(T:Two less a₀ a b){st:SortSt}{Q:Array Keyed ->SortSt ->Prop}(hk:kindOf st=kd)(h: ∀r g,Res less a b r ->Q r (aD st g)):wpS (model prog w) A E s (mHi a b) Q st:=by
 rw[oS]
 have na:=T.na
 have nb:=T.nb
 refine wpS_bind (wpS_lift (wpAny_rule ⟨rfl,?_⟩))
 refine wpS_bind (aK (by lia) ?_)
 have h': ∀r,Res less a b r ->Q r st:=fun r hr=>h r (gallopOf st) hr
 have m:MH less a.toList b.toList (#[ath a (a.size - 1)]:Array Keyed).toList.reverse (a.size - 1) b.size:=by
   have m0:MH less a.toList b.toList (#[]:Array Keyed).toList.reverse a.size b.size:=⟨by simp,by simp,by simp,by simp⟩
   exact jI O T m0 (by lia) (Nat.le_refl _) (Nat.le_refl _) fun _=>O.le (T.hl _ (by lia))
 by_cases c:a.size - 1=0
 · rw[if_pos (by simpa using c)]
   exact wpS_pure (h' _ (fc T m (.inl c)))
 rw[if_neg (by simpa using c)]
 by_cases c2:b.size=1
 · rw[if_pos (by simpa using c2)]
   exact wpS_pure (h' _ (gv O T m c2))
 rw[if_neg (by simpa using c2)]
 refine wpS_bind (wpS_get ?_)
 refine wpS_bind (wpS_mono (wpS_forRange (I:=fun n c st'=>(∃g,st'=aD st g) /\ ∃i j o mg,c=(none,i,j,o,mg) /\ JH less a b o i j /\ i+j+n<a.size+b.size)
   (Q:=fun c st'=>(∃g,st'=aD st g) /\ ∃x d,c=(some x,d) /\ Res less a b x) ?_ ?_ ⟨⟨gallopOf st,rfl⟩,_,_,_,_,rfl,⟨m,by lia,by lia,by lia,by lia⟩,by lia⟩) ?_)
 · rintro n c st' _ hn ⟨hg,i,j,o,mg,rfl,J,hN⟩
   unfold outH
   dsimp only
   have hk':kindOf st'=kd:=by obtain⟨g,rfl⟩:=hg;exact hk
   refine wpS_bind (wpS_mono (wpS_forRange (I:=fun x c st2=>st2=st' /\ ∃i' j' o' d,c=(none,i',j',o',d) /\ JH less a b o' i' j' /\ i'+j'+x=i+j)
     (Q:=fun c st2=>st2=st' /\ ((∃x d,c=(some x,d) /\ Res less a b x) \/ ∃i' j' o' d,c=(none,i',j',o',d) /\ JH less a b o' i' j' /\ i'+j'+1<=i+j)) ?_ ?_ ⟨rfl,i,j,o,_,rfl,J,rfl⟩) ?_)
   · rintro x c st2 _ hx ⟨rfl,i',j',o',⟨ac,bc⟩,rfl,J',hN'⟩
     dsimp only
     refine t7 O L T hk' J' (fun x c hr=>⟨rfl, .inl ⟨x,c,rfl,hr⟩⟩) fun i2 j2 o2 c J2 h2=>⟨⟨rfl, .inr ⟨i2,j2,o2,c,rfl,J2,by lia⟩⟩,⟨rfl,i2,j2,o2,c,rfl,J2,by lia⟩⟩
   · rintro c st2 ⟨rfl,i',j',o',d,rfl,J',hN'⟩
     exact⟨rfl, .inr ⟨i',j',o',d,rfl,J',by lia⟩⟩
   · rintro c st2 ⟨rfl,⟨x,d,rfl,hr⟩ | ⟨i',j',o',⟨ac,bc⟩,rfl,J',hN'⟩⟩
     · exact wpS_pure ⟨hg,x,_,rfl,hr⟩
     · dsimp only
       refine wpS_bind (wpS_lift (wpAny_rule ⟨rfl,?_⟩))
       refine wpS_bind (wpS_mono (wpS_forRange (I:=fun x c st3=>(∃g,st3=aD st g) /\ ∃i' j' o' d,c=(none,i',j',o',d) /\ JH less a b o' i' j' /\ i'+j'+1<=i+j)
         (Q:=fun c st3=>(∃g,st3=aD st g) /\ ((∃x d,c=(some x,d) /\ Res less a b x) \/ ∃i' j' o' d,c=(none,i',j',o',d) /\ JH less a b o' i' j' /\ i'+j'+1<=i+j)) ?_ ?_ ⟨hg,i',j',o',_,rfl,J',hN'⟩) ?_)
       · rintro x c st3 _ hx ⟨hg3,i3,j3,o3,⟨mg3,ac3,bc3⟩,rfl,J3,hN3⟩
         dsimp only
         split
         all_goals
           refine wpS_mono (v8 O L T (N:=i+j - 1) hk hg3 J3 (by lia)) ?_
           rintro r st4 ⟨hg4,⟨x,c,rfl,hr⟩ | ⟨i4,j4,o4,c,rfl | rfl,J4,h4⟩⟩
           · exact⟨hg4, .inl ⟨x,c,rfl,hr⟩⟩
           · exact⟨hg4, .inr ⟨i4,j4,o4,c,rfl,J4,by lia⟩⟩
           · exact⟨hg4,i4,j4,o4,c,rfl,J4,by lia⟩
       · rintro c st3 ⟨hg3,i3,j3,o3,d,rfl,J3,hN3⟩
         exact⟨hg3, .inr ⟨i3,j3,o3,d,rfl,J3,hN3⟩⟩
       · rintro c st3 ⟨hg3,⟨x,d,rfl,hr⟩ | ⟨i3,j3,o3,⟨mg3,ac3,bc3⟩,rfl,J3,hN3⟩⟩
         · exact wpS_pure ⟨hg3,x,_,rfl,hr⟩
         · dsimp only
           refine wpS_bind (wpS_modify (wpS_pure ⟨?_,i3,j3,o3,_,rfl,J3,by lia⟩))
           obtain⟨g,rfl⟩:=hg3
           exact⟨_,rfl⟩
 · rintro c st' ⟨hg,i,j,o,mg,rfl,J,hN⟩
   have:=J.hi
   have:=J.hj
   lia
 · rintro c st' ⟨⟨g,rfl⟩,x,d,rfl,hr⟩
   exact wpS_pure (h x g hr)
end
end TS
namespace TS
open PySem PyProof.Rows
def wrt (xs:Array Keyed)(at_:Nat)(l:List (Keyed×Nat)):Array Keyed:=l.foldl (fun a (p,j)=>a.setIfInBounds (at_+j) p) xs
theorem lK (at_ n:Nat): ∀ (ms:List Keyed) (k:Nat) (xs:Array Keyed),at_+k+ms.length<=xs.size ->(wrt xs at_ (ms.zipIdx k))[n]? =if at_+k<=n /\ n<at_+k+ms.length then ms[n - (at_+k)]? else xs[n]?
 | [],k,xs,h=>by
   rw[if_neg (by simp)];rfl
 | p ::ms,k,xs,h=>by
   rw[List.length_cons] at h
   show(wrt (xs.setIfInBounds (at_+k) p) at_ (ms.zipIdx (k+1)))[n]? =_
   rw[lK at_ n ms (k+1) _ (by rw[Array.size_setIfInBounds];lia)]
   rw[List.length_cons]
   by_cases c:n=at_+k
   · subst c
     rw[if_neg (by lia),if_pos (by lia),Array.getElem?_setIfInBounds_self_of_lt (by lia)]
     simp
   · rw[Array.getElem?_setIfInBounds_ne (Ne.symm c)]
     by_cases c2:at_+(k+1) <=n /\ n<at_+(k+1)+ms.length
     · rw[if_pos c2,if_pos (by lia),show n - (at_+k)=(n - (at_+(k+1)))+1 by lia,List.getElem?_cons_succ]
     · rw[if_neg c2,if_neg (by lia)]
theorem pQ {xs:Array Keyed}{at_:Nat}{ms:List Keyed}(h:at_+ms.length<=xs.size):(wrt xs at_ ms.zipIdx).toList=xs.toList.take at_++(ms++xs.toList.drop (at_+ms.length)):=by
 apply List.ext_getElem?
 intro n
 have e:=lK at_ n ms 0 xs (by lia)
 rw[Nat.add_zero] at e
 have e':(wrt xs at_ ms.zipIdx).toList[n]? =(wrt xs at_ ms.zipIdx)[n]? :=by simp
 rw[e',e]
 have hx: ∀k:Nat,xs.toList[k]? =xs[k]? :=fun k=>Array.getElem?_toList ..
 by_cases c1:n<at_
 · rw[if_neg (by lia),List.getElem?_append_left (by rw[List.length_take];simp;lia),List.getElem?_take,if_pos c1,hx]
 · have lt:(xs.toList.take at_).length=at_:=by rw[List.length_take];simp;lia
   rw[List.getElem?_append_right (by lia),lt]
   by_cases c2:n<at_+ms.length
   · rw[if_pos (by lia),List.getElem?_append_left (by lia)]
   · rw[if_neg (by lia),List.getElem?_append_right (by lia),List.getElem?_drop,hx]
     congr 1;lia
theorem three (l:List Keyed)(i j k:Nat)(hij:i<=j)(hjk:j<=k)(hk:k<=l.length):l=l.take i++((l.take j).drop i++((l.take k).drop j++l.drop k)):=by
 have e1:(l.take k).drop j++l.drop k=l.drop j:=by
   rw[List.drop_take]
   have:=List.take_append_drop (k - j) (l.drop j)
   rw[List.drop_drop,show j+(k - j)=k by lia] at this
   exact this
 have e2:(l.take j).drop i++l.drop j=l.drop i:=by
   rw[List.drop_take]
   have:=List.take_append_drop (j - i) (l.drop i)
   rw[List.drop_drop,show i+(j - i)=j by lia] at this
   exact this
 rw[e1,e2,List.take_append_drop]
theorem sU {less:Keyed ->Keyed ->Bool}(O:Ord less){xs:Array Keyed}{i j lo hi:Nat}(h:Sg less xs lo hi)(h1:lo<=i)(h2:j<=hi)(h3:hi<=xs.size):(xs.extract i j).toList.Pairwise (LE less):=by
 rw[List.pairwise_iff_getElem]
 intro x y hx hy hxy
 have e: ∀n (hn:n< (xs.extract i j).toList.length),(xs.extract i j).toList[n]=ath xs (i+n):=fun n hn=>by
   have hn':n< (xs.extract i j).size:=by rw[Array.length_toList] at hn;exact hn
   rw[Array.size_extract] at hn'
   unfold ath
   rw[getElem?_pos xs (i+n) (by lia)]
   simp
 rw[e x hx,e y hy]
 have hy':y< (xs.extract i j).size:=by rw[Array.length_toList] at hy;exact hy
 rw[Array.size_extract] at hy'
 exact h _ _ (by lia) (by lia) (by lia)
theorem d3 {xs:Array Keyed}{i j n:Nat}(h:n< (xs.extract i j).size):ath (xs.extract i j) n=ath xs (i+n):=by
 unfold ath
 rw[Array.size_extract] at h
 rw[Array.getElem?_extract,if_pos (by lia)]
section
variable {prog:Program}{w:World}{A:Around}{E:Value ->Shared ->Prop}{s:Shared}{kd:SortKind}{a₀:Array Keyed}{less:Keyed ->Keyed ->Bool}
abbrev Rn:=Nat×Nat×Nat
theorem xt (i:Nat):mergeAt' i=(do
 let s <- get
 let (some (sa,na,pw),some (sb,nb,_)):=((pendingOf s)[i]?,(pendingOf s)[i+1]?) | unsupported "internal:list.sort.pending"
 set (setPending s (((pendingOf s).setIfInBounds i (sa,na+nb,pw)).eraseIdxIfInBounds (i+1)))
 let some k <- gal false (<- elem' (arrOf s) sb) (arrOf s) sa na 0 | return false
 let (sa,na):=(sa+k,na - k)
 if na==0 then return true
 let some nb <- gal true (<- elem' (arrOf s) (sa+na - 1)) (arrOf s) sb nb (nb - 1) | return false
 if nb==0 then return true
 let x:=(arrOf s).extract sa sb
 let y:=(arrOf s).extract sb (sb+nb)
 let r <- if na<=nb then mLo x y else mHi x y
 modify fun s=>setArr s (wrt (arrOf s) sa r.toList.zipIdx)
 return(failedOf (<- get)).isNone):=rfl
theorem uc {σ:Type}{M:Model}{v:σ}{Q:PUnit ->σ ->Prop}{st:σ}(h:Q ⟨⟩ v):wpS M A E s (set v:StateT σ Sem PUnit) Q st:=by
 unfold wpS;rw[StateT.run_set];exact wpAny_pure ⟨rfl,h⟩
theorem we (O:Ord less)(L:cG prog w A E s kd a₀ less){st:SortSt}{Q:Bool ->SortSt ->Prop}{l1 l2:List Rn}{sa na pw sb nb pw2 i:Nat}(B:SB kd a₀ st)(hp:pendingOf st=(l1++(sa,na,pw)::(sb,nb,pw2)::l2).toArray)(hi:i=l1.length)
   (hsb:sb=sa+na) (h1:1<=na) (h2:1<=nb) (hz:sb+nb<=a₀.size) (s1:Sg less (arrOf st) sa sb) (s2:Sg less (arrOf st) sb (sb+nb))
   (h: ∀st',SB kd a₀ st' ->pendingOf st'=(l1++(sa,na+nb,pw)::l2).toArray ->Sg less (arrOf st') sa (sb+nb) ->Out sa (sb+nb) (arrOf st) (arrOf st') ->Q true st'):wpS (model prog w) A E s (mergeAt' i) Q st:=by
 subst hi
 rw[xt]
 refine wpS_bind (wpS_get ?_)
 have p1:(pendingOf st)[l1.length]? =some (sa,na,pw):=by rw[hp];simp
 have p2:(pendingOf st)[l1.length+1]? =some (sb,nb,pw2):=by
   rw[hp];simp[List.getElem?_append_right]
 rw[p1,p2]
 dsimp only
 refine wpS_bind (uc ?_)
 have hpd:((pendingOf st).setIfInBounds l1.length (sa,na+nb,pw)).eraseIdxIfInBounds (l1.length+1)=(l1++(sa,na+nb,pw)::l2).toArray:=by
   rw[hp]
   simp only[List.setIfInBounds_toArray,List.eraseIdxIfInBounds_toArray]
   congr 1
   rw[List.set_append_right _ _ (Nat.le_refl _),Nat.sub_self,List.set_cons_zero]
   rw[List.eraseIdx_append_of_length_le (by lia),show l1.length+1 - l1.length=1 by lia]
   rfl
 rw[hpd]
 let st1:SortSt:=setPending st (l1++(sa,na+nb,pw)::l2).toArray
 have B1:SB kd a₀ st1:=⟨B.perm,B.kd,B.fl⟩
 have hsz:=B.size
 show wpS _ _ _ _ _ Q st1
 refine wpS_bind (aK (by lia) ?_)
 refine wpS_bind (jm O L B.kd (B.mem (by lia)) (fun k hk=>⟨by lia,B.mem (by lia)⟩) (by lia) (by rw[<- hsb];exact s1) fun k g1 g2 g3=> ?_)
 dsimp only
 by_cases c1:na - k=0
 · rw [if_pos (by simpa using c1)]
   refine wpS_pure (h st1 B1 rfl (fun i j hi hij hj=> ?_) Out.refl)
   show LE less (ath (arrOf st) i) (ath (arrOf st) j)
   by_cases c2:j<sb
   · exact s1 i j hi hij c2
   · by_cases c3:sb<=i
     · exact s2 i j c3 hij hj
     · have:=g2 (i - sa) (by lia)
       rw[show sa+(i - sa)=i by lia] at this
       exact O.trans _ _ _ this (s2 sb j (Nat.le_refl _) (by lia) hj)
 · rw [if_neg (by simpa using c1)]
   refine wpS_bind (aK (by lia) ?_)
   rw[show sa+k+(na - k) - 1=sb - 1 by lia]
   refine wpS_bind (jo O L B.kd (B.mem (by lia)) (fun k hk=>⟨by lia,B.mem (by lia)⟩) (by lia) s2 fun m f1 f2 f3=> ?_)
   dsimp only
   by_cases c2:m=0
   · rw [if_pos (by simpa using c2)]
     refine wpS_pure (h st1 B1 rfl (fun i j hi hij hj=> ?_) Out.refl)
     show LE less (ath (arrOf st) i) (ath (arrOf st) j)
     by_cases c2:j<sb
     · exact s1 i j hi hij c2
     · by_cases c3:sb<=i
       · exact s2 i j c3 hij hj
       · have:=f3 (j - sb) (by lia) (by lia)
         rw[show sb+(j - sb)=j by lia] at this
         exact O.trans _ _ _ (s1 i (sb - 1) hi (by lia) (by lia)) this
   · rw [if_neg (by simpa using c2)]
     have hxs:((arrOf st).extract (sa+k) sb).size=na - k:=by rw[Array.size_extract];lia
     have hys:((arrOf st).extract sb (sb+m)).size=m:=by rw[Array.size_extract];lia
     have T:Two less a₀ ((arrOf st).extract (sa+k) sb) ((arrOf st).extract sb (sb+m)):=by
       refine⟨sU O s1 (by lia) (Nat.le_refl _) (by lia),sU O s2 (Nat.le_refl _) (by lia) (by lia),fun i hi=> ?_,fun i hi=> ?_,by lia,by lia,?_,fun j hj=> ?_⟩
       · rw[d3 hi];rw[hxs] at hi;exact B.mem (by lia)
       · rw[d3 hi];rw[hys] at hi;exact B.mem (by lia)
       · rw[d3 (by lia),d3 (by lia)]
         exact g3 k (Nat.le_refl _) (by lia)
       · rw[d3 hj,d3 (by lia)]
         rw[hys] at hj
         rw[hxs,show sa+k+(na - k - 1)=sb - 1 by lia]
         exact f2 j hj
     have fin : ∀ (r:Array Keyed) (g:Nat),Res less ((arrOf st).extract (sa+k) sb) ((arrOf st).extract sb (sb+m)) r ->
         wpS (model prog w) A E s (do modify fun s=>setArr s (wrt (arrOf s) (sa+k) r.toList.zipIdx);return(failedOf (<- get)).isNone) Q (aD st1 g):=by
       rintro r g ⟨rp,rs⟩
       have rl:r.toList.length=sb+m - (sa+k):=by
         rw[rp.length_eq,List.length_append]
         have e1:((arrOf st).extract (sa+k) sb).toList.length=na - k:=by rw[Array.length_toList];exact hxs
         have e2:((arrOf st).extract sb (sb+m)).toList.length=m:=by rw[Array.length_toList];exact hys
         rw[e1,e2];lia
       have wl:=pQ (xs:=arrOf st) (at_:=sa+k) (ms:=r.toList) (by rw[rl,hsz];lia)
       rw[rl,show sa+k+(sb+m - (sa+k))=sb+m by lia] at wl
       have wa: ∀n,ath (wrt (arrOf st) (sa+k) r.toList.zipIdx) n=if sa+k<=n /\ n<sb+m then(r.toList[n - (sa+k)]?).getD (.none, .none) else ath (arrOf st) n:=fun n=>by
         have e:=lK (sa+k) n r.toList 0 (arrOf st) (by rw[rl,hsz];lia)
         rw[Nat.add_zero,rl,show sa+k+(sb+m - (sa+k))=sb+m by lia] at e
         unfold ath
         rw[e]
         split<;>rfl
       have wm: ∀n,sa+k<=n ->n<sb+m -> ∃n',sa+k<=n' /\ n'<sb+m /\ ath (wrt (arrOf st) (sa+k) r.toList.zipIdx) n=ath (arrOf st) n':=fun n n1 n2=>by
         rw[wa,if_pos ⟨n1,n2⟩,List.getElem?_eq_getElem (by lia)]
         have hm:=rp.mem_iff.mp (List.getElem_mem (l:=r.toList) (n:=n - (sa+k)) (by lia))
         rcases List.mem_append.mp hm with hm | hm
         · rw[eK] at hm
           obtain⟨q,q1,q2,q3,e⟩:=nh hm
           exact⟨q,q1,by lia,e⟩
         · rw[eK] at hm
           obtain⟨q,q1,q2,q3,e⟩:=nh hm
           exact⟨q,by lia,q2,e⟩
       refine wpS_bind (wpS_modify ?_)
       refine wpS_bind (wpS_get (wpS_pure ?_))
       have ef:(failedOf (setArr (aD st1 g) (wrt (arrOf (aD st1 g)) (sa+k) r.toList.zipIdx))).isNone=true:=by
         show(failedOf st).isNone=true
         rw[B.fl];rfl
       rw[ef]
       refine h _ ⟨?_,B.kd,B.fl⟩ rfl (fun i j hi hij hj=> ?_) (fun n hn=> ?_)
       · show(wrt (arrOf st) (sa+k) r.toList.zipIdx).Perm a₀
         refine Array.Perm.trans ?_ B.perm
         rw[Array.perm_iff_toList_perm,wl]
         have e3:=three (arrOf st).toList (sa+k) sb (sb+m) (by lia) (by lia) (by simp;lia)
         refine List.Perm.trans ?_ (List.Perm.of_eq e3.symm)
         refine List.Perm.append_left _ ?_
         rw[<- List.append_assoc]
         refine List.Perm.append_right _ ?_
         rw[eK,eK] at rp
         exact rp
       · show LE less (ath (wrt (arrOf st) (sa+k) r.toList.zipIdx) i) (ath (wrt (arrOf st) (sa+k) r.toList.zipIdx) j)
         have key1: ∀x y,sa<=x ->x<sa+k ->sa+k<=y ->y<sb+nb ->LE less (ath (arrOf st) x) (ath (arrOf st) y):=fun x y x1 x2 y1 y2=>by
           by_cases c:y<sb
           · exact s1 x y x1 (by lia) c
           · have:=g2 (x - sa) (by lia)
             rw[show sa+(x - sa)=x by lia] at this
             exact O.trans _ _ _ this (s2 sb y (Nat.le_refl _) (by lia) y2)
         have key2: ∀x y,sa+k<=x ->x<sb+m ->sb+m<=y ->y<sb+nb ->LE less (ath (arrOf st) x) (ath (arrOf st) y):=fun x y x1 x2 y1 y2=>by
           by_cases c:x<sb
           · have:=f3 (y - sb) (by lia) (by lia)
             rw[show sb+(y - sb)=y by lia] at this
             exact O.trans _ _ _ (s1 x (sb - 1) (by lia) (by lia) (by lia)) this
           · exact s2 x y (by lia) (by lia) y2
         by_cases i1:i<sa+k
         · have ei:=wa i
           rw[if_neg (by lia)] at ei
           rw[ei]
           by_cases j1:j<sa+k
           · have ej:=wa j
             rw[if_neg (by lia)] at ej
             rw[ej];exact s1 i j hi hij (by lia)
           · by_cases j2:j<sb+m
             · obtain⟨n',n1,n2,e⟩:=wm j (by lia) j2
               rw[e];exact key1 i n' hi i1 n1 (by lia)
             · have ej:=wa j
               rw[if_neg (by lia)] at ej
               rw[ej];exact key1 i j hi i1 (by lia) hj
         · by_cases i2:i<sb+m
           · by_cases j2:j<sb+m
             · rw[wa i,wa j,if_pos (by lia),if_pos (by lia),List.getElem?_eq_getElem (by lia),List.getElem?_eq_getElem (by lia)]
               by_cases cij:i=j
               · subst cij;exact O.refl _
               · exact List.pairwise_iff_getElem.mp rs _ _ (by lia) (by lia) (by lia)
             · obtain⟨n',n1,n2,e⟩:=wm i (by lia) i2
               have ej:=wa j
               rw[if_neg (by lia)] at ej
               rw[e,ej];exact key2 n' j n1 n2 (by lia) hj
           · have ei:=wa i
             have ej:=wa j
             rw[if_neg (by lia)] at ei ej
             rw[ei,ej];exact s2 i j (by lia) hij hj
       · show ath (wrt (arrOf st) (sa+k) r.toList.zipIdx) n=_
         rw[wa n,if_neg (by lia)]
     by_cases c3:na - k<=m
     · rw[if_pos c3]
       exact wpS_bind (v9 O L T B.kd fun r g hr=>fin r g hr)
     · rw[if_neg c3]
       exact wpS_bind (wd O L T B.kd fun r g hr=>fin r g hr)
end
end TS
namespace TS
open PySem PyProof.Rows
def Runs (less:Keyed ->Keyed ->Bool)(xs:Array Keyed):List Rn ->Nat ->Nat ->Prop
 | [],lo,hi=>lo=hi
 | (a,n,_)::r,lo,hi=>a=lo /\ 1<=n /\ Sg less xs lo (lo+n) /\ Runs less xs r (lo+n) hi
section
variable {less:Keyed ->Keyed ->Bool}{xs ys:Array Keyed}
theorem Runs.le: ∀ {l:List Rn} {lo hi:Nat},Runs less xs l lo hi ->lo+l.length<=hi
 | [],lo,hi,h=>Nat.le_of_eq h
 | (a,n,p)::r,lo,hi,h=>by
   have:=Runs.le h.2.2.2
   have:=h.2.1
   rw[List.length_cons];lia
theorem Runs.app: ∀ {l1 l2:List Rn} {lo hi:Nat},Runs less xs (l1++l2) lo hi↔ ∃m,Runs less xs l1 lo m /\ Runs less xs l2 m hi
 | [],l2,lo,hi=>⟨fun h=>⟨lo,rfl,h⟩,fun⟨m,e,h⟩=>by cases e;exact h⟩
 | (a,n,p)::r,l2,lo,hi=>by
   constructor
   · rintro⟨h1,h2,h3,h4⟩
     obtain⟨m,a1,a2⟩:=Runs.app.mp h4
     exact⟨m,⟨h1,h2,h3,a1⟩,a2⟩
   · rintro⟨m,⟨h1,h2,h3,a1⟩,a2⟩
     exact⟨h1,h2,h3,Runs.app.mpr ⟨m,a1,a2⟩⟩
theorem Runs.out {e1 e2:Nat}(o:Out e1 e2 xs ys): ∀ {l:List Rn} {lo hi:Nat},(hi<=e1 \/ e2<=lo) ->Runs less xs l lo hi ->Runs less ys l lo hi
 | [],lo,hi,_,h=>h
 | (a,n,p)::r,lo,hi,hc,⟨h1,h2,h3,h4⟩=>by
   have:=Runs.le h4
   refine⟨h1,h2,fun i j hi hij hj=> ?_,Runs.out o (by lia) h4⟩
   rw[o i (by lia),o j (by lia)]
   exact h3 i j hi hij hj
theorem qO {e1 e2 lo hi:Nat}(o:Out e1 e2 xs ys)(hc:hi<=e1 \/ e2<=lo)(h:Sg less xs lo hi):Sg less ys lo hi:=fun i j hi hij hj=>by
 rw[o i (by lia),o j (by lia)]
 exact h i j hi hij hj
theorem qj {α:Type}{l:List α}(h:2<=l.length): ∃l1 x y,l=l1++ [x,y]:=by
 refine⟨l.take (l.length - 2),l[l.length - 2],l[l.length - 1],?_⟩
 have:=List.take_append_drop (l.length - 2) l
 rw[List.drop_eq_getElem_cons (by lia),List.drop_eq_getElem_cons (by lia),List.drop_eq_nil_of_le (by lia)] at this
 have e:l.length - 2+1=l.length - 1:=by lia
 simp only[e] at this
 exact this.symm
theorem nr {α:Type}{l:List α}(h:l≠ []): ∃l1 x,l=l1++ [x]:=⟨l.dropLast,l.getLast h,(List.dropLast_concat_getLast h).symm⟩
end
section
variable {prog:Program}{w:World}{A:Around}{E:Value ->Shared ->Prop}{s:Shared}{kd:SortKind}{a₀:Array Keyed}{less:Keyed ->Keyed ->Bool}
theorem kU (l1:List Rn)(x:Rn)(f:Rn ->Rn):(l1++ [x]).modify l1.length f=l1++ [f x]:=by
 induction l1 with
 | nil=>rfl
 | cons a l ih=>rw[List.cons_append,List.length_cons,List.modify_succ_cons,ih];rfl
theorem pV (O:Ord less)(L:cG prog w A E s kd a₀ less){st:SortSt}{Q:Bool ->SortSt ->Prop}{l1 l2:List Rn}{x y:Rn}{i lo:Nat}(B:SB kd a₀ st)(hp:pendingOf st=(l1++x::y::l2).toArray)(hi:i=l1.length)(hz:lo<=a₀.size)(R:Runs less (arrOf st) (l1++x::y::l2) 0 lo)
   (h: ∀st' z,SB kd a₀ st' ->pendingOf st'=(l1++z::l2).toArray ->Runs less (arrOf st') (l1++z::l2) 0 lo ->Out 0 lo (arrOf st) (arrOf st') ->Q true st'):wpS (model prog w) A E s (mergeAt' i) Q st:=by
 obtain⟨sa,na,pw⟩:=x
 obtain⟨sb,nb,pw2⟩:=y
 obtain⟨m,r1,rfl,h1,s1,rfl,h2,s2,r2⟩:=Runs.app.mp R
 have hle:=r2.le
 refine we O L B hp hi rfl h1 h2 (by lia) s1 s2 fun st' B' hp' s' o'=>h st' _ B' hp' ?_ fun k hk=>o' k (by lia)
 refine Runs.app.mpr ⟨_,r1.out o' (.inl (Nat.le_refl _)),rfl,by lia,?_,?_⟩
 · rw[<- Nat.add_assoc];exact s'
 · rw[<- Nat.add_assoc];exact r2.out o' (.inr (Nat.le_refl _))
theorem kI {xs:Array Keyed}{l1:List Rn}{a n p q lo hi:Nat}(h:Runs less xs (l1++ [(a,n,p)]) lo hi):Runs less xs (l1++ [(a,n,q)]) lo hi:=by
 obtain⟨m,r1,h1,h2,h3,h4⟩:=Runs.app.mp h
 exact Runs.app.mpr ⟨m,r1,h1,h2,h3,h4⟩
theorem ua (O:Ord less)(L:cG prog w A E s kd a₀ less){st:SortSt}{Q:Unit ->SortSt ->Prop}(B:SB kd a₀ st)(hp0:pendingOf st= #[])(h2:2<=a₀.size)
   (h: ∀st',(arrOf st').Perm a₀ ->failedOf st'=none ->Sg less (arrOf st') 0 a₀.size ->Q () st'):wpS (model prog w) A E s sortRuns' Q st:=by
 rw[sortRuns'_eq]
 refine wpS_bind (wpS_get ?_)
 dsimp only
 simp only[B.size]
 generalize minRun' a₀.size a₀.size 0=mr
 refine wpS_bind (wpS_mono (wpS_forRange
   (I:=fun x c st'=> ∃lo pl,c=(none,lo) /\ x<=lo /\ lo<=a₀.size /\ SB kd a₀ st' /\ pendingOf st'=pl.toArray /\ Runs less (arrOf st') pl 0 lo)
   (Q:=fun c st'=> ∃pl,c=(none,a₀.size) /\ SB kd a₀ st' /\ pendingOf st'=pl.toArray /\ Runs less (arrOf st') pl 0 a₀.size) ?step ?fin ⟨0,[],rfl,Nat.le_refl _,Nat.zero_le _,B,hp0,rfl⟩) ?post)
 case fin=>
   rintro c st' ⟨lo,pl,rfl,h1,h2',B',hp,R⟩
   have:lo=a₀.size:=by lia
   subst this
   exact⟨pl,rfl,B',hp,R⟩
 case step =>
   rintro x c st' _ hx ⟨lo,pl,rfl,h1,h2',B',hp,R⟩
   dsimp only
   by_cases c1:lo≥a₀.size
   · rw[if_pos c1]
     have:lo=a₀.size:=by lia
     subst this
     exact wpS_pure ⟨pl,rfl,B',hp,R⟩
   rw[if_neg c1]
   refine wpS_bind (wp_run O L (by lia) (by lia) B' fun m st2 B2 m1 m2 s2 p2 o2=> ?_)
   dsimp only
   have R2:Runs less (arrOf st2) pl 0 lo:=R.out o2 (.inl (Nat.le_refl _))
   by_cases c2:m<mr
   · rw [if_pos c2]
     refine wpS_bind (wpS_lift (wpAny_rule ⟨rfl,?_⟩))
     refine wpS_bind (wg O L (by lia) (by lia) B2 s2 fun st3 B3 s3 p3 o3=> ?_)
     simp only[Bool.not_true,Bool.false_eq_true,if_false]
     have R3:=R2.out o3 (.inl (Nat.le_refl _))
     have n1:1<=min (a₀.size - lo) mr:=by lia
     have n2:lo+min (a₀.size - lo) mr<=a₀.size:=by lia
     rw[p2,hp] at p3
     clear o3
     revert s3 n1 n2
     generalize min (a₀.size - lo) mr=n
     intro s3 n1 n2
     refine wpS_bind (wpS_get ?_)
     cases hb:(pendingOf st3).back? with
     | none=>
       dsimp only
       refine wpS_bind (wpS_modify (wpS_pure ⟨lo+n,pl++ [(lo,n,0)],rfl,by lia,n2,⟨B3.perm,B3.kd,B3.fl⟩,?_,Runs.app.mpr ⟨lo,R3,rfl,n1,s3,rfl⟩⟩))
       show(pendingOf st3).push (lo,n,0)=_
       rw[p3];simp
     | some q=>
       obtain⟨s1,n1',p1⟩:=q
       dsimp only
       have hne:pl≠ []:=fun e=>by subst e;rw[p3] at hb;simp at hb
       refine wpS_bind (wpS_mono (wpS_forRange (I:=fun _ c st4=>c=(none,()) /\ ∃pl,pl≠ [] /\ SB kd a₀ st4 /\ Sg less (arrOf st4) lo (lo+n) /\ pendingOf st4=pl.toArray /\ Runs less (arrOf st4) pl 0 lo)
         (Q:=fun c st4=>c=(none,()) /\ ∃pl,pl≠ [] /\ SB kd a₀ st4 /\ Sg less (arrOf st4) lo (lo+n) /\ pendingOf st4=pl.toArray /\ Runs less (arrOf st4) pl 0 lo) ?_ (fun c st4 h=>h) ⟨rfl,pl,hne,B3,s3,p3,R3⟩) ?_)
       · rintro y c st4 _ hy ⟨rfl,pl4,ne4,B4,s4,p4,R4⟩
         refine wpS_bind (wpS_get ?_)
         by_cases c2:(pendingOf st4).size >1
         · rw[if_pos c2]
           have hl:2<=pl4.length:=by rw[p4] at c2;simp at c2;lia
           obtain⟨l1,u,v,e4⟩:=qj hl
           have e5:(pendingOf st4).size - 2=l1.length:=by rw[p4,e4];simp
           have e6:(pendingOf st4)[(pendingOf st4).size - 2]? =some u:=by rw[e5,p4,e4];simp
           rw[e6]
           obtain⟨u1,u2,u3⟩:=u
           dsimp only
           split
           · exact wpS_pure ⟨rfl,pl4,ne4,B4,s4,p4,R4⟩
           · subst e4
             refine wpS_bind (pV O L (l2:= []) B4 p4 e5 (by lia) R4 fun st5 z B5 p5 R5 o5=> ?_)
             simp only[Bool.not_true,Bool.false_eq_true,if_false]
             exact wpS_pure ⟨rfl,_,by simp,B5,qO o5 (.inr (Nat.le_refl _)) s4,p5,R5⟩
         · rw[if_neg c2]
           exact wpS_pure ⟨rfl,pl4,ne4,B4,s4,p4,R4⟩
       · rintro c st4 ⟨rfl,pl4,ne4,B4,s4,p4,R4⟩
         dsimp only
         refine wpS_bind (wpS_modify (wpS_bind (wpS_modify (wpS_pure ?_))))
         obtain⟨l1,⟨u1,u2,u3⟩,rfl⟩:=nr ne4
         refine⟨lo+n,(l1++ [(u1,u2,power' a₀.size (2*s1+n1') (2*s1+n1'+n1'+n) a₀.size)])++ [(lo,n,0)],rfl,by lia,n2,⟨B4.perm,B4.kd,B4.fl⟩,?_,Runs.app.mpr ⟨lo,kI R4,rfl,n1,s4,rfl⟩⟩
         show((pendingOf st4).modify ((pendingOf st4).size - 1) _).push (lo,n,0)=_
         rw[p4]
         simp only[List.modify_toArray,List.push_toArray,List.size_toArray]
         congr 2
         rw[List.length_append,List.length_singleton,Nat.add_sub_cancel]
         exact kU l1 _ _
   · rw [if_neg c2]
     have s3:=s2
     have n1:=m1
     have n2:lo+m<=a₀.size:=by lia
     have p3:pendingOf st2=pl.toArray:=by rw[p2,hp]
     have B3:=B2
     have R3:=R2
     clear p2 o2 B2 R2 s2 m1 m2 c2
     revert s3 n1 n2
     generalize m=n
     intro s3 n1 n2
     revert p3 B3 R3 s3
     generalize st2=st3
     intro p3 B3 R3 s3
     refine wpS_bind (wpS_get ?_)
     cases hb:(pendingOf st3).back? with
     | none=>
       dsimp only
       refine wpS_bind (wpS_modify (wpS_pure ⟨lo+n,pl++ [(lo,n,0)],rfl,by lia,n2,⟨B3.perm,B3.kd,B3.fl⟩,?_,Runs.app.mpr ⟨lo,R3,rfl,n1,s3,rfl⟩⟩))
       show(pendingOf st3).push (lo,n,0)=_
       rw[p3];simp
     | some q=>
       obtain⟨s1,n1',p1⟩:=q
       dsimp only
       have hne:pl≠ []:=fun e=>by subst e;rw[p3] at hb;simp at hb
       refine wpS_bind (wpS_mono (wpS_forRange (I:=fun _ c st4=>c=(none,()) /\ ∃pl,pl≠ [] /\ SB kd a₀ st4 /\ Sg less (arrOf st4) lo (lo+n) /\ pendingOf st4=pl.toArray /\ Runs less (arrOf st4) pl 0 lo)
         (Q:=fun c st4=>c=(none,()) /\ ∃pl,pl≠ [] /\ SB kd a₀ st4 /\ Sg less (arrOf st4) lo (lo+n) /\ pendingOf st4=pl.toArray /\ Runs less (arrOf st4) pl 0 lo) ?_ (fun c st4 h=>h) ⟨rfl,pl,hne,B3,s3,p3,R3⟩) ?_)
       · rintro y c st4 _ hy ⟨rfl,pl4,ne4,B4,s4,p4,R4⟩
         refine wpS_bind (wpS_get ?_)
         by_cases c2:(pendingOf st4).size >1
         · rw[if_pos c2]
           have hl:2<=pl4.length:=by rw[p4] at c2;simp at c2;lia
           obtain⟨l1,u,v,e4⟩:=qj hl
           have e5:(pendingOf st4).size - 2=l1.length:=by rw[p4,e4];simp
           have e6:(pendingOf st4)[(pendingOf st4).size - 2]? =some u:=by rw[e5,p4,e4];simp
           rw[e6]
           obtain⟨u1,u2,u3⟩:=u
           dsimp only
           split
           · exact wpS_pure ⟨rfl,pl4,ne4,B4,s4,p4,R4⟩
           · subst e4
             refine wpS_bind (pV O L (l2:= []) B4 p4 e5 (by lia) R4 fun st5 z B5 p5 R5 o5=> ?_)
             simp only[Bool.not_true,Bool.false_eq_true,if_false]
             exact wpS_pure ⟨rfl,_,by simp,B5,qO o5 (.inr (Nat.le_refl _)) s4,p5,R5⟩
         · rw[if_neg c2]
           exact wpS_pure ⟨rfl,pl4,ne4,B4,s4,p4,R4⟩
       · rintro c st4 ⟨rfl,pl4,ne4,B4,s4,p4,R4⟩
         dsimp only
         refine wpS_bind (wpS_modify (wpS_bind (wpS_modify (wpS_pure ?_))))
         obtain⟨l1,⟨u1,u2,u3⟩,rfl⟩:=nr ne4
         refine⟨lo+n,(l1++ [(u1,u2,power' a₀.size (2*s1+n1') (2*s1+n1'+n1'+n) a₀.size)])++ [(lo,n,0)],rfl,by lia,n2,⟨B4.perm,B4.kd,B4.fl⟩,?_,Runs.app.mpr ⟨lo,kI R4,rfl,n1,s4,rfl⟩⟩
         show((pendingOf st4).modify ((pendingOf st4).size - 1) _).push (lo,n,0)=_
         rw[p4]
         simp only[List.modify_toArray,List.push_toArray,List.size_toArray]
         congr 2
         rw[List.length_append,List.length_singleton,Nat.add_sub_cancel]
         exact kU l1 _ _
 case post =>
   rintro c st' ⟨pl,rfl,B',hp,R⟩
   dsimp only
   have hle:=R.le
   refine wpS_bind (wpS_mono (wpS_forRange (I:=fun x c st4=>c=(none,()) /\ ∃pl,SB kd a₀ st4 /\ pendingOf st4=pl.toArray /\ Runs less (arrOf st4) pl 0 a₀.size /\ (pl.length<=1 \/ pl.length+x<=a₀.size))
     (Q:=fun c st4=>c=(none,()) /\ ∃pl,SB kd a₀ st4 /\ Runs less (arrOf st4) pl 0 a₀.size /\ pl.length<=1) ?_ ?_ ⟨rfl,pl,B',hp,R, .inr (by lia)⟩) ?_)
   · rintro x c st4 _ hx ⟨rfl,pl4,B4,p4,R4,hl⟩
     refine wpS_bind (wpS_get ?_)
     have esz:(pendingOf st4).size=pl4.length:=by rw[p4];simp
     by_cases c1:(pendingOf st4).size<=1
     · rw[if_pos c1]
       exact wpS_pure ⟨rfl,pl4,B4,R4,by lia⟩
     · rw [if_neg c1]
       generalize hcond:Option.any _ _=cnd
       have mk: ∀k,k+2<=pl4.length -> ∀ (Q':ForInStep (Option Unit×Unit) ->SortSt ->Prop),(∀st' pl,SB kd a₀ st' ->pendingOf st'=pl.toArray ->Runs less (arrOf st') pl 0 a₀.size ->(pl.length<=1 \/ pl.length+(x+1) <=a₀.size) ->Q' (.yield (none,())) st') ->
           wpS (model prog w) A E s (do
           let b <- mergeAt' k
           if(!b)=true then pure (ForInStep.done ((some (),()):Option Unit×Unit)) else pure (ForInStep.yield (none,()))) Q' st4:=by
         intro k hk Q' hQ
         have e:=List.take_append_drop k pl4
         rw[List.drop_eq_getElem_cons (by lia),List.drop_eq_getElem_cons (by lia)] at e
         have hk':(pl4.take k).length=k:=by rw[List.length_take];lia
         rw[<- e] at p4 R4
         refine wpS_bind (pV O L B4 p4 hk'.symm (Nat.le_refl _) R4 fun st5 z B5 p5 R5 o5=> ?_)
         simp only[Bool.not_true,Bool.false_eq_true,if_false]
         refine wpS_pure (hQ _ _ B5 p5 R5 (.inr ?_))
         rw[List.length_append,hk',List.length_cons,List.length_drop]
         lia
       cases cnd with
       | true=>
         simp only[if_true]
         exact mk ((pendingOf st4).size - 2 - 1) (by lia) _ fun st' pl b1 b2 b3 b4=>⟨rfl,pl,b1,b2,b3,b4⟩
       | false=>
         simp only[Bool.false_eq_true,if_false]
         exact mk ((pendingOf st4).size - 2) (by lia) _ fun st' pl b1 b2 b3 b4=>⟨rfl,pl,b1,b2,b3,b4⟩
   · rintro c st4 ⟨rfl,pl4,B4,p4,R4,hl⟩
     exact⟨rfl,pl4,B4,R4,by lia⟩
   · rintro c st4 ⟨rfl,pl4,B4,R4,hl⟩
     refine wpS_pure (h _ B4.perm B4.fl ?_)
     match pl4,R4,hl with
     | [],R4,_=>exact absurd R4 (by show ¬(0=a₀.size);lia)
     | [(u1,u2,u3)],⟨_,_,h3,h4⟩,_=>
       have h4:0+u2=a₀.size:=h4
       rw[h4] at h3
       exact h3
     | _::_::_,_,hl=>simp at hl
end
end TS
namespace TS
open PySem PyProof.Rows
def oQ (h:Heap)(a:Addr)(vs:List Value):Heap:=((h.update a (Obj.mapSeq fun _=> #[])).push (seqObj "tuple" vs.toArray 0)).push (seqObj "list" #[] 0)
theorem uK {h:Heap}{a:Addr}{vs:List Value}{n:Nat}(ho:h.get? a=some (seqObj "list" vs.toArray n)):(oQ h a vs).get? a=some (seqObj "list" #[] (if((#[]:Array Value)).size==vs.toArray.size then n else n+1)):=by
 have ha:=Heap.lt_size ho
 unfold oQ
 rw[Heap.get?_push_ne _ _ _ (by rw[size_push',Heap.size_update];exact Nat.ne_of_lt (Nat.lt_succ_of_lt ha)),Heap.get?_push_ne _ _ _ (by rw[Heap.size_update];exact Nat.ne_of_lt ha)]
 exact get?_update_seq ho (fun _=> #[])
section
variable {prog:Program}{w:World}{A:Around}{E:Value ->Shared ->Prop}{s:Shared}
theorem qL {a:Addr}{vs:List Value}{n:Nat}{P:Fin ->Shared ->Prop}{kd:SortKind}{less:Keyed ->Keyed ->Bool}(O:Ord less)(ho:s.heap.get? a=some (seqObj "list" vs.toArray n))(hsz:vs.length<=sizeLine)
   (hk:2<=vs.length -> ∀ (Q:SortKind ->Shared ->Prop),Q kd {s with heap:=oQ s.heap a vs} ->wpAny (model prog w) A (keyKind' vs.toArray) Q E {s with heap:=oQ s.heap a vs})
   (L:cG prog w A E {s with heap:=oQ s.heap a vs} kd (pairsOf vs) less)
   (h: ∀ (us:List Value),us.Perm vs ->us.Pairwise (fun x y=>less (y,y) (x,x)=false) ->P (.done (.ret .none)) {s with heap:=sortedHeap s.heap a vs us.toArray}):
   wpAny (model prog w) A (Builtin.«list.sort» ⟨[.ref a],[]⟩) P E s:=by
 rw[list_sort_plain]
 refine wpAny_bind (listItems_at ho rfl ?_)
 refine wpAny_bind (listUpdate_at ho rfl ?_ (hsz:=by simpa using hsz))
 refine wpAny_bind (seqEpoch_at (get?_update_seq ho (fun _=> #[])) rfl ?_)
 refine wpAny_bind (wpAny_newTuple ?_)
 refine wpAny_bind (wpAny_newList ?_)
 refine wpAny_holding ?_
 have ho6:=uK ho
 show wpAny (model prog w) A _ P E {s with heap:=oQ s.heap a vs}
 dsimp only
 have fin: ∀xs:Array Keyed,xs.Perm (pairsOf vs) ->Sg less xs 0 (pairsOf vs).size ->
     P (.done (.ret .none)) {s with heap:=sortedHeap s.heap a vs (xs.map (·.2))}:=by
   intro xs hp hs
   have hl:xs.toList.Perm (vs.zip vs):=by rw[<- pairsOf_toList];exact Array.perm_iff_toList_perm.mp hp
   have hmem: ∀p,p∈xs.toList ->p.1=p.2 /\ p.1∈vs:=fun p hp'=>mem_zip_self (hl.mem_iff.mp hp')
   have:=h (xs.toList.map (·.2)) ?_ ?_
   · have e:(xs.toList.map (·.2)).toArray=xs.map (·.2):=by
       apply Array.toList_inj.mp;simp
     rwa [e] at this
   · have h1:=hl.map (fun p:Keyed=>p.2)
     rwa [List.map_snd_zip (Nat.le_refl _)] at h1
   · rw[List.pairwise_iff_getElem]
     intro i j hi hj hij
     have hi':i<xs.size:=by simpa using hi
     have hj':j<xs.size:=by simpa using hj
     have h1:=hs i j (Nat.zero_le _) (Nat.le_of_lt hij) (by rw[<- hp.size_eq];exact hj')
     have e1:ath xs i=((xs.toList.map (·.2))[i],(xs.toList.map (·.2))[i]):=by
       rw[List.getElem_map]
       have hm:=kf hi'
       have e:=bX hi'
       rw[List.getElem?_eq_getElem (by simpa using hi')] at e
       have e:=Option.some.inj e
       rw[e]
       exact Prod.ext (hmem _ hm).1 rfl
     have e2:ath xs j=((xs.toList.map (·.2))[j],(xs.toList.map (·.2))[j]):=by
       rw[List.getElem_map]
       have hm:=kf hj'
       have e:=bX hj'
       rw[List.getElem?_eq_getElem (by simpa using hj')] at e
       have e:=Option.some.inj e
       rw[e]
       exact Prod.ext (hmem _ hm).1 rfl
     rw[e1,e2] at h1
     exact h1
 have hsz':vs.toArray.size=vs.length:=by simp
 by_cases h2:vs.toArray.size<2
 · rw[if_pos h2,if_pos h2]
   refine wpAny_bind (wpAny_pure ?_)
   rw[StateT.run_pure]
   refine wpAny_bind (wpAny_pure ?_)
   dsimp only
   refine wpAny_bind (seqEpoch_at ho6 rfl ?_)
   refine wpAny_bind (listUpdate_at ho6 rfl ?_ (hsz2:=by rw[Array.size_map];show(pairsOf vs).size<=_;rw[pairsOf_size];lia))
   simp only[bne_self_eq_false,Bool.false_eq_true,if_false]
   refine wpAny_pure (fin (pairsOf vs) (Array.Perm.refl _) ?_)
   intro i j _ hij hj
   have:i=j:=by rw[pairsOf_size] at hj;lia
   subst this;exact O.refl _
 · rw[if_neg h2,if_neg h2]
   refine wpAny_bind (hk (by lia) _ ?_)
   refine wpAny_bind (wpAny_mono (ua O L (st:=SortSt.mk' kd (vs.toArray.zip vs.toArray) #[] 7 none)
     (Q:=fun _ st'=>(arrOf st').Perm (pairsOf vs) /\ failedOf st'=none /\ Sg less (arrOf st') 0 (pairsOf vs).size)
     ⟨Array.Perm.refl _,rfl,rfl⟩ rfl (by rw[pairsOf_size];lia) fun st' a1 a2 a3=>⟨a1,a2,a3⟩) ?_ fun _ _ e=>e)
   rintro⟨⟨⟩,st'⟩ s' ⟨rfl,hp,hf,hs⟩
   dsimp only
   refine wpAny_bind (seqEpoch_at ho6 rfl ?_)
   refine wpAny_bind (listUpdate_at ho6 rfl ?_ (hsz2:=by refine Nat.le_trans (Nat.le_of_eq ((Array.size_map ..).trans (hp.size_eq.trans (pairsOf_size _)))) ?_;lia))
   rw[hf]
   simp only[bne_self_eq_false,Bool.false_eq_true,if_false]
   exact wpAny_pure (fin _ hp hs)
def hX (x y:Keyed):Bool:=decide (numOf x.1<numOf y.1)
theorem ordI:Ord hX:=by
 refine⟨fun x y h=> ?_,fun x y z h1 h2=> ?_⟩
 · unfold hX at*
   rw[decide_eq_true_eq] at h
   exact decide_eq_false (by lia)
 · unfold LE hX at*
   rw[decide_eq_false_iff_not] at*
   lia
theorem ltI {a₀:Array Keyed}(h0:IntKeys a₀):cG prog w A E s oneType' a₀ hX:=by
 intro x y st Q hx hy hk hq
 obtain⟨n,t,e1⟩:=h0 x hx
 obtain⟨m,u,e2⟩:=h0 y hy
 rw[lt'_eq]
 refine wpS_bind (wpS_get ?_)
 rw[hk,keyLt'_oneType,e1,e2]
 refine wpS_bind (wpS_lift (wpAny_attempt (oneLt_int ⟨rfl,?_⟩)))
 have e:hX x y=decide (n<m):=by unfold hX;rw[e1,e2];rfl
 rw[e] at hq
 exact wpS_pure hq
theorem iT {a:Addr}{vs:List Value}{ns:List Int}{n:Nat}{P:Fin ->Shared ->Prop}(ho:s.heap.get? a=some (seqObj "list" vs.toArray n))
   (hI:IntsAre vs ns) (hsz:vs.length<=sizeLine)
   (h: ∀ (out:Array Value) (ns':List Int),IntsAre out.toList ns' ->ns'.Perm ns ->ns'.Pairwise (· <= ·) ->P (.done (.ret .none)) {s with heap:=sortedHeap s.heap a vs out}):
   wpAny (model prog w) A (Builtin.«list.sort» ⟨[.ref a],[]⟩) P E s:=by
 refine qL ordI ho hsz (kd:=oneType') (fun h2 Q hq=> ?_) (ltI hI.intKeys) fun us hp hs=> ?_
 · obtain⟨v₁,v₂,rest,rfl⟩: ∃v₁ v₂ rest,vs=v₁::v₂::rest:=by
     match vs,h2 with
     | [],h2=>simp at h2
     | [_],h2=>simp at h2
     | v₁::v₂::rest,_=>exact⟨v₁,v₂,rest,rfl⟩
   rw[keyKind_ints hI]
   exact wpAny_pure hq
 · have hall: ∀v,v∈us -> ∃n t,v= .int n t:=fun v hv=>hI.all v (hp.mem_iff.mp hv)
   refine h us.toArray (us.map numOf) (by simpa using intsAre_map us hall) ?_ ?_
   · have:=hp.map numOf
     rwa [hI.nums] at this
   · rw[List.pairwise_map]
     refine hs.imp fun {x y} e=> ?_
     unfold hX at e
     rw[decide_eq_false_iff_not] at e
     simp only at e
     lia
end
end TS
namespace L2
open PySem PySem.Spec PyProof.Rows
abbrev Key:=Sum Int Str
def fq:Key ->Value ->Bool
 | .inl k,v=>Value.isInt k v
 | .inr x,v=>Value.isStrOf x v
def keyH (w:World):Key ->Int
 | .inl k=>hashInt k
 | .inr x=>hashStr w x
theorem aT: ∀ {k:Key} {v:Value},fq k v=true ->(∃i t,k=Sum.inl i /\ v=Value.int i t) \/ (∃x t,k=Sum.inr x /\ v=Value.str x t)
 | .inl i,v,h=>by
   obtain⟨t,e⟩:=Value.isInt_shape (k:=i) (v:=v) h
   exact .inl ⟨i,t,rfl,e⟩
 | .inr x,v,h=>by
   obtain⟨t,e⟩:=Value.isStrOf_shape (x:=x) (v:=v) h
   exact .inr ⟨x,t,rfl,e⟩
theorem oY (i:Int)(t:Tok):fq (.inl i) (.int i t)=true:=by simp[fq,Value.isInt]
theorem oX (x:Str)(t:Tok):fq (.inr x) (.str x t)=true:=by simp[fq,Value.isStrOf]
theorem xy (a b:Int):decide ((Sum.inl a:Key)=Sum.inl b)=(a==b):=by
 by_cases e:a=b
 · subst e;simp
 · have h:¬(Sum.inl a:Key)=Sum.inl b:=fun q=>e (Sum.inl.inj q)
   rw[decide_eq_false h]
   exact(beq_eq_false_iff_ne.mpr e).symm
theorem xv (a b:Str):decide ((Sum.inr a:Key)=Sum.inr b)=decide (a=b):=by
 by_cases e:a=b
 · subst e;simp
 · have h:¬(Sum.inr a:Key)=Sum.inr b:=fun q=>e (Sum.inr.inj q)
   rw[decide_eq_false h,decide_eq_false e]
theorem xx (a:Int)(b:Str):decide ((Sum.inl a:Key)=Sum.inr b)=false:=decide_eq_false (fun q=>nomatch q)
theorem xw (a:Str)(b:Int):decide ((Sum.inr a:Key)=Sum.inl b)=false:=decide_eq_false (fun q=>nomatch q)
def aC (prog:Program)(w:World):PySem.KeyKind prog w Key where
 is:=fq
 hash:=keyH w
 inj :=fun v a b ha hb=>by
   rcases aT ha with⟨i,t,rfl,rfl⟩ | ⟨x,t,rfl,rfl⟩
   · rcases aT hb with⟨j,u,rfl,e⟩ | ⟨y,u,rfl,e⟩
     · injection e with e1 _;rw[e1]
     · exact nomatch e
   · rcases aT hb with⟨j,u,rfl,e⟩ | ⟨y,u,rfl,e⟩
     · exact nomatch e
     · injection e with e1 _;rw[e1]
 byValue:=fun k v h=>by
   rcases aT h with⟨i,t,rfl,rfl⟩ | ⟨x,t,rfl,rfl⟩ <;>rfl
 pyHash:=fun hv h=>by
   rcases aT hv with⟨i,t,rfl,rfl⟩ | ⟨x,t,rfl,rfl⟩
   · exact wpAny_pyHash_int h
   · exact wpAny_pyHash_str h
 eqBool:=fun hu hv h=>by
   rcases aT hu with⟨i,t,rfl,rfl⟩ | ⟨x,t,rfl,rfl⟩
   · rcases aT hv with⟨j,u,rfl,rfl⟩ | ⟨y,u,rfl,rfl⟩
     · rw[xy] at h;exact wpAny_eqBool_int h
     · rw[xx] at h;exact SeqAt.EqAt.int_str i t y u _ _ _ _ h
   · rcases aT hv with⟨j,u,rfl,rfl⟩ | ⟨y,u,rfl,rfl⟩
     · rw[xw] at h;exact SeqAt.EqAt.str_int x t j u _ _ _ _ h
     · rw[xv] at h;exact wpAny_eqBool_str h
 «strs» :=fun k x t v h=>by
   rcases aT h with⟨i,u,rfl,e⟩ | ⟨y,u,rfl,e⟩
   · exact nomatch e
   · injection e with e1 _
     subst e1
     cases v<;>rfl
theorem kX (prog:Program)(w:World)(i:Int)(t:Tok):(aC prog w).is (.inl i) (.int i t)=true:=oY i t
theorem kW (prog:Program)(w:World)(x:Str)(t:Tok):(aC prog w).is (.inr x) (.str x t)=true:=oX x t
end L2
namespace L2
open PySem PySem.Spec PyProof.Rows
inductive V where
 | non | bl (b:Bool) | int (i:Int) | str (x:Str) | byt (b:Array UInt8) | flt (b:UInt64) | ref (a:Addr) | ty (n:String)
 deriving DecidableEq
def RelV:V ->Value ->Prop
 | .non,u=>u=Value.none
 | .bl b,u=>u=Value.bool b
 | .int i,u=> ∃t,u=Value.int i t
 | .str x,u=> ∃t,u=Value.str x t
 | .byt b,u=> ∃t,u=Value.bytes b t
 | .flt b,u=> ∃t,u=Value.float b t
 | .ref a,u=>u=Value.ref a
 | .ty n,u=>u=Value.type n
abbrev Vals:List V ->List Value ->Prop:=Paired RelV
theorem Vals.length {xs:List V}{us:List Value}(r:Vals xs us):xs.length=us.length:=Paired.length r
theorem Vals.get: ∀ {xs:List V} {us:List Value} {i:Nat} {x:V},Vals xs us ->xs[i]? =some x -> ∃u,us[i]? =some u /\ RelV x u
 | _,_,_,_, .nil,e=>by simp at e
 | _,_,0,_, .cons r _,e=>by simp at e;subst e;exact⟨_,rfl,r⟩
 | _,_,i+1,x, .cons _ t,e=>by
   obtain⟨u,h1,h2⟩:=Vals.get (i:=i) (x:=x) t (by simpa using e)
   exact⟨u,by simpa using h1,h2⟩
theorem Vals.set {x:V}{u:Value}(r:RelV x u): ∀ {xs:List V} {us:List Value} (i:Nat),Vals xs us ->Vals (xs.set i x) (us.set i u)
 | _,_,_, .nil=> .nil
 | _,_,0, .cons _ t=> .cons r t
 | _,_,i+1, .cons q t=> .cons q (Vals.set r i t)
theorem Vals.append: ∀ {xs ys:List V} {us ws:List Value},Vals xs us ->Vals ys ws ->Vals (xs++ys) (us++ws)
 | _,_,_,_, .nil,s=>s
 | _,_,_,_, .cons r t,s=> .cons r (Vals.append t s)
theorem Vals.take: ∀ {xs:List V} {us:List Value} (n:Nat),Vals xs us ->Vals (xs.take n) (us.take n)
 | _,_,0,_=> .nil
 | _,_,_+1, .nil=> .nil
 | _,_,n+1, .cons r t=> .cons r (Vals.take n t)
theorem Vals.drop: ∀ {xs:List V} {us:List Value} (n:Nat),Vals xs us ->Vals (xs.drop n) (us.drop n)
 | _,_,0,r=>r
 | _,_,_+1, .nil=> .nil
 | _,_,n+1, .cons _ t=>Vals.drop n t
def eU:Option V ->Option Value ->Prop
 | some v,some u=>RelV v u
 | none,none=>True
 | _,_=>False
def KV {κ:Type}:List (κ×V) ->List (κ×Value) ->Prop:=Paired fun(p:κ×V) (q:κ×Value)=>p.1=q.1 /\ RelV p.2 q.2
def kV:Key ->V
 | .inl i=> .int i
 | .inr x=> .str x
inductive HO where
 /-- a list -/
 | lst (xs:List V)
 /-- a tuple (never changes) -/
 | tup (xs:List V)
 /-- a dict whose keys are ints and texts;one whose keys are tuples of ints and texts (the empty one is both) -/
 | dK (kvs:List (Key×V)) | dT (kvs:List (List Key×V))
 /-- a set of ints:its members,its size -/
 | set (S:Int ->Bool) (n:Nat)
 /-- an instance of the class at C,its dict at dx,its attributes -/
 | ins (C dx:Addr) (fs:List (Str×V))
 /-- the dict of the instance at x -/
 | own (x:Addr)
 /-- the dict of an exception -/
 | xd (fs:List (Str×V))
 /-- a bound method,f of x -/
 | met (f x:Addr)
 /-- a range object lo,lo+1, .. below hi -/
 | rng (lo hi:Int)
 /-- a thing that is known to the object (the script;a dict while a loop walks it):read,never written while it is so -/
 | frz (o:Obj) (u:HO)
 /-- a code object's table -/
 | tbl (ps:Array Value)
 /-- any other thing,by what is true of its one object (a def of one's own:SetO a S n:=HO.ext fun h=> ..) -/
 | ext (φ:Heap ->Prop)
abbrev Hp:=Addr ->Option HO
def upd (H:Hp)(a:Addr)(o:HO):Hp:=fun b=>if b=a then some o else H b
theorem aw {H:Hp}{a:Addr}{o:HO}:upd H a o a=some o:=by unfold upd;rw[if_pos rfl]
theorem ar {H:Hp}{a b:Addr}{o:HO}(h:b≠a):upd H a o b=H b:=by unfold upd;rw[if_neg h]
theorem ne_of {H:Hp}{a b:Addr}{o u:HO}(h:H a=some o)(h':H b=some u)(d:o≠u):a≠b:=by
 intro e;subst e;rw[h] at h';exact d (Option.some.inj h')
theorem aN {H:Hp}{a b:Addr}{o:HO}(h:H a=some o)(h':H b=none):a≠b:=by
 intro e;subst e;rw[h] at h';cases h'
def ki (h:Heap)(a:Addr)(its:Array Value):Prop:= ∃o,h.get? a=some o /\ o.cls= .type "tuple" /\ ∃n,o.data= .seq its n /\ o.dict=none
theorem ki.t {h:Heap}{a:Addr}{its:Array Value}(x:ki h a its):IsTup h a its:=let ⟨o,e,c,n,d,_⟩:=x;⟨o,e,c,n,d⟩
theorem ki.lt {h:Heap}{a:Addr}{its:Array Value}(x:ki h a its):a<h.objs.size:=let ⟨_,e,_⟩:=x;Heap.lt_size e
theorem ki.new (h:Heap)(its:Array Value):ki (h.push {cls:= .type "tuple",data:= .seq its}) h.objs.size its:=⟨_,Heap.get?_push_size _ rfl,rfl,_,rfl,rfl⟩
section
variable (P:Program)(w:World)
def aW (H:Hp)(h:Heap)(a:Addr):HO ->Prop
 | .lst xs=>xs.length<=sizeLine /\ ∃ (its:List Value) (n:Nat),Vals xs its /\ h.get? a=some {cls:= .type "list",data:= .seq its.toArray n}
 | .tup xs=>xs.length<=sizeLine /\ ∃its:List Value,Vals xs its /\ ki h a its.toArray
 | .dK kvs=>kvs.length<=sizeLine /\ (a==sysModules)=false /\ ∃vs,KV kvs vs /\ h.DictOf (aC P w) a vs
 | .dT kvs=>kvs.length<=sizeLine /\ (a==sysModules)=false /\ ∃xs:List (List Key×Addr×Value),
     Paired (fun(p:List Key×V) (q:List Key×Addr×Value)=>p.1=q.1 /\ H q.2.1=some (.tup (p.1.map kV)) /\ RelV p.2 q.2.2) kvs xs /\
     ∃o es ep,h.get? a=some o /\ o.ExactDict /\ o.data= .dict es ep /\ es.toList=xs.map (entryOfKey (tupleKind (aC P w))) /\ (xs.map (·.1)).Nodup
 | .set S n=>h.SetOf (intKind P w) a S n
 | .ins C dx fs=>H dx=some (.own a) /\ fs.length<=1000 /\ dx≠a /\ h.get? a=some (PySem.W.instObj C dx) /\
     ∃mA,h.Ns1 dx mA /\ (∀f,eU (fs.lookup f) (mA f)) /\ PySem.Within mA (fs.map (·.1))
 | .own _=> ∃o,h.get? a=some o
 | .xd fs=> ∃mA,h.Ns1 a mA /\ ∀f,eU (fs.lookup f) (mA f)
 | .rng lo hi=> ∃t u v,h.get? a=some {cls:= .type "range",data:= .fields #[.int lo t, .int hi u, .int 1 v]}
 | .frz o u=>h.get? a=some o /\ aW H h a u
 | .tbl ps=>h.get? a=some {cls:= .none,data:= .fields ps}
 | .met f x=>h.get? a=some (PySem.W.methodObj (.ref f) (.ref x))
 | .ext φ=>φ h /\ (∃o,h.get? a=some o) /\ ∀h1 h2:Heap,φ h1 ->(∀o,h1.get? a=some o ->h2.get? a=some o) ->φ h2
def HOk (H:Hp)(h:Heap):Prop:= ∀a o,H a=some o ->aW P w H h a o
end
section
variable {P:Program}{w:World}{H H':Hp}{h h':Heap}{a:Addr}{o:HO}
theorem aW.lt (x:aW P w H h a o):a<h.objs.size:=by
 cases o with
 | lst xs=>obtain⟨_,_,_,_,e⟩:=x;exact Heap.lt_size e
 | tup xs=>obtain⟨_,_,_,p⟩:=x;exact p.lt
 | dK kvs=>obtain⟨_,_,_,_,o,_,_,e,_⟩:=x;exact Heap.lt_size e
 | dT kvs=>obtain⟨_,_,_,_,o,_,_,e,_⟩:=x;exact Heap.lt_size e
 | set S n=>obtain⟨o,_,_,_,e,_⟩:=x;exact Heap.lt_size e
 | ins C dx fs=>obtain⟨_,_,_,e,_⟩:=x;exact Heap.lt_size e
 | own y=>obtain⟨_,e⟩:=x;exact Heap.lt_size e
 | xd fs=>obtain⟨_,⟨_,_,_,e,_⟩,_⟩:=x;exact Heap.lt_size e
 | rng lo hi=>obtain⟨_,_,_,e⟩:=x;exact Heap.lt_size e
 | frz ob u=>obtain⟨e,_⟩:=x;exact Heap.lt_size e
 | tbl ps=>exact Heap.lt_size (show h.get? a=some _ from x)
 | met f y=>exact Heap.lt_size (show h.get? a=some _ from x)
 | ext φ=>obtain⟨_,⟨_,e⟩,_⟩:=x;exact Heap.lt_size e
theorem Paired.mapP {α β:Type}{F G:α ->β ->Prop}: ∀ {l₁:List α} {l₂:List β},Paired F l₁ l₂ ->(∀a b,F a b ->G a b) ->Paired G l₁ l₂
 | _,_, .nil,_=> .nil
 | _,_, .cons r t,f=> .cons (f _ _ r) (Paired.mapP t f)
theorem aW.stay (x:aW P w H h a o)(k: ∀b u,(b=a \/ H b=some (.own a)) ->h.get? b=some u ->h'.get? b=some u)
   (ho: ∀b,H b=some (.own a) ->H' b=some (.own a)) (ht: ∀b xs,H b=some (.tup xs) ->H' b=some (.tup xs)):aW P w H' h' a o:=by
 induction o with
 | lst xs=>obtain⟨z,its,n,r,e⟩:=x;exact⟨z,its,n,r,k _ _ (.inl rfl) e⟩
 | tup xs=>obtain⟨z,its,r,ob,e,c⟩:=x;exact⟨z,its,r,ob,k _ _ (.inl rfl) e,c⟩
 | dK kvs=>obtain⟨z,y,vs,r,ob,es,ep,e,c⟩:=x;exact⟨z,y,vs,r,ob,es,ep,k _ _ (.inl rfl) e,c⟩
 | dT kvs=>
   obtain⟨z,y,xs,r,ob,es,ep,e,c⟩:=x
   exact⟨z,y,xs,Paired.mapP r fun p q z=>⟨z.1,ht _ _ z.2.1,z.2.2⟩,ob,es,ep,k _ _ (.inl rfl) e,c⟩
 | set S n=>obtain⟨ob,es,ep,t,e,c⟩:=x;exact⟨ob,es,ep,t,k _ _ (.inl rfl) e,c⟩
 | ins C dx fs=>
   obtain⟨d,z,ne,e,mA,⟨od,es,ep,e2,c⟩,r⟩:=x
   exact⟨ho _ d,z,ne,k _ _ (.inl rfl) e,mA,⟨od,es,ep,k _ _ (.inr d) e2,c⟩,r⟩
 | own y=>obtain⟨ob,e⟩:=x;exact⟨ob,k _ _ (.inl rfl) e⟩
 | xd fs=>obtain⟨mA,⟨od,es,ep,e,c⟩,r⟩:=x;exact⟨mA,⟨od,es,ep,k _ _ (.inl rfl) e,c⟩,r⟩
 | rng lo hi=>obtain⟨t,u,v,e⟩:=x;exact⟨t,u,v,k _ _ (.inl rfl) e⟩
 | frz ob u ih=>obtain⟨e,q⟩:=x;exact⟨k _ _ (.inl rfl) e,ih q⟩
 | tbl ps=>
   have e:h.get? a=some {cls:= .none,data:= .fields ps}:=x
   show h'.get? a=some {cls:= .none,data:= .fields ps}
   exact k a _ (.inl rfl) e
 | met f y=>
   have e:h.get? a=some (PySem.W.methodObj (.ref f) (.ref y)):=x
   show h'.get? a=some (PySem.W.methodObj (.ref f) (.ref y))
   exact k a _ (.inl rfl) e
 | ext φ=>obtain⟨p,⟨o,e⟩,st⟩:=x;exact⟨st _ _ p fun o q=>k _ _ (.inl rfl) q,⟨o,k _ _ (.inl rfl) e⟩,st⟩
theorem HOk.lt (x:HOk P w H h)(e:H a=some o):a<h.objs.size:=(x a o e).lt
theorem HOk.fresh (x:HOk P w H h)(e:h.objs.size<=a):H a=none:=by
 cases q:H a with
 | none=>rfl
 | some u=>exact absurd (Nat.lt_of_lt_of_le (x.lt q) e) (Nat.lt_irrefl _)
theorem HOk.kept (x:HOk P w H h)(k: ∀b u,h.get? b=some u ->h'.get? b=some u):HOk P w H h':=fun a o e=>
 (x a o e).stay (fun b u _ q=>k b u q) (fun _ q=>q) fun _ _ q=>q
theorem HOk.laid (x:HOk P w H h)(k: ∀b u,h.get? b=some u ->h'.get? b=some u)(hp:h.objs.size<=a)(new:aW P w (upd H a o) h' a o):HOk P w (upd H a o) h':=fun b u e=>by
 have hn:=x.fresh hp
 by_cases hb:b=a
 · subst hb;rw[aw] at e;cases e;exact new
 · rw[ar hb] at e
   exact(x b u e).stay (fun c v _ q=>k c v q) (fun c q=>by rw[ar (aN q hn)];exact q) fun c xs q=>by rw[ar (aN q hn)];exact q
end
def Rd (H:Hp)(a:Addr)(u:HO):Prop:=H a=some u \/ ∃o,H a=some (.frz o u)
theorem Rd.ok {P:Program}{w:World}{H:Hp}{h:Heap}{a:Addr}{u:HO}(r:Rd H a u)(x:HOk P w H h):aW P w H h a u:=by
 rcases r with r | ⟨o,r⟩
 · exact x a u r
 · obtain⟨_,q⟩:=x a _ r
   exact q
def Mut:Option HO ->Prop
 | some (.lst _)=>True
 | some (.dK _)=>True
 | some (.dT _)=>True
 | some (.set _ _)=>True
 | some (.ins _ _ _)=>True
 | some (.ext _)=>True
 | _=>False
section
variable {P:Program}{w:World}{H:Hp}{h h':Heap}{x e:Addr}{o':HO}
theorem HOk.write (ok:HOk P w H h)(mu:Mut (H x))(he:e=x \/ H e=some (.own x))(k: ∀b u,b≠e ->h.get? b=some u ->h'.get? b=some u)(heo: ∃u,h'.get? e=some u)
   (new:aW P w (upd H x o') h' x o'):HOk P w (upd H x o') h':=fun b u q=>by
 have nown: ∀c y,H c=some (.own y) ->c≠x:=fun c y r z=>by subst z;rw[r] at mu;exact mu
 have ntup: ∀c xs,H c=some (.tup xs) ->c≠x:=fun c xs r z=>by subst z;rw[r] at mu;exact mu
 by_cases hb:b=x
 · subst hb;rw[aw] at q;cases q;exact new
 · rw [ar hb] at q
   by_cases hbe:b=e
   · have q':H b=some (.own x):=by
       rcases he with z | z
       · exact absurd (hbe.trans z) hb
       · rw[hbe];exact z
     rw[q] at q';cases q'
     obtain⟨v,hv⟩:=heo
     exact⟨v,by rw[hbe];exact hv⟩
   · refine(ok b u q).stay (fun c v hc r=>k c v ?_ r) (fun c r=>by rw[ar (nown c b r)];exact r) fun c xs r=>by rw[ar (ntup c xs r)];exact r
     rcases hc with rfl | hc
     · exact hbe
     · rintro rfl
       rcases he with z | z
       · exact nown c b hc z
       · rw[hc] at z;cases z;exact hb rfl
end
structure Un (fs ex:List Addr)(H H':Hp)(h h':Heap):Prop where
 keep: ∀b o,h.get? b=some o ->H b=none ->b∉fs ->b∉ex ->h'.get? b=some o
 slot: ∀b o,h.get? b=some o ->H b=none ->b∈fs ->b∉ex -> ∃sl,h'.get? b=some {o with slots:=sl}
 free: ∀b o,h.get? b=some o ->H b=none ->b∉ex ->H' b=none
 there: ∀b o,h.get? b=some o ->b∉ex -> ∃o',h'.get? b=some o'
 tups: ∀b xs,H b=some (.tup xs) ->H' b=some (.tup xs)
 frzs: ∀b o u,H b=some (.frz o u) ->H' b=some (.frz o u)
 tbls: ∀b ps,H b=some (.tbl ps) -> ∃more,H' b=some (.tbl (ps++more))
section
variable {fs fs' ex ex':List Addr}{H H1 H2:Hp}{h h1 h2 h':Heap}{a x e:Addr}{o:HO}
theorem Un.any (u:Un fs ex H H1 h h1){b:Addr}{ob:Obj}(q:h.get? b=some ob)(n:H b=none)(hx:b∉ex): ∃sl,h1.get? b=some {ob with slots:=sl}:=by
 by_cases hb:b∈fs
 · exact u.slot b ob q n hb hx
 · exact⟨ob.slots,u.keep b ob q n hb hx⟩
theorem Un.kept (k: ∀b u,h.get? b=some u ->h'.get? b=some u):Un fs ex H H h h':=
 ⟨fun b ob q _ _ _=>k b ob q,fun b ob q _ _ _=>⟨ob.slots,k b ob q⟩,fun _ _ _ n _=>n,fun b ob q _=>⟨ob,k b ob q⟩,fun _ _ q=>q,fun _ _ _ q=>q,fun _ ps q=>⟨#[],by rw[q];simp⟩⟩
theorem Un.refl:Un fs ex H H h h:=Un.kept fun _ _ q=>q
theorem Un.laid (k: ∀b u,h.get? b=some u ->h'.get? b=some u)(hp:h.objs.size<=a)(hn:H a=none):Un fs ex H (upd H a o) h h' where
 keep:=fun b u q _ _ _=>k b u q
 slot:=fun b u q _ _ _=>⟨u.slots,k b u q⟩
 free:=fun b u q n _=>by rw[ar (Nat.ne_of_lt (Nat.lt_of_lt_of_le (Heap.lt_size q) hp))];exact n
 there:=fun b u q _=>⟨u,k b u q⟩
 tups:=fun b xs q=>by rw[ar (aN q hn)];exact q
 frzs:=fun b u xs q=>by rw[ar (aN q hn)];exact q
 tbls:=fun b ps q=>⟨#[],by rw[ar (aN q hn),q];simp⟩
theorem Un.write (mu:Mut (H x))(he:e=x \/ H e=some (.own x))(k: ∀b u,b≠e ->h.get? b=some u ->h'.get? b=some u)(heo: ∃u,h'.get? e=some u):Un fs ex H (upd H x o) h h':=by
 have hx: ∀b,H b=none ->b≠x:=fun b n z=>by subst z;rw[n] at mu;exact mu
 have hb: ∀b,H b=none ->b≠e:=fun b n z=>by
   subst z
   rcases he with r | r
   · exact hx b n r
   · rw[n] at r;cases r
 have hm: ∀b u,H b=some u ->¬Mut (some u) ->b≠x:=fun b u q nm z=>by subst z;rw[q] at mu;exact nm mu
 refine⟨fun b u q n _ _=>k b u (hb b n) q,fun b u q n _ _=>⟨u.slots,k b u (hb b n) q⟩,fun b u q n _=>by rw[ar (hx b n)];exact n,fun b u q _=> ?_,
   fun b xs q=>by rw[ar (hm b _ q fun z=>z)];exact q,fun b u xs q=>by rw[ar (hm b _ q fun z=>z)];exact q,fun b ps q=>⟨#[],by rw[ar (hm b _ q fun z=>z),q];simp⟩⟩
 by_cases hbe:b=e
 · subst hbe;exact heo
 · exact⟨u,k b u hbe q⟩
end
def trk (h:Heap)(H:Hp):List Addr:=(List.range h.objs.size).filter fun a=>(H a).isSome
def j5 (h:Heap)(H:Hp):Heap:=PySem.W.hideAll h (trk h H)
theorem pj (h:Heap)(H:Hp):(j5 h H).objs.size=h.objs.size:=PySem.W.hideAll_size _ _
theorem sO {h:Heap}{H:Hp}{b:Addr}{o:Obj}(e:h.get? b=some o)(n:H b=none):(j5 h H).get? b=some o:=
 PySem.W.hideAll_get _ e fun hm=>by
   have q:(H b).isSome=true:=(List.mem_filter.mp hm).2
   rw[n] at q;simp at q
theorem uI {h:Heap}{H:Hp}{b:Addr}{o:Obj}(e:(j5 h H).get? b=some o):h.get? b=some o /\ H b=none:=by
 have e':h.get? b=some o:=PySem.W.of_hideAll (trk h H) e
 refine⟨e',?_⟩
 cases q:H b with
 | none=>rfl
 | some x=>
   have hm:b∈trk h H:=List.mem_filter.mpr ⟨List.mem_range.mpr (Heap.lt_size e'),by simp[q]⟩
   have z:(j5 h H).get? b=none:=PySem.W.hideAll_none (trk h H) hm
   rw[z] at e;cases e
def u9 (g h:Heap)(L:Addr):List (Addr×Obj):=(List.range h.objs.size).filterMap fun a=>if a=L \/ (g.get? a).isSome=true then none else(h.get? a).map fun o=>(a,o)
def rest (g h:Heap)(L d:Addr):List (Addr×Obj):=(u9 g h L).filter fun p=>decide (p.1≠d)
end L2
namespace L2
open PySem PySem.Spec PyProof.Rows
structure Mod (K:PySem.W.Frag)(mg:Str ->Option Value)(base:Heap):Prop where
 kin:K.In base
 glob:base.Ns mainGlobals mg
 blt: ∃mb,base.Ns builtinsNs mb /\ ∀x:Str,x≠ "__name__" ->mb x=bootBuiltins x
 nolimit:base.NoLimit
structure Cx where
 prog:Program
 w:World
 K:PySem.W.Frag
 mg:Str ->Option Value
 base:Heap
 A:Around
 N:List Str
 s₀:Shared
 H₀:Hp
 env:Env
 outer:List Env
 stack:List Env
 ex:List Addr
 fn:Str ->Bool
 calm:Bool
 pn:List (Addr×Obj)
 xe:Value ->Shared ->Prop
def frs (l:List Env):List Addr:=l.filterMap (·.frame)
abbrev Cx.fs (X:Cx):List Addr:=frs X.outer
def Vis (sc:Scope)(x:Str):Prop:=sc.names.lookup x=some .local \/ sc.names.lookup x=some .cell \/ sc.names.lookup x=some .free
def Loc (sc:Scope)(x:Str):Prop:=sc.names.lookup x=some .local \/ sc.names.lookup x=some .cell
def Look (env:Env)(h:Heap)(m:Str ->Option Value)(x:Str)(u:Value):Prop:=
 (env.kindOf x=some .local /\ m x=some u) \/ ((env.kindOf x=some .cell \/ env.kindOf x=some .free) /\ ∃c,env.cells.lookup x=some c /\ h.IsCell c (some u))
structure Cx.Ok (X:Cx):Prop where
 mod:Mod X.K X.mg X.base
 kind:X.env.scope.kind= .function
 glob:X.env.globals=mainGlobals
 blt:X.env.builtins=builtinsNs
 above:X.s₀.heap.objs.size<=X.env.locals
 inj: ∀x y c,X.env.cells.lookup x=some c ->X.env.cells.lookup y=some c ->x=y
 has: ∀x,(X.env.kindOf x=some .cell \/ X.env.kindOf x=some .free) -> ∃c,X.env.cells.lookup x=some c
 cab: ∀x c,X.fn x=true ->X.env.cells.lookup x=some c ->X.s₀.heap.objs.size<=c
 hd:X.calm=true ->X.A.handled=none
 frames:X.A.frames=some X.stack
 stk:X.stack=X.outer \/ (X.stack=X.env::X.outer /\ X.env.frame=some X.env.locals)
 exf: ∀b∈X.ex,b≠X.env.locals /\ ∀x c,X.env.cells.lookup x=some c ->c≠b
 bs: ∀b o,X.base.get? b=some o ->X.s₀.heap.get? b=some o /\ X.H₀ b=none
 bsz:X.base.objs.size<=X.s₀.heap.objs.size
 noex: ∀b o,X.base.get? b=some o ->b∉X.ex
 exfs: ∀b∈X.ex,b∉X.fs
 funs:X.s₀.heap.FunFrames X.base X.outer
 frf: ∀b∈X.fs,X.H₀ b=none
structure Inv (X:Cx)(pins:List (Addr×Obj))(σ:List (Option V))(H:Hp)(s:Shared):Prop where
 ok:X.Ok
 os:s.os=X.s₀.os
 bare:AllBare s.gens
 base:Un X.fs X.ex X.H₀ H X.s₀.heap s.heap
 loc: ∃m,s.heap.Ns X.env.locals m /\ ∀ (i:Nat) (x:Str) (v:V),X.N[i]? =some x ->σ[i]? =some (some v) ->Vis X.env.scope x -> ∃u,RelV v u /\ Look X.env s.heap m x u
 cell: ∀x c,X.env.cells.lookup x=some c -> ∃v,s.heap.IsCell c v
 free:H X.env.locals=none
 freeC: ∀x c,X.env.cells.lookup x=some c ->H c=none
 pin: ∀p∈X.pn++pins,s.heap.get? p.1=some p.2 /\ H p.1=none /\ p.1≠X.env.locals /\ p.1∉X.fs /\ ∀v,p.2.data≠ .cell v
 hok:HOk X.prog X.w H s.heap
 len:σ.length=X.N.length
section
variable {X:Cx}{pins:List (Addr×Obj)}{σ:List (Option V)}{H H':Hp}{s:Shared}{h':Heap}
theorem Cx.Ok.nofr (ok:X.Ok){b:Addr}{o:Obj}(e:X.base.get? b=some o):b∉X.fs:=fun hb=>by
 have:=(ok.funs.mem hb).1
 rw[e] at this;cases this
theorem Inv.bs (I:Inv X pins σ H s): ∀b o,X.base.get? b=some o ->s.heap.get? b=some o /\ H b=none:=fun b o e=>
 ⟨I.base.keep b o (I.ok.bs b o e).1 (I.ok.bs b o e).2 (I.ok.nofr e) (I.ok.noex b o e),I.base.free b o (I.ok.bs b o e).1 (I.ok.bs b o e).2 (I.ok.noex b o e)⟩
theorem Inv.bk (I:Inv X pins σ H s): ∀b o,X.base.get? b=some o ->s.heap.get? b=some o:=fun b o e=>(I.bs b o e).1
theorem Inv.mod (I:Inv X pins σ H s):Mod X.K X.mg X.base:=I.ok.mod
theorem Inv.kIn (I:Inv X pins σ H s):X.K.In s.heap:=I.ok.mod.kin.keeps I.bk
theorem Inv.fr (I:Inv X pins σ H s): ∃m,Fr X.base X.env.locals s.heap m:=
 let ⟨m,hn,_⟩:=I.loc
 ⟨m,hn,I.bk,Nat.le_trans I.ok.bsz I.ok.above⟩
theorem Inv.lt (I:Inv X pins σ H s):X.env.locals<s.heap.objs.size:=let ⟨_,hn,_⟩:=I.loc;hn.lt
theorem Inv.sz (I:Inv X pins σ H s):X.s₀.heap.objs.size<=s.heap.objs.size:=Nat.le_trans I.ok.above (Nat.le_of_lt I.lt)
theorem Inv.nofs (I:Inv X pins σ H s){a:Addr}(h:s.heap.objs.size<=a):a∉X.fs:=fun hb=>by
 obtain⟨_,o,ho,_⟩:=I.ok.funs.mem hb
 exact absurd (Nat.lt_of_lt_of_le (Heap.lt_size ho) (Nat.le_trans I.sz h)) (Nat.lt_irrefl _)
theorem Inv.cne (I:Inv X pins σ H s): ∀x c,X.env.cells.lookup x=some c ->c≠X.env.locals:=fun x c e z=>by
 obtain⟨v,o,ho,hd⟩:=I.cell x c e
 obtain⟨m,⟨o',es,ep,ho',hd',_⟩,_⟩:=I.loc
 rw[z,ho'] at ho;cases ho;rw[hd'] at hd;cases hd
theorem Inv.funs (I:Inv X pins σ H s):s.heap.FunFrames X.base X.outer:=by
 have all: ∀ (l:List Env),(∀b∈frs l,b∈X.fs) ->X.s₀.heap.FunFrames X.base l ->s.heap.FunFrames X.base l:=by
   intro l
   induction l with
   | nil=>intro _ _;trivial
   | cons env r ih=>
     intro hs hl
     obtain⟨hk,⟨L,o,hf,hn,ho,hd⟩,hr⟩:=hl
     have hL:L∈X.fs:=hs L (by unfold frs;rw[List.filterMap_cons,hf];exact List.mem_cons_self)
     obtain⟨sl,e⟩:=I.base.slot L o ho (I.ok.frf L hL) hL fun z=>I.ok.exfs L z hL
     exact⟨hk,⟨L,_,hf,hn,e,hd⟩,ih (fun b hb=>hs b (by unfold frs;rw[List.filterMap_cons,hf];exact List.mem_cons_of_mem _ hb)) hr⟩
 exact all X.outer (fun _ hb=>hb) I.ok.funs
theorem Inv.stack (I:Inv X pins σ H s):s.heap.FunFrames X.base X.stack:=by
 rcases I.ok.stk with e | ⟨e,hf⟩
 · rw[e];exact I.funs
 · rw[e]
   obtain⟨m,hn,_⟩:=I.loc
   refine .cons (by rw[I.ok.kind];decide) hf hn ?_ I.funs
   exact Heap.get?_none_of_le (Nat.le_trans I.ok.bsz I.ok.above)
theorem Inv.stkSub (I:Inv X pins σ H s): ∀b∈frs X.stack,b∈X.env.locals::X.fs:=fun b hb=>by
 rcases I.ok.stk with e | ⟨e,hf⟩
 · rw[e] at hb;exact List.mem_cons_of_mem _ hb
 · rw[e] at hb
   unfold frs at hb
   rw[List.filterMap_cons,hf] at hb
   exact hb
theorem Inv.stkFree (I:Inv X pins σ H s): ∀b∈frs X.stack,H b=none:=fun b hb=>by
 rcases List.mem_cons.mp (I.stkSub b hb) with e | hb
 · rw[e];exact I.free
 · obtain⟨_,o,ho,_⟩:=I.ok.funs.mem hb
   exact I.base.free b o ho (I.ok.frf b hb) fun z=>I.ok.exfs b z hb
theorem Inv.step {g':Array GenState}{t':Nat}{d':Drawn}{ch:List Addr}(I:Inv X pins σ H s)
   (hch: ∀b∈ch,(b∈X.ex \/ X.s₀.heap.objs.size<=b) /\ b≠X.env.locals /\ (∀x c,X.env.cells.lookup x=some c ->c≠b) /\ ∀p∈X.pn++pins,p.1≠b)
   (keep: ∀b o,b≠X.env.locals ->b∉X.fs ->b∉ch ->s.heap.get? b=some o ->H b=none ->h'.get? b=some o)
   (slot: ∀b o,b≠X.env.locals ->b∈X.fs ->b∉ch ->s.heap.get? b=some o ->H b=none -> ∃sl,h'.get? b=some {o with slots:=sl}) (free: ∀b o,b∉ch ->s.heap.get? b=some o ->H b=none ->H' b=none)
   (there: ∀b o,b∉ch ->s.heap.get? b=some o -> ∃o',h'.get? b=some o')
   (tups: ∀b xs,H b=some (.tup xs) ->H' b=some (.tup xs)) (frzs: ∀b o u,H b=some (.frz o u) ->H' b=some (.frz o u)) (tbls: ∀b ps,H b=some (.tbl ps) -> ∃more,H' b=some (.tbl (ps++more)))
   (ns: ∀m,s.heap.Ns X.env.locals m ->h'.Ns X.env.locals m) (hok:HOk X.prog X.w H' h') (hg:AllBare g'):
   Inv X pins σ H' {s with heap:=h',gens:=g',drawn:=d',toks:=t'}:=by
 have neL: ∀b o,X.s₀.heap.get? b=some o ->b≠X.env.locals:=fun b o e=>Nat.ne_of_lt (Nat.lt_of_lt_of_le (Heap.lt_size e) I.ok.above)
 have neC: ∀b o,X.s₀.heap.get? b=some o ->b∉X.ex ->b∉ch:=fun b o e hx hb=>by
   rcases (hch b hb).1 with z | z
   · exact hx z
   · exact absurd (Nat.lt_of_lt_of_le (Heap.lt_size e) z) (Nat.lt_irrefl _)
 have cellK: ∀x c,X.env.cells.lookup x=some c -> ∀v,s.heap.IsCell c v ->h'.IsCell c v:=fun x c e v ⟨o,ho,hd⟩=>by
   have nch:c∉ch:=fun z=>(hch c z).2.2.1 x c e rfl
   by_cases hc:c∈X.fs
   · obtain⟨sl,q⟩:=slot c o (I.cne x c e) hc nch ho (I.freeC x c e)
     exact⟨_,q,hd⟩
   · exact⟨o,keep c o (I.cne x c e) hc nch ho (I.freeC x c e),hd⟩
 refine⟨I.ok,I.os,hg,⟨fun b o e n hb hx=> ?_,fun b o e n hb hx=> ?_,fun b o e n hx=> ?_,fun b o e hx=> ?_,fun b xs e=>tups b xs (I.base.tups b xs e),fun b o xs e=>frzs b o xs (I.base.frzs b o xs e),fun b ps e=> ?_⟩,?_,fun x c e=> ?_,?_,fun x c e=> ?_,fun p hp=> ?_,hok,I.len⟩
 · exact keep b o (neL b o e) hb (neC b o e hx) (I.base.keep b o e n hb hx) (I.base.free b o e n hx)
 · obtain⟨sl,e1⟩:=I.base.slot b o e n hb hx
   obtain⟨sl',e2⟩:=slot b _ (neL b o e) hb (neC b o e hx) e1 (I.base.free b o e n hx)
   exact⟨sl',e2⟩
 · obtain⟨o',e1⟩:=I.base.there b o e hx
   exact free b o' (neC b o e hx) e1 (I.base.free b o e n hx)
 · obtain⟨o',e1⟩:=I.base.there b o e hx
   exact there b o' (neC b o e hx) e1
 · obtain⟨m1,e1⟩:=I.base.tbls b ps e
   obtain⟨m2,e2⟩:=tbls b _ e1
   exact⟨m1++m2,by rw[e2,Array.append_assoc]⟩
 · obtain⟨m,hn,hl⟩:=I.loc
   refine⟨m,ns m hn,fun i x v e1 e2 e3=> ?_⟩
   obtain⟨u,r,l⟩:=hl i x v e1 e2 e3
   refine⟨u,r,?_⟩
   rcases l with l | ⟨k,c,e,z⟩
   · exact .inl l
   · exact .inr ⟨k,c,e,cellK x c e _ z⟩
 · obtain⟨v,z⟩:=I.cell x c e
   exact⟨v,cellK x c e v z⟩
 · obtain⟨m,⟨o,_,_,ho,_⟩,_⟩:=I.loc
   exact free _ o (fun z=>(hch _ z).2.1 rfl) ho I.free
 · obtain⟨v,o,ho,hd⟩:=I.cell x c e
   exact free c o (fun z=>(hch c z).2.2.1 x c e rfl) ho (I.freeC x c e)
 · obtain⟨e,n,ne,nf,d⟩:=I.pin p hp
   have nch:p.1∉ch:=fun z=>(hch p.1 z).2.2.2 p hp rfl
   exact⟨keep p.1 p.2 ne nf nch e n,free p.1 p.2 nch e n,ne,nf,d⟩
theorem Inv.un {t':Nat}(I:Inv X pins σ H s)(u:Un X.fs [] H H' s.heap h')(hok:HOk X.prog X.w H' h'):Inv X pins σ H' {s with heap:=h',toks:=t'}:=by
 obtain⟨m,⟨o,es,ep,ho,r⟩,_⟩:=id I.loc
 obtain⟨sl,hL⟩:=u.any ho I.free (by simp)
 exact I.step (g':=s.gens) (d':=s.drawn) (ch:= []) (fun _ z=>nomatch z) (fun b o _ hb _ e n=>u.keep b o e n hb (by simp)) (fun b o _ hb _ e n=>u.slot b o e n hb (by simp)) (fun b o _ e n=>u.free b o e n (by simp)) (fun b o _ e=>u.there b o e (by simp)) u.tups u.frzs u.tbls (fun m' hm=>by
   obtain⟨o',es',ep',ho',r'⟩:=hm
   rw[ho] at ho';cases ho'
   exact⟨_,es',ep',hL,r'⟩) hok I.bare
theorem Inv.call {g':Array GenState}{t':Nat}{d':Drawn}{ch:List Addr}(I:Inv X pins σ H s)(u:Un (frs X.stack) ch H H' s.heap h')(hok:HOk X.prog X.w H' h')(hg:AllBare g')
   (hch: ∀b∈ch,(b∈X.ex \/ X.s₀.heap.objs.size<=b) /\ b≠X.env.locals /\ (∀x c,X.env.cells.lookup x=some c ->c≠b) /\ ∀p∈X.pn++pins,p.1≠b):
   Inv X pins σ H' {s with heap:=h',gens:=g',drawn:=d',toks:=t'}:=by
 obtain⟨m,⟨o,es,ep,ho,r⟩,_⟩:=id I.loc
 obtain⟨sl,hL⟩:=u.any ho I.free fun z=>(hch _ z).2.1 rfl
 exact I.step (ch:=ch) hch (fun b o hL hb hc e n=>u.keep b o e n (fun z=>(List.mem_cons.mp (I.stkSub b z)).elim hL hb) hc) (fun b o _ _ hc e n=>u.any e n hc) (fun b o hc e n=>u.free b o e n hc) (fun b o hc e=>u.there b o e hc) u.tups u.frzs u.tbls (fun m' hm=>by
   obtain⟨o',es',ep',ho',r'⟩:=hm
   rw[ho] at ho';cases ho'
   exact⟨_,es',ep',hL,r'⟩) hok hg
theorem Inv.turned {t':Nat}{it:Addr}(I:Inv X pins σ H s)(k: ∀b o,b≠it ->s.heap.get? b=some o ->h'.get? b=some o)(hn:H it=none)(hL:it≠X.env.locals)
   (h1:it∈X.ex \/ X.s₀.heap.objs.size<=it) (h2: ∀x c,X.env.cells.lookup x=some c ->c≠it) (h3: ∀p∈X.pn++pins,p.1≠it):Inv X pins σ H {s with heap:=h',toks:=t'}:=by
 have nit: ∀b u,H b=some u ->b≠it:=fun b u e z=>by rw[z,hn] at e;cases e
 refine I.step (g':=s.gens) (d':=s.drawn) (ch:= [it]) (fun b hb=> ?_) (fun b o _ _ hc e _=>k b o (fun z=>hc (by simp[z])) e) (fun b o _ _ hc e _=>⟨o.slots,k b o (fun z=>hc (by simp[z])) e⟩) (fun _ _ _ _ n=>n)
   (fun b o hc e=>⟨o,k b o (fun z=>hc (by simp[z])) e⟩) (fun _ _ e=>e) (fun _ _ _ e=>e) (fun b ps e=>⟨#[],by rw[e];simp⟩) (fun m hm=> ?_) (fun b u e=> ?_) I.bare
 · have e:b=it:=by simpa using hb
   subst e
   exact⟨h1,hL,h2,h3⟩
 · obtain⟨o,es,ep,ho,r⟩:=hm
   exact⟨o,es,ep,k _ o (Ne.symm hL) ho,r⟩
 · refine(I.hok b u e).stay (fun c v hc q=>k c v ?_ q) (fun _ q=>q) fun _ _ q=>q
   rcases hc with z | z
   · rw[z];exact nit b u e
   · exact nit c _ z
theorem Inv.tok (I:Inv X pins σ H s)(t:Nat):Inv X pins σ H {s with toks:=t}:=I.un (h':=s.heap) (t':=t) Un.refl I.hok
theorem Inv.kept {t':Nat}(I:Inv X pins σ H s)(k: ∀b u,s.heap.get? b=some u ->h'.get? b=some u):Inv X pins σ H {s with heap:=h',toks:=t'}:=I.un (Un.kept k) (I.hok.kept k)
theorem Inv.laid {a:Addr}{o:HO}{t':Nat}(I:Inv X pins σ H s)(k: ∀b u,s.heap.get? b=some u ->h'.get? b=some u)(hp:s.heap.objs.size<=a)(new:aW X.prog X.w (upd H a o) h' a o):
   Inv X pins σ (upd H a o) {s with heap:=h',toks:=t'}:=I.un (Un.laid k hp (I.hok.fresh hp)) (I.hok.laid k hp new)
theorem Inv.write {x e:Addr}{o:HO}{t':Nat}(I:Inv X pins σ H s)(mu:Mut (H x))(he:e=x \/ H e=some (.own x))(k: ∀b u,b≠e ->s.heap.get? b=some u ->h'.get? b=some u)(heo: ∃u,h'.get? e=some u)
   (new:aW X.prog X.w (upd H x o) h' x o):Inv X pins σ (upd H x o) {s with heap:=h',toks:=t'}:=I.un (Un.write mu he k heo) (I.hok.write mu he k heo new)
theorem Inv.weak {σ':List (Option V)}(I:Inv X pins σ H s)(hl:σ'.length=σ.length)(w: ∀ (i:Nat) v,σ'[i]? =some (some v) ->σ[i]? =some (some v)):Inv X pins σ' H s:=
 ⟨I.ok,I.os,I.bare,I.base,let ⟨m,hn,hl'⟩:=I.loc;⟨m,hn,fun i x v e1 e2 e3=>hl' i x v e1 (w i v e2) e3⟩,I.cell,I.free,I.freeC,I.pin,I.hok,hl.trans I.len⟩
theorem Inv.pins_of {pins':List (Addr×Obj)}(I:Inv X pins σ H s)(h: ∀p∈pins',s.heap.get? p.1=some p.2 /\ H p.1=none /\ p.1≠X.env.locals /\ p.1∉X.fs /\ ∀v,p.2.data≠ .cell v):Inv X pins' σ H s:=
 ⟨I.ok,I.os,I.bare,I.base,I.loc,I.cell,I.free,I.freeC,fun p hp=>(List.mem_append.mp hp).elim (fun z=>I.pin p (List.mem_append_left _ z)) (h p),I.hok,I.len⟩
theorem kT {N:List Str}(hN:N.Nodup){i j:Nat}{x:Str}(a:N[i]? =some x)(b:N[j]? =some x):i=j:=by
 obtain⟨h1,e1⟩:=List.getElem?_eq_some_iff.mp a
 obtain⟨h2,e2⟩:=List.getElem?_eq_some_iff.mp b
 exact(List.getElem_inj hN).mp (e1.trans e2.symm)
theorem iS {M:Model}{A:Around}{E:Value ->Shared ->Prop}{i:Nat}{x:Str}{v:V}{u:Value}{Q:Unit ->Shared ->Prop}(I:Inv X pins σ H s)(hN:X.N.Nodup)(hi:X.N[i]? =some x)(hx:Loc X.env.scope x)(r:RelV v u)
   (h: ∀s',Inv X pins (σ.set i (some v)) H s' ->(∃a,Heap.SameBut a s.heap s'.heap /\ (a=X.env.locals \/ X.env.cells.lookup x=some a)) ->Q () s') (hf:X.fn x=true \/ X.env.scope.names.lookup x=some .local:=by first | exact .inl rfl | exact .inr rfl | assumption):wpAny M A (storeName X.env x u) Q E s:=by
 obtain⟨m,hn,hl⟩:=id I.loc
 have hcls:(X.env.scope.kind== .class || (X.env.scope.kind== .module && X.env.locals !=X.env.globals))=false:=by rw[I.ok.kind];rfl
 have hiσ:i<σ.length:=by rw[I.len];exact(List.getElem?_eq_some_iff.mp hi).1
 have cne:=I.cne
 have tracked: ∀ {a:Addr} {h':Heap},(∃o,s.heap.get? a=some o /\ H a=none) ->Heap.SameBut a s.heap h' ->HOk X.prog X.w H h':=fun {a h'} ha hs b ob e=>by
   obtain⟨_,_,hfree⟩:=ha
   refine(I.hok b ob e).stay (fun c w' hc q=>(hs.2 c ?_).trans q) (fun _ q=>q) fun _ _ q=>q
   rintro rfl
   rcases hc with rfl | hc
   · rw[hfree] at e;cases e
   · rw[hfree] at hc;cases hc
 rcases hx with hk | hk
 · refine wpAny_storeName_local hk hn (fun h' hn' hs=> ?_) hcls
   obtain⟨oL,_,_,hoL,_⟩:=id hn
   refine h _ ⟨I.ok,I.os,I.bare,⟨fun b o e n hb hx=> ?_,fun b o e n hb hx=> ?_,I.base.free,fun b o e hx=> ?_,I.base.tups,I.base.frzs,I.base.tbls⟩,⟨_,hn',fun j y v' e1 e2 e3=> ?_⟩,fun y c e=> ?_,I.free,I.freeC,fun p hp=> ?_,tracked ⟨oL,hoL,I.free⟩ hs,by simpa using I.len⟩ ⟨_,hs, .inl rfl⟩
   · exact(hs.2 b (Nat.ne_of_lt (Nat.lt_of_lt_of_le (Heap.lt_size e) I.ok.above))).trans (I.base.keep b o e n hb hx)
   · obtain⟨sl,e1⟩:=I.base.slot b o e n hb hx
     exact⟨sl,(hs.2 b (Nat.ne_of_lt (Nat.lt_of_lt_of_le (Heap.lt_size e) I.ok.above))).trans e1⟩
   · obtain⟨o',e1⟩:=I.base.there b o e hx
     exact⟨o',(hs.2 b (Nat.ne_of_lt (Nat.lt_of_lt_of_le (Heap.lt_size e) I.ok.above))).trans e1⟩
   · by_cases hj:j=i
     · subst hj
       rw[hi] at e1;cases e1
       rw[List.getElem?_set_self hiσ] at e2
       cases e2
       exact⟨u,r, .inl ⟨hk,by simp⟩⟩
     · rw[List.getElem?_set_ne (Ne.symm hj)] at e2
       obtain⟨u',r',q⟩:=hl j y v' e1 e2 e3
       refine⟨u',r',?_⟩
       rcases q with⟨k,e⟩ | ⟨k,c,e,z⟩
       · refine .inl ⟨k,?_⟩
         have:y≠x:=fun e=>hj (kT hN e1 (e▸hi))
         simp[this,e]
       · exact .inr ⟨k,c,e,z.sameBut hs (cne y c e)⟩
   · obtain⟨w',z⟩:=I.cell y c e
     exact⟨w',z.sameBut hs (cne y c e)⟩
   · obtain⟨e,n,ne,nf,d⟩:=I.pin p hp
     exact⟨(hs.2 p.1 ne).trans e,n,ne,nf,d⟩
 · have hfn:X.fn x=true:=by
     rcases hf with z | z
     · exact z
     · rw[z] at hk;cases hk
   obtain⟨c,hc⟩:=I.ok.has x (.inl hk)
   obtain⟨w',z⟩:=I.cell x c hc
   refine wpAny_storeName_cell I.ok.kind hk hc z (fun h' hc' hs=> ?_)
   obtain⟨oc,hoc,hocd⟩:=id z
   refine h {s with heap:=h'} ⟨I.ok,I.os,I.bare,⟨fun b o e n hb hx=> ?_,fun b o e n hb hx=> ?_,I.base.free,fun b o e hx=> ?_,I.base.tups,I.base.frzs,I.base.tbls⟩,⟨m,hn.sameBut hs (Ne.symm (cne x c hc)),fun j y v' e1 e2 e3=> ?_⟩,fun y c' e=> ?_,I.free,I.freeC,fun p hp=> ?_,tracked ⟨oc,hoc,I.freeC x c hc⟩ hs,by simpa using I.len⟩ ⟨c,hs, .inr hc⟩
   · exact(hs.2 b (Nat.ne_of_lt (Nat.lt_of_lt_of_le (Heap.lt_size e) (I.ok.cab x c hfn hc)))).trans (I.base.keep b o e n hb hx)
   · obtain⟨sl,e1⟩:=I.base.slot b o e n hb hx
     exact⟨sl,(hs.2 b (Nat.ne_of_lt (Nat.lt_of_lt_of_le (Heap.lt_size e) (I.ok.cab x c hfn hc)))).trans e1⟩
   · obtain⟨o',e1⟩:=I.base.there b o e hx
     exact⟨o',(hs.2 b (Nat.ne_of_lt (Nat.lt_of_lt_of_le (Heap.lt_size e) (I.ok.cab x c hfn hc)))).trans e1⟩
   · by_cases hj:j=i
     · subst hj
       rw[hi] at e1;cases e1
       rw[List.getElem?_set_self hiσ] at e2
       cases e2
       exact⟨u,r, .inr ⟨.inl hk,c,hc,hc'⟩⟩
     · rw[List.getElem?_set_ne (Ne.symm hj)] at e2
       obtain⟨u',r',q⟩:=hl j y v' e1 e2 e3
       refine⟨u',r',?_⟩
       rcases q with q | ⟨k,c',e,z'⟩
       · exact .inl q
       · refine .inr ⟨k,c',e,z'.sameBut hs ?_⟩
         rintro rfl
         exact hj (kT hN e1 (I.ok.inj _ _ _ e hc▸hi))
   · by_cases hcc:c'=c
     · subst hcc;exact⟨_,hc'⟩
     · obtain⟨w2,z2⟩:=I.cell y c' e
       exact⟨w2,z2.sameBut hs hcc⟩
   · obtain⟨e,n,ne,nf,d⟩:=I.pin p hp
     refine⟨(hs.2 p.1 ?_).trans e,n,ne,nf,d⟩
     intro q
     rw[q,hoc] at e
     have q':oc=p.2:=Option.some.inj e
     exact d w' (by rw[<- q'];exact hocd)
theorem kB {M:Model}{A:Around}{E:Value ->Shared ->Prop}{i:Nat}{x:Str}{v:V}{u:Value}{Q:Unit ->Shared ->Prop}(I:Inv X pins σ H s)(hN:X.N.Nodup)(hi:X.N[i]? =some x)(hx:Loc X.env.scope x)(r:RelV v u)
   (h: ∀s',Inv X pins (σ.set i (some v)) H s' ->Q () s') (hf:X.fn x=true \/ X.env.scope.names.lookup x=some .local:=by first | exact .inl rfl | exact .inr rfl | assumption):wpAny M A (storeName X.env x u) Q E s:=
 iS I hN hi hx r (fun s' I' _=>h s' I') hf
theorem Inv.call' {s':Shared}{ch:List Addr}(I:Inv X pins σ H s)(ho:s'.os=s.os)(u:Un (frs X.stack) ch H H' s.heap s'.heap)(hok:HOk X.prog X.w H' s'.heap)(hg:AllBare s'.gens)
   (hch: ∀b∈ch,(b∈X.ex \/ X.s₀.heap.objs.size<=b) /\ b≠X.env.locals /\ (∀x c,X.env.cells.lookup x=some c ->c≠b) /\ ∀p∈X.pn++pins,p.1≠b):Inv X pins σ H' s':=by
 obtain⟨h',g',d',t',o'⟩:=s'
 have e:o'=s.os:=ho
 subst e
 exact I.call (g':=g') (t':=t') (d':=d') u hok hg hch
end
abbrev XK:=Value ->Option Addr ->Hp ->Prop
abbrev St:=List (Option V)
abbrev VK:=V ->Hp ->Prop
abbrev TE:=St ->Hp ->VK ->Prop
abbrev TT:=St ->Hp ->(Bool ->Hp ->Prop) ->Prop
abbrev TA:=St ->Hp ->(List V ->Hp ->Prop) ->Prop
structure Ends where
 nx:St ->Hp ->Prop
 rt:VK
 bk:St ->Hp ->Prop:=fun _ _=>False
 ct:St ->Hp ->Prop:=fun _ _=>False
abbrev TS:=Ends ->St ->Hp ->Prop
def EP (X:Cx)(pins:List (Addr×Obj))(σ:St)(Q:VK)(u:Value)(s':Shared):Prop:= ∃v H',Inv X pins σ H' s' /\ RelV v u /\ Q v H'
def TP (X:Cx)(pins:List (Addr×Obj))(σ:St)(Q:Bool ->Hp ->Prop)(b:Bool)(s':Shared):Prop:= ∃H',Inv X pins σ H' s' /\ Q b H'
def AP (X:Cx)(pins:List (Addr×Obj))(σ:St)(Q:List V ->Hp ->Prop)(us:List Value)(s':Shared):Prop:= ∃vs H',Inv X pins σ H' s' /\ Vals vs us /\ Q vs H'
def SP (X:Cx)(pins:List (Addr×Obj))(D:Ends)(f:Flow)(s':Shared):Prop:=
 match f with
 | .next=> ∃σ' H',Inv X pins σ' H' s' /\ D.nx σ' H'
 | .brk=> ∃σ' H',Inv X pins σ' H' s' /\ D.bk σ' H'
 | .cont=> ∃σ' H',Inv X pins σ' H' s' /\ D.ct σ' H'
 | .ret u=> ∃v σ' H',Inv X pins σ' H' s' /\ RelV v u /\ D.rt v H'
def PE (X:Cx)(e:Expr)(t:TE):Prop:=
 ∀ (pins:List (Addr×Obj)) (s:Shared) (σ:St) (H:Hp) (Q:VK),Inv X pins σ H s ->t σ H Q ->wpAny (model X.prog X.w) X.A (eval e X.env) (EP X pins σ Q) X.xe s
def PT (X:Cx)(e:Expr)(t:TT):Prop:=
 ∀ (pins:List (Addr×Obj)) (s:Shared) (σ:St) (H:Hp) (Q:Bool ->Hp ->Prop),Inv X pins σ H s ->t σ H Q ->wpAny (model X.prog X.w) X.A (isTrue e X.env (eval e X.env)) (TP X pins σ Q) X.xe s
def PW (X:Cx)(e:Expr)(t:TT):Prop:=
 ∀ (whole:Sem Value) (pins:List (Addr×Obj)) (s:Shared) (σ:St) (H:Hp) (Q:Bool ->Hp ->Prop),Inv X pins σ H s ->t σ H Q ->wpAny (model X.prog X.w) X.A (isTrue e X.env whole) (TP X pins σ Q) X.xe s
theorem PW.pt {X:Cx}{e:Expr}{t:TT}(h:PW X e t):PT X e t:=h _
def PA (X:Cx)(es:List Expr)(t:TA):Prop:=
 ∀ (pos:Pos) (pins:List (Addr×Obj)) (s:Shared) (σ:St) (H:Hp) (Q:List V ->Hp ->Prop),Inv X pins σ H s ->t σ H Q ->wpAny (model X.prog X.w) X.A (spliced (backTo pos (starEach es X.env))) (AP X pins σ Q) X.xe s
def PS (X:Cx)(st:Stmt)(t:TS):Prop:=
 ∀ (pins:List (Addr×Obj)) (s:Shared) (σ:St) (H:Hp) (D:Ends),Inv X pins σ H s ->t D σ H ->wpAny (model X.prog X.w) X.A (exec st X.env) (SP X pins D) X.xe s
def PSs (X:Cx)(st:List Stmt)(t:TS):Prop:=
 ∀ (pins:List (Addr×Obj)) (s:Shared) (σ:St) (H:Hp) (D:Ends),Inv X pins σ H s ->t D σ H ->wpAny (model X.prog X.w) X.A (execs st X.env) (SP X pins D) X.xe s
theorem thn {α:Type}{t:Sem α}{Q Q':α ->Shared ->Prop}{M:Model}{A:Around}{E:Value ->Shared ->Prop}{s:Shared}(h:wpAny M A t Q E s)(hQ: ∀a s,Q a s ->Q' a s):wpAny M A t Q' E s:=wpAny_mono h hQ fun _ _ x=>x
end L2
namespace L2
open PySem PySem.Spec PyProof.Rows
section
variable {X:Cx}
theorem bin {a b:Expr}{ta tb:TE}(ha:PE X a ta)(hb:PE X b tb){pins:List (Addr×Obj)}{s:Shared}{σ:St}{H:Hp}{R:V ->V ->Hp ->Prop}(I:Inv X pins σ H s)(h:ta σ H fun x H1=>tb σ H1 fun y H2=>R x y H2)
   {α:Type} {Q:α ->Shared ->Prop} {f:Value ->Value ->Sem α}
   (hf: ∀v u s2 x y H2,Inv X pins σ H2 s2 ->RelV x v ->RelV y u ->R x y H2 ->wpAny (model X.prog X.w) X.A (f v u) Q X.xe s2):
   wpAny (model X.prog X.w) X.A (eval a X.env) (fun v s₁=>wpAny (model X.prog X.w) X.A (eval b X.env) (fun u s₂=>wpAny (model X.prog X.w) X.A (f v u) Q X.xe s₂) X.xe s₁) X.xe s:=by
 refine thn (ha pins s σ H _ I h) fun v s1 ⟨x,H1,I1,r1,q1⟩=> ?_
 refine thn (hb pins s1 σ H1 _ I1 q1) fun u s2 ⟨y,H2,I2,r2,q2⟩=> ?_
 exact hf v u s2 x y H2 I2 r1 r2 q2
def tVar (i:Nat):TE:=fun σ H Q=> ∃v,σ[i]? =some (some v) /\ Q v H
def tC (v:V):TE:=fun _ H Q=>Q v H
theorem wW {i:Nat}{x:Str}{pos:Pos}(hN:X.N[i]? =some x)(hv:Vis X.env.scope x)(hd:(x==("__debug__" :Str))=false:=by decide)(hcd:(x==("__classdict__" :Str))=false:=by decide):PE X (.Name x pos) (tVar i):=by
 intro pins s σ H Q I h
 obtain⟨v,e,h⟩:=h
 obtain⟨m,hn,hl⟩:=I.loc
 obtain⟨u,r,l⟩:=hl i x v hN e hv
 have fin:EP X pins σ Q u s:=⟨v,H,I,r,h⟩
 rcases l with⟨hk,hm⟩ | ⟨hk,c,hc,hcell⟩
 · exact wpAny_Name (wpAny_loadName_local I.ok.kind hk hn hm fin) hd
 · rcases hk with hk | hk
   · exact wpAny_Name (wpAny_loadName_cell I.ok.kind hk hc hcell fin) hd
   · exact wpAny_Name (wpAny_loadName_free I.ok.kind hk hc hcell fin hcd) hd
theorem af {i j pos}:PE X (.Constant (.int i) j pos) (tC (.int i)):=fun _ _ _ H _ I h=>wpAny_Constant_int ⟨.int i,H,I.tok _,⟨_,rfl⟩,h⟩
theorem d9 {b j pos}:PE X (.Constant (.bool b) j pos) (tC (.bl b)):=fun _ _ _ H _ I h=>Constant_bool ⟨.bl b,H,I,rfl,h⟩
theorem wZ {j pos}:PE X (.Constant .none j pos) (tC .non):=fun _ _ _ H _ I h=>Constant_none ⟨.non,H,I,rfl,h⟩
def Gl (X:Cx)(x:Str):Prop:=X.env.kindOf x=some .globalImplicit
theorem nP {E:Value ->Shared ->Prop}{pins:List (Addr×Obj)}{s:Shared}{σ:St}{H:Hp}{x:Str}{u:Value}{pos:Pos}{Q:Value ->Shared ->Prop}(I:Inv X pins σ H s)(hg:Gl X x)(hm:X.mg x=some u)(h:Q u s)
   (hd:(x==("__debug__" :Str))=false:=by decide):wpAny (model X.prog X.w) X.A (eval (.Name x pos) X.env) Q E s:=
 Calls.Name_function_global I.ok.kind hg (Calls.loadGlobal_global (by rw[I.ok.glob];exact I.mod.glob.keeps I.bk) hm h) hd
theorem bK {E:Value ->Shared ->Prop}{pins:List (Addr×Obj)}{s:Shared}{σ:St}{H:Hp}{x:Str}{u:Value}{pos:Pos}{Q:Value ->Shared ->Prop}(I:Inv X pins σ H s)(hg:Gl X x)(hm:X.mg x=none)(hv:bootBuiltins x=some u)(h:Q u s)
   (hn:x≠ "__name__" :=by decide) (hd:(x==("__debug__" :Str))=false:=by decide):wpAny (model X.prog X.w) X.A (eval (.Name x pos) X.env) Q E s:=by
 obtain⟨mb,h1,h2⟩:=I.mod.blt
 exact Calls.Name_function_global I.ok.kind hg (Calls.loadGlobal_builtin (by rw[I.ok.glob];exact I.mod.glob.keeps I.bk) hm (by rw[I.ok.blt];exact h1.keeps I.bk) ((h2 x hn).trans hv) h) hd
theorem gy {x:Str}{v:V}{u:Value}{pos:Pos}(hg:Gl X x)(hm:X.mg x=none)(hv:bootBuiltins x=some u)(r:RelV v u)(hn:x≠ "__name__" :=by decide)(hd:(x==("__debug__" :Str))=false:=by decide):PE X (.Name x pos) (tC v):=
 fun _ _ _ H _ I h=>bK I hg hm hv ⟨v,H,I,r,h⟩ hn hd
variable {a b:Expr}{ta tb:TE}{pos:Pos}
def PC (X:Cx)(op:CmpOp)(a b:Expr)(t:TE):Prop:=
 ∀ (pins:List (Addr×Obj)) (s:Shared) (σ:St) (H:Hp) (Q:VK),Inv X pins σ H s ->t σ H Q ->
   wpAny (model X.prog X.w) X.A (eval a X.env) (fun v s₁=>wpAny (model X.prog X.w) X.A (eval b X.env) (fun u s₂=>wpAny (model X.prog X.w) X.A (compareOp op v u) (EP X pins σ Q) X.xe s₂) X.xe s₁) X.xe s
theorem r8 (b:Expr){op:CmpOp}(h:op≠ .In)(h2:op≠ .NotIn):behindInMarks op b=false:=by
 have e1:(op==CmpOp.In)=false:=by cases op<;>first | rfl | exact absurd rfl h
 have e2:(op==CmpOp.NotIn)=false:=by cases op<;>first | rfl | exact absurd rfl h2
 cases b<;>simp[behindInMarks,e1,e2]
def tB (t:TE):TT:=fun σ H Q=>t σ H fun x H1=> ∃c,x= .bl c /\ Q c H1
theorem pt_cmp {op:CmpOp}{t:TE}(h:PC X op a b t)(h1:behindInMarks op b=false:=by first | exact r8 _ (by decide) (by decide) | rfl):PT X (.Compare a [op] [b] pos) (tB t):=by
 intro pins s σ H Q I hw
 refine wpAny_isTrue_Compare1 (thn (h pins s σ H _ I hw) fun v s1 h1=>thn h1 fun u s2 h2=>thn h2 fun c s3 ⟨x,H1,I1,r1,q1⟩=> ?_) h1
 obtain⟨d,rfl,q⟩:=q1
 cases r1
 exact wpAny_truthy_bool ⟨H1,I1,q⟩
theorem eD {e:Expr}{t:TE}(h:PE X e t)(he: ∀whole,isTrue e X.env whole=(do let v <- whole;standAt e.pos;holding [v] (truthy v)):=by intro _;rfl):PT X e (tB t):=by
 intro pins s σ H Q I hw
 refine isTrue_plain (thn (h pins s σ H _ I hw) fun v s1 ⟨x,H1,I1,r1,q1⟩=> ?_) (he _)
 obtain⟨d,rfl,q⟩:=q1
 cases r1
 exact wpAny_truthy_bool ⟨H1,I1,q⟩
variable {tA tB':TT}{rest:List Expr}
def tAnd (t u:TT):TT:=fun σ H Q=>t σ H fun c H1=>if c=true then u σ H1 Q else Q false H1
def tOr (t u:TT):TT:=fun σ H Q=>t σ H fun c H1=>if c=true then Q true H1 else u σ H1 Q
def tNot (t:TT):TT:=fun σ H Q=>t σ H fun c H1=>Q (!c) H1
theorem nE (ha:PT X a tA):PW X (.BoolOp .And [a] pos) tA:=by
 intro wh pins s σ H Q I h
 refine isTrue_and (thn (ha pins s σ H Q I h) fun c s1 e=> ?_)
 cases c with
 | true=>exact isTrue_and_nil e
 | false=>exact e
theorem fL (ha:PT X a tA):PW X (.BoolOp .Or [a] pos) tA:=by
 intro wh pins s σ H Q I h
 refine isTrue_or (thn (ha pins s σ H Q I h) fun c s1 e=> ?_)
 cases c with
 | false=>exact isTrue_or_nil e
 | true=>exact e
theorem rh (ha:PT X a tA)(hb:PW X (.BoolOp .And (b::rest) pos) tB'):PW X (.BoolOp .And (a::b::rest) pos) (tAnd tA tB'):=by
 intro wh pins s σ H Q I h
 refine isTrue_and (thn (ha pins s σ H _ I h) fun c s1 ⟨H1,I1,q1⟩=> ?_)
 cases c with
 | true=>exact hb wh pins s1 σ H1 Q I1 q1
 | false=>exact⟨H1,I1,q1⟩
theorem gS (ha:PT X a tA)(hb:PW X (.BoolOp .Or (b::rest) pos) tB'):PW X (.BoolOp .Or (a::b::rest) pos) (tOr tA tB'):=by
 intro wh pins s σ H Q I h
 refine isTrue_or (thn (ha pins s σ H _ I h) fun c s1 ⟨H1,I1,q1⟩=> ?_)
 cases c with
 | true=>exact⟨H1,I1,q1⟩
 | false=>exact hb wh pins s1 σ H1 Q I1 q1
theorem c8 (ha:PT X a tA):PT X (.UnaryOp .Not a pos) (tNot tA):=by
 intro pins s σ H Q I h
 exact isTrue_not (ha pins s σ H (fun c H1=>Q (!c) H1) I h)
def vw (ta tb:TE):TE:=fun σ H Q=>ta σ H fun x H1=> ∃c,x= .bl c /\ if c=true then tb σ H1 Q else Q (.bl false) H1
def vn (ta:TE):TE:=fun σ H Q=>ta σ H fun x H1=> ∃c,x= .bl c /\ Q (.bl (!c)) H1
theorem wX {op}{t:TE}(h:PE X a t):PE X (.BoolOp op [a] pos) t:=fun pins s σ H Q I hw=>BoolOp_one (h pins s σ H Q I hw)
theorem w6 (ha:PE X a ta)(hb:PE X (.BoolOp .And (b::rest) pos) tb):PE X (.BoolOp .And (a::b::rest) pos) (vw ta tb):=by
 intro pins s σ H Q I h
 refine BoolOp_and (thn (ha pins s σ H _ I h) fun v s1 ⟨x,H1,I1,r1,q1⟩=> ?_)
 obtain⟨c,rfl,q1⟩:=q1
 cases r1
 refine wpAny_truthy_bool ?_
 cases c with
 | true=>exact hb pins s1 σ H1 Q I1 q1
 | false=>exact⟨.bl false,H1,I1,rfl,q1⟩
theorem wY (ha:PE X a ta):PE X (.UnaryOp .Not a pos) (vn ta):=by
 intro pins s σ H Q I h
 refine UnaryOp_ (thn (ha pins s σ H _ I h) fun v s1 ⟨x,H1,I1,r1,q1⟩=> ?_)
 obtain⟨c,rfl,q1⟩:=q1
 cases r1
 exact not_of (wpAny_truthy_bool ⟨.bl (!c),H1,I1,rfl,q1⟩)
end
end L2
namespace L2
open PySem PySem.Spec PyProof.Rows
def SqL (K:PySem.W.Frag)(H:Hp)(a:Addr)(xs:List V):Prop:=
 Rd H a (.lst xs) \/
   ∃ (o:Obj) (its:Array Value) (n:Nat),K.lookup a=some o /\ o.cls= .type "list" /\ o.dict=none /\ o.data= .seq its n /\ its.size<=sizeLine /\ Vals xs its.toList
def SqT (K:PySem.W.Frag)(H:Hp)(a:Addr)(xs:List V):Prop:=
 Rd H a (.tup xs) \/
   ∃ (o:Obj) (its:Array Value) (n:Nat),K.lookup a=some o /\ o.cls= .type "tuple" /\ o.dict=none /\ o.data= .seq its n /\ its.size<=sizeLine /\ Vals xs its.toList
def absV:Value ->Option V
 | .none=>some .non
 | .bool b=>some (.bl b)
 | .int i _=>some (.int i)
 | .str x _=>some (.str x)
 | .bytes b _=>some (.byt b)
 | .float b _=>some (.flt b)
 | .ref a=>some (.ref a)
 | .type n=>some (.ty n)
 | _=>none
theorem RelV.abs {x:V}{u:Value}(r:RelV x u):absV u=some x:=by
 cases x with
 | non=>cases r;rfl
 | bl _=>cases r;rfl
 | int _=>obtain⟨t,rfl⟩:=r;rfl
 | str _=>obtain⟨t,rfl⟩:=r;rfl
 | byt _=>obtain⟨t,rfl⟩:=r;rfl
 | flt _=>obtain⟨t,rfl⟩:=r;rfl
 | ref _=>cases r;rfl
 | ty _=>cases r;rfl
theorem RelV.inj {x y:V}{u:Value}(r:RelV x u)(q:RelV y u):x=y:=Option.some.inj (r.abs.symm.trans q.abs)
theorem Vals.inj: ∀ {xs ys:List V} {us:List Value},Vals xs us ->Vals ys us ->xs=ys
 | _,_,_, .nil, .nil=>rfl
 | _,_,_, .cons r t, .cons r' t'=>by rw[r.inj r',Vals.inj t t']
section
variable {X:Cx}{pins:List (Addr×Obj)}{σ:St}{H:Hp}{s:Shared}{a:Addr}{xs ys:List V}
theorem SqL.of {K:PySem.W.Frag}(h:H a=some (.lst xs)):SqL K H a xs:= .inl (.inl h)
theorem SqT.of {K:PySem.W.Frag}(h:H a=some (.tup xs)):SqT K H a xs:= .inl (.inl h)
theorem Inv.list (I:Inv X pins σ H s)(h:SqL X.K H a xs): ∃its:List Value,Vals xs its /\ PlainL s.heap a its.toArray /\ xs.length<=sizeLine:=by
 rcases h with h | ⟨o,its,n,hk,hc,hd,hs,hz,r⟩
 · obtain⟨z,its,n,r,e⟩:=h.ok I.hok
   exact⟨its,r,⟨_,n,e,rfl,rfl,rfl⟩,z⟩
 · refine⟨its.toList,r,⟨o,n,I.kIn a o hk,hc,hd,by simpa using hs⟩,?_⟩
   have e:=r.length
   simp only[Array.length_toList] at e
   lia
theorem Inv.tuple (I:Inv X pins σ H s)(h:SqT X.K H a xs): ∃its:List Value,Vals xs its /\ IsTup s.heap a its.toArray /\ xs.length<=sizeLine:=by
 rcases h with h | ⟨o,its,n,hk,hc,_,hs,hz,r⟩
 · obtain⟨z,its,r,p⟩:=h.ok I.hok
   exact⟨its,r,p.t,z⟩
 · refine⟨its.toList,r,⟨o,I.kIn a o hk,hc,n,by simpa using hs⟩,?_⟩
   have e:=r.length
   simp only[Array.length_toList] at e
   lia
theorem Inv.tupleD (I:Inv X pins σ H s)(h:SqT X.K H a xs): ∃its:List Value,Vals xs its /\ ki s.heap a its.toArray /\ xs.length<=sizeLine:=by
 rcases h with h | ⟨o,its,n,hk,hc,hd,hs,hz,r⟩
 · obtain⟨z,its,r,p⟩:=h.ok I.hok
   exact⟨its,r,p,z⟩
 · refine⟨its.toList,r,⟨o,I.kIn a o hk,hc,n,by simpa using hs,hd⟩,?_⟩
   have e:=r.length
   simp only[Array.length_toList] at e
   lia
theorem Inv.list_inj (I:Inv X pins σ H s)(h:SqL X.K H a xs)(h':SqL X.K H a ys):xs=ys:=by
 obtain⟨its,r,⟨o,n,e,_,_,d⟩,_⟩:=I.list h
 obtain⟨its',r',⟨o',n',e',_,_,d'⟩,_⟩:=I.list h'
 rw[e] at e';cases e'
 rw[d] at d'
 injection d' with d1 _
 have:its=its':=by simpa using congrArg Array.toList d1
 subst this
 exact r.inj r'
theorem Inv.tuple_inj (I:Inv X pins σ H s)(h:SqT X.K H a xs)(h':SqT X.K H a ys):xs=ys:=by
 obtain⟨its,r,⟨o,e,_,n,d⟩,_⟩:=I.tuple h
 obtain⟨its',r',⟨o',e',_,n',d'⟩,_⟩:=I.tuple h'
 rw[e] at e';cases e'
 rw[d] at d'
 injection d' with d1 _
 have:its=its':=by simpa using congrArg Array.toList d1
 subst this
 exact r.inj r'
end
abbrev Cx.wish (X:Cx)(E:Value ->Shared ->Prop):Cx:= {X with xe:=E}
abbrev Cx.nox (X:Cx):Cx:=X.wish fun _ _=>False
theorem Cx.Ok.wish {X:Cx}(ok:X.Ok)(E:Value ->Shared ->Prop):(X.wish E).Ok:=
 ⟨ok.mod,ok.kind,ok.glob,ok.blt,ok.above,ok.inj,ok.has,ok.cab,ok.hd,ok.frames,ok.stk,ok.exf,ok.bs,ok.bsz,ok.noex,ok.exfs,ok.funs,ok.frf⟩
theorem Cx.Ok.unwish {X:Cx}{E:Value ->Shared ->Prop}(ok:(X.wish E).Ok):X.Ok:=
 ⟨ok.mod,ok.kind,ok.glob,ok.blt,ok.above,ok.inj,ok.has,ok.cab,ok.hd,ok.frames,ok.stk,ok.exf,ok.bs,ok.bsz,ok.noex,ok.exfs,ok.funs,ok.frf⟩
section
variable {X:Cx}{pins:List (Addr×Obj)}{σ:St}{H:Hp}{s:Shared}{E:Value ->Shared ->Prop}
theorem Inv.wish (I:Inv X pins σ H s)(E:Value ->Shared ->Prop):Inv (X.wish E) pins σ H s:=⟨I.ok.wish E,I.os,I.bare,I.base,I.loc,I.cell,I.free,I.freeC,I.pin,I.hok,I.len⟩
theorem Inv.unwish (I:Inv (X.wish E) pins σ H s):Inv X pins σ H s:=⟨I.ok.unwish,I.os,I.bare,I.base,I.loc,I.cell,I.free,I.freeC,I.pin,I.hok,I.len⟩
theorem SP.unwish {D:Ends}{f:Flow}{s':Shared}(h:SP (X.wish E) pins D f s'):SP X pins D f s':=by
 cases f with
 | next=>obtain⟨σ',H',I,q⟩:=h;exact⟨σ',H',I.unwish,q⟩
 | brk=>obtain⟨σ',H',I,q⟩:=h;exact⟨σ',H',I.unwish,q⟩
 | cont=>obtain⟨σ',H',I,q⟩:=h;exact⟨σ',H',I.unwish,q⟩
 | ret u=>obtain⟨v,σ',H',I,r,q⟩:=h;exact⟨v,σ',H',I.unwish,r,q⟩
theorem PSs.nox {st:List Stmt}{t:TS}(h:PSs X.nox st t):PSs X st t:=fun pins s σ H D I hw=>
 wpAny_mono (h pins s σ H D (I.wish _) hw) (fun _ _ q=>q.unwish) fun _ _ z=>False.elim z
end
section
variable {X:Cx}{st:Stmt}{rest:List Stmt}{t u:TS}{e:Expr}{te:TE}{pos:Pos}
def vo:TS:=fun D σ H=>D.nx σ H
def tSeq (t u:TS):TS:=fun D σ H=>t {D with nx:=u D} σ H
theorem aX:PSs X [] vo:=fun _ _ σ H _ I h=>wpAny_execs_nil ⟨σ,H,I,h⟩
theorem ah (h1:PS X st t)(h2:PSs X rest u):PSs X (st::rest) (tSeq t u):=by
 intro pins s σ H D I h
 refine wpAny_execs_cons (thn (h1 pins s σ H {D with nx:=u D} I h) fun f s1 q=> ?_)
 cases f with
 | next=>
   obtain⟨σ',H',I',q⟩:=q
   exact h2 pins s1 σ' H' D I' q
 | ret v=>exact q
 | brk=>exact q
 | cont=>exact q
theorem ak (h1:PS X st t):PSs X [st] t:=by
 intro pins s σ H D I h
 refine wpAny_execs_cons (thn (h1 pins s σ H D I h) fun f s1 q=> ?_)
 cases f with
 | next=>exact wpAny_execs_nil q
 | ret v=>exact q
 | brk=>exact q
 | cont=>exact q
def vv:TS:=fun D σ H=>D.ct σ H
theorem kN:PS X (.Continue pos) vv:=fun _ _ σ H _ I h=>wpAny_Continue ⟨σ,H,I,h⟩
theorem Inv.quiet {pins:List (Addr×Obj)}{σ:St}{H:Hp}{s:Shared}(I:Inv X pins σ H s):interactive X.env=false:=by simp[interactive,I.ok.kind]
def vq (te:TE):TS:=fun D σ H=>te σ H fun _ H1=>D.nx σ H1
theorem cj (he:PE X e te)(hs:swapsWith e none pos.line X.env=pure false:=by rfl):PS X (.Expr e pos) (vq te):=by
 intro pins s σ H D I h
 exact wpAny_Expr_any (thn (he pins s σ H _ I h) fun v s1 ⟨x,H1,I1,r1,q1⟩=>⟨σ,H1,I1,q1⟩) I.quiet hs
def tRet (te:TE):TS:=fun D σ H=>te σ H D.rt
theorem az (he:PE X e te):PS X (.Return (some e) pos) (tRet te):=by
 intro pins s σ H D I h
 exact wpAny_Return_some (thn (he pins s σ H _ I h) fun v s1 ⟨x,H1,I1,r1,q1⟩=>⟨x,σ,H1,I1,r1,q1⟩)
def tIfS (c:TT)(t u:TS):TS:=fun D σ H=>c σ H fun b H1=>if b=true then t D σ H1 else u D σ H1
theorem bw {c:Expr}{a b:List Stmt}{tc:TT}(hc:PT X c tc)(ha:PSs X a t)(hb:PSs X b u):PS X (.If c a b pos) (tIfS tc t u):=by
 intro pins s σ H D I h
 refine wpAny_If (thn (hc pins s σ H _ I h) fun d s1 ⟨H1,I1,q1⟩=> ?_)
 cases d with
 | true=>exact ha pins s1 σ H1 D I1 q1
 | false=>exact hb pins s1 σ H1 D I1 q1
end
abbrev TG:=V ->St ->Hp ->(St ->Hp ->Prop) ->Prop
abbrev TGs:=List V ->St ->Hp ->(St ->Hp ->Prop) ->Prop
def PG (X:Cx)(target:Expr)(t:TG):Prop:=
 ∀ (pins:List (Addr×Obj)) (s:Shared) (σ:St) (H:Hp) (v:V) (u:Value) (Q:St ->Hp ->Prop),Inv X pins σ H s ->RelV v u ->t v σ H Q ->
   wpAny (model X.prog X.w) X.A (assign target X.env u) (fun _ s'=> ∃σ' H',Inv X pins σ' H' s' /\ Q σ' H') X.xe s
def PGs (X:Cx)(ts:List Expr)(t:TGs):Prop:=
 ∀ (pins:List (Addr×Obj)) (s:Shared) (σ:St) (H:Hp) (vs:List V) (us:List Value) (Q:St ->Hp ->Prop),Inv X pins σ H s ->Vals vs us ->t vs σ H Q ->
   wpAny (model X.prog X.w) X.A (assignInOrder ((assignEach ts X.env).map (·.2)) us) (fun _ s'=> ∃σ' H',Inv X pins σ' H' s' /\ Q σ' H') X.xe s
abbrev tN:=V ->V ->V ->Hp ->(Hp ->Prop) ->Prop
def PSet (X:Cx)(t:tN):Prop:=
 ∀ (pins:List (Addr×Obj)) (s:Shared) (σ:St) (H:Hp) (o i v:V) (ov iv u:Value) (Q:Hp ->Prop),Inv X pins σ H s ->RelV o ov ->RelV i iv ->RelV v u ->t o i v H Q ->
   wpAny (model X.prog X.w) X.A (setItem ov iv u) (fun _ s'=> ∃H',Inv X pins σ H' s' /\ Q H') X.xe s
section
variable {X:Cx}{pos:Pos}
def fw (i:Nat):TG:=fun v σ H Q=>Q (σ.set i (some v)) H
theorem ax {i:Nat}{x:Str}(hN:X.N.Nodup)(hi:X.N[i]? =some x)(hx:Loc X.env.scope x)(hf:X.fn x=true \/ X.env.scope.names.lookup x=some .local:=by first | exact .inl rfl | exact .inr rfl | assumption):PG X (.Name x pos) (fw i):=by
 intro pins s σ H v u Q I r h
 exact wpAny_assign_Name (kB I hN hi hx r (fun s' I'=>⟨_,H,I',h⟩) hf)
def gNil:TGs:=fun vs σ H Q=>vs= [] /\ Q σ H
def nZ (t:TG)(u:TGs):TGs:=fun vs σ H Q=> ∃v r,vs=v::r /\ t v σ H fun σ' H'=>u r σ' H' Q
theorem cH:PGs X [] gNil:=by
 intro pins s σ H vs us Q I r h
 obtain⟨e,h⟩:=h
 subst e
 cases r
 exact assignInOrder_nil ⟨σ,H,I,h⟩
theorem aV {e:Expr}{es:List Expr}{t:TG}{u:TGs}(h1:PG X e t)(h2:PGs X es u)
   (hs:(assignEach (e::es) X.env).map (·.2)=assign e X.env::(assignEach es X.env).map (·.2):=by rfl):PGs X (e::es) (nZ t u):=by
 intro pins s σ H vs us Q I r h
 obtain⟨v,vr,e1,h⟩:=h
 subst e1
 cases r with
 | cons r rr=>
   rw[hs]
   refine assignInOrder_cons (thn (h1 pins s σ H _ _ _ I r h) fun _ s1 ⟨σ1,H1,I1,q1⟩=> ?_)
   exact h2 pins s1 σ1 H1 _ _ Q I1 rr q1
def gTup (K:PySem.W.Frag)(n:Nat)(t:TGs):TG:=fun v σ H Q=> ∃a xs,v= .ref a /\ SqT K H a xs /\ xs.length=n /\ t xs σ H Q
theorem dB {es:List Expr}{k:Nat}{t:TGs}{n:Nat}(hc:X.calm=true)(h:PGs X es t)
   (hn:(assignEach es X.env).length=n:=by rfl) (hst:(assignEach es X.env).findIdx? (·.1)=none:=by rfl):PG X (.Tuple es k pos) (gTup X.K n t):=by
 intro pins s σ H v u Q I r hw
 obtain⟨a,xs,e1,hq,hl,hw⟩:=hw
 subst e1
 cases r
 obtain⟨its,rv,ht,hz⟩:=I.tuple hq
 refine assign_Tuple_tuple (I.ok.hd hc) ht (by simp[hn, <- hl,rv.length]) hst fun h' hx=> ?_
 have I1:Inv X pins σ H {s with heap:=h'}:=I.kept (t':=s.toks) fun b o e=>hx b o (Nat.ne_of_lt (Heap.lt_size e)) e
 exact h pins _ σ H xs _ Q I1 (by simpa using rv) hw
def gSub (to ti:TE)(t:tN):TG:=fun v σ H Q=>to σ H fun o H1=>ti σ H1 fun i H2=>t o i v H2 fun H3=>Q σ H3
theorem fN {o i:Expr}{to ti:TE}{t:tN}(ho:PE X o to)(hi:PE X i ti)(hs:PSet X t)
   (ha: ∀v,assign (.Subscript o i pos) X.env v=(do
     let ov <- holding [v] (eval o X.env)
     let iv <- holding [v,ov] (eval i X.env)
     standAt pos
     holding [v,ov,iv] (setItem ov iv v)
     release [v,ov,iv] []):=by intro _;rfl):PG X (.Subscript o i pos) (gSub to ti t):=by
 intro pins s σ H v u Q I r h
 rw[ha]
 refine wpAny_bind (wpAny_holding (thn (ho pins s σ H _ I h) fun ov s1 ⟨x,H1,I1,r1,q1⟩=> ?_))
 refine wpAny_bind (wpAny_holding (thn (hi pins s1 σ H1 _ I1 q1) fun iv s2 ⟨y,H2,I2,r2,q2⟩=> ?_))
 refine wpAny_bind (wpAny_standAt (wpAny_bind (wpAny_holding (thn (hs pins s2 σ H2 x y v ov iv u _ I2 r1 r2 r q2) fun _ s3 ⟨H3,I3,q3⟩=> ?_))))
 exact wpAny_release ⟨σ,H3,I3,q3⟩
def qG (te:TE)(g:TG):TS:=fun D σ H=>te σ H fun x H1=>g x σ H1 D.nx
theorem fM {tg e:Expr}{te:TE}{g:TG}(he:PE X e te)(hg:PG X tg g)(hs:swapsWithSole [tg] e pos.line X.env=pure false:=by rfl)(hw:swappedStores [tg] e X.env=pure none:=by rfl)
   (h1:(assignEach [tg] X.env).map (·.2)= [assign tg X.env]:=by rfl):PS X (.Assign [tg] e pos) (qG te g):=by
 intro pins s σ H D I h
 refine wpAny_Assign_stores (thn (he pins s σ H _ I h) fun v s1 ⟨x,H1,I1,r1,q1⟩=> ?_) hs hw
 rw[h1]
 exact thn (hg pins s1 σ H1 x v _ I1 r1 q1) fun _ s2 q=>q
theorem aB {i:Nat}{x:Str}{e:Expr}{te:TE}{pos':Pos}(hN:X.N.Nodup)(hi:X.N[i]? =some x)(hx:Loc X.env.scope x)(he:PE X e te)(hs:swapsWith e (some (.Name x pos')) pos.line X.env=pure false:=by rfl)(hf:X.fn x=true \/ X.env.scope.names.lookup x=some .local:=by first | exact .inl rfl | exact .inr rfl | assumption):
   PS X (.Assign [.Name x pos'] e pos) (qG te (fw i)):=by
 intro pins s σ H D I h
 refine wpAny_Assign_Name (thn (he pins s σ H _ I h) fun v s1 ⟨y,H1,I1,r1,q1⟩=> ?_) hs
 exact kB I1 hN hi hx r1 (fun s2 I2=>⟨_,H1,I2,q1⟩) hf
end
structure It where
 go:Nat ->Hp ->Prop
 yld:Nat ->Hp ->V ->Hp ->Prop
 stop:Nat ->Hp ->Prop
def di (X:Cx)(pins:List (Addr×Obj))(H:Hp)(b:Addr):Prop:=
 H b=none /\ b≠X.env.locals /\ b∉X.fs /\ (b∈X.ex \/ X.s₀.heap.objs.size<=b) /\ (∀x c,X.env.cells.lookup x=some c ->c≠b) /\ ∀p∈X.pn++pins,p.1≠b
theorem Inv.fpOk {X:Cx}{pins:List (Addr×Obj)}{σ:St}{H H':Hp}{s:Shared}{b:Addr}(I:Inv X pins σ H s)(hb:s.heap.objs.size<=b)(hn:H' b=none):di X pins H' b:=by
 refine⟨hn,Nat.ne_of_gt (Nat.lt_of_lt_of_le I.lt hb),I.nofs hb, .inr (Nat.le_trans I.sz hb),fun x c e z=> ?_,fun p hp z=> ?_⟩
 · obtain⟨v,q⟩:=I.cell x c e
   exact absurd (Nat.lt_of_lt_of_le q.lt (by rw[z];exact hb)) (Nat.lt_irrefl _)
 · exact absurd (Nat.lt_of_lt_of_le (Heap.lt_size (I.pin p hp).1) (by rw[z];exact hb)) (Nat.lt_irrefl _)
structure Turn (P:Program)(w:World)(K:PySem.W.Frag)(tg:Expr)(J:It)(fp:List Addr)(it:Addr)(tn:Nat ->Heap ->Prop):Prop where
 mem:it∈fp
 obj: ∀i h,tn i h -> ∀b∈fp, ∃o,h.get? b=some o /\ ∀v,o.data≠ .cell v
 keep: ∀i h h',tn i h ->(∀b∈fp, ∀o,h.get? b=some o ->h'.get? b=some o) ->tn i h'
 item: ∀ (X:Cx),X.prog=P ->X.w=w ->X.K=K ->X.calm=true -> ∀ (i:Nat) (pins:List (Addr×Obj)) (s:Shared) (σ:St) (H:Hp) (E:Value ->Shared ->Prop),Inv X pins σ H s ->(∀b∈fp,di X pins H b) ->tn i s.heap ->J.go i H ->
   wpAny (model P w) X.A (pyNext (.ref it)) (fun r s1=> ∃u,r=some u /\
     wpAny (model P w) X.A (letOwnedTupleGo tg (.ref it) u) (fun _ s2=> ∃x H',Inv X pins σ H' s2 /\ RelV x u /\ J.yld i H x H' /\ tn (i+1) s2.heap /\ ∀b∈fp,H' b=none) E s1) E s
 done: ∀ (X:Cx),X.prog=P ->X.w=w ->X.K=K ->X.calm=true -> ∀ (i:Nat) (pins:List (Addr×Obj)) (s:Shared) (σ:St) (H:Hp) (E:Value ->Shared ->Prop),Inv X pins σ H s ->(∀b∈fp,di X pins H b) ->tn i s.heap ->J.stop i H ->
   wpAny (model P w) X.A (pyNext (.ref it)) (fun r s1=>r=none /\ Inv X pins σ H s1) E s
 self: ∀ (A:Around) (i:Nat) (s:Shared) (Q:Value ->Shared ->Prop) (E:Value ->Shared ->Prop),tn i s.heap ->Q (.ref it) s ->wpAny (model P w) A (pyIter (.ref it)) Q E s
abbrev TI:=St ->Hp ->(It ->Hp ->Prop) ->Prop
def PIE (X:Cx)(pins:List (Addr×Obj))(σ:St)(tg:Expr)(R:It ->Hp ->Prop)(itv:Value)(s2:Shared):Prop:=
 ∃ (it:Addr) (fp:List Addr) (tn:Nat ->Heap ->Prop) (J:It) (H':Hp),itv= .ref it /\ Inv X pins σ H' s2 /\ Turn X.prog X.w X.K tg J fp it tn /\ tn 0 s2.heap /\ (∀b∈fp,di X pins H' b) /\ R J H'
def PI (X:Cx)(tg iter:Expr)(wi:TI):Prop:=
 ∀ (pins:List (Addr×Obj)) (s:Shared) (σ:St) (H:Hp) (R:It ->Hp ->Prop),Inv X pins σ H s ->wi σ H R ->
   wpAny (model X.prog X.w) X.A (eval iter X.env) (fun v s1=>wpAny (model X.prog X.w) X.A (pyIter v) (PIE X pins σ tg R) X.xe s1) X.xe s
theorem sR {M:Model}{A:Around}{E:Value ->Shared ->Prop}{s:Shared}{tg:Expr}{it:Addr}{u:Value}{o:Obj}{n:String}{vs:Array Value}{Q:Unit ->Shared ->Prop}(ho:s.heap.get? it=some o)(hc:o.cls= .type n)(hd:o.data= .fields vs)
   (hn: ["enumerate","zip","dict_itemiterator","dict_reverseitemiterator","odict_iterator","itertools.zip_longest","itertools.pairwise"].contains n=false) (hQ:Q () s):wpAny M A (letOwnedTupleGo tg (.ref it) u) Q E s:=by
 unfold letOwnedTupleGo
 cases tg <;>first
   | exact wpAny_pure hQ
   | (cases u<;>first
       | exact wpAny_pure hQ
       | (refine wpAny_bind (wpAny_load ho ?_)
          rw[hc,hd]
          show wpAny M A (if(["enumerate","zip","dict_itemiterator","dict_reverseitemiterator","odict_iterator","itertools.zip_longest","itertools.pairwise"].contains n && vs[0]? ==some (rawInt _))=true then _ else _) Q E s
          rw[if_neg (by intro h;rw[hn,Bool.false_and] at h;cases h)]
          exact wpAny_pure hQ))
def Itl (K:PySem.W.Frag)(a:Addr):It:=
 ⟨fun i H=> ∃xs x,SqL K H a xs /\ xs[i]? =some x,fun i H x H'=>H'=H /\ ∀xs,SqL K H a xs ->xs[i]? =some x,fun i H=> ∃xs,SqL K H a xs /\ xs.length<=i⟩
def Itt (K:PySem.W.Frag)(a:Addr):It:=
 ⟨fun i H=> ∃xs x,SqT K H a xs /\ xs[i]? =some x,fun i H x H'=>H'=H /\ ∀xs,SqT K H a xs ->xs[i]? =some x,fun i H=> ∃xs,SqT K H a xs /\ xs.length<=i⟩
def Itr (lo:Int)(n:Nat):It:=⟨fun i _=>i<n,fun i H x H'=>H'=H /\ x= .int (lo+i),fun i _=>n<=i⟩
theorem oA {P:Program}{w:World}{K:PySem.W.Frag}{tg:Expr}(a it:Addr):Turn P w K tg (Itl K a) [it] it (fun i h=>h.IsListIter it a i) where
 mem:=by simp
 obj:=fun i h st b hb=>by
   have e:b=it:=by simpa using hb
   subst e
   obtain⟨o,e,c,d⟩:=st
   exact⟨o,e,fun v z=>by rw[d] at z;cases z⟩
 keep:=fun i h h' st k=>st.at fun o e=>k it (by simp) o e
 item:=by
   intro X hP hw hK hc i pins s σ H E I hf st hg
   subst hP hw hK
   obtain⟨xs,x,hq,hx⟩:=hg
   obtain⟨its,rv,p,hz⟩:=I.list hq
   obtain⟨u,hu,ru⟩:=rv.get hx
   obtain⟨f0,f1,f2,f3,f4,f5⟩:=hf it (by simp)
   refine wpAny_pyNext_list_item st p.isList (x:=u) (by simpa using hu) fun h' st' sb=> ?_
   have I1:Inv X pins σ H {s with heap:=h'}:=I.turned (t':=s.toks) (fun b o hb e=>(sb.2 b hb).trans e) f0 f1 f3 f4 f5
   obtain⟨o,e,c,d⟩:=id st'
   exact⟨u,rfl,sR (s:= {s with heap:=h'}) e c d (by decide) ⟨x,H,I1,ru,⟨rfl,fun ys hy=>by rw[I.list_inj hy hq];exact hx⟩,st',fun b hb=>(hf b hb).1⟩⟩
 done:=by
   intro X hP hw hK hc i pins s σ H E I hf st hg
   subst hP hw hK
   obtain⟨xs,hq,hx⟩:=hg
   obtain⟨its,rv,p,hz⟩:=I.list hq
   obtain⟨f0,f1,f2,f3,f4,f5⟩:=hf it (by simp)
   have hl:=rv.length
   exact wpAny_pyNext_list_end (I.ok.hd hc) st p.isList (by simp;lia) fun h' eb=>⟨rfl,I.turned (t':=s.toks) (fun b o hb e=>eb b o hb e) f0 f1 f3 f4 f5⟩
 self:=fun _ _ _ _ _ st h=>wpAny_pyIter_listiter st h
theorem lN {P:Program}{w:World}{K:PySem.W.Frag}{tg:Expr}(a it:Addr):Turn P w K tg (Itt K a) [it] it (fun i h=>h.IsTupleIter it a i) where
 mem:=by simp
 obj:=fun i h st b hb=>by
   have e:b=it:=by simpa using hb
   subst e
   obtain⟨o,e,c,d⟩:=st
   exact⟨o,e,fun v z=>by rw[d] at z;cases z⟩
 keep:=fun i h h' st k=>st.at fun o e=>k it (by simp) o e
 item:=by
   intro X hP hw hK hc i pins s σ H E I hf st hg
   subst hP hw hK
   obtain⟨xs,x,hq,hx⟩:=hg
   obtain⟨its,rv,p,hz⟩:=I.tuple hq
   obtain⟨u,hu,ru⟩:=rv.get hx
   obtain⟨f0,f1,f2,f3,f4,f5⟩:=hf it (by simp)
   refine wpAny_pyNext_tuple_item st (show s.heap.IsTuple a its.toArray from p) (x:=u) (by simpa using hu) fun h' st' sb=> ?_
   have I1:Inv X pins σ H {s with heap:=h'}:=I.turned (t':=s.toks) (fun b o hb e=>(sb.2 b hb).trans e) f0 f1 f3 f4 f5
   obtain⟨o,e,c,d⟩:=id st'
   exact⟨u,rfl,sR (s:= {s with heap:=h'}) e c d (by decide) ⟨x,H,I1,ru,⟨rfl,fun ys hy=>by rw[I.tuple_inj hy hq];exact hx⟩,st',fun b hb=>(hf b hb).1⟩⟩
 done:=by
   intro X hP hw hK hc i pins s σ H E I hf st hg
   subst hP hw hK
   obtain⟨xs,hq,hx⟩:=hg
   obtain⟨its,rv,p,hz⟩:=I.tuple hq
   obtain⟨f0,f1,f2,f3,f4,f5⟩:=hf it (by simp)
   have hl:=rv.length
   exact wpAny_pyNext_tuple_end (I.ok.hd hc) st (show s.heap.IsTuple a its.toArray from p) (by simp;lia) fun h' eb=>⟨rfl,I.turned (t':=s.toks) (fun b o hb e=>eb b o hb e) f0 f1 f3 f4 f5⟩
 self:=fun _ _ _ _ _ st h=>wpAny_pyIter_tupleiter st h
theorem lO {P:Program}{w:World}{K:PySem.W.Frag}{tg:Expr}(it:Addr)(lo:Int)(n:Nat):Turn P w K tg (Itr lo n) [it] it (fun i h=>IsRangeIter h it (lo+(i:Nat)*1) ((n:Int) - (i:Nat)) 1) where
 mem:=by simp
 obj :=fun i h st b hb=>by
   have e:b=it:=by simpa using hb
   subst e
   exact⟨_,st,fun v z=>by
     have z':Data.fields _=Data.cell v:=z
     cases z'⟩
 keep:=fun i h h' st k=>k it (by simp) _ st
 item:=by
   intro X hP hw hK hc i pins s σ H E I hf st hg
   subst hP hw hK
   obtain⟨f0,f1,f2,f3,f4,f5⟩:=hf it (by simp)
   have W:=Walks.range (prog:=X.prog) (w:=X.w) (I.ok.hd hc) it lo 1 n
   refine W.item i s _ _ hg st fun v h' tk hv st' kk=> ?_
   obtain⟨t,rfl⟩:=hv
   have I1:Inv X pins σ H {s with heap:=h',toks:=tk}:=I.turned (fun b o hb e=>kk b o (by simpa using hb) e) f0 f1 f3 f4 f5
   refine⟨_,rfl,sR (s:= {s with heap:=h',toks:=tk}) (n:= "range_iterator") st' rfl rfl (by decide) ⟨.int (lo+i),H,I1,⟨t,?_⟩,⟨rfl,rfl⟩,st',fun b hb=>(hf b hb).1⟩⟩
   rw[Int.mul_one]
 done:=by
   intro X hP hw hK hc i pins s σ H E I hf st hg
   subst hP hw hK
   obtain⟨f0,f1,f2,f3,f4,f5⟩:=hf it (by simp)
   exact wpAny_pyNext_range_end (I.ok.hd hc) st (by have:n<=i:=hg;lia) fun h' eb=>⟨rfl,I.turned (t':=s.toks) (fun b o hb e=>eb b o hb e) f0 f1 f3 f4 f5⟩
 self:=fun _ _ _ _ _ st h=>wpAny_pyIter_rangeiter st h
end L2
namespace L2
open PySem PySem.Spec PyProof.Rows
section
variable {X:Cx}{tg:Expr}
def sJ (K:PySem.W.Frag)(tl:TE):TI:=fun σ H R=>tl σ H fun x H1=> ∃a,x= .ref a /\ (∃xs,SqL K H1 a xs) /\ R (Itl K a) H1
def iTup (K:PySem.W.Frag)(tl:TE):TI:=fun σ H R=>tl σ H fun x H1=> ∃a,x= .ref a /\ (∃xs,SqT K H1 a xs) /\ R (Itt K a) H1
theorem bu {l:Expr}{tl:TE}(hl:PE X l tl):PI X tg l (sJ X.K tl):=by
 intro pins s σ H R I h
 refine thn (hl pins s σ H _ I h) fun v s1 ⟨x,H1,I1,r1,q1⟩=> ?_
 obtain⟨a,e,⟨xs,hq⟩,q⟩:=q1
 subst e
 cases r1
 obtain⟨its,rv,p,hz⟩:=I1.list hq
 refine wpAny_pyIter_list p.isList ?_
 refine⟨s1.heap.objs.size,[s1.heap.objs.size],_,_,H1,rfl,I1.kept (t':=s1.toks) fun b o e=>Heap.get?_push_of_some _ e,oA a _,⟨_,Heap.get?_push_size _ rfl,rfl,rfl⟩,fun b hb=> ?_,q⟩
 have e:b=s1.heap.objs.size:=by simpa using hb
 subst e
 exact I1.fpOk (Nat.le_refl _) (I1.hok.fresh (Nat.le_refl _))
theorem jK {l:Expr}{tl:TE}(hl:PE X l tl):PI X tg l (iTup X.K tl):=by
 intro pins s σ H R I h
 refine thn (hl pins s σ H _ I h) fun v s1 ⟨x,H1,I1,r1,q1⟩=> ?_
 obtain⟨a,e,⟨xs,hq⟩,q⟩:=q1
 subst e
 cases r1
 obtain⟨its,rv,p,hz⟩:=I1.tuple hq
 refine wpAny_pyIter_tuple (show s1.heap.IsTuple a its.toArray from p) ?_
 refine⟨s1.heap.objs.size,[s1.heap.objs.size],_,_,H1,rfl,I1.kept (t':=s1.toks) fun b o e=>Heap.get?_push_of_some _ e,lN a _,⟨_,Heap.get?_push_size _ rfl,rfl,rfl⟩,fun b hb=> ?_,q⟩
 have e:b=s1.heap.objs.size:=by simpa using hb
 subst e
 exact I1.fpOk (Nat.le_refl _) (I1.hok.fresh (Nat.le_refl _))
theorem kK {pins:List (Addr×Obj)}{σ:St}{H:Hp}{s:Shared}{R:It ->Hp ->Prop}{E:Value ->Shared ->Prop}{lo hi:Int}{t u v:Tok}{tk:Nat}(I:Inv X pins σ H s)(h1: -(2 ^ 62) <=lo)(h2:lo<2 ^ 62)(h3: -(2 ^ 62) <=hi)(h4:hi<2 ^ 62)
   (q:R (Itr lo (hi - lo).toNat) H):wpAny (model X.prog X.w) X.A (pyIter (.ref s.heap.objs.size)) (PIE X pins σ tg R) E {s with heap:=s.heap.push {cls:= .type "range",data:= .fields #[.int lo t, .int hi u, .int 1 v]},toks:=tk}:=by
 refine wpAny_pyIter_range (IsRange.new ..) (small_one h1 h2 h3 h4) ?_
 have I1:Inv X pins σ H {s with heap:=s.heap.push {cls:= .type "range",data:= .fields #[.int lo t, .int hi u, .int 1 v]},toks:=tk}:=I.kept fun b o e=>Heap.get?_push_of_some _ e
 refine⟨(s.heap.push {cls:= .type "range",data:= .fields #[.int lo t, .int hi u, .int 1 v]}).objs.size,[(s.heap.push {cls:= .type "range",data:= .fields #[.int lo t, .int hi u, .int 1 v]}).objs.size],_,_,H,rfl,
   I1.kept (t':=tk) fun b o e=>Heap.get?_push_of_some _ e,lO _ lo (hi - lo).toNat,?_,fun b hb=> ?_,q⟩
 · have e1:lo+((0:Nat):Int)*1=lo:=by simp
   have e2:(((hi - lo).toNat:Nat):Int) - ((0:Nat):Int)=Builtin.Range.rangeSize lo hi 1:=by rw[rangeSize_one];split<;>lia
   show IsRangeIter _ _ (lo+((0:Nat):Int)*1) ((((hi - lo).toNat:Nat):Int) - ((0:Nat):Int)) 1
   rw[e1,e2]
   exact Heap.get?_push_size _ rfl
 · have e:b=(s.heap.push {cls:= .type "range",data:= .fields #[.int lo t, .int hi u, .int 1 v]}).objs.size:=by simpa using hb
   subst e
   exact I1.fpOk (Nat.le_refl _) (I1.hok.fresh (Nat.le_refl _))
def vU (ta:TA):TI:=fun σ H R=>ta σ H fun vs H1=> ∃j:Int,vs= [.int j] /\ -(2 ^ 62) <=j /\ j<2 ^ 62 /\ R (Itr 0 j.toNat) H1
def vT (ta:TA):TI:=fun σ H R=>ta σ H fun vs H1=> ∃i j:Int,vs= [.int i, .int j] /\ (-(2 ^ 62) <=i /\ i<2 ^ 62 /\ -(2 ^ 62) <=j /\ j<2 ^ 62) /\ R (Itr i (j - i).toNat) H1
theorem cW {a:Expr}{ta:TA}{p pos:Pos}(hg:Gl X "range")(hm:X.mg "range" =none)(ha:PA X [a] ta)(hs:starEach [a] X.env= [(false,eval a X.env)]:=by rfl):PI X tg (.Call (.Name "range" p) [a] [] pos) (vU ta):=by
 intro pins s σ H R I h
 refine Call_ (bK I hg hm boot_range (PyProof.Rows.callWith_type1 (thn (ha pos pins s σ H _ I h) fun us s1 ⟨vs,H1,I1,r1,q1⟩=> ?_) hs rfl))
 obtain⟨j,e,q1,q2,q⟩:=q1
 subst e
 cases r1 with
 | cons r rr=>
   cases rr
   obtain⟨t,rfl⟩:=r
   exact call_range_1 (kK I1 (by lia) (by lia) q1 q2 (by simpa using q))
theorem oI {a b:Expr}{ta:TA}{p pos:Pos}(hg:Gl X "range")(hm:X.mg "range" =none)(ha:PA X [a,b] ta)(hs:starEach [a,b] X.env= [(false,eval a X.env),(false,eval b X.env)]:=by rfl)(hs2:starEach [b] X.env= [(false,eval b X.env)]:=by rfl):
   PI X tg (.Call (.Name "range" p) [a,b] [] pos) (vT ta):=by
 intro pins s σ H R I h
 refine Call_ (bK I hg hm boot_range (PyProof.Rows.callWith_type1 (thn (ha pos pins s σ H _ I h) fun us s1 ⟨vs,H1,I1,r1,q1⟩=> ?_) (by rw[hs,hs2]) (by rw[hs2];rfl)))
 obtain⟨i,j,e,⟨q1,q2,q3,q4⟩,q⟩:=q1
 subst e
 cases r1 with
 | cons r rr=>
   cases rr with
   | cons r' rr=>
     cases rr
     obtain⟨t,rfl⟩:=r
     obtain⟨t',rfl⟩:=r'
     exact call_range_2 (kK I1 q1 q2 q3 q4 q)
def tFor (wi:TI)(g:TG)(tb:TS):TS:=fun D σ H=>wi σ H fun J H1=> ∃W:Nat ->Nat ->St ->Hp ->Prop,(∃m,W 0 m σ H1) /\ ∀i m σ H,W i m σ H ->
 (J.stop i H /\ D.nx σ H) \/ (J.go i H /\ ∃N:St ->Hp ->Prop,(∀σ' H',N σ' H' -> ∃m',m'<m /\ W (i+1) m' σ' H') /\ ∀x H',J.yld i H x H' ->g x σ H' fun σ2 H2=>tb {D with nx:=N,ct:=N,bk:=D.nx} σ2 H2)
def cA (fp:List Addr)(h:Heap):List (Addr×Obj):=fp.filterMap fun b=>(h.get? b).map fun o=>(b,o)
theorem br {fp:List Addr}{h:Heap}{b:Addr}{o:Obj}(hb:b∈fp)(e:h.get? b=some o):(b,o)∈cA fp h:=List.mem_filterMap.mpr ⟨b,hb,by rw[e];rfl⟩
theorem oN {fp:List Addr}{h:Heap}{p:Addr×Obj}(hp:p∈cA fp h):p.1∈fp /\ h.get? p.1=some p.2:=by
 obtain⟨b,hb,e⟩:=List.mem_filterMap.mp hp
 cases q:h.get? b with
 | none=>rw[q] at e;cases e
 | some o=>
   rw[q] at e
   have e':(b,o)=p:=Option.some.inj e
   subst e'
   exact⟨hb,q⟩
theorem Inv.pinned {pins:List (Addr×Obj)}{σ:St}{H:Hp}{s:Shared}{fp:List Addr}(I:Inv X pins σ H s)(hf: ∀b∈fp,di X pins H b)(ho: ∀b∈fp, ∃o,s.heap.get? b=some o /\ ∀v,o.data≠ .cell v):Inv X (pins++cA fp s.heap) σ H s:=
 I.pins_of fun p hp=>(List.mem_append.mp hp).elim (fun z=>I.pin p (List.mem_append_right _ z)) fun z=>by
   obtain⟨hb,e⟩:=oN z
   obtain⟨f0,f1,f2,_⟩:=hf p.1 hb
   obtain⟨o,e',d⟩:=ho p.1 hb
   rw[e] at e';cases e'
   exact⟨e,f0,f1,f2,d⟩
theorem Inv.unpinned {pins pl:List (Addr×Obj)}{σ:St}{H:Hp}{s:Shared}(I:Inv X (pins++pl) σ H s):Inv X pins σ H s:=I.pins_of fun p hp=>I.pin p (List.mem_append_right _ (List.mem_append_left _ hp))
theorem bR {iter:Expr}{body:List Stmt}{wi:TI}{g:TG}{tb:TS}{pos:Pos}(hp:PassesOwn (model X.prog X.w) X.A X.env X.xe)(hc:X.calm=true)(hi:PI X tg iter wi)(hg:PG X tg g)(hb:PSs X body tb)
   (hs: ∀x,foldedSetIterable iter X.env x=pure x:=by intro _;rfl):PS X (.For tg iter body [] pos) (tFor wi g tb):=by
 intro pins s σ H D I h
 refine wpAny_For (thn (hi pins s σ H _ I h) fun v s1 h1=>thn h1 fun itv s2 h2=> ?_) hs
 obtain⟨it,fp,tn,J,H2,e,I2,T,st2,f2,W,⟨m0,w0⟩,turn⟩:=h2
 subst e
 have stat: ∀ {H':Hp},(∀b∈fp,H' b=none) -> ∀b∈fp,di X pins H' b:=fun hn b hb=>⟨hn b hb,(f2 b hb).2⟩
 refine codeAny_forLoop_any (fun n s'=> ∃i σ' H',Inv X pins σ' H' s' /\ tn i s'.heap /\ (∀b∈fp,H' b=none) /\ W i n σ' H') ?_ m0 ⟨0,σ,H2,I2,st2,fun b hb=>(f2 b hb).1,w0⟩
 rintro n s3 ⟨i,σ3,H3,I3,st3,fr3,w3⟩
 rcases turn i n σ3 H3 w3 with⟨stop,qn⟩ | ⟨go,N,hN,step⟩
 · refine wpAny_passesOwn hp (thn (T.done X rfl rfl rfl hc i pins s3 σ3 H3 X.xe I3 (stat fr3) st3 stop) fun r s4 ⟨hr,I4⟩=> ?_)
   subst hr
   exact wpAny_execs_nil ⟨σ3,H3,I4,qn⟩
 · refine wpAny_passesOwn hp (thn (T.item X rfl rfl rfl hc i pins s3 σ3 H3 X.xe I3 (stat fr3) st3 go) fun r s4 ⟨u,hr,h4⟩=> ?_)
   subst hr
   refine wpAny_passesOwn hp (thn h4 fun _ s5 ⟨x,H5,I5,r5,y5,st5,fr5⟩=> ?_)
   have I5':=I5.pinned (stat fr5) (T.obj _ _ st5)
   refine wpAny_passesOwn hp (thn (hg _ s5 σ3 H5 x u _ I5' r5 (step x H5 y5)) fun _ s6 ⟨σ6,H6,I6,q6⟩=> ?_)
   refine wpAny_passesOwn hp (thn (hb _ s6 σ6 H6 _ I6 q6) fun f s7 q7=> ?_)
   have again: ∀ {σ7:St} {H7:Hp},Inv X (pins++cA fp s5.heap) σ7 H7 s7 ->N σ7 H7 -> ∃m,m<n /\ ∃i σ' H',Inv X pins σ' H' s7 /\ tn i s7.heap /\ (∀b∈fp,H' b=none) /\ W i m σ' H':=fun {σ7 H7} I7 n7=>by
     obtain⟨m',hm,w7⟩:=hN σ7 H7 n7
     refine⟨m',hm,i+1,σ7,H7,I7.unpinned,T.keep _ _ _ st5 fun b hb o e=>(I7.pin (b,o) (List.mem_append_right _ (List.mem_append_right _ (br hb e)))).1,fun b hb=> ?_,w7⟩
     obtain⟨o,e,d⟩:=T.obj _ _ st5 b hb
     exact(I7.pin (b,o) (List.mem_append_right _ (List.mem_append_right _ (br hb e)))).2.1
   cases f with
   | next=>obtain⟨σ7,H7,I7,n7⟩:=q7;exact again I7 n7
   | cont=>obtain⟨σ7,H7,I7,n7⟩:=q7;exact again I7 n7
   | brk=>obtain⟨σ7,H7,I7,q7⟩:=q7;exact⟨σ7,H7,I7.unpinned,q7⟩
   | ret v=>obtain⟨x7,σ7,H7,I7,r7,q7⟩:=q7;exact⟨x7,σ7,H7,I7.unpinned,r7,q7⟩
end
end L2
namespace L2
open PySem PySem.Spec PyProof.Rows
abbrev R2:=V ->V ->Hp ->VK ->Prop
def OpR (X:Cx)(f:Value ->Value ->Sem Value)(r:R2):Prop:=
 ∀ (pins:List (Addr×Obj)) (s:Shared) (σ:St) (H:Hp) (x y:V) (v u:Value) (Q:VK),Inv X pins σ H s ->RelV x v ->RelV y u ->r x y H Q ->
   wpAny (model X.prog X.w) X.A (f v u) (EP X pins σ Q) X.xe s
def UnR (X:Cx)(f:Value ->Sem Value)(r:V ->Hp ->VK ->Prop):Prop:=
 ∀ (pins:List (Addr×Obj)) (s:Shared) (σ:St) (H:Hp) (x:V) (v:Value) (Q:VK),Inv X pins σ H s ->RelV x v ->r x H Q ->
   wpAny (model X.prog X.w) X.A (f v) (EP X pins σ Q) X.xe s
def bB (X:Cx)(f:Value)(r:List V ->Hp ->VK ->Prop):Prop:=
 ∀ (pins:List (Addr×Obj)) (s:Shared) (σ:St) (H:Hp) (xs:List V) (us:List Value) (Q:VK),Inv X pins σ H s ->Vals xs us ->r xs H Q ->
   wpAny (model X.prog X.w) X.A (call f us) (EP X pins σ Q) X.xe s
def TruR (X:Cx)(r:V ->Hp ->(Bool ->Hp ->Prop) ->Prop):Prop:=
 ∀ (pins:List (Addr×Obj)) (s:Shared) (σ:St) (H:Hp) (x:V) (v:Value) (Q:Bool ->Hp ->Prop),Inv X pins σ H s ->RelV x v ->r x H Q ->
   wpAny (model X.prog X.w) X.A (truthy v) (TP X pins σ Q) X.xe s
def tOp (r:R2)(ta tb:TE):TE:=fun σ H Q=>ta σ H fun x H1=>tb σ H1 fun y H2=>r x y H2 Q
def tUn (r:V ->Hp ->VK ->Prop)(ta:TE):TE:=fun σ H Q=>ta σ H fun x H1=>r x H1 Q
def rI (C:Int ->Int ->Prop)(g:Int ->Int ->V):R2:=fun x y H Q=> ∃i j,x= .int i /\ y= .int j /\ C i j /\ Q (g i j) H
def rI0 (g:Int ->Int ->V):R2:=fun x y H Q=> ∃i j,x= .int i /\ y= .int j /\ Q (g i j) H
def rU (g:Int ->V):V ->Hp ->VK ->Prop:=fun x H Q=> ∃i,x= .int i /\ Q (g i) H
section
variable {X:Cx}{a b c:Expr}{ta tb tc:TE}{pos:Pos}
theorem binT (ha:PE X a ta)(hb:PE X b tb){pins:List (Addr×Obj)}{s:Shared}{σ:St}{H:Hp}{R:V ->V ->Hp ->Prop}(I:Inv X pins σ H s)
   (h:ta σ H fun x H1=>tb σ H1 fun y H2=>R x y H2) {Q:Value ->Shared ->Prop} {f:Value ->Value ->Sem Value}
   (hf: ∀v u s2 x y H2,Inv X pins σ H2 s2 ->RelV x v ->RelV y u ->R x y H2 ->wpAny (model X.prog X.w) X.A (f v u) Q X.xe s2):
   wpAny (model X.prog X.w) X.A (eval a X.env) (fun v s₁=>wpAny (model X.prog X.w) X.A (eval b X.env) (fun u s₂=>wpAny (model X.prog X.w) X.A (f v u) Q X.xe s₂) X.xe s₁) X.xe s:=by
 refine thn (ha pins s σ H _ I h) fun v s1 ⟨x,H1,I1,r1,q1⟩=> ?_
 refine thn (hb pins s1 σ H1 _ I1 q1) fun u s2 ⟨y,H2,I2,r2,q2⟩=> ?_
 exact hf v u s2 x y H2 I2 r1 r2 q2
theorem aq {op:Operator}{r:R2}(ho:OpR X (binaryOp op) r)(ha:PE X a ta)(hb:PE X b tb):PE X (.BinOp a op b pos) (tOp r ta tb):=by
 intro pins s σ H Q I h
 exact wpAny_BinOp (binT ha hb I h fun v u s2 x y H2 I2 rx ry q=>ho pins s2 σ H2 x y v u Q I2 rx ry q)
theorem d8 {op:UnaryOp}{r:V ->Hp ->VK ->Prop}(ho:UnR X (unaryOp op) r)(ha:PE X a ta):PE X (.UnaryOp op a pos) (tUn r ta):=by
 intro pins s σ H Q I h
 exact UnaryOp_ (thn (ha pins s σ H _ I h) fun v s1 ⟨x,H1,I1,r1,q1⟩=>ho pins s1 σ H1 x v Q I1 r1 q1)
theorem opI {f:Value ->Value ->Sem Value}{C:Int ->Int ->Prop}{g:Int ->Int ->Int}
   (rule: ∀ (i j:Int) (t u:Tok) (s:Shared) (Q:Value ->Shared ->Prop) (E:Value ->Shared ->Prop),C i j ->Q (.int (g i j) s.toks) {s with toks:=s.toks+1} ->wpAny (model X.prog X.w) X.A (f (.int i t) (.int j u)) Q E s):
   OpR X f (rI C fun i j=> .int (g i j)):=by
 intro pins s σ H x y v u Q I rx ry h
 obtain⟨i,j,rfl,rfl,hc,q⟩:=h
 obtain⟨t,rfl⟩:=rx
 obtain⟨t',rfl⟩:=ry
 exact rule i j t t' s _ _ hc ⟨.int (g i j),H,I.tok _,⟨_,rfl⟩,q⟩
theorem opI0 {f:Value ->Value ->Sem Value}{g:Int ->Int ->Int}
   (rule: ∀ (i j:Int) (t u:Tok) (s:Shared) (Q:Value ->Shared ->Prop) (E:Value ->Shared ->Prop),Q (.int (g i j) s.toks) {s with toks:=s.toks+1} ->wpAny (model X.prog X.w) X.A (f (.int i t) (.int j u)) Q E s):
   OpR X f (rI0 fun i j=> .int (g i j)):=by
 intro pins s σ H x y v u Q I rx ry h
 obtain⟨i,j,rfl,rfl,q⟩:=h
 obtain⟨t,rfl⟩:=rx
 obtain⟨t',rfl⟩:=ry
 exact rule i j t t' s _ _ ⟨.int (g i j),H,I.tok _,⟨_,rfl⟩,q⟩
theorem opB0 {f:Value ->Value ->Sem Value}{g:Int ->Int ->Bool}
   (rule: ∀ (i j:Int) (t u:Tok) (s:Shared) (Q:Value ->Shared ->Prop) (E:Value ->Shared ->Prop),Q (.bool (g i j)) s ->wpAny (model X.prog X.w) X.A (f (.int i t) (.int j u)) Q E s):
   OpR X f (rI0 fun i j=> .bl (g i j)):=by
 intro pins s σ H x y v u Q I rx ry h
 obtain⟨i,j,rfl,rfl,q⟩:=h
 obtain⟨t,rfl⟩:=rx
 obtain⟨t',rfl⟩:=ry
 exact rule i j t t' s _ _ ⟨.bl (g i j),H,I,rfl,q⟩
def iH (i j:Int):Prop:=0<j /\ j<1073741824
def CPow (i j:Int):Prop:=0<=j /\ j<=1000000 /\ i.natAbs<2 ^ 64
def bF (i j:Int):Prop:=(-(2 ^ 64) <i /\ i<2 ^ 64) \/ (-(2 ^ 64) <j /\ j<2 ^ 64)
theorem bF.ok {i j:Int}(h:bF i j):IntMulOk i j:=by
 rcases h with⟨h1,h2⟩ | ⟨h1,h2⟩
 · exact .of_left (intBits_le_64 h1 h2)
 · exact .of_right (intBits_le_64 h1 h2)
theorem a5:OpR X (binaryOp .Add) (rI0 fun i j=> .int (i+j)):=opI0 fun _ _ _ _ _ _ _ q=>add_int q
theorem b0:OpR X (binaryOp .Sub) (rI0 fun i j=> .int (i - j)):=opI0 fun _ _ _ _ _ _ _ q=>sub_int q
theorem bf:OpR X (binaryOp .Mult) (rI bF fun i j=> .int (i*j)):=opI fun _ _ _ _ _ _ _ hc q=>mul_int q hc.ok
theorem fh:OpR X (binaryOp .FloorDiv) (rI iH fun i j=> .int (i / j)):=opI fun i j _ _ _ _ _ hc q=>by
 have h1:(0:Int) <j:=hc.1
 have h2:j<1073741824:=hc.2
 exact floordiv_int (by lia) (by rw[Int.fdiv_eq_ediv_of_nonneg i (by lia)];exact q) (.inl (PyProof.noPylong_small (by lia)))
theorem bS:OpR X (binaryOp .Mod) (rI (fun _ j=>0<j) fun i j=> .int (i % j)):=opI fun i j _ _ _ _ _ hc q=>by
 have h1:(0:Int) <j:=hc
 exact mod_int' (by lia) (by rw[Int.fmod_eq_emod_of_nonneg i (by lia)];exact q)
theorem xj:OpR X (binaryOp .Pow) (rI CPow fun i j=> .int (i ^ j.toNat)):=opI fun _ _ _ _ _ _ _ hc q=>pow_int_small hc.1 hc.2.1 hc.2.2 q
theorem unI {f:Value ->Sem Value}{g:Int ->Int}
   (rule: ∀ (i:Int) (t:Tok) (s:Shared) (Q:Value ->Shared ->Prop) (E:Value ->Shared ->Prop),Q (.int (g i) s.toks) {s with toks:=s.toks+1} ->wpAny (model X.prog X.w) X.A (f (.int i t)) Q E s):
   UnR X f (rU fun i=> .int (g i)):=by
 intro pins s σ H x v Q I rx h
 obtain⟨i,rfl,q⟩:=h
 obtain⟨t,rfl⟩:=rx
 exact rule i t s _ _ ⟨.int (g i),H,I.tok _,⟨_,rfl⟩,q⟩
theorem cL:UnR X (unaryOp .USub) (rU fun i=> .int (-i)):=unI fun _ _ _ _ _ q=>neg_int q
end
def scal:V ->V ->Bool
 | .non, .non=>true | .non, .int _=>true | .int _, .non=>true | .non, .bl _=>true | .bl _, .non=>true | .non, .str _=>true | .str _, .non=>true
 | .int _, .int _=>true | .bl _, .bl _=>true | .str _, .str _=>true | .byt _, .byt _=>true
 | .int _, .str _=>true | .str _, .int _=>true | .bl _, .str _=>true | .str _, .bl _=>true
 | _,_=>false
def rEq:R2:=fun x y H Q=>scal x y=true /\ Q (.bl (decide (x=y))) H
def rNe:R2:=fun x y H Q=>scal x y=true /\ Q (.bl (!decide (x=y))) H
theorem om {i j:Int}:decide (V.int i=V.int j)=(i==j):=by
 rw[Bool.eq_iff_iff]
 simp
theorem sZ {i j:Bool}:decide (V.bl i=V.bl j)=(i==j):=by
 rw[Bool.eq_iff_iff]
 simp
theorem oi {i j:Str}:decide (V.str i=V.str j)=(i==j):=by
 rw[Bool.eq_iff_iff]
 simp
theorem oo {i j:Array UInt8}:decide (V.byt i=V.byt j)=(i.toList==j.toList):=by
 rw[Bool.eq_iff_iff]
 cases i
 cases j
 simp
section
variable {X:Cx}{a b c:Expr}{ta tb tc:TE}{pos:Pos}
theorem aL {pins:List (Addr×Obj)}{σ:St}{H:Hp}{s:Shared}{Q:VK}{k k':Bool}(I:Inv X pins σ H s)(q:Q (.bl k) H)(e:k=k'):EP X pins σ Q (.bool k') s:=by
 subst e
 exact⟨.bl k,H,I,rfl,q⟩
theorem dC:OpR X (compareOp .Eq) rEq:=by
 intro pins s σ H x y v u Q I rx ry h
 obtain⟨hs,q⟩:=h
 cases x with
 | non=>
   cases rx
   cases y with
   | non=>cases ry;exact PySem.EqNone.eq_none_none (aL I q (by simp))
   | bl j=>cases ry;exact PySem.EqNone.eq_none_bool (aL I q (by simp))
   | int j=>obtain⟨t',rfl⟩:=ry;exact PySem.EqNone.eq_none_int (aL I q (by simp))
   | str j=>obtain⟨t',rfl⟩:=ry;exact PySem.EqNone.eq_none_str (aL I q (by simp))
   | _=>exact absurd (show false=true from hs) Bool.false_ne_true
 | bl i=>
   cases rx
   cases y with
   | non=>cases ry;exact PySem.EqNone.eq_bool_none (aL I q (by simp))
   | bl j=>cases ry;exact eq_bool (aL I q sZ)
   | str j=>obtain⟨t',rfl⟩:=ry;exact PySem.EqMixed.eq_bool_str (aL I q (by simp))
   | _=>exact absurd (show false=true from hs) Bool.false_ne_true
 | int i=>
   obtain⟨t,rfl⟩:=rx
   cases y with
   | non=>cases ry;exact PySem.EqNone.eq_int_none (aL I q (by simp))
   | int j=>obtain⟨t',rfl⟩:=ry;exact eq_int (aL I q om)
   | str j=>obtain⟨t',rfl⟩:=ry;exact PySem.EqMixed.eq_int_str (aL I q (by simp))
   | _=>exact absurd (show false=true from hs) Bool.false_ne_true
 | str i=>
   obtain⟨t,rfl⟩:=rx
   cases y with
   | non=>cases ry;exact PySem.EqNone.eq_str_none (aL I q (by simp))
   | bl j=>cases ry;exact PySem.EqMixed.eq_str_bool (aL I q (by simp))
   | int j=>obtain⟨t',rfl⟩:=ry;exact PySem.EqMixed.eq_str_int (aL I q (by simp))
   | str j=>obtain⟨t',rfl⟩:=ry;exact eq_str (aL I q oi)
   | _=>exact absurd (show false=true from hs) Bool.false_ne_true
 | byt i=>
   obtain⟨t,rfl⟩:=rx
   cases y with
   | byt j=>obtain⟨t',rfl⟩:=ry;exact PySem.W.eq_bytes (aL I q oo)
   | _=>exact absurd (show false=true from hs) Bool.false_ne_true
 | _=>cases y<;>exact absurd (show false=true from hs) Bool.false_ne_true
theorem rP:OpR X (compareOp .NotEq) rNe:=by
 intro pins s σ H x y v u Q I rx ry h
 obtain⟨hs,q⟩:=h
 cases x with
 | non=>
   cases rx
   cases y with
   | non=>cases ry;exact PySem.EqNone.ne_none_none (aL I q (by simp))
   | bl j=>cases ry;exact PySem.EqNone.ne_none_bool (aL I q (by simp))
   | int j=>obtain⟨t',rfl⟩:=ry;exact PySem.EqNone.ne_none_int (aL I q (by simp))
   | str j=>obtain⟨t',rfl⟩:=ry;exact PySem.EqNone.ne_none_str (aL I q (by simp))
   | _=>exact absurd (show false=true from hs) Bool.false_ne_true
 | bl i=>
   cases rx
   cases y with
   | non=>cases ry;exact PySem.EqNone.ne_bool_none (aL I q (by simp))
   | bl j=>cases ry;exact ne_bool (aL I q (congrArg not sZ))
   | str j=>obtain⟨t',rfl⟩:=ry;exact PySem.EqMixed.ne_bool_str (aL I q (by simp))
   | _=>exact absurd (show false=true from hs) Bool.false_ne_true
 | int i=>
   obtain⟨t,rfl⟩:=rx
   cases y with
   | non=>cases ry;exact PySem.EqNone.ne_int_none (aL I q (by simp))
   | int j=>obtain⟨t',rfl⟩:=ry;exact ne_int (aL I q (congrArg not om))
   | str j=>obtain⟨t',rfl⟩:=ry;exact PySem.EqMixed.ne_int_str (aL I q (by simp))
   | _=>exact absurd (show false=true from hs) Bool.false_ne_true
 | str i=>
   obtain⟨t,rfl⟩:=rx
   cases y with
   | non=>cases ry;exact PySem.EqNone.ne_str_none (aL I q (by simp))
   | bl j=>cases ry;exact PySem.EqMixed.ne_str_bool (aL I q (by simp))
   | int j=>obtain⟨t',rfl⟩:=ry;exact PySem.EqMixed.ne_str_int (aL I q (by simp))
   | str j=>obtain⟨t',rfl⟩:=ry;exact ne_str (aL I q (congrArg not oi))
   | _=>exact absurd (show false=true from hs) Bool.false_ne_true
 | byt i=>
   obtain⟨t,rfl⟩:=rx
   cases y with
   | byt j=>obtain⟨t',rfl⟩:=ry;exact PySem.W.ne_bytes (aL I q (congrArg not oo))
   | _=>exact absurd (show false=true from hs) Bool.false_ne_true
 | _=>cases y<;>exact absurd (show false=true from hs) Bool.false_ne_true
theorem i5:OpR X (compareOp .Lt) (rI0 fun i j=> .bl (decide (i<j))):=opB0 fun _ _ _ _ _ _ _ q=>lt_int q
theorem gU:OpR X (compareOp .Gt) (rI0 fun i j=> .bl (decide (j<i))):=opB0 fun _ _ _ _ _ _ _ q=>gt_int q
theorem nL:OpR X (compareOp .GtE) (rI0 fun i j=> .bl (decide (j<=i))):=opB0 fun _ _ _ _ _ _ _ q=>ge_int q
theorem aH (b:Expr){op:CmpOp}(h:op≠ .In:=by decide)(h2:op≠ .NotIn:=by decide):behindInMarks op b=false:=by
 have e1:(op==CmpOp.In)=false:=by cases op<;>first | rfl | exact absurd rfl h
 have e2:(op==CmpOp.NotIn)=false:=by cases op<;>first | rfl | exact absurd rfl h2
 cases b<;>simp[behindInMarks,e1,e2]
theorem gx {op:CmpOp}{r:R2}(ho:OpR X (compareOp op) r)(ha:PE X a ta)(hb:PE X b tb)(hm:behindInMarks op b=false):PE X (.Compare a [op] [b] pos) (tOp r ta tb):=by
 intro pins s σ H Q I h
 exact wpAny_Compare1 (binT ha hb I h fun v u s2 x y H2 I2 rx ry q=>ho pins s2 σ H2 x y v u Q I2 rx ry q) hm
def qt (t:TE):TT:=fun σ H Q=>t σ H fun x H'=> ∃k,x= .bl k /\ Q k H'
theorem aE {op:CmpOp}{r:R2}(ho:OpR X (compareOp op) r)(ha:PE X a ta)(hb:PE X b tb)(hm:behindInMarks op b=false):PT X (.Compare a [op] [b] pos) (qt (tOp r ta tb)):=by
 intro pins s σ H Q I h
 refine wpAny_isTrue_Compare1 (thn (ha pins s σ H _ I h) fun v s1 ⟨x,H1,I1,r1,q1⟩=>thn (hb pins s1 σ H1 _ I1 q1) fun u s2 ⟨y,H2,I2,r2,q2⟩=>
   thn (ho pins s2 σ H2 x y v u _ I2 r1 r2 q2) fun c s3 ⟨z,H3,I3,r3,k,e,q3⟩=> ?_) hm
 subst e
 cases r3
 exact wpAny_truthy_bool ⟨H3,I3,q3⟩
def qF (r r':R2)(ta tb tc:TE):TE:=fun σ H Q=>ta σ H fun x H1=>tb σ H1 fun y H2=>r x y H2 fun z H3=> ∃k,z= .bl k /\
 (if k=true then tc σ H3 fun w' H4=>r' y w' H4 Q else Q (.bl false) H3)
theorem rA {op op':CmpOp}{r r':R2}(ho:OpR X (compareOp op) r)(ho':OpR X (compareOp op') r')(ha:PE X a ta)(hb:PE X b tb)(hc:PE X c tc)
   (hm:lastMarks [op,op'] [b,c]=false:=by with_unfolding_all rfl):PT X (.Compare a [op,op'] [b,c] pos) (qt (qF r r' ta tb tc)):=by
 intro pins s σ H Q I h
 refine isTrue_chain (thn (ha pins s σ H _ I h) fun v s1 ⟨x,H1,I1,r1,q1⟩=>test_link (thn (hb pins s1 σ H1 _ I1 q1) fun u s2 ⟨y,H2,I2,r2,q2⟩=>
   thn (ho pins s2 σ H2 x y v u _ I2 r1 r2 q2) fun d s3 ⟨z,H3,I3,r3,k,e,q3⟩=> ?_)) hm
 subst e
 cases r3
 refine wpAny_truthy_bool ?_
 cases k with
 | false=>
   obtain⟨k',e',q'⟩:=q3
   cases e'
   exact ite_ff ⟨H3,I3,q'⟩
 | true=>
   refine ite_tt (test_last (thn (hc pins s3 σ H3 _ I3 q3) fun w' s4 ⟨z',H4,I4,r4,q4⟩=>thn (ho' pins s4 σ H4 y z' u w' _ I4 r2 r4 q4) fun d' s5 ⟨z2,H5,I5,r5,k2,e2,q5⟩=> ?_))
   subst e2
   cases r5
   exact wpAny_truthy_bool ⟨H5,I5,q5⟩
def TruV (K:PySem.W.Frag)(x:V)(H:Hp)(k:Bool):Prop:=
 match x with
 | .non=>k=false
 | .bl b=>k=b
 | .int i=>k=(i !=0)
 | .str y=>y.length<=sizeLine /\ k=((y.length:Int) !=0)
 | .byt y=>y.size<=sizeLine /\ k=((y.size:Int) !=0)
 | .ref p=>(∃xs,SqL K H p xs /\ k= !xs.isEmpty) \/ (∃xs,SqT K H p xs /\ k= !xs.isEmpty) \/ ∃kvs,H p=some (.dK kvs) /\ k= !kvs.isEmpty
 | _=>False
theorem mI {κ:Type}{kvs:List (κ×V)}{vs:List (κ×Value)}(r:KV kvs vs):(!vs.isEmpty)= !kvs.isEmpty:=by
 cases r<;>rfl
theorem ip {xs:List V}{its:List Value}(r:Vals xs its):(!its.toArray.isEmpty)= !xs.isEmpty:=by
 cases r<;>simp
theorem hW:(sizeLine:Nat) <2 ^ 63:=by rw[sizeLine_eq];decide
theorem wF:TruR X (fun x H Q=> ∃k,TruV X.K x H k /\ Q k H):=by
 intro pins s σ H x v Q I rx h
 obtain⟨k,e,q⟩:=h
 have hl:=hW
 have hs:sizeLine=16777216:=sizeLine_eq
 cases x with
 | non=>
   cases rx
   have e':k=false:=e
   subst e'
   exact truthy_none ⟨H,I,q⟩
 | bl b=>
   cases rx
   have e':k=b:=e
   subst e'
   exact wpAny_truthy_bool ⟨H,I,q⟩
 | int i=>
   obtain⟨t,rfl⟩:=rx
   have e':k=(i !=0):=e
   subst e'
   exact PySem.P.truthy_int ⟨H,I,q⟩
 | str y=>
   obtain⟨t,rfl⟩:=rx
   obtain⟨hy,e'⟩:y.length<=sizeLine /\ k=((y.length:Int) !=0):=e
   subst e'
   exact PySem.P.truthy_str (by lia) ⟨H,I.tok _,q⟩
 | byt y=>
   obtain⟨t,rfl⟩:=rx
   obtain⟨hy,e'⟩:y.size<=sizeLine /\ k=((y.size:Int) !=0):=e
   subst e'
   exact PySem.W.truthy_bytes (by lia) ⟨H,I.tok _,q⟩
 | ref p=>
   cases rx
   have e':(∃xs,SqL X.K H p xs /\ k= !xs.isEmpty) \/ (∃xs,SqT X.K H p xs /\ k= !xs.isEmpty) \/ ∃kvs,H p=some (.dK kvs) /\ k= !kvs.isEmpty:=e
   rcases e' with⟨xs,hx,e'⟩ | ⟨xs,hx,e'⟩ | ⟨kvs,hx,e'⟩
   · subst e'
     obtain⟨its,r,pl,hz⟩:=I.list hx
     have hlen:=r.length
     exact wpAny_truthy_list pl.isList (by simp only[List.size_toArray];lia) ⟨H,I.tok _,by rw[ip r];exact q⟩
   · subst e'
     obtain⟨its,r,pl,hz⟩:=I.tuple hx
     have hlen:=r.length
     exact truthy_tuple pl (by simp only[List.size_toArray];lia) ⟨H,I.tok _,by rw[ip r];exact q⟩
   · subst e'
     obtain⟨hz,hS,vs,r,m⟩:kvs.length<=sizeLine /\ (p==sysModules)=false /\ ∃vs,KV kvs vs /\ s.heap.DictOf (aC X.prog X.w) p vs:=I.hok p _ hx
     have hlen:kvs.length=vs.length:=Paired.length r
     exact wpAny_truthy_dict hS m (by lia) ⟨H,I.tok _,by rw[mI r];exact q⟩
 | _=>exact(show False from e).elim
theorem rq (ha:PE X a ta)(he: ∀whole,isTrue a X.env whole=(do let v <- whole;standAt a.pos;holding [v] (truthy v))):
   PT X a (fun σ H Q=>ta σ H fun x H'=> ∃k,TruV X.K x H' k /\ Q k H'):=by
 intro pins s σ H Q I h
 exact isTrue_plain (thn (ha pins s σ H _ I h) fun v s1 ⟨x,H1,I1,r1,q1⟩=>wF pins s1 σ H1 x v Q I1 r1 q1) (he _)
theorem vals1 {x:V}{us:List Value}(r:Vals [x] us): ∃u,us= [u] /\ RelV x u:=by
 cases r with
 | cons r1 r2=>cases r2;exact⟨_,rfl,r1⟩
theorem vals2 {x y:V}{us:List Value}(r:Vals [x,y] us): ∃u w',us= [u,w'] /\ RelV x u /\ RelV y w':=by
 cases r with
 | cons r1 r2=>
   cases r2 with
   | cons r3 r4=>cases r4;exact⟨_,_,rfl,r1,r3⟩
theorem tE:bB X (.builtin "abs") (fun xs H Q=> ∃i,xs= [.int i] /\ Q (.int (if i<0 then -i else i)) H):=by
 intro pins s σ H xs us Q I r h
 obtain⟨i,rfl,q⟩:=h
 obtain⟨u,rfl,t,rfl⟩:=vals1 r
 exact call_abs_int fun u tk=>⟨.int (if i<0 then -i else i),H,I.tok _,⟨_,rfl⟩,q⟩
theorem pH (hc:X.calm=true):bB X (.builtin "max") (fun xs H Q=> ∃i j,xs= [.int i, .int j] /\ Q (.int (if j >i then j else i)) H):=by
 intro pins s σ H xs us Q I r h
 obtain⟨i,j,rfl,q⟩:=h
 obtain⟨u,w',rfl,⟨t,rfl⟩,⟨t',rfl⟩⟩:=vals2 r
 refine max_two_ints (I.ok.hd hc) fun h' tk k=>⟨_,H,I.kept k,?_,q⟩
 by_cases hj:j >i
 · rw[if_pos hj,if_pos hj];exact⟨_,rfl⟩
 · rw[if_neg hj,if_neg hj];exact⟨_,rfl⟩
theorem pI:bB X (.type "int") (fun xs H Q=>(∃i,xs= [.int i] /\ Q (.int i) H) \/ ∃k,xs= [.bl k] /\ Q (.int (if k then 1 else 0)) H):=by
 intro pins s σ H xs us Q I r h
 rcases h with⟨i,rfl,q⟩ | ⟨k,rfl,q⟩
 · obtain⟨u,rfl,t,rfl⟩:=vals1 r
   exact call_int_int ⟨.int i,H,I,⟨_,rfl⟩,q⟩
 · obtain⟨u,rfl,r1⟩:=vals1 r
   cases r1
   exact call_int_bool ⟨.int (if k then 1 else 0),H,I.tok _,⟨_,rfl⟩,q⟩
end
end L2
namespace L2
open PySem PySem.Spec PyProof.Rows
structure ObjM (h:Heap)(x dx C:Addr)(mA:Str ->Option Value):Prop where
 obj:h.get? x=some (PySem.W.instObj C dx)
 ns:h.Ns1 dx mA
 ne:dx≠x
theorem oT {h:Heap}{dx:Addr}{mA:Str ->Option Value}(n:h.Ns1 dx mA): ∃od,h.get? dx=some od /\ ∀name,PySem.W.lookIn name od=some (mA name):=by
 obtain⟨o,es,ep,ho,hd,hk,_,hm⟩:=n
 refine⟨o,ho,fun name=> ?_⟩
 have e:=hm name
 unfold nsFind findBy at e
 rw[<- Array.find?_toList] at e
 unfold PySem.W.lookIn
 rw[hd]
 dsimp only
 split
 · rename_i y q
   rw[q] at e
   exact congrArg some e
 · rename_i q
   rw[q] at e
   have a:es.toList.any (·.refKey)=false:=by
     rw[List.any_eq_false]
     intro y hy
     obtain⟨z,t,hkey⟩:=hk y (Array.mem_toList_iff.mp hy)
     simp[DictEntry.refKey,hkey]
   have a':¬es.toList.any (·.refKey)=true:=by rw[a];exact Bool.false_ne_true
   rw[if_neg a']
   exact congrArg some e
theorem ObjM.look {h:Heap}{x dx C:Addr}{mA:Str ->Option Value}(I:ObjM h x dx C mA): ∃od,PySem.W.InstAt h x (PySem.W.instObj C dx) C (some od) /\ ∀name,PySem.W.lookIn name od=some (mA name):=
 let ⟨od,ho,hl⟩:=oT I.ns
 ⟨od,⟨I.obj,rfl,rfl,ho⟩,hl⟩
section
variable {prog:Program}{w:World}{A:Around}{E:Value ->Shared ->Prop}{s:Shared}{K:PySem.W.Frag}{x dx C f:Addr}{mA:Str ->Option Value}{name:Str}{v:Value}
theorem get_map {expr:Bool}{Q:Value ->Shared ->Prop}(X:K.In s.heap)(I:ObjM s.heap x dx C mA)(hg:PySem.W.plainGet K C name=true)(hh:PySem.W.hasDictIn K C=true)
   (ha:PySem.W.findIn K (.ref C) name=some none) (hv:mA name=some v) (hv':PySem.W.handedIn v=true) (h:Q v {s with toks:=s.toks+1}):
   wpAny (model prog w) A (getAttr (.ref x) name expr) Q E s:=by
 obtain⟨od,J,hl⟩:=I.look
 exact PySem.W.get_value X J (PySem.W.plainGet_of hg).1 (PySem.W.findObj_own hh ha rfl (by rw[hl,hv])) hv' h
theorem uu {ns:List Str}{Q:Unit ->Shared ->Prop}(X:K.In s.heap)(I:ObjM s.heap x dx C mA)
   (hs:PySem.W.findIn K (.ref C) "__setattr__" =some (some (.builtin "object.__setattr__"))) (hp:PySem.W.plainOver K C=true) (ht:PySem.W.takerIn K C name=some none) (hh:PySem.W.hasDictIn K C=true)
   (hw:PySem.Within mA ns) (hsz:ns.length<=sizeLine)
   (h: ∀h',ObjM h' x dx C (fun y=>if y=name then some v else mA y) ->Heap.SameBut dx s.heap h' ->Q () {s with heap:=h',toks:=s.toks+2}):
   wpAny (model prog w) A (setAttr (.ref x) name v) Q E s:=by
 obtain⟨od,J,hl⟩:=I.look
 refine PySem.W.set_plain X J hs (PySem.W.osa_open (s:= {s with toks:=s.toks+1}) (r:=none) X J hp ht fun b=> ?_)
 obtain⟨cd,hc,hd'⟩:=PySem.W.any_some hh
 have hx:s.heap.get? x=some ⟨.ref C,some dx, .plain, #[]⟩:=I.obj
 refine wpAny_bind (wpAny_pure (wpAny_bind (wpAny_bind (wpAny_loadPart hx (wpAny_bind (PySem.W.Looks.here (s:= {s with toks:=s.toks+1}) (PySem.W.looks_clsIn X hc) ?_))))))
 rw[hd']
 refine wpAny_pure (a:=some dx) (wpAny_bind (wpAny_pure (wpAny_bind ?_)))
 refine wpAny_nsSet1 (s:= {s with toks:=s.toks+1}) I.ns fun h' hn2 hs2=> ?_
 obtain⟨oD,esD,epD,hoD,hdD,hcD⟩:=hn2.count (PySem.Within.cons name v hw)
 refine wpAny_bind (wpAny_lookBehind hoD (by rw[hdD];exact pastItsLine_dict (Nat.le_trans hcD (by rw[List.length_cons];lia))) ?_)
 exact wpAny_pure (h _ ⟨(hs2.2 _ (Ne.symm I.ne)).trans I.obj,hn2,I.ne⟩ hs2)
theorem sf {R:Result ->Shared ->Prop}{vs:List Value}{kw:List (Str×Value)}(X:K.In s.heap)(hm:PySem.W.makesIn K C=true)
   (hi:PySem.W.findIn K (.ref C) "__init__" =some (some (.ref f))) (hf:PySem.W.typeIn K (.ref f)=some (.type "function"))
   (h:codeAny (model prog w) (A.under (.builtin "type.__call__" ⟨.ref C::vs,kw⟩)) (.call (.ref f) ⟨.ref (s.heap.objs.size+1)::vs,kw⟩) (PySem.W.InitBack (s.heap.objs.size+1) R)
     {s with heap:=(s.heap.push PySem.W.emptyDict).push (PySem.W.instObj C s.heap.objs.size)}):
   codeAny (model prog w) A (.call (.ref C) ⟨vs,kw⟩) R s:=by
 obtain⟨hh,g,d,t,os⟩:=s
 exact PySem.W.make_core (PySem.W.makes_of X hm) (PySem.W.looks_findIn X hi) (fun self=>PySem.W.bind_fn X self hf) (.inl rfl) h
end
def cV (f:Str)(v:V):List (Str×V) ->List (Str×V)
 | []=> [(f,v)]
 | (g,x)::r=>if g=f then(g,v)::r else(g,x)::cV f v r
theorem gd (f g:Str)(v:V): ∀fs:List (Str×V),(cV f v fs).lookup g=if g=f then some v else fs.lookup g
 | []=>by
   show List.lookup g [(f,v)]=_
   by_cases h:g=f
   · have hb:(g==f)=true:=beq_iff_eq.mpr h
     simp only[List.lookup,hb,if_pos h]
   · have hb:(g==f)=false:=beq_eq_false_iff_ne.mpr h
     simp only[List.lookup,hb,if_neg h]
 | (k, x)::r=>by
   have ih:=gd f g v r
   rw[show cV f v ((k,x)::r)=(if k=f then(k,v)::r else(k,x)::cV f v r) from rfl]
   by_cases hk:k=f
   · rw[if_pos hk]
     by_cases h:g=k
     · have hb:(g==k)=true:=beq_iff_eq.mpr h
       simp only[List.lookup,hb,if_pos (h.trans hk)]
     · have hb:(g==k)=false:=beq_eq_false_iff_ne.mpr h
       simp only[List.lookup,hb,if_neg (fun e:g=f=>h (e.trans hk.symm))]
   · rw[if_neg hk]
     by_cases h:g=k
     · have hb:(g==k)=true:=beq_iff_eq.mpr h
       simp only[List.lookup,hb,if_neg (fun e:g=f=>hk (h.symm.trans e))]
     · have hb:(g==k)=false:=beq_eq_false_iff_ne.mpr h
       simp only[List.lookup,hb]
       exact ih
theorem fT (f:Str)(v:V): ∀fs:List (Str×V),f∈(cV f v fs).map (·.1) /\ ∀g,g∈fs.map (·.1) ->g∈(cV f v fs).map (·.1)
 | []=>⟨by simp[cV],fun g h=>by simp at h⟩
 | (k, x)::r=>by
   obtain⟨i1,i2⟩:=fT f v r
   rw[show cV f v ((k,x)::r)=(if k=f then(k,v)::r else(k,x)::cV f v r) from rfl]
   by_cases hk:k=f
   · rw[if_pos hk]
     subst hk
     exact⟨by simp,fun g h=>by simpa using h⟩
   · rw[if_neg hk]
     refine⟨?_,fun g h=> ?_⟩
     · rw[List.map_cons]
       exact List.mem_cons_of_mem _ i1
     · rw[List.map_cons] at h ⊢
       rcases List.mem_cons.mp h with e | e
       · exact List.mem_cons.mpr (.inl e)
       · exact List.mem_cons_of_mem _ (i2 g e)
theorem gf (f:Str)(v:V): ∀fs:List (Str×V),(cV f v fs).length<=fs.length+1
 | []=>by simp[cV]
 | (k,x)::r=>by
   have ih:=gf f v r
   rw[show cV f v ((k,x)::r)=(if k=f then(k,v)::r else(k,x)::cV f v r) from rfl]
   by_cases hk:k=f
   · rw[if_pos hk,List.length_cons,List.length_cons];lia
   · rw[if_neg hk,List.length_cons,List.length_cons];lia
theorem eU.some_of {v:V}{o:Option Value}(r:eU (some v) o): ∃u,o=some u /\ RelV v u:=by
 cases o with
 | none=>exact(show False from r).elim
 | some u=>exact⟨u,rfl,r⟩
theorem pk {v:V}{u:Value}(r:RelV v u):PySem.W.handedIn u=true:=by
 cases v with
 | non=>cases (show u=Value.none from r);rfl
 | bl b=>cases (show u=Value.bool b from r);rfl
 | int i=>obtain⟨t,e⟩:=(show ∃t,u=Value.int i t from r);cases e;rfl
 | str x=>obtain⟨t,e⟩:=(show ∃t,u=Value.str x t from r);cases e;rfl
 | byt b=>obtain⟨t,e⟩:=(show ∃t,u=Value.bytes b t from r);cases e;rfl
 | flt b=>obtain⟨t,e⟩:=(show ∃t,u=Value.float b t from r);cases e;rfl
 | ref a=>cases (show u=Value.ref a from r);rfl
 | ty n=>cases (show u=Value.type n from r);rfl
section
variable {P:Program}{w:World}{H H':Hp}{h h':Heap}{a C dx:Addr}{fs fs':List (Str×V)}
theorem jY (hok:HOk P w H h)(e:H a=some (.ins C dx fs)): ∃mA,ObjM h a dx C mA /\ (∀f,eU (fs.lookup f) (mA f)) /\ PySem.Within mA (fs.map (·.1)) /\ fs.length<=1000 /\ H dx=some (.own a):=by
 obtain⟨d,z,ne,ob,mA,n,r,q⟩:=(show aW P w H h a (.ins C dx fs) from hok a _ e)
 exact⟨mA,⟨ob,n,ne⟩,r,q,z,d⟩
end
structure Cls (K:PySem.W.Frag)(C:Addr):Prop where
 pg:PySem.W.plainGet K C Str.empty=true
 hd:PySem.W.hasDictIn K C=true
 po:PySem.W.plainOver K C=true
 sa:PySem.W.findIn K (.ref C) "__setattr__" =some (some (.builtin "object.__setattr__"))
theorem Cls.get {K:PySem.W.Frag}{C:Addr}(c:Cls K C)(f:Str):PySem.W.plainGet K C f=true:=c.pg
def a8 (K:PySem.W.Frag)(C:Addr)(f:Str):Prop:=PySem.W.findIn K (.ref C) f=some none
theorem a8.taker {K:PySem.W.Frag}{C:Addr}{f:Str}(n:a8 K C f):PySem.W.takerIn K C f=some none:=by
 unfold PySem.W.takerIn
 rw[show PySem.W.findIn K (.ref C) f=some none from n]
 rfl
section
variable {X:Cx}{pins:List (Addr×Obj)}{σ:St}{H:Hp}{s:Shared}{a C dx:Addr}{fs:List (Str×V)}{f:Str}{v:V}{A:Around}{E:Value ->Shared ->Prop}
theorem mJ {b:Bool}{Q:Value ->Shared ->Prop}(I:Inv X pins σ H s)(e:H a=some (.ins C dx fs))(c:Cls X.K C)(n:a8 X.K C f)(l:fs.lookup f=some v)
   (h: ∀u s',Inv X pins σ H s' ->RelV v u ->Q u s'):wpAny (model X.prog X.w) A (getAttr (.ref a) f b) Q E s:=by
 obtain⟨mA,O,r,_,_,_⟩:=jY I.hok e
 obtain⟨u,hu,ru⟩:=eU.some_of (v:=v) (o:=mA f) (by rw[<- l];exact r f)
 exact get_map I.kIn O (c.get f) c.hd n hu (pk ru) (h u _ (I.tok _) ru)
theorem lU {y:V}{u:Value}{Q:Unit ->Shared ->Prop}(I:Inv X pins σ H s)(e:H a=some (.ins C dx fs))(c:Cls X.K C)(n:a8 X.K C f)(hl:fs.length<1000)(ry:RelV y u)
   (h: ∀s',Inv X pins σ (upd H a (.ins C dx (cV f y fs))) s' ->Q () s'):wpAny (model X.prog X.w) A (setAttr (.ref a) f u) Q E s:=by
 obtain⟨mA,O,r,wi,_,ho⟩:=jY I.hok e
 have hz:(fs.map (·.1)).length<=sizeLine:=by rw[List.length_map,sizeLine_eq];lia
 refine uu I.kIn O c.sa c.po n.taker c.hd wi hz fun h' O' sb=>h _ ?_
 have hd: ∃o,h'.get? dx=some o:=let ⟨o,_,_,e',_⟩:=O'.ns;⟨o,e'⟩
 refine I.write (x:=a) (e:=dx) (by rw[e];exact True.intro) (.inr ho) (fun b q hb z=>(sb.2 b hb).trans z) hd ?_
 refine⟨by rw[ar O.ne];exact ho,?_,O.ne,O'.obj,_,O'.ns,fun g=> ?_,fun g hg=> ?_⟩
 · have:=gf f y fs;lia
 · show eU ((cV f y fs).lookup g) (if g=f then some u else mA g)
   rw[gd]
   by_cases q:g=f
   · rw[if_pos q,if_pos q];exact ry
   · rw[if_neg q,if_neg q];exact r g
 · by_cases q:g=f
   · rw[q];exact(fT f y fs).1
   · refine(fT f y fs).2 g (wi g fun z=>hg ?_)
     show(if g=f then some u else mA g)=none
     rw[if_neg q];exact z
theorem Inv.made (I:Inv X pins σ H s):Inv X pins σ (upd (upd H s.heap.objs.size (.own (s.heap.objs.size+1))) (s.heap.objs.size+1) (.ins C s.heap.objs.size []))
   {s with heap:=(s.heap.push PySem.W.emptyDict).push (PySem.W.instObj C s.heap.objs.size)}:=by
 have e1:(s.heap.push PySem.W.emptyDict).get? s.heap.objs.size=some PySem.W.emptyDict:=Heap.get?_push_size s.heap rfl
 have e2:((s.heap.push PySem.W.emptyDict).push (PySem.W.instObj C s.heap.objs.size)).get? (s.heap.objs.size+1)=some (PySem.W.instObj C s.heap.objs.size):=by
   have:=Heap.get?_push_size (s.heap.push PySem.W.emptyDict) (o:=PySem.W.instObj C s.heap.objs.size) rfl
   rwa [Heap.size_push] at this
 have e3:(s.heap.push PySem.W.emptyDict).Ns s.heap.objs.size (fun _=>none):=⟨PySem.W.emptyDict, #[],_,e1,rfl,(fun e he=>absurd he (by simp)),fun _=>rfl⟩
 have I1:=I.laid (a:=s.heap.objs.size) (o:= .own (s.heap.objs.size+1)) (h':=s.heap.push PySem.W.emptyDict) (t':=s.toks) (fun b u q=>Heap.get?_push_of_some _ q) (Nat.le_refl _) ⟨_,e1⟩
 refine I1.laid (a:=s.heap.objs.size+1) (o:= .ins C s.heap.objs.size []) (t':=s.toks) (fun b u q=>Heap.get?_push_of_some _ q) (Nat.le_of_eq (Heap.size_push _ _)) ?_
 have ne:s.heap.objs.size≠s.heap.objs.size+1:=Nat.ne_of_lt (Nat.lt_succ_self _)
 refine⟨by rw[ar ne,aw],Nat.zero_le _,ne,e2,fun _=>none,(Heap.Ns1.of_empty e3).at fun o q=>Heap.get?_push_of_some _ q,fun _=>True.intro,fun y hy=>absurd rfl hy⟩
theorem u5 {prog:Program}{w:World}{env:Env}{e:Expr}{f:Str}{pos:Pos}{s:Shared}{Q:Value ->Shared ->Prop}(hb:attributeBase e f env (eval e env)=eval e env)
   (h:wpAny (model prog w) A (eval e env) (fun o s₁=>wpAny (model prog w) A (getAttr o f true) Q E s₁) E s):wpAny (model prog w) A (eval (.Attribute e f pos) env) Q E s:=
 Attribute_any_ h (by rw[arm_eval_Attribute,hb])
end
def tFld (K:PySem.W.Frag)(ta:TE)(f:Str):TE:=fun σ H Q=>ta σ H fun x H1=> ∃a C dx fs v,x= .ref a /\ H1 a=some (.ins C dx fs) /\ Cls K C /\ a8 K C f /\ fs.lookup f=some v /\ Q v H1
def sFld (K:PySem.W.Frag)(ta tv:TE)(f:Str):TS:=fun D σ H=>tv σ H fun y H1=>ta σ H1 fun x H2=> ∃a C dx fs,x= .ref a /\ H2 a=some (.ins C dx fs) /\ Cls K C /\ a8 K C f /\ fs.length<1000 /\
 D.nx σ (upd H2 a (.ins C dx (cV f y fs)))
section
variable {X:Cx}{o e value:Expr}{f:Str}{pos pos' tpos:Pos}{ta tv:TE}
theorem a9 (he:PE X e ta)(hb:attributeBase e f X.env (eval e X.env)=eval e X.env):PE X (.Attribute e f pos) (tFld X.K ta f):=by
 intro pins s σ H Q I h
 refine u5 hb (thn (he pins s σ H _ I h) fun u s1 ⟨x,H1,I1,rx,a,C,dx,fs,v,ex,ea,c,n,l,q⟩=> ?_)
 subst ex
 obtain rfl:u=Value.ref a:=rx
 exact mJ I1 ea c n l fun u' s2 I2 ru=>⟨v,H1,I2,ru,q⟩
theorem eE (ha:PE X o ta)(hv:PE X value tv)(hs:swapsWith value (some (.Attribute o f pos')) pos.line X.env=pure false):PS X (.Assign [.Attribute o f pos'] value pos) (sFld X.K ta tv f):=by
 intro pins s σ H D I h
 refine plainObj_wpAny_Assign_Attribute (thn (hv pins s σ H _ I h) fun u s1 ⟨y,H1,I1,ry,q⟩=>thn (ha pins s1 σ H1 _ I1 q) fun ov s2 ⟨x,H2,I2,rx,a,C,dx,fs,ex,ea,c,n,l,q2⟩=> ?_) hs
 subst ex
 obtain rfl:ov=Value.ref a:=rx
 exact lU I2 ea c n l ry fun s3 I3=>⟨σ,_,I3,q2⟩
end
section
variable {X:Cx}{pins:List (Addr×Obj)}{σ:St}{H:Hp}{s:Shared}{A:Around}{E:Value ->Shared ->Prop}{Q:Value ->Shared ->Prop}{c:Value}{b:Bool}
inductive TyOf (K:PySem.W.Frag)(H:Hp):V ->Value ->Prop where
 | non:TyOf K H .non (.type "NoneType")
 | bl (x:Bool):TyOf K H (.bl x) (.type "bool")
 | int (i:Int):TyOf K H (.int i) (.type "int")
 | str (x:Str):TyOf K H (.str x) (.type "str")
 | flt (x:UInt64):TyOf K H (.flt x) (.type "float")
 | lst {a:Addr} {xs:List V} (e:H a=some (.lst xs)):TyOf K H (.ref a) (.type "list")
 | frz {a:Addr} {o:Obj} {xs:List V} (e:H a=some (.frz o (.lst xs))):TyOf K H (.ref a) (.type "list")
 | tup {a:Addr} {xs:List V} (e:H a=some (.tup xs)):TyOf K H (.ref a) (.type "tuple")
 | dK {a:Addr} {kvs:List (Key×V)} (e:H a=some (.dK kvs)):TyOf K H (.ref a) (.type "dict")
 | dT {a:Addr} {kvs:List (List Key×V)} (e:H a=some (.dT kvs)):TyOf K H (.ref a) (.type "dict")
 | ins {a C dx:Addr} {fs:List (Str×V)} (e:H a=some (.ins C dx fs)) (cl:Cls K C) (ha:PySem.W.findIn K (.ref C) "__class__" =some (some (.builtin "object.__class__")))
     (hn:PySem.W.specialIn K (.builtin "object.__class__") "__get__" =some (some (.builtin "getset_descriptor.__get__"))) (htk:PySem.W.takesIn K (.builtin "object.__class__")=some true)
     (hm:PySem.W.mroIn K C (.type "object")=some true):TyOf K H (.ref a) (.ref C)
theorem o9 {x:V}{u t:Value}(I:Inv X pins σ H s)(rx:RelV x u)(ty:TyOf X.K H x t)(e:PySem.W.kitOne X.K t c=some b)(h: ∀tk,Q (.bool b) {s with toks:=tk}):
   wpAny (model X.prog X.w) A (call (.builtin "isinstance") [u,c]) Q E s:=by
 cases ty with
 | non=>cases (show u=Value.none from rx);exact PySem.W.kia_one PySem.W.kitx_none I.kIn True.intro e (fun z=>nomatch z) h
 | bl y=>cases (show u=Value.bool y from rx);exact PySem.W.kia_one PySem.W.kitx_bool I.kIn True.intro e (fun z=>nomatch z) h
 | int i=>obtain⟨t,q⟩:=(show ∃t,u=Value.int i t from rx);cases q;exact PySem.W.kia_one PySem.W.kitx_int I.kIn True.intro e (fun z=>nomatch z) h
 | str y=>obtain⟨t,q⟩:=(show ∃t,u=Value.str y t from rx);cases q;exact PySem.W.kia_one PySem.W.kitx_str I.kIn True.intro e (fun z=>nomatch z) h
 | flt y=>obtain⟨t,q⟩:=(show ∃t,u=Value.float y t from rx);cases q;exact PySem.W.kia_one PySem.W.kitx_float I.kIn True.intro e (fun z=>nomatch z) h
 | @lst a xs ea=>
   cases (show u=Value.ref a from rx)
   obtain⟨_,_,n,_,h1⟩:=(show aW X.prog X.w H s.heap a (.lst xs) from I.hok a _ ea)
   exact PySem.W.kia_one PySem.W.kitx_list I.kIn ⟨_,h1,rfl⟩ e (fun z=>nomatch z) h
 | @frz a ob xs ea=>
   cases (show u=Value.ref a from rx)
   obtain⟨_,_,_,n,_,h1⟩:=(show aW X.prog X.w H s.heap a (.frz ob (.lst xs)) from I.hok a _ ea)
   exact PySem.W.kia_one PySem.W.kitx_list I.kIn ⟨_,h1,rfl⟩ e (fun z=>nomatch z) h
 | @tup a xs ea=>
   cases (show u=Value.ref a from rx)
   obtain⟨_,_,_,p⟩:=(show aW X.prog X.w H s.heap a (.tup xs) from I.hok a _ ea)
   obtain⟨o,h1,h2,_⟩:=p
   exact PySem.W.kia_one PySem.W.kitx_tuple I.kIn ⟨o,h1,h2⟩ e (fun z=>nomatch z) h
 | @dK a kvs ea=>
   cases (show u=Value.ref a from rx)
   obtain⟨_,_,vs,_,p⟩:=(show aW X.prog X.w H s.heap a (.dK kvs) from I.hok a _ ea)
   obtain⟨o,es,ep,h1,h2,_⟩:=p
   exact PySem.W.kia_one PySem.W.kitx_dict I.kIn ⟨o,h1,h2.1⟩ e (fun z=>nomatch z) h
 | @dT a kvs ea=>
   cases (show u=Value.ref a from rx)
   obtain⟨_,_,xs,_,o,es,ep,h1,h2,_⟩:=(show aW X.prog X.w H s.heap a (.dT kvs) from I.hok a _ ea)
   exact PySem.W.kia_one PySem.W.kitx_dict I.kIn ⟨o,h1,h2.1⟩ e (fun z=>nomatch z) h
 | @ins a C dx fs ea cl ha hn htk hm=>
   cases (show u=Value.ref a from rx)
   obtain⟨mA,O,_⟩:=jY I.hok ea
   obtain⟨od,J,_⟩:=O.look
   exact PySem.W.kia_one (PySem.W.kitx_own (cl.get _) cl.hd ha hn htk hm) I.kIn J e (fun z=>nomatch z) h
end
end L2
namespace L2
open PySem PySem.Spec PyProof.Rows
structure Room (k:Nat)(A:Around):Prop where
 hd:A.handled=none
 dp:A.depth+3*k+5<recursionLimit
 un:A.units+16*k+200<cLine
theorem Room.mono {j k:Nat}{A:Around}(r:Room k A)(h:j<=k):Room j A:=⟨r.hd,by have:=r.dp;lia,by have:=r.un;lia⟩
theorem Room.deeper {k:Nat}{A:Around}(r:Room (k+1) A)(env:Env):Room k (A.deeper env):=
 ⟨r.hd,by have:=r.dp;show A.depth+1+3*k+5<_;lia,by have:=r.un;show A.units+3+16*k+200<_;lia⟩
theorem ml {A:Around}{C:Addr}{us:List Value}{kw:List (Str×Value)}:(A.under (.builtin "type.__call__" ⟨.ref C::us,kw⟩)).depth=A.depth+1:=by
 first | rfl | simp[Around.under,Code.weight,Code.isCreation,Code.isGuard,Code.isCaller,Code.frames,Code.isFrame,guardIds]
theorem mj {A:Around}{C:Addr}{us:List Value}{kw:List (Str×Value)}:(A.under (.builtin "type.__call__" ⟨.ref C::us,kw⟩)).units=A.units+1:=by
 first | rfl | simp[Around.under,Code.cUnits,Code.frames,Code.isFrame]
theorem Room.make {k:Nat}{A:Around}(r:Room (k+1) A)(C:Addr)(us:List Value)(kw:List (Str×Value)):Room k (A.under (.builtin "type.__call__" ⟨.ref C::us,kw⟩)):=
 ⟨r.hd,by have:=r.dp;rw[ml];lia,by have:=r.un;rw[mj];lia⟩
theorem Room.depth {k:Nat}{A:Around}(r:Room k A):A.depth<recursionLimit:=by have:=r.dp;lia
theorem Room.units {k:Nat}{A:Around}(r:Room k A):A.units+64<cLine:=by have:=r.un;lia
def tNil:TA:=fun _ H Q=>Q [] H
def qC (ta:TE)(tr:TA):TA:=fun σ H Q=>ta σ H fun x H1=>tr σ H1 fun xs H2=>Q (x::xs) H2
section
variable {X:Cx}{e:Expr}{es:List Expr}{te:TE}{t:TA}{pos:Pos}
theorem ae:PA X [] tNil:=fun _ _ _ _ H Q I h=>Calls.spliced_nil ⟨[],H,I, .nil,h⟩
theorem aa (ha:PE X e te)(hr:PA X es t)(hs:starEach (e::es) X.env=(false,eval e X.env)::starEach es X.env:=by rfl):PA X (e::es) (qC te t):=by
 intro pos pins s σ H Q I h
 rw[hs]
 show wpAny _ _ (spliced ((false,eval e X.env)::backTo pos (starEach es X.env))) _ _ s
 refine Calls.spliced_cons (thn (ha pins s σ H _ I h) fun u s1 ⟨x,H1,I1,r1,q1⟩=> ?_)
 exact thn (hr pos pins s1 σ H1 _ I1 q1) fun us s2 ⟨xs,H2,I2,r2,q2⟩=>⟨x::xs,H2,I2, .cons r1 r2,q2⟩
def tTup (t:TA):TE:=fun σ H Q=>t σ H fun xs H1=>xs.length<=sizeLine /\ ∀p,H1 p=none ->Q (.ref p) (upd H1 p (.tup xs))
def tLst (t:TA):TE:=fun σ H Q=>t σ H fun xs H1=>xs.length<=sizeLine /\ ∀p,H1 p=none ->Q (.ref p) (upd H1 p (.lst xs))
theorem bZ {x1}(h:PA X es t):PE X (.Tuple es x1 pos) (tTup t):=by
 intro pins s σ H Q I hq
 refine wpAny_Tuple_spliced (thn (h pos pins s σ H _ I hq) fun us s1 ⟨xs,H1,I1,r,z,q⟩=>⟨by rw[<- r.length];exact z,?_⟩)
 have hf:H1 s1.heap.objs.size=none:=I1.hok.fresh (Nat.le_refl _)
 refine⟨.ref s1.heap.objs.size,upd H1 s1.heap.objs.size (.tup xs),I1.laid (t':=s1.toks) (fun b u e=>Heap.get?_push_of_some _ e) (Nat.le_refl _) ?_,rfl,q _ hf⟩
 exact⟨z,us,r,⟨_,Heap.get?_push_size _ rfl,rfl,_,rfl,rfl⟩⟩
theorem jM (h:PA X es t):PE X (.List es pos) (tLst t):=by
 intro pins s σ H Q I hq
 refine wpAny_List_spliced (thn (h pos pins s σ H _ I hq) fun us s1 ⟨xs,H1,I1,r,z,q⟩=>⟨by rw[<- r.length];exact z,?_⟩)
 have hf:H1 s1.heap.objs.size=none:=I1.hok.fresh (Nat.le_refl _)
 refine⟨.ref s1.heap.objs.size,upd H1 s1.heap.objs.size (.lst xs),I1.laid (t':=s1.toks) (fun b u e=>Heap.get?_push_of_some _ e) (Nat.le_refl _) ?_,rfl,q _ hf⟩
 exact⟨z,us,0,r,Heap.get?_push_size _ rfl⟩
end
abbrev Sp:=List V ->Hp ->VK ->XK ->Prop
abbrev CXT:=List Env ->Hp ->Shared ->XK ->Value ->Shared ->Prop
structure Env0 (P:Program)(w:World)(K:PySem.W.Frag)(mg:Str ->Option Value)(base:Heap)(A:Around)(outer:List Env)(s:Shared)(H:Hp):Prop where
 frames:A.frames=some outer
 mod:Mod K mg base
 bs: ∀b o,base.get? b=some o ->s.heap.get? b=some o /\ H b=none
 bsz:base.objs.size<=s.heap.objs.size
 funs:s.heap.FunFrames base outer
 frf: ∀b∈frs outer,H b=none
 hok:HOk P w H s.heap
 bare:AllBare s.gens
def CE (outer:List Env)(P:Program)(w:World)(H:Hp)(s:Shared)(Q:VK)(u:Value)(s':Shared):Prop:=
 ∃v H',s'.os=s.os /\ AllBare s'.gens /\ Un (frs outer) [] H H' s.heap s'.heap /\ HOk P w H' s'.heap /\ RelV v u /\ Q v H'
def CR (CX:CXT)(outer:List Env)(P:Program)(w:World)(H:Hp)(s:Shared)(Q:VK)(E:XK)(r:Result)(s':Shared):Prop:=
 match r with
 | .ok (.ret u)=>CE outer P w H s Q u s'
 | .ok _=>False
 | .error e=>CX outer H s E e s'
structure FnOk (P:Program)(w:World)(K:PySem.W.Frag)(mg:Str ->Option Value)(base:Heap)(CX:CXT)(k:Nat)(f:Addr)(fd:FuncData)(ps:List Str)(sp:Sp):Prop where
 len: ∀vs H Q E,sp vs H Q E ->vs.length=ps.length
 run: ∀ (A:Around) (outer:List Env) (s:Shared) (H:Hp) (args:Args) (us:List Value) (vs:List V) (Q:VK) (E:XK),Room k A ->Env0 P w K mg base A outer s H ->BindsTo s fd args (ps.zip us) ->Vals vs us ->sp vs H Q E ->
   codeAny (model P w) A (.call (.ref f) args) (CR CX outer P w H s Q E) s
theorem FnOk.imp {P:Program}{w:World}{K:PySem.W.Frag}{mg:Str ->Option Value}{base:Heap}{CX:CXT}{k:Nat}{f:Addr}{fd:FuncData}{ps:List Str}{sp sp':Sp}(F:FnOk P w K mg base CX k f fd ps sp)
   (h: ∀vs H Q E,sp' vs H Q E ->sp vs H Q E):FnOk P w K mg base CX k f fd ps sp':=
 ⟨fun vs H Q E q=>F.len vs H Q E (h _ _ _ _ q),fun A outer s H args us vs Q E hr he hb hv hs=>F.run A outer s H args us vs Q E hr he hb hv (h _ _ _ _ hs)⟩
theorem Env0.make {P:Program}{w:World}{K:PySem.W.Frag}{mg:Str ->Option Value}{base:Heap}{A:Around}{outer:List Env}{s:Shared}{H:Hp}(e:Env0 P w K mg base A outer s H)(C:Addr)(us:List Value)(kw:List (Str×Value)):
   Env0 P w K mg base (A.under (.builtin "type.__call__" ⟨.ref C::us,kw⟩)) outer s H:=⟨by first | exact e.frames | (simpa [Around.under,Code.envs,Code.isFrame,pushEnvs] using e.frames),e.mod,e.bs,e.bsz,e.funs,e.frf,e.hok,e.bare⟩
section
variable {X:Cx}{pins:List (Addr×Obj)}{σ:St}{H:Hp}{s s':Shared}
theorem Inv.env0 (I:Inv X pins σ H s):Env0 X.prog X.w X.K X.mg X.base X.A X.stack s H:=
 ⟨I.ok.frames,I.ok.mod,I.bs,Nat.le_trans I.ok.bsz I.sz,I.stack,I.stkFree,I.hok,I.bare⟩
theorem Inv.after {Q:VK}{u:Value}(I:Inv X pins σ H s)(h:CE X.stack X.prog X.w H s Q u s'):EP X pins σ Q u s':=by
 obtain⟨v,H',os,bare,un,hok,r,q⟩:=h
 obtain⟨hh,g,d,t,os'⟩:=s'
 obtain rfl:os'=s.os:=os
 exact⟨v,H',I.call (h':=hh) (g':=g) (d':=d) (t':=t) (ch:= []) un hok bare (fun b z=>absurd z (by simp)),r,q⟩
end
def nj (sp:Sp)(dvs:List V)(E:XK)(t:TA):TE:=fun σ H Q=>t σ H fun vs H1=>sp (vs++dvs) H1 Q E
def qu (C:Addr)(sp:Sp)(dvs:List V)(E:XK)(t:TA):TE:=fun σ H Q=>t σ H fun vs H1=> ∀x dx,H1 x=none ->H1 dx=none ->dx≠x ->
 sp (.ref x::(vs++dvs)) (upd (upd H1 dx (.own x)) x (.ins C dx [])) (fun v H2=>v= .non /\ Q (.ref x) H2) E
def Binds (K:PySem.W.Frag)(fd:FuncData)(ps:List Str)(ds:List Value):Prop:=
 ∀ (s:Shared) (us:List Value),K.In s.heap ->(us++ds).length=ps.length ->BindsTo s fd ⟨us,[]⟩ (ps.zip (us++ds))
theorem Binds.all {K:PySem.W.Frag}{fd:FuncData}{ps:List Str}(h: ∀us:List Value,us.length=ps.length ->bindArgs fd ⟨us,[]⟩=pure (ps.zip us)):Binds K fd ps []:=fun s us _ hl=>by
 rw[List.append_nil] at hl ⊢
 exact .of_eq (h us hl)
def Passes (CX:CXT)(X:Cx)(E:XK):Prop:= ∀ (pins:List (Addr×Obj)) (σ:St) (H:Hp) (s:Shared) (e:Value) (s':Shared),Inv X pins σ H s ->CX X.stack H s E e s' ->X.xe e s'
section
variable {X:Cx}{CX:CXT}{k:Nat}{f C:Addr}{fd:FuncData}{ps:List Str}{sp:Sp}{dvs:List V}{ds:List Value}{E:XK}{x m:Str}{p pos apos:Pos}{e o:Expr}{es:List Expr}{ta:TE}{t:TA}
theorem wO {pins:List (Addr×Obj)}{σ:St}{H:Hp}{s:Shared}{Q:VK}{us:List Value}{vs:List V}(F:FnOk X.prog X.w X.K X.mg X.base CX k f fd ps sp)(hr:Room k X.A)(hb:Binds X.K fd ps ds)(hd:Vals dvs ds)(hx:Passes CX X E)
   (I:Inv X pins σ H s) (r:Vals vs us) (h:sp (vs++dvs) H Q E):wpAny (model X.prog X.w) X.A (call (.ref f) us) (EP X pins σ Q) X.xe s:=by
 have r2:Vals (vs++dvs) (us++ds):=r.append hd
 have hl:(us++ds).length=ps.length:=by rw[<- r2.length];exact F.len _ _ _ _ h
 refine wpAny_call (codeAny_mono (F.run X.A X.stack s H ⟨us,[]⟩ (us++ds) (vs++dvs) Q E hr I.env0 (hb s us I.kIn hl) r2 h) fun r s' hq=> ?_)
 cases r with
 | error e=>exact hx pins σ H s e s' I hq
 | ok fl=>
   cases fl with
   | ret u=>exact I.after hq
   | next=>exact False.elim hq
   | brk=>exact False.elim hq
   | cont=>exact False.elim hq
theorem uD (F:FnOk X.prog X.w X.K X.mg X.base CX k f fd ps sp)(hr:Room k X.A)(hg:Gl X x)(hm:X.mg x=some (.ref f))(hk:PySem.W.keepIn X.K (.ref f)=true)(hb:Binds X.K fd ps ds)(hd:Vals dvs ds)(hx:Passes CX X E)
   (ha:PA X (e::es) t) (hdb:(x==("__debug__" :Str))=false:=by decide) (he:starEach (e::es) X.env=(false,eval e X.env)::starEach es X.env:=by rfl) (hpl:(backTo pos (starEach es X.env)).any (·.1)=false:=by rfl):
   PE X (.Call (.Name x p) (e::es) [] pos) (nj sp dvs E t):=by
 intro pins s σ H Q I h
 refine wpAny_Call_Name_kw (nP I hg hm ?_ hdb)
 refine PySem.W.callWith_K (h₀:=X.base) I.ok.mod.kin hk (thn (ha pos pins s σ H _ I h) fun us s1 ⟨vs,H1,I1,r,q⟩=>⟨I1.kIn,?_⟩) he hpl
 exact wO F hr hb hd hx I1 r q
structure Mk (K:PySem.W.Frag)(C f:Addr):Prop where
 makes:PySem.W.makesIn K C=true
 init:PySem.W.findIn K (.ref C) "__init__" =some (some (.ref f))
 fn:PySem.W.isFn K (.ref f)=true
 kp:PySem.W.keepIn K (.ref C)=true
theorem qY {pins:List (Addr×Obj)}{σ:St}{H:Hp}{s:Shared}{Q:VK}{us:List Value}{vs:List V}(M:Mk X.K C f)(F:FnOk X.prog X.w X.K X.mg X.base CX k f fd ps sp)(hr:Room (k+1) X.A)(hb:Binds X.K fd ps ds)(hd:Vals dvs ds)
   (hx:Passes CX X E) (I:Inv X pins σ H s) (r:Vals vs us)
   (h: ∀x dx,H x=none ->H dx=none ->dx≠x ->sp (.ref x::(vs++dvs)) (upd (upd H dx (.own x)) x (.ins C dx [])) (fun v H2=>v= .non /\ Q (.ref x) H2) E):
   wpAny (model X.prog X.w) X.A (call (.ref C) us) (EP X pins σ Q) X.xe s:=by
 have hq:=h (s.heap.objs.size+1) s.heap.objs.size (I.hok.fresh (Nat.le_succ _)) (I.hok.fresh (Nat.le_refl _)) (Nat.ne_of_lt (Nat.lt_succ_self _))
 have I2:=Inv.made (C:=C) I
 have r2:Vals (V.ref (s.heap.objs.size+1)::(vs++dvs)) (Value.ref (s.heap.objs.size+1)::(us++ds)):= .cons rfl (r.append hd)
 have hl:(Value.ref (s.heap.objs.size+1)::us++ds).length=ps.length:=by
   have e:=r2.length
   rw[F.len _ _ _ _ hq] at e
   exact e.symm
 refine wpAny_call (sf (f:=f) I.kIn M.makes M.init (beq_iff_eq.mp M.fn) (codeAny_mono (F.run _ X.stack _ _ ⟨Value.ref (s.heap.objs.size+1)::us,[]⟩ (Value.ref (s.heap.objs.size+1)::(us++ds)) _ _ E (hr.make C us [])
   (I2.env0.make C us []) (hb _ (Value.ref (s.heap.objs.size+1)::us) I2.kIn hl) r2 hq) fun r s' hq'=> ?_))
 cases r with
 | error e=>exact hx pins σ _ _ e s' I2 hq'
 | ok fl=>
   cases fl with
   | ret u=>
     obtain⟨v,H',I3,rv,ev,q3⟩:=I2.after hq'
     subst ev
     exact⟨rv,⟨V.ref (s.heap.objs.size+1),H',I3,rfl,q3⟩⟩
   | next=>exact False.elim hq'
   | brk=>exact False.elim hq'
   | cont=>exact False.elim hq'
theorem uB (M:Mk X.K C f)(F:FnOk X.prog X.w X.K X.mg X.base CX k f fd ps sp)(hr:Room (k+1) X.A)(hg:Gl X x)(hm:X.mg x=some (.ref C))(hb:Binds X.K fd ps ds)(hd:Vals dvs ds)(hx:Passes CX X E)
   (ha:PA X (e::es) t) (hdb:(x==("__debug__" :Str))=false:=by decide) (he:starEach (e::es) X.env=(false,eval e X.env)::starEach es X.env:=by rfl) (hpl:(backTo pos (starEach es X.env)).any (·.1)=false:=by rfl):
   PE X (.Call (.Name x p) (e::es) [] pos) (qu C sp dvs E t):=by
 intro pins s σ H Q I h
 refine wpAny_Call_Name_kw (nP I hg hm ?_ hdb)
 refine PySem.W.callWith_K (h₀:=X.base) I.ok.mod.kin M.kp (thn (ha pos pins s σ H _ I h) fun us s1 ⟨vs,H1,I1,r,q⟩=>⟨I1.kIn,?_⟩) he hpl
 exact qY M F hr hb hd hx I1 r q
end
structure FnScope (N P:List Str)(sc:Scope):Prop where
 kind:sc.kind= .function
 co:sc.isCoroutine=false
 gen:sc.isGenerator=false
 nd:N.Nodup
 pre:N.take P.length=P
 par: ∀x∈P,sc.names.lookup x=some .local \/ sc.names.lookup x=some .cell
 nofree: ∀y∈sc.names,y.2≠ .free
theorem jg {kindOf:Str ->Option NameKind}{x:Str}: ∀ {binds:List (Str×Value)} {m:Str ->Option Value},(∀v,(x,v)∉binds) ->bindL kindOf binds m x=m x
 | [],_,_=>rfl
 | (n,v)::r,m,h=>by
   unfold bindL
   rw[jg fun w hw=>h w (List.mem_cons_of_mem _ hw)]
   split
   · have:x≠n:=by rintro rfl;exact h v List.mem_cons_self
     simp[this]
   · rfl
theorem ji {kindOf:Str ->Option NameKind}{x:Str}: ∀ {binds:List (Str×Value)} {m:Str ->Option Value},(∀v,(x,v)∉binds) ->bindC kindOf binds m x=m x
 | [],_,_=>rfl
 | (n,v)::r,m,h=>by
   unfold bindC
   rw[ji fun w hw=>h w (List.mem_cons_of_mem _ hw)]
   split
   · rfl
   · have:x≠n:=by rintro rfl;exact h v List.mem_cons_self
     simp[this]
theorem jh {kindOf:Str ->Option NameKind}{x:Str}{v:Value}: ∀ {P:List Str} {vs:List Value} {i:Nat} {m:Str ->Option Value},P.Nodup ->P[i]? =some x ->vs[i]? =some v ->kindOf x=some .local ->
   bindL kindOf (P.zip vs) m x=some v
 | [],_,_,_,_,h,_,_=>by simp at h
 | _::_,[],_,_,_,_,h,_=>by simp at h
 | p::P,w::vs,0,m,nd,h1,h2,hk=>by
   simp at h1 h2;subst h1;subst h2
   show bindL kindOf ((p,w)::P.zip vs) m p=_
   unfold bindL
   rw[jg fun v hv=>(List.nodup_cons.mp nd).1 (List.of_mem_zip hv).1,if_pos hk]
   simp
 | p::P,w::vs,i+1,m,nd,h1,h2,hk=>by
   show bindL kindOf ((p,w)::P.zip vs) m x=_
   unfold bindL
   exact jh (i:=i) (List.nodup_cons.mp nd).2 (by simpa using h1) (by simpa using h2) hk
theorem jj {kindOf:Str ->Option NameKind}{x:Str}{v:Value}: ∀ {P:List Str} {vs:List Value} {i:Nat} {m:Str ->Option Value},P.Nodup ->P[i]? =some x ->vs[i]? =some v ->kindOf x≠some .local ->
   bindC kindOf (P.zip vs) m x=some v
 | [],_,_,_,_,h,_,_=>by simp at h
 | _::_,[],_,_,_,_,h,_=>by simp at h
 | p::P,w::vs,0,m,nd,h1,h2,hk=>by
   simp at h1 h2;subst h1;subst h2
   show bindC kindOf ((p,w)::P.zip vs) m p=_
   unfold bindC
   rw[ji fun v hv=>(List.nodup_cons.mp nd).1 (List.of_mem_zip hv).1,if_neg hk]
   simp
 | p::P,w::vs,i+1,m,nd,h1,h2,hk=>by
   show bindC kindOf ((p,w)::P.zip vs) m x=_
   unfold bindC
   exact jj (i:=i) (List.nodup_cons.mp nd).2 (by simpa using h1) (by simpa using h2) hk
def start (N:List Str)(vs:List V):St:=vs.map some++List.replicate (N.length - vs.length) none
def bh (CX:CXT)(P:Program)(w:World)(K:PySem.W.Frag)(mg:Str ->Option Value)(base:Heap)(N:List Str)(qual:Str)(scope:Scope)(f:Addr)(cd:Value)(A:Around)(outer:List Env)(s:Shared)(H:Hp)(E:XK):Cx where
 prog:=P
 w:=w
 K:=K
 mg:=mg
 base:=base
 A:=A.deeper (envOfC qual scope s.heap.objs.size f cd)
 N:=N
 s₀:=s
 H₀:=H
 env:=envOfC qual scope s.heap.objs.size f cd
 outer:=outer
 stack:=envOfC qual scope s.heap.objs.size f cd::outer
 ex:= []
 calm:=true
 fn:=fun _=>true
 pn:= []
 xe:=fun e s'=>wpAny (model P w) (A.deeper (envOfC qual scope s.heap.objs.size f cd)) (leaving (envOfC qual scope s.heap.objs.size f cd) e) (fun _ s''=>CX outer H s E e s'') (fun e' s''=>CX outer H s E e' s'') s'
theorem lF {sc:Scope}{n:Nat}{x:Str}(h:sc.names.lookup x=some .cell): ∃c,(cellsFrom n sc.names []).lookup x=some c:=by
 have q:=PySem.W.cellsFrom_some sc.names n [] (.inl h)
 exact Option.isSome_iff_exists.mp q
theorem pd {CX:CXT}{P:Program}{w:World}{K:PySem.W.Frag}{mg:Str ->Option Value}{base:Heap}{N ps:List Str}{qual:Str}{scope:Scope}{f:Addr}{cd:Value}{A:Around}{outer:List Env}{s s1:Shared}{H:Hp}{E:XK}{us:List Value}{vs:List V}
   (S:FnScope N ps scope) (hd:A.handled=none) (e0:Env0 P w K mg base A outer s H) (hl:vs.length=ps.length) (r:Vals vs us)
   (x:InCallC s s.heap.objs.size (bindL (envOfC qual scope s.heap.objs.size f cd).kindOf (ps.zip us) fun _=>none) (cellsFrom (s.heap.objs.size+1) scope.names []) (bindC (envOfC qual scope s.heap.objs.size f cd).kindOf (ps.zip us) fun _=>none) s1):
   Inv (bh CX P w K mg base N qual scope f cd A outer s H E) [] (start N vs) H s1:=by
 have hpl:ps.length<=N.length:=by have:=congrArg List.length S.pre;rw[List.length_take] at this;lia
 obtain⟨h1,tk,rfl,hk⟩:=x.done
 have noA: ∀b:Addr,b∉(bh CX P w K mg base N qual scope f cd A outer s H E).ex:=fun b z=>absurd (show b∈([]:List Addr) from z) (by simp)
 refine⟨⟨e0.mod,S.kind,rfl,rfl,Nat.le_refl _,fun y z c h1 h2=> ?_,fun y hy=> ?_,fun y c _ h=> ?_,fun _=>hd,Around.frames_deeper e0.frames, .inr ⟨rfl,rfl⟩,fun b z=>absurd z (noA b),e0.bs,e0.bsz,fun b _ _=>noA b,fun b z=>absurd z (noA b),e0.funs,e0.frf⟩,
   rfl,e0.bare,Un.kept hk,⟨_,x.toInCall.ns,fun i y v h1 h2 h3=> ?_⟩,fun y c h=>⟨_,x.cell y c h⟩,e0.hok.fresh (Nat.le_refl _),fun y c h=> ?_,fun p hp=>absurd (show p∈([]:List (Addr×Obj)) from hp) (by simp),e0.hok.kept hk,?_⟩
 · exact name_of_addr x.apart (PySem.mem_of_lookup h1) (PySem.mem_of_lookup h2)
 · have hy:scope.names.lookup y=some .cell \/ scope.names.lookup y=some .free:=hy
   rcases hy with hy | hy
   · exact lF hy
   · exact absurd rfl (S.nofree _ (PySem.mem_of_lookup hy))
 · exact Nat.le_of_lt (x.above y c (PySem.mem_of_lookup h))
 · have hi:i<vs.length:=by
     unfold start at h2
     by_cases hi:i<vs.length
     · exact hi
     · rw[List.getElem?_append_right (by simpa using hi)] at h2
       rw[List.getElem?_replicate] at h2
       split at h2<;>cases h2
   have ha:vs[i]? =some v:=by
     unfold start at h2
     rw[List.getElem?_append_left (by simpa using hi),List.getElem?_map] at h2
     cases e:vs[i]? with
     | none=>rw[e] at h2;cases h2
     | some a=>rw[e] at h2;cases h2;rfl
   obtain⟨u,hu,rv⟩:=r.get ha
   have hp:ps[i]? =some y:=by
     rw[<- S.pre,List.getElem?_take_of_lt (by lia)];exact h1
   have ndP:ps.Nodup:=by rw[<- S.pre];exact S.nd.sublist (List.take_sublist _ _)
   refine⟨u,rv,?_⟩
   rcases S.par y (List.mem_of_getElem? hp) with k | k
   · exact .inl ⟨k,jh ndP hp hu k⟩
   · obtain⟨c,e⟩:=lF (n:=s.heap.objs.size+1) k
     refine .inr ⟨.inl k,c,e,?_⟩
     have q:=x.cell y c e
     rw[jj ndP hp hu (by show scope.names.lookup y≠_;rw[k];decide)] at q
     exact q
 · exact e0.hok.fresh (Nat.le_of_lt (x.above y c (PySem.mem_of_lookup h)))
 · unfold start
   show _=N.length
   rw[List.length_append,List.length_map,List.length_replicate]
   lia
theorem fn_of {CX:CXT}{P:Program}{w:World}{K:PySem.W.Frag}{mg:Str ->Option Value}{base:Heap}{k:Nat}{f:Addr}{name qual:Str}{params:Arguments}{body:List Stmt}{scope:Scope}{dV kV doc pm cdv ct oc:Value}{an od:Option Addr}
   {osl:Array (Option Value)} {N ps:List Str} {sp:Sp} (lk:K.lookup f=some ⟨oc,od, .func (PySem.W.fnOf name qual params body scope dV kV doc pm an cdv ct),osl⟩) (hcd:PySem.W.codeIn K cdv qual=true) (S:FnScope N ps scope)
   (len: ∀vs H Q E,sp vs H Q E ->vs.length=ps.length)
   (hbody: ∀ (A:Around) (outer:List Env) (s:Shared) (H:Hp) (vs:List V) (Q:VK) (E:XK),Room k (A.deeper (envOfC qual scope s.heap.objs.size f cdv)) ->sp vs H Q E ->
     ∃t,PSs (bh CX P w K mg base N qual scope f cdv A outer s H E) body t /\ t {nx:=fun _ H'=>Q .non H',rt:=Q} (start N vs) H):
   FnOk P w K mg base CX (k+1) f (PySem.W.fnOf name qual params body scope dV kV doc pm an cdv ct) ps sp:=by
 refine⟨len,fun A outer s H args us vs Q E hr e0 hb r hsp=> ?_⟩
 have hl:=len _ _ _ _ hsp
 have KX:K.In s.heap:=e0.mod.kin.keeps fun b o e=>(e0.bs b o e).1
 have lim:s.heap.NoLimit:=e0.mod.nolimit.keeps fun b o e=>(e0.bs b o e).1
 have hkind: ∀y∈ps.zip us,scope.names.lookup y.1=some .local \/ (scope.names.lookup y.1=some .cell /\ ((cellsFrom (s.heap.objs.size+1) scope.names []).lookup y.1).isSome=true):=fun⟨n,v⟩ hy=>by
   rcases S.par n (List.of_mem_zip hy).1 with q | q
   · exact .inl q
   · exact .inr ⟨q,PySem.W.cellsFrom_some _ _ _ (.inl q)⟩
 refine codeAny_call_function hr.depth (KX _ _ lk) rfl S.co S.gen rfl (PySem.W.codeRec_of KX hcd) (hb _ _ _ _ ?_)
 refine wpAny_newFunctionEnv_cells S.kind hkind fun env he s1 x=> ?_
 subst he
 refine⟨lim.keeps x.toInCall.keep,codeAny_func ?_⟩
 obtain⟨t,ht,hq⟩:=hbody A outer s H vs Q E (hr.deeper _) hsp
 have I:Inv (bh CX P w K mg base N qual scope f cdv A outer s H E) [] (start N vs) H s1:=pd S hr.hd e0 hl r x
 refine wpAny_mono (ht [] s1 (start N vs) H _ I hq) (fun fl s' hs=> ?_) fun e s' hs=>hs
 have fin: ∀ {σ':St} {H':Hp} {v:V} {u:Value},Inv (bh CX P w K mg base N qual scope f cdv A outer s H E) [] σ' H' s' ->RelV v u ->Q v H' ->CE outer P w H s Q u s':=
   fun {σ' H' v u} J rv q=>⟨v,H',J.os,J.bare,J.base,J.hok,rv,q⟩
 cases fl with
 | ret u=>
   obtain⟨v,σ',H',J,rv,q⟩:=hs
   exact fin J rv q
 | next=>
   obtain⟨σ',H',J,q⟩:=hs
   exact fin (v:=V.non) (u:=Value.none) J rfl q
 | brk=>
   obtain⟨_,_,_,q⟩:=hs
   exact False.elim q
 | cont=>
   obtain⟨_,_,_,q⟩:=hs
   exact False.elim q
end L2
namespace L2
open PySem PySem.Spec PyProof.Rows
section
variable {X:Cx}{x:Str}{p pos:Pos}{e:Expr}{es:List Expr}{t:TA}{id T:String}{r:List V ->Hp ->VK ->Prop}
def tCB (r:List V ->Hp ->VK ->Prop)(t:TA):TE:=fun σ H Q=>t σ H fun vs H1=>r vs H1 Q
theorem aM (hc:bB X (.builtin id) r)(hg:Gl X x)(hm:X.mg x=none)(hv:bootBuiltins x=some (.builtin id))(ha:PA X (e::es) t)(hn:x≠ "__name__" :=by decide)(hdb:(x==("__debug__" :Str))=false:=by decide)
   (he:starEach (e::es) X.env=(false,eval e X.env)::starEach es X.env:=by rfl) (hpl:(backTo pos (starEach es X.env)).any (·.1)=false:=by rfl):PE X (.Call (.Name x p) (e::es) [] pos) (tCB r t):=by
 intro pins s σ H Q I h
 refine wpAny_Call_Name_kw (bK I hg hm hv ?_ hn hdb)
 exact PyProof.Rows.callWith_builtin1 (thn (ha pos pins s σ H _ I h) fun us s1 ⟨vs,H1,I1,r1,q1⟩=>hc pins s1 σ H1 vs us Q I1 r1 q1) he hpl
theorem aY (hc:bB X (.type T) r)(hg:Gl X x)(hm:X.mg x=none)(hv:bootBuiltins x=some (.type T))(ha:PA X (e::es) t)(hn:x≠ "__name__" :=by decide)(hdb:(x==("__debug__" :Str))=false:=by decide)
   (he:starEach (e::es) X.env=(false,eval e X.env)::starEach es X.env:=by rfl) (hpl:(backTo pos (starEach es X.env)).any (·.1)=false:=by rfl):PE X (.Call (.Name x p) (e::es) [] pos) (tCB r t):=by
 intro pins s σ H Q I h
 refine wpAny_Call_Name_kw (bK I hg hm hv ?_ hn hdb)
 exact PyProof.Rows.callWith_type1 (thn (ha pos pins s σ H _ I h) fun us s1 ⟨vs,H1,I1,r1,q1⟩=>hc pins s1 σ H1 vs us Q I1 r1 q1) he hpl
end
end L2
namespace HT
open PySem PyProof.Rows
section
variable {prog:Program}{w:World}{A:Around}{E:Value ->Shared ->Prop}{s:Shared}
def sIx (n d:Nat):Option Int ->Nat
 | none=>d
 | some v=>if v<0 then(v+(n:Int)).toNat else min v.toNat n
end
end HT
namespace L2
open PySem PySem.Spec PyProof.Rows
abbrev TO:=St ->Hp ->(Option Int ->Hp ->Prop) ->Prop
def PO (X:Cx)(e:Option Expr)(t:TO):Prop:=
 ∀ (pins:List (Addr×Obj)) (s:Shared) (σ:St) (H:Hp) (Q:Option Int ->Hp ->Prop),Inv X pins σ H s ->t σ H Q ->
   wpAny (model X.prog X.w) X.A (evalPart e X.env) (fun u s'=> ∃o H',Inv X pins σ H' s' /\ IsPart u o /\ Q o H') X.xe s
def ui:TO:=fun _ H Q=>Q none H
def tPart (t:TE):TO:=fun σ H Q=>t σ H fun x H1=> ∃i,x= .int i /\ Q (some i) H1
section
variable {X:Cx}{e:Expr}{te:TE}{lo hi:Option Expr}{tl th:TO}{pos p2:Pos}
theorem uz:PO X none ui:=by
 intro pins s σ H Q I h
 rw[evalPart_none]
 exact wpAny_pure ⟨none,H,I, .none,h⟩
theorem uy (h:PE X e te):PO X (some e) (tPart te):=by
 intro pins s σ H Q I hw
 rw[evalPart_some]
 refine thn (h pins s σ H _ I hw) fun u s1 ⟨x,H1,I1,r1,q1⟩=> ?_
 obtain⟨i,rfl,q⟩:=q1
 obtain⟨t,rfl⟩:=r1
 exact⟨some i,H1,I1, .int i t,q⟩
def SlR (X:Cx)(r:V ->Option Int ->Option Int ->Hp ->VK ->Prop):Prop:=
 ∀ (pins:List (Addr×Obj)) (s:Shared) (σ:St) (H:Hp) (x:V) (v vl vu:Value) (lo hi:Option Int) (sl:Addr) (Q:VK),Inv X pins σ H s ->RelV x v ->s.heap.IsSliceOf sl vl vu .none ->IsPart vl lo ->IsPart vu hi ->r x lo hi H Q ->
   ∃T id,typeLookup (.type T) "__getitem__" =pure (some (.builtin id)) /\ s.TypeIs v T /\ wpAny (model X.prog X.w) X.A (getItem v (.ref sl)) (EP X pins σ Q) X.xe s
def tSl (r:V ->Option Int ->Option Int ->Hp ->VK ->Prop)(te:TE)(tl th:TO):TE:=fun σ H Q=>te σ H fun x H1=>tl σ H1 fun l H2=>th σ H2 fun u H3=>r x l u H3 Q
theorem rG {r:V ->Option Int ->Option Int ->Hp ->VK ->Prop}(hr:SlR X r)(he:PE X e te)(hl:PO X lo tl)(hu:PO X hi th):PE X (.Subscript e (.Slice lo hi none p2) pos) (tSl r te tl th):=by
 intro pins s σ H Q I h
 refine Subscript_ (thn (he pins s σ H _ I h) fun v s1 ⟨x,H1,I1,r1,q1⟩=> ?_)
 refine wpAny_Slice (thn (hl pins s1 σ H1 _ I1 q1) fun vl s2 ⟨l,H2,I2,pl,q2⟩=>thn (hu pins s2 σ H2 _ I2 q2) fun vu s3 ⟨u,H3,I3,pu,q3⟩=> ?_)
 rw[evalPart_none]
 refine wpAny_pure ?_
 have I4:Inv X pins σ H3 {s3 with heap:=s3.heap.push {cls:= .type "slice",data:= .fields #[vl,vu, .none]}}:=I3.kept (t':=s3.toks) fun b ob q=>Heap.get?_push_of_some _ q
 obtain⟨T,id,hT,ht,hg⟩:=hr pins {s3 with heap:=s3.heap.push {cls:= .type "slice",data:= .fields #[vl,vu, .none]}} σ H3 x v vl vu l u s3.heap.objs.size Q I4 r1 (Heap.IsSliceOf.new ..) pl pu q3
 show wpAny (model X.prog X.w) X.A (subscriptTail e (.Slice lo hi none p2) v (.ref s3.heap.objs.size)) (EP X pins σ Q) X.xe {s3 with heap:=s3.heap.push {cls:= .type "slice",data:= .fields #[vl,vu, .none]}}
 exact tail_any (ops:= [.ref s3.heap.objs.size,v]) ht hT hg (by with_unfolding_all rfl)
def pC (xs:List V)(lo hi:Option Int):List V:=(xs.drop (HT.sIx xs.length 0 lo)).take (HT.sIx xs.length xs.length hi - HT.sIx xs.length 0 lo)
theorem lA (xs:List V)(lo hi:Option Int):(pC xs lo hi).length<=xs.length:=by
 unfold pC
 rw[List.length_take,List.length_drop]
 lia
end
end L2
namespace L2
open PySem PySem.Spec PyProof.Rows
def ixN (n:Nat)(i:Int):Option Nat:=if 0<=i then(if i<n then some i.toNat else none) else if -(n:Int) <=i then some (i+n).toNat else none
def atI {α:Type}(xs:List α)(i:Int):Option α:=(ixN xs.length i).bind fun j=>xs[j]?
theorem nV {n:Nat}{i:Int}{j:Nat}(h:ixN n i=some j): seqIndex? i n=some j /\ j<n /\ -(n:Int) <=i /\ i<n:=by
 unfold ixN at h
 by_cases h0:0<=i
 · rw[if_pos h0] at h
   by_cases h1:i<n
   · rw[if_pos h1] at h
     have e:i.toNat=j:=Option.some.inj h
     exact⟨by rw[seqIndex_of h0 h1,e],by lia,by lia,h1⟩
   · rw[if_neg h1] at h;cases h
 · rw[if_neg h0] at h
   by_cases h1: -(n:Int) <=i
   · rw[if_pos h1] at h
     have e:(i+n).toNat=j:=Option.some.inj h
     exact⟨by rw[seqIndex_neg (by lia) h1,e],by lia,h1,by lia⟩
   · rw[if_neg h1] at h;cases h
theorem oy {α:Type}{xs:List α}{i:Int}{v:α}(h:atI xs i=some v): ∃j, seqIndex? i xs.length=some j /\ xs[j]? =some v /\ j<xs.length /\ -(xs.length:Int) <=i /\ i<xs.length:=by
 unfold atI at h
 cases e:ixN xs.length i with
 | none=>rw[e] at h;cases h
 | some j=>
   rw[e] at h
   obtain⟨h1,h2,h3,h4⟩:=nV e
   exact⟨j,h1,h,h2,h3,h4⟩
theorem cK {α:Type}{xs:List α}{j:Nat}{v:α}(h:xs[j]? =some v):atI xs (j:Int)=some v:=by
 have hj:j<xs.length:=(List.getElem?_eq_some_iff.mp h).1
 have e:ixN xs.length (j:Int)=some j:=by
   unfold ixN
   rw[if_pos (by lia),if_pos (by lia)];simp
 unfold atI;rw[e];exact h
def va (b:Expr):Prop:= ∀o i,subscripted b false o i=operate [o,i] (getItem o i)
def IxR (X:Cx)(r:R2):Prop:=
 ∀ (value slice:Expr) (pins:List (Addr×Obj)) (s:Shared) (σ:St) (H:Hp) (x y:V) (v u:Value) (Q:VK),Inv X pins σ H s ->RelV x v ->RelV y u ->r x y H Q ->
   subscripted slice false v u=operate [v,u] (getItem v u) ->wpAny (model X.prog X.w) X.A (subscriptTail value slice v u) (EP X pins σ Q) X.xe s
def MtR (X:Cx)(id:String)(r:V ->List V ->Hp ->VK ->Prop):Prop:=
 ∀ (pins:List (Addr×Obj)) (s:Shared) (σ:St) (H:Hp) (x:V) (xs:List V) (v:Value) (us:List Value) (Q:VK),Inv X pins σ H s ->RelV x v ->Vals xs us ->r x xs H Q ->
   wpAny (model X.prog X.w) X.A (call (.builtin id) (v::us)) (EP X pins σ Q) X.xe s
section
variable {X:Cx}{a b:Expr}{ta tb:TE}{pos:Pos}
theorem a0 {r:R2}(hr:IxR X r)(ha:PE X a ta)(hb:PE X b tb)(hs:va b):PE X (.Subscript a b pos) (tOp r ta tb):=by
 intro pins s σ H Q I h
 exact Subscript_ (binT ha hb I h fun v u s2 x y H2 I2 rx ry q=>hr a b pins s2 σ H2 x y v u Q I2 rx ry q (hs _ _))
def rIxL (K:PySem.W.Frag):R2:=fun x y H Q=> ∃p xs i v,x= .ref p /\ y= .int i /\ SqL K H p xs /\ atI xs i=some v /\ Q v H
def rIxT (K:PySem.W.Frag):R2:=fun x y H Q=> ∃p xs i v,x= .ref p /\ y= .int i /\ SqT K H p xs /\ atI xs i=some v /\ Q v H
theorem aS:IxR X (rIxL X.K):=by
 intro value slice pins s σ H x y v u Q I rx ry h hs
 obtain⟨p,xs,i,z,rfl,rfl,hq,he,q⟩:=h
 cases rx
 obtain⟨t,rfl⟩:=ry
 obtain⟨its,r,pl,hz⟩:=I.list hq
 obtain⟨j,h1,h2,h3,h4,h5⟩:=oy he
 obtain⟨w,ew,rw'⟩:=r.get h2
 have hl:=r.length
 have hn:=hW
 have fin:EP X pins σ Q w s:=⟨z,H,I,rw',q⟩
 by_cases h0:0<=i
 · have hj:i.toNat=j:=by
     rw[seqIndex_of h0 h5] at h1
     exact Option.some.inj h1
   exact item_listR pl.isList h0 (by lia) (by rw[hj];simpa using ew) fin hs
 · have hj:(i+(its.toArray.size:Int)).toNat=j:=by
     rw[seqIndex_neg (by lia) h4] at h1
     rw[List.size_toArray, <- hl]
     exact Option.some.inj h1
   exact subscriptTail_builtinR (x:=w) pl.isList.typeIs slot_list_getitem.lookup
     (wpAny_getItem_list_neg (Q:=fun r s'=>r=w /\ EP X pins σ Q r s') pl.isList (by lia) (by rw[List.size_toArray] <;>lia) (by lia) (by rw[hj];simpa using ew) ⟨rfl,fin⟩) hs
theorem cN:IxR X (rIxT X.K):=by
 intro value slice pins s σ H x y v u Q I rx ry h hs
 obtain⟨p,xs,i,z,rfl,rfl,hq,he,q⟩:=h
 cases rx
 obtain⟨t,rfl⟩:=ry
 obtain⟨its,r,pl,hz⟩:=I.tuple hq
 obtain⟨j,h1,h2,h3,h4,h5⟩:=oy he
 obtain⟨w,ew,rw'⟩:=r.get h2
 have hl:=r.length
 have hn:=hW
 have fin:EP X pins σ Q w s:=⟨z,H,I,rw',q⟩
 exact subscriptTail_builtinR (x:=w) pl.typeIs slot_tuple_getitem.lookup
   (getItem_tuple (j:=j) (Q:=fun r s'=>r=w /\ EP X pins σ Q r s') pl (by lia) (by lia) (by rw[List.size_toArray, <- hl];exact h1) (by simpa using ew) ⟨rfl,fin⟩) hs
theorem mh (its:List Value)(n j:Nat)(u:Value):Obj.mapSeq (·.setIfInBounds j u) {cls:= .type "list",data:= .seq its.toArray n}= {cls:= .type "list",data:= .seq (its.set j u).toArray n}:=by
 simp[Obj.mapSeq]
theorem Inv.lst {pins:List (Addr×Obj)}{σ:St}{H:Hp}{s:Shared}{p:Addr}{xs:List V}(I:Inv X pins σ H s)(h:H p=some (.lst xs)):
   ∃ (its:List Value) (n:Nat),Vals xs its /\ s.heap.get? p=some {cls:= .type "list",data:= .seq its.toArray n} /\ xs.length<=sizeLine:=by
 obtain⟨z,its,n,r,e⟩:=I.hok p _ h
 exact⟨its,n,r,e,z⟩
theorem Inv.lstUpd {pins:List (Addr×Obj)}{σ:St}{H:Hp}{s:Shared}{p:Addr}{xs ys:List V}{its its':List Value}{n n':Nat}{f:Obj ->Obj}(I:Inv X pins σ H s)(h:H p=some (.lst xs))
   (ho:s.heap.get? p=some {cls:= .type "list",data:= .seq its.toArray n}) (hf:f {cls:= .type "list",data:= .seq its.toArray n}= {cls:= .type "list",data:= .seq its'.toArray n'}) (r:Vals ys its') (hz:ys.length<=sizeLine) (t:Nat):
   Inv X pins σ (upd H p (.lst ys)) {s with heap:=s.heap.update p f,toks:=t}:=by
 have e:(s.heap.update p f).get? p=some {cls:= .type "list",data:= .seq its'.toArray n'}:=by
   rw[Heap.get?_update_self f ho (by rw[hf] <;>rfl),hf]
 refine I.write (x:=p) (e:=p) (by rw[h];trivial) (.inl rfl) (fun b u hb q=>(Heap.get?_update_other _ _ (Ne.symm hb)).trans q) ⟨_,e⟩ ?_
 exact⟨hz,its',n',r,e⟩
def vG:V ->V ->V ->Hp ->(Hp ->Prop) ->Prop:=fun o i v H Q=> ∃p xs k j,o= .ref p /\ i= .int k /\ H p=some (.lst xs) /\ ixN xs.length k=some j /\ Q (upd H p (.lst (xs.set j v)))
theorem set_list:PSet X vG:=by
 intro pins s σ H o i v ov iv u Q I ro ri rv h
 obtain⟨p,xs,k,j,rfl,rfl,hp,hj,q⟩:=h
 cases ro
 obtain⟨t,rfl⟩:=ri
 obtain⟨its,n,r,ho,hz⟩:=I.lst hp
 obtain⟨h1,h2,h3,h4⟩:=nV hj
 have hl:=r.length
 have hn:=hW
 have I':Inv X pins σ (upd H p (.lst (xs.set j v))) {s with heap:=s.heap.update p (Obj.mapSeq (·.setIfInBounds j u))}:=
   I.lstUpd hp ho (mh its n j u) (r.set rv j) (by rw[List.length_set];exact hz) s.toks
 by_cases h0:0<=k
 · have hk:k.toNat=j:=by
     rw[seqIndex_of h0 h4] at h1
     exact Option.some.inj h1
   exact PySem.W.ki_setAt ho h0 (by lia) (by rw[List.size_toArray, <- hl];exact h4) (by rw[hk];exact⟨_,I',q⟩)
 · have hk:(k+(its.toArray.size:Int)).toNat=j:=by
     rw[seqIndex_neg (by lia) h3] at h1
     rw[List.size_toArray, <- hl]
     exact Option.some.inj h1
   exact PySem.W.ki_setBack ho (by lia) (by rw[List.size_toArray, <- hl];exact h3) (by lia) (by rw[hk];exact⟨_,I',q⟩)
theorem jx (lo hi:Option Int)(n:Nat):(sliceBounds lo hi none n).1=((HT.sIx n 0 lo:Nat):Int) /\ (sliceBounds lo hi none n).2.1=((HT.sIx n n hi:Nat):Int) /\ (sliceBounds lo hi none n).2.2=1:=by
 refine⟨?_,?_,rfl⟩
 · cases lo with
   | none=>simp[sliceBounds,HT.sIx]
   | some i=>
     simp only[sliceBounds,HT.sIx,Option.getD_none,show(1:Int) >0 by decide,if_true]
     by_cases h:i<0
     · simp only[h,if_true] <;>lia
     · simp only[h,if_false] <;>lia
 · cases hi with
   | none=>simp[sliceBounds,HT.sIx]
   | some i=>
     simp only[sliceBounds,HT.sIx,Option.getD_none,show(1:Int) >0 by decide,if_true]
     by_cases h:i<0
     · simp only[h,if_true] <;>lia
     · simp only[h,if_false] <;>lia
theorem iI (its:List Value)(lo hi:Option Int):slicePick its.toArray lo hi none=((its.drop (HT.sIx its.length 0 lo)).take (HT.sIx its.length its.length hi - HT.sIx its.length 0 lo)).toArray:=by
 obtain⟨h1,h2,h3⟩:=jx lo hi its.toArray.size
 unfold slicePick
 rw[h1,h2,h3]
 simp only[sliceRange_one,pick_run,List.size_toArray] <;>rfl
def rSlL (K:PySem.W.Frag):V ->Option Int ->Option Int ->Hp ->VK ->Prop:=fun x lo hi H Q=> ∃a xs,x= .ref a /\ SqL K H a xs /\ ∀p,H p=none ->Q (.ref p) (upd H p (.lst (pC xs lo hi)))
theorem uo:SlR X (rSlL X.K):=by
 intro pins s σ H x v vl vu lo hi sl Q I rx hs pl pu h
 obtain⟨a,xs,rfl,hx,q⟩:=h
 cases rx
 obtain⟨its,r,ht,hz⟩:=I.list hx
 have hlen:=r.length
 refine⟨"list",_,slot_list_getitem.lookup,ht.isList.typeIs,?_⟩
 refine wpAny_getItem_list_slice ht.isList hs pl pu .none (by simp) ?_ (by rw[List.size_toArray] <;>lia)
 rw[iI, <- hlen]
 refine⟨.ref s.heap.objs.size,_,I.laid (t':=s.toks) (o:= .lst (pC xs lo hi)) (fun b ob q=>Heap.get?_push_of_some _ q) (Nat.le_refl _) ?_,rfl,q _ (I.hok.fresh (Nat.le_refl _))⟩
 exact⟨Nat.le_trans (lA xs lo hi) hz,_,0,(r.drop (HT.sIx xs.length 0 lo)).take (HT.sIx xs.length xs.length hi - HT.sIx xs.length 0 lo),Heap.get?_push_size _ rfl⟩
def vW:V ->Bool
 | .non=>true
 | .bl _=>true
 | .int _=>true
 | .str _=>true
 | _=>false
def eqV:V ->V ->Bool
 | .non, .non=>true
 | .bl a, .bl b=>a==b
 | .bl a, .int b=>(if a then 1 else 0)==b
 | .int a, .bl b=>a==(if b then 1 else 0)
 | .int a, .int b=>a==b
 | .str a, .str b=>a==b
 | _,_=>false
theorem bx {A:Around}{s:Shared}{y x:V}{u v:Value}(ry:RelV y u)(rx:RelV x v)(fy:vW y=true)(fx:vW x=true):SeqAt.EqAt A s u v (eqV y x):=by
 cases y with
 | non=>
   cases ry
   cases x with
   | non=>cases rx;exact SeqAt.EqAt.same _
   | bl b=>cases rx;exact SeqAt.EqAt.none_bool b
   | int b=>obtain⟨t,rfl⟩:=rx;exact SeqAt.EqAt.none_int b t
   | str b=>obtain⟨t,rfl⟩:=rx;exact SeqAt.EqAt.none_str b t
   | _=>exact absurd (show false=true from fx) Bool.false_ne_true
 | bl a=>
   cases ry
   cases x with
   | non=>cases rx;exact SeqAt.EqAt.bool_none a
   | bl b=>cases rx;exact SeqAt.EqAt.bool_bool a b
   | int b=>obtain⟨t,rfl⟩:=rx;exact SeqAt.EqAt.bool_int a b t
   | str b=>obtain⟨t,rfl⟩:=rx;exact SeqAt.EqAt.bool_str a b t
   | _=>exact absurd (show false=true from fx) Bool.false_ne_true
 | int a=>
   obtain⟨t',rfl⟩:=ry
   cases x with
   | non=>cases rx;exact SeqAt.EqAt.int_none a t'
   | bl b=>cases rx;exact SeqAt.EqAt.int_bool a t' b
   | int b=>obtain⟨t,rfl⟩:=rx;exact SeqAt.EqAt.int_int a t' b t
   | str b=>obtain⟨t,rfl⟩:=rx;exact SeqAt.EqAt.int_str a t' b t
   | _=>exact absurd (show false=true from fx) Bool.false_ne_true
 | str a=>
   obtain⟨t',rfl⟩:=ry
   cases x with
   | non=>cases rx;exact SeqAt.EqAt.str_none a t'
   | bl b=>cases rx;exact SeqAt.EqAt.str_bool a t' b
   | int b=>obtain⟨t,rfl⟩:=rx;exact SeqAt.EqAt.str_int a t' b t
   | str b=>obtain⟨t,rfl⟩:=rx;exact SeqAt.EqAt.str_str a t' b t
   | _=>exact absurd (show false=true from fx) Bool.false_ne_true
 | _=>exact absurd (show false=true from fy) Bool.false_ne_true
theorem ke:bB X (.builtin "len") (fun xs H Q=> ∃p ys,xs= [.ref p] /\ (SqL X.K H p ys \/ SqT X.K H p ys) /\ Q (.int ys.length) H):=by
 intro pins s σ H xs us Q I r h
 obtain⟨p,ys,rfl,hq,q⟩:=h
 obtain⟨u,rfl,rx⟩:=vals1 r
 cases rx
 have hn:=hW
 rcases hq with hq | hq
 · obtain⟨its,r',pl,hz⟩:=I.list hq
   have hlen:=r'.length
   exact Calls.call_len_list pl.isList (by simp only[List.size_toArray] <;>lia) ⟨.int ys.length,H,I.tok _,⟨s.toks+1,by rw[List.size_toArray,hlen]⟩,q⟩
 · obtain⟨its,r',pl,hz⟩:=I.tuple hq
   have hlen:=r'.length
   exact len_tuple pl (by simp only[List.size_toArray] <;>lia) ⟨.int ys.length,H,I.tok _,⟨s.toks+1,by rw[List.size_toArray,hlen]⟩,q⟩
theorem kc:bB X (.type "list") (fun xs H Q=> ∃p ys,xs= [.ref p] /\ (SqL X.K H p ys \/ SqT X.K H p ys) /\ ∀l,H l=none ->Q (.ref l) (upd H l (.lst ys))):=by
 intro pins s σ H xs us Q I r h
 obtain⟨p,ys,rfl,hq,q⟩:=h
 obtain⟨u,rfl,rx⟩:=vals1 r
 cases rx
 have fin: ∀ (its:List Value),Vals ys its ->ys.length<=sizeLine -> ∀ (h':Heap) (c':Nat),(∀b o',s.heap.get? b=some o' ->h'.get? b=some o') ->
     h'.get? s.heap.objs.size=some {cls:= .type "list",dict:=none,data:= .seq its.toArray c',slots:= #[]} ->EP X pins σ Q (.ref s.heap.objs.size) {s with heap:=h'}:=fun its r' hz h' c' kp e=>
   ⟨.ref s.heap.objs.size,_,I.laid (t':=s.toks) kp (Nat.le_refl _) (show aW X.prog X.w _ h' _ (.lst ys) from⟨hz,its,c',r',e⟩),rfl,q _ (I.hok.fresh (Nat.le_refl _))⟩
 rcases hq with hq | hq
 · obtain⟨its,r',pl,hz⟩:=I.list hq
   have hlen:=r'.length
   obtain⟨o,ho,hc,n,hd⟩:=pl.isList
   exact call_list_seq p (.inl rfl) ho hc hd (fun h' c' kp e=>fin its r' hz h' c' kp e) (by simp only[List.size_toArray] <;>lia)
 · obtain⟨its,r',pl,hz⟩:=I.tuple hq
   have hlen:=r'.length
   obtain⟨o,ho,hc,n,hd⟩:=pl
   exact call_list_seq p (.inr rfl) ho hc hd (fun h' c' kp e=>fin its r' hz h' c' kp e) (by simp only[List.size_toArray] <;>lia)
theorem iN:bB X (.type "tuple") (fun xs H Q=> ∃p ys,xs= [.ref p] /\ ((SqL X.K H p ys /\ ∀l,H l=none ->Q (.ref l) (upd H l (.tup ys))) \/ (SqT X.K H p ys /\ Q (.ref p) H))):=by
 intro pins s σ H xs us Q I r h
 obtain⟨p,ys,rfl,h⟩:=h
 obtain⟨u,rfl,rx⟩:=vals1 r
 cases rx
 rcases h with⟨hq,q⟩ | ⟨hq,q⟩
 · obtain⟨its,r',pl,hz⟩:=I.list hq
   have hlen:=r'.length
   refine call_tuple_list pl.isList (fun h' kp=> ?_) (by simp only[List.size_toArray] <;>lia)
   have I1:Inv X pins σ H {s with heap:=h'}:=I.kept (t':=s.toks) kp
   have I2:Inv X pins σ (upd H h'.objs.size (.tup ys)) {s with heap:=h'.push {cls:= .type "tuple",data:= .seq its.toArray}}:=
     I1.laid (t':=s.toks) (fun b o e=>Heap.get?_push_of_some _ e) (Nat.le_refl _) (show aW X.prog X.w _ _ _ (.tup ys) from⟨hz,its,r',ki.new _ _⟩)
   exact⟨.ref h'.objs.size,_,I2,rfl,q _ (I1.hok.fresh (Nat.le_refl _))⟩
 · obtain⟨its,r',pl,hz⟩:=I.tuple hq
   exact call_tuple_same pl ⟨.ref p,H,I,rfl,q⟩
def tyV (K:PySem.W.Frag)(T:String)(x:V)(H:Hp):Prop:=match x with
 | .str _=>T= "str"
 | .int _=>T= "int"
 | .ref p=>(T= "list" /\ ∃xs,SqL K H p xs) \/ (T= "tuple" /\ ∃o,K.lookup p=some o /\ o.cls= .type "tuple" /\ o.dict=none) \/
     (T= "dict" /\ ((∃kvs,H p=some (.dK kvs)) \/ ∃kvs,H p=some (.dT kvs))) \/ (T= "set" /\ ∃S n,H p=some (.set S n))
 | _=>False
theorem wy {pins:List (Addr×Obj)}{σ:St}{H:Hp}{s:Shared}{T:String}{x:V}{v:Value}(I:Inv X pins σ H s)(r:RelV x v)(ty:tyV X.K T x H):
   s.TypeIs v T /\ ∀a,v= .ref a -> ∃ob,s.heap.get? a=some ob /\ ob.dict=none:=by
 cases x with
 | str z=>
   obtain⟨t,rfl⟩:=r
   cases (show T= "str" from ty)
   exact⟨typeIs_str s z t,fun _ e=>nomatch e⟩
 | int i=>
   obtain⟨t,rfl⟩:=r
   cases (show T= "int" from ty)
   exact⟨typeIs_int s i t,fun _ e=>nomatch e⟩
 | ref p =>
   cases r
   rcases ty with⟨rfl,xs,hq⟩ | ⟨rfl,o,hk,hc,hd⟩ | ⟨rfl,hk⟩ | ⟨rfl,S,n,hk⟩
   · obtain⟨its,_,pl,_⟩:=I.list hq
     refine⟨pl.isList.typeIs,fun a e=> ?_⟩
     cases e
     obtain⟨o,n,e,c,hd,_⟩:=pl
     exact⟨o,e,hd⟩
   · refine⟨⟨o,I.kIn p o hk,hc⟩,fun a e=> ?_⟩
     cases e
     exact⟨o,I.kIn _ o hk,hd⟩
   · have z: ∃o,s.heap.get? p=some o /\ o.ExactDict:=by
       rcases hk with⟨kvs,hk⟩ | ⟨kvs,hk⟩
       · obtain⟨_,_,_,_,o,_,_,e,ex,_⟩:=I.hok p _ hk
         exact⟨o,e,ex⟩
       · obtain⟨_,_,_,_,o,_,_,e,ex,_⟩:=I.hok p _ hk
         exact⟨o,e,ex⟩
     obtain⟨o,e,ex⟩:=z
     refine⟨⟨o,e,ex.1⟩,fun a e2=> ?_⟩
     cases e2
     exact⟨o,e,ex.2.1⟩
   · obtain⟨o,_,_,_,e,ex,_⟩:=I.hok p _ hk
     refine⟨⟨o,e,ex.1⟩,fun a e2=> ?_⟩
     cases e2
     exact⟨o,e,ex.2.1⟩
 | _=>exact False.elim ty
def tBM (K:PySem.W.Frag)(T:String)(r:V ->List V ->Hp ->VK ->Prop)(to:TE)(t:TA):TE:=fun σ H Q=>to σ H fun x H1=>tyV K T x H1 /\ t σ H1 fun xs H2=>r x xs H2 Q
variable {o e:Expr}{es:List Expr}{to:TE}{t:TA}{name:Str}{apos cpos:Pos}{T id:String}{r:V ->List V ->Hp ->VK ->Prop}
theorem rK (pa:PlainAttrs T)(slot:Slot T name id)(hty:typeOf (.builtin id)=pure (.type "method_descriptor"))(hm:MtR X id r)(ho:PE X o to)(ha:PA X (e::es) t)
   (hbase:attributeBase o name X.env (eval o X.env)=eval o X.env:=by rfl)
   (hfew:((backTo cpos (starEach (e::es) X.env)).all (fun x=> !x.1) && (backToKw cpos (keywordEach [] X.env)).all (fun x=>x.1.isSome)
     && decide ((e::es).length+([]:List Keyword).length+(if([]:List Keyword).isEmpty then 0 else 1) <30))=true:=by rfl)
   (hline:(apos.endLine==cpos.line)=true:=by rfl) (hs:starEach (e::es) X.env=(false,eval e X.env)::starEach es X.env:=by rfl) (hplain:(backTo cpos (starEach es X.env)).any (·.1)=false:=by rfl):
   PE X (.Call (.Attribute o name apos) (e::es) [] cpos) (tBM X.K T r to t):=by
 intro pins s σ H Q I h
 refine wpAny_Call_method_late hbase hfew hline rfl (thn (ho pins s σ H _ I h) fun v s1 ⟨x,H1,I1,r1,ty,q1⟩=> ?_)
 obtain⟨h1,h2⟩:=wy I1 r1 ty
 refine⟨T,id,pa,slot,hty,h1,h2,?_⟩
 have hA:=ha cpos pins s1 σ H1 _ I1 q1
 rw[hs] at hA ⊢
 refine Calls.callWith_builtin (by show(false || (backTo cpos (starEach es X.env)).any (·.1))=false;rw[hplain] <;>rfl) (Calls.evalArgs_plain ?_)
 exact thn hA fun us s2 ⟨vs,H2,I2,r2,q2⟩=>hm pins s2 σ H2 x vs v us Q I2 r1 r2 q2
/- xs.append(e),list.index on a module's tuple .. are MtR facts of 06m -/
end
end L2
namespace L2
open PySem PySem.Spec PyProof.Rows
def MtM (X:Cx)(id:String)(r:V ->List V ->Hp ->VK ->Prop):Prop:=
 ∀ (pins:List (Addr×Obj)) (s:Shared) (σ:St) (H:Hp) (x:V) (xs:List V) (v:Value) (us:List Value) (Q:VK),Inv X pins σ H s ->RelV x v ->Vals xs us ->r x xs H Q ->
   wpAny (model X.prog X.w) X.A (call (.builtin id) (v::us)) (EP X pins σ Q) X.xe s
theorem Vals.one: ∀ {x:V} {us:List Value},Vals [x] us -> ∃u,us= [u] /\ RelV x u
 | _,_, .cons r .nil=>⟨_,rfl,r⟩
section
variable {X:Cx}{pins:List (Addr×Obj)}{σ:St}{H:Hp}{s:Shared}{l b:Addr}{xs ys zs:List V}
theorem Inv.lset {its its':List Value}{n:Nat}{f:Array Value ->Array Value}{t':Nat}(I:Inv X pins σ H s)(hH:H l=some (.lst xs))
   (e:s.heap.get? l=some {cls:= .type "list",data:= .seq its.toArray n}) (hf:f its.toArray=its'.toArray) (hv:Vals ys its') (hz:ys.length<=sizeLine):
   Inv X pins σ (upd H l (.lst ys)) {s with heap:=s.heap.update l (Obj.mapSeq f),toks:=t'}:=by
 have q:=PySem.IsL.update e f
 rw[hf] at q
 refine I.write (x:=l) (e:=l) (by rw[hH];exact trivial) (.inl rfl) (fun b' u hb hu=>(Heap.get?_update_other s.heap (Obj.mapSeq f) (Ne.symm hb)).trans hu) ⟨_,q⟩ ?_
 exact⟨hz,its',_,hv,q⟩
theorem Inv.lnew {its:List Value}{t':Nat}(I:Inv X pins σ H s)(hv:Vals ys its)(hz:ys.length<=sizeLine):
   Inv X pins σ (upd H s.heap.objs.size (.lst ys)) {s with heap:=s.heap.push {cls:= .type "list",data:= .seq its.toArray},toks:=t'}:=
 I.laid (fun _ _ q=>Heap.get?_push_of_some _ q) (Nat.le_refl _) ⟨hz,its,0,hv,Heap.get?_push_size _ rfl⟩
theorem Inv.fresh (I:Inv X pins σ H s):H s.heap.objs.size=none:=I.hok.fresh (Nat.le_refl _)
theorem Inv.lstM (I:Inv X pins σ H s)(hH:H l=some (.lst xs)):xs.length<=sizeLine /\ ∃ (its:List Value) (n:Nat),Vals xs its /\ xs.length=its.length /\ s.heap.get? l=some {cls:= .type "list",data:= .seq its.toArray n}:=by
 obtain⟨z,its,n,r,e⟩:=I.hok l _ hH
 exact⟨z,its,n,r,r.length,e⟩
theorem rZ {n:Nat}(h:n<=sizeLine):Builtin.List.listTooLong n=false:=by
 unfold Builtin.List.listTooLong
 exact decide_eq_false (by lia)
end
section
variable {X:Cx}
def nD:V ->List V ->Hp ->VK ->Prop:=fun x vs H Q=> ∃l xs y,x= .ref l /\ vs= [y] /\ H l=some (.lst xs) /\ xs.length<sizeLine /\ Q .non (upd H l (.lst (xs++ [y])))
theorem dU:MtM X "list.append" nD:=by
 intro pins s σ H x vs v us Q I rx rv h
 obtain⟨l,xs,y,rfl,rfl,hH,hz,q⟩:=h
 cases rx
 obtain⟨u,rfl,ru⟩:=rv.one
 obtain⟨z,its,n,r,hl,e⟩:=I.lstM hH
 refine call_meets F.slot_list_append ⟨_,e,rfl⟩ F.entry_list_append (F.args_list_append_2 _ _) (PySem.list_append l its.toArray n u (by rw[List.size_toArray];lia)) ⟨e,?_⟩
 refine⟨.non,_,I.lset (its':=its++ [u]) hH e (by simp) (r.append (.cons ru .nil)) ?_,rfl,q⟩
 rw[List.length_append,List.length_singleton]
 lia
def nC:V ->List V ->Hp ->VK ->Prop:=fun x vs H Q=> ∃l b xs zs,x= .ref l /\ vs= [.ref b] /\ H l=some (.lst xs) /\ H b=some (.lst zs) /\ xs.length+zs.length<=sizeLine /\ Q .non (upd H l (.lst (xs++zs)))
theorem oP:MtM X "list.extend" nC:=by
 intro pins s σ H x vs v us Q I rx rv h
 obtain⟨l,b,xs,zs,rfl,rfl,hH,hB,hz,q⟩:=h
 cases rx
 obtain⟨u,rfl,ru⟩:=rv.one
 cases ru
 obtain⟨z,its,n,r,hl,e⟩:=I.lstM hH
 obtain⟨z2,its2,n2,r2,hl2,e2⟩:=I.lstM hB
 have hsz:its.toArray.size+its2.toArray.size<=sizeLine:=by rw[List.size_toArray,List.size_toArray];lia
 have hlong:¬(!its.toArray.isEmpty && Builtin.List.listTooLong (its.toArray.size+its2.toArray.size))=true:=by
   rw[rZ hsz,Bool.and_false]
   exact Bool.false_ne_true
 refine call_meets F.slot_list_extend ⟨_,e,rfl⟩ F.entry_list_extend (F.args_list_extend_2 _ _)
   (AutoSeq1.list_extend_list_list_0 l its.toArray n b its2.toArray n2 hlong (by rw[List.size_toArray];lia) (by lia)) ⟨e,e2,?_⟩
 refine⟨.non,_,I.lset (its':=its++its2) hH e (by simp) (r.append r2) ?_,rfl,q⟩
 rw[List.length_append]
 lia
def rCat:R2:=fun x y H Q=> ∃l b xs zs,x= .ref l /\ y= .ref b /\ H l=some (.lst xs) /\ H b=some (.lst zs) /\ xs.length+zs.length<=sizeLine /\ ∀p,H p=none ->Q (.ref p) (upd H p (.lst (xs++zs)))
theorem rQ:OpR X (binaryOp .Add) rCat:=by
 intro pins s σ H x y v u Q I rx ry h
 obtain⟨l,b,xs,zs,rfl,rfl,hH,hB,hz,q⟩:=h
 cases rx
 cases ry
 obtain⟨z,its,n,r,hl,e⟩:=I.lstM hH
 obtain⟨z2,its2,n2,r2,hl2,e2⟩:=I.lstM hB
 refine PySem.P.add_list e e2 ?_ (by rw[List.size_toArray,List.size_toArray];lia)
 have ea:its.toArray++its2.toArray=(its++its2).toArray:=by simp
 rw[ea]
 exact⟨.ref _,_,I.lnew (t':=s.toks) (r.append r2) (by rw[List.length_append];lia),rfl,q _ I.fresh⟩
end
end L2
namespace L2
open PySem PySem.Spec PyProof.Rows
section
variable {κ:Type} [DecidableEq κ]
def cf (kvs:List (κ×V))(k:κ):Option V:=(kvs.find? fun kv=>decide (kv.1=k)).map (·.2)
def putK (kvs:List (κ×V))(k:κ)(v:V):List (κ×V):=
 if(kvs.any fun kv=>decide (kv.1=k))=true then kvs.map (fun kv=>if kv.1=k then(kv.1,v) else kv) else kvs++ [(k,v)]
def gh (kvs:List (κ×V))(k:κ):List (κ×V):=kvs.filter fun kv=>decide (kv.1≠k)
theorem gG {p:κ×V}{r:List (κ×V)}{k:κ}(e:p.1=k):cf (p::r) k=some p.2:=by simp[cf,List.find?_cons,e]
theorem gH {p:κ×V}{r:List (κ×V)}{k:κ}(e:¬p.1=k):cf (p::r) k=cf r k:=by simp[cf,List.find?_cons,e]
theorem kr (k:κ): ∀kvs:List (κ×V),(kvs.any fun kv=>decide (kv.1=k))=(cf kvs k).isSome
 | []=>rfl
 | p::r=>by
   rw[List.any_cons]
   by_cases e:p.1=k
   · simp only[gG e,decide_eq_true e,Bool.true_or,Option.isSome_some]
   · rw[gH e,decide_eq_false e,Bool.false_or];exact kr k r
theorem bW (kvs:List (κ×V))(k:κ)(v:V):(putK kvs k v).length<=kvs.length+1:=by
 unfold putK
 split
 · rw[List.length_map];lia
 · rw[List.length_append,List.length_cons,List.length_nil];lia
theorem eU.isSome_eq {o:Option V}{u:Option Value}(r:eU o u):o.isSome=u.isSome:=by
 cases o with
 | none=>cases u with
   | none=>rfl
   | some _=>exact(show False from r).elim
 | some _=>cases u with
   | none=>exact(show False from r).elim
   | some _=>rfl
theorem eU.getD {o:Option V}{u:Option Value}{d:V}{d':Value}(r:eU o u)(rd:RelV d d'):RelV (o.getD d) (u.getD d'):=by
 cases o with
 | none=>cases u with
   | none=>exact rd
   | some _=>exact(show False from r).elim
 | some _=>cases u with
   | none=>exact(show False from r).elim
   | some _=>exact r
theorem KV.val {kvs:List (κ×V)}{vs:List (κ×Value)}(r:KV kvs vs)(k:κ):eU (cf kvs k) (valueAt vs k):=by
 unfold KV at r
 induction r with
 | nil=>exact True.intro
 | @cons p q ps qs h t ih=>
   obtain⟨h1,h2⟩:=h
   by_cases e:p.1=k
   · have e':q.1=k:=h1.symm.trans e
     have b:valueAt (q::qs) k=some q.2:=by simp[valueAt,List.find?_cons,e']
     rw[gG e,b];exact h2
   · have e':¬q.1=k:=fun z=>e (h1.trans z)
     have b:valueAt (q::qs) k=valueAt qs k:=by simp[valueAt,List.find?_cons,e']
     rw[gH e,b];exact ih
theorem KV.any {kvs:List (κ×V)}{vs:List (κ×Value)}(r:KV kvs vs)(k:κ):(kvs.any fun kv=>decide (kv.1=k))=vs.any fun kv=>decide (kv.1=k):=by
 unfold KV at r
 induction r with
 | nil=>rfl
 | cons h t ih=>rw[List.any_cons,List.any_cons,ih,h.1]
theorem KV.repl {kvs:List (κ×V)}{vs:List (κ×Value)}(r:KV kvs vs)(k:κ){y:V}{u:Value}(ry:RelV y u):
   KV (kvs.map fun kv=>if kv.1=k then(kv.1,y) else kv) (vs.map fun kv=>if kv.1=k then(kv.1,u) else kv):=by
 unfold KV at r ⊢
 induction r with
 | nil=>exact .nil
 | @cons p q ps qs h t ih=>
   rw[List.map_cons,List.map_cons]
   refine .cons ?_ ih
   obtain⟨h1,h2⟩:=h
   by_cases e:p.1=k
   · rw[if_pos e,if_pos (h1.symm.trans e)];exact⟨h1,ry⟩
   · rw[if_neg e,if_neg (fun z=>e (h1.trans z))];exact⟨h1,h2⟩
theorem KV.put {kvs:List (κ×V)}{vs:List (κ×Value)}(r:KV kvs vs)(k:κ){y:V}{u:Value}(ry:RelV y u):KV (putK kvs k y) (stored vs k u):=by
 unfold putK stored
 rw[r.any k]
 by_cases e:(vs.any fun kv=>decide (kv.1=k))=true
 · rw[if_pos e,if_pos e];exact r.repl k ry
 · rw[if_neg e,if_neg e];exact Paired.snoc r ⟨rfl,ry⟩
theorem KV.drop {kvs:List (κ×V)}{vs:List (κ×Value)}(r:KV kvs vs)(k:κ):KV (gh kvs k) (without vs k):=by
 unfold KV at r ⊢
 unfold gh without
 induction r with
 | nil=>exact .nil
 | @cons p q ps qs h t ih=>
   obtain⟨h1,h2⟩:=h
   rw[List.filter_cons,List.filter_cons]
   by_cases e:p.1=k
   · have a:¬decide (p.1≠k)=true:=by simp[e]
     have b:¬decide (q.1≠k)=true:=by simp[h1.symm.trans e]
     rw[if_neg a,if_neg b];exact ih
   · have e':¬q.1=k:=fun z=>e (h1.trans z)
     have a:decide (p.1≠k)=true:=by simp[e]
     have b:decide (q.1≠k)=true:=by simp[e']
     rw[if_pos a,if_pos b];exact .cons ⟨h1,h2⟩ ih
theorem KV.keys {kvs:List (κ×V)}{vs:List (κ×Value)}(r:KV kvs vs):kvs.map (·.1)=vs.map (·.1):=by
 unfold KV at r
 induction r with
 | nil=>rfl
 | cons h t ih=>rw[List.map_cons,List.map_cons,ih,h.1]
theorem KV.length {kvs:List (κ×V)}{vs:List (κ×Value)}(r:KV kvs vs):kvs.length=vs.length:=Paired.length r
theorem sX (kvs:List (κ×V))(k:κ):(gh kvs k).length<=kvs.length:=List.length_filter_le _ _
end
theorem gg {P:Program}{w:World}{k:Key}{u:Value}(r:RelV (kV k) u):(aC P w).is k u=true:=by
 cases k with
 | inl i=>obtain⟨t,e⟩:=(show ∃t,u=Value.int i t from r);subst e;exact kX P w i t
 | inr x=>obtain⟨t,e⟩:=(show ∃t,u=Value.str x t from r);subst e;exact kW P w x t
theorem i9 {P:Program}{w:World}: ∀ {ks:List Key} {us:List Value},Vals (ks.map kV) us ->ItemsAre (aC P w) ks us
 | [],_,r=>by rw[List.map_nil] at r;cases r;exact .nil
 | k::ks,_,r=>by
   rw[List.map_cons] at r
   cases r with
   | cons h t=>exact .cons (gg h) (i9 t)
abbrev KT (H:Hp):List (List Key×V) ->List (List Key×Addr×Value) ->Prop:=Paired fun p q=>p.1=q.1 /\ H q.2.1=some (.tup (p.1.map kV)) /\ RelV p.2 q.2.2
theorem KT.val {H:Hp}{kvs:List (List Key×V)}{xs:List (List Key×Addr×Value)}(r:KT H kvs xs)(k:List Key):eU (cf kvs k) ((atKey xs k).map (·.2)):=by
 induction r with
 | nil=>exact True.intro
 | @cons p q ps qs h t ih=>
   obtain⟨h1,_,h2⟩:=h
   by_cases e:p.1=k
   · have e':q.1=k:=h1.symm.trans e
     have b:atKey (q::qs) k=some q.2:=by simp[atKey,List.find?_cons,e']
     rw[gG e,b];exact h2
   · have e':¬q.1=k:=fun z=>e (h1.trans z)
     have b:atKey (q::qs) k=atKey qs k:=by simp[atKey,List.find?_cons,e']
     rw[gH e,b];exact ih
theorem KT.repl {H:Hp}{kvs:List (List Key×V)}{xs:List (List Key×Addr×Value)}(r:KT H kvs xs)(k:List Key){y:V}{u:Value}(ry:RelV y u):
   KT H (kvs.map fun kv=>if kv.1=k then(kv.1,y) else kv) (xs.map (putAt k u)):=by
 induction r with
 | nil=>exact .nil
 | @cons p q ps qs h t ih=>
   rw[List.map_cons,List.map_cons]
   refine .cons ?_ ih
   obtain⟨h1,h2,h3⟩:=h
   unfold putAt
   by_cases e:p.1=k
   · rw[if_pos e,if_pos (h1.symm.trans e)];exact⟨h1,h2,ry⟩
   · rw[if_neg e,if_neg (fun z=>e (h1.trans z))];exact⟨h1,h2,h3⟩
theorem KT.put {H:Hp}{kvs:List (List Key×V)}{xs:List (List Key×Addr×Value)}(r:KT H kvs xs)(k:List Key){b:Addr}{y:V}{u:Value}(hb:H b=some (.tup (k.map kV)))(ry:RelV y u):
   KT H (putK kvs k y) (storedH xs k b u):=by
 have e:(kvs.any fun kv=>decide (kv.1=k))=(atKey xs k).isSome:=by
   rw[kr,(r.val k).isSome_eq,Option.isSome_map]
 unfold putK storedH
 rw[e]
 by_cases q:(atKey xs k).isSome=true
 · rw[if_pos q,if_pos q];exact r.repl k ry
 · rw[if_neg q,if_neg q];exact Paired.snoc r ⟨rfl,hb,ry⟩
theorem KT.keeps {H H':Hp}{kvs:List (List Key×V)}{xs:List (List Key×Addr×Value)}(r:KT H kvs xs)(ht: ∀b ys,H b=some (.tup ys) ->H' b=some (.tup ys)):KT H' kvs xs:=
 Paired.mapP r fun _ _ z=>⟨z.1,ht _ _ z.2.1,z.2.2⟩
section
variable {P:Program}{w:World}{H:Hp}{h:Heap}{a:Addr}
theorem vF {u:HO}(ok:HOk P w H h)(e:Rd H a u):aW P w H h a u:=e.ok ok
theorem gi {kvs:List (Key×V)}(ok:HOk P w H h)(e:Rd H a (.dK kvs)):kvs.length<=sizeLine /\ (a==sysModules)=false /\ ∃vs,KV kvs vs /\ h.DictOf (aC P w) a vs:=
 show aW P w H h a (.dK kvs) from vF ok e
theorem lx {kvs:List (Key×V)}(ok:HOk P w H h)(e:H a=some (.dK kvs)):kvs.length<=sizeLine /\ (a==sysModules)=false /\ ∃vs,KV kvs vs /\ h.DictOf (aC P w) a vs:=gi ok (.inl e)
theorem jW {ks:List Key}(ok:HOk P w H h)(e:H a=some (.tup (ks.map kV))):(tupleKind (aC P w)).is h ks a:=by
 obtain⟨_,its,r,o,h1,h2,n,h3,_⟩:=(show aW P w H h a (.tup (ks.map kV)) from ok a _ e)
 exact⟨o,its.toArray,n,h1,h2,h3,by simpa using i9 r⟩
theorem lr {kvs:List (List Key×V)}(ok:HOk P w H h)(e:Rd H a (.dT kvs)):kvs.length<=sizeLine /\ (a==sysModules)=false /\
   ∃xs,KT H kvs xs /\ h.DictOfH (tupleKind (aC P w)) a xs:=by
 obtain⟨z,y,xs,r,o,es,ep,h1,h2,h3,h4,h5⟩:=(show aW P w H h a (.dT kvs) from vF ok e)
 refine⟨z,y,xs,r,o,es,ep,h1,h2,h3,h4,fun x hx=> ?_,h5⟩
 have all: ∀ {l:List (List Key×V)} {m:List (List Key×Addr×Value)},KT H l m -> ∀x∈m,(tupleKind (aC P w)).is h x.1 x.2.1:=by
   intro l m q
   induction q with
   | nil=>intro x hx;exact nomatch hx
   | @cons p q ps qs hq t ih=>
     intro x hx
     rcases List.mem_cons.mp hx with e | hx
     · subst e
       exact jW ok (by rw[<- hq.1];exact hq.2.1)
     · exact ih x hx
 exact all r x hx
theorem dt_of {kvs:List (List Key×V)}(ok:HOk P w H h)(e:H a=some (.dT kvs)):kvs.length<=sizeLine /\ (a==sysModules)=false /\
   ∃xs,KT H kvs xs /\ h.DictOfH (tupleKind (aC P w)) a xs:=lr ok (.inl e)
end
def kj (H:Hp)(a:Addr)(y:V)(r:Option V):Prop:=
 (∃kvs k,Rd H a (.dK kvs) /\ y=kV k /\ r=cf kvs k) \/ ∃kvs k b,Rd H a (.dT kvs) /\ y= .ref b /\ H b=some (.tup (k.map kV)) /\ r=cf kvs k
def tQ (H:Hp)(a:Addr)(y v:V)(H':Hp):Prop:=
 (∃kvs k,H a=some (.dK kvs) /\ y=kV k /\ kvs.length<sizeLine /\ H'=upd H a (.dK (putK kvs k v))) \/
 ∃kvs k b,H a=some (.dT kvs) /\ y= .ref b /\ H b=some (.tup (k.map kV)) /\ kvs.length<sizeLine /\ H'=upd H a (.dT (putK kvs k v))
theorem kj.k {H:Hp}{a:Addr}{kvs:List (Key×V)}{k:Key}(e:H a=some (.dK kvs)):kj H a (kV k) (cf kvs k):= .inl ⟨kvs,k, .inl e,rfl,rfl⟩
theorem tQ.k {H:Hp}{a:Addr}{kvs:List (Key×V)}{k:Key}{v:V}(e:H a=some (.dK kvs))(hl:kvs.length<sizeLine):tQ H a (kV k) v (upd H a (.dK (putK kvs k v))):= .inl ⟨kvs,k,e,rfl,hl,rfl⟩
section
variable {X:Cx}{pins:List (Addr×Obj)}{σ:St}{H:Hp}{s:Shared}{a:Addr}{y v:V}{u r:Value}{o:Option V}{A:Around}{E:Value ->Shared ->Prop}
theorem Inv.big (I:Inv X pins σ H s):sysModules<s.heap.objs.size:=by
 have h:mainGlobals<s.heap.objs.size:=(I.mod.glob.keeps I.bk).lt
 exact Nat.lt_trans (by decide) h
theorem pA {Q:Value ->Shared ->Prop}(hu:A.units+1<cLine)(I:Inv X pins σ H s)(g:kj H a y (some v))(ry:RelV y u)(h: ∀w' s',Inv X pins σ H s' ->RelV v w' ->Q w' s'):
   wpAny (model X.prog X.w) A (getItem (.ref a) u) Q E s:=by
 rcases g with⟨kvs,k,e,ey,l⟩ | ⟨kvs,k,b,e,ey,eb,l⟩
 · subst ey
   obtain⟨z,hd,vs,rel,dd⟩:=gi I.hok e
   obtain⟨w',hw,rw'⟩:=eU.some_of (v:=v) (o:=valueAt vs k) (by rw[l];exact rel.val k)
   exact wpAny_getItem_of (gg ry) dd.mapOf hw (h w' _ (I.tok _) rw')
 · subst ey
   cases (show u=Value.ref b from ry)
   obtain⟨z,hd,xs,rel,dd⟩:=lr I.hok e
   obtain⟨w',hw,rw'⟩:=eU.some_of (v:=v) (o:=(atKey xs k).map (·.2)) (by rw[l];exact rel.val k)
   obtain⟨p,hp,hp2⟩:=Option.map_eq_some_iff.mp hw
   refine wpAny_getItem_heap (tupleKind_room_in1 hu) (jW I.hok eb) dd hp ?_
   rw[hp2]
   exact h w' _ (I.tok _) rw'
theorem fD {h':Heap}{t':Nat}{ob:HO}(I:Inv X pins σ H s)(mu:Mut (H a))(hs:Heap.SameBut a s.heap h')(he: ∃q,h'.get? a=some q)(new:aW X.prog X.w (upd H a ob) h' a ob):
   Inv X pins σ (upd H a ob) {s with heap:=h',toks:=t'}:=
 I.write (x:=a) (e:=a) mu (.inl rfl) (fun b q hb z=>(hs.2 b hb).trans z) he new
theorem ix {P:Program}{w:World}{H':Hp}{h':Heap}{kvs:List (Key×V)}{vs:List (Key×Value)}(z:kvs.length<=sizeLine)(hd:(a==sysModules)=false)(rel:KV kvs vs)(dd:h'.DictOf (aC P w) a vs):
   aW P w H' h' a (.dK kvs):=⟨z,hd,vs,rel,dd⟩
theorem pz {H':Hp}{Q:Unit ->Shared ->Prop}(hu:A.units+1<cLine)(I:Inv X pins σ H s)(g:tQ H a y v H')(ry:RelV y u)(rv:RelV v r)(h: ∀s',Inv X pins σ H' s' ->Q () s'):
   wpAny (model X.prog X.w) A (setItem (.ref a) u r) Q E s:=by
 rcases g with⟨kvs,k,e,ey,l,eH⟩ | ⟨kvs,k,b,e,ey,eb,l,eH⟩
 · subst ey eH
   obtain⟨z,hd,vs,rel,dd⟩:=lx I.hok e
   have hz:vs.length<=sizeLine:=by rw[<- rel.length];exact z
   have hl:(putK kvs k v).length<=sizeLine:=by have:=bW kvs k v;lia
   refine wpAny_setItem_pairs (hsz:=hz) (gg ry) dd fun h' dd' hs=>h _ ?_
   have he: ∃q,h'.get? a=some q:=let ⟨q,_,_,hq,_⟩:=dd';⟨q,hq⟩
   exact fD I (by rw[e];exact True.intro) hs he (ix hl hd (rel.put k rv) dd')
 · subst ey eH
   cases (show u=Value.ref b from ry)
   obtain⟨z,hd,xs,rel,dd⟩:=dt_of I.hok e
   have hz:xs.length<=sizeLine:=by rw[<- Paired.length rel];exact z
   have hl:(putK kvs k v).length<=sizeLine:=by have:=bW kvs k v;lia
   refine wpAny_setItem_heap (hsz:=hz) (tupleKind_room_in1 hu) (jW I.hok eb) dd fun h' dd' hs=>h _ ?_
   obtain⟨q,es,ep,hq,h2,h3,h4,_,h5⟩:=dd'
   refine fD I (by rw[e];exact True.intro) hs ⟨q,hq⟩ ⟨hl,hd,_,(rel.put k eb rv).keeps fun c ys ec=> ?_,q,es,ep,hq,h2,h3,h4,h5⟩
   rw[ar (ne_of ec e (fun z=>nomatch z))]
   exact ec
end
section
variable {X:Cx}{pins:List (Addr×Obj)}{σ:St}{H:Hp}{s:Shared}{a:Addr}{kvs:List (Key×V)}{k:Key}{u:Value}{A:Around}{E:Value ->Shared ->Prop}
theorem pB {Q:Unit ->Shared ->Prop}(I:Inv X pins σ H s)(e:H a=some (.dK kvs))(ry:RelV (kV k) u)(l:(cf kvs k).isSome=true)(h: ∀s',Inv X pins σ (upd H a (.dK (gh kvs k))) s' ->Q () s'):
   wpAny (model X.prog X.w) A (delItem (.ref a) u) Q E s:=by
 obtain⟨z,hd,vs,rel,dd⟩:=lx I.hok e
 refine wpAny_delItem_slot dd.typeIs (by decide) PySem.F.slot_dict_delitem
   (call_meetsIn PySem.F.slot_dict_delitem dd.typeIs PySem.F.entry_dict_delitem (PySem.F.args_dict_delitem_2 _ _) (meets_dict_delitem_pairs (aC X.prog X.w) a (gg ry)) ⟨vs,dd,by rw[<- rel.length];exact z,by rw[<- (rel.val k).isSome_eq];exact l,fun h' dd' hs=>h _ ?_⟩)
 have he: ∃q,h'.get? a=some q:=let ⟨q,_,_,hq,_⟩:=dd';⟨q,hq⟩
 exact fD I (by rw[e];exact True.intro) hs he (ix (Nat.le_trans (sX kvs k) z) hd (rel.drop k) dd')
end
def NoSl (i:Expr):Prop:= ∀ov iv,subscripted i false ov iv=operate [ov,iv] (getItem ov iv)
theorem uj {prog:Program}{w:World}{A:Around}{E:Value ->Shared ->Prop}{s:Shared}{env:Env}{value slice:Expr}{pos:Pos}{T id:String}{Q:Value ->Shared ->Prop}
   (hl:typeLookup (.type T) "__getitem__" =pure (some (.builtin id))) (hs:NoSl slice)
   (h:wpAny (model prog w) A (eval value env) (fun o s₁=>wpAny (model prog w) A (eval slice env) (fun i s₂=>s₂.TypeIs o T /\ wpAny (model prog w) A (getItem o i) Q E s₂) E s₁) E s):
   wpAny (model prog w) A (eval (.Subscript value slice pos) env) Q E s:=by
 refine Subscript_ (wpAny_mono h (fun o s₁ h₁=>wpAny_mono h₁ (fun i s₂ h₂=> ?_) fun _ _ x=>x) fun _ _ x=>x)
 obtain⟨hT,h₂⟩:=h₂
 unfold subscriptTail
 refine wpAny_bind ?_
 rw[getitemInPython_of_ne hT.not_modules]
 refine wpAny_bind (wpAny_specialOf hT hl ?_)
 have fin:wpAny (model prog w) A (subscripted slice false o i) (fun r s₃=>wpAny (model prog w) A (letTemporaryGo value o r >>=fun _=>pure r) Q E s₃) E s₂:=by
   rw[hs o i]
   exact wpAny_operating (wpAny_mono h₂ (fun r s₃ h₃=>wpAny_bind (wpAny_letTemporaryGo (wpAny_pure h₃))) fun _ _ x=>x)
 first
   | exact wpAny_pure (wpAny_bind fin)
   | exact wpAny_bind (wpAny_pure (wpAny_bind fin))
   | exact wpAny_bind fin
theorem lz {X:Cx}{pins:List (Addr×Obj)}{σ:St}{H:Hp}{s:Shared}{a:Addr}{y:V}{o:Option V}(I:Inv X pins σ H s)(g:kj H a y o):s.TypeIs (.ref a) "dict" :=by
 rcases g with⟨kvs,k,e,_,_⟩ | ⟨kvs,k,b,e,_,_,_⟩
 · obtain⟨_,_,vs,_,dd⟩:=gi I.hok e
   exact dd.typeIs
 · obtain⟨_,_,xs,_,dd⟩:=lr I.hok e
   exact dd.typeIs
def vt (td ty:TE):TE:=fun σ H Q=>td σ H fun x H1=>ty σ H1 fun y H2=> ∃a v,x= .ref a /\ kj H2 a y (some v) /\ Q v H2
def vC (td ty tv:TE):TS:=fun D σ H=>tv σ H fun v H1=>td σ H1 fun x H2=>ty σ H2 fun y H3=> ∃a H4,x= .ref a /\ tQ H3 a y v H4 /\ D.nx σ H4
def vD (td ty:TE):TS:=fun D σ H=>td σ H fun x H1=>ty σ H1 fun y H2=> ∃a kvs k,x= .ref a /\ H2 a=some (.dK kvs) /\ y=kV k /\ (cf kvs k).isSome=true /\ D.nx σ (upd H2 a (.dK (gh kvs k)))
section
variable {X:Cx}{o i e value:Expr}{pos pos' tpos:Pos}{td ty tv:TE}
theorem cn (hu:X.A.units+1<cLine)(ho:PE X o td)(hi:PE X i ty)(hs:NoSl i):PE X (.Subscript o i pos) (vt td ty):=by
 intro pins s σ H Q I h
 refine uj PySem.F.slot_dict_getitem.lookup hs (thn (ho pins s σ H _ I h) fun u s1 ⟨x,H1,I1,rx,q1⟩=>thn (hi pins s1 σ H1 _ I1 q1) fun iv s2 ⟨y,H2,I2,ry,a,v,ex,g,q2⟩=> ?_)
 subst ex
 obtain rfl:u=Value.ref a:=rx
 exact⟨lz I2 g,pA hu I2 g ry fun w' s3 I3 rw'=>⟨v,H2,I3,rw',q2⟩⟩
theorem jJ (hu:X.A.units+1<cLine)(ho:PE X o td)(hi:PE X i ty)(hv:PE X value tv)(hs:swapsWith value (some (.Subscript o i pos')) pos.line X.env=pure false):
   PS X (.Assign [.Subscript o i pos'] value pos) (vC td ty tv):=by
 intro pins s σ H D I h
 refine wpAny_Assign_Subscript (thn (hv pins s σ H _ I h) fun r s1 ⟨v,H1,I1,rv,q1⟩=>thn (ho pins s1 σ H1 _ I1 q1) fun u s2 ⟨x,H2,I2,rx,q2⟩=>thn (hi pins s2 σ H2 _ I2 q2) fun iv s3 ⟨y,H3,I3,ry,a,H4,ex,g,q3⟩=> ?_) hs
 subst ex
 obtain rfl:u=Value.ref a:=rx
 exact pz hu I3 g ry rv fun s4 I4=>⟨σ,H4,I4,q3⟩
theorem uw (ho:PE X o td)(hi:PE X i ty):PS X (.Delete [.Subscript o i tpos] pos) (vD td ty):=by
 intro pins s σ H D I h
 refine wpAny_Delete (wpAny_deleteEach_cons (wpAny_delete_Subscript (thn (ho pins s σ H _ I h) fun u s1 ⟨x,H1,I1,rx,q1⟩=>thn (hi pins s1 σ H1 _ I1 q1) fun iv s2 ⟨y,H2,I2,ry,a,kvs,k,ex,e,ey,l,q2⟩=> ?_)))
 subst ex ey
 obtain rfl:u=Value.ref a:=rx
 exact pB I2 e ry l fun s3 I3=>wpAny_deleteEach_nil ⟨σ,_,I3,q2⟩
end
theorem ly {P:Program}{w:World}{H:Hp}(h:Heap)(hb:sysModules<h.objs.size):aW P w H (h.push {cls:= .type "dict",data:= .dict #[]}) h.objs.size (.dK []):=
 ⟨Nat.zero_le _,beq_eq_false_iff_ne.mpr (Ne.symm (Nat.ne_of_lt hb)),[], .nil,Heap.DictOf.new h⟩
def qA:TE:=fun _ H Q=> ∀p,H p=none ->Q (.ref p) (upd H p (.dK []))
section
variable {X:Cx}{pos:Pos}
theorem cX:PE X (.Dict [] [] pos) qA:=fun pins s σ H Q I h=>
 wpAny_Dict_empty ⟨.ref s.heap.objs.size,_,I.laid (a:=s.heap.objs.size) (o:= .dK []) (t':=s.toks) (fun _ _ q=>Heap.get?_push_of_some _ q) (Nat.le_refl _) (ly s.heap I.big),rfl,h _ (I.hok.fresh (Nat.le_refl _))⟩
end
def lR:List (TE×TE) ->St ->Hp ->(List (V×V) ->Hp ->Prop) ->Prop
 | [],_,H,Q=>Q [] H
 | (tk,tv)::r,σ,H,Q=>tk σ H fun x H1=>tv σ H1 fun y H2=>lR r σ H2 fun ps H3=>Q ((x,y)::ps) H3
abbrev VV:List (V×V) ->List (Value×Value) ->Prop:=Paired fun p q=>RelV p.1 q.1 /\ RelV p.2 q.2
def PPs (X:Cx)(pos:Pos)(keys:List (Option Expr))(values:List Expr)(trs:List (TE×TE)):Prop:=
 ∀ (pins:List (Addr×Obj)) (s:Shared) (σ:St) (H:Hp) (Q:List (V×V) ->Hp ->Prop),Inv X pins σ H s ->lR trs σ H Q ->
   wpAny (model X.prog X.w) X.A (evalPairs (pairTrees keys values X.env pos)) (fun vs s'=> ∃ps H',Inv X pins σ H' s' /\ VV ps vs /\ Q ps H') X.xe s
theorem ux {X:Cx}{pos:Pos}:PPs X pos [] [] []:=fun pins s σ H Q I h=>pairTrees_nil_walk ⟨[],H,I, .nil,h⟩
theorem rC {X:Cx}{pos:Pos}{k v:Expr}{ks:List (Option Expr)}{vs:List Expr}{tk tv:TE}{trs:List (TE×TE)}(hk:PE X k tk)(hv:PE X v tv)(hr:PPs X pos ks vs trs):
   PPs X pos (some k::ks) (v::vs) ((tk,tv)::trs):=fun pins s σ H Q I h=>
 pairTrees_cons_walk (thn (hk pins s σ H _ I h) fun u s1 ⟨x,H1,I1,rx,q1⟩=>thn (hv pins s1 σ H1 _ I1 q1) fun w2 s2 ⟨y,H2,I2,ry,q2⟩=>
   thn (hr pins s2 σ H2 _ I2 q2) fun ws s3 ⟨ps,H3,I3,rel,q3⟩=>⟨(x,y)::ps,H3,I3, .cons ⟨rx,ry⟩ rel,q3⟩)
def dE (kvs more:List (Key×V)):List (Key×V):=more.foldl (fun acc kv=>putK acc kv.1 kv.2) kvs
theorem KV.merge: ∀ {more:List (Key×V)} {rs:List (Key×Value)} {kvs:List (Key×V)} {vs:List (Key×Value)},KV more rs ->KV kvs vs ->KV (dE kvs more) (merged vs rs):=by
 intro more rs kvs vs r
 unfold KV at r
 induction r generalizing kvs vs with
 | nil=>intro q;exact q
 | @cons p q ps qs h t ih=>
   intro r0
   have e:KV (putK kvs p.1 p.2) (stored vs q.1 q.2):=by
     have:=r0.put p.1 h.2
     rw[<- h.1];exact this
   exact ih e
theorem eg: ∀ (more kvs:List (Key×V)),(dE kvs more).length<=kvs.length+more.length
 | [],kvs=>by show kvs.length<=kvs.length+0;lia
 | p::r,kvs=>by
   have h1:=eg r (putK kvs p.1 p.2)
   have h2:=bW kvs p.1 p.2
   show(dE (putK kvs p.1 p.2) r).length<=_
   rw[List.length_cons];lia
theorem iD {P:Program}{w:World}: ∀ {kvs:List (Key×V)} {ws:List (Value×Value)},VV (kvs.map fun kv=>(kV kv.1,kv.2)) ws -> ∃rs,Carries (aC P w) ws rs /\ KV kvs rs
 | [],_,r=>by rw[List.map_nil] at r;cases r;exact⟨[],True.intro, .nil⟩
 | p ::kvs,_,r=>by
   rw[List.map_cons] at r
   cases r with
   | @cons a b as bs h t=>
     obtain⟨rs,c,q⟩:=iD (P:=P) (w:=w) t
     obtain⟨b1,b2⟩:=b
     exact⟨(p.1,b2)::rs,⟨gg h.1,rfl,c⟩, .cons ⟨rfl,h.2⟩ q⟩
def qy (trs:List (TE×TE)):TE:=fun σ H Q=> ∀p,H p=none ->lR trs σ (upd H p (.dK [])) fun ps H2=>H2 p=some (.dK []) /\ ∃kvs:List (Key×V),ps=kvs.map (fun kv=>(kV kv.1,kv.2)) /\ kvs.length<=15 /\ Q (.ref p) (upd H2 p (.dK (dE [] kvs)))
theorem uC {X:Cx}{pos:Pos}{keys:List (Option Expr)}{values:List Expr}{trs:List (TE×TE)}(h:PPs X pos keys values trs)(hall:keys.all (·.isSome)=true)(hl:keys.length=values.length)(h0:keys≠ [])
   (h15:keys.length<=15):PE X (.Dict keys values pos) (qy trs):=by
 intro pins s σ H Q I q
 have hn:=I.hok.fresh (Nat.le_refl s.heap.objs.size)
 have I1:=I.laid (a:=s.heap.objs.size) (o:= .dK []) (h':=s.heap.push {cls:= .type "dict",data:= .dict #[]}) (t':=s.toks) (fun _ _ q=>Heap.get?_push_of_some _ q) (Nat.le_refl _) (ly s.heap I.big)
 refine wpAny_Dict_walk (knd:=aC X.prog X.w) hall hl h0 h15 (thn (h pins _ σ _ _ I1 (q _ hn)) fun ws s2 ⟨ps,H2,I2,rel,e,kvs,ep,lk,q2⟩=> ?_)
 subst ep
 obtain⟨rs,c,rk⟩:=iD (P:=X.prog) (w:=X.w) rel
 obtain⟨z,hd,vs0,r0,dd⟩:=lx I2.hok e
 cases r0
 refine⟨rs,c,dd,fun h' dd' hs=>⟨.ref s.heap.objs.size,_,?_,rfl,q2⟩⟩
 have hz:(dE [] kvs).length<=sizeLine:=by
   have h1:=eg kvs []
   rw[List.length_nil] at h1
   rw[sizeLine_eq];lia
 have he: ∃q,h'.get? s.heap.objs.size=some q:=let ⟨q,_,_,hq,_⟩:=dd';⟨q,hq⟩
 exact fD I2 (by rw[e];exact True.intro) hs he (ix hz hd (rk.merge .nil) dd')
structure M1 (X:Cx)(o:Expr)(m:Str)(apos:Pos)(e:Expr)(cpos:Pos):Prop where
 base:attributeBase o m X.env (eval o X.env)=eval o X.env
 few:((backTo cpos (starEach [e] X.env)).all (fun x=> !x.1) && (backToKw cpos (keywordEach [] X.env)).all (fun x=>x.1.isSome)
   && decide (([e]:List Expr).length+([]:List Keyword).length+(if([]:List Keyword).isEmpty then 0 else 1) <30))=true
 line:(apos.endLine==cpos.line)=true
 trees:backTo cpos (starEach [e] X.env)= [(false,eval e X.env)]
structure M2 (X:Cx)(o:Expr)(m:Str)(apos:Pos)(e f:Expr)(cpos:Pos):Prop where
 base:attributeBase o m X.env (eval o X.env)=eval o X.env
 few:((backTo cpos (starEach [e,f] X.env)).all (fun x=> !x.1) && (backToKw cpos (keywordEach [] X.env)).all (fun x=>x.1.isSome)
   && decide (([e,f]:List Expr).length+([]:List Keyword).length+(if([]:List Keyword).isEmpty then 0 else 1) <30))=true
 line:(apos.endLine==cpos.line)=true
 trees:backTo cpos (starEach [e,f] X.env)= [(false,eval e X.env),(false,eval f X.env)]
def IsD (H:Hp)(a:Addr):Prop:=(∃kvs,Rd H a (.dK kvs)) \/ ∃kvs,Rd H a (.dT kvs)
theorem jX {X:Cx}{pins:List (Addr×Obj)}{σ:St}{H:Hp}{s:Shared}{a:Addr}(I:Inv X pins σ H s)(d:IsD H a):
   s.TypeIs (.ref a) "dict" /\ (∀b,Value.ref a= .ref b -> ∃ob,s.heap.get? b=some ob /\ ob.dict=none) /\ (a==sysModules)=false:=by
 rcases d with⟨kvs,e⟩ | ⟨kvs,e⟩
 · obtain⟨_,hd,vs,_,dd⟩:=gi I.hok e
   refine⟨dd.typeIs,fun b q=> ?_,hd⟩
   cases q
   obtain⟨ob,_,_,h1,h2,_⟩:=dd
   exact⟨ob,h1,h2.2.1⟩
 · obtain⟨_,hd,xs,_,dd⟩:=lr I.hok e
   refine⟨dd.typeIs,fun b q=> ?_,hd⟩
   cases q
   obtain⟨ob,_,_,h1,h2,_⟩:=dd
   exact⟨ob,h1,h2.2.1⟩
section
variable {X:Cx}{pins:List (Addr×Obj)}{σ:St}{H:Hp}{s:Shared}{a:Addr}{y d:V}{u r:Value}{o:Option V}{A:Around}{E:Value ->Shared ->Prop}
theorem xE {Q:Value ->Shared ->Prop}(hu:A.units+1<cLine)(I:Inv X pins σ H s)(g:kj H a y o)(ry:RelV y u)(rd:RelV d r)(h: ∀w' s',Inv X pins σ H s' ->RelV (o.getD d) w' ->Q w' s'):
   wpAny (model X.prog X.w) A (call (.builtin "dict.get") [.ref a,u,r]) Q E s:=by
 rcases g with⟨kvs,k,e,ey,l⟩ | ⟨kvs,k,b,e,ey,eb,l⟩
 · subst ey
   obtain⟨z,hd,vs,rel,dd⟩:=gi I.hok e
   refine call_meetsIn PySem.F.slot_dict_get dd.typeIs PySem.F.entry_dict_get (PySem.F.args_dict_get_3 _ _ _) (meets_dict_get_default (aC X.prog X.w) a (gg ry) hd r) ⟨_,dd.mapOf,h _ _ (I.tok _) ?_⟩
   rw[l]
   exact(rel.val k).getD rd
 · subst ey
   cases (show u=Value.ref b from ry)
   obtain⟨z,hd,xs,rel,dd⟩:=lr I.hok e
   refine call_meetsIn PySem.F.slot_dict_get dd.typeIs PySem.F.entry_dict_get (PySem.F.args_dict_get_3 _ _ _) (meetsH_dict_get_default (tupleKind (aC X.prog X.w)) a b hd r) ⟨tupleKind_room_in1 hu,k,xs,jW I.hok eb,dd,h _ _ (I.tok _) ?_⟩
   rw[l]
   exact(rel.val k).getD rd
end
def qB (td ty tx:TE):TE:=fun σ H Q=>td σ H fun x H1=> ∃a,x= .ref a /\ IsD H1 a /\ ty σ H1 fun y H2=>tx σ H2 fun z H3=> ∃o,kj H3 a y o /\ Q (o.getD z) H3
section
variable {X:Cx}{o e f:Expr}{apos cpos:Pos}{td ty tx:TE}
theorem fg (hu:X.A.units+1<cLine)(ho:PE X o td)(he:PE X e ty)(hf:PE X f tx)(m:M2 X o "get" apos e f cpos):PE X (.Call (.Attribute o "get" apos) [e,f] [] cpos) (qB td ty tx):=by
 intro pins s σ H Q I h
 refine wpAny_Call_method m.base m.few m.line PySem.F.plainAttrs_dict PySem.F.slot_dict_get PySem.F.type_dict_get (thn (ho pins s σ H _ I h) fun u s1 ⟨x,H1,I1,rx,a,ex,d,q1⟩=> ?_)
 subst ex
 obtain rfl:u=Value.ref a:=rx
 obtain⟨t1,t2,_⟩:=jX I1 d
 refine⟨t1,t2,?_⟩
 rw[m.trees]
 refine Calls.callWith_builtin rfl (Calls.evalArgs_plain (Calls.spliced_cons (thn (he pins s1 σ H1 _ I1 q1) fun iv s2 ⟨y,H2,I2,ry,q2⟩=>
   Calls.spliced_cons (thn (hf pins s2 σ H2 _ I2 q2) fun fv s3 ⟨z,H3,I3,rz,ov,g,q3⟩=>Calls.spliced_nil ?_))))
 exact xE hu I3 g ry rz fun w' s4 I4 rw'=>⟨_,H3,I4,rw',q3⟩
end
end L2
namespace Att
open PySem PySem.W PySem.Calls PyProof.Rows
theorem gr {P:Params}{h:Heap}: ∀ (ns:List Int) (vs:List Value),WellAll P h vs (ns.map WData.int) ->IntsAre vs ns:=by
 intro ns
 induction ns with
 | nil=>
   intro vs w
   rw[List.map_nil] at w
   cases w
   exact .nil
 | cons n ns ih=>
   intro vs w
   rw[List.map_cons] at w
   cases w with
   | cons a b=>
     cases a
     exact .cons _ _ (ih _ b)
theorem oF {l:OpenLaw}{n:Nat}(hn:l.most=some n){P:Params}{h:Heap}{args:List WData}{vals:List Value}
   (hpre:l.row.toRowW.claim.pre args=true) (hwl:WellAll P h vals args):
   ∃a vs ns,vals= [Value.ref a] /\ args= [WData.list (ns.map WData.int)] /\ h.get? a=some {cls:= .type "list",data:= .seq vs.toArray} /\ IntsAre vs ns /\ ns.length<=n:=by
 have hsh:WShape.hasAll [] args [.list .int]=true:=(pre_splitW hpre).1
 have hc:l.pre.holds [] {args:=args}=true:=(pre_splitW hpre).2
 obtain⟨d,r,rfl,h1,h2⟩:=hasAllW_cons hsh
 obtain rfl:=hasAllW_nil h2
 obtain⟨xs,rfl,h3⟩:=hasW_list h1
 obtain⟨ns,rfl⟩:=items_int h3
 have hlen:ns.length<=n:=by
   unfold OpenLaw.pre at hc
   have h4:(WTm.not (.lt (.lit (.int (n:Int))) (.len (.arg 0)))).holds [] {args:= [.list (ns.map .int)]}=true:=by
     have h4:=(holds_andW hc).1
     rw[hn] at h4
     exact h4
   have h5:=condW_of h4 (w_not (w_lt w_lit (w_len_list (w_arg rfl))))
   rw[List.length_map] at h5
   refine Nat.le_of_not_lt fun q=> ?_
   have q':(n:Int) < ((ns.length:Nat):Int):=by lia
   first
     | (rw[decide_eq_true q'] at h5;exact absurd h5 (by decide))
     | (simp at h5;lia)
 cases hwl with
 | cons w1 w2=>
   cases w2
   cases w1 with
   | list ho hall=>exact⟨_,_,ns,rfl,rfl,ho,gr ns _ hall,hlen⟩
theorem oH (l:OpenLaw)(args:List WData):l.row.toRowW.claim.post args (.bool true) args=true:=
 postW_of (r:=l.row.toRowW) (X:=(true==true))
   (show WShape.has [] (.bool true) .bool=true by first | rfl | decide | simp[WShape.has,WShape.arms,WShape.armsAll])
   (show(WTm.eq .res (.lit (.bool true))).value [] {args:=args,res:=some (.bool true),after:=args}=some (.bool (true==true)) from w_eq_bool (w_res rfl) w_lit) rfl
theorem lH {l:OpenLaw}{n:Nat}{q:Program}{loose:List Str}{XP:(Str ->Option Value) ->Heap ->Prop}{YP:World ->Heap ->Prop}{d:DefRec}
   (hn:l.most=some n) (hdf:d.params.defaults= [])
   (call: ∀ (w:World) (s₀ s₁:Shared) (mg mb:Str ->Option Value) (fa:Addr) (o:Obj) (pm cd doc:Value) (a:Addr) (vs:List Value) (ns:List Int),
     Ground q loose [] XP w s₀ mg mb s₁.heap ->YP w s₁.heap ->
     s₁.heap.get? fa=some o ->o.data= .func (docDef d.name d.params d.body d.scope pm cd doc) ->s₁.heap.CodeRec cd d.name ->mg d.name=some (.ref fa) ->
     s₁.heap.get? a=some {cls:= .type "list",data:= .seq vs.toArray} ->IntsAre vs ns ->ns.length<=n ->s₁.gens= #[] ->
     codeAny (model l.prog w) callerA (.call (.ref fa) ⟨[.ref a],[]⟩) (fun r s'=>r= .ok (.ret (.bool true)) /\ OldK s₁.heap s'.heap /\ s'.os=s₁.os /\ AllBare s'.gens) s₁):
   WalkO q loose XP YP l.row.toRowW d [] (fun f vs=>PySem.call f vs):=by
 intro w s₀ s₁ mg mb G Y fa o pm cd doc dV kV ho hd hcd hD hmg hg args vals as hpre hlay hrd hwl hlo
 obtain rfl:dV= .none:=Dflts.none hD hdf
 obtain rfl:kV= .none:=Dflts.noKw hD
 obtain⟨a,vs,ns,rfl,rfl,hobj,hints,hlen⟩:=oF hn hpre hwl
 refine enter_call (codeAny_mono (call w s₀ s₁ mg mb fa o pm cd doc a vs ns G Y ho (fd_plain hd) hcd hmg hobj hints hlen hg) fun r s' hq=> ?_)
 obtain⟨rfl,h2,h3,h4⟩:=hq
 exact⟨.inl ⟨.bool true, .bool true,[],rfl,fun _=>rfl, .bool true,oH l _,fun _=>⟨List.Pairwise.nil,fun _ hm=>(nomatch hm)⟩⟩,h2,h3,h4⟩
end Att
namespace L2
open PySem PySem.Spec PyProof.Rows
theorem dM: ∀ {vs:List Value} {ns:List Int},IntsAre vs ns ->Vals (ns.map V.int) vs
 | _,_, .nil=> .nil
 | _,_, .cons n t h=> .cons ⟨t,rfl⟩ (dM h)
def Only (H:Hp):Prop:= ∀b,H b=none \/ ∃o xs,H b=some (.frz o (.lst xs))
theorem sq {P:Program}{w:World}{K:PySem.W.Frag}{mg mb:Str ->Option Value}{CX:CXT}{k:Nat}{fa a:Addr}{fd:FuncData}{x:Str}{sp:Sp}{s₁:Shared}{vs:List Value}{ns:List Int}
   (KX:K.In s₁.heap) (hns:s₁.heap.Ns mainGlobals mg) (hb:s₁.heap.Ns builtinsNs mb) (hbb: ∀x:Str,x≠ "__name__" ->mb x=bootBuiltins x) (hlim:s₁.heap.NoLimit) (hg:s₁.gens= #[])
   (ha:s₁.heap.get? a=some {cls:= .type "list",data:= .seq vs.toArray}) (hi:IntsAre vs ns) (hl:ns.length<=sizeLine) (hr:Room k callerA)
   (F: ∀base:Heap,K.In base ->base.Ns mainGlobals mg ->FnOk P w K mg base CX k fa fd [x] sp) (hbind: ∀ (s:Shared) (u:Value),BindsTo s fd ⟨[u],[]⟩ [(x,u)])
   (hsp: ∀H:Hp,Only H ->SqL K H a (ns.map V.int) ->sp [.ref a] H (fun v _=>v= .bl true) fun _ _ _=>False)
   (hCX: ∀H e s',CX [] H s₁ (fun _ _ _=>False) e s' ->False):
   codeAny (model P w) callerA (.call (.ref fa) ⟨[.ref a],[]⟩) (fun r s'=>r= .ok (.ret (.bool true)) /\ OldK s₁.heap s'.heap /\ s'.os=s₁.os /\ AllBare s'.gens) s₁:=by
 have rv:=dM hi
 have lenV:=hi.length
 have core : ∀H:Hp,Only H ->SqL K H a (ns.map V.int) ->HOk P w H s₁.heap ->(∀b,H b≠none ->b=a) ->(H a≠none ->K.lookup a=none) ->
     codeAny (model P w) callerA (.call (.ref fa) ⟨[.ref a],[]⟩) (fun r s'=>r= .ok (.ret (.bool true)) /\ OldK s₁.heap s'.heap /\ s'.os=s₁.os /\ AllBare s'.gens) s₁:=by
   intro H hO hS hok hA hK
   have base_of: ∀ {b:Addr} {o:Obj},s₁.heap.get? b=some o ->H b=none ->(j5 s₁.heap H).get? b=some o:=fun e n=>sO e n
   have noA: ∀ {b:Addr} {o:Obj} {es:Array DictEntry} {ep:Nat},s₁.heap.get? b=some o ->o.data= .dict es ep ->H b=none:=fun {b o es ep} e d=>by
     cases q:H b with
     | none=>rfl
     | some u=>
       have e':b=a:=hA b (by rw[q];simp)
       subst e'
       rw[ha] at e;cases e
       have d':Data.seq vs.toArray _=Data.dict es ep:=d
       cases d'
   have nsK: ∀ {b:Addr} {m:Str ->Option Value},s₁.heap.Ns b m ->(j5 s₁.heap H).Ns b m:=fun {b m} ⟨o,es,ep,e,d,r⟩=>⟨o,es,ep,base_of e (noA e d),d,r⟩
   have hKb:K.In (j5 s₁.heap H):=fun b o e=>base_of (KX b o e) (by
     cases q:H b with
     | none=>rfl
     | some u=>
       have e':b=a:=hA b (by rw[q];simp)
       subst e'
       rw[hK (by rw[q];simp)] at e;cases e)
   have hM:Mod K mg (j5 s₁.heap H):=⟨hKb,nsK hns,⟨mb,nsK hb,hbb⟩,let ⟨mc,h1,h2⟩:=hlim;⟨mc,nsK h1,h2⟩⟩
   have e0:Env0 P w K mg (j5 s₁.heap H) callerA [] s₁ H:=⟨rfl,hM,fun b o e=>uI e,Nat.le_of_eq (pj _ _),trivial,fun b hb=>absurd (show b∈([]:List Addr) from hb) (by simp),hok, .of_eq hg⟩
   refine codeAny_mono ((F _ hKb (nsK hns)).run callerA [] s₁ H ⟨[.ref a],[]⟩ [.ref a] [.ref a] _ _ hr e0 (hbind s₁ (.ref a)) (.cons rfl .nil) (hsp H hO hS)) fun r s' h=> ?_
   cases r with
   | error e=>exact(hCX H e s' h).elim
   | ok fl =>
     cases fl with
     | next=>exact False.elim h
     | brk=>exact False.elim h
     | cont=>exact False.elim h
     | ret u=>
       obtain⟨v,H',os,bare,un,hok',r',q⟩:=h
       have q':v= .bl true:=q
       subst q'
       obtain rfl:u=Value.bool true:=r'
       refine⟨rfl,OldK.of_keep fun b o e=> ?_,os,bare⟩
       cases q:H b with
       | none=>exact un.keep b o e q (by intro z;exact absurd (show b∈([]:List Addr) from z) (by simp)) (by simp)
       | some u=>
         rcases hO b with z | ⟨ob,xs,z⟩
         · rw[q] at z;cases z
         · have z2:=un.frzs b ob _ z
           obtain⟨e1,_⟩:=hok b _ z
           obtain⟨e2,_⟩:=hok' b _ z2
           rw[e] at e1;cases e1
           exact e2
 cases hk:K.lookup a with
 | some o=>
   have e:=KX a o hk
   rw[ha] at e
   cases e
   refine core (fun _=>none) (fun _=> .inl rfl) (.inr ⟨_,vs.toArray,_,hk,rfl,rfl,rfl,by rw[List.size_toArray,lenV];exact hl,by simpa using rv⟩) (fun b u z=>by have z':(none:Option HO)=some u:=z;cases z') (fun b z=>absurd rfl z) fun z=>absurd rfl z
 | none=>
   refine core (fun b=>if b=a then some (.frz {cls:= .type "list",data:= .seq vs.toArray} (.lst (ns.map V.int))) else none) (fun b=> ?_) (.inl (.inr ⟨{cls:= .type "list",data:= .seq vs.toArray},if_pos rfl⟩)) (fun b u z=> ?_) (fun b z=> ?_) fun _=>hk
   · by_cases hb:b=a
     · exact .inr ⟨_,_,if_pos hb⟩
     · exact .inl (if_neg hb)
   · by_cases hb:b=a
     · have z':=(if_pos hb).symm.trans z
       cases z'
       subst hb
       exact⟨ha,by rw[List.length_map];exact hl,vs,_,rv,ha⟩
     · have z':=(if_neg hb).symm.trans z
       cases z'
   · by_cases hb:b=a
     · exact hb
     · exact absurd (if_neg hb) z
end L2
namespace L2
open PySem PySem.Spec PyProof.Rows
theorem ud {l:PySem.W.OpenLaw}{n k:Nat}{q:Program}{loose:List Str}{XP:(Str ->Option Value) ->Heap ->Prop}{YP:World ->Heap ->Prop}{d:DefRec}{K:Params ->PySem.W.Frag}{CX:World ->CXT}{sp:World ->Sp}{x:Str}
   (hn:l.most=some n) (hn2:n<=sizeLine) (hdf:d.params.defaults= []) (hr:Room k callerA)
   (hY: ∀ (w:World) (h:Heap),YP w h ->(K w.params).In h)
   (F : ∀ (w:World) (mg:Str ->Option Value) (fa:Addr) (h:Heap),(K w.params).In h ->h.Ns mainGlobals mg ->mg d.name=some (.ref fa) ->
     ∃ fd:FuncData,(∀ (s:Shared) (u:Value),BindsTo s fd ⟨[u],[]⟩ [(x,u)]) /\
       ∀base:Heap,(K w.params).In base ->base.Ns mainGlobals mg ->FnOk l.prog w (K w.params) mg base (CX w) k fa fd [x] (sp w))
   (hsp: ∀ (w:World) (H:Hp) (a:Addr) (ns:List Int),ns.length<=n ->Only H ->SqL (K w.params) H a (ns.map V.int) ->sp w [.ref a] H (fun v _=>v= .bl true) fun _ _ _=>False)
   (hCX: ∀ (w:World) (H:Hp) (s:Shared) (e:Value) (s':Shared),CX w [] H s (fun _ _ _=>False) e s' ->False):
   PySem.W.WalkO q loose XP YP l.row.toRowW d [] (fun f vs=>PySem.call f vs):=by
 refine Att.lH hn hdf fun w s₀ s₁ mg mb fa o pm cd doc a vs ns G Y ho hd hcd hmg hobj hints hlen hg=> ?_
 have KX:=hY w _ Y
 obtain⟨fd,hb,hF⟩:=F w mg fa _ KX G.T.g hmg
 exact sq KX G.T.g G.T.b G.T.builtins G.T.nolimit hg hobj hints (Nat.le_trans hlen hn2) hr hF hb (fun H hO hS=>hsp w H a ns hlen hO hS) fun H e s'=>hCX w H s₁ e s'
end L2
namespace L2
open PySem PySem.Spec PyProof.Rows
def bM (s:Stmt):Arguments:=match s with
 | .FunctionDef _ a _ _ _ _ _ _ _ _=>a
 | _=> {posonlyargs:= [],args:= [],vararg:=none,kwonlyargs:= [],kw_defaults:= [],kwarg:=none,defaults:= []}
def bg (s:Stmt):List Stmt:=match s with
 | .FunctionDef _ _ b _ _ _ _ _ _ _=>b
 | _=> []
def ai (s:Stmt):Scope:=match s with
 | .FunctionDef _ _ _ _ _ _ sc _ _ _=>sc
 | _=> {kind:= .function,names:= [],isGenerator:=false,isCoroutine:=false}
abbrev CX0:CXT:=fun _ _ _ _ _ _=>False
abbrev E0:XK:=fun _ _ _=>False
theorem vK {X:Cx}:Passes CX0 X E0:=fun _ _ _ _ _ _ _ h=>h.elim
structure Fun (K:PySem.W.Frag)(x qual:Str)(st:Stmt)(f:Addr)(fd:FuncData):Prop where
 ex: ∃ (oc:Value) (od:Option Addr) (kV doc pm:Value) (an:Option Addr) (cdv ct:Value) (osl:Array (Option Value)),
   fd=PySem.W.fnOf x qual (bM st) (bg st) (ai st) .none kV doc pm an cdv ct /\ K.lookup f=some ⟨oc,od, .func fd,osl⟩ /\ PySem.W.codeIn K cdv qual=true
 kp:PySem.W.keepIn K (.ref f)=true
section
variable {P:Program}{w:World}{K:PySem.W.Frag}{mg:Str ->Option Value}{base:Heap}
theorem Fun.ok {x qual:Str}{st:Stmt}{f:Addr}{fd:FuncData}{N ps:List Str}{k:Nat}{sp:Sp}(F:Fun K x qual st f fd)(S:FnScope N ps (ai st))(len: ∀vs H Q E,sp vs H Q E ->vs.length=ps.length)
   (hbody: ∀ (cdv:Value) (A:Around) (outer:List Env) (s:Shared) (H:Hp) (vs:List V) (Q:VK) (E:XK),Room k (A.deeper (envOfC qual (ai st) s.heap.objs.size f cdv)) ->sp vs H Q E ->
     ∃t,PSs (bh CX0 P w K mg base N qual (ai st) f cdv A outer s H E).nox (bg st) t /\ t {nx:=fun _ H'=>Q .non H',rt:=Q} (start N vs) H):FnOk P w K mg base CX0 (k+1) f fd ps sp:=by
 obtain⟨oc,od,kV,doc,pm,an,cdv,ct,osl,rfl,lk,hcd⟩:=F.ex
 refine fn_of lk hcd S len fun A outer s H vs Q E hr hsp=> ?_
 obtain⟨t,h,q⟩:=hbody cdv A outer s H vs Q E hr hsp
 exact⟨t,h.nox,q⟩
theorem Fun.binds {x qual:Str}{st:Stmt}{f:Addr}{fd:FuncData}{ps:List Str}(F:Fun K x qual st f fd)
   (h: ∀ (kV doc pm:Value) (an:Option Addr) (cdv ct:Value) (us:List Value),us.length=ps.length ->bindArgs (PySem.W.fnOf x qual (bM st) (bg st) (ai st) .none kV doc pm an cdv ct) ⟨us,[]⟩=pure (ps.zip us)):Binds K fd ps []:=by
 obtain⟨oc,od,kV,doc,pm,an,cdv,ct,osl,rfl,lk,hcd⟩:=F.ex
 exact .all (h kV doc pm an cdv ct)
theorem j7 {x qual:Str}{st:Stmt}{f:Addr}{oc:Value}{od an:Option Addr}{osl:Array (Option Value)}{kV doc pm cdv ct:Value}(l:K.lookup f=some ⟨oc,od, .func (PySem.W.fnOf x qual (bM st) (bg st) (ai st) .none kV doc pm an cdv ct),osl⟩)
   (c:PySem.W.codeIn K cdv qual=true) (k:PySem.W.keepIn K (.ref f)=true):Fun K x qual st f (PySem.W.fnOf x qual (bM st) (bg st) (ai st) .none kV doc pm an cdv ct):=⟨⟨oc,od,kV,doc,pm,an,cdv,ct,osl,rfl,l,c⟩,k⟩
end
theorem cc {A:Around}{k:Nat}(hr:Room k A):A.units+1<cLine:=Nat.lt_of_le_of_lt (Nat.add_le_add_left (by decide:1<=64) _) hr.units
section
variable {X:Cx}
theorem pv (i:Nat){x:Str}{pos:Pos}(hN:X.N[i]? =some x:=by rfl)(hv:Vis X.env.scope x:=by first | exact Or.inl rfl | exact Or.inr (Or.inl rfl) | exact Or.inr (Or.inr rfl))(hd:(x==("__debug__" :Str))=false:=by decide)
   (hcd:(x==("__classdict__" :Str))=false:=by decide):PE X (.Name x pos) (tVar i):=wW hN hv hd hcd
end
def bz (H H':Hp):Prop:= ∀b o,H b=some o ->H' b=some o
section
variable {κ:Type} [DecidableEq κ]
theorem nO: ∀ {l:List κ} {k:κ},l.Nodup ->¬k∈l ->(l++ [k]).Nodup
 | [],k,_,_=>by simp
 | a::r,k,h,hk=>by
   obtain⟨h1,h2⟩:=List.nodup_cons.mp h
   show(a::(r++ [k])).Nodup
   refine List.nodup_cons.mpr ⟨fun m=> ?_,nO h2 fun m=>hk (List.mem_cons.mpr (Or.inr m))⟩
   rcases List.mem_append.mp m with q | q
   · exact h1 q
   · exact hk (List.mem_cons.mpr (Or.inl (List.mem_singleton.mp q).symm))
end
end L2
namespace L2
open PySem PySem.Spec PyProof.Rows
theorem aI {α:Type}{x y:Str}{c:α}{l:List (Str×α)}:((y,c)::l).lookup x=if x=y then some c else l.lookup x:=by
 by_cases h:x=y
 · subst h;simp[List.lookup_cons]
 · rw[if_neg h,List.lookup_cons]
   have:(x==y)=false:=by simpa using h
   rw[this]
theorem dg {env:Env}: ∀ (names:List (Str×NameKind)) (acc:List (Str×Addr)),(∀y∈names,y.2= .free -> ∃c,env.cells.lookup y.1=some c) ->(∀x c,acc.lookup x=some c ->env.cells.lookup x=some c) ->
   ∃ cl,(forIn names acc fun x s=>if(x.snd==NameKind.free)=true then(do let c <- cellOf env x.fst;pure (ForInStep.yield ((x.fst,c)::s)):Sem _) else pure (ForInStep.yield s))=(pure cl:Sem (List (Str×Addr))) /\
     (∀x c,cl.lookup x=some c ->env.cells.lookup x=some c) /\ (∀x,(acc.lookup x).isSome=true ->(cl.lookup x).isSome=true) /\ ∀y∈names,y.2= .free ->(cl.lookup y.1).isSome=true
 | [],acc,_,h2=>⟨acc,rfl,h2,fun _ h=>h,fun _ h=>absurd h (by simp)⟩
 | (n, k)::r,acc,h1,h2=>by
   by_cases hk:k=NameKind.free
   · subst hk
     obtain⟨c,hc⟩:=h1 (n, .free) List.mem_cons_self rfl
     have h2': ∀x c',((n,c)::acc).lookup x=some c' ->env.cells.lookup x=some c':=fun x c' e=>by
       rw[aI] at e
       by_cases hx:x=n
       · rw[if_pos hx] at e;cases e;rw[hx];exact hc
       · rw[if_neg hx] at e;exact h2 x c' e
     obtain⟨cl,e1,e2,e3,e4⟩:=dg r ((n,c)::acc) (fun y hy=>h1 y (List.mem_cons_of_mem _ hy)) h2'
     refine⟨cl,?_,e2,fun x hx=>e3 x ?_,fun y hy hf=> ?_⟩
     · rw[List.forIn_cons]
       have:cellOf env n=pure c:=by unfold cellOf;rw[hc]
       simp only[beq_self_eq_true,if_true,this,pure_bind]
       exact e1
     · rw[aI]
       by_cases hx':x=n
       · rw[if_pos hx'];rfl
       · rw[if_neg hx'];exact hx
     · rcases List.mem_cons.mp hy with rfl | hy
       · refine e3 n ?_
         rw[aI,if_pos rfl];rfl
       · exact e4 y hy hf
   · obtain⟨cl,e1,e2,e3,e4⟩:=dg r acc (fun y hy=>h1 y (List.mem_cons_of_mem _ hy)) h2
     refine⟨cl,?_,e2,e3,fun y hy hf=> ?_⟩
     · rw[List.forIn_cons]
       have:(k==NameKind.free)=false:=by simpa using hk
       simp only[this,Bool.false_eq_true,if_false,pure_bind]
       exact e1
     · rcases List.mem_cons.mp hy with rfl | hy
       · exact absurd hf hk
       · exact e4 y hy hf
theorem eN {scope:Scope}{env:Env}(h: ∀y∈scope.names,y.2= .free -> ∃c,env.cells.lookup y.1=some c):
   ∃cl,closureFor scope env=pure cl /\ (∀x c,cl.lookup x=some c ->env.cells.lookup x=some c) /\ ∀y∈scope.names,y.2= .free ->(cl.lookup y.1).isSome=true:=by
 obtain⟨cl,e1,e2,_,e4⟩:=dg scope.names [] h (fun _ _ e=>by simp at e)
 refine⟨cl,?_,e2,e4⟩
 simp only[closureFor]
 rw[e1,pure_bind]
theorem cy {env:Env}: ∀ {names:List (Str×NameKind)} {x:Str} {k:NameKind},
   (names.map fun(n,k)=>if(k==NameKind.free && env.scope.kind== .function && env.kindOf n==some .cell) then(n,NameKind.cell) else(n,k)).lookup x=some k ->
   names.lookup x=some k \/ (k= .cell /\ names.lookup x=some .free)
 | [],_,_,h=>by simp at h
 | (n, j)::r,x,k,h=>by
   have ih:= @cy env r x k
   rw[List.map_cons] at h
   by_cases hc:(j==NameKind.free && env.scope.kind== .function && env.kindOf n==some .cell)=true
   · simp only[hc,if_true] at h
     rw[aI] at h
     rw[aI]
     by_cases hx:x=n
     · rw[if_pos hx] at h ⊢
       cases h
       have hj:j=NameKind.free:=by
         rw[Bool.and_eq_true,Bool.and_eq_true] at hc
         exact eq_of_beq hc.1.1
       exact .inr ⟨rfl,by rw[hj]⟩
     · rw[if_neg hx] at h ⊢;exact ih h
   · simp only[hc,Bool.false_eq_true,if_false] at h
     rw[aI] at h
     rw[aI]
     by_cases hx:x=n
     · rw[if_pos hx] at h ⊢;exact .inl h
     · rw[if_neg hx] at h ⊢;exact ih h
theorem cb {env:Env}: ∀ {names:List (Str×NameKind)} {x:Str},names.lookup x=some .free ->
   (names.map fun(n,k)=>if(k==NameKind.free && env.scope.kind== .function && env.kindOf n==some .cell) then(n,NameKind.cell) else(n,k)).lookup x=some .cell \/
   (names.map fun(n,k)=>if(k==NameKind.free && env.scope.kind== .function && env.kindOf n==some .cell) then(n,NameKind.cell) else(n,k)).lookup x=some .free
 | [],_,h=>by simp at h
 | (n,j)::r,x,h=>by
   have ih:= @cb env r x
   rw[List.map_cons]
   rw[aI] at h
   by_cases hc:(j==NameKind.free && env.scope.kind== .function && env.kindOf n==some .cell)=true
   · simp only[hc,if_true]
     rw[aI]
     by_cases hx:x=n
     · rw[if_pos hx];exact .inl rfl
     · rw[if_neg hx] at h ⊢;exact ih h
   · simp only[hc,Bool.false_eq_true,if_false]
     rw[aI]
     by_cases hx:x=n
     · rw[if_pos hx] at h ⊢;cases h;exact .inr rfl
     · rw[if_neg hx] at h ⊢;exact ih h
abbrev au (X:Cx)(N':List Str)(scope:Scope)(cl:List (Str×Addr))(fp:List Addr)(s3:Shared)(H3:Hp):Cx:=
 {X with N:=N',s₀:=s3,H₀:=H3,env:=compEnvC scope cl s3.heap.objs.size X.env,outer:=X.stack,stack:=X.stack,ex:=fp,fn:=fun _=>false,pn:= [],xe:=fun _ _=>False}
def dv (own:Nat)(fr:List Nat)(σ:St):St:=List.replicate own none++fr.map fun j=>(σ[j]?).join
structure CScope (X:Cx)(own:List Str)(fr:List Nat)(N':List Str)(scope:Scope):Prop where
 kind:scope.kind= .function
 names:N'=own++fr.filterMap (fun j=>X.N[j]?)
 len:N'.length=own.length+fr.length
 nd:N'.Nodup
 nocell: ∀y∈scope.names,y.2≠ .cell
 loc: ∀y∈scope.names,y.2= .local ->scope.names.lookup y.1=some .local
 cap: ∀x∈fr.filterMap (fun j=>X.N[j]?),scope.names.lookup x=some .free
 free: ∀y∈scope.names,y.2= .free ->X.env.kindOf y.1=some .cell \/ X.env.kindOf y.1=some .free
theorem fA {N:List Str}: ∀ {fr:List Nat} {k:Nat} {x:Str},(fr.filterMap (fun j=>N[j]?)).length=fr.length ->(fr.filterMap (fun j=>N[j]?))[k]? =some x -> ∃j,fr[k]? =some j /\ N[j]? =some x
 | [],_,_,_,e=>by simp at e
 | j ::r,k,x,hl,e=>by
   cases hj:N[j]? with
   | none=>
     rw[List.filterMap_cons,hj] at hl
     have:=List.length_filterMap_le (fun j=>N[j]?) r
     simp only[List.length_cons] at hl
     lia
   | some y=>
     rw[List.filterMap_cons,hj] at hl e
     simp only[List.length_cons,Nat.add_right_cancel_iff] at hl
     cases k with
     | zero=>simp at e;exact⟨j,by simp,by rw[hj,e]⟩
     | succ k=>exact fA (k:=k) hl (by simpa using e)
section
variable {X:Cx}{pins:List (Addr×Obj)}{σ:St}{H:Hp}{s s3:Shared}
theorem lp {own N':List Str}{fr:List Nat}{scope:Scope}{cl:List (Str×Addr)}{fp:List Addr}{h':Heap}{t:Nat}(S:CScope X own fr N' scope)(I:Inv X pins σ H s)
   (hcl: ∀x c,cl.lookup x=some c ->X.env.cells.lookup x=some c) (hcl2: ∀y∈scope.names,y.2= .free ->(cl.lookup y.1).isSome=true)
   (hfp: ∀b∈fp,di X pins H b) (hft: ∀b∈fp,b<s.heap.objs.size)
   (hns:h'.Ns s.heap.objs.size (fun _=>none)) (hk: ∀b o,s.heap.get? b=some o ->h'.get? b=some o):
   Inv (au X N' scope cl fp s H) [] (dv own.length fr σ) H {s with heap:=h',toks:=t}:=by
 have look: ∀x,(compEnvC scope cl s.heap.objs.size X.env).kindOf x=(relabel scope X.env).names.lookup x:=fun _=>rfl
 have frlen:(fr.filterMap (fun j=>X.N[j]?)).length=fr.length:=by
   have:=S.len
   rw[S.names,List.length_append] at this
   lia
 refine⟨⟨I.ok.mod,?_,I.ok.glob,I.ok.blt,Nat.le_refl _,fun x y c e1 e2=>I.ok.inj x y c (hcl _ _ e1) (hcl _ _ e2),fun x hx=> ?_,(fun x c z _=>nomatch z),I.ok.hd,I.ok.frames, .inl rfl,fun b hb=>⟨?_,fun x c e=>(hfp b hb).2.2.2.2.1 x c (hcl x c e)⟩,
     I.bs,Nat.le_trans I.ok.bsz I.sz,fun b o e hb=> ?_,fun b hb hz=> ?_,I.stack,I.stkFree⟩,
   rfl,I.bare,Un.kept hk,⟨_,hns,fun i x v e1 e2 e3=> ?_⟩,fun x c e=> ?_,I.hok.fresh (Nat.le_refl _),fun x c e=>I.freeC x c (hcl x c e),fun p hp=>absurd (show p∈([]:List (Addr×Obj)) from hp) (by simp),I.hok.kept hk,?_⟩
 · show(relabel scope X.env).kind=_
   exact S.kind
 · have hx':scope.names.lookup x=some .free:=by
     rcases hx with hx | hx
     · rcases cy hx with q | ⟨_,q⟩
       · exact absurd rfl (S.nocell _ (PySem.mem_of_lookup q))
       · exact q
     · rcases cy hx with q | ⟨q,_⟩
       · exact q
       · cases q
   exact Option.isSome_iff_exists.mp (hcl2 _ (PySem.mem_of_lookup hx') rfl)
 · exact Nat.ne_of_lt (hft b hb)
 · rcases (hfp b hb).2.2.2.1 with z | z
   · exact I.ok.noex b o e z
   · exact absurd (Nat.lt_of_lt_of_le (Heap.lt_size e) (Nat.le_trans I.ok.bsz z)) (Nat.lt_irrefl _)
 · rcases List.mem_cons.mp (I.stkSub b hz) with q | q
   · exact(hfp b hb).2.1 q
   · exact(hfp b hb).2.2.1 q
 · -- a name's value
   have e1:(own++fr.filterMap (fun j=>X.N[j]?))[i]? =some x:=by rw[<- S.names];exact e1
   unfold dv at e2
   by_cases hi:i<own.length
   · rw[List.getElem?_append_left (by simpa using hi),List.getElem?_replicate,if_pos hi] at e2
     cases e2
   · rw [List.getElem?_append_right (by simpa using hi),List.length_replicate] at e2
     rw[List.getElem?_append_right (by simpa using hi)] at e1
     obtain⟨j,ej,ex⟩:=fA frlen e1
     rw[List.getElem?_map,ej] at e2
     have e2:(σ[j]?).join=some v:=by simpa using e2
     have e2':σ[j]? =some (some v):=by
       cases q:σ[j]? with
       | none=>rw[q] at e2;cases e2
       | some w=>rw[q] at e2;simp at e2;rw[e2]
     have hf:=S.cap x (List.mem_of_getElem? e1)
     have hm:=PySem.mem_of_lookup hf
     obtain⟨m,_,hl⟩:=I.loc
     have vis:Vis X.env.scope x:=by
       rcases S.free _ hm rfl with q | q
       · exact .inr (.inl q)
       · exact .inr (.inr q)
     obtain⟨u,r,l⟩:=hl j x v ex e2' vis
     refine⟨u,r, .inr ⟨?_,?_⟩⟩
     · exact cb hf
     · rcases l with⟨k,_⟩ | ⟨_,c,ec,z⟩
       · rcases S.free _ hm rfl with q | q
         · rw[k] at q;cases q
         · rw[k] at q;cases q
       · obtain⟨c',ec'⟩:=Option.isSome_iff_exists.mp (hcl2 _ hm rfl)
         have:=hcl _ _ ec'
         rw[ec] at this
         cases this
         exact⟨c,ec',z.keeps hk⟩
 · obtain⟨v,z⟩:=I.cell x c (hcl x c e)
   exact⟨v,z.keeps hk⟩
 · show(dv own.length fr σ).length=N'.length
   unfold dv
   rw[List.length_append,List.length_replicate,List.length_map,S.len]
end
def PTs (X:Cx)(cs:List Expr)(t:TT):Prop:=
 ∀ (pins:List (Addr×Obj)) (s:Shared) (σ:St) (H:Hp) (Q:Bool ->Hp ->Prop),Inv X pins σ H s ->t σ H Q ->
   wpAny (model X.prog X.w) X.A (forIn cs true fun c r=>if r=true then do let ok <- isTrue c X.env (eval c X.env);pure (ForInStep.yield ok) else pure (ForInStep.yield r)) (TP X pins σ Q) X.xe s
def tYes:TT:=fun _ H Q=>Q true H
theorem c7 {X:Cx}:PTs X [] tYes:=fun pins s σ H Q I h=>wpAny_tests_nil ⟨H,I,h⟩
theorem dR {X:Cx}{c:Expr}{t:TT}(h:PT X c t):PTs X [c] t:=fun pins s σ H Q I q=>wpAny_tests_one (h pins s σ H Q I q)
section
variable {prog:Program}{w:World}{A:Around}{R:Result ->Shared ->Prop}{s:Shared}
theorem pE {elt target iter:Expr}{ifs:List Expr}{scope:Scope}{pos:Pos}{it acc:Value}{env:Env}(I:Nat ->Shared ->Prop)
   (turn : ∀n s,I n s ->wpAny (model prog w) A (pyNext it) (fun r s₁=>match r with
     | none=>R (.ok .next) s₁
     | some v=>wpAny (model prog w) A (letOwnedTupleGo target it v) (fun _ s₀=>wpAny (model prog w) A (assign target env v) (fun _ s₂=>
         wpAny (model prog w) A (forIn ifs true fun c r=>if r=true then do let ok <- isTrue c env (eval c env);pure (ForInStep.yield ok) else pure (ForInStep.yield r)) (fun ok s₃=>if ok=true then wpAny (model prog w) A (eval elt env) (fun x s₄=>
           wpAny (model prog w) A (call (.builtin "list.append") [acc,x]) (fun _ s₅=> ∃m,m<n /\ I m s₅) (fun _ _=>False) s₄) (fun _ _=>False) s₃
           else ∃m,m<n /\ I m s₃) (fun _ _=>False) s₂)
         (fun _ _=>False) s₀) (fun _ _=>False) s₁) (fun _ _=>False) s)
   (n:Nat) (h:I n s):codeAny (model prog w) A (.compLoop (.ListComp elt [⟨target,iter,ifs,0⟩] scope pos) 0 it acc env) R s:=by
 refine codeAny_loop rfl I (fun n s hI=> ?_) n h
 show wpAny _ A ((compTurn (.ListComp elt [⟨target,iter,ifs,0⟩] scope pos) 0 it acc env).onRaise (fun x=>do noteFrame x env;theTreesLotGoes x)) _ _ s
 refine wpAny_noted ?_
 rw[compTurn_list]
 refine wpAny_bind (wpAny_standAt (wpAny_bind (wpAny_mono (turn n s hI) (fun r s₁ h₁=> ?_) fun _ _ h'=>h'.elim)))
 cases r with
 | none=>exact wpAny_pure h₁
 | some v=>
   refine wpAny_bind (wpAny_mono h₁ (fun _ s₀ h₀'=> ?_) fun _ _ h'=>h'.elim)
   refine wpAny_bind (wpAny_mono h₀' (fun _ s₂ h₂=> ?_) fun _ _ h'=>h'.elim)
   refine wpAny_bind (wpAny_mono h₂ (fun okb s₃ h₃=> ?_) fun _ _ h'=>h'.elim)
   cases okb with
   | false=>exact wpAny_pure ⟨rfl,h₃⟩
   | true=>exact wpAny_bind (wpAny_bind (wpAny_mono h₃ (fun x s₄ h₄=>wpAny_bind (wpAny_mono h₄ (fun _ s₅ h₅=>wpAny_pure (wpAny_pure ⟨rfl,h₅⟩)) fun _ _ h'=>h'.elim)) fun _ _ h'=>h'.elim))
end
end L2
namespace L2
open PySem PySem.Spec PyProof.Rows
def Wk (σ0 σ2:St):Prop:=σ2.length=σ0.length /\ ∀ (i:Nat) v,σ0[i]? =some (some v) ->σ2[i]? =some (some v)
def tR (own:Nat)(g:TG):Prop:= ∀ (c:St) (v:V) (H:Hp) (Q:St ->Hp ->Prop),g v (List.replicate own none++c) H Q ->g v (List.replicate own none++c) H fun σ2 H2=>Wk (List.replicate own none++c) σ2 /\ Q σ2 H2
theorem bC:tR 1 (fw 0):=by
 intro c v H Q h
 refine⟨⟨by simp,fun i u e=> ?_⟩,h⟩
 cases i with
 | zero=>simp at e
 | succ i=>simpa using e
theorem iE {K:PySem.W.Frag}:tR 2 (gTup K 2 (nZ (fw 0) (nZ (fw 1) gNil))):=by
 rintro c v H Q ⟨a,xs,e,hs,hl,x,r,rfl,y,r',rfl,rfl,h⟩
 refine⟨a,_,e,hs,hl,x,_,rfl,y,_,rfl,rfl,⟨by simp,fun i u e=> ?_⟩,h⟩
 match i with
 | 0=>simp at e
 | 1=>simp at e
 | i+2=>simpa using e
def vX (J:It)(own:Nat)(fr:List Nat)(g:TG)(tc:TT)(te:TE)(σ:St)(p:Addr)(H1:Hp)(Q:VK):Prop:=
 ∃ W :Nat ->Nat ->List V ->Hp ->Prop,(∃m,W 0 m [] (upd H1 p (.lst []))) /\ ∀i m ys H',W i m ys H' ->H' p=some (.lst ys) /\
   ((J.stop i H' /\ Q (.ref p) H') \/ (J.go i H' /\ ys.length<sizeLine /\ ∀x H2,J.yld i H' x H2 ->g x (dv own fr σ) H2 fun σ2 H3=>tc σ2 H3 fun b H4=>
     if b=true then te σ2 H4 fun y H5=> ∃zs,H5 p=some (.lst zs) /\ zs.length<sizeLine /\ ∃m',m'<m /\ W (i+1) m' (zs++ [y]) (upd H5 p (.lst (zs++ [y]))) else ∃zs m',m'<m /\ W (i+1) m' zs H4))
def qE (wi:TI)(own:Nat)(fr:List Nat)(g:TG)(tc:TT)(te:TE):TE:=fun σ H Q=>wi σ H fun J H1=> ∀p,H1 p=none ->vX J own fr g tc te σ p H1 Q
section
variable {X:Cx}{pins:List (Addr×Obj)}{σ:St}{H:Hp}{s s3:Shared}
theorem comp_back {N':List Str}{scope:Scope}{cl:List (Str×Addr)}{fp:List Addr}{pins':List (Addr×Obj)}{σ':St}{H':Hp}{s':Shared}(I3:Inv X pins σ H s3)(hfp: ∀b∈fp,di X pins H b)
   (Ic:Inv (au X N' scope cl fp s3 H) pins' σ' H' s'):Inv X pins σ H' s':=
 I3.call' (ch:=fp) Ic.os Ic.base Ic.hok Ic.bare fun b hb=>⟨(hfp b hb).2.2.2.1,(hfp b hb).2.1,(hfp b hb).2.2.2.2.1,(hfp b hb).2.2.2.2.2⟩
theorem fV {C:Addr}{σ':St}{H':Hp}{s':Shared}{h':Heap}(I3:Inv X pins σ H s3)(hC:C=s3.heap.objs.size)(J:Inv X pins σ' H' s')(hn:H' C=none)(hs:Heap.SameBut C s'.heap h'):Inv X pins σ' H' {s' with heap:=h'}:=by
 subst hC
 refine J.turned (t':=s'.toks) (it:=s3.heap.objs.size) (fun b o hb e=>hs.extBut b o hb e) hn (Nat.ne_of_gt I3.lt) (.inr I3.sz) (fun x c e z=> ?_) fun p hp z=> ?_
 · obtain⟨v,q⟩:=I3.cell x c e
   exact absurd q.lt (by rw[z];exact Nat.lt_irrefl _)
 · exact absurd (Heap.lt_size (I3.pin p hp).1) (by rw[z];exact Nat.lt_irrefl _)
theorem iC {tg iter elt:Expr}{ifs:List Expr}{pos:Pos}{own N':List Str}{fr:List Nat}{scope:Scope}{cl:List (Str×Addr)}{fp:List Addr}{it:Addr}{tn:Nat ->Heap ->Prop}{J:It}{g:TG}{tc:TT}{te:TE}{Q:VK}
   {E:Value ->Shared ->Prop} {RR:Value ->Addr ->Result ->Shared ->Prop}
   (hcalm:X.calm=true) (S:CScope X own fr N' scope) (hg: ∀s3 H3,PG (au X N' scope cl fp s3 H3) tg g) (hw:tR own.length g) (hc: ∀s3 H3,PTs (au X N' scope cl fp s3 H3) ifs tc) (he: ∀s3 H3,PE (au X N' scope cl fp s3 H3) elt te)
   (hcl: ∀x c,cl.lookup x=some c ->X.env.cells.lookup x=some c) (hcl2: ∀y∈scope.names,y.2= .free ->(cl.lookup y.1).isSome=true)
   (I:Inv X pins σ H s) (T:Turn X.prog X.w X.K tg J fp it tn) (st:tn 0 s.heap) (hfp: ∀b∈fp,di X pins H b) (h: ∀p,H p=none ->vX J own.length fr g tc te σ p H Q)
   (fin: ∀ (s3:Shared) (H3:Hp),Inv X pins σ H3 s3 ->(∀b∈fp,di X pins H3 b) -> ∀ (D:Addr) (σ':St) (H':Hp) (s':Shared) (t:Nat),D<s3.heap.objs.size ->Inv (au X N' scope cl fp s3 H3) [] σ' H' s' ->Q (.ref D) H' ->RR (.ref D) s3.heap.objs.size (.ok .next) s'):
   wpAny (model X.prog X.w) X.A (newList []) (fun acc s₃=>wpAny (model X.prog X.w) X.A (newFunctionEnv scope X.env.globals cl [] X.env.qual none .none (some X.env)) (fun cenv s₄=>
     codeAny (model X.prog X.w) X.A (.compStart (.ListComp elt [⟨tg,iter,ifs,0⟩] scope pos) 0 (.ref it) acc {cenv with scope:=relabel scope X.env}) (RR acc cenv.locals) s₄) E s₃) E s:=by
 refine wpAny_newObj_type ?_
 have hf:H s.heap.objs.size=none:=I.hok.fresh (Nat.le_refl _)
 obtain⟨W,⟨m0,w0⟩,turn⟩:=h _ hf
 generalize e3:({s with heap:=s.heap.push {cls:= .type "list",dict:=none,data:= .seq ([]:List Value).toArray}}:Shared)=s3
 have sz3:s3.heap.objs.size=s.heap.objs.size+1:=by rw[<- e3];exact Heap.size_push ..
 have up3: ∀b o,s.heap.get? b=some o ->s3.heap.get? b=some o:=fun b o e=>by rw[<- e3];exact Heap.get?_push_of_some _ e
 have I3:Inv X pins σ (upd H s.heap.objs.size (.lst [])) s3:=by
   rw[<- e3]
   exact I.laid (t':=s.toks) (fun b u e=>Heap.get?_push_of_some _ e) (Nat.le_refl _) ⟨Nat.zero_le _,[],0, .nil,Heap.get?_push_size _ rfl⟩
 have ftn: ∀b∈fp,b<s.heap.objs.size:=fun b hb=>by
   obtain⟨o,e,_⟩:=T.obj 0 _ st b hb
   exact Heap.lt_size e
 have hfp3: ∀b∈fp,di X pins (upd H s.heap.objs.size (.lst [])) b:=fun b hb=>⟨by rw[ar (Nat.ne_of_lt (ftn b hb))];exact(hfp b hb).1,(hfp b hb).2⟩
 refine wpAny_newFunctionEnv S.nocell (by intro y hy;simp at hy) (fun h₁ hns₁ hsb₁=> ?_) S.kind
 have old: ∀b o,s3.heap.get? b=some o ->h₁.get? b=some o:=fun b o e=>hsb₁.extBut b o (Nat.ne_of_lt (Heap.lt_size e)) (Heap.get?_push_of_some _ e)
 have Ic:=lp (t:=s3.toks+([]:List (Str×Value)).length) S I3 hcl hcl2 hfp3 (fun b hb=>by rw[sz3];exact Nat.lt_succ_of_lt (ftn b hb)) hns₁ old
 have st1:tn 0 h₁:=T.keep 0 _ _ st fun b hb o e=>old b o (up3 b o e)
 have stat: ∀ {H':Hp},(∀b∈fp,H' b=none) -> ∀b∈fp,di (au X N' scope cl fp s3 (upd H s.heap.objs.size (.lst []))) [] H' b:=fun hn b hb=>by
   refine⟨hn b hb,?_,?_, .inl hb,fun x c e=>(hfp b hb).2.2.2.2.1 x c (hcl x c e),fun p hp=>absurd (show p∈([]:List (Addr×Obj)) from hp) (by simp)⟩
   · show b≠s3.heap.objs.size
     rw[sz3];exact Nat.ne_of_lt (Nat.lt_succ_of_lt (ftn b hb))
   · exact Ic.ok.exfs b hb
 have loop:codeAny (model X.prog X.w) X.A (.compLoop (.ListComp elt [⟨tg,iter,ifs,0⟩] scope pos) 0 (.ref it) (.ref s.heap.objs.size) (compEnvC scope cl s3.heap.objs.size X.env)) (RR (.ref s.heap.objs.size) s3.heap.objs.size) {s3 with heap:=h₁,toks:=s3.toks+([]:List (Str×Value)).length}:=by
   refine pE (fun n s'=> ∃i ys H',Inv (au X N' scope cl fp s3 (upd H s.heap.objs.size (.lst []))) [] (dv own.length fr σ) H' s' /\ tn i s'.heap /\ (∀b∈fp,H' b=none) /\ W i n ys H') ?_ m0
     ⟨0,[],_,Ic,st1,fun b hb=>(hfp3 b hb).1,w0⟩
   rintro n s4 ⟨i,ys,H4,I4,st4,fr4,w4⟩
   obtain⟨hacc,alt⟩:=turn i n ys H4 w4
   rcases alt with⟨stop,q⟩ | ⟨go,hsz,step⟩
   · refine thn (T.done (au X N' scope cl fp s3 (upd H s.heap.objs.size (.lst []))) rfl rfl rfl hcalm i [] s4 _ H4 (fun _ _=>False) I4 (stat fr4) st4 stop) fun r s5 ⟨hr,I5⟩=> ?_
     subst hr
     exact fin s3 _ I3 hfp3 _ _ H4 s5 s5.toks (by rw[sz3];exact Nat.lt_succ_self _) I5 q
   · refine thn (T.item (au X N' scope cl fp s3 (upd H s.heap.objs.size (.lst []))) rfl rfl rfl hcalm i [] s4 _ H4 (fun _ _=>False) I4 (stat fr4) st4 go) fun r s5 ⟨u,hr,h5⟩=> ?_
     subst hr
     refine thn h5 fun _ s6 ⟨x,H6,I6,r6,y6,st6,fr6⟩=> ?_
     have I6':=I6.pinned (stat fr6) (T.obj _ _ st6)
     have stp:=hw _ x H6 _ (step x H6 y6)
     refine thn (hg s3 _ _ s6 _ H6 x u _ I6' r6 stp) fun _ s7 ⟨σ7,H7,I7,wk,q7⟩=> ?_
     have again: ∀ {H9:Hp} {s9:Shared} {ys':List V},Inv (au X N' scope cl fp s3 (upd H s.heap.objs.size (.lst []))) ([]++cA fp s6.heap) σ7 H9 s9 ->(∃m',m'<n /\ W (i+1) m' ys' H9) ->
         ∃m,m<n /\ ∃i ys H',Inv (au X N' scope cl fp s3 (upd H s.heap.objs.size (.lst []))) [] (dv own.length fr σ) H' s9 /\ tn i s9.heap /\ (∀b∈fp,H' b=none) /\ W i m ys H':=fun {H9 s9 ys'} I9 ⟨m',hm,w9⟩=>by
       refine⟨m',hm,i+1,ys',H9,(I9.unpinned).weak ?_ wk.2,T.keep _ _ _ st6 fun b hb o e=>(I9.pin (b,o) (List.mem_append_right _ (List.mem_append_right _ (br hb e)))).1,fun b hb=> ?_,w9⟩
       · exact wk.1.symm
       · obtain⟨o,e,d⟩:=T.obj _ _ st6 b hb
         exact(I9.pin (b,o) (List.mem_append_right _ (List.mem_append_right _ (br hb e)))).2.1
     refine thn (hc s3 _ _ s7 σ7 H7 _ I7 q7) fun ok s8 ⟨H8,I8,q8⟩=> ?_
     cases ok with
     | false=>
       simp only[Bool.false_eq_true,if_false] at q8 ⊢
       obtain⟨zs,q8⟩:=q8
       exact again I8 q8
     | true=>
       simp only[if_true] at q8 ⊢
       refine thn (he s3 _ _ s8 σ7 H8 _ I8 q8) fun y s9 ⟨yv,H9,I9,ry,zs,hp9,hz9,q9⟩=> ?_
       refine thn (dU _ s9 σ7 H9 (.ref s.heap.objs.size) [yv] (.ref s.heap.objs.size) [y] (fun v H'=>H'=upd H9 s.heap.objs.size (.lst (zs++ [yv]))) I9 rfl (.cons ry .nil) ⟨_,zs,yv,rfl,rfl,hp9,hz9,rfl⟩) fun v s10 ⟨_,H10,I10,_,e10⟩=> ?_
       subst e10
       exact again I10 q9
 exact codeAny_compStart_list loop (T.self _ 0 _ _ _ st1 loop)
end
section
variable {X:Cx}
theorem Cx.Ok.cellsOf {own N':List Str}{fr:List Nat}{scope:Scope}(ok:X.Ok)(S:CScope X own fr N' scope): ∀y∈scope.names,y.2= .free -> ∃c,X.env.cells.lookup y.1=some c:=fun y hy hf=>ok.has y.1 (S.free y hy hf)
theorem bU {tg iter elt:Expr}{ifs:List Expr}{pos:Pos}{own N':List Str}{fr:List Nat}{scope:Scope}{wi:TI}{g:TG}{tc:TT}{te:TE}(hcalm:X.calm=true)(S:CScope X own fr N' scope)(hi:PI X tg iter wi)
   (hg: ∀cl fp s3 H3,PG (au X N' scope cl fp s3 H3) tg g) (hw:tR own.length g) (hc: ∀cl fp s3 H3,PTs (au X N' scope cl fp s3 H3) ifs tc) (he: ∀cl fp s3 H3,PE (au X N' scope cl fp s3 H3) elt te)
   (hs: ∀x,foldedSetIterable iter X.env x=pure x:=by intro _;rfl):PE X (.ListComp elt [⟨tg,iter,ifs,0⟩] scope pos) (qE wi own.length fr g tc te):=by
 intro pins s σ H Q I h
 obtain⟨cl,hclos,hcl,hcl2⟩:=eN (I.ok.cellsOf S)
 rw[eval_ListComp]
 refine wpAny_comprehension_free (use:=none) rfl hs hclos S.kind S.loc (thn (hi pins s σ H _ I h) fun v s1 h1=>thn h1 fun itv s2 h2=> ?_)
 obtain⟨it,fp,tn,J,H2,e,I2,T,st2,f2,h2⟩:=h2
 subst e
 refine iC (RR:=fun acc C=>compPost (model X.prog X.w) X.A X.xe none (EP X pins σ Q) acc C) hcalm S (hg cl fp) hw (hc cl fp) (he cl fp) hcl hcl2 I2 T st2 f2 h2 ?_
 intro s3 H3 I3 f3 D σ' H' s' t hD Ic q
 obtain⟨m,hn,_⟩:=Ic.loc
 refine⟨m,hn,fun h' hsb=>⟨.ref D,H',?_,rfl,q⟩⟩
 exact fV I3 rfl (comp_back I3 f3 Ic) Ic.free hsb
theorem lZ {i:Nat}{x:Str}{tg iter elt:Expr}{ifs:List Expr}{pos spos pos':Pos}{own N':List Str}{fr:List Nat}{scope:Scope}{wi:TI}{g:TG}{tc:TT}{te:TE}(hcalm:X.calm=true)(hN:X.N.Nodup)(hx:X.N[i]? =some x)(hl:Loc X.env.scope x)(S:CScope X own fr N' scope)(hi:PI X tg iter wi)
   (hg: ∀cl fp s3 H3,PG (au X N' scope cl fp s3 H3) tg g) (hw:tR own.length g) (hc: ∀cl fp s3 H3,PTs (au X N' scope cl fp s3 H3) ifs tc) (he: ∀cl fp s3 H3,PE (au X N' scope cl fp s3 H3) elt te)
   (hsw:swapsWith (.ListComp elt [⟨tg,iter,ifs,0⟩] scope pos) (some (.Name x pos')) spos.line X.env=pure true)
   (hs: ∀x,foldedSetIterable iter X.env x=pure x:=by intro _;rfl) (hf:X.fn x=true \/ X.env.scope.names.lookup x=some .local:=by first | exact .inl rfl | exact .inr rfl | assumption):PS X (.Assign [.Name x pos'] (.ListComp elt [⟨tg,iter,ifs,0⟩] scope pos) spos) (qG (qE wi own.length fr g tc te) (fw i)):=by
 intro pins s σ H D I h
 obtain⟨cl,hclos,hcl,hcl2⟩:=eN (I.ok.cellsOf S)
 rw[exec_Assign_Name_used _ _ _ _ hsw]
 refine wpAny_bind (wpAny_standAt (wpAny_bind ?_))
 show wpAny _ X.A (do let _ <- comprehension (.ListComp elt [⟨tg,iter,ifs,0⟩] scope pos) scope X.env _ (newList []) false (eval iter X.env) (some (assign (.Name x pos') X.env))) _ _ s
 refine wpAny_bind (thn (wpAny_comprehension_free (use:=some (assign (.Name x pos') X.env)) (Q:=fun _ s'=>SP X pins D .next s') rfl hs hclos S.kind S.loc
   (thn (hi pins s σ H _ I h) fun v s1 h1=>thn h1 fun itv s2 h2=> ?_)) fun _ s' hq=>wpAny_pure (wpAny_pure hq))
 obtain⟨it,fp,tn,J,H2,e,I2,T,st2,f2,h2⟩:=h2
 subst e
 refine iC (RR:=fun acc C=>compPost (model X.prog X.w) X.A X.xe (some (assign (.Name x pos') X.env)) (fun _ s'=>SP X pins D .next s') acc C) hcalm S (hg cl fp) hw (hc cl fp) (he cl fp) hcl hcl2 I2 T st2 f2 h2 ?_
 intro s3 H3 I3 f3 Da σ' H' s' t hD Ic q
 obtain⟨m,hn,_⟩:=Ic.loc
 have I5:=comp_back I3 f3 Ic
 show wpAny _ X.A (assign (.Name x pos') X.env (.ref Da)) _ _ s'
 refine wpAny_assign_Name (iS I5 hN hx hl (show RelV (.ref Da) (.ref Da) from rfl) (fun s6 I6 hsb=> ?_) hf)
 obtain⟨a,sb,ha⟩:=hsb
 have hne:s3.heap.objs.size≠a:=by
   rcases ha with rfl | ha
   · exact Nat.ne_of_gt I3.lt
   · obtain⟨v,z⟩:=I3.cell x a ha
     exact Nat.ne_of_gt z.lt
 refine⟨m,hn.sameBut sb hne,fun h' hsb'=>⟨_,H',fV I3 rfl I6 Ic.free hsb',q⟩⟩
end
end L2
namespace L2
open PySem PySem.Spec PyProof.Rows
inductive Dt where
 | non | bl (b:Bool) | int (i:Int) | str (x:Str) | tup (l:List Dt) | lst (l:List Dt)
mutual
def Rep (K:PySem.W.Frag)(H:Hp):Dt ->V ->Prop
 | .non,v=>v= .non
 | .bl b,v=>v= .bl b
 | .int i,v=>v= .int i
 | .str x,v=>v= .str x
 | .tup l,v=> ∃a vs,v= .ref a /\ SqT K H a vs /\ bN K H l vs
 | .lst l,v=> ∃a vs,v= .ref a /\ SqL K H a vs /\ bN K H l vs
def bN (K:PySem.W.Frag)(H:Hp):List Dt ->List V ->Prop
 | [],vs=>vs= []
 | d::r,vs=> ∃v t,vs=v::t /\ Rep K H d v /\ bN K H r t
end
mutual
def eqD:Dt ->Dt ->Bool
 | .non, .non=>true
 | .bl a, .bl b=>a==b
 | .bl a, .int b=>(if a then 1 else 0)==b
 | .int a, .bl b=>a==(if b then 1 else 0)
 | .int a, .int b=>a==b
 | .str a, .str b=>a==b
 | .tup a, .tup b=>j8 a b
 | .lst a, .lst b=>j8 a b
 | _,_=>false
def j8:List Dt ->List Dt ->Bool
 | [],[]=>true
 | x::xs,y::ys=>eqD x y && j8 xs ys
 | _,_=>false
end
mutual
def dpt:Dt ->Nat
 | .tup l=>ka l+1
 | .lst l=>ka l+1
 | _=>0
def ka:List Dt ->Nat
 | []=>0
 | d::r=>max (dpt d) (ka r)
end
theorem bN.length {K:PySem.W.Frag}{H:Hp}: ∀ {l:List Dt} {vs:List V},bN K H l vs ->l.length=vs.length
 | [],_,h=>by simp only[bN] at h;subst h;rfl
 | d::r,vs,h=>by
   simp only[bN] at h
   obtain⟨v,t,rfl,_,h⟩:=h
   simp[bN.length h]
theorem bN.at {K:PySem.W.Frag}{H:Hp}: ∀ {l:List Dt} {vs:List V} {j:Nat} {d:Dt},bN K H l vs ->l[j]? =some d -> ∃v,vs[j]? =some v /\ Rep K H d v
 | [],_,_,_,_,e=>by simp at e
 | d::r,vs,j,d',h,e=>by
   simp only[bN] at h
   obtain⟨v,t,rfl,h1,h⟩:=h
   cases j with
   | zero=>simp at e;subst e;exact⟨v,rfl,h1⟩
   | succ j=>simpa using bN.at (j:=j) h (by simpa using e)
theorem fB: ∀ {l:List Dt} {d:Dt},d∈l ->dpt d<=ka l
 | [],_,h=>by simp at h
 | x::r,d,h=>by
   simp only[ka]
   rcases List.mem_cons.mp h with rfl | h
   · exact Nat.le_max_left _ _
   · exact Nat.le_trans (fB h) (Nat.le_max_right _ _)
theorem df: ∀ (a b:List Dt),j8 a b=((List.range (min a.length b.length)).all (fun j=>eqD (a.getD j .non) (b.getD j .non)) && a.length==b.length)
 | [],[]=>rfl
 | [],y::ys=>by simp[j8]
 | x::xs,[]=>by simp[j8]
 | x::xs,y::ys=>by
   have e:min (x::xs).length (y::ys).length=min xs.length ys.length+1:=by simp only[List.length_cons];lia
   rw[j8,df xs ys,e,List.range_succ_eq_map,List.all_cons,List.all_map]
   have e2:((x::xs).length==(y::ys).length)=(xs.length==ys.length):=by simp
   rw[e2,Bool.and_assoc]
   rfl
mutual
theorem dG: ∀d:Dt,eqD d d=true
 | .non=>rfl
 | .bl b=>by simp[eqD]
 | .int i=>by simp[eqD]
 | .str x=>by simp[eqD]
 | .tup l=>by simp only[eqD];exact fU l
 | .lst l=>by simp only[eqD];exact fU l
theorem fU: ∀l:List Dt,j8 l l=true
 | []=>rfl
 | x::xs=>by simp only[j8,dG x,fU xs,Bool.and_self]
end
theorem Un.sqT {K:PySem.W.Frag}{H H':Hp}(h: ∀b xs,Rd H b (.tup xs) ->Rd H' b (.tup xs)){a:Addr}{xs:List V}(q:SqT K H a xs):SqT K H' a xs:=by
 rcases q with q | q
 · exact .inl (h _ _ q)
 · exact .inr q
section
variable {X:Cx}{pins:List (Addr×Obj)}{σ:St}{H:Hp}{s:Shared}
mutual
theorem Rep.inj (I:Inv X pins σ H s): ∀ (d e:Dt) (v:V),Rep X.K H d v ->Rep X.K H e v ->d=e
 | .non,e,v,h1,h2=>by
   simp only[Rep] at h1;subst h1
   cases e<;>simp only[Rep] at h2<;>first | rfl | (cases h2;done) | (obtain⟨_,_,q,_⟩:=h2;cases q)
 | .bl b,e,v,h1,h2=>by
   simp only[Rep] at h1;subst h1
   cases e<;>simp only[Rep] at h2<;>first | (cases h2;rfl) | (cases h2;done) | (obtain⟨_,_,q,_⟩:=h2;cases q)
 | .int b,e,v,h1,h2=>by
   simp only[Rep] at h1;subst h1
   cases e<;>simp only[Rep] at h2<;>first | (cases h2;rfl) | (cases h2;done) | (obtain⟨_,_,q,_⟩:=h2;cases q)
 | .str b,e,v,h1,h2=>by
   simp only[Rep] at h1;subst h1
   cases e<;>simp only[Rep] at h2<;>first | (cases h2;rfl) | (cases h2;done) | (obtain⟨_,_,q,_⟩:=h2;cases q)
 | .tup l,e,v,h1,h2=>by
   simp only[Rep] at h1
   obtain⟨a,vs,rfl,hs,hr⟩:=h1
   cases e<;>simp only[Rep] at h2<;>first | (cases h2;done) | skip
   · obtain⟨a',vs',q,hs',hr'⟩:=h2
     cases q
     have:=I.tuple_inj hs hs'
     subst this
     rw[bN.inj I l _ vs hr hr']
   · obtain⟨a',vs',q,hs',hr'⟩:=h2
     cases q
     obtain⟨its,_,ht,_⟩:=I.tuple hs
     obtain⟨its',_,hl,_⟩:=I.list hs'
     exact absurd rfl (SeqAt.ne_of_list_tuple (s:=s) hl.isList ht)
 | .lst l,e,v,h1,h2=>by
   simp only[Rep] at h1
   obtain⟨a,vs,rfl,hs,hr⟩:=h1
   cases e<;>simp only[Rep] at h2<;>first | (cases h2;done) | skip
   · obtain⟨a',vs',q,hs',hr'⟩:=h2
     cases q
     obtain⟨its,_,ht,_⟩:=I.tuple hs'
     obtain⟨its',_,hl,_⟩:=I.list hs
     exact absurd rfl (SeqAt.ne_of_list_tuple (s:=s) hl.isList ht)
   · obtain⟨a',vs',q,hs',hr'⟩:=h2
     cases q
     have:=I.list_inj hs hs'
     subst this
     rw[bN.inj I l _ vs hr hr']
theorem bN.inj (I:Inv X pins σ H s): ∀ (l m:List Dt) (vs:List V),bN X.K H l vs ->bN X.K H m vs ->l=m
 | [],m,vs,h1,h2=>by
   simp only[bN] at h1;subst h1
   cases m with
   | nil=>rfl
   | cons _ _=>simp only[bN] at h2;obtain⟨_,_,q,_⟩:=h2;cases q
 | d ::r,m,vs,h1,h2=>by
   simp only[bN] at h1
   obtain⟨v,t,rfl,h1,h3⟩:=h1
   cases m with
   | nil=>simp only[bN] at h2;cases h2
   | cons d' r'=>
     simp only[bN] at h2
     obtain⟨v',t',q,h4,h5⟩:=h2
     cases q
     rw[Rep.inj I d d' v h1 h4,bN.inj I r r' t h3 h5]
end
theorem bN.items {l:List Dt}{vs:List V}{its:List Value}(h:bN X.K H l vs)(r:Vals vs its){j:Nat}(hj:j<its.length):Rep X.K H (l.getD j .non) (vs.getD j .non) /\ RelV (vs.getD j .non) its[j] /\ l.getD j .non∈l:=by
 have e1:=h.length
 have e2:=r.length
 have hl:j<l.length:=by lia
 obtain⟨v,hv,hr⟩:=h.at (List.getElem?_eq_getElem hl)
 obtain⟨u,hu,ru⟩:=r.get hv
 have e3:l.getD j .non=l[j]:=by simp[List.getD,hl]
 have e4:vs.getD j .non=v:=by simp[List.getD,hv]
 rw[List.getElem?_eq_getElem hj] at hu
 cases hu
 rw[e3,e4]
 exact⟨hr,ru,List.getElem_mem hl⟩
theorem j9 (I:Inv X pins σ H s): ∀ (n:Nat) (A:Around) (d e:Dt) (x y:V) (u v:Value),dpt d<=n ->A.units+n<cLine ->Rep X.K H d x ->Rep X.K H e y ->RelV x u ->RelV y v ->SeqAt.EqAt A s u v (eqD d e)
 | n, A, .tup l, .tup m,x,y,u,v,hn,hu,h1,h2,r1,r2=>by
   have h1':=h1
   have h2':=h2
   simp only[Rep] at h1 h2
   obtain⟨a,vs,rfl,hs,hr⟩:=h1
   obtain⟨b,ws,rfl,hs',hr'⟩:=h2
   cases r1;cases r2
   by_cases hab:a=b
   · subst hab
     rw[Rep.inj I _ _ _ h1' h2',dG]
     exact SeqAt.EqAt.same _
   · obtain⟨its,rv,ht,_⟩:=I.tuple hs
     obtain⟨its',rv',ht',_⟩:=I.tuple hs'
     refine SeqAt.EqAt.of_refs hab ?_
     simp only[eqD]
     simp only[dpt] at hn
     match n,hn with
     | n +1,hn=>
       have z:=SeqAt.RcAt.tuples (A:=A) (s:=s) (e:=fun j=>eqD (l.getD j .non) (m.getD j .non)) ht ht' (by lia) fun j g1 g2=>by
         obtain⟨q1,q2,q3⟩:=hr.items rv (j:=j) (by simpa using g1)
         obtain⟨q4,q5,q6⟩:=hr'.items rv' (j:=j) (by simpa using g2)
         refine j9 I n A.in1 _ _ _ _ _ _ ?_ ?_ q1 q4 (by simpa using q2) (by simpa using q5)
         · have:=fB q3;lia
         · show A.units+1+n<cLine;lia
       rw[df,hr.length,hr'.length,rv.length,rv'.length]
       simpa using z
 | n, A, .lst l, .lst m,x,y,u,v,hn,hu,h1,h2,r1,r2=>by
   have h1':=h1
   have h2':=h2
   simp only[Rep] at h1 h2
   obtain⟨a,vs,rfl,hs,hr⟩:=h1
   obtain⟨b,ws,rfl,hs',hr'⟩:=h2
   cases r1;cases r2
   by_cases hab:a=b
   · subst hab
     rw[Rep.inj I _ _ _ h1' h2',dG]
     exact SeqAt.EqAt.same _
   · obtain⟨its,rv,ht,_⟩:=I.list hs
     obtain⟨its',rv',ht',_⟩:=I.list hs'
     refine SeqAt.EqAt.of_refs hab ?_
     simp only[eqD]
     simp only[dpt] at hn
     by_cases hl:its.length=its'.length
     · match n,hn with
       | n +1,hn=>
         have z:=SeqAt.RcAt.lists (A:=A) (s:=s) (e:=fun j=>eqD (l.getD j .non) (m.getD j .non)) ht.isList ht'.isList (by simpa using hl) (by lia) fun j g1 g2=>by
           obtain⟨q1,q2,q3⟩:=hr.items rv (j:=j) (by simpa using g1)
           obtain⟨q4,q5,q6⟩:=hr'.items rv' (j:=j) (by simpa using g2)
           refine j9 I n A.in1 _ _ _ _ _ _ ?_ ?_ q1 q4 (by simpa using q2) (by simpa using q5)
           · have:=fB q3;lia
           · show A.units+1+n<cLine;lia
         rw[df,hr.length,hr'.length,rv.length,rv'.length,hl]
         simpa [hl] using z
     · have z:=SeqAt.RcAt.lists_lengths (A:=A) (s:=s) ht.isList ht'.isList (by simpa using hl) (by lia)
       have hf:(its.length==its'.length)=false:=by simpa using hl
       rw[df,hr.length,hr'.length,rv.length,rv'.length,hf,Bool.and_false]
       exact z
 | n,A, .tup l, .lst m,x,y,u,v,hn,hu,h1,h2,r1,r2=>by
   simp only[Rep] at h1 h2
   obtain⟨a,vs,rfl,hs,hr⟩:=h1
   obtain⟨b,ws,rfl,hs',hr'⟩:=h2
   cases r1;cases r2
   obtain⟨its,rv,ht,_⟩:=I.tuple hs
   obtain⟨its',rv',ht',_⟩:=I.list hs'
   exact SeqAt.EqAt.tuple_list ht ht'.isList (by lia)
 | n,A, .lst l, .tup m,x,y,u,v,hn,hu,h1,h2,r1,r2=>by
   simp only[Rep] at h1 h2
   obtain⟨a,vs,rfl,hs,hr⟩:=h1
   obtain⟨b,ws,rfl,hs',hr'⟩:=h2
   cases r1;cases r2
   obtain⟨its,rv,ht,_⟩:=I.list hs
   obtain⟨its',rv',ht',_⟩:=I.tuple hs'
   exact SeqAt.EqAt.list_tuple ht.isList ht' (by lia)
 | n,A, .tup l, .non,x,y,u,v,hn,hu,h1,h2,r1,r2=>by
   simp only[Rep] at h1 h2
   obtain⟨a,vs,rfl,hs,hr⟩:=h1
   subst h2;cases r1;cases r2
   obtain⟨its,rv,ht,_⟩:=I.tuple hs
   exact SeqAt.EqAt.tuple_none ht (by lia)
 | n,A, .tup l, .bl b,x,y,u,v,hn,hu,h1,h2,r1,r2=>by
   simp only[Rep] at h1 h2
   obtain⟨a,vs,rfl,hs,hr⟩:=h1
   subst h2;cases r1;cases r2
   obtain⟨its,rv,ht,_⟩:=I.tuple hs
   exact SeqAt.EqAt.tuple_bool b ht (by lia)
 | n,A, .tup l, .int b,x,y,u,v,hn,hu,h1,h2,r1,r2=>by
   simp only[Rep] at h1 h2
   obtain⟨a,vs,rfl,hs,hr⟩:=h1
   subst h2;cases r1;obtain⟨t,rfl⟩:=r2
   obtain⟨its,rv,ht,_⟩:=I.tuple hs
   exact SeqAt.EqAt.tuple_int b t ht (by lia)
 | n,A, .tup l, .str b,x,y,u,v,hn,hu,h1,h2,r1,r2=>by
   simp only[Rep] at h1 h2
   obtain⟨a,vs,rfl,hs,hr⟩:=h1
   subst h2;cases r1;obtain⟨t,rfl⟩:=r2
   obtain⟨its,rv,ht,_⟩:=I.tuple hs
   exact SeqAt.EqAt.tuple_str b t ht (by lia)
 | n,A, .lst l, .non,x,y,u,v,hn,hu,h1,h2,r1,r2=>by
   simp only[Rep] at h1 h2
   obtain⟨a,vs,rfl,hs,hr⟩:=h1
   subst h2;cases r1;cases r2
   obtain⟨its,rv,ht,_⟩:=I.list hs
   exact SeqAt.EqAt.list_none ht.isList (by lia)
 | n,A, .lst l, .bl b,x,y,u,v,hn,hu,h1,h2,r1,r2=>by
   simp only[Rep] at h1 h2
   obtain⟨a,vs,rfl,hs,hr⟩:=h1
   subst h2;cases r1;cases r2
   obtain⟨its,rv,ht,_⟩:=I.list hs
   exact SeqAt.EqAt.list_bool b ht.isList (by lia)
 | n,A, .lst l, .int b,x,y,u,v,hn,hu,h1,h2,r1,r2=>by
   simp only[Rep] at h1 h2
   obtain⟨a,vs,rfl,hs,hr⟩:=h1
   subst h2;cases r1;obtain⟨t,rfl⟩:=r2
   obtain⟨its,rv,ht,_⟩:=I.list hs
   exact SeqAt.EqAt.list_int b t ht.isList (by lia)
 | n,A, .lst l, .str b,x,y,u,v,hn,hu,h1,h2,r1,r2=>by
   simp only[Rep] at h1 h2
   obtain⟨a,vs,rfl,hs,hr⟩:=h1
   subst h2;cases r1;obtain⟨t,rfl⟩:=r2
   obtain⟨its,rv,ht,_⟩:=I.list hs
   exact SeqAt.EqAt.list_str b t ht.isList (by lia)
 | n,A, .non, .tup l,x,y,u,v,hn,hu,h1,h2,r1,r2=>by
   simp only[Rep] at h1 h2
   obtain⟨a,vs,rfl,hs,hr⟩:=h2
   subst h1;cases r2;cases r1
   obtain⟨its,rv,ht,_⟩:=I.tuple hs
   exact SeqAt.EqAt.none_tuple ht (by lia)
 | n,A, .bl b, .tup l,x,y,u,v,hn,hu,h1,h2,r1,r2=>by
   simp only[Rep] at h1 h2
   obtain⟨a,vs,rfl,hs,hr⟩:=h2
   subst h1;cases r2;cases r1
   obtain⟨its,rv,ht,_⟩:=I.tuple hs
   exact SeqAt.EqAt.bool_tuple b ht (by lia)
 | n,A, .int b, .tup l,x,y,u,v,hn,hu,h1,h2,r1,r2=>by
   simp only[Rep] at h1 h2
   obtain⟨a,vs,rfl,hs,hr⟩:=h2
   subst h1;cases r2;obtain⟨t,rfl⟩:=r1
   obtain⟨its,rv,ht,_⟩:=I.tuple hs
   exact SeqAt.EqAt.int_tuple b t ht (by lia)
 | n,A, .str b, .tup l,x,y,u,v,hn,hu,h1,h2,r1,r2=>by
   simp only[Rep] at h1 h2
   obtain⟨a,vs,rfl,hs,hr⟩:=h2
   subst h1;cases r2;obtain⟨t,rfl⟩:=r1
   obtain⟨its,rv,ht,_⟩:=I.tuple hs
   exact SeqAt.EqAt.str_tuple b t ht (by lia)
 | n,A, .non, .lst l,x,y,u,v,hn,hu,h1,h2,r1,r2=>by
   simp only[Rep] at h1 h2
   obtain⟨a,vs,rfl,hs,hr⟩:=h2
   subst h1;cases r2;cases r1
   obtain⟨its,rv,ht,_⟩:=I.list hs
   exact SeqAt.EqAt.none_list ht.isList (by lia)
 | n,A, .bl b, .lst l,x,y,u,v,hn,hu,h1,h2,r1,r2=>by
   simp only[Rep] at h1 h2
   obtain⟨a,vs,rfl,hs,hr⟩:=h2
   subst h1;cases r2;cases r1
   obtain⟨its,rv,ht,_⟩:=I.list hs
   exact SeqAt.EqAt.bool_list b ht.isList (by lia)
 | n,A, .int b, .lst l,x,y,u,v,hn,hu,h1,h2,r1,r2=>by
   simp only[Rep] at h1 h2
   obtain⟨a,vs,rfl,hs,hr⟩:=h2
   subst h1;cases r2;obtain⟨t,rfl⟩:=r1
   obtain⟨its,rv,ht,_⟩:=I.list hs
   exact SeqAt.EqAt.int_list b t ht.isList (by lia)
 | n,A, .str b, .lst l,x,y,u,v,hn,hu,h1,h2,r1,r2=>by
   simp only[Rep] at h1 h2
   obtain⟨a,vs,rfl,hs,hr⟩:=h2
   subst h1;cases r2;obtain⟨t,rfl⟩:=r1
   obtain⟨its,rv,ht,_⟩:=I.list hs
   exact SeqAt.EqAt.str_list b t ht.isList (by lia)
 | n,A, .non, .non,x,y,u,v,hn,hu,h1,h2,r1,r2=>by
   simp only[Rep] at h1 h2
   subst h1 h2
   exact bx r1 r2 rfl rfl
 | n,A, .non, .bl b,x,y,u,v,hn,hu,h1,h2,r1,r2=>by
   simp only[Rep] at h1 h2
   subst h1 h2
   exact bx r1 r2 rfl rfl
 | n,A, .non, .int b,x,y,u,v,hn,hu,h1,h2,r1,r2=>by
   simp only[Rep] at h1 h2
   subst h1 h2
   exact bx r1 r2 rfl rfl
 | n,A, .non, .str b,x,y,u,v,hn,hu,h1,h2,r1,r2=>by
   simp only[Rep] at h1 h2
   subst h1 h2
   exact bx r1 r2 rfl rfl
 | n,A, .bl a, .non,x,y,u,v,hn,hu,h1,h2,r1,r2=>by
   simp only[Rep] at h1 h2
   subst h1 h2
   exact bx r1 r2 rfl rfl
 | n,A, .bl a, .bl b,x,y,u,v,hn,hu,h1,h2,r1,r2=>by
   simp only[Rep] at h1 h2
   subst h1 h2
   exact bx r1 r2 rfl rfl
 | n,A, .bl a, .int b,x,y,u,v,hn,hu,h1,h2,r1,r2=>by
   simp only[Rep] at h1 h2
   subst h1 h2
   exact bx r1 r2 rfl rfl
 | n,A, .bl a, .str b,x,y,u,v,hn,hu,h1,h2,r1,r2=>by
   simp only[Rep] at h1 h2
   subst h1 h2
   exact bx r1 r2 rfl rfl
 | n,A, .int a, .non,x,y,u,v,hn,hu,h1,h2,r1,r2=>by
   simp only[Rep] at h1 h2
   subst h1 h2
   exact bx r1 r2 rfl rfl
 | n,A, .int a, .bl b,x,y,u,v,hn,hu,h1,h2,r1,r2=>by
   simp only[Rep] at h1 h2
   subst h1 h2
   exact bx r1 r2 rfl rfl
 | n,A, .int a, .int b,x,y,u,v,hn,hu,h1,h2,r1,r2=>by
   simp only[Rep] at h1 h2
   subst h1 h2
   exact bx r1 r2 rfl rfl
 | n,A, .int a, .str b,x,y,u,v,hn,hu,h1,h2,r1,r2=>by
   simp only[Rep] at h1 h2
   subst h1 h2
   exact bx r1 r2 rfl rfl
 | n,A, .str a, .non,x,y,u,v,hn,hu,h1,h2,r1,r2=>by
   simp only[Rep] at h1 h2
   subst h1 h2
   exact bx r1 r2 rfl rfl
 | n,A, .str a, .bl b,x,y,u,v,hn,hu,h1,h2,r1,r2=>by
   simp only[Rep] at h1 h2
   subst h1 h2
   exact bx r1 r2 rfl rfl
 | n,A, .str a, .int b,x,y,u,v,hn,hu,h1,h2,r1,r2=>by
   simp only[Rep] at h1 h2
   subst h1 h2
   exact bx r1 r2 rfl rfl
 | n,A, .str a, .str b,x,y,u,v,hn,hu,h1,h2,r1,r2=>by
   simp only[Rep] at h1 h2
   subst h1 h2
   exact bx r1 r2 rfl rfl
end
end L2
namespace L2
open PySem PySem.Spec PyProof.Rows
def isSeq:Dt ->Bool
 | .tup _=>true
 | .lst _=>true
 | _=>false
def eZ:Dt ->Dt ->Bool
 | .tup _, .tup _=>true
 | .lst _, .lst _=>true
 | _,_=>false
section
variable {X:Cx}
theorem rc_D {pins:List (Addr×Obj)}{σ:St}{H:Hp}{s:Shared}(I:Inv X pins σ H s){A:Around}{d e:Dt}{x y:V}{u v:Value}(hs:eZ d e=true)(hn:dpt d<=50)(hu:A.units+60<cLine)(h1:Rep X.K H d x)(h2:Rep X.K H e y)(r1:RelV x u)(r2:RelV y v):
   SeqAt.RcAt A s u v (eqD d e) /\ SeqAt.RcNeAt A s u v (!eqD d e):=by
 cases d with
 | tup l=>
   cases e with
   | tup m=>
     simp only[Rep] at h1 h2
     obtain⟨a,vs,rfl,hs,hr⟩:=h1
     obtain⟨b,ws,rfl,hs',hr'⟩:=h2
     cases r1;cases r2
     obtain⟨its,rv,ht,_⟩:=I.tuple hs
     obtain⟨its',rv',ht',_⟩:=I.tuple hs'
     simp only[eqD]
     simp only[dpt] at hn
     have he: ∀j (g1:j<its.toArray.size) (g2:j<its'.toArray.size),SeqAt.EqAt A.in1 s its.toArray[j] its'.toArray[j] ((fun j=>eqD (l.getD j .non) (m.getD j .non)) j):=fun j g1 g2=>by
       obtain⟨q1,q2,q3⟩:=hr.items rv (j:=j) (by simpa using g1)
       obtain⟨q4,q5,q6⟩:=hr'.items rv' (j:=j) (by simpa using g2)
       refine j9 I 50 A.in1 _ _ _ _ _ _ ?_ ?_ q1 q4 (by simpa using q2) (by simpa using q5)
       · have:=fB q3;lia
       · show A.units+1+50<cLine;lia
     have z:=SeqAt.RcAt.tuples (A:=A) (s:=s) ht ht' (by lia) he
     have z':=SeqAt.RcNeAt.tuples (A:=A) (s:=s) ht ht' (by lia) he
     rw[df,hr.length,hr'.length,rv.length,rv'.length]
     exact⟨by simpa using z,by simpa using z'⟩
   | _=>cases hs
 | lst l =>
   cases e with
   | lst m=>
     simp only[Rep] at h1 h2
     obtain⟨a,vs,rfl,hs,hr⟩:=h1
     obtain⟨b,ws,rfl,hs',hr'⟩:=h2
     cases r1;cases r2
     obtain⟨its,rv,ht,_⟩:=I.list hs
     obtain⟨its',rv',ht',_⟩:=I.list hs'
     simp only[eqD]
     simp only[dpt] at hn
     by_cases hl:its.length=its'.length
     · have he: ∀j (g1:j<its.toArray.size) (g2:j<its'.toArray.size),SeqAt.EqAt A.in1 s its.toArray[j] its'.toArray[j] ((fun j=>eqD (l.getD j .non) (m.getD j .non)) j):=fun j g1 g2=>by
         obtain⟨q1,q2,q3⟩:=hr.items rv (j:=j) (by simpa using g1)
         obtain⟨q4,q5,q6⟩:=hr'.items rv' (j:=j) (by simpa using g2)
         refine j9 I 50 A.in1 _ _ _ _ _ _ ?_ ?_ q1 q4 (by simpa using q2) (by simpa using q5)
         · have:=fB q3;lia
         · show A.units+1+50<cLine;lia
       have z:=SeqAt.RcAt.lists (A:=A) (s:=s) ht.isList ht'.isList (by simpa using hl) (by lia) he
       have z':=SeqAt.RcNeAt.lists (A:=A) (s:=s) ht.isList ht'.isList (by simpa using hl) (by lia) he
       rw[df,hr.length,hr'.length,rv.length,rv'.length,hl]
       exact⟨by simpa [hl] using z,by simpa [hl] using z'⟩
     · have z:=SeqAt.RcAt.lists_lengths (A:=A) (s:=s) ht.isList ht'.isList (by simpa using hl) (by lia)
       have z':=SeqAt.RcNeAt.lists_lengths (A:=A) (s:=s) ht.isList ht'.isList (by simpa using hl) (by lia)
       have hf:(its.length==its'.length)=false:=by simpa using hl
       rw[df,hr.length,hr'.length,rv.length,rv'.length,hf,Bool.and_false]
       exact⟨z,z'⟩
   | _=>cases hs
 | _=>cases hs
def rEqD (K:PySem.W.Frag):R2:=fun x y H Q=> ∃d e,eZ d e=true /\ dpt d<=50 /\ Rep K H d x /\ Rep K H e y /\ Q (.bl (eqD d e)) H
def rNeD (K:PySem.W.Frag):R2:=fun x y H Q=> ∃d e,eZ d e=true /\ dpt d<=50 /\ Rep K H d x /\ Rep K H e y /\ Q (.bl (!eqD d e)) H
theorem xk (hu:X.A.units+60<cLine):OpR X (compareOp .Eq) (rEqD X.K):=by
 intro pins s σ H x y v u Q I r1 r2 h
 obtain⟨d,e,h0,hn,h1,h2,q⟩:=h
 exact(rc_D I h0 hn hu h1 h2 r1 r2).1 X.prog X.w X.xe _ ⟨.bl _,H,I,rfl,q⟩
theorem rO (hu:X.A.units+60<cLine):OpR X (compareOp .NotEq) (rNeD X.K):=by
 intro pins s σ H x y v u Q I r1 r2 h
 obtain⟨d,e,h0,hn,h1,h2,q⟩:=h
 exact(rc_D I h0 hn hu h1 h2 r1 r2).2 X.prog X.w X.xe _ ⟨.bl _,H,I,rfl,q⟩
theorem Room.u60 {k:Nat}{A:Around}(r:Room k A):A.units+60<cLine:=by have:=r.units;lia
theorem fu: ∀ {ns:List Int} {us:List Value},Vals (ns.map V.int) us ->IntsAre us ns
 | [],_,h=>by cases h;exact .nil
 | n ::r,_,h=>by
   cases h with
   | cons h1 h2=>
     obtain⟨t,rfl⟩:=h1
     exact .cons n t (fu h2)
theorem nX: ∀ {ks:List Int} {vs:List Value},vs.length=ks.length ->(∀ (j:Nat) (v:Value),vs[j]? =some v -> ∃ (k:Int) (t:Tok),ks[j]? =some k /\ v= .int k t) ->IntsAre vs ks
 | [],[],_,_=> .nil
 | [],_::_,h,_=>by simp at h
 | _::_,[],h,_=>by simp at h
 | k::ks,v::vs,h,hv=>by
   obtain⟨k',t,e1,e2⟩:=hv 0 v rfl
   simp at e1
   subst e1 e2
   exact .cons k t (nX (by simpa using h) fun j u e=>by simpa using hv (j+1) u (by simpa using e))
def kM:List V ->Hp ->VK ->Prop:=fun xs H Q=> ∃ (d:Addr) (kvs:List (Key×V)) (ks:List Int),xs= [.ref d] /\ H d=some (.dK kvs) /\ kvs.map (·.1)=ks.map Sum.inl /\ ks.length<=sizeLine /\ ∀ (p:Addr) (ns:List Int),H p=none ->ns.Perm ks ->ns.Pairwise (· <= ·) ->Q (.ref p) (upd H p (.lst (ns.map V.int)))
theorem cq (hc:X.calm=true):bB X (.builtin "sorted") kM:=by
 intro pins s σ H xs us Q I r h
 obtain⟨d,kvs,ks,rfl,hd,hk,h64,q⟩:=h
 obtain⟨u,rfl,ru⟩:=vals1 r
 cases ru
 have hh:X.A.in1.handled=none:=I.ok.hd hc
 obtain⟨hz,lo,vs,rel,dd⟩:=lx I.hok hd
 obtain⟨ep,hat⟩:=dd.dictAt
 have hlen:vs.length=ks.length:=by
   have e1:=congrArg List.length hk
   rw[List.length_map,List.length_map] at e1
   rw[<- rel.length,e1]
 refine Calls.call_function_entry kind_sorted plain_sorted entry_sorted (args_sorted1 _) ?_
 unfold Builtin.«sorted»
 refine wpAny_bind (m:=checkCount "sorted" 1 1 _) (wpAny_pure ?_)
 refine wpAny_bind (PySem.W.kdu_collect (A:=X.A.in1) (PySem.W.kdl_dict (knd:=aC X.prog X.w) (kvs:=vs) (ep:=ep) lo) hh hat (by rw[<- rel.length];exact hz) fun h' tk acc hkp hacc=> ?_)
 have hl:acc.toList.length=ks.length:=by rw[Array.length_toList,hacc.1,hlen]
 have hI:IntsAre acc.toList ks:=nX hl fun j v e=>by
   obtain⟨k,x,hx,hki⟩:=hacc.2 j v (by rw[<- Array.getElem?_toList];exact e)
   have hkj:(kvs.map (·.1))[j]? =some k:=by
     have:(vs.map (·.1))[j]? =some k:=by rw[List.getElem?_map,hx];rfl
     rw[<- rel.keys] at this
     exact this
   rw[hk,List.getElem?_map] at hkj
   cases e2:ks[j]? with
   | none=>rw[e2] at hkj;cases hkj
   | some n=>
     rw[e2] at hkj
     cases hkj
     have hki':fq (Sum.inl n) v=true:=hki
     rcases aT hki' with⟨i,t,e3,e4⟩ | ⟨x,t,e3,e4⟩
     · cases e3;exact⟨n,t,rfl,e4⟩
     · cases e3
 refine wpAny_bind (wpAny_newList ?_ (by rw[hl];exact h64))
 have ho:(h'.push (seqObj "list" acc.toList.toArray 0)).get? h'.objs.size=some (seqObj "list" acc.toList.toArray 0):=Heap.get?_push_size _ rfl
 refine wpAny_bind (wpAny_holding (wpAny_call_entry slot_list_sort ⟨_,ho,rfl⟩ entry_list_sort (TS.iT (s:= {s with heap:=h'.push (seqObj "list" acc.toList.toArray 0),toks:=tk}) ho hI (by rw[hl];exact h64) fun out ns' a1 a2 a3=>⟨_,rfl,?_⟩) (args_list_sort _)))
 obtain⟨ee,hat'⟩:=sortedHeap_at (out:=out) ho
 have I':Inv X pins σ H {s with heap:=h',toks:=tk}:=I.kept (t':=tk) hkp
 refine wpAny_pure ⟨_,rfl, .ref h'.objs.size,_,I'.laid (t':=tk) (o:= .lst (ns'.map V.int)) (fun b o hb=> ?_) (Nat.le_refl _) ?_,rfl,q _ ns' (I'.hok.fresh (Nat.le_refl _)) a2 a3⟩
 · have hlt:b<h'.objs.size:=Heap.lt_size hb
   rw[sortedHeap_old (Nat.ne_of_lt hlt) (by rw[Heap.size_push];exact Nat.lt_succ_of_lt hlt)]
   exact Heap.get?_push_of_some _ hb
 · refine⟨?_,out.toList,ee,dM a1,by simpa using hat'⟩
   rw[List.length_map,a2.length_eq]
   exact h64
end
end L2
namespace L2
open PySem PySem.Spec PyProof.Rows
theorem CScope.of {X:Cx}{sc scope:Scope}{N own N':List Str}{fr:List Nat}(hsc:X.env.scope=sc)(hN:X.N=N)(kind:scope.kind= .function)(names:N'=own++fr.filterMap (fun j=>N[j]?))(len:N'.length=own.length+fr.length)(nd:N'.Nodup)
   (nocell: ∀y∈scope.names,y.2≠ .cell) (loc: ∀y∈scope.names,y.2= .local ->scope.names.lookup y.1=some .local) (cap: ∀x∈fr.filterMap (fun j=>N[j]?),scope.names.lookup x=some .free)
   (free: ∀y∈scope.names,y.2= .free ->sc.names.lookup y.1=some .cell \/ sc.names.lookup y.1=some .free):CScope X own fr N' scope:=by
 subst hN hsc
 exact⟨kind,names,len,nd,nocell,loc,cap,free⟩
structure Fnc (K:PySem.W.Frag)(mg:Str ->Option Value)(x:Str)(ps:List Str)(st:Stmt)(f:Addr)(fd:FuncData):Prop where
 at_:mg x=some (.ref f)
 fn:Fun K x x st f fd
 bd:Binds K fd ps []
section
variable {X:Cx}{k:Nat}{f:Addr}{fd:FuncData}{ps:List Str}{sp:Sp}{x:Str}{st:Stmt}{p pos:Pos}{e:Expr}{es:List Expr}{t:TA}
theorem aj (C:Fnc X.K X.mg x ps st f fd)(F:FnOk X.prog X.w X.K X.mg X.base CX0 k f fd ps sp)(hr:Room k X.A)(hg:Gl X x)
   (ha:PA X (e::es) t) (hdb:(x==("__debug__" :Str))=false:=by decide) (he:starEach (e::es) X.env=(false,eval e X.env)::starEach es X.env:=by rfl) (hpl:(backTo pos (starEach es X.env)).any (·.1)=false:=by rfl):
   PE X (.Call (.Name x p) (e::es) [] pos) (nj sp [] E0 t):=uD F hr hg C.at_ C.fn.kp C.bd .nil vK ha hdb he hpl
end
theorem ay {H:Hp}{p:Addr}{o:HO}(h:H p=none):bz H (upd H p o):=fun b u e=>by
 rw[ar (aN e h)];exact e
def ao (H H':Hp):Prop:= ∀b xs,Rd H b (.tup xs) ->Rd H' b (.tup xs)
theorem ao.refl (H:Hp):ao H H:=fun _ _ h=>h
theorem ao.trans {H H1 H2:Hp}(a:ao H H1)(b:ao H1 H2):ao H H2:=fun c o h=>b c o (a c o h)
theorem bz.ts {H H':Hp}(a:bz H H'):ao H H':=fun b xs h=>by
 rcases h with h | ⟨o,h⟩
 · exact .inl (a _ _ h)
 · exact .inr ⟨o,a _ _ h⟩
end L2
namespace L2
open PySem PySem.Spec PyProof.Rows
inductive TyX (K:PySem.W.Frag)(H:Hp):V ->Value ->Prop where
 | of {x:V} {t:Value} (h:TyOf K H x t):TyX K H x t
 | tup {a:Addr} {xs:List V} (h:SqT K H a xs):TyX K H (.ref a) (.type "tuple")
 | lst {a:Addr} {xs:List V} (h:SqL K H a xs):TyX K H (.ref a) (.type "list")
section
variable {X:Cx}
def rIsX (K:PySem.W.Frag):List V ->Hp ->VK ->Prop:=fun xs H Q=> ∃x T t b,xs= [x, .ty T] /\ TyX K H x t /\ PySem.W.kitOne K t (.type T)=some b /\ Q (.bl b) H
theorem fG:bB X (.builtin "isinstance") (rIsX X.K):=by
 intro pins s σ H xs us Q I r h
 obtain⟨x,T,t,b,rfl,ty,e,q⟩:=h
 obtain⟨u,w',rfl,ru,rw'⟩:=vals2 r
 cases rw'
 cases ty with
 | of ty=>exact o9 I ru ty e fun tk=>⟨.bl b,H,I.tok tk,rfl,q⟩
 | tup hs=>
   cases ru
   obtain⟨its,rv,⟨o,h1,h2,_⟩,_⟩:=I.tuple hs
   exact PySem.W.kia_one PySem.W.kitx_tuple I.kIn ⟨o,h1,h2⟩ e (fun z=>nomatch z) fun tk=>⟨.bl b,H,I.tok tk,rfl,q⟩
 | lst hs=>
   cases ru
   obtain⟨its,rv,ht,_⟩:=I.list hs
   obtain⟨o,h1,h2,_⟩:=ht.isList
   exact PySem.W.kia_one PySem.W.kitx_list I.kIn ⟨o,h1,h2⟩ e (fun z=>nomatch z) fun tk=>⟨.bl b,H,I.tok tk,rfl,q⟩
end
end L2
namespace L2
open PySem PyProof.Rows PyProof.V PySem.Calls PySem.Spec
def ExcAt (a C:Addr)(h:Heap):Prop:= ∃o,h.get? a=some o /\ o.cls= .ref C
end L2
namespace WL
open PySem L2
inductive W where
 | v (x:V) | tup (l:List W)
inductive MO where
 | lst (l:List W) | dK (kvs:List (Key×W)) | ins (C dx:Addr) (fs:List (Str×W)) | exc (C:Addr) | fz (o:Obj) (ks:List (Key×V)) (kvs:List (Key×W))
abbrev Mp:=Addr ->Option MO
abbrev WSt:=List (Option W)
abbrev WK:=W ->Mp ->Prop
abbrev WE:=WSt ->Mp ->WK ->Prop
abbrev WT:=WSt ->Mp ->(Bool ->Mp ->Prop) ->Prop
abbrev WA:=WSt ->Mp ->(List W ->Mp ->Prop) ->Prop
abbrev WG:=W ->WSt ->Mp ->(WSt ->Mp ->Prop) ->Prop
abbrev WGs:=List W ->WSt ->Mp ->(WSt ->Mp ->Prop) ->Prop
abbrev WR2:=W ->W ->Mp ->WK ->Prop
abbrev WCl:=List W ->Mp ->WK ->Prop
abbrev WI:=WSt ->Mp ->(List W ->(Mp ->Prop) ->Mp ->Prop) ->Prop
structure WEnds where
 nx:WSt ->Mp ->Prop
 rt:WK
 bk:WSt ->Mp ->Prop:=fun _ _=>False
 ct:WSt ->Mp ->Prop:=fun _ _=>False
abbrev WS:=WEnds ->WSt ->Mp ->Prop
@[reducible] def wi (i:Int):W:= .v (.int i)
@[reducible] def wb (b:Bool):W:= .v (.bl b)
@[reducible] def wr (a:Addr):W:= .v (.ref a)
@[reducible] def ws (x:Str):W:= .v (.str x)
@[reducible] def wn:W:= .v .non
def um (M:Mp)(a:Addr)(o:MO):Mp:=fun b=>if b=a then some o else M b
theorem ab {M:Mp}{a:Addr}{o:MO}:um M a o a=some o:=by unfold um;rw[if_pos rfl]
theorem ag {M:Mp}{a b:Addr}{o:MO}(h:b≠a):um M a o b=M b:=by unfold um;rw[if_neg h]
theorem mX {M:Mp}{a:Addr}{o u:MO}:um (um M a o) a u=um M a u:=by
 funext b;unfold um;split<;>rfl
theorem aZ {M:Mp}{a b:Addr}{o:MO}(h:M a=some o)(h':M b=none):a≠b:=by
 intro e;subst e;rw[h] at h';cases h'
def Sm (M M':Mp):Prop:= ∀b o,M b=some o ->M' b=some o
theorem Sm.refl (M:Mp):Sm M M:=fun _ _ h=>h
theorem Sm.trans {M M1 M2:Mp}(a:Sm M M1)(b:Sm M1 M2):Sm M M2:=fun c o h=>b c o (a c o h)
theorem Sm.free {M M':Mp}{p:Addr}(a:Sm M M')(h:M' p=none):M p=none:=by
 cases e:M p with
 | none=>rfl
 | some o=>rw[a p o e] at h;cases h
theorem aF {M:Mp}{p:Addr}{o:MO}(h:M p=none):Sm M (um M p o):=fun b u e=>by
 rw[ag (aZ e h)];exact e
theorem Sm.um {M M':Mp}{p:Addr}{o:MO}(a:Sm M M')(h:M p=none):Sm M (um M' p o):=fun b u e=>by
 rw[ag (aZ e h)];exact a b u e
mutual
def WR (K:PySem.W.Frag)(H:Hp):W ->V ->Prop
 | .v x,v=>v=x
 | .tup l,v=> ∃a vs,v= .ref a /\ SqT K H a vs /\ WRs K H l vs
def WRs (K:PySem.W.Frag)(H:Hp):List W ->List V ->Prop
 | [],vs=>vs= []
 | x::r,vs=> ∃v t,vs=v::t /\ WR K H x v /\ WRs K H r t
end
mutual
theorem WR.ts {K:PySem.W.Frag}{H H':Hp}(a:ao H H'): ∀ (x:W) (v:V),WR K H x v ->WR K H' x v
 | .v x,v,h=>by simp only[WR] at h ⊢;exact h
 | .tup l,v,h=>by
   simp only[WR] at h ⊢
   obtain⟨p,vs,e,hs,hr⟩:=h
   exact⟨p,vs,e,Un.sqT a hs,WRs.ts a l vs hr⟩
theorem WRs.ts {K:PySem.W.Frag}{H H':Hp}(a:ao H H'): ∀ (l:List W) (vs:List V),WRs K H l vs ->WRs K H' l vs
 | [],vs,h=>by simp only[WRs] at h ⊢;exact h
 | x::r,vs,h=>by
   simp only[WRs] at h ⊢
   obtain⟨v,t,e,h1,h2⟩:=h
   exact⟨v,t,e,WR.ts a x v h1,WRs.ts a r t h2⟩
end
theorem WRs.length {K:PySem.W.Frag}{H:Hp}: ∀ {l:List W} {vs:List V},WRs K H l vs ->vs.length=l.length
 | [],_,h=>by simp only[WRs] at h;subst h;rfl
 | d::r,vs,h=>by
   simp only[WRs] at h
   obtain⟨v,t,rfl,_,h⟩:=h
   simp[WRs.length h]
theorem WRs.at {K:PySem.W.Frag}{H:Hp}: ∀ {l:List W} {vs:List V} {j:Nat} {d:W},WRs K H l vs ->l[j]? =some d -> ∃v,vs[j]? =some v /\ WR K H d v
 | [],_,_,_,_,e=>by simp at e
 | d::r,vs,j,d',h,e=>by
   simp only[WRs] at h
   obtain⟨v,t,rfl,h1,h⟩:=h
   cases j with
   | zero=>simp at e;subst e;exact⟨v,rfl,h1⟩
   | succ j=>simpa using WRs.at (j:=j) h (by simpa using e)
theorem WRs.mk {K:PySem.W.Frag}{H:Hp}: ∀ {l:List W} {vs:List V},vs.length=l.length ->(∀ (j:Nat) d v,l[j]? =some d ->vs[j]? =some v ->WR K H d v) ->WRs K H l vs
 | [],vs,h,_=>by simp only[WRs];exact List.length_eq_zero_iff.mp h
 | d::r,[],h,_=>by simp at h
 | d::r,v::vs,h,k=>by
   simp only[WRs]
   exact⟨v,vs,rfl,k 0 d v rfl rfl,WRs.mk (by simpa using h) fun j x u e1 e2=>k (j+1) x u (by simpa using e1) (by simpa using e2)⟩
theorem WRs.back {K:PySem.W.Frag}{H:Hp}{l:List W}{vs:List V}{j:Nat}{v:V}(h:WRs K H l vs)(e:vs[j]? =some v): ∃d,l[j]? =some d /\ WR K H d v:=by
 have hl:=h.length
 have hj:j<l.length:=by have:=(List.getElem?_eq_some_iff.mp e).1;lia
 obtain⟨u,hu,r⟩:=h.at (j:=j) (d:=l[j]) (List.getElem?_eq_getElem hj)
 rw[e] at hu;cases hu
 exact⟨_,List.getElem?_eq_getElem hj,r⟩
theorem WRs.snoc {K:PySem.W.Frag}{H:Hp}{l:List W}{vs:List V}{d:W}{v:V}(h:WRs K H l vs)(hr:WR K H d v):WRs K H (l++ [d]) (vs++ [v]):=by
 have hl:=h.length
 refine WRs.mk (by simp[hl]) fun j x u e1 e2=> ?_
 by_cases hj:j<l.length
 · rw[List.getElem?_append_left hj] at e1
   rw[List.getElem?_append_left (by lia)] at e2
   obtain⟨w,hw,r⟩:=h.at e1
   rw[e2] at hw;cases hw;exact r
 · rw[List.getElem?_append_right (by lia)] at e1
   rw[List.getElem?_append_right (by lia),hl] at e2
   cases hk:j - l.length with
   | zero=>rw[hk] at e1 e2;simp at e1 e2;subst e1 e2;exact hr
   | succ k=>rw[hk] at e1;simp at e1
theorem WRs.append {K:PySem.W.Frag}{H:Hp}{l m:List W}{vs us:List V}(h:WRs K H l vs)(h':WRs K H m us):WRs K H (l++m) (vs++us):=by
 have hl:=h.length
 have hl':=h'.length
 refine WRs.mk (by simp[hl,hl']) fun j x u e1 e2=> ?_
 by_cases hj:j<l.length
 · rw[List.getElem?_append_left hj] at e1
   rw[List.getElem?_append_left (by lia)] at e2
   obtain⟨w,hw,r⟩:=h.at e1
   rw[e2] at hw;cases hw;exact r
 · rw[List.getElem?_append_right (by lia)] at e1
   rw[List.getElem?_append_right (by lia),hl] at e2
   obtain⟨w,hw,r⟩:=h'.at e1
   rw[e2] at hw;cases hw;exact r
theorem WRs.set {K:PySem.W.Frag}{H:Hp}{l:List W}{vs:List V}(n:Nat){d:W}{v:V}(h:WRs K H l vs)(hr:WR K H d v):WRs K H (l.set n d) (vs.set n v):=by
 have hl:=h.length
 refine WRs.mk (by simp[h.length]) fun j x u e1 e2=> ?_
 rw[List.getElem?_set] at e1 e2
 split at e1
 · rename_i hj
   rw[if_pos hj] at e2
   split at e1
   · split at e2
     · cases e1;cases e2;exact hr
     · cases e2
   · cases e1
 · rename_i hj
   rw[if_neg hj] at e2
   obtain⟨w,hw,r⟩:=h.at e1
   rw[e2] at hw;cases hw;exact r
theorem WRs.nil {K:PySem.W.Frag}{H:Hp}:WRs K H [] []:=by simp only[WRs]
theorem WRs.cons {K:PySem.W.Frag}{H:Hp}{x:W}{v:V}{l:List W}{vs:List V}(h:WR K H x v)(r:WRs K H l vs):WRs K H (x::l) (v::vs):=by
 simp only[WRs];exact⟨v,vs,rfl,h,r⟩
theorem WR.v {K:PySem.W.Frag}{H:Hp}{x:V}:WR K H (.v x) x:=by simp only[WR]
theorem WR.eq {K:PySem.W.Frag}{H:Hp}{x v:V}(h:WR K H (.v x) v):v=x:=by simpa only[WR] using h
theorem WR.tup {K:PySem.W.Frag}{H:Hp}{l:List W}{v:V}(h:WR K H (.tup l) v): ∃a vs,v= .ref a /\ SqT K H a vs /\ WRs K H l vs:=by simpa only[WR] using h
theorem WR.mkT {K:PySem.W.Frag}{H:Hp}{l:List W}{a:Addr}{vs:List V}(h:SqT K H a vs)(r:WRs K H l vs):WR K H (.tup l) (.ref a):=by simp only[WR];exact⟨a,vs,rfl,h,r⟩
def KR (K:PySem.W.Frag)(H:Hp){κ:Type}:List (κ×W) ->List (κ×V) ->Prop:=Paired fun p q=>p.1=q.1 /\ WR K H p.2 q.2
theorem KR.ts {K:PySem.W.Frag}{H H':Hp}{κ:Type}(a:ao H H'): ∀ {l:List (κ×W)} {vs:List (κ×V)},KR K H l vs ->KR K H' l vs
 | _,_, .nil=> .nil
 | _,_, .cons ⟨e,r⟩ t=> .cons ⟨e,r.ts a⟩ (KR.ts a t)
def MR (K:PySem.W.Frag)(H:Hp)(a:Addr):MO ->Prop
 | .lst l=> ∃vs,H a=some (.lst vs) /\ WRs K H l vs
 | .dK kvs=> ∃ks,H a=some (.dK ks) /\ KR K H kvs ks
 | .ins C dx fs=> ∃ks,H a=some (.ins C dx ks) /\ KR K H fs ks
 | .exc C=>H a=some (.ext (ExcAt a C))
 | .fz o ks kvs=>H a=some (.frz o (.dK ks)) /\ KR K H kvs ks
theorem MR.some {K:PySem.W.Frag}{H:Hp}{a:Addr}{o:MO}(h:MR K H a o): ∃u,H a=some u:=by
 cases o with
 | lst l=>obtain⟨_,e,_⟩:=h;exact⟨_,e⟩
 | dK l=>obtain⟨_,e,_⟩:=h;exact⟨_,e⟩
 | ins C d l=>obtain⟨_,e,_⟩:=h;exact⟨_,e⟩
 | exc C=>exact⟨_,h⟩
 | fz o l l2=>exact⟨_,h.1⟩
theorem MR.mv {K:PySem.W.Frag}{H H':Hp}{a:Addr}{o:MO}(t:ao H H')(e:H' a=H a)(h:MR K H a o):MR K H' a o:=by
 cases o with
 | lst l=>obtain⟨vs,e1,r⟩:=h;exact⟨vs,e.trans e1,r.ts t⟩
 | dK l=>obtain⟨vs,e1,r⟩:=h;exact⟨vs,e.trans e1,r.ts t⟩
 | ins C d l=>obtain⟨vs,e1,r⟩:=h;exact⟨vs,e.trans e1,r.ts t⟩
 | exc C=>exact e.trans h
 | fz o l l2=>exact⟨e.trans h.1,h.2.ts t⟩
def MOk (K:PySem.W.Frag)(M:Mp)(H:Hp):Prop:= ∀a o,M a=some o ->MR K H a o
theorem MOk.fresh {K:PySem.W.Frag}{M:Mp}{H:Hp}(h:MOk K M H){p:Addr}(hp:H p=none):M p=none:=by
 cases e:M p with
 | none=>rfl
 | some o=>obtain⟨u,hu⟩:=(h p o e).some;rw[hp] at hu;cases hu
theorem MOk.new {K:PySem.W.Frag}{M:Mp}{H:Hp}(h:MOk K M H){p:Addr}{u:HO}(hp:H p=none):MOk K M (upd H p u):=fun a o e=>by
 have:=h a o e
 obtain⟨w,hw⟩:=this.some
 exact this.mv (L2.bz.ts (ay hp)) (ar (aN hw hp))
theorem mY {H:Hp}{a:Addr}{o u:HO}(h:H a=some o)(hn: ∀xs,o≠ .tup xs)(hf: ∀b xs,o≠ .frz b (.tup xs)):ao H (upd H a u):=fun b xs r=>by
 have nb:b≠a:=fun e=>by
   subst e
   rcases r with r | ⟨w,r⟩
   · rw[h] at r;cases r;exact hn _ rfl
   · rw[h] at r;cases r;exact hf _ _ rfl
 unfold Rd
 rw[ar nb]
 exact r
theorem MOk.put {K:PySem.W.Frag}{M:Mp}{H:Hp}(h:MOk K M H){a:Addr}{o:MO}{u:HO}(t:ao H (upd H a u))(new:MR K (upd H a u) a o):MOk K (um M a o) (upd H a u):=fun b x e=>by
 by_cases hb:b=a
 · subst hb;rw[ab] at e;cases e;exact new
 · rw[ag hb] at e
   exact(h b x e).mv t (ar hb)
theorem MOk.newL {K:PySem.W.Frag}{M:Mp}{H:Hp}(h:MOk K M H){p:Addr}{l:List W}{vs:List V}(hp:H p=none)(r:WRs K H l vs):MOk K (um M p (.lst l)) (upd H p (.lst vs)):=
 h.put (L2.bz.ts (ay hp)) ⟨vs,aw,r.ts (L2.bz.ts (ay hp))⟩
theorem en {H:Hp}{a:Addr}{xs:List V}{u:HO}(h:H a=some (.lst xs)):ao H (upd H a u):=mY h (fun _ z=>nomatch z) fun _ _ z=>nomatch z
theorem eV {H:Hp}{a:Addr}{xs:List (Key×V)}{u:HO}(h:H a=some (.dK xs)):ao H (upd H a u):=mY h (fun _ z=>nomatch z) fun _ _ z=>nomatch z
theorem wB {H:Hp}{a C d:Addr}{xs:List (Str×V)}{u:HO}(h:H a=some (.ins C d xs)):ao H (upd H a u):=mY h (fun _ z=>nomatch z) fun _ _ z=>nomatch z
theorem MOk.putL {K:PySem.W.Frag}{M:Mp}{H:Hp}(h:MOk K M H){a:Addr}{xs:List V}{l:List W}{vs:List V}(e:H a=some (.lst xs))(r:WRs K H l vs):MOk K (um M a (.lst l)) (upd H a (.lst vs)):=
 h.put (en e) ⟨vs,aw,r.ts (en e)⟩
theorem MOk.putD {K:PySem.W.Frag}{M:Mp}{H:Hp}(h:MOk K M H){a:Addr}{xs:List (Key×V)}{l:List (Key×W)}{vs:List (Key×V)}(e:H a=some (.dK xs))(r:KR K H l vs):MOk K (um M a (.dK l)) (upd H a (.dK vs)):=
 h.put (eV e) ⟨vs,aw,KR.ts (eV e) r⟩
def WSR (K:PySem.W.Frag)(H:Hp)(ρ:WSt)(σ:St):Prop:=ρ.length=σ.length /\ ∀ (i:Nat) x,ρ[i]? =some (some x) -> ∃v,σ[i]? =some (some v) /\ WR K H x v
theorem WSR.ts {K:PySem.W.Frag}{H H':Hp}{ρ:WSt}{σ:St}(t:ao H H')(h:WSR K H ρ σ):WSR K H' ρ σ:=⟨h.1,fun i x e=>let ⟨v,a,r⟩:=h.2 i x e;⟨v,a,r.ts t⟩⟩
structure Ok (K:PySem.W.Frag)(ρ:WSt)(M:Mp)(σ:St)(H:Hp):Prop where
 env:WSR K H ρ σ
 hp:MOk K M H
theorem Ok.mv {K:PySem.W.Frag}{ρ:WSt}{M M':Mp}{σ:St}{H H':Hp}(o:Ok K ρ M σ H)(t:ao H H')(m:MOk K M' H'):Ok K ρ M' σ H':=⟨o.env.ts t,m⟩
theorem WSR.set {K:PySem.W.Frag}{H:Hp}{ρ:WSt}{σ:St}(h:WSR K H ρ σ)(i:Nat){x:W}{v:V}(r:WR K H x v):WSR K H (ρ.set i (some x)) (σ.set i (some v)):=by
 refine⟨by simp[h.1],fun j y e=> ?_⟩
 rw[List.getElem?_set] at e ⊢
 split at e
 · rename_i hj
   rw[if_pos hj]
   split at e
   · rename_i hlt
     rw[if_pos (by rw[<- h.1];exact hlt)]
     cases e
     exact⟨v,rfl,r⟩
   · cases e
 · rename_i hj
   rw[if_neg hj]
   exact h.2 j y e
section
variable (K:PySem.W.Frag)
class IE (t:TE) (w:outParam WE):Prop where
 imp: ∀ (ρ:WSt) (M:Mp) (σ:St) (H:Hp) (q:WK) (Q:VK),Ok K ρ M σ H ->w ρ M q ->(∀x M' v H',q x M' ->ao H H' ->MOk K M' H' ->WR K H' x v ->Q v H') ->t σ H Q
class IT (t:TT) (w:outParam WT):Prop where
 imp: ∀ (ρ:WSt) (M:Mp) (σ:St) (H:Hp) (q:Bool ->Mp ->Prop) (Q:Bool ->Hp ->Prop),Ok K ρ M σ H ->w ρ M q ->(∀b M' H',q b M' ->ao H H' ->MOk K M' H' ->Q b H') ->t σ H Q
class IA (t:TA) (w:outParam WA):Prop where
 imp: ∀ (ρ:WSt) (M:Mp) (σ:St) (H:Hp) (q:List W ->Mp ->Prop) (Q:List V ->Hp ->Prop),Ok K ρ M σ H ->w ρ M q ->(∀x M' v H',q x M' ->ao H H' ->MOk K M' H' ->WRs K H' x v ->Q v H') ->t σ H Q
class IG (t:TG) (w:outParam WG):Prop where
 imp: ∀ (x:W) (v:V) (ρ:WSt) (M:Mp) (σ:St) (H:Hp) (q:WSt ->Mp ->Prop) (Q:St ->Hp ->Prop),Ok K ρ M σ H ->WR K H x v ->w x ρ M q ->(∀ρ' M' σ' H',q ρ' M' ->ao H H' ->Ok K ρ' M' σ' H' ->Q σ' H') ->t v σ H Q
class IGs (t:TGs) (w:outParam WGs):Prop where
 imp: ∀ (x:List W) (v:List V) (ρ:WSt) (M:Mp) (σ:St) (H:Hp) (q:WSt ->Mp ->Prop) (Q:St ->Hp ->Prop),Ok K ρ M σ H ->WRs K H x v ->w x ρ M q ->(∀ρ' M' σ' H',q ρ' M' ->ao H H' ->Ok K ρ' M' σ' H' ->Q σ' H') ->t v σ H Q
structure EndsOk (H:Hp)(D':WEnds)(D:Ends):Prop where
 nx: ∀ρ' M' σ' H',D'.nx ρ' M' ->ao H H' ->Ok K ρ' M' σ' H' ->D.nx σ' H'
 rt: ∀x M' v H',D'.rt x M' ->ao H H' ->MOk K M' H' ->WR K H' x v ->D.rt v H'
 bk: ∀ρ' M' σ' H',D'.bk ρ' M' ->ao H H' ->Ok K ρ' M' σ' H' ->D.bk σ' H'
 ct: ∀ρ' M' σ' H',D'.ct ρ' M' ->ao H H' ->Ok K ρ' M' σ' H' ->D.ct σ' H'
class IS (t:TS) (w:outParam WS):Prop where
 imp: ∀ (ρ:WSt) (M:Mp) (σ:St) (H:Hp) (D':WEnds) (D:Ends),Ok K ρ M σ H ->w D' ρ M ->EndsOk K H D' D ->t D σ H
class IR (r:R2) (w:outParam WR2):Prop where
 imp: ∀ (x y:W) (v u:V) (M:Mp) (H:Hp) (q:WK) (Q:VK),MOk K M H ->WR K H x v ->WR K H y u ->w x y M q ->(∀x M' v H',q x M' ->ao H H' ->MOk K M' H' ->WR K H' x v ->Q v H') ->r v u H Q
class IU (r:V ->Hp ->VK ->Prop) (w:outParam (W ->Mp ->WK ->Prop)):Prop where
 imp: ∀ (x:W) (v:V) (M:Mp) (H:Hp) (q:WK) (Q:VK),MOk K M H ->WR K H x v ->w x M q ->(∀x M' v H',q x M' ->ao H H' ->MOk K M' H' ->WR K H' x v ->Q v H') ->r v H Q
class IC (r:List V ->Hp ->VK ->Prop) (w:outParam WCl):Prop where
 imp: ∀ (x:List W) (v:List V) (M:Mp) (H:Hp) (q:WK) (Q:VK),MOk K M H ->WRs K H x v ->w x M q ->(∀x M' v H',q x M' ->ao H H' ->MOk K M' H' ->WR K H' x v ->Q v H') ->r v H Q
end
theorem EndsOk.mv {K:PySem.W.Frag}{H H':Hp}{D':WEnds}{D:Ends}(e:EndsOk K H D' D)(t:ao H H'):EndsOk K H' D' D:=
 ⟨fun a b c d h s=>e.nx a b c d h (t.trans s),fun a b c d h s=>e.rt a b c d h (t.trans s),fun a b c d h s=>e.bk a b c d h (t.trans s),fun a b c d h s=>e.ct a b c d h (t.trans s)⟩
end WL
namespace WL
open PySem L2
section
variable {K:PySem.W.Frag}
def bP (i:Nat):WE:=fun ρ M q=>match ρ[i]? with
 | some (some x)=>q x M
 | _=>False
theorem wj {i:Nat}{ρ:WSt}{M:Mp}{q:WK}(h:bP i ρ M q): ∃x,ρ[i]? =some (some x) /\ q x M:=by
 unfold bP at h
 split at h
 · rename_i x e;exact⟨x,e,h⟩
 · exact h.elim
instance {i:Nat}:IE K (tVar i) (bP i) where
 imp:=fun ρ M σ H q Q o h k=>let ⟨x,e,h⟩:=wj h;let ⟨v,e',r⟩:=o.env.2 i x e;⟨v,e',k x M v H h (ao.refl H) o.hp r⟩
def wC (x:W):WE:=fun _ M q=>q x M
instance {v:V}:IE K (tC v) (wC (.v v)) where
 imp:=fun ρ M σ H q Q o h k=>k (.v v) M v H h (ao.refl H) o.hp WR.v
def wOp (r:WR2)(a b:WE):WE:=fun ρ M q=>a ρ M fun x M1=>b ρ M1 fun y M2=>r x y M2 q
instance {r:R2}{w:WR2}{ta tb:TE}{a b:WE} [ir:IR K r w] [ia:IE K ta a] [ib:IE K tb b]:IE K (tOp r ta tb) (wOp w a b) where
 imp:=fun ρ M σ H q Q o h k=>ia.imp ρ M σ H _ _ o h fun x M1 v H1 h1 t1 m1 r1=>ib.imp ρ M1 σ H1 _ _ (o.mv t1 m1) h1 fun y M2 u H2 h2 t2 m2 r2=>
   ir.imp x y v u M2 H2 _ _ m2 (r1.ts t2) r2 h2 fun z M3 v3 H3 h3 t3 m3 r3=>k z M3 v3 H3 h3 ((t1.trans t2).trans t3) m3 r3
def wUn (r:W ->Mp ->WK ->Prop)(a:WE):WE:=fun ρ M q=>a ρ M fun x M1=>r x M1 q
instance {r:V ->Hp ->VK ->Prop}{w:W ->Mp ->WK ->Prop}{ta:TE}{a:WE} [ir:IU K r w] [ia:IE K ta a]:IE K (tUn r ta) (wUn w a) where
 imp:=fun ρ M σ H q Q o h k=>ia.imp ρ M σ H _ _ o h fun x M1 v H1 h1 t1 m1 r1=>
   ir.imp x v M1 H1 _ _ m1 r1 h1 fun z M3 v3 H3 h3 t3 m3 r3=>k z M3 v3 H3 h3 (t1.trans t3) m3 r3
def wI (C:Int ->Int ->Prop)(g:Int ->Int ->V):WR2:=fun x y M q=> ∃i j,x=wi i /\ y=wi j /\ C i j /\ q (.v (g i j)) M
def wI0 (g:Int ->Int ->V):WR2:=fun x y M q=> ∃i j,x=wi i /\ y=wi j /\ q (.v (g i j)) M
def wU (g:Int ->V):W ->Mp ->WK ->Prop:=fun x M q=> ∃i,x=wi i /\ q (.v (g i)) M
instance {C:Int ->Int ->Prop}{g:Int ->Int ->V}:IR K (rI C g) (wI C g) where
 imp:=by
   rintro x y v u M H q Q m r1 r2 ⟨i,j,rfl,rfl,c,h⟩ k
   exact⟨i,j,r1.eq,r2.eq,c,k _ M _ H h (ao.refl H) m WR.v⟩
instance {g:Int ->Int ->V}:IR K (rI0 g) (wI0 g) where
 imp:=by
   rintro x y v u M H q Q m r1 r2 ⟨i,j,rfl,rfl,h⟩ k
   exact⟨i,j,r1.eq,r2.eq,k _ M _ H h (ao.refl H) m WR.v⟩
instance {g:Int ->V}:IU K (rU g) (wU g) where
 imp:=by
   rintro x v M H q Q m r1 ⟨i,rfl,h⟩ k
   exact⟨i,r1.eq,k _ M _ H h (ao.refl H) m WR.v⟩
def wEq:WR2:=fun x y M q=> ∃a b,x= .v a /\ y= .v b /\ scal a b=true /\ q (wb (decide (a=b))) M
def wNe:WR2:=fun x y M q=> ∃a b,x= .v a /\ y= .v b /\ scal a b=true /\ q (wb (!decide (a=b))) M
instance:IR K rEq wEq where
 imp:=by
   rintro x y v u M H q Q m r1 r2 ⟨i,j,rfl,rfl,c,h⟩ k
   cases r1.eq;cases r2.eq
   exact⟨c,k _ M _ H h (ao.refl H) m WR.v⟩
instance:IR K rNe wNe where
 imp:=by
   rintro x y v u M H q Q m r1 r2 ⟨i,j,rfl,rfl,c,h⟩ k
   cases r1.eq;cases r2.eq
   exact⟨c,k _ M _ H h (ao.refl H) m WR.v⟩
def pY (a:WE):WT:=fun ρ M q=>a ρ M fun x M1=> ∃k,x=wb k /\ q k M1
instance {t:TE}{a:WE} [ia:IE K t a]:IT K (qt t) (pY a) where
 imp:=fun ρ M σ H q Q o h k=>ia.imp ρ M σ H _ _ o h fun x M1 v H1 ⟨b,e,h1⟩ t1 m1 r1=>by subst e;exact⟨b,r1.eq,k b M1 H1 h1 t1 m1⟩
instance {t:TE}{a:WE} [ia:IE K t a]:IT K (tB t) (pY a) where
 imp:=fun ρ M σ H q Q o h k=>ia.imp ρ M σ H _ _ o h fun x M1 v H1 ⟨b,e,h1⟩ t1 m1 r1=>by subst e;exact⟨b,r1.eq,k b M1 H1 h1 t1 m1⟩
def wAnd (a b:WT):WT:=fun ρ M q=>a ρ M fun c M1=>if c=true then b ρ M1 q else q false M1
def wOr (a b:WT):WT:=fun ρ M q=>a ρ M fun c M1=>if c=true then q true M1 else b ρ M1 q
def wNot (a:WT):WT:=fun ρ M q=>a ρ M fun c M1=>q (!c) M1
instance {t u:TT}{a b:WT} [ia:IT K t a] [ib:IT K u b]:IT K (tAnd t u) (wAnd a b) where
 imp:=fun ρ M σ H q Q o h k=>ia.imp ρ M σ H _ _ o h fun c M1 H1 h1 t1 m1=>by
   cases c with
   | true=>simp only[if_true] at h1 ⊢;exact ib.imp ρ M1 σ H1 _ _ (o.mv t1 m1) h1 fun b M2 H2 h2 t2 m2=>k b M2 H2 h2 (t1.trans t2) m2
   | false=>simp only[Bool.false_eq_true,if_false] at h1 ⊢;exact k _ M1 H1 h1 t1 m1
instance {t u:TT}{a b:WT} [ia:IT K t a] [ib:IT K u b]:IT K (tOr t u) (wOr a b) where
 imp:=fun ρ M σ H q Q o h k=>ia.imp ρ M σ H _ _ o h fun c M1 H1 h1 t1 m1=>by
   cases c with
   | false=>simp only[Bool.false_eq_true,if_false] at h1 ⊢;exact ib.imp ρ M1 σ H1 _ _ (o.mv t1 m1) h1 fun b M2 H2 h2 t2 m2=>k b M2 H2 h2 (t1.trans t2) m2
   | true=>simp only[if_true] at h1 ⊢;exact k _ M1 H1 h1 t1 m1
instance {t:TT}{a:WT} [ia:IT K t a]:IT K (tNot t) (wNot a) where
 imp:=fun ρ M σ H q Q o h k=>ia.imp ρ M σ H _ _ o h fun c M1 H1 h1 t1 m1=>k _ M1 H1 h1 t1 m1
def vj (a b:WE):WE:=fun ρ M q=>a ρ M fun x M1=> ∃c,x=wb c /\ if c=true then b ρ M1 q else q (wb false) M1
def vc (a:WE):WE:=fun ρ M q=>a ρ M fun x M1=> ∃c,x=wb c /\ q (wb (!c)) M1
instance {t u:TE}{a b:WE} [ia:IE K t a] [ib:IE K u b]:IE K (vw t u) (vj a b) where
 imp:=fun ρ M σ H q Q o h k=>ia.imp ρ M σ H _ _ o h fun x M1 v H1 ⟨c,e,h1⟩ t1 m1 r1=>by
   subst e
   refine⟨c,r1.eq,?_⟩
   cases c with
   | true=>simp only[if_true] at h1 ⊢;exact ib.imp ρ M1 σ H1 _ _ (o.mv t1 m1) h1 fun b M2 v H2 h2 t2 m2 r2=>k b M2 v H2 h2 (t1.trans t2) m2 r2
   | false=>simp only[Bool.false_eq_true,if_false] at h1 ⊢;exact k _ M1 _ H1 h1 t1 m1 WR.v
instance {t:TE}{a:WE} [ia:IE K t a]:IE K (vn t) (vc a) where
 imp:=fun ρ M σ H q Q o h k=>ia.imp ρ M σ H _ _ o h fun x M1 v H1 ⟨c,e,h1⟩ t1 m1 r1=>by
   subst e
   exact⟨c,r1.eq,k _ M1 _ H1 h1 t1 m1 WR.v⟩
def qi (r r':WR2)(a b c:WE):WE:=fun ρ M q=>a ρ M fun x M1=>b ρ M1 fun y M2=>r x y M2 fun z M3=> ∃k,z=wb k /\ if k=true then c ρ M3 fun y' M4=>r' y y' M4 fun z' M5=>q z' M5 else q (wb false) M3
def wNil:WA:=fun _ M q=>q [] M
def vg (a:WE)(r:WA):WA:=fun ρ M q=>a ρ M fun x M1=>r ρ M1 fun xs M2=>q (x::xs) M2
instance:IA K tNil wNil where
 imp:=fun ρ M σ H q Q o h k=>k [] M [] H h (ao.refl H) o.hp WRs.nil
instance {t:TE}{u:TA}{a:WE}{b:WA} [ia:IE K t a] [ib:IA K u b]:IA K (qC t u) (vg a b) where
 imp:=fun ρ M σ H q Q o h k=>ia.imp ρ M σ H _ _ o h fun x M1 v H1 h1 t1 m1 r1=>ib.imp ρ M1 σ H1 _ _ (o.mv t1 m1) h1 fun y M2 u H2 h2 t2 m2 r2=>
   k _ M2 _ H2 h2 (t1.trans t2) m2 (WRs.cons (r1.ts t2) r2)
def wTup (a:WA):WE:=fun ρ M q=>a ρ M fun xs M1=>xs.length<=sizeLine /\ q (.tup xs) M1
def wLst (a:WA):WE:=fun ρ M q=>a ρ M fun xs M1=>xs.length<=sizeLine /\ ∀p,M1 p=none ->q (wr p) (um M1 p (.lst xs))
instance {t:TA}{a:WA} [ia:IA K t a]:IE K (tTup t) (wTup a) where
 imp:=fun ρ M σ H q Q o h k=>ia.imp ρ M σ H _ _ o h fun x M1 v H1 ⟨hl,h1⟩ t1 m1 r1=>⟨by rw[r1.length];exact hl,fun p hp=>
   k _ M1 _ _ h1 (t1.trans (L2.bz.ts (ay hp))) (m1.new hp) (WR.mkT (SqT.of aw) (r1.ts (L2.bz.ts (ay hp))))⟩
instance {t:TA}{a:WA} [ia:IA K t a]:IE K (tLst t) (wLst a) where
 imp:=fun ρ M σ H q Q o h k=>ia.imp ρ M σ H _ _ o h fun x M1 v H1 ⟨hl,h1⟩ t1 m1 r1=>⟨by rw[r1.length];exact hl,fun p hp=>
   k _ _ _ _ (h1 p (m1.fresh hp)) (t1.trans (L2.bz.ts (ay hp))) (m1.newL hp r1) WR.v⟩
def wIxL:WR2:=fun x y M q=> ∃a l i u,x=wr a /\ y=wi i /\ M a=some (.lst l) /\ atI l i=some u /\ q u M
def wIxT:WR2:=fun x y M q=> ∃l i u,x= .tup l /\ y=wi i /\ atI l i=some u /\ q u M
theorem WRs.atI {H:Hp}{l:List W}{vs:List V}{i:Int}{u:W}(r:WRs K H l vs)(e:atI l i=some u): ∃v,L2.atI vs i=some v /\ WR K H u v:=by
 unfold L2.atI at e ⊢
 rw[r.length]
 cases h:ixN l.length i with
 | none=>rw[h] at e;cases e
 | some j=>rw[h] at e;exact r.at e
instance:IR K (rIxL K) wIxL where
 imp:=by
   rintro x y v u M H q Q m r1 r2 ⟨a,l,i,z,rfl,rfl,hl,e,h⟩ k
   obtain⟨vs,hv,r⟩:=m a _ hl
   obtain⟨v',e',r'⟩:=r.atI e
   exact⟨a,vs,i,v',r1.eq,r2.eq,SqL.of hv,e',k _ M _ H h (ao.refl H) m r'⟩
instance:IR K (rIxT K) wIxT where
 imp:=by
   rintro x y v u M H q Q m r1 r2 ⟨l,i,z,rfl,rfl,e,h⟩ k
   obtain⟨a,vs,rfl,hv,r⟩:=r1.tup
   obtain⟨v',e',r'⟩:=r.atI e
   exact⟨a,vs,i,v',rfl,r2.eq,hv,e',k _ M _ H h (ao.refl H) m r'⟩
end
end WL
namespace WL
open PySem L2
section
variable {K:PySem.W.Frag}
def wCB (r:WCl)(a:WA):WE:=fun ρ M q=>a ρ M fun xs M1=>r xs M1 q
instance {r:List V ->Hp ->VK ->Prop}{w:WCl}{t:TA}{a:WA} [ir:IC K r w] [ia:IA K t a]:IE K (tCB r t) (wCB w a) where
 imp:=fun ρ M σ H q Q o h k=>ia.imp ρ M σ H _ _ o h fun x M1 v H1 h1 t1 m1 r1=>ir.imp x v M1 H1 _ _ m1 r1 h1 fun y M4 v4 H4 h4 t4 m4 r4=>k y M4 v4 H4 h4 (t1.trans t4) m4 r4
abbrev WSp:=List W ->Mp ->WK ->Prop
def spW (K:PySem.W.Frag)(p:WSp):Sp:=fun vs H Q _=> ∃ (xs:List W) (M:Mp) (q:WK),WRs K H xs vs /\ MOk K M H /\ p xs M q /\ ∀x M' v H',q x M' ->ao H H' ->MOk K M' H' ->WR K H' x v ->Q v H'
def vi (p:WSp)(a:WA):WE:=fun ρ M q=>a ρ M fun xs M1=>p xs M1 q
instance {p:WSp}{E:XK}{t:TA}{a:WA} [ia:IA K t a]:IE K (nj (spW K p) [] E t) (vi p a) where
 imp:=fun ρ M σ H q Q o h k=>ia.imp ρ M σ H _ _ o h fun x M1 v H1 h1 t1 m1 r1=>⟨x,M1,q,by rw[List.append_nil];exact r1,m1,h1,fun y M4 v4 H4 h4 t4 m4 r4=>k y M4 v4 H4 h4 (t1.trans t4) m4 r4⟩
theorem okW {P:Program}{w:World}{mg:Str ->Option Value}{base:Heap}{x qual:Str}{st:Stmt}{f:Addr}{fd:FuncData}{N ps:List Str}{k:Nat}{p:WSp}(F:Fun K x qual st f fd)(S:FnScope N ps (ai st))(len: ∀vs M q,p vs M q ->vs.length=ps.length)
   (hbody: ∀ (cdv:Value) (A:Around) (outer:List Env) (s:Shared) (H:Hp) (E:XK),Room k (A.deeper (PyProof.Rows.envOfC qual (ai st) s.heap.objs.size f cdv)) ->
     ∃t w',PSs (bh CX0 P w K mg base N qual (ai st) f cdv A outer s H E).nox (bg st) t /\ IS K t w' /\ ∀vs M q,p vs M q ->w' {nx:=fun _ M'=>q wn M',rt:=q} (vs.map some++List.replicate (N.length - vs.length) none) M):
   FnOk P w K mg base CX0 (k+1) f fd ps (spW K p):=by
 refine Fun.ok F S (fun vs H Q E ⟨xs,M,q,r,m,h,_⟩=>by rw[r.length];exact len xs M q h) fun cdv A outer s H vs Q E hr h=> ?_
 obtain⟨t,w',h1,h2,h3⟩:=hbody cdv A outer s H E hr
 obtain⟨xs,M,q,r,m,h,k'⟩:=h
 refine⟨t,h1,h2.imp _ M _ H _ _ ⟨⟨?_,fun i x e=> ?_⟩,m⟩ (h3 xs M q h) ⟨fun ρ' M' σ' H' h ts o=>k' _ M' _ H' h ts o.hp WR.v,fun x M' v H' h ts m' r'=>k' x M' v H' h ts m' r',fun _ _ _ _ h=>h.elim,fun _ _ _ _ h=>h.elim⟩⟩
 · have:=r.length
   simp[L2.start,this]
 · have hl:=r.length
   unfold L2.start
   by_cases hi:i<xs.length
   · rw[List.getElem?_append_left (by simpa using hi),List.getElem?_map] at e
     cases ex:xs[i]? with
     | none=>rw[ex] at e;cases e
     | some y=>
       rw[ex] at e;cases e
       obtain⟨v,hv,rv⟩:=r.at ex
       refine⟨v,?_,rv⟩
       rw[List.getElem?_append_left (by simp;lia),List.getElem?_map,hv];rfl
   · rw[List.getElem?_append_right (by simpa using hi),List.getElem?_replicate] at e
     split at e<;>cases e
def rLen (K:PySem.W.Frag):List V ->Hp ->VK ->Prop:=fun xs H Q=> ∃p ys,xs= [.ref p] /\ (SqL K H p ys \/ SqT K H p ys) /\ Q (.int ys.length) H
theorem c0 {X:Cx}:bB X (.builtin "len") (rLen X.K):=ke
def wLen:WCl:=fun xs M q=>(∃a l,xs= [wr a] /\ M a=some (.lst l) /\ q (wi l.length) M) \/ ∃l,xs= [.tup l] /\ q (wi l.length) M
theorem WRs.one {H:Hp}{x:W}{vs:List V}(h:WRs K H [x] vs): ∃v,vs= [v] /\ WR K H x v:=by
 simp only[WRs] at h
 obtain⟨v,t,rfl,h1,rfl⟩:=h
 exact⟨v,rfl,h1⟩
theorem WRs.two {H:Hp}{x y:W}{vs:List V}(h:WRs K H [x,y] vs): ∃v u,vs= [v,u] /\ WR K H x v /\ WR K H y u:=by
 simp only[WRs] at h
 obtain⟨v,t,rfl,h1,u,t',rfl,h2,rfl⟩:=h
 exact⟨v,u,rfl,h1,h2⟩
instance:IC K (rLen K) wLen where
 imp :=by
   rintro xs v M H q Q m r1 h k
   rcases h with⟨a,l,rfl,hl,h⟩ | ⟨l,rfl,h⟩
   · obtain⟨v,rfl,r⟩:=r1.one
     cases r.eq
     obtain⟨vs,hv,rr⟩:=m a _ hl
     refine⟨a,vs,rfl, .inl (SqL.of hv),k _ M _ H h (ao.refl H) m ?_⟩
     rw[rr.length];exact WR.v
   · obtain⟨v,rfl,r⟩:=r1.one
     obtain⟨a,vs,rfl,hv,rr⟩:=r.tup
     refine⟨a,vs,rfl, .inr hv,k _ M _ H h (ao.refl H) m ?_⟩
     rw[rr.length];exact WR.v
def rAbs:List V ->Hp ->VK ->Prop:=fun xs H Q=> ∃i,xs= [.int i] /\ Q (.int (if i<0 then -i else i)) H
theorem jf {X:Cx}:bB X (.builtin "abs") rAbs:=tE
def wAbs:WCl:=fun xs M q=> ∃i,xs= [wi i] /\ q (wi (if i<0 then -i else i)) M
instance:IC K rAbs wAbs where
 imp:=by
   rintro xs v M H q Q m r1 ⟨i,rfl,h⟩ k
   obtain⟨v,rfl,r⟩:=r1.one
   cases r.eq
   exact⟨i,rfl,k _ M _ H h (ao.refl H) m WR.v⟩
def vI:List V ->Hp ->VK ->Prop:=fun xs H Q=> ∃i j,xs= [.int i, .int j] /\ Q (.int (if j >i then j else i)) H
theorem iF {X:Cx}(hc:X.calm=true):bB X (.builtin "max") vI:=pH hc
def vd:WCl:=fun xs M q=> ∃i j,xs= [wi i,wi j] /\ q (wi (if j >i then j else i)) M
instance:IC K vI vd where
 imp:=by
   rintro xs v M H q Q m r1 ⟨i,j,rfl,h⟩ k
   obtain⟨v,u,rfl,r,r'⟩:=r1.two
   cases r.eq;cases r'.eq
   exact⟨i,j,rfl,k _ M _ H h (ao.refl H) m WR.v⟩
def nB (K:PySem.W.Frag):List V ->Hp ->VK ->Prop:=fun xs H Q=> ∃p ys,xs= [.ref p] /\ (SqL K H p ys \/ SqT K H p ys) /\ ∀l,H l=none ->Q (.ref l) (upd H l (.lst ys))
theorem iG {X:Cx}:bB X (.type "list") (nB X.K):=kc
def mT:WCl:=fun xs M q=> ∃l,((∃a,xs= [wr a] /\ M a=some (.lst l)) \/ xs= [.tup l]) /\ ∀p,M p=none ->q (wr p) (um M p (.lst l))
instance:IC K (nB K) mT where
 imp :=by
   rintro xs v M H q Q m r1 ⟨l,hx,h⟩ k
   rcases hx with⟨a,rfl,hl⟩ | rfl
   · obtain⟨v,rfl,r⟩:=r1.one
     cases r.eq
     obtain⟨vs,hv,rr⟩:=m a _ hl
     exact⟨a,vs,rfl, .inl (SqL.of hv),fun p hp=>k _ _ _ _ (h p (m.fresh hp)) (L2.bz.ts (ay hp)) (m.newL hp rr) WR.v⟩
   · obtain⟨v,rfl,r⟩:=r1.one
     obtain⟨a,vs,rfl,hv,rr⟩:=r.tup
     exact⟨a,vs,rfl, .inr hv,fun p hp=>k _ _ _ _ (h p (m.fresh hp)) (L2.bz.ts (ay hp)) (m.newL hp rr) WR.v⟩
def kL (K:PySem.W.Frag):List V ->Hp ->VK ->Prop:=fun xs H Q=> ∃p ys,xs= [.ref p] /\ ((SqL K H p ys /\ ∀l,H l=none ->Q (.ref l) (upd H l (.tup ys))) \/ (SqT K H p ys /\ Q (.ref p) H))
theorem dI {X:Cx}:bB X (.type "tuple") (kL X.K):=iN
def ko:WCl:=fun xs M q=> ∃l,((∃a,xs= [wr a] /\ M a=some (.lst l)) \/ xs= [.tup l]) /\ q (.tup l) M
instance:IC K (kL K) ko where
 imp :=by
   rintro xs v M H q Q m r1 ⟨l,hx,h⟩ k
   rcases hx with⟨a,rfl,hl⟩ | rfl
   · obtain⟨v,rfl,r⟩:=r1.one
     cases r.eq
     obtain⟨vs,hv,rr⟩:=m a _ hl
     exact⟨a,vs,rfl, .inl ⟨SqL.of hv,fun p hp=>k _ M _ _ h (L2.bz.ts (ay hp)) (m.new hp) (WR.mkT (SqT.of aw) (rr.ts (L2.bz.ts (ay hp))))⟩⟩
   · obtain⟨v,rfl,r⟩:=r1.one
     obtain⟨a,vs,rfl,hv,rr⟩:=r.tup
     exact⟨a,vs,rfl, .inr ⟨hv,k _ M _ H h (ao.refl H) m (WR.mkT hv rr)⟩⟩
theorem WRs.ints {H:Hp}: ∀ {ns:List Int} {vs:List V},WRs K H (ns.map wi) vs ->vs=ns.map V.int
 | [],vs,h=>by simpa only[List.map_nil,WRs] using h
 | n::r,vs,h=>by
   simp only[List.map_cons,WRs] at h
   obtain⟨v,t,rfl,h1,h2⟩:=h
   rw[WRs.ints h2,h1.eq];rfl
theorem WRs.ofInts {H:Hp}: ∀ (ns:List Int),WRs K H (ns.map wi) (ns.map V.int)
 | []=>WRs.nil
 | n::r=>WRs.cons WR.v (WRs.ofInts r)
def tyW (M:Mp):W ->Option Value
 | .v (.int _)=>some (.type "int")
 | .v (.bl _)=>some (.type "bool")
 | .v (.str _)=>some (.type "str")
 | .v .non=>some (.type "NoneType")
 | .tup _=>some (.type "tuple")
 | .v (.ref a)=>match M a with
   | some (.lst _)=>some (.type "list")
   | _=>none
 | _=>none
def wIsX (K:PySem.W.Frag):WCl:=fun xs M q=> ∃x T t b,xs= [x, .v (.ty T)] /\ tyW M x=some t /\ PySem.W.kitOne K t (.type T)=some b /\ q (wb b) M
theorem wx {H:Hp}{M:Mp}{x:W}{v:V}{t:Value}(m:MOk K M H)(r:WR K H x v)(e:tyW M x=some t):TyX K H v t:=by
 cases x with
 | tup l=>
   obtain⟨a,vs,rfl,hv,rr⟩:=r.tup
   cases e
   exact .tup hv
 | v y =>
   cases r.eq
   cases v with
   | int i=>cases e;exact .of (.int i)
   | bl i=>cases e;exact .of (.bl i)
   | str i=>cases e;exact .of (.str i)
   | non=>cases e;exact .of .non
   | ref a=>
     simp only[tyW] at e
     cases ha:M a with
     | none=>rw[ha] at e;cases e
     | some o=>
       rw[ha] at e
       cases o with
       | lst l=>cases e;obtain⟨vs,hv,_⟩:=m a _ ha;exact .lst (SqL.of hv)
       | dK l=>cases e
       | ins C d l=>cases e
       | exc C=>cases e
       | fz o l l2=>cases e
   | byt _=>cases e
   | flt _=>cases e
   | ty _=>cases e
instance:IC K (rIsX K) (wIsX K) where
 imp:=by
   rintro xs v M H q Q m r1 ⟨x,T,t,b,rfl,ht,e,h⟩ k
   obtain⟨v,u,rfl,r,r'⟩:=r1.two
   cases r'.eq
   exact⟨v,T,t,b,rfl,wx m r ht,e,k _ M _ H h (ao.refl H) m WR.v⟩
end
end WL
namespace WL
open PySem L2
section
variable {K:PySem.W.Frag}
abbrev WM:=W ->List W ->Mp ->WK ->Prop
class IM (K:PySem.W.Frag) (r:V ->List V ->Hp ->VK ->Prop) (w:outParam WM):Prop where
 imp: ∀ (x:W) (v:V) (ys:List W) (us:List V) (M:Mp) (H:Hp) (q:WK) (Q:VK),MOk K M H ->WR K H x v ->WRs K H ys us ->w x ys M q ->(∀x M' v H',q x M' ->ao H H' ->MOk K M' H' ->WR K H' x v ->Q v H') ->r v us H Q
def IsL (M:Mp)(x:W):Prop:= ∃a l,x=wr a /\ M a=some (.lst l)
theorem IsL.ty {M:Mp}{H:Hp}{x:W}{v:V}(m:MOk K M H)(r:WR K H x v)(h:IsL M x):tyV K "list" v H:=by
 obtain⟨a,l,rfl,hl⟩:=h
 cases r.eq
 obtain⟨vs,hv,_⟩:=m a _ hl
 exact .inl ⟨rfl,vs,SqL.of hv⟩
def wBM (r:WM)(a:WE)(b:WA):WE:=fun ρ M q=>a ρ M fun x M1=>IsL M1 x /\ b ρ M1 fun xs M2=>r x xs M2 q
instance {r:V ->List V ->Hp ->VK ->Prop}{w:WM}{t:TE}{u:TA}{a:WE}{b:WA} [ir:IM K r w] [ia:IE K t a] [ib:IA K u b]:IE K (tBM K "list" r t u) (wBM w a b) where
 imp:=fun ρ M σ H q Q o h k=>ia.imp ρ M σ H _ _ o h fun x M1 v H1 ⟨hl,h1⟩ t1 m1 r1=>⟨hl.ty m1 r1,ib.imp ρ M1 σ H1 _ _ (o.mv t1 m1) h1 fun y M2 u H2 h2 t2 m2 r2=>
   ir.imp x v y u M2 H2 _ _ m2 (r1.ts t2) r2 h2 fun z M3 v3 H3 h3 t3 m3 r3=>k z M3 v3 H3 h3 ((t1.trans t2).trans t3) m3 r3⟩
def mU:WM:=fun x ys M q=> ∃a l y,x=wr a /\ ys= [y] /\ M a=some (.lst l) /\ l.length<sizeLine /\ q wn (um M a (.lst (l++ [y])))
instance:IM K nD mU where
 imp:=by
   rintro x v ys us M H q Q m r1 r2 ⟨a,l,y,rfl,rfl,hl,hn,h⟩ k
   cases r1.eq
   obtain⟨u,rfl,r⟩:=r2.one
   obtain⟨vs,hv,rr⟩:=m a _ hl
   exact⟨a,vs,u,rfl,rfl,hv,by rw[rr.length];exact hn,k _ _ _ _ h (en hv) (m.putL hv (rr.snoc r)) WR.v⟩
def ue:WM:=fun x ys M q=> ∃a b l l',x=wr a /\ ys= [wr b] /\ M a=some (.lst l) /\ M b=some (.lst l') /\ l.length+l'.length<=sizeLine /\ q wn (um M a (.lst (l++l')))
instance:IM K nC ue where
 imp:=by
   rintro x v ys us M H q Q m r1 r2 ⟨a,b,l,l',rfl,rfl,hl,hl',hn,h⟩ k
   cases r1.eq
   obtain⟨u,rfl,r⟩:=r2.one
   cases r.eq
   obtain⟨vs,hv,rr⟩:=m a _ hl
   obtain⟨vs',hv',rr'⟩:=m b _ hl'
   exact⟨a,b,vs,vs',rfl,rfl,hv,hv',by rw[rr.length,rr'.length];exact hn,k _ _ _ _ h (en hv) (m.putL hv (rr.append rr')) WR.v⟩
def wCat:WR2:=fun x y M q=> ∃a b l l',x=wr a /\ y=wr b /\ M a=some (.lst l) /\ M b=some (.lst l') /\ l.length+l'.length<=sizeLine /\ ∀p,M p=none ->q (wr p) (um M p (.lst (l++l')))
instance:IR K rCat wCat where
 imp:=by
   rintro x y v u M H q Q m r1 r2 ⟨a,b,l,l',rfl,rfl,hl,hl',hn,h⟩ k
   cases r1.eq;cases r2.eq
   obtain⟨vs,hv,rr⟩:=m a _ hl
   obtain⟨vs',hv',rr'⟩:=m b _ hl'
   exact⟨a,b,vs,vs',rfl,rfl,hv,hv',by rw[rr.length,rr'.length];exact hn,fun p hp=>k _ _ _ _ (h p (m.fresh hp)) (L2.bz.ts (ay hp)) (m.newL hp (rr.append rr')) WR.v⟩
def wTru (M:Mp):W ->Bool ->Prop
 | .v .non,k=>k=false
 | .v (.bl b),k=>k=b
 | .v (.int i),k=>k=(i !=0)
 | .v (.str y),k=>y.length<=sizeLine /\ k=((y.length:Int) !=0)
 | .v (.ref a),k=>(∃l,M a=some (.lst l) /\ k= !l.isEmpty) \/ (∃l,M a=some (.dK l) /\ k= !l.isEmpty)
 | .tup l,k=>k= !l.isEmpty
 | _,_=>False
def qq (K:PySem.W.Frag)(ta:TE):TT:=fun σ H Q=>ta σ H fun x H'=> ∃k,TruV K x H' k /\ Q k H'
theorem oG {X:Cx}{a:Expr}{ta:TE}(ha:PE X a ta)(he: ∀whole,isTrue a X.env whole=(do let v <- whole;standAt a.pos;holding [v] (truthy v)):=by intro _;rfl):PT X a (qq X.K ta):=rq ha he
def pX (a:WE):WT:=fun ρ M q=>a ρ M fun x M1=> ∃k,wTru M1 x k /\ q k M1
theorem WRs.isEmpty {H:Hp}{l:List W}{vs:List V}(r:WRs K H l vs):vs.isEmpty=l.isEmpty:=by
 have:=r.length
 cases l<;>cases vs<;>simp_all
theorem KR.isEmpty {H:Hp}{l:List (Key×W)}{vs:List (Key×V)}(r:KR K H l vs):vs.isEmpty=l.isEmpty:=by
 cases r<;>rfl
theorem wTru.ok {M:Mp}{H:Hp}{x:W}{v:V}{k:Bool}(m:MOk K M H)(r:WR K H x v)(h:wTru M x k):TruV K v H k:=by
 cases x with
 | tup l=>
   obtain⟨a,vs,rfl,hv,rr⟩:=r.tup
   exact .inr (.inl ⟨vs,hv,by rw[rr.isEmpty];exact h⟩)
 | v y =>
   cases r.eq
   cases v with
   | ref a=>
     rcases h with⟨l,hl,e⟩ | ⟨l,hl,e⟩
     · obtain⟨vs,hv,rr⟩:=m a _ hl
       exact .inl ⟨vs,SqL.of hv,by rw[rr.isEmpty];exact e⟩
     · obtain⟨vs,hv,rr⟩:=m a _ hl
       exact .inr (.inr ⟨vs,hv,by rw[rr.isEmpty];exact e⟩)
   | _=>first | exact h | exact(show False from h).elim
instance {t:TE}{a:WE} [ia:IE K t a]:IT K (qq K t) (pX a) where
 imp:=fun ρ M σ H q Q o h k=>ia.imp ρ M σ H _ _ o h fun x M1 v H1 ⟨b,hb,h1⟩ t1 m1 r1=>⟨b,hb.ok m1 r1,k b M1 H1 h1 t1 m1⟩
def bA:Key ->W
 | .inl k=>wi k
 | .inr x=>ws x
def bD (kvs:List (Key×W))(k:Key):Option W:=(kvs.find? fun kv=>decide (kv.1=k)).map (·.2)
def dA (kvs:List (Key×W))(k:Key)(v:W):List (Key×W):=
 if(kvs.any fun kv=>decide (kv.1=k))=true then kvs.map (fun kv=>if kv.1=k then(kv.1,v) else kv) else kvs++ [(k,v)]
def jc (kvs:List (Key×W))(k:Key):List (Key×W):=kvs.filter fun kv=>decide (kv.1≠k)
theorem KR.keys {H:Hp}: ∀ {l:List (Key×W)} {vs:List (Key×V)},KR K H l vs ->vs.map (·.1)=l.map (·.1)
 | _,_, .nil=>rfl
 | _,_, .cons ⟨e,r⟩ t=>by rw[List.map_cons,List.map_cons,KR.keys t,e]
theorem KR.length {H:Hp}{κ:Type}: ∀ {l:List (κ×W)} {vs:List (κ×V)},KR K H l vs ->vs.length=l.length
 | _,_, .nil=>rfl
 | _,_, .cons _ t=>by rw[List.length_cons,List.length_cons,KR.length t]
theorem KR.val {H:Hp}(k:Key): ∀ {l:List (Key×W)} {vs:List (Key×V)},KR K H l vs ->(bD l k=none /\ cf vs k=none) \/ ∃x v,bD l k=some x /\ cf vs k=some v /\ WR K H x v
 | _,_, .nil=> .inl ⟨rfl,rfl⟩
 | (k1,x)::l,(k2,v)::vs, .cons ⟨e,r⟩ t=>by
   have e:k1=k2:=e
   subst e
   unfold bD cf
   rw[List.find?_cons,List.find?_cons]
   by_cases hk:k1=k
   · simp only[hk,decide_true]
     exact .inr ⟨x,v,rfl,rfl,r⟩
   · simp only[hk,decide_false]
     exact KR.val k t
theorem KR.map {H:Hp}{k:Key}{x:W}{v:V}(rx:WR K H x v): ∀ {l:List (Key×W)} {vs:List (Key×V)},KR K H l vs ->KR K H (l.map (fun kv=>if kv.1=k then(kv.1,x) else kv)) (vs.map (fun kv=>if kv.1=k then(kv.1,v) else kv))
 | _,_, .nil=> .nil
 | (k1,y)::l,(k2,u)::vs, .cons ⟨e,r⟩ t=>by
   have e:k1=k2:=e
   subst e
   rw[List.map_cons,List.map_cons]
   refine .cons ?_ (KR.map rx t)
   by_cases hk:k1=k
   · rw[if_pos hk,if_pos hk];exact⟨rfl,rx⟩
   · rw[if_neg hk,if_neg hk];exact⟨rfl,r⟩
theorem KR.append {H:Hp}{k:Key}{x:W}{v:V}(rx:WR K H x v): ∀ {l:List (Key×W)} {vs:List (Key×V)},KR K H l vs ->KR K H (l++ [(k,x)]) (vs++ [(k,v)])
 | _,_, .nil=> .cons ⟨rfl,rx⟩ .nil
 | _,_, .cons r t=> .cons r (KR.append rx t)
theorem KR.put {H:Hp}{k:Key}{x:W}{v:V}(rx:WR K H x v){l:List (Key×W)}{vs:List (Key×V)}(r:KR K H l vs):KR K H (dA l k x) (putK vs k v):=by
 have ek:(l.any fun kv=>decide (kv.1=k))=vs.any fun kv=>decide (kv.1=k):=by
   have:=r.keys
   have e1:(l.any fun kv=>decide (kv.1=k))=(l.map (·.1)).any fun y=>decide (y=k):=by rw[List.any_map];rfl
   have e2:(vs.any fun kv=>decide (kv.1=k))=(vs.map (·.1)).any fun y=>decide (y=k):=by rw[List.any_map];rfl
   rw[e1,e2,this]
 unfold dA putK
 rw[ek]
 split
 · exact KR.map rx r
 · exact KR.append rx r
theorem KR.drop {H:Hp}{k:Key}: ∀ {l:List (Key×W)} {vs:List (Key×V)},KR K H l vs ->KR K H (jc l k) (gh vs k)
 | _,_, .nil=> .nil
 | (k1,y)::l,(k2,u)::vs, .cons ⟨e,r⟩ t=>by
   have e:k1=k2:=e
   subst e
   unfold jc gh
   rw[List.filter_cons,List.filter_cons]
   by_cases hk:k1=k
   · simp only[hk,ne_eq,not_true,decide_false,Bool.false_eq_true,if_false];exact KR.drop t
   · simp only[ne_eq,hk,not_false_eq_true,decide_true,if_true];exact .cons ⟨rfl,r⟩ (KR.drop t)
theorem fo {H:Hp}{k:Key}{v:V}(r:WR K H (bA k) v):v=kV k:=by
 cases k<;>exact r.eq
def vf:WE:=fun _ M q=> ∀p,M p=none ->q (wr p) (um M p (.dK []))
instance:IE K qA vf where
 imp:=fun ρ M σ H q Q o h k=>fun p hp=>k _ _ _ _ (h p (o.hp.fresh hp)) (L2.bz.ts (ay hp)) (o.hp.put (L2.bz.ts (ay hp)) ⟨[],aw, .nil⟩) WR.v
def qg (a b:WE):WE:=fun ρ M q=>a ρ M fun x M1=>b ρ M1 fun y M2=> ∃p kvs k z,x=wr p /\ M2 p=some (.dK kvs) /\ y=bA k /\ bD kvs k=some z /\ q z M2
instance {t u:TE}{a b:WE} [ia:IE K t a] [ib:IE K u b]:IE K (vt t u) (qg a b) where
 imp :=fun ρ M σ H q Q o h k=>ia.imp ρ M σ H _ _ o h fun x M1 v H1 h1 t1 m1 r1=>ib.imp ρ M1 σ H1 _ _ (o.mv t1 m1) h1 fun y M2 u H2 ⟨p,kvs,ky,z,e1,e2,e3,e4,h2⟩ t2 m2 r2=>by
   subst e1 e3
   obtain⟨ks,hk,rr⟩:=m2 p _ e2
   rcases rr.val ky with⟨n1,_⟩ | ⟨x',v',n1,n2,rx⟩
   · rw[n1] at e4;cases e4
   · rw[n1] at e4;cases e4
     refine⟨p,v',r1.eq,?_,k _ M2 _ H2 h2 (t1.trans t2) m2 rx⟩
     rw[fo r2, <- n2]
     exact kj.k hk
theorem KR.some {H:Hp}(k:Key){l:List (Key×W)}{vs:List (Key×V)}(r:KR K H l vs):(cf vs k).isSome=(bD l k).isSome:=by
 rcases r.val k with⟨a,b⟩ | ⟨x,v,a,b,_⟩ <;>rw[a,b] <;>rfl
def lM (a b c:WE):WE:=fun ρ M q=>a ρ M fun x M1=> ∃p,x=wr p /\ (∃kvs,M1 p=some (.dK kvs)) /\ b ρ M1 fun y M2=>c ρ M2 fun z M3=> ∃kvs k,M3 p=some (.dK kvs) /\ y=bA k /\ q ((bD kvs k).getD z) M3
instance {t u s:TE}{a b c:WE} [ia:IE K t a] [ib:IE K u b] [ic:IE K s c]:IE K (qB t u s) (lM a b c) where
 imp:=fun ρ M σ H q Q o h k=>ia.imp ρ M σ H _ _ o h fun x M1 v H1 ⟨p,e,⟨kvs,hp⟩,h1⟩ t1 m1 r1=>by
   subst e
   obtain⟨ks,hk,rr⟩:=m1 p _ hp
   refine⟨p,r1.eq, .inl ⟨ks, .inl hk⟩,ib.imp ρ M1 σ H1 _ _ (o.mv t1 m1) h1 fun y M2 u H2 h2 t2 m2 r2=>ic.imp ρ M2 σ H2 _ _ (o.mv (t1.trans t2) m2) h2 fun z M3 u3 H3 ⟨kvs,ky,e2,e3,h3⟩ t3 m3 r3=> ?_⟩
   subst e3
   obtain⟨ks,hk,rr⟩:=m3 p _ e2
   refine⟨cf ks ky,by rw[fo (r2.ts t3)];exact kj.k hk,k _ M3 _ H3 h3 ((t1.trans t2).trans t3) m3 ?_⟩
   rcases rr.val ky with⟨n1,n2⟩ | ⟨x',v',n1,n2,rx⟩
   · rw[n1,n2];exact r3
   · rw[n1,n2];exact rx
end
end WL
namespace WL
open PySem L2
section
variable {K:PySem.W.Frag}
def vk (i:Nat):WG:=fun x ρ M q=>q (ρ.set i (some x)) M
instance {i:Nat}:IG K (fw i) (vk i) where
 imp:=fun x v ρ M σ H q Q o r h k=>k _ M _ H h (ao.refl H) ⟨o.env.set i r,o.hp⟩
def vNil:WGs:=fun xs ρ M q=>xs= [] /\ q ρ M
def vm (a:WG)(b:WGs):WGs:=fun xs ρ M q=> ∃x r,xs=x::r /\ a x ρ M fun ρ' M'=>b r ρ' M' q
instance:IGs K gNil vNil where
 imp:=fun x v ρ M σ H q Q o r h k=>by
   obtain⟨rfl,h⟩:=h
   exact⟨by simpa only[WRs] using r,k _ M _ H h (ao.refl H) o⟩
instance {t:TG}{u:TGs}{a:WG}{b:WGs} [ia:IG K t a] [ib:IGs K u b]:IGs K (nZ t u) (vm a b) where
 imp:=fun x v ρ M σ H q Q o r h k=>by
   obtain⟨y,rest,rfl,h⟩:=h
   simp only[WRs] at r
   obtain⟨v1,t1,rfl,r1,r2⟩:=r
   exact⟨v1,t1,rfl,ia.imp y v1 ρ M σ H _ _ o r1 h fun ρ' M' σ' H' h' ts o'=>ib.imp rest t1 ρ' M' σ' H' _ _ o' (r2.ts ts) h' fun ρ2 M2 σ2 H2 h2 ts2 o2=>k ρ2 M2 σ2 H2 h2 (ts.trans ts2) o2⟩
def vTup (n:Nat)(a:WGs):WG:=fun x ρ M q=> ∃l,x= .tup l /\ l.length=n /\ a l ρ M q
instance {n:Nat}{t:TGs}{a:WGs} [ia:IGs K t a]:IG K (gTup K n t) (vTup n a) where
 imp:=fun x v ρ M σ H q Q o r h k=>by
   obtain⟨l,rfl,hl,h⟩:=h
   obtain⟨a',vs,rfl,hv,rr⟩:=r.tup
   exact⟨a',vs,rfl,hv,by rw[rr.length];exact hl,ia.imp l vs ρ M σ H _ _ o rr h k⟩
abbrev tM:=W ->W ->W ->Mp ->(Mp ->Prop) ->Prop
class ISet (K:PySem.W.Frag) (t:tN) (w:outParam tM):Prop where
 imp: ∀ (x y z:W) (v u r:V) (M:Mp) (H:Hp) (q:Mp ->Prop) (Q:Hp ->Prop),MOk K M H ->WR K H x v ->WR K H y u ->WR K H z r ->w x y z M q ->(∀M' H',q M' ->ao H H' ->MOk K M' H' ->Q H') ->t v u r H Q
def vb:tM:=fun x y z M q=> ∃a l k j,x=wr a /\ y=wi k /\ M a=some (.lst l) /\ ixN l.length k=some j /\ q (um M a (.lst (l.set j z)))
instance:ISet K vG vb where
 imp:=by
   rintro x y z v u r M H q Q m r1 r2 r3 ⟨a,l,i,j,rfl,rfl,hl,e,h⟩ k
   obtain⟨vs,hv,rr⟩:=m a _ hl
   exact⟨a,vs,i,j,r1.eq,r2.eq,hv,by rw[rr.length];exact e,k _ _ h (en hv) (m.putL hv (rr.set j r3))⟩
def vSub (a b:WE)(s:tM):WG:=fun x ρ M q=>a ρ M fun o M1=>b ρ M1 fun i M2=>s o i x M2 fun M3=>q ρ M3
instance {t u:TE}{s:tN}{a b:WE}{w:tM} [ia:IE K t a] [ib:IE K u b] [is:ISet K s w]:IG K (gSub t u s) (vSub a b w) where
 imp:=fun x v ρ M σ H q Q o r h k=>ia.imp ρ M σ H _ _ o h fun y M1 v1 H1 h1 t1 m1 r1=>ib.imp ρ M1 σ H1 _ _ (o.mv t1 m1) h1 fun z M2 v2 H2 h2 t2 m2 r2=>
   is.imp y z x v1 v2 v M2 H2 _ _ m2 (r1.ts t2) r2 (r.ts (t1.trans t2)) h2 fun M3 H3 h3 t3 m3=>k ρ M3 σ H3 h3 ((t1.trans t2).trans t3) (o.mv ((t1.trans t2).trans t3) m3)
def vA:WS:=fun D ρ M=>D.nx ρ M
instance:IS K vo vA where
 imp:=fun ρ M σ H D' D o h e=>e.nx ρ M σ H h (ao.refl H) o
def sSeq (a b:WS):WS:=fun D ρ M=>a {D with nx:=b D} ρ M
instance {t u:TS}{a b:WS} [ia:IS K t a] [ib:IS K u b]:IS K (tSeq t u) (sSeq a b) where
 imp:=fun ρ M σ H D' D o h e=>ia.imp ρ M σ H _ _ o h ⟨fun ρ' M' σ' H' h' ts o'=>ib.imp ρ' M' σ' H' D' D o' h' (e.mv ts),e.rt,e.bk,e.ct⟩
def vE:WS:=fun D ρ M=>D.ct ρ M
instance:IS K vv vE where
 imp:=fun ρ M σ H D' D o h e=>e.ct ρ M σ H h (ao.refl H) o
def vB (a:WE):WS:=fun D ρ M=>a ρ M fun _ M1=>D.nx ρ M1
instance {t:TE}{a:WE} [ia:IE K t a]:IS K (vq t) (vB a) where
 imp:=fun ρ M σ H D' D o h e=>ia.imp ρ M σ H _ _ o h fun x M1 v H1 h1 t1 m1 r1=>e.nx ρ M1 σ H1 h1 t1 (o.mv t1 m1)
def sRet (a:WE):WS:=fun D ρ M=>a ρ M D.rt
instance {t:TE}{a:WE} [ia:IE K t a]:IS K (tRet t) (sRet a) where
 imp:=fun ρ M σ H D' D o h e=>ia.imp ρ M σ H _ _ o h fun x M1 v H1 h1 t1 m1 r1=>e.rt x M1 v H1 h1 t1 m1 r1
def sIf (c:WT)(a b:WS):WS:=fun D ρ M=>c ρ M fun k M1=>if k=true then a D ρ M1 else b D ρ M1
instance {tc:TT}{t u:TS}{c:WT}{a b:WS} [ic:IT K tc c] [ia:IS K t a] [ib:IS K u b]:IS K (tIfS tc t u) (sIf c a b) where
 imp:=fun ρ M σ H D' D o h e=>ic.imp ρ M σ H _ _ o h fun k M1 H1 h1 t1 m1=>by
   cases k with
   | true=>simp only[if_true] at h1 ⊢;exact ia.imp ρ M1 σ H1 D' D (o.mv t1 m1) h1 (e.mv t1)
   | false=>simp only[Bool.false_eq_true,if_false] at h1 ⊢;exact ib.imp ρ M1 σ H1 D' D (o.mv t1 m1) h1 (e.mv t1)
def sAsg (a:WE)(g:WG):WS:=fun D ρ M=>a ρ M fun x M1=>g x ρ M1 D.nx
instance {t:TE}{g:TG}{a:WE}{w:WG} [ia:IE K t a] [ig:IG K g w]:IS K (qG t g) (sAsg a w) where
 imp:=fun ρ M σ H D' D o h e=>ia.imp ρ M σ H _ _ o h fun x M1 v H1 h1 t1 m1 r1=>ig.imp x v ρ M1 σ H1 _ _ (o.mv t1 m1) r1 h1 fun ρ2 M2 σ2 H2 h2 t2 o2=>e.nx ρ2 M2 σ2 H2 h2 (t1.trans t2) o2
def lV (a b c:WE):WS:=fun D ρ M=>c ρ M fun z M1=>a ρ M1 fun x M2=>b ρ M2 fun y M3=> ∃p kvs k,x=wr p /\ M3 p=some (.dK kvs) /\ y=bA k /\ kvs.length<sizeLine /\ D.nx ρ (um M3 p (.dK (dA kvs k z)))
instance {t u s:TE}{a b c:WE} [ia:IE K t a] [ib:IE K u b] [ic:IE K s c]:IS K (vC t u s) (lV a b c) where
 imp :=fun ρ M σ H D' D o h e=>ic.imp ρ M σ H _ _ o h fun z M1 v1 H1 h1 t1 m1 r1=>ia.imp ρ M1 σ H1 _ _ (o.mv t1 m1) h1 fun x M2 v2 H2 h2 t2 m2 r2=>
   ib.imp ρ M2 σ H2 _ _ (o.mv (t1.trans t2) m2) h2 fun y M3 v3 H3 ⟨p,kvs,k,e1,e2,e3,hl,h3⟩ t3 m3 r3=>by
     subst e1 e3
     obtain⟨ks,hk,rr⟩:=m3 p _ e2
     have ts:=eV (u:= .dK (putK ks k v1)) hk
     refine⟨p,_,r2.eq,?_,e.nx ρ _ σ (upd H3 p (.dK (putK ks k v1))) h3 (((t1.trans t2).trans t3).trans ts) (o.mv (((t1.trans t2).trans t3).trans ts) (m3.putD hk (KR.put (r1.ts (t2.trans t3)) rr)))⟩
     rw[fo r3]
     exact tQ.k hk (by rw[rr.length];exact hl)
def lW (a b:WE):WS:=fun D ρ M=>a ρ M fun x M1=>b ρ M1 fun y M2=> ∃p kvs k,x=wr p /\ M2 p=some (.dK kvs) /\ y=bA k /\ (bD kvs k).isSome=true /\ D.nx ρ (um M2 p (.dK (jc kvs k)))
instance {t u:TE}{a b:WE} [ia:IE K t a] [ib:IE K u b]:IS K (vD t u) (lW a b) where
 imp :=fun ρ M σ H D' D o h e=>ia.imp ρ M σ H _ _ o h fun x M2 v2 H2 h2 t2 m2 r2=>
   ib.imp ρ M2 σ H2 _ _ (o.mv t2 m2) h2 fun y M3 v3 H3 ⟨p,kvs,k,e1,e2,e3,hl,h3⟩ t3 m3 r3=>by
     subst e1 e3
     obtain⟨ks,hk,rr⟩:=m3 p _ e2
     have ts:=eV (u:= .dK (gh ks k)) hk
     exact⟨p,ks,k,r2.eq,hk,fo r3,by rw[rr.some];exact hl,e.nx ρ _ σ _ h3 ((t2.trans t3).trans ts) (o.mv ((t2.trans t3).trans ts) (m3.putD hk rr.drop))⟩
def tP (K:PySem.W.Frag)(H1:Hp)(J:It)(xs:List W)(keep:Mp ->Prop):Prop:=
 ∀i M H,ao H1 H ->MOk K M H ->keep M ->(xs.length=i ->J.stop i H) /\ (i<xs.length ->J.go i H) /\ ∀v H',i<xs.length ->J.yld i H v H' ->ao H H' /\ MOk K M H' /\ ∃x,xs[i]? =some x /\ WR K H' x v
class II (K:PySem.W.Frag) (t:TI) (w:outParam WI):Prop where
 imp: ∀ (ρ:WSt) (M:Mp) (σ:St) (H:Hp) (q:List W ->(Mp ->Prop) ->Mp ->Prop) (R:It ->Hp ->Prop),Ok K ρ M σ H ->w ρ M q ->(∀xs keep J M' H',q xs keep M' ->ao H H' ->MOk K M' H' ->tP K H' J xs keep ->R J H') ->t σ H R
def sE (a:WE):WI:=fun ρ M q=>a ρ M fun x M1=> ∃p l,x=wr p /\ M1 p=some (.lst l) /\ q l (fun M'=>M' p=some (.lst l)) M1
def jTup (a:WE):WI:=fun ρ M q=>a ρ M fun x M1=> ∃l,x= .tup l /\ q l (fun _=>True) M1
def bq (lo:Int)(n:Nat):List W:=(List.range n).map fun(k:Nat)=>wi (lo+(k:Int))
def sD (a:WA):WI:=fun ρ M q=>a ρ M fun xs M1=> ∃j:Int,xs= [wi j] /\ -(2 ^ 62) <=j /\ j<2 ^ 62 /\ q (bq 0 j.toNat) (fun _=>True) M1
def sC (a:WA):WI:=fun ρ M q=>a ρ M fun xs M1=> ∃i j:Int,xs= [wi i,wi j] /\ (-(2 ^ 62) <=i /\ i<2 ^ 62 /\ -(2 ^ 62) <=j /\ j<2 ^ 62) /\ q (bq i (j - i).toNat) (fun _=>True) M1
theorem oZ {H1:Hp}{p:Addr}{l:List W}:tP K H1 (Itl K p) l (fun M'=>M' p=some (.lst l)):=by
 intro i M H ts m hk
 obtain⟨vs,hv,rr⟩:=m p _ hk
 have hl:=rr.length
 refine⟨fun h=>⟨vs,SqL.of hv,by lia⟩,fun h=>⟨vs,vs[i]'(by lia),SqL.of hv,by simp⟩,fun v H' hi y=> ?_⟩
 obtain⟨rfl,y⟩:=y
 have:=y vs (SqL.of hv)
 obtain⟨d,hd,r⟩:=rr.back this
 exact⟨ao.refl _,m,d,hd,r⟩
theorem sG {H1:Hp}{p:Addr}{l:List W}{vs:List V}(hv:SqT K H1 p vs)(rr:WRs K H1 l vs):tP K H1 (Itt K p) l (fun _=>True):=by
 intro i M H ts m _
 have hv':=Un.sqT ts hv
 have rr':=rr.ts ts
 have hl:=rr'.length
 refine⟨fun h=>⟨vs,hv',by lia⟩,fun h=>⟨vs,vs[i]'(by lia),hv',by simp⟩,fun v H' hi y=> ?_⟩
 obtain⟨rfl,y⟩:=y
 have:=y vs hv'
 obtain⟨d,hd,r⟩:=rr'.back this
 exact⟨ao.refl _,m,d,hd,r⟩
theorem ll {H1:Hp}{lo:Int}{n:Nat}:tP K H1 (Itr lo n) (bq lo n) (fun _=>True):=by
 intro i M H ts m _
 have hl:(bq lo n).length=n:=by simp[bq]
 rw[hl]
 refine⟨fun h=>Nat.le_of_eq h,fun h=>h,fun v H' hi y=> ?_⟩
 obtain⟨rfl,y⟩:=y
 refine⟨ao.refl _,m,wi (lo+i),?_,by rw[y];exact WR.v⟩
 simp[bq,hi]
instance {t:TE}{a:WE} [ia:IE K t a]:II K (sJ K t) (sE a) where
 imp:=fun ρ M σ H q R o h k=>ia.imp ρ M σ H _ _ o h fun x M1 v H1 ⟨p,l,e,hp,h1⟩ t1 m1 r1=>by
   subst e
   obtain⟨vs,hv,rr⟩:=m1 p _ hp
   exact⟨p,r1.eq,⟨vs,SqL.of hv⟩,k l _ _ M1 H1 h1 t1 m1 oZ⟩
instance {t:TE}{a:WE} [ia:IE K t a]:II K (iTup K t) (jTup a) where
 imp:=fun ρ M σ H q R o h k=>ia.imp ρ M σ H _ _ o h fun x M1 v H1 ⟨l,e,h1⟩ t1 m1 r1=>by
   subst e
   obtain⟨p,vs,rfl,hv,rr⟩:=r1.tup
   exact⟨p,rfl,⟨vs,hv⟩,k l _ _ M1 H1 h1 t1 m1 (sG hv rr)⟩
instance {t:TA}{a:WA} [ia:IA K t a]:II K (vU t) (sD a) where
 imp:=fun ρ M σ H q R o h k=>ia.imp ρ M σ H _ _ o h fun xs M1 v H1 ⟨j,e,h0,h1,h2⟩ t1 m1 r1=>by
   subst e
   obtain⟨v,rfl,r⟩:=r1.one
   cases r.eq
   exact⟨j,rfl,h0,h1,k _ _ _ M1 H1 h2 t1 m1 ll⟩
instance {t:TA}{a:WA} [ia:IA K t a]:II K (vT t) (sC a) where
 imp:=fun ρ M σ H q R o h k=>ia.imp ρ M σ H _ _ o h fun xs M1 v H1 ⟨i,j,e,h0,h2⟩ t1 m1 r1=>by
   subst e
   obtain⟨v,u,rfl,r,r'⟩:=r1.two
   cases r.eq;cases r'.eq
   exact⟨i,j,rfl,h0,k _ _ _ M1 H1 h2 t1 m1 ll⟩
def sFor (it:WI)(g:WG)(b:WS):WS:=fun D ρ M=>it ρ M fun xs keep M1=> ∃I:Nat ->WSt ->Mp ->Prop,I 0 ρ M1 /\ (∀i ρ M,i<=xs.length ->I i ρ M ->keep M) /\
 (∀i x ρ M,xs[i]? =some x ->I i ρ M ->g x ρ M fun ρ2 M2=>b {D with nx:=I (i+1),ct:=I (i+1),bk:=D.nx} ρ2 M2) /\ ∀ρ M,I xs.length ρ M ->D.nx ρ M
instance {ti:TI}{g:TG}{t:TS}{it:WI}{w:WG}{b:WS} [ii:II K ti it] [ig:IG K g w] [ib:IS K t b]:IS K (tFor ti g t) (sFor it w b) where
 imp :=fun ρ M σ H D' D o h e=>ii.imp ρ M σ H _ _ o h fun xs keep J M1 H1 h1 t1 m1 ok=>by
   obtain⟨I,h0,hk,hs,hd⟩:=h1
   refine⟨fun i m σ' H'=>m=xs.length - i /\ i<=xs.length /\ ∃ρ' M',I i ρ' M' /\ ao H1 H' /\ Ok K ρ' M' σ' H',⟨_,rfl,Nat.zero_le _,ρ,M1,h0,ao.refl _,o.mv t1 m1⟩,?_⟩
   rintro i m σ' H' ⟨rfl,hi,ρ',M',hI,ts,o'⟩
   obtain⟨k1,k2,k3⟩:=ok i M' H' ts o'.hp (hk i ρ' M' hi hI)
   by_cases hlt:i<xs.length
   · refine .inr ⟨k2 hlt,fun σ2 H2=> ∃ρ2 M2,I (i+1) ρ2 M2 /\ ao H1 H2 /\ Ok K ρ2 M2 σ2 H2,fun σ2 H2 ⟨ρ2,M2,a,b,c⟩=>⟨xs.length - (i+1),by lia,rfl,hlt,ρ2,M2,a,b,c⟩,fun v H2 y=> ?_⟩
     obtain⟨ty,my,x,hx,r⟩:=k3 v H2 hlt y
     replace ts:=ts.trans ty
     refine ig.imp x v ρ' M' σ' H2 _ _ (o'.mv ty my) r (hs i x ρ' M' hx hI) fun ρ3 M3 σ3 H3 h3 t3 o3=>ib.imp ρ3 M3 σ3 H3 _ _ o3 h3 ⟨fun a b c d h t o=>⟨a,b,h,(ts.trans t3).trans t,o⟩,fun a b c d h t=>e.rt a b c d h (t1.trans ((ts.trans t3).trans t)),fun a b c d h t=>e.nx a b c d h (t1.trans ((ts.trans t3).trans t)),fun a b c d h t o=>⟨a,b,h,(ts.trans t3).trans t,o⟩⟩
   · have e':i=xs.length:=by lia
     subst e'
     exact .inl ⟨k1 rfl,e.nx ρ' M' σ' H' (hd ρ' M' hI) (t1.trans ts) o'⟩
def eP (own:Nat)(fr:List Nat)(ρ:WSt):WSt:=List.replicate own none++fr.map fun j=>(ρ[j]?).join
theorem WSR.cap {H:Hp}{ρ:WSt}{σ:St}(own:Nat)(fr:List Nat)(h:WSR K H ρ σ):WSR K H (eP own fr ρ) (dv own fr σ):=by
 unfold eP dv
 refine⟨by simp,fun i x e=> ?_⟩
 by_cases hi:i<own
 · rw[List.getElem?_append_left (by simpa using hi),List.getElem?_replicate,if_pos hi] at e;cases e
 · rw [List.getElem?_append_right (by simpa using hi),List.length_replicate,List.getElem?_map] at e
   rw[List.getElem?_append_right (by simpa using hi),List.length_replicate,List.getElem?_map]
   cases ej:fr[i - own]? with
   | none=>rw[ej] at e;cases e
   | some j=>
     rw[ej] at e
     simp only[Option.map_some,Option.some.injEq] at e ⊢
     cases er:ρ[j]? with
     | none=>rw[er] at e;cases e
     | some z=>
       rw[er] at e
       simp only[Option.join_some] at e
       subst e
       obtain⟨v,ev,r⟩:=h.2 j x er
       exact⟨v,by rw[ev];rfl,r⟩
def vh (it:WI)(own:Nat)(fr:List Nat)(g:WG)(c:WT)(el:WE):WE:=fun ρ M q=>it ρ M fun xs keep M1=>xs.length<=sizeLine /\ ∀p,M1 p=none -> ∃I:Nat ->List W ->Mp ->Prop,I 0 [] (um M1 p (.lst [])) /\
 (∀i ys M,i<=xs.length ->I i ys M ->keep M /\ M p=some (.lst ys) /\ ys.length<=i) /\
 (∀i x ys M,xs[i]? =some x ->I i ys M ->g x (eP own fr ρ) M fun ρ2 M2=>c ρ2 M2 fun b M3=>if b=true then el ρ2 M3 fun y M4=>M4 p=some (.lst ys) /\ I (i+1) (ys++ [y]) (um M4 p (.lst (ys++ [y]))) else I (i+1) ys M3) /\
 ∀ys M,I xs.length ys M ->q (wr p) M
instance {ti:TI}{own:Nat}{fr:List Nat}{g:TG}{tc:TT}{te:TE}{it:WI}{w:WG}{c:WT}{el:WE} [ii:II K ti it] [ig:IG K g w] [ic:IT K tc c] [ie:IE K te el]:IE K (qE ti own fr g tc te) (vh it own fr w c el) where
 imp :=fun ρ M σ H q Q o h k=>ii.imp ρ M σ H _ _ o h fun xs keep J M1 H1 h1 t1 m1 ok=>by
   intro p hp
   obtain⟨hz,h1⟩:=h1
   obtain⟨I,h0,hk,hs,hd⟩:=h1 p (m1.fresh hp)
   have tp:=L2.bz.ts (ay (o:= .lst []) hp)
   refine⟨fun i m vs H'=>m=xs.length - i /\ i<=xs.length /\ ∃ys M',I i ys M' /\ ao H1 H' /\ MOk K M' H' /\ WRs K H' ys vs /\ H' p=some (.lst vs),⟨_,rfl,Nat.zero_le _,[],_,h0,tp,m1.newL hp WRs.nil,WRs.nil,aw⟩,?_⟩
   rintro i m vs H' ⟨rfl,hi,ys,M',hI,ts,m',rv,hv⟩
   refine⟨hv,?_⟩
   obtain⟨kp,hMp,hyl⟩:=hk i ys M' hi hI
   obtain⟨k1,k2,k3⟩:=ok i M' H' ts m' kp
   by_cases hlt:i<xs.length
   · refine .inr ⟨k2 hlt,by rw[rv.length];lia,fun v H2 y=> ?_⟩
     obtain⟨ty,my,x,hx,r⟩:=k3 v H2 hlt y
     replace ts:=ts.trans ty
     have oc:Ok K (eP own fr ρ) M' (dv own fr σ) H2:=⟨(o.env.ts (t1.trans ts)).cap own fr,my⟩
     refine ig.imp x v _ M' _ H2 _ _ oc r (hs i x ys M' hx hI) fun ρ3 M3 σ3 H3 h3 t3 o3=>ic.imp ρ3 M3 σ3 H3 _ _ o3 h3 fun b M4 H4 h4 t4 m4=> ?_
     cases b with
     | true=>
       simp only[if_true] at h4 ⊢
       refine ie.imp ρ3 M4 σ3 H4 _ _ (o3.mv t4 m4) h4 fun z M5 u H5 ⟨h5,h6⟩ t5 m5 r5=> ?_
       obtain⟨vs5,hv5,rr5⟩:=m5 p _ h5
       have t345:=(t3.trans t4).trans t5
       have t6:=en (u:= .lst (vs5++ [u])) hv5
       exact⟨vs5,hv5,by rw[rr5.length];lia,_,by lia,rfl,hlt,_,_,h6,(ts.trans t345).trans t6,m5.putL hv5 (rr5.snoc r5),(rr5.snoc r5).ts t6,aw⟩
     | false=>
       simp only[Bool.false_eq_true,if_false] at h4 ⊢
       obtain⟨vs5,hv5,rr5⟩:=m4 p _ (hk (i+1) ys M4 hlt h4).2.1
       exact⟨vs5,_,by lia,rfl,hlt,_,_,h4,ts.trans (t3.trans t4),m4,rr5,hv5⟩
   · have e':i=xs.length:=by lia
     subst e'
     exact .inl ⟨k1 rfl,k _ M' _ H' (hd ys M' hI) (t1.trans ts) m' WR.v⟩
def wYes:WT:=fun _ M q=>q true M
instance:IT K tYes wYes where
 imp:=fun ρ M σ H q Q o h k=>k _ M H h (ao.refl H) o.hp
end
end WL
namespace WL
open PySem L2
section
variable {K:PySem.W.Frag}
theorem MOk.sub {M M':Mp}{H:Hp}(s:Sm M M')(m:MOk K M' H):MOk K M H:=fun a o e=>m a o (s a o e)
theorem okS {P:Program}{w:World}{mg:Str ->Option Value}{base:Heap}{x qual:Str}{st:Stmt}{f:Addr}{fd:FuncData}{N ps:List Str}{k:Nat}{p:WSp}(F:Fun K x qual st f fd)(S:FnScope N ps (ai st))(len: ∀vs M q,p vs M q ->vs.length=ps.length)
   (hbody: ∀ (cdv:Value) (A:Around) (outer:List Env) (s:Shared) (H:Hp) (E:XK),Room k (A.deeper (PyProof.Rows.envOfC qual (ai st) s.heap.objs.size f cdv)) ->
     ∃t,PSs (bh CX0 P w K mg base N qual (ai st) f cdv A outer s H E).nox (bg st) t /\ ∃w',IS K t w' /\ ∀vs M q,p vs M q ->w' {nx:=fun _ M'=> ∃M0,Sm M0 M' /\ q wn M0,rt:=fun x M'=> ∃M0,Sm M0 M' /\ q x M0} (vs.map some++List.replicate (N.length - vs.length) none) M):
   FnOk P w K mg base CX0 (k+1) f fd ps (spW K p):=by
 have h:=okW (K:=K) (P:=P) (w:=w) (mg:=mg) (base:=base) (k:=k) (p:=fun vs M q=> ∃q',p vs M q' /\ q=fun x M'=> ∃M0,Sm M0 M' /\ q' x M0) F S (fun vs M q ⟨q',h,_⟩=>len vs M q' h) fun cdv A outer s H E hr=>by
   obtain⟨t,h1,w',h2,h3⟩:=hbody cdv A outer s H E hr
   refine⟨t,w',h1,h2,?_⟩
   rintro vs M q ⟨q',h,rfl⟩
   exact h3 vs M q' h
 refine h.imp fun vs H Q E ⟨xs,M,q,r,m,hp,hk⟩=>⟨xs,M,_,r,m,⟨q,hp,rfl⟩,?_⟩
 rintro x M' v H' ⟨M0,s,hq⟩ ts m' r'
 exact hk x M0 v H' hq ts (m'.sub s) r'
theorem pD {xs:List W}{keep:Mp ->Prop}{M1:Mp}{own:Nat}{fr:List Nat}{ρ:WSt}{g:WG}{c:WT}{el:WE}{q:WK}(f:W ->Option W)(hz:xs.length<=sizeLine)(hkeep: ∀M,Sm M1 M ->keep M)
   (hs: ∀ (i:Nat) x,xs[i]? =some x -> ∀ (M:Mp) (N:Option W ->Mp ->Prop),Sm M1 M ->N (f x) M ->g x (eP own fr ρ) M fun ρ2 M2=>c ρ2 M2 fun b M3=>if b=true then el ρ2 M3 fun y M4=>N (some y) M4 else N none M3)
   (hq: ∀p,M1 p=none ->q (wr p) (um M1 p (.lst (xs.filterMap f)))):
   xs.length<=sizeLine /\ ∀p,M1 p=none -> ∃I:Nat ->List W ->Mp ->Prop,I 0 [] (um M1 p (.lst [])) /\
 (∀i ys M,i<=xs.length ->I i ys M ->keep M /\ M p=some (.lst ys) /\ ys.length<=i) /\
 (∀i x ys M,xs[i]? =some x ->I i ys M ->g x (eP own fr ρ) M fun ρ2 M2=>c ρ2 M2 fun b M3=>if b=true then el ρ2 M3 fun y M4=>M4 p=some (.lst ys) /\ I (i+1) (ys++ [y]) (um M4 p (.lst (ys++ [y]))) else I (i+1) ys M3) /\
 ∀ys M,I xs.length ys M ->q (wr p) M:=by
 refine⟨hz,fun p hp=>⟨fun i ys M=>M=um M1 p (.lst ys) /\ ys=(xs.take i).filterMap f,⟨rfl,by simp⟩,?_,?_,?_⟩⟩
 · rintro i ys M hi ⟨rfl,rfl⟩
   refine⟨hkeep _ (aF hp),ab,Nat.le_trans (List.length_filterMap_le _ _) ?_⟩
   rw[List.length_take];lia
 · rintro i x ys M hx ⟨rfl,rfl⟩
   refine hs i x hx _ (fun o M4=>match o with
     | some y=>M4 p=some (.lst ((xs.take i).filterMap f)) /\ (um M4 p (.lst ((xs.take i).filterMap f++ [y]))=um M1 p (.lst ((xs.take i).filterMap f++ [y])) /\ (xs.take i).filterMap f++ [y]=(xs.take (i+1)).filterMap f)
     | none=>M4=um M1 p (.lst ((xs.take i).filterMap f)) /\ (xs.take i).filterMap f=(xs.take (i+1)).filterMap f) (aF hp) ?_
   have e:xs.take (i+1)=xs.take i++ [x]:=by rw[List.take_add_one,hx];rfl
   cases hf:f x with
   | none=>exact⟨rfl,by rw[e,List.filterMap_append];simp[hf]⟩
   | some y=>exact⟨ab,mX,by rw[e,List.filterMap_append];simp[hf]⟩
 · rintro ys M ⟨rfl,rfl⟩
   rw[List.take_length]
   exact hq p hp
mutual
def dOf:W ->Option Dt
 | .v .non=>some .non
 | .v (.bl b)=>some (.bl b)
 | .v (.int i)=>some (.int i)
 | .v (.str x)=>some (.str x)
 | .v _=>none
 | .tup l=>(iz l).map .tup
def iz:List W ->Option (List Dt)
 | []=>some []
 | x::r=>match dOf x,iz r with
   | some d,some l=>some (d::l)
   | _,_=>none
end
mutual
theorem ra {H:Hp}: ∀ (x:W) (d:Dt) (v:V),dOf x=some d ->WR K H x v ->Rep K H d v
 | .v y,d,v,e,r=>by
   cases r.eq
   cases y<;>simp only[dOf,Option.some.injEq,reduceCtorEq] at e<;>subst e<;>simp only[Rep]
 | .tup l,d,v,e,r=>by
   obtain⟨a,vs,rfl,hv,rr⟩:=r.tup
   simp only[dOf] at e
   cases hd:iz l with
   | none=>rw[hd] at e;cases e
   | some ds=>
     rw[hd] at e;cases e
     simp only[Rep]
     exact⟨a,vs,rfl,hv,jH l ds vs hd rr⟩
theorem jH {H:Hp}: ∀ (l:List W) (ds:List Dt) (vs:List V),iz l=some ds ->WRs K H l vs ->bN K H ds vs
 | [],ds,vs,e,r=>by simp only[iz] at e;cases e;simp only[WRs] at r;simp only[bN];exact r
 | x ::l,ds,vs,e,r=>by
   simp only[iz] at e
   cases hx:dOf x with
   | none=>rw[hx] at e;cases e
   | some d=>
     cases hl:iz l with
     | none=>rw[hx,hl] at e;cases e
     | some ds'=>
       rw[hx,hl] at e;cases e
       simp only[WRs] at r
       obtain⟨v,t,rfl,r1,r2⟩:=r
       simp only[bN]
       exact⟨v,t,rfl,ra x d v hx r1,jH l ds' t hl r2⟩
end
def DR (M:Mp)(x:W)(d:Dt):Prop:=dOf x=some d \/ ∃a l ds,x=wr a /\ M a=some (.lst l) /\ iz l=some ds /\ d= .lst ds
theorem DR.rep {M:Mp}{H:Hp}{x:W}{d:Dt}{v:V}(m:MOk K M H)(r:WR K H x v)(h:DR M x d):Rep K H d v:=by
 rcases h with h | ⟨a,l,ds,rfl,hl,e,rfl⟩
 · exact ra x d v h r
 · cases r.eq
   obtain⟨vs,hv,rr⟩:=m a _ hl
   simp only[Rep]
   exact⟨a,vs,rfl,SqL.of hv,jH l ds vs e rr⟩
def wEqD:WR2:=fun x y M q=> ∃d e,DR M x d /\ DR M y e /\ eZ d e=true /\ dpt d<=50 /\ q (wb (eqD d e)) M
def wNeD:WR2:=fun x y M q=> ∃d e,DR M x d /\ DR M y e /\ eZ d e=true /\ dpt d<=50 /\ q (wb (!eqD d e)) M
instance:IR K (rEqD K) wEqD where
 imp:=by
   rintro x y v u M H q Q m r1 r2 ⟨d,e,h1,h2,h3,h4,h⟩ k
   exact⟨d,e,h3,h4,h1.rep m r1,h2.rep m r2,k _ M _ H h (ao.refl H) m WR.v⟩
instance:IR K (rNeD K) wNeD where
 imp:=by
   rintro x y v u M H q Q m r1 r2 ⟨d,e,h1,h2,h3,h4,h⟩ k
   exact⟨d,e,h3,h4,h1.rep m r1,h2.rep m r2,k _ M _ H h (ao.refl H) m WR.v⟩
instance {r r':R2}{t u s:TE}{a b c:WE}{w w':WR2} [ir:IR K r w] [ir':IR K r' w'] [ia:IE K t a] [ib:IE K u b] [ic:IE K s c]:IE K (qF r r' t u s) (qi w w' a b c) where
 imp :=fun ρ M σ H q Q o h k=>ia.imp ρ M σ H _ _ o h fun x M1 v H1 h1 t1 m1 r1=>ib.imp ρ M1 σ H1 _ _ (o.mv t1 m1) h1 fun y M2 u H2 h2 t2 m2 r2=>
   ir.imp x y v u M2 H2 _ _ m2 (r1.ts t2) r2 h2 fun z M3 v3 H3 ⟨kk,e,h3⟩ t3 m3 r3=>by
     subst e
     refine⟨kk,r3.eq,?_⟩
     cases kk with
     | true=>
       simp only[if_true] at h3 ⊢
       exact ic.imp ρ M3 σ H3 _ _ (o.mv ((t1.trans t2).trans t3) m3) h3 fun y4 M4 v4 H4 h4 t4 m4 r4=>ir'.imp y y4 u v4 M4 H4 _ _ m4 (r2.ts (t3.trans t4)) r4 h4 fun z5 M5 v5 H5 h5 t5 m5 r5=>k z5 M5 v5 H5 h5 ((((t1.trans t2).trans t3).trans t4).trans t5) m5 r5
     | false=>
       simp only[Bool.false_eq_true,if_false] at h3 ⊢
       exact k _ M3 _ H3 h3 ((t1.trans t2).trans t3) m3 WR.v
def pZ:WCl:=fun xs M q=> ∃ (d:Addr) (kvs:List (Key×W)) (ks:List Int),xs= [wr d] /\ M d=some (.dK kvs) /\ kvs.map (·.1)=ks.map Sum.inl /\ ks.length<=sizeLine /\ ∀ (p:Addr) (ns:List Int),M p=none ->ns.Perm ks ->ns.Pairwise (· <= ·) ->q (wr p) (um M p (.lst (ns.map wi)))
instance:IC K kM pZ where
 imp:=by
   rintro xs v M H q Q m r1 ⟨d,kvs,ks,rfl,hd,hk,hl,h⟩ k
   obtain⟨v,rfl,r⟩:=r1.one
   cases r.eq
   obtain⟨vs,hv,rr⟩:=m d _ hd
   exact⟨d,vs,ks,rfl,hv,by rw[rr.keys];exact hk,hl,fun p ns hp h1 h2=>k _ _ _ _ (h p ns (m.fresh hp) h1 h2) (L2.bz.ts (ay hp)) (m.newL hp (WRs.ofInts ns)) WR.v⟩
def vJ:List V ->Hp ->VK ->Prop:=fun xs H Q=>(∃i,xs= [.int i] /\ Q (.int i) H) \/ ∃k,xs= [.bl k] /\ Q (.int (if k then 1 else 0)) H
theorem fY {X:Cx}:bB X (.type "int") vJ:=pI
def wInt1:WCl:=fun xs M q=>(∃i,xs= [wi i] /\ q (wi i) M) \/ ∃k,xs= [wb k] /\ q (wi (if k then 1 else 0)) M
instance:IC K vJ wInt1 where
 imp:=by
   rintro xs v M H q Q m r1 h k
   rcases h with⟨i,rfl,h⟩ | ⟨b,rfl,h⟩ <;>obtain⟨v,rfl,r⟩:=r1.one<;>cases r.eq
   · exact .inl ⟨i,rfl,k _ M _ H h (ao.refl H) m WR.v⟩
   · exact .inr ⟨b,rfl,k _ M _ H h (ao.refl H) m WR.v⟩
end
end WL
namespace WL
open PySem L2
theorem tJ {α:Type}{a:α}{l:List α}:atI (a::l) 0=some a:=cK (j:=0) (by rfl)
theorem atI_1 {α:Type}{a b:α}{l:List α}:atI (a::b::l) 1=some b:=cK (j:=1) (by rfl)
theorem atI_2 {α:Type}{a b c:α}{l:List α}:atI (a::b::c::l) 2=some c:=cK (j:=2) (by rfl)
theorem atI_3 {α:Type}{a b c d:α}{l:List α}:atI (a::b::c::d::l) 3=some d:=cK (j:=3) (by rfl)
theorem ixN_1 {n:Nat}:ixN (n+1+1) 1=some 1:=by unfold ixN;rw[if_pos (by lia),if_pos (by lia)];rfl
theorem ixN_2 {n:Nat}:ixN (n+1+1+1) 2=some 2:=by unfold ixN;rw[if_pos (by lia),if_pos (by lia)];rfl
theorem ixN_3 {n:Nat}:ixN (n+1+1+1+1) 3=some 3:=by unfold ixN;rw[if_pos (by lia),if_pos (by lia)];rfl
theorem u6 {α:Type}{l:List α}{i:Int}{a:α}(h0:0<=i)(h:l[i.toNat]? =some a):atI l i=some a:=by
 have e:((i.toNat:Nat):Int)=i:=by lia
 rw[<- e];exact cK h
theorem exM {M:Mp}{P:Mp ->Prop}(h:P M): ∃M0,Sm M0 M /\ P M0:=⟨M,Sm.refl M,h⟩
def NB (d:Addr)(M M':Mp):Prop:= ∀b,b≠d ->M' b=M b
theorem NB.refl (d:Addr)(M:Mp):NB d M M:=fun _ _=>rfl
theorem NB.trans {d:Addr}{M M1 M2:Mp}(a:NB d M M1)(b:NB d M1 M2):NB d M M2:=fun c n=>(b c n).trans (a c n)
theorem NB.put {d:Addr}{M:Mp}{o:MO}:NB d M (um M d o):=fun b n=>ag n
def Dr (M:Mp)(d l:Addr):Prop:= ∃ (ns:List Int) (i c s:Int),M d=some (.lst [wr l,wi i,wi c,wi s]) /\ M l=some (.lst (ns.map wi)) /\ 0<=i /\ d≠l
theorem Dr.put {M:Mp}{d l p:Addr}{o:MO}(h:Dr M d l)(hp:M p=none):Dr (um M p o) d l:=by
 obtain⟨ns,i,c,s,h1,h2,h3,h4⟩:=h
 exact⟨ns,i,c,s,by rw[ag (aZ h1 hp)];exact h1,by rw[ag (aZ h2 hp)];exact h2,h3,h4⟩
theorem Dr.put' {M:Mp}{d l p:Addr}{o:MO}(h:Dr M d l)(hd:p≠d)(hl:p≠l):Dr (um M p o) d l:=by
 obtain⟨ns,i,c,s,h1,h2,h3,h4⟩:=h
 exact⟨ns,i,c,s,by rw[ag hd.symm];exact h1,by rw[ag hl.symm];exact h2,h3,h4⟩
theorem Dr.ne {M:Mp}{d l p:Addr}(h:Dr M d l)(hp:M p=none):p≠d /\ p≠l:=by
 obtain⟨ns,i,c,s,h1,h2,h3,h4⟩:=h
 exact⟨(aZ h1 hp).symm,(aZ h2 hp).symm⟩
theorem Dr.sm {M M':Mp}{d l:Addr}(h:Dr M d l)(s:Sm M M'):Dr M' d l:=by
 obtain⟨ns,i,c,sd,h1,h2,h3,h4⟩:=h
 exact⟨ns,i,c,sd,s _ _ h1,s _ _ h2,h3,h4⟩
def aG (q:Int×Int):W:= .tup [wi q.1,wi q.2]
def aQ (l:List (Int×Int)):W:= .tup (l.map aG)
theorem pairs_at {l:List (Int×Int)}{i:Nat}{x:W}(h:(l.map aG)[i]? =some x): ∃q,l[i]? =some q /\ x=aG q:=by
 rw[List.getElem?_map] at h
 cases e:l[i]? with
 | none=>rw[e] at h;cases h
 | some q=>rw[e] at h;cases h;exact⟨q,rfl,rfl⟩
theorem dF {l:List Int}{i:Nat}{x:W}(h:(l.map wi)[i]? =some x): ∃n,l[i]? =some n /\ x=wi n:=by
 rw[List.getElem?_map] at h
 cases e:l[i]? with
 | none=>rw[e] at h;cases h
 | some q=>rw[e] at h;cases h;exact⟨q,rfl,rfl⟩
theorem cU {lo:Int}{n i:Nat}{x:W}(h:(bq lo n)[i]? =some x):i<n /\ x=wi (lo+i):=by
 unfold bq at h
 rw[List.getElem?_map] at h
 by_cases hi:i<n
 · rw[List.getElem?_range hi] at h
   cases h
   exact⟨hi,rfl⟩
 · rw[List.getElem?_eq_none (by simpa using hi)] at h;cases h
theorem cT {lo:Int}{n:Nat}:(bq lo n).length=n:=by simp[bq]
end WL
namespace WL
open PySem L2
def lstK (o:Option MO)(k:List W ->Prop):Prop:= ∃l,o=some (.lst l) /\ k l
def dH (o:Option MO)(k:List (Key×W) ->Prop):Prop:= ∃l,o=some (.dK l) /\ k l
def iJ {α:Type}(o:Option α)(k:α ->Prop):Prop:= ∃a,o=some a /\ k a
def b8 (C Q:Prop):Prop:=C /\ Q
def cO (b:Bool)(A B:Prop):Prop:=if b=true then A else B
def iM (M:Mp)(k:Addr ->Prop):Prop:= ∀p,M p=none ->k p
def vY (p:WSp)(xs:List W)(M:Mp)(q:WK):Prop:=p xs M q
def isB (x:W)(M:Mp)(q:Bool ->Mp ->Prop):Prop:= ∃k,x=wb k /\ q k M
def cz (x:W)(k:Addr ->Prop):Prop:= ∃a,x=wr a /\ k a
def tupK (x:W)(k:List W ->Prop):Prop:= ∃l,x= .tup l /\ k l
def truK (M:Mp)(x:W)(k:Bool ->Prop):Prop:= ∃b,wTru M x b /\ k b
def il (x:W)(k:Key ->Prop):Prop:= ∃y,x=bA y /\ k y
def forK (xs:List W)(keep:Mp ->Prop)(g:WG)(b:WS)(D:WEnds)(ρ:WSt)(M1:Mp):Prop:= ∃I:Nat ->WSt ->Mp ->Prop,I 0 ρ M1 /\ (∀i ρ M,i<=xs.length ->I i ρ M ->keep M) /\
 (∀i x ρ M,xs[i]? =some x ->I i ρ M ->g x ρ M fun ρ2 M2=>b {D with nx:=I (i+1),ct:=I (i+1),bk:=D.nx} ρ2 M2) /\ ∀ρ M,I xs.length ρ M ->D.nx ρ M
def lD (xs:List W)(keep:Mp ->Prop)(own:Nat)(fr:List Nat)(g:WG)(c:WT)(el:WE)(ρ:WSt)(M1:Mp)(q:WK):Prop:=xs.length<=sizeLine /\ ∀p,M1 p=none -> ∃I:Nat ->List W ->Mp ->Prop,I 0 [] (um M1 p (.lst [])) /\
 (∀i ys M,i<=xs.length ->I i ys M ->keep M /\ M p=some (.lst ys) /\ ys.length<=i) /\
 (∀i x ys M,xs[i]? =some x ->I i ys M ->g x (eP own fr ρ) M fun ρ2 M2=>c ρ2 M2 fun b M3=>if b=true then el ρ2 M3 fun y M4=>M4 p=some (.lst ys) /\ I (i+1) (ys++ [y]) (um M4 p (.lst (ys++ [y]))) else I (i+1) ys M3) /\
 ∀ys M,I xs.length ys M ->q (wr p) M
section
variable {M:Mp}{ρ:WSt}{q:WK}{a b c:WE}{D:WEnds}
theorem lstK_e {l:List W}{k:List W ->Prop}:lstK (some (.lst l)) k=k l:=by apply propext;constructor;(· rintro⟨_,h,k⟩;cases h;exact k);(· intro h;exact⟨_,rfl,h⟩)
theorem dicK_e {l:List (Key×W)}{k:List (Key×W) ->Prop}:dH (some (.dK l)) k=k l:=by apply propext;constructor;(· rintro⟨_,h,k⟩;cases h;exact k);(· intro h;exact⟨_,rfl,h⟩)
theorem optK_e {α:Type}{x:α}{k:α ->Prop}:iJ (some x) k=k x:=by apply propext;constructor;(· rintro⟨_,h,k⟩;cases h;exact k);(· intro h;exact⟨_,rfl,h⟩)
theorem andK_e {Q:Prop}:b8 True Q=Q:=by simp[b8]
theorem iteK_t {A B:Prop}:cO true A B=A:=by simp[cO]
theorem iteK_f {A B:Prop}:cO false A B=B:=by simp[cO]
theorem isB_e {k:Bool}{q:Bool ->Mp ->Prop}:isB (.v (.bl k)) M q=q k M:=by apply propext;constructor;(· rintro⟨_,h,k⟩;cases h;exact k);(· intro h;exact⟨_,rfl,h⟩)
theorem refK_e {x:Addr}{k:Addr ->Prop}:cz (.v (.ref x)) k=k x:=by apply propext;constructor;(· rintro⟨_,h,k⟩;cases h;exact k);(· intro h;exact⟨_,rfl,h⟩)
theorem tupK_e {x:List W}{k:List W ->Prop}:tupK (.tup x) k=k x:=by apply propext;constructor;(· rintro⟨_,h,k⟩;cases h;exact k);(· intro h;exact⟨_,rfl,h⟩)
theorem keyK_i {i:Int}{k:Key ->Prop}:il (.v (.int i)) k=k (.inl i):=by apply propext;constructor;(· rintro⟨y,h,z⟩;cases y<;>cases h;exact z);(· intro h;exact⟨.inl i,rfl,h⟩)
theorem wVar_0 {x:W}{r:WSt}:bP 0 (some x::r) M q=q x M:=rfl
theorem wVar_1 {x0:Option W}{x:W}{r:WSt}:bP 1 (x0::some x::r) M q=q x M:=rfl
theorem wVar_2 {x0 x1:Option W}{x:W}{r:WSt}:bP 2 (x0::x1::some x::r) M q=q x M:=rfl
theorem wVar_3 {x0 x1 x2:Option W}{x:W}{r:WSt}:bP 3 (x0::x1::x2::some x::r) M q=q x M:=rfl
theorem wVar_4 {x0 x1 x2 x3:Option W}{x:W}{r:WSt}:bP 4 (x0::x1::x2::x3::some x::r) M q=q x M:=rfl
theorem wVar_5 {x0 x1 x2 x3 x4:Option W}{x:W}{r:WSt}:bP 5 (x0::x1::x2::x3::x4::some x::r) M q=q x M:=rfl
theorem wVar_6 {x0 x1 x2 x3 x4 x5:Option W}{x:W}{r:WSt}:bP 6 (x0::x1::x2::x3::x4::x5::some x::r) M q=q x M:=rfl
theorem wVar_7 {x0 x1 x2 x3 x4 x5 x6:Option W}{x:W}{r:WSt}:bP 7 (x0::x1::x2::x3::x4::x5::x6::some x::r) M q=q x M:=rfl
theorem wVar_8 {x0 x1 x2 x3 x4 x5 x6 x7:Option W}{x:W}{r:WSt}:bP 8 (x0::x1::x2::x3::x4::x5::x6::x7::some x::r) M q=q x M:=rfl
theorem wVar_9 {x0 x1 x2 x3 x4 x5 x6 x7 x8:Option W}{x:W}{r:WSt}:bP 9 (x0::x1::x2::x3::x4::x5::x6::x7::x8::some x::r) M q=q x M:=rfl
theorem wVar_10 {x0 x1 x2 x3 x4 x5 x6 x7 x8 x9:Option W}{x:W}{r:WSt}:bP 10 (x0::x1::x2::x3::x4::x5::x6::x7::x8::x9::some x::r) M q=q x M:=rfl
theorem wVar_11 {x0 x1 x2 x3 x4 x5 x6 x7 x8 x9 x10:Option W}{x:W}{r:WSt}:bP 11 (x0::x1::x2::x3::x4::x5::x6::x7::x8::x9::x10::some x::r) M q=q x M:=rfl
theorem wVar_12 {x0 x1 x2 x3 x4 x5 x6 x7 x8 x9 x10 x11:Option W}{x:W}{r:WSt}:bP 12 (x0::x1::x2::x3::x4::x5::x6::x7::x8::x9::x10::x11::some x::r) M q=q x M:=rfl
theorem wVar_13 {x0 x1 x2 x3 x4 x5 x6 x7 x8 x9 x10 x11 x12:Option W}{x:W}{r:WSt}:bP 13 (x0::x1::x2::x3::x4::x5::x6::x7::x8::x9::x10::x11::x12::some x::r) M q=q x M:=rfl
theorem wVar_14 {x0 x1 x2 x3 x4 x5 x6 x7 x8 x9 x10 x11 x12 x13:Option W}{x:W}{r:WSt}:bP 14 (x0::x1::x2::x3::x4::x5::x6::x7::x8::x9::x10::x11::x12::x13::some x::r) M q=q x M:=rfl
theorem wVar_15 {x0 x1 x2 x3 x4 x5 x6 x7 x8 x9 x10 x11 x12 x13 x14:Option W}{x:W}{r:WSt}:bP 15 (x0::x1::x2::x3::x4::x5::x6::x7::x8::x9::x10::x11::x12::x13::x14::some x::r) M q=q x M:=rfl
theorem wVar_16 {x0 x1 x2 x3 x4 x5 x6 x7 x8 x9 x10 x11 x12 x13 x14 x15:Option W}{x:W}{r:WSt}:bP 16 (x0::x1::x2::x3::x4::x5::x6::x7::x8::x9::x10::x11::x12::x13::x14::x15::some x::r) M q=q x M:=rfl
theorem wVar_17 {x0 x1 x2 x3 x4 x5 x6 x7 x8 x9 x10 x11 x12 x13 x14 x15 x16:Option W}{x:W}{r:WSt}:bP 17 (x0::x1::x2::x3::x4::x5::x6::x7::x8::x9::x10::x11::x12::x13::x14::x15::x16::some x::r) M q=q x M:=rfl
theorem wVar_18 {x0 x1 x2 x3 x4 x5 x6 x7 x8 x9 x10 x11 x12 x13 x14 x15 x16 x17:Option W}{x:W}{r:WSt}:bP 18 (x0::x1::x2::x3::x4::x5::x6::x7::x8::x9::x10::x11::x12::x13::x14::x15::x16::x17::some x::r) M q=q x M:=rfl
theorem wVar_19 {x0 x1 x2 x3 x4 x5 x6 x7 x8 x9 x10 x11 x12 x13 x14 x15 x16 x17 x18:Option W}{x:W}{r:WSt}:bP 19 (x0::x1::x2::x3::x4::x5::x6::x7::x8::x9::x10::x11::x12::x13::x14::x15::x16::x17::x18::some x::r) M q=q x M:=rfl
theorem wVar_20 {x0 x1 x2 x3 x4 x5 x6 x7 x8 x9 x10 x11 x12 x13 x14 x15 x16 x17 x18 x19:Option W}{x:W}{r:WSt}:bP 20 (x0::x1::x2::x3::x4::x5::x6::x7::x8::x9::x10::x11::x12::x13::x14::x15::x16::x17::x18::x19::some x::r) M q=q x M:=rfl
theorem wVar_21 {x0 x1 x2 x3 x4 x5 x6 x7 x8 x9 x10 x11 x12 x13 x14 x15 x16 x17 x18 x19 x20:Option W}{x:W}{r:WSt}:bP 21 (x0::x1::x2::x3::x4::x5::x6::x7::x8::x9::x10::x11::x12::x13::x14::x15::x16::x17::x18::x19::x20::some x::r) M q=q x M:=rfl
theorem wVar_22 {x0 x1 x2 x3 x4 x5 x6 x7 x8 x9 x10 x11 x12 x13 x14 x15 x16 x17 x18 x19 x20 x21:Option W}{x:W}{r:WSt}:bP 22 (x0::x1::x2::x3::x4::x5::x6::x7::x8::x9::x10::x11::x12::x13::x14::x15::x16::x17::x18::x19::x20::x21::some x::r) M q=q x M:=rfl
theorem wVar_23 {x0 x1 x2 x3 x4 x5 x6 x7 x8 x9 x10 x11 x12 x13 x14 x15 x16 x17 x18 x19 x20 x21 x22:Option W}{x:W}{r:WSt}:bP 23 (x0::x1::x2::x3::x4::x5::x6::x7::x8::x9::x10::x11::x12::x13::x14::x15::x16::x17::x18::x19::x20::x21::x22::some x::r) M q=q x M:=rfl
theorem wC_e {x:W}:wC x ρ M q=q x M:=rfl
theorem wOp_e {r:WR2}:wOp r a b ρ M q=a ρ M fun x M1=>b ρ M1 fun y M2=>r x y M2 q:=rfl
theorem wUn_e {r:W ->Mp ->WK ->Prop}:wUn r a ρ M q=a ρ M fun x M1=>r x M1 q:=rfl
theorem wI_e {C:Int ->Int ->Prop}{g:Int ->Int ->V}{i j:Int}:wI C g (.v (.int i)) (.v (.int j)) M q=b8 (C i j) (q (.v (g i j)) M):=by apply propext;constructor;(· rintro⟨_,_,h1,h2,k⟩;cases h1;cases h2;exact k);(· intro h;exact⟨_,_,rfl,rfl,h⟩)
theorem wI0_e {g:Int ->Int ->V}{i j:Int}:wI0 g (.v (.int i)) (.v (.int j)) M q=q (.v (g i j)) M:=by apply propext;constructor;(· rintro⟨_,_,h1,h2,k⟩;cases h1;cases h2;exact k);(· intro h;exact⟨_,_,rfl,rfl,h⟩)
theorem wU_e {g:Int ->V}{i:Int}:wU g (.v (.int i)) M q=q (.v (g i)) M:=by apply propext;constructor;(· rintro⟨_,h,k⟩;cases h;exact k);(· intro h;exact⟨_,rfl,h⟩)
theorem wEq_i {i j:Int}:wEq (.v (.int i)) (.v (.int j)) M q=q (wb (decide (i=j))) M:=by apply propext;constructor;(· rintro⟨_,_,h1,h2,_,k⟩;cases h1;cases h2;simpa using k);(· intro h;exact⟨_,_,rfl,rfl,rfl,by simpa using h⟩)
theorem wNe_i {i j:Int}:wNe (.v (.int i)) (.v (.int j)) M q=q (wb (!decide (i=j))) M:=by apply propext;constructor;(· rintro⟨_,_,h1,h2,_,k⟩;cases h1;cases h2;simpa using k);(· intro h;exact⟨_,_,rfl,rfl,rfl,by simpa using h⟩)
theorem wTest_e {q:Bool ->Mp ->Prop}:pY a ρ M q=a ρ M fun x M1=>isB x M1 q:=rfl
theorem wAnd_e {a b:WT}{q:Bool ->Mp ->Prop}:wAnd a b ρ M q=a ρ M fun c M1=>cO c (b ρ M1 q) (q false M1):=rfl
theorem wOr_e {a b:WT}{q:Bool ->Mp ->Prop}:wOr a b ρ M q=a ρ M fun c M1=>cO c (q true M1) (b ρ M1 q):=rfl
theorem wNot_e {a:WT}{q:Bool ->Mp ->Prop}:wNot a ρ M q=a ρ M fun c M1=>q (!c) M1:=rfl
theorem wAndV_e:vj a b ρ M q=a ρ M fun x M1=>isB x M1 fun c M1=>cO c (b ρ M1 q) (q (wb false) M1):=rfl
theorem wNotV_e:vc a ρ M q=a ρ M fun x M1=>isB x M1 fun c M1=>q (wb (!c)) M1:=rfl
theorem wChain_e {r r':WR2}:qi r r' a b c ρ M q=a ρ M fun x M1=>b ρ M1 fun y M2=>r x y M2 fun z M3=>isB z M3 fun k M3=>cO k (c ρ M3 fun y' M4=>r' y y' M4 q) (q (wb false) M3):=rfl
theorem wNil_e {q:List W ->Mp ->Prop}:wNil ρ M q=q [] M:=rfl
theorem wCons_e {r:WA}{q:List W ->Mp ->Prop}:vg a r ρ M q=a ρ M fun x M1=>r ρ M1 fun xs M2=>q (x::xs) M2:=rfl
theorem wTup_e {a:WA}:wTup a ρ M q=a ρ M fun xs M1=>b8 (xs.length<=sizeLine) (q (.tup xs) M1):=rfl
theorem wLst_e {a:WA}:wLst a ρ M q=a ρ M fun xs M1=>b8 (xs.length<=sizeLine) (iM M1 fun p=>q (wr p) (um M1 p (.lst xs))):=rfl
theorem wIxL_e {x:Addr}{i:Int}:wIxL (.v (.ref x)) (.v (.int i)) M q=lstK (M x) fun l=>iJ (atI l i) fun u=>q u M:=by apply propext;constructor;(· rintro⟨_,l,_,u,h1,h2,h3,h4,k⟩;cases h1;cases h2;exact⟨l,h3,u,h4,k⟩);(· rintro⟨l,h3,u,h4,k⟩;exact⟨_,l,_,u,rfl,rfl,h3,h4,k⟩)
theorem wIxT_e {l:List W}{i:Int}:wIxT (.tup l) (.v (.int i)) M q=iJ (atI l i) fun u=>q u M:=by apply propext;constructor;(· rintro⟨_,_,u,h1,h2,h4,k⟩;cases h1;cases h2;exact⟨u,h4,k⟩);(· rintro⟨u,h4,k⟩;exact⟨_,_,u,rfl,rfl,h4,k⟩)
def pe (x:W)(k:Int ->Prop):Prop:= ∃i,x=wi i /\ k i
theorem intK_e {i:Int}{k:Int ->Prop}:pe (.v (.int i)) k=k i:=by apply propext;constructor;(· rintro⟨_,h,k⟩;cases h;exact k);(· intro h;exact⟨_,rfl,h⟩)
theorem wCB_e {r:WCl}{a:WA}:wCB r a ρ M q=a ρ M fun xs M1=>r xs M1 q:=rfl
theorem wCall_e {p:WSp}{a:WA}:vi p a ρ M q=a ρ M fun xs M1=>vY p xs M1 q:=rfl
theorem wLen_l {x:Addr}:wLen [.v (.ref x)] M q=lstK (M x) fun l=>q (wi l.length) M:=by apply propext;constructor;(· rintro(⟨_,l,h1,h2,k⟩ | ⟨_,h1,_⟩);(· cases h1;exact⟨l,h2,k⟩);cases h1);(· rintro⟨l,h3,k⟩;exact .inl ⟨_,l,rfl,h3,k⟩)
theorem wLen_t {l:List W}:wLen [.tup l] M q=q (wi l.length) M:=by apply propext;constructor;(· rintro(⟨_,l,h1,h2,k⟩ | ⟨_,h1,k⟩);(· cases h1);cases h1;exact k);(· intro k;exact .inr ⟨l,rfl,k⟩)
theorem wAbs_e {i:Int}:wAbs [.v (.int i)] M q=q (wi (if i<0 then -i else i)) M:=by apply propext;constructor;(· rintro⟨_,h,k⟩;cases h;exact k);(· intro h;exact⟨_,rfl,h⟩)
theorem wMax2_e {i j:Int}:vd [.v (.int i), .v (.int j)] M q=q (wi (if j >i then j else i)) M:=by apply propext;constructor;(· rintro⟨_,_,h,k⟩;cases h;exact k);(· intro h;exact⟨_,_,rfl,h⟩)
theorem xG {l:List W}:mT [.tup l] M q=iM M fun p=>q (wr p) (um M p (.lst l)):=by apply propext;constructor;(· rintro⟨l,⟨_,h1,h2⟩ | h1,k⟩;(· cases h1);cases h1;exact k);(· intro k;exact⟨l, .inr rfl,k⟩)
theorem wo {x:Addr}:ko [.v (.ref x)] M q=lstK (M x) fun l=>q (.tup l) M:=by apply propext;constructor;(· rintro⟨l,⟨_,h1,h2⟩ | h1,k⟩;(· cases h1;exact⟨l,h2,k⟩);cases h1);(· rintro⟨l,h3,k⟩;exact⟨l, .inl ⟨_,rfl,h3⟩,k⟩)
theorem wIsX_e {K:PySem.W.Frag}{x:W}{T:String}:wIsX K [x, .v (.ty T)] M q=iJ (tyW M x) fun t=>iJ (PySem.W.kitOne K t (.type T)) fun b=>q (wb b) M:=by apply propext;constructor;(· rintro⟨_,_,t,b,h1,h2,h3,k⟩;cases h1;exact⟨t,h2,b,h3,k⟩);(· rintro⟨t,h2,b,h3,k⟩;exact⟨_,_,t,b,rfl,h2,h3,k⟩)
theorem vR {K:PySem.W.Frag}:PySem.W.kitOne K (.type "int") (.type "int")=some true:=rfl
theorem uU {K:PySem.W.Frag}:PySem.W.kitOne K (.type "int") (.type "bool")=some false:=rfl
theorem vQ {K:PySem.W.Frag}:PySem.W.kitOne K (.type "int") (.type "str")=some false:=rfl
theorem tX {K:PySem.W.Frag}:PySem.W.kitOne K (.type "int") (.type "tuple")=some false:=rfl
theorem uT {K:PySem.W.Frag}:PySem.W.kitOne K (.type "int") (.type "list")=some false:=rfl
theorem uW {K:PySem.W.Frag}:PySem.W.kitOne K (.type "bool") (.type "int")=some true:=rfl
theorem tZ {K:PySem.W.Frag}:PySem.W.kitOne K (.type "bool") (.type "bool")=some true:=rfl
theorem uV {K:PySem.W.Frag}:PySem.W.kitOne K (.type "bool") (.type "str")=some false:=rfl
theorem sy {K:PySem.W.Frag}:PySem.W.kitOne K (.type "bool") (.type "tuple")=some false:=rfl
theorem tY {K:PySem.W.Frag}:PySem.W.kitOne K (.type "bool") (.type "list")=some false:=rfl
theorem vP {K:PySem.W.Frag}:PySem.W.kitOne K (.type "str") (.type "int")=some false:=rfl
theorem uQ {K:PySem.W.Frag}:PySem.W.kitOne K (.type "str") (.type "bool")=some false:=rfl
theorem vO {K:PySem.W.Frag}:PySem.W.kitOne K (.type "str") (.type "str")=some true:=rfl
theorem tU {K:PySem.W.Frag}:PySem.W.kitOne K (.type "str") (.type "tuple")=some false:=rfl
theorem uP {K:PySem.W.Frag}:PySem.W.kitOne K (.type "str") (.type "list")=some false:=rfl
theorem oW {K:PySem.W.Frag}:PySem.W.kitOne K (.type "NoneType") (.type "int")=some false:=rfl
theorem nU {K:PySem.W.Frag}:PySem.W.kitOne K (.type "NoneType") (.type "bool")=some false:=rfl
theorem oV {K:PySem.W.Frag}:PySem.W.kitOne K (.type "NoneType") (.type "str")=some false:=rfl
theorem mD {K:PySem.W.Frag}:PySem.W.kitOne K (.type "NoneType") (.type "tuple")=some false:=rfl
theorem nT {K:PySem.W.Frag}:PySem.W.kitOne K (.type "NoneType") (.type "list")=some false:=rfl
theorem tT {K:PySem.W.Frag}:PySem.W.kitOne K (.type "tuple") (.type "int")=some false:=rfl
theorem sv {K:PySem.W.Frag}:PySem.W.kitOne K (.type "tuple") (.type "bool")=some false:=rfl
theorem tS {K:PySem.W.Frag}:PySem.W.kitOne K (.type "tuple") (.type "str")=some false:=rfl
theorem pO {K:PySem.W.Frag}:PySem.W.kitOne K (.type "tuple") (.type "tuple")=some true:=rfl
theorem su {K:PySem.W.Frag}:PySem.W.kitOne K (.type "tuple") (.type "list")=some false:=rfl
theorem uS {K:PySem.W.Frag}:PySem.W.kitOne K (.type "list") (.type "int")=some false:=rfl
theorem tW {K:PySem.W.Frag}:PySem.W.kitOne K (.type "list") (.type "bool")=some false:=rfl
theorem uR {K:PySem.W.Frag}:PySem.W.kitOne K (.type "list") (.type "str")=some false:=rfl
theorem sx {K:PySem.W.Frag}:PySem.W.kitOne K (.type "list") (.type "tuple")=some false:=rfl
theorem tV {K:PySem.W.Frag}:PySem.W.kitOne K (.type "list") (.type "list")=some true:=rfl
theorem wBM_e {r:WM}{b:WA}:wBM r a b ρ M q=a ρ M fun x M1=>cz x fun p=>lstK (M1 p) fun _=>b ρ M1 fun xs M2=>r x xs M2 q:=by unfold wBM IsL cz lstK;congr 1;funext x M1;apply propext;constructor;(· rintro⟨⟨p,l,h1,h2⟩,k⟩;exact⟨p,h1,l,h2,k⟩);(· rintro⟨p,h1,l,h2,k⟩;exact⟨⟨p,l,h1,h2⟩,k⟩)
theorem xI {x:Addr}{y:W}:mU (.v (.ref x)) [y] M q=lstK (M x) fun l=>b8 (l.length<sizeLine) (q wn (um M x (.lst (l++ [y])))):=by apply propext;constructor;(· rintro⟨_,l,_,h1,h2,h3,h4,k⟩;cases h1;cases h2;exact⟨l,h3,h4,k⟩);(· rintro⟨l,h3,h4,k⟩;exact⟨_,l,_,rfl,rfl,h3,h4,k⟩)
theorem wCat_e {x y:Addr}:wCat (.v (.ref x)) (.v (.ref y)) M q=lstK (M x) fun l=>lstK (M y) fun l'=>b8 (l.length+l'.length<=sizeLine) (iM M fun p=>q (wr p) (um M p (.lst (l++l')))):=by apply propext;constructor;(· rintro⟨_,_,l,l',h1,h2,h3,h4,h5,k⟩;cases h1;cases h2;exact⟨l,h3,l',h4,h5,k⟩);(· rintro⟨l,h3,l',h4,h5,k⟩;exact⟨_,_,l,l',rfl,rfl,h3,h4,h5,k⟩)
theorem wTruth_e {q:Bool ->Mp ->Prop}:pX a ρ M q=a ρ M fun x M1=>truK M1 x fun k=>q k M1:=rfl
theorem wDNew_e:vf ρ M q=iM M fun p=>q (wr p) (um M p (.dK [])):=rfl
theorem wDGet_e:qg a b ρ M q=a ρ M fun x M1=>b ρ M1 fun y M2=>cz x fun p=>il y fun k=>dH (M2 p) fun kvs=>iJ (bD kvs k) fun z=>q z M2:=by unfold qg cz il dH iJ;congr 1;funext x M1;congr 1;funext y M2;apply propext;constructor;(· rintro⟨p,kvs,k,z,h1,h2,h3,h4,h⟩;exact⟨p,h1,k,h3,kvs,h2,z,h4,h⟩);(· rintro⟨p,h1,k,h3,kvs,h2,z,h4,h⟩;exact⟨p,kvs,k,z,h1,h2,h3,h4,h⟩)
theorem wDGet2_e:lM a b c ρ M q=a ρ M fun x M1=>cz x fun p=>dH (M1 p) fun _=>b ρ M1 fun y M2=>c ρ M2 fun z M3=>il y fun k=>dH (M3 p) fun kvs=>q ((bD kvs k).getD z) M3:=by
 unfold lM cz il dH;congr 1;funext x M1;apply propext;constructor
 · rintro⟨p,h1,⟨kvs,h2⟩,h⟩
   refine⟨p,h1,kvs,h2,?_⟩
   have e:(fun y M2=>c ρ M2 fun z M3=> ∃kvs k,M3 p=some (.dK kvs) /\ y=bA k /\ q ((bD kvs k).getD z) M3)=(fun y M2=>c ρ M2 fun z M3=> ∃k,y=bA k /\ ∃kvs,M3 p=some (.dK kvs) /\ q ((bD kvs k).getD z) M3):=by
     funext y M2;congr 1;funext z M3;apply propext;constructor
     · rintro⟨a,b,c,d,e⟩;exact⟨b,d,a,c,e⟩
     · rintro⟨b,d,a,c,e⟩;exact⟨a,b,c,d,e⟩
   rw[<- e];exact h
 · rintro⟨p,h1,kvs,h2,h⟩
   refine⟨p,h1,⟨kvs,h2⟩,?_⟩
   have e:(fun y M2=>c ρ M2 fun z M3=> ∃kvs k,M3 p=some (.dK kvs) /\ y=bA k /\ q ((bD kvs k).getD z) M3)=(fun y M2=>c ρ M2 fun z M3=> ∃k,y=bA k /\ ∃kvs,M3 p=some (.dK kvs) /\ q ((bD kvs k).getD z) M3):=by
     funext y M2;congr 1;funext z M3;apply propext;constructor
     · rintro⟨a,b,c,d,e⟩;exact⟨b,d,a,c,e⟩
     · rintro⟨b,d,a,c,e⟩;exact⟨a,b,c,d,e⟩
   rw[e];exact h
theorem aJ {a b:WS}:sSeq a b D ρ M=a {nx:=b D,rt:=D.rt,bk:=D.bk,ct:=D.ct} ρ M:=rfl
theorem sNext_e:vA D ρ M=D.nx ρ M:=rfl
theorem sCont_e:vE D ρ M=D.ct ρ M:=rfl
theorem sDrop_e:vB a D ρ M=a ρ M fun _ M1=>D.nx ρ M1:=rfl
theorem sRet_e:sRet a D ρ M=a ρ M D.rt:=rfl
theorem sIf_e {c:WT}{a b:WS}:sIf c a b D ρ M=c ρ M fun k M1=>cO k (a D ρ M1) (b D ρ M1):=rfl
theorem sAsg_e {g:WG}:sAsg a g D ρ M=a ρ M fun x M1=>g x ρ M1 D.nx:=rfl
def twoK (xs:List W)(k:W ->W ->Prop):Prop:= ∃x y,xs= [x,y] /\ k x y
theorem twoK_e {x y:W}{k:W ->W ->Prop}:twoK [x,y] k=k x y:=by apply propext;constructor;(· rintro⟨_,_,h,z⟩;cases h;exact z);(· intro h;exact⟨_,_,rfl,h⟩)
theorem sDPutW_e:lV a b c D ρ M=c ρ M fun z M1=>a ρ M1 fun x M2=>b ρ M2 fun y M3=>cz x fun p=>il y fun k=>dH (M3 p) fun kvs=>b8 (kvs.length<sizeLine) (D.nx ρ (um M3 p (.dK (dA kvs k z)))):=by unfold lV cz il dH b8;congr 1;funext z M1;congr 1;funext x M2;congr 1;funext y M3;apply propext;constructor;(· rintro⟨p,kvs,k,h1,h2,h3,h4,h⟩;exact⟨p,h1,k,h3,kvs,h2,h4,h⟩);(· rintro⟨p,h1,k,h3,kvs,h2,h4,h⟩;exact⟨p,kvs,k,h1,h2,h3,h4,h⟩)
theorem sFor_e {it:WI}{g:WG}{b:WS}:sFor it g b D ρ M=it ρ M fun xs keep M1=>forK xs keep g b D ρ M1:=rfl
theorem vName_e {i:Nat}{x:W}{q:WSt ->Mp ->Prop}:vk i x ρ M q=q (ρ.set i (some x)) M:=rfl
theorem vNil_e {q:WSt ->Mp ->Prop}:vNil [] ρ M q=q ρ M:=by simp[vNil]
theorem vCons_e {a:WG}{b:WGs}{x:W}{r:List W}{q:WSt ->Mp ->Prop}:vm a b (x::r) ρ M q=a x ρ M fun ρ' M'=>b r ρ' M' q:=by apply propext;constructor;(· rintro⟨_,_,h,k⟩;cases h;exact k);(· intro h;exact⟨_,_,rfl,h⟩)
theorem vTup_e {n:Nat}{a:WGs}{l:List W}{q:WSt ->Mp ->Prop}:vTup n a (.tup l) ρ M q=b8 (l.length=n) (a l ρ M q):=by apply propext;constructor;(· rintro⟨_,h,k⟩;cases h;exact k);(· intro h;exact⟨_,rfl,h⟩)
theorem vSub_e {s:tM}{x:W}{q:WSt ->Mp ->Prop}:vSub a b s x ρ M q=a ρ M fun o M1=>b ρ M1 fun i M2=>s o i x M2 fun M3=>q ρ M3:=rfl
theorem wSetL_e {x:Addr}{i:Int}{z:W}{q:Mp ->Prop}:vb (.v (.ref x)) (.v (.int i)) z M q=lstK (M x) fun l=>iJ (ixN l.length i) fun j=>q (um M x (.lst (l.set j z))):=by apply propext;constructor;(· rintro⟨_,l,_,j,h1,h2,h3,h4,k⟩;cases h1;cases h2;exact⟨l,h3,j,h4,k⟩);(· rintro⟨l,h3,j,h4,k⟩;exact⟨_,l,_,j,rfl,rfl,h3,h4,k⟩)
theorem jList_e {q:List W ->(Mp ->Prop) ->Mp ->Prop}:sE a ρ M q=a ρ M fun x M1=>cz x fun p=>lstK (M1 p) fun l=>q l (fun M'=>M' p=some (.lst l)) M1:=by unfold sE cz lstK;congr 1;funext x M1;apply propext;constructor;(· rintro⟨p,l,h1,h2,h⟩;exact⟨p,h1,l,h2,h⟩);(· rintro⟨p,h1,l,h2,h⟩;exact⟨p,l,h1,h2,h⟩)
theorem jTup_e {q:List W ->(Mp ->Prop) ->Mp ->Prop}:jTup a ρ M q=a ρ M fun x M1=>tupK x fun l=>q l (fun _=>True) M1:=rfl
def rR (xs:List W)(k:W ->Prop):Prop:= ∃x,xs= [x] /\ k x
theorem oneK_e {x:W}{k:W ->Prop}:rR [x] k=k x:=by apply propext;constructor;(· rintro⟨_,h,k⟩;cases h;exact k);(· intro h;exact⟨_,rfl,h⟩)
theorem jRng1_e {a:WA}{q:List W ->(Mp ->Prop) ->Mp ->Prop}:sD a ρ M q=a ρ M fun xs M1=>rR xs fun x=>pe x fun j=>b8 (-(2 ^ 62) <=j /\ j<2 ^ 62) (q (bq 0 j.toNat) (fun _=>True) M1):=by unfold sD rR pe b8;congr 1;funext x M1;apply propext;constructor;(· rintro⟨j,h1,h2,h3,h⟩;exact⟨_,h1,j,rfl,⟨h2,h3⟩,h⟩);(· rintro⟨_,h1,j,rfl,⟨h2,h3⟩,h⟩;exact⟨j,h1,h2,h3,h⟩)
theorem jRng2_e {a:WA}{q:List W ->(Mp ->Prop) ->Mp ->Prop}:sC a ρ M q=a ρ M fun xs M1=>twoK xs fun x y=>pe x fun i=>pe y fun j=>b8 (-(2 ^ 62) <=i /\ i<2 ^ 62 /\ -(2 ^ 62) <=j /\ j<2 ^ 62) (q (bq i (j - i).toNat) (fun _=>True) M1):=by unfold sC twoK pe b8;congr 1;funext x M1;apply propext;constructor;(· rintro⟨i,j,h1,h2,h⟩;exact⟨_,_,h1,i,rfl,j,rfl,h2,h⟩);(· rintro⟨_,_,h1,i,rfl,j,rfl,h2,h⟩;exact⟨i,j,h1,h2,h⟩)
theorem wComp_e {it:WI}{own:Nat}{fr:List Nat}{g:WG}{c:WT}{el:WE}:vh it own fr g c el ρ M q=it ρ M fun xs keep M1=>lD xs keep own fr g c el ρ M1 q:=rfl
theorem wYes_e {q:Bool ->Mp ->Prop}:wYes ρ M q=q true M:=rfl
end
theorem sl1:(1<=sizeLine)=True:=by rw[sizeLine_eq];decide
theorem sl2:(2<=sizeLine)=True:=by rw[sizeLine_eq];decide
theorem sl3:(3<=sizeLine)=True:=by rw[sizeLine_eq];decide
theorem sl4:(4<=sizeLine)=True:=by rw[sizeLine_eq];decide
theorem sl0:(0<=sizeLine)=True:=by simp
theorem a4 {c A B:Prop} [Decidable c](h1:c ->A)(h2:¬c ->B):cO (decide c) A B:=by
 unfold cO
 by_cases h:c
 · rw[if_pos (decide_eq_true h)];exact h1 h
 · rw[if_neg (by simpa using h)];exact h2 h
theorem sH {c A B:Prop} [Decidable c](h1:¬c ->A)(h2:c ->B):cO (!decide c) A B:=by
 unfold cO
 by_cases h:c
 · rw[if_neg (by simpa using h)];exact h2 h
 · rw[if_pos (by simpa using h)];exact h1 h
theorem eM {xs:List W}{keep:Mp ->Prop}{M1:Mp}{own:Nat}{fr:List Nat}{ρ:WSt}{g:WG}{c:WT}{el:WE}{q:WK}(f:W ->Option W)(hz:xs.length<=sizeLine)(hkeep: ∀M,Sm M1 M ->keep M)
   (hs: ∀ (i:Nat) x,xs[i]? =some x -> ∀ (M:Mp) (N:Option W ->Mp ->Prop),Sm M1 M ->N (f x) M ->g x (eP own fr ρ) M fun ρ2 M2=>c ρ2 M2 fun b M3=>cO b (el ρ2 M3 fun y M4=>N (some y) M4) (N none M3))
   (hq: ∀p,M1 p=none ->q (wr p) (um M1 p (.lst (xs.filterMap f)))):lD xs keep own fr g c el ρ M1 q:=pD f hz hkeep hs hq
end WL
namespace WL
def hold (f:WSt ->Mp ->Prop)(ρ:WSt)(M:Mp):Prop:=f ρ M
theorem cP {f:WSt ->Mp ->Prop}{ρ:WSt}{M:Mp}(h:f ρ M):hold f ρ M:=h
theorem aR {a b:WS}{D:WEnds}{ρ:WSt}{M:Mp}:sSeq a b D ρ M=a {nx:=hold (b D),rt:=D.rt,bk:=D.bk,ct:=D.ct} ρ M:=rfl
end WL
namespace WL
theorem j0 {c:WT}{a b R:WS}{D:WEnds}{ρ:WSt}{M:Mp}(Mid:WSt ->Mp ->Prop)(rest: ∀ρ M,Mid ρ M ->R D ρ M)(h: ∀N:WSt ->Mp ->Prop,(∀ρ M,Mid ρ M ->N ρ M) ->sIf c a b {nx:=N,rt:=D.rt,bk:=D.bk,ct:=D.ct} ρ M):sSeq (sIf c a b) R D ρ M:=h _ rest
end WL
namespace WL
theorem cZ {xs:List W}{keep:Mp ->Prop}{g:WG}{b:WS}{D:WEnds}{ρ:WSt}{M1:Mp}(I:Nat ->WSt ->Mp ->Prop)(h0:I 0 ρ M1)(hk: ∀i ρ M,i<=xs.length ->I i ρ M ->keep M)
   (hs: ∀i x ρ M,xs[i]? =some x ->I i ρ M -> ∀N:WSt ->Mp ->Prop,(∀ρ' M',I (i+1) ρ' M' ->N ρ' M') ->g x ρ M fun ρ2 M2=>b {nx:=N,rt:=D.rt,bk:=D.nx,ct:=N} ρ2 M2)
   (hd: ∀ρ M,I xs.length ρ M ->D.nx ρ M):forK xs keep g b D ρ M1:=⟨I,h0,hk,fun i x ρ M hx hI=>hs i x ρ M hx hI _ fun _ _ h=>h,hd⟩
end WL
namespace WP
open PySem L2 WL
abbrev Pt:=List (Int×Int)
def look:Pt ->Int ->Int
 | [],_=>0
 | q::r,x=>if q.1=x then q.2 else look r x
def a7 (p:Int)(l:Pt):Prop:=(∀q∈l,0<q.2 /\ q.2<p) /\ l.Pairwise (fun a b=>a.1<b.1)
def tot:Pt ->Int ->Int
 | [],_=>0
 | q::r,x=>(if q.1=x then q.2 else 0)+tot r x
theorem cu (a b:Pt)(x:Int):tot (a++b) x=tot a x+tot b x:=by
 induction a with
 | nil=>simp[tot]
 | cons q r ih=>rw[List.cons_append,tot,tot,ih];lia
theorem cQ (a:Pt)(q:Int×Int)(x:Int):tot (a++ [q]) x=tot a x+if q.1=x then q.2 else 0:=by
 rw[cu];simp[tot]
theorem bo {l:Pt}{x:Int}(h: ∀q∈l,q.1≠x):look l x=0:=by
 induction l with
 | nil=>rfl
 | cons q r ih=>rw[look,if_neg (h q (by simp)),ih fun z hz=>h z (by simp[hz])]
theorem ju {l:Pt}{x:Int}(h: ∀q∈l,q.1≠x):tot l x=0:=by
 induction l with
 | nil=>rfl
 | cons q r ih=>rw[tot,if_neg (h q (by simp)),ih fun z hz=>h z (by simp[hz])];rfl
theorem ku {l:Pt}(h:l.Pairwise (fun a b=>a.1<b.1))(x:Int):tot l x=look l x:=by
 induction l with
 | nil=>rfl
 | cons q r ih=>
   rw[List.pairwise_cons] at h
   rw[tot,look,ih h.2]
   by_cases e:q.1=x
   · rw[if_pos e,if_pos e,bo]
     · lia
     · intro z hz;have:=h.1 z hz;lia
   · rw[if_neg e,if_neg e];lia
theorem hV {p:Int}{l:Pt}(hp:0<p)(h:a7 p l)(x:Int):0<=look l x /\ look l x<p:=by
 induction l with
 | nil=>rw[look];lia
 | cons q r ih=>
   rw[look]
   split
   · have:=h.1 q (by simp);lia
   · exact ih ⟨fun z hz=>h.1 z (by simp[hz]),(List.pairwise_cons.mp h.2).2⟩
theorem a7.tail {p:Int}{q:Int×Int}{r:Pt}(h:a7 p (q::r)):a7 p r:=⟨fun z hz=>h.1 z (by simp[hz]),(List.pairwise_cons.mp h.2).2⟩
theorem a7.nil {p:Int}:a7 p []:=⟨fun _ h=>absurd h (by simp),List.Pairwise.nil⟩
theorem jN {p p':Int}: ∀ {a b:Pt},a7 p a ->a7 p' b ->(∀x,look a x=look b x) ->a=b
 | [],[],_,_,_=>rfl
 | [],q::r,_,hb,h=>by
   have:=h q.1
   rw[look,look,if_pos rfl] at this
   have:=hb.1 q (by simp);lia
 | q::r,[],ha,_,h=>by
   have:=h q.1
   rw[look,look,if_pos rfl] at this
   have:=ha.1 q (by simp);lia
 | q ::r,q'::r',ha,hb,h=>by
   have pa:=ha.1 q (by simp)
   have pb:=hb.1 q' (by simp)
   have sa:=(List.pairwise_cons.mp ha.2).1
   have sb:=(List.pairwise_cons.mp hb.2).1
   have e1:q.1=q'.1:=by
     rcases Int.lt_trichotomy q.1 q'.1 with l | l | l
     · have e:=h q.1
       rw[look,if_pos rfl,look,if_neg (by lia),bo (fun z hz=>by have:=sb z hz;lia)] at e
       lia
     · exact l
     · have e:=h q'.1
       rw[look,if_neg (by lia),bo (fun z hz=>by have:=sa z hz;lia),look,if_pos rfl] at e
       lia
   have e2:q.2=q'.2:=by
     have e:=h q.1
     rw[look,if_pos rfl,look,if_pos e1.symm] at e
     exact e
   have e:r=r':=jN ha.tail hb.tail fun x=>by
     by_cases hx:q.1=x
     · rw[bo (fun z hz=>by have:=sa z hz;lia),bo (fun z hz=>by have:=sb z hz;lia)]
     · have e:=h x
       rwa [look,if_neg hx,look,if_neg (by lia)] at e
   rw[e,Prod.ext e1 e2]
def cF (p:Int):Pt ->Int ->Int ->Pt
 | [],x,s=>if s % p=0 then [] else [(x,s % p)]
 | q::r,x,s=>if x<q.1 then(if s % p=0 then q::r else(x,s % p)::q::r) else if x=q.1 then(if(q.2+s) % p=0 then r else(x,(q.2+s) % p)::r) else q::cF p r x s
def nrm (p:Int)(ps:Pt):Pt:=ps.foldl (fun a q=>cF p a q.1 q.2) []
theorem jk {p:Int}{l:Pt}{x s:Int}{z:Int×Int}(h:z∈cF p l x s):z.1=x \/ z∈l:=by
 induction l with
 | nil=>
   rw[cF] at h
   split at h
   · cases h
   · left;rw[List.mem_singleton.mp h]
 | cons q r ih=>
   rw[cF] at h
   split at h
   · split at h
     · exact .inr h
     · rcases List.mem_cons.mp h with h | h
       · left;rw[h]
       · exact .inr h
   · split at h
     · split at h
       · exact .inr (by simp[h])
       · rcases List.mem_cons.mp h with h | h
         · left;rw[h]
         · exact .inr (by simp[h])
     · rcases List.mem_cons.mp h with h | h
       · exact .inr (by simp[h])
       · rcases ih h with h | h
         · exact .inl h
         · exact .inr (by simp[h])
theorem mf {p s:Int}(hp:0<p)(h:¬s % p=0):0<s % p /\ s % p<p:=by
 have:=Int.emod_nonneg s (show p≠0 by lia)
 have:=Int.emod_lt_of_pos s hp
 lia
theorem pL {p:Int}(hp:0<p){l:Pt}{x s:Int}(h:a7 p l):a7 p (cF p l x s):=by
 induction l with
 | nil=>
   rw[cF]
   split
   · exact a7.nil
   · rename_i hs
     exact⟨fun q hq=>by rw[List.mem_singleton.mp hq];exact mf hp hs,by simp⟩
 | cons q r ih=>
   have sa:=(List.pairwise_cons.mp h.2).1
   rw[cF]
   split
   · rename_i hx
     split
     · exact h
     · rename_i hs
       refine⟨fun z hz=> ?_,List.pairwise_cons.mpr ⟨fun z hz=> ?_,h.2⟩⟩
       · rcases List.mem_cons.mp hz with rfl | hz
         · exact mf hp hs
         · exact h.1 z hz
       · rcases List.mem_cons.mp hz with rfl | hz
         · exact hx
         · have:=sa z hz;show x<z.1;lia
   · split
     · rename_i hx
       split
       · exact h.tail
       · rename_i hs
         refine⟨fun z hz=> ?_,List.pairwise_cons.mpr ⟨fun z hz=> ?_,h.tail.2⟩⟩
         · rcases List.mem_cons.mp hz with rfl | hz
           · exact mf hp hs
           · exact h.1 z (by simp[hz])
         · have:=sa z hz;show x<z.1;lia
     · rename_i h1 h2
       have ih':=ih h.tail
       refine⟨fun z hz=> ?_,List.pairwise_cons.mpr ⟨fun z hz=> ?_,ih'.2⟩⟩
       · rcases List.mem_cons.mp hz with rfl | hz
         · exact h.1 z (by simp)
         · exact ih'.1 z hz
       · rcases jk hz with e | hz
         · lia
         · exact sa z hz
theorem mw {p:Int}(hp:0<p){l:Pt}{x s:Int}(h:a7 p l)(y:Int):look (cF p l x s) y=if y=x then(look l x+s) % p else look l y:=by
 induction l with
 | nil=>
   rw[cF]
   by_cases hs:s % p=0
   · rw[if_pos hs];simp[look,hs]
   · rw[if_neg hs]
     by_cases e:y=x
     · subst e;simp[look]
     · rw[if_neg e];simp[look,Ne.symm e]
 | cons q r ih=>
   have sa:=(List.pairwise_cons.mp h.2).1
   have qr:=h.1 q (by simp)
   rw[cF]
   split
   · rename_i hx
     have hn:look (q::r) x=0:=bo (fun z hz=>by
       rcases List.mem_cons.mp hz with rfl | hz
       · lia
       · have:=sa z hz;lia)
     rw[hn,Int.zero_add]
     split
     · rename_i hs
       by_cases e:y=x
       · rw[if_pos e,e,hn,hs]
       · rw[if_neg e]
     · by_cases e:y=x
       · rw[if_pos e,look,if_pos e.symm]
       · rw[if_neg e,look,if_neg (Ne.symm e)]
   · split
     · rename_i hx
       have hq:look (q::r) x=q.2:=by rw[look,if_pos hx.symm]
       rw[hq]
       split
       · rename_i hs
         by_cases e:y=x
         · rw[if_pos e,hs,bo (fun z hz=>by have:=sa z hz;lia)]
         · rw[if_neg e,look,if_neg (by lia)]
       · by_cases e:y=x
         · rw[if_pos e,look,if_pos e.symm]
         · rw[if_neg e,look,if_neg (Ne.symm e),look,if_neg (by lia)]
     · rename_i h1 h2
       rw[look,ih h.tail]
       by_cases e:y=x
       · rw[if_pos e,if_pos e,if_neg (by lia)]
         conv=>rhs;rw[look,if_neg (by lia)]
       · rw[if_neg e,if_neg e,look]
theorem fk (p:Int)(ps:Pt)(q:Int×Int):nrm p (ps++ [q])=cF p (nrm p ps) q.1 q.2:=by
 unfold nrm;rw[List.foldl_append];rfl
theorem bT {α:Type}{P:List α ->Prop}(h0:P [])(h1: ∀l a,P l ->P (l++ [a]))(l:List α):P l:=by
 have key: ∀n:Nat, ∀l:List α,l.length=n ->P l:=by
   intro n
   induction n with
   | zero=>intro l hl;rw[List.length_eq_zero_iff.mp hl];exact h0
   | succ n ih=>
     intro l hl
     have hne:l≠ []:=by intro e;rw[e] at hl;cases hl
     rw[<- List.dropLast_concat_getLast hne]
     exact h1 _ _ (ih _ (by rw[List.length_dropLast];lia))
 exact key _ l rfl
theorem bV {p:Int}(hp:0<p)(ps:Pt):a7 p (nrm p ps):=by
 induction ps using bT with
 | h0=>exact a7.nil
 | h1 l a ih=>rw[fk];exact pL hp ih
theorem cB {p:Int}(hp:0<p)(ps:Pt)(x:Int):look (nrm p ps) x=tot ps x % p:=by
 induction ps using bT with
 | h0=>simp[nrm,look,tot]
 | h1 l a ih=>
   rw[fk,mw hp (bV hp l),cQ]
   by_cases e:x=a.1
   · subst e
     rw[if_pos rfl,if_pos rfl,ih,Int.emod_add_emod]
   · rw[if_neg e,if_neg (Ne.symm e),ih,Int.add_zero]
theorem pM {p:Int}{l:Pt}{x s:Int}:(cF p l x s).length<=l.length+1:=by
 induction l with
 | nil=>rw[cF];split<;>simp
 | cons q r ih=>
   rw[cF]
   split
   · split<;>simp
   · split
     · split<;>simp<;>lia
     · simp;exact ih
theorem nN (p:Int)(ps:Pt):(nrm p ps).length<=ps.length:=by
 induction ps using bT with
 | h0=>simp[nrm]
 | h1 l a ih=>rw[fk,List.length_append];exact Nat.le_trans pM (by simp;exact ih)
theorem md {p:Int}{ps:Pt}{z:Int×Int}(h:z∈nrm p ps): ∃q∈ps,q.1=z.1:=by
 induction ps using bT generalizing z with
 | h0=>simp[nrm] at h
 | h1 l a ih=>
   rw[fk] at h
   rcases jk h with e | h
   · exact⟨a,by simp,e.symm⟩
   · obtain⟨q,h1,h2⟩:=ih h
     exact⟨q,by simp[h1],h2⟩
def kvW (m:Pt):List (Key×W):=m.map fun q=>((Sum.inl q.1:Key),wi q.2)
def d4 (m:Pt)(x v:Int):Pt:=if(m.any fun q=>decide (q.1=x))=true then m.map (fun q=>if q.1=x then(q.1,v) else q) else m++ [(x,v)]
theorem fH {m:Pt}{x:Int}:(m.any fun q=>decide (q.1=x))=true↔x∈m.map (·.1):=by
 rw[List.any_eq_true,List.mem_map]
 constructor
 · rintro⟨q,hq,e⟩;exact⟨q,hq,by simpa using e⟩
 · rintro⟨q,hq,e⟩;exact⟨q,hq,by simpa using e⟩
theorem jZ (a b:Int):decide ((Sum.inl a:Key)=Sum.inl b)=decide (a=b):=by simp
theorem gw (m:Pt)(x v:Int):dA (kvW m) (.inl x) (wi v)=kvW (d4 m x v):=by
 unfold dA d4
 have e:((kvW m).any fun kv=>decide (kv.1=(Sum.inl x:Key)))=m.any fun q=>decide (q.1=x):=by
   unfold kvW;rw[List.any_map];congr 1;funext q;exact jZ _ _
 rw[e]
 split
 · unfold kvW
   rw[List.map_map,List.map_map]
   apply List.map_congr_left
   intro q _
   show(if(Sum.inl q.1:Key)=Sum.inl x then((Sum.inl q.1:Key),wi v) else(Sum.inl q.1,wi q.2))=((Sum.inl (if q.1=x then(q.1,v) else q).1:Key),wi (if q.1=x then(q.1,v) else q).2)
   by_cases hq:q.1=x
   · rw[if_pos (by rw[hq]),if_pos hq]
   · rw[if_neg (fun z=>hq (Sum.inl.inj z)),if_neg hq]
 · unfold kvW;rw[List.map_append];rfl
theorem jt (m:Pt)(x:Int):bD (kvW m) (.inl x)=(m.find? fun q=>decide (q.1=x)).map fun q=>wi q.2:=by
 unfold bD kvW
 rw[List.find?_map,Option.map_map]
 have e:((fun kv:Key×W=>decide (kv.1=(Sum.inl x:Key))) ∘ fun q:Int×Int=>((Sum.inl q.1:Key),wi q.2))=fun q=>decide (q.1=x):=by
   funext q;exact jZ _ _
 rw[e];rfl
theorem dZ {m:Pt}{x:Int}:(m.find? fun q=>decide (q.1=x))=none /\ look m x=0 /\ x∉m.map (·.1) \/ ∃q,(m.find? fun q=>decide (q.1=x))=some q /\ look m x=q.2:=by
 induction m with
 | nil=>exact .inl ⟨rfl,rfl,by simp⟩
 | cons q r ih=>
   rw[List.find?_cons,look]
   by_cases e:q.1=x
   · simp only[e,decide_true];exact .inr ⟨q,rfl,by simp⟩
   · simp only[e,decide_false,if_false]
     rcases ih with⟨h1,h2,h3⟩ | h
     · exact .inl ⟨h1,h2,by rw[List.map_cons,List.mem_cons,not_or];exact⟨Ne.symm e,h3⟩⟩
     · exact .inr h
theorem gA (m:Pt)(x:Int):(bD (kvW m) (.inl x)).getD (wi 0)=wi (look m x):=by
 rw[jt]
 rcases dZ (m:=m) (x:=x) with⟨h1,h2,_⟩ | ⟨q,h1,h2⟩ <;>rw[h1,h2] <;>rfl
theorem gF {m:Pt}{x:Int}(h:x∈m.map (·.1)):bD (kvW m) (.inl x)=some (wi (look m x)):=by
 rw[jt]
 rcases dZ (m:=m) (x:=x) with⟨_,_,h3⟩ | ⟨q,h1,h2⟩
 · exact absurd h h3
 · rw[h1,h2];rfl
theorem k8 (m:Pt):(kvW m).map (·.1)=(m.map (·.1)).map Sum.inl:=by
 unfold kvW;rw[List.map_map,List.map_map];rfl
theorem i8 {m:Pt}{x v:Int}:(d4 m x v).map (·.1)=if x∈m.map (·.1) then m.map (·.1) else m.map (·.1)++ [x]:=by
 unfold d4
 by_cases h:x∈m.map (·.1)
 · rw[if_pos (fH.mpr h),if_pos h,List.map_map]
   apply List.map_congr_left
   intro q _
   show(if q.1=x then(q.1,v) else q).1=q.1
   split<;>rfl
 · rw[if_neg (fun e=>h (fH.mp e)),if_neg h,List.map_append];rfl
theorem jP {m:Pt}{x v:Int}(h:(m.map (·.1)).Nodup):((d4 m x v).map (·.1)).Nodup:=by
 rw[i8]
 by_cases e:x∈m.map (·.1)
 · rw[if_pos e];exact h
 · rw[if_neg e];exact nO h e
theorem ij {m:Pt}{x v:Int}:(d4 m x v).length<=m.length+1:=by
 unfold d4;split
 · rw[List.length_map];lia
 · simp
theorem fS {m:Pt}{x v y:Int}:look (d4 m x v) y=if y=x then v else look m y:=by
 unfold d4
 by_cases h:x∈m.map (·.1)
 · rw [if_pos (fH.mpr h)]
   have key: ∀m:Pt,look (m.map (fun q=>if q.1=x then(q.1,v) else q)) y=if y=x /\ x∈m.map (·.1) then v else look m y:=by
     intro m
     induction m with
     | nil=>simp[look]
     | cons q r ih=>
       rw[List.map_cons,look,look,ih]
       by_cases hq:q.1=x
       · by_cases hy:y=x
         · subst hy;simp[hq]
         · simp[hq,hy,Ne.symm hy]
       · by_cases hy:y=x
         · subst hy
           have:(y∈(q::r).map (·.1))=(y∈r.map (·.1)):=by rw[List.map_cons,List.mem_cons];simp[Ne.symm hq]
           simp only[this,hq,if_false]
         · simp[hq,hy]
   rw[key];simp[h]
 · rw [if_neg (fun e=>h (fH.mp e))]
   have key: ∀m:Pt,x∉m.map (·.1) ->look (m++ [(x,v)]) y=if y=x then v else look m y:=by
     intro m
     induction m with
     | nil=>
       intro _
       by_cases e:y=x
       · simp[look,e]
       · simp[look,e,Ne.symm e]
     | cons q r ih=>
       intro hn
       rw[List.map_cons,List.mem_cons,not_or] at hn
       rw[List.cons_append,look,look,ih hn.2]
       by_cases e:y=x
       · subst e;simp[Ne.symm hn.1]
       · simp[e]
   exact key m h
def sel (m:Pt)(ns:List Int):Pt:=ns.filterMap fun x=>if look m x=0 then none else some (x,look m x)
theorem kZ {m:Pt}{x:Int}: ∀ {ns:List Int},ns.Nodup ->look (sel m ns) x=if x∈ns then look m x else 0
 | [],_=>rfl
 | n ::r,h=>by
   rw[List.nodup_cons] at h
   have ih:=kZ (m:=m) (x:=x) h.2
   unfold sel at ih ⊢
   rw[List.filterMap_cons]
   by_cases e:look m n=0
   · rw[if_pos e]
     show look (r.filterMap _) x=_
     rw[ih]
     by_cases hx:x=n
     · subst hx;rw[if_neg h.1,if_pos (by simp),e]
     · simp[hx]
   · rw[if_neg e]
     show look ((n,look m n)::r.filterMap _) x=_
     rw[look,ih]
     by_cases hx:x=n
     · subst hx;rw[if_pos rfl,if_pos (by simp)]
     · rw[if_neg (Ne.symm hx)];simp[hx]
theorem oC {ns:List Int}(h1:ns.Pairwise (· <= ·))(h2:ns.Nodup):ns.Pairwise (· < ·):=by
 refine(List.Pairwise.and h1 h2).imp ?_
 rintro a b ⟨h,n⟩
 lia
theorem nv {p:Int}(hp:0<p){ps m:Pt}{ns:List Int}(hn:(m.map (·.1)).Nodup)(ht: ∀x,look m x=tot ps x % p)(hperm:ns.Perm (m.map (·.1)))(hs:ns.Pairwise (· <= ·)):sel m ns=nrm p ps:=by
 have nd:=hperm.nodup_iff.mpr hn
 have st:=oC hs nd
 refine jN (p:=p) ⟨?_,?_⟩ (bV hp ps) fun x=> ?_
 · intro q hq
   obtain⟨x,hx,e⟩:=List.mem_filterMap.mp hq
   split at e
   · cases e
   · rename_i h0
     cases e
     have:=ht x
     have:=Int.emod_nonneg (tot ps x) (show p≠0 by lia)
     have:=Int.emod_lt_of_pos (tot ps x) hp
     show 0<look m x /\ look m x<p
     lia
 · unfold sel
   refine List.Pairwise.filterMap _ ?_ st
   intro a b hab c hc d hd
   split at hc<;>cases hc
   split at hd<;>cases hd
   exact hab
 · rw[kZ nd,cB hp]
   split
   · exact ht x
   · rename_i hx
     rw[<- ht x,bo]
     intro q hq e
     exact hx (hperm.mem_iff.mpr (by rw[<- e];exact List.mem_map_of_mem hq))
theorem dS {ks:List Int}: ∀ {l:List Int},ks.Nodup ->(∀k∈ks,k∈l) ->ks.length<=l.length:=by
 induction ks with
 | nil=>intro l _ _;simp
 | cons k r ih=>
   intro l hn hs
   rw[List.nodup_cons] at hn
   have hk:k∈l:=hs k (by simp)
   have:=ih (l:=l.erase k) hn.2 fun z hz=>by
     have hzk:z≠k:=fun e=>hn.1 (e▸hz)
     exact(List.mem_erase_of_ne hzk).mpr (hs z (by simp[hz]))
   rw[List.length_erase_of_mem hk] at this
   have:0<l.length:=List.length_pos_of_mem hk
   rw[List.length_cons];lia
def Few (_:Pt):Prop:=True
theorem few {ps:Pt}:Few ps:=trivial
theorem uY {ps:Pt}(h:ps.length<64):Few ps:=trivial
theorem kY {m:Pt}{x v k:Int}(h:k∈(d4 m x v).map (·.1)):k=x \/ k∈m.map (·.1):=by
 rw[i8] at h
 split at h
 · exact .inr h
 · rcases List.mem_append.mp h with h | h
   · exact .inr h
   · exact .inl (List.mem_singleton.mp h)
end WP
namespace WQ
open PySem L2 WL WP
def pTake:WSp:=fun xs M q=> ∃ (d l:Addr) (n:Int),xs= [wr d,wi n] /\ Dr M d l /\ 0<n /\ n<1073741824 /\ ∀ (r:Int) (M':Mp),0<=r ->r<n ->Dr M' d l ->NB d M M' ->q (wi r) M'
def pP:WSp:=fun xs M q=> ∃ (d l:Addr),xs= [wr d] /\ Dr M d l /\ ∀ (p:Int) (M':Mp),(p=2 \/ p=3 \/ p=5 \/ p=7) ->Dr M' d l ->NB d M M' ->q (wi p) M'
def vL:WSp:=fun xs M q=> ∃ (a:Addr) (p:Int) (ps:Pt),xs= [wi p,wr a] /\ M a=some (.lst (ps.map aG)) /\ 0<p /\ Few ps /\ ps.length<=100000 /\ q (aQ (nrm p ps)) M
def rL:WSp:=fun xs M q=> ∃ (d l:Addr) (p most far:Int),xs= [wr d,wi p,wi most,wi far] /\ Dr M d l /\ 2<=p /\ p<1000 /\ 0<=most /\ most<63 /\ 0<=far /\ far<100000000 /\
 ∀ (ps:Pt) (M':Mp),(ps.length:Int) <=most ->(∀z∈ps, -far<=z.1 /\ z.1<=far /\ 0<z.2 /\ z.2<p) ->Dr M' d l ->NB d M M' ->q (aQ (nrm p ps)) M'
def mv (by_:Int)(l:Pt):Pt:=l.map fun z=>(z.1+by_,z.2)
def pInt:WSp:=fun xs M q=> ∃i:Int,xs= [wi i] /\ q (wb true) M
def xg:WSp:=fun xs M q=> ∃ (p:Int) (pat:Pt),xs= [wi p,aQ pat] /\ a7 p pat /\ pat.length<=100000 /\ q (wb true) M
def tm (n:Int)(l:Pt):Pt:=l.map fun z=>(z.1,z.2*n)
def mvt (b n:Int)(l:Pt):Pt:=l.map fun z=>(z.1+b,z.2*n)
def pSum:WSp:=fun xs M q=> ∃ (p:Int) (a b:Pt) (y n:Int),xs= [wi p,aQ a,aQ b,wi y,wi n] /\ 0<p /\ Few (a++mvt y n b) /\ a.length<=40000 /\ b.length<=40000 /\ (∀z∈b,0<=z.2 /\ z.2<1000) /\ q (aQ (nrm p (a++mvt y n b))) M
theorem big {n:Nat}(h:n<=100000):n<=sizeLine:=Nat.le_trans h (by rw[sizeLine_eq];decide)
theorem mQ {n:Nat}(h:n<=100000):n<sizeLine:=Nat.lt_of_le_of_lt h (by rw[sizeLine_eq];decide)
theorem mv_zero {l:Pt}:mv 0 l=l:=by
 unfold mv
 have:(fun z:Int×Int=>(z.1+0,z.2))=id:=by funext z;rw[Int.add_zero];rfl
 rw[this,List.map_id]
theorem look_mv {b:Int}{l:Pt}{x:Int}:look (mv b l) x=look l (x - b):=by
 induction l with
 | nil=>rfl
 | cons q r ih=>
   show look ((q.1+b,q.2)::mv b r) x=_
   rw[look,look,ih]
   by_cases e:q.1+b=x
   · rw[if_pos e,if_pos (by lia)]
   · rw[if_neg e,if_neg (by lia)]
theorem qm {n:Int}{l:Pt}{x:Int}:tot (tm n l) x=tot l x*n:=by
 induction l with
 | nil=>simp[tm,tot]
 | cons q r ih=>
   show tot ((q.1,q.2*n)::tm n r) x=_
   rw[tot,tot,ih,Int.add_mul]
   split<;>simp
theorem xo {b n:Int}{l:Pt}:mvt b n l=tm n (mv b l):=by
 unfold mvt tm mv;rw[List.map_map];rfl
theorem wG {b:Int}{l:Pt}{x:Int}:tot (mv b l) x=tot l (x - b):=by
 induction l with
 | nil=>rfl
 | cons q r ih=>
   show tot ((q.1+b,q.2)::mv b r) x=_
   rw[tot,tot,ih]
   by_cases e:q.1+b=x
   · rw[if_pos e,if_pos (by lia)]
   · rw[if_neg e,if_neg (by lia)]
theorem tf (q:Int×Int):dOf (aG q)=some (.tup [.int q.1, .int q.2]):=by
 simp[aG,dOf,iz]
theorem iy: ∀l:Pt,iz (l.map aG)=some (l.map fun q=> .tup [.int q.1, .int q.2])
 | []=>rfl
 | q::r=>by rw[List.map_cons,iz,tf,iy r];rfl
def patD (l:Pt):Dt:= .tup (l.map fun q=> .tup [.int q.1, .int q.2])
theorem gC (l:Pt):dOf (aQ l)=some (patD l):=by
 rw[aQ,dOf,iy];rfl
theorem iw: ∀l:Pt,ka (l.map fun q=> .tup [.int q.1, .int q.2]) <=1
 | []=>by simp[ka]
 | q::r=>by
   rw[List.map_cons,ka]
   have:=iw r
   simp only[dpt,ka]
   lia
theorem n8 (l:Pt):dpt (patD l) <=50:=by
 unfold patD
 rw[dpt]
 have:=iw l
 lia
theorem xC {M:Mp}{q:WK}{a b:Pt}(e:a=b)(h:q (wb true) M):wEqD (aQ a) (aQ b) M q:=by
 subst e
 exact⟨_,_, .inl (gC a), .inl (gC a),rfl,n8 a,by rw[dG];exact h⟩
theorem r9 {M:Mp}{q:WK}{a b:Pt}(e:a=b)(h:q (wb false) M):wNeD (aQ a) (aQ b) M q:=by
 subst e
 exact⟨_,_, .inl (gC a), .inl (gC a),rfl,n8 a,by rw[dG];exact h⟩
def nq (K:PySem.W.Frag):Sp:=fun vs H Q _=> ∃ (a:Addr) (ns:List Int),vs= [.ref a] /\ SqL K H a (ns.map V.int) /\ ∀ (d l:Addr) (ms:List Int) (H':Hp),d≠l ->H' d=some (.lst [.ref l, .int 0, .int 0, .int 11]) ->H' l=some (.lst (ms.map V.int)) ->Q (.ref d) H'
def kC (K:PySem.W.Frag):Sp:=fun vs H Q _=> ∃ (a:Addr) (ns:List Int),vs= [.ref a] /\ SqL K H a (ns.map V.int) /\ ∀H',Q (.bl true) H'
theorem okLaw {P:Program}{w:World}{K:PySem.W.Frag}{mg:Str ->Option Value}{base:Heap}{x qual z:Str}{st:Stmt}{f:Addr}{fd:FuncData}{N:List Str}{k:Nat}(F:Fun K x qual st f fd)(S:FnScope N [z] (ai st))(hN:2<=N.length)
   (hbody: ∀ (cdv:Value) (A:Around) (outer:List Env) (s:Shared) (H:Hp) (E:XK),Room k (A.deeper (PyProof.Rows.envOfC qual (ai st) s.heap.objs.size f cdv)) ->
     ∃ R,PSs (bh CX0 P w K mg base N qual (ai st) f cdv A outer s H E).nox (bg st) (tSeq (qG (nj (nq K) [] E0 (qC (tVar 0) tNil)) (fw 1)) R) /\
       ∃w',IS K R w' /\ ∀d l M,Dr M d l ->w' {nx:=fun _ _=>False,rt:=fun x _=>x=wb true} (none::some (wr d)::List.replicate (N.length - 2) none) M):
   FnOk P w K mg base CX0 (k+1) f fd [z] (kC K):=by
 refine Fun.ok F S (fun vs H Q E ⟨a,ns,h,_⟩=>by rw[h];rfl) fun cdv A outer s H vs Q E hr h=> ?_
 obtain⟨R,h1,w',h2,h3⟩:=hbody cdv A outer s H E hr
 obtain⟨a,ns,rfl,hs,hq⟩:=h
 refine⟨_,h1,?_⟩
 obtain⟨n,hn⟩: ∃n,N.length=n+2:=⟨N.length - 2,by lia⟩
 have e0:L2.start N [V.ref a]=some (V.ref a)::none::List.replicate n none:=by
   unfold L2.start
   rw[hn]
   rfl
 rw[e0]
 refine⟨_,rfl,a,ns,rfl,hs,fun d l ms H' hne hd hl=> ?_⟩
 show R _ _ H'
 refine h2.imp (none::some (wr d)::List.replicate (N.length - 2) none) (um (um (fun _=>none) l (.lst (ms.map wi))) d (.lst [wr l,wi 0,wi 0,wi 11])) _ H' _ _ ⟨⟨?_,fun i y e=> ?_⟩,fun b o e=> ?_⟩ (h3 d l _ ⟨ms,0,0,11,ab,by rw[ag (Ne.symm hne),ab],by decide,hne⟩) ⟨fun _ _ _ _ h=>h.elim,fun y M' v H2 e _ _ r=> ?_,fun _ _ _ _ h=>h.elim,fun _ _ _ _ h=>h.elim⟩
 · simp[hn]
 · match i with
   | 0=>simp at e
   | 1=>
     simp at e
     subst e
     exact⟨.ref d,rfl,WR.v⟩
   | i+2=>
     simp[List.getElem?_replicate] at e
 · by_cases hb:b=d
   · subst hb
     rw[ab] at e;cases e
     exact⟨_,hd,WRs.cons WR.v (WRs.cons WR.v (WRs.cons WR.v (WRs.cons WR.v WRs.nil)))⟩
   · rw[ag hb] at e
     by_cases hb':b=l
     · subst hb'
       rw[ab] at e;cases e
       exact⟨_,hl,WRs.ofInts ms⟩
     · rw[ag hb'] at e;cases e
 · subst e
   rw[r.eq]
   exact hq H2
end WQ
namespace WQ
open PySem L2 WL WP
abbrev Rd:=Int×Pt
def jn (p:Int)(a b:Rd):Rd:=(a.1+b.1,nrm p (a.2++mv a.1 b.2))
def bk (p:Int)(a:Rd):Rd:=(-a.1,nrm p (tm (-1) (mv (-a.1) a.2)))
end WQ
namespace WL
open PySem PySem.Spec PyProof.Rows L2
theorem eT (bt:Nat ->Nat ->Bool): ∀k,PySem.argBest bt k<=k
 | 0=>Nat.le_refl _
 | k+1=>by
   unfold PySem.argBest
   split
   · exact Nat.le_refl _
   · exact Nat.le_succ_of_le (eT bt k)
theorem gk (val:Nat ->Int): ∀k j,j<=k ->val j<=val (PySem.argBest (fun i j=>decide (val i >val j)) k)
 | 0, j, h => by have:j=0:=by omega
                 subst this;exact Int.le_refl _
 | k + 1,j,h=>by
   have ih:=gk val k
   unfold PySem.argBest
   by_cases hb:val (k+1) >val (PySem.argBest (fun i j=>decide (val i >val j)) k)
   · rw[if_pos (decide_eq_true hb)]
     rcases Nat.lt_or_ge j (k+1) with h' | h'
     · have:=ih j (by omega);omega
     · have:j=k+1:=by omega
       subst this;exact Int.le_refl _
   · rw[if_neg (by simpa using hb)]
     rcases Nat.lt_or_ge j (k+1) with h' | h'
     · exact ih j (by omega)
     · have:j=k+1:=by omega
       subst this;omega
theorem gj (val:Nat ->Int): ∀k j,j<=k ->val (PySem.argBest (fun i j=>decide (val i<val j)) k) <=val j
 | 0, j, h => by have:j=0:=by omega
                 subst this;exact Int.le_refl _
 | k + 1,j,h=>by
   have ih:=gj val k
   unfold PySem.argBest
   by_cases hb:val (k+1) <val (PySem.argBest (fun i j=>decide (val i<val j)) k)
   · rw[if_pos (decide_eq_true hb)]
     rcases Nat.lt_or_ge j (k+1) with h' | h'
     · have:=ih j (by omega);omega
     · have:j=k+1:=by omega
       subst this;exact Int.le_refl _
   · rw[if_neg (by simpa using hb)]
     rcases Nat.lt_or_ge j (k+1) with h' | h'
     · exact ih j (by omega)
     · have:j=k+1:=by omega
       subst this;omega
def eh (ns:List Int)(m:Int):Prop:=m∈ns /\ ∀x∈ns,x<=m
def bY (ns:List Int)(m:Int):Prop:=m∈ns /\ ∀x∈ns,m<=x
def rMaxL (K:PySem.W.Frag):List V ->Hp ->VK ->Prop:=fun xs H Q=> ∃ (l:Addr) (ns:List Int),xs= [.ref l] /\ SqL K H l (ns.map V.int) /\ ns≠ [] /\ ∀m,eh ns m ->Q (.int m) H
def vH (K:PySem.W.Frag):List V ->Hp ->VK ->Prop:=fun xs H Q=> ∃ (l:Addr) (ns:List Int),xs= [.ref l] /\ SqL K H l (ns.map V.int) /\ ns≠ [] /\ ∀m,bY ns m ->Q (.int m) H
section
variable {X:Cx}
theorem dY {its:List Value}{ns:List Int}(rv:Vals (ns.map V.int) its){i:Nat}{v:Value}(e:its.toArray[i]? =some v): ∃t,v= .int (ns.getD i 0) t /\ i<ns.length:=by
 have e':its[i]? =some v:=by simpa using e
 have hlen:=rv.length
 have hi:i<ns.length:=by
   have:=(List.getElem?_eq_some_iff.mp e').1
   rw[List.length_map] at hlen
   omega
 obtain⟨w',hw,rw'⟩:=rv.get (i:=i) (x:= .int ns[i]) (by rw[List.getElem?_map,List.getElem?_eq_getElem hi];rfl)
 rw[e'] at hw
 cases hw
 obtain⟨t,rfl⟩:=rw'
 exact⟨t,by simp[List.getD,hi],hi⟩
theorem vV {ns:List Int}{i:Nat}(h:i<ns.length):ns.getD i 0=ns[i]:=by simp[List.getD,h]
theorem tF {ns:List Int}(hn:ns≠ []):eh ns (ns.getD (PySem.argBest (fun i j=>decide (ns.getD i 0 >ns.getD j 0)) (ns.length - 1)) 0):=by
 have hl:0<ns.length:=List.length_pos_iff.mpr hn
 have hb:=eT (fun i j=>decide (ns.getD i 0 >ns.getD j 0)) (ns.length - 1)
 have hi:PySem.argBest (fun i j=>decide (ns.getD i 0 >ns.getD j 0)) (ns.length - 1) <ns.length:=by omega
 refine⟨?_,fun x hx=> ?_⟩
 · rw[vV hi];exact List.getElem_mem hi
 · obtain⟨j,hj,rfl⟩:=List.mem_iff_getElem.mp hx
   have:=gk (fun i=>ns.getD i 0) (ns.length - 1) j (by omega)
   have e:ns.getD j 0=ns[j]:=by simp[List.getD,hj]
   simp only[e] at this
   exact this
theorem lG {ns:List Int}(hn:ns≠ []):bY ns (ns.getD (PySem.argBest (fun i j=>decide (ns.getD i 0<ns.getD j 0)) (ns.length - 1)) 0):=by
 have hl:0<ns.length:=List.length_pos_iff.mpr hn
 have hb:=eT (fun i j=>decide (ns.getD i 0<ns.getD j 0)) (ns.length - 1)
 have hi:PySem.argBest (fun i j=>decide (ns.getD i 0<ns.getD j 0)) (ns.length - 1) <ns.length:=by omega
 refine⟨?_,fun x hx=> ?_⟩
 · rw[vV hi];exact List.getElem_mem hi
 · obtain⟨j,hj,rfl⟩:=List.mem_iff_getElem.mp hx
   have:=gj (fun i=>ns.getD i 0) (ns.length - 1) j (by omega)
   have e:ns.getD j 0=ns[j]:=by simp[List.getD,hj]
   simp only[e] at this
   exact this
theorem xK (hc:X.calm=true):bB X (.builtin "max") (rMaxL X.K):=by
 intro pins s σ H xs us Q I r h
 obtain⟨l,ns,rfl,hs,hn,q⟩:=h
 obtain⟨u,rfl,ru⟩:=vals1 r
 cases ru
 obtain⟨its,rv,ht,hz⟩:=I.list hs
 have hh:X.A.in1.handled=none:=I.ok.hd hc
 have hlen:its.toArray.size=ns.length:=by have:=rv.length;rw[List.length_map] at this;simpa using this.symm
 have hlt:l<s.heap.objs.size:=by obtain⟨_,e,_⟩:=ht.isList;exact Heap.lt_size e
 refine PySem.call_max_walkS ?_
 refine wpAny_pyIter_list ht.isList ?_
 refine⟨s.heap.objs.size,_,_,_,its.toArray.size,_,_,fun i j=>decide (ns.getD i 0 >ns.getD j 0),rfl,(Walks.list hh s.heap.objs.size l (Nat.ne_of_lt hlt) its.toArray).toS,⟨⟨_,Heap.get?_push_size _ rfl,rfl,rfl⟩,ht.isList.push _⟩,fun b hb=> ?_,?_,PySem.CmpOf.ints_gt (fun i=>ns.getD i 0) (fun i v e=>let ⟨t,h,_⟩:=dY rv e;⟨t,h⟩),fun v s' e hm=> ?_⟩
 · show b< (s.heap.push _).objs.size
   rw[Heap.size_push]
   rcases List.mem_cons.mp hb with rfl | hb
   · exact Nat.lt_succ_self _
   · rw[List.mem_singleton.mp hb];exact Nat.lt_succ_of_lt hlt
 · rw[hlen];exact List.length_pos_iff.mpr hn
 · have hk: ∀b o,s.heap.get? b=some o ->s'.heap.get? b=some o:=fun b o e=>
     hm.heap b o (fun hI=>absurd (Heap.lt_size e) (by rw[List.mem_singleton.mp hI];exact Nat.lt_irrefl _)) (Heap.get?_push_of_some _ e)
   rw[Moved.eq_with hm]
   obtain⟨t,rfl,_⟩:=dY rv e
   rw[hlen]
   exact⟨.int _,H,I.kept (t':=s'.toks) hk,⟨t,rfl⟩,q _ (tF hn)⟩
theorem pF (hc:X.calm=true):bB X (.builtin "min") (vH X.K):=by
 intro pins s σ H xs us Q I r h
 obtain⟨l,ns,rfl,hs,hn,q⟩:=h
 obtain⟨u,rfl,ru⟩:=vals1 r
 cases ru
 obtain⟨its,rv,ht,hz⟩:=I.list hs
 have hh:X.A.in1.handled=none:=I.ok.hd hc
 have hlen:its.toArray.size=ns.length:=by have:=rv.length;rw[List.length_map] at this;simpa using this.symm
 have hlt:l<s.heap.objs.size:=by obtain⟨_,e,_⟩:=ht.isList;exact Heap.lt_size e
 refine PySem.call_min_walkS ?_
 refine wpAny_pyIter_list ht.isList ?_
 refine⟨s.heap.objs.size,_,_,_,its.toArray.size,_,_,fun i j=>decide (ns.getD i 0<ns.getD j 0),rfl,(Walks.list hh s.heap.objs.size l (Nat.ne_of_lt hlt) its.toArray).toS,⟨⟨_,Heap.get?_push_size _ rfl,rfl,rfl⟩,ht.isList.push _⟩,fun b hb=> ?_,?_,PySem.CmpOf.ints_lt (fun i=>ns.getD i 0) (fun i v e=>let ⟨t,h,_⟩:=dY rv e;⟨t,h⟩),fun v s' e hm=> ?_⟩
 · show b< (s.heap.push _).objs.size
   rw[Heap.size_push]
   rcases List.mem_cons.mp hb with rfl | hb
   · exact Nat.lt_succ_self _
   · rw[List.mem_singleton.mp hb];exact Nat.lt_succ_of_lt hlt
 · rw[hlen];exact List.length_pos_iff.mpr hn
 · have hk: ∀b o,s.heap.get? b=some o ->s'.heap.get? b=some o:=fun b o e=>
     hm.heap b o (fun hI=>absurd (Heap.lt_size e) (by rw[List.mem_singleton.mp hI];exact Nat.lt_irrefl _)) (Heap.get?_push_of_some _ e)
   rw[Moved.eq_with hm]
   obtain⟨t,rfl,_⟩:=dY rv e
   rw[hlen]
   exact⟨.int _,H,I.kept (t':=s'.toks) hk,⟨t,rfl⟩,q _ (lG hn)⟩
variable {K:PySem.W.Frag}
def wMinL:WCl:=fun xs M q=> ∃ (a:Addr) (ns:List Int),xs= [wr a] /\ M a=some (.lst (ns.map wi)) /\ ns≠ [] /\ ∀m,bY ns m ->q (wi m) M
instance:IC K (vH K) wMinL where
 imp:=by
   rintro xs v M H q Q m r1 ⟨a,ns,rfl,hl,hn,h⟩ k
   obtain⟨v,rfl,r⟩:=r1.one
   cases r.eq
   obtain⟨vs,hv,rr⟩:=m a _ hl
   cases rr.ints
   exact⟨a,ns,rfl,SqL.of hv,hn,fun x hx=>k _ M _ H (h x hx) (ao.refl H) m WR.v⟩
end
end WL
namespace WQ
open PySem L2 WL WP
def prc (p s:Int):Int:=if p - s<s then p - s else s
def vx (a:Rd):List Int:=0::a.1::a.2.map (·.1)
def absI (i:Int):Int:=if i<0 then -i else i
def fwv (p:Int)(a:Rd)(lo hi:Int):Int:=2*(hi - lo) - absI a.1+(a.2.map fun z=>prc p z.2).sum
theorem bY.uniq {ns:List Int}{a b:Int}(h:bY ns a)(h':bY ns b):a=b:=by
 have:=h.2 b h'.1
 have:=h'.2 a h.1
 lia
theorem eh.uniq {ns:List Int}{a b:Int}(h:eh ns a)(h':eh ns b):a=b:=by
 have:=h.2 b h'.1
 have:=h'.2 a h.1
 lia
end WQ
namespace WQ
open PySem L2 WL WP
def hit (e n x:Int):Bool:=decide (x.fmod e=0) && (decide (0<=x.fdiv e) && decide (x.fdiv e<n))
end WQ
namespace EN
open PySem PySem.Spec PyProof.Rows L2
open Sem (wp)
open AutoSeq1 (wpAny_loadPart')
section
variable {prog:Program}{w:World}{A:Around}{E:Value ->Shared ->Prop}{s:Shared}
theorem me {j t:Addr}{i:Nat}{its:Array Value}{x:Value}{Q:Value ->Shared ->Prop}(hj:s.heap.IsTupleIter j t i)(ht:s.heap.IsTuple t its)(hx:its[i]? =some x)
   (hQ: ∀h',h'.IsTupleIter j t (i+1) ->Heap.SameBut j s.heap h' ->Q x {s with heap:=h'}):wpAny (model prog w) A (Builtin.SmallTypes.nextOf (.ref j)) Q E s:=by
 obtain⟨oj,hoj,hcj,hdj⟩:=id hj
 obtain⟨ot,hot,_,nt,hdt⟩:=ht
 unfold Builtin.SmallTypes.nextOf
 refine wpAny_bind (wpAny_callSpecial?_slot (name:=Str.ofString "__next__") hj.typeIs F.slot_tuple_iterator_next (wpAny_call_entry F.slot_tuple_iterator_next hj.typeIs F.entry_tuple_iterator_next ?_ (F.args_tuple_iterator_next_1 _)))
 show wpAny _ _ (field (.ref j) 0 >>=_) _ _ s
 refine wpAny_bind (wpAny_field hoj hdj (x:= .ref t) rfl ?_);show wpAny _ _ (if(Value.ref t==Value.none)=true then _ else _) _ _ s
 rw[if_neg (show ¬((Value.ref t==Value.none)=true) from fun z=>Bool.false_ne_true z)]
 show wpAny _ _ (field (.ref j) 1 >>=_) _ _ s
 refine wpAny_bind (wpAny_field hoj hdj (x:= .int i 0) rfl ?_);show wpAny _ _ (seqItems? (.ref t) >>=_) _ _ s
 refine wpAny_bind (wpAny_seqItems hot hdt ?_);simp only[Int.toNat_natCast,hx]
 refine wpAny_bind (wpAny_setField hoj hdj (by simp) (wpAny_pure ⟨x,rfl,wpAny_pure (hQ _ ?_ (Heap.SameBut.update ..))⟩))
 exact⟨_,Heap.get?_update_self _ hoj (Obj.isFreed_of_fields (Obj.data_mapFields hdj _)),(Obj.cls_mapFields ..).trans hcj,by rw[Obj.data_mapFields hdj];simp[rawInt]⟩
theorem oO {j t:Addr}{i:Nat}{its:Array Value}{Q:Value ->Shared ->Prop}(hh:A.handled=none)(hj:s.heap.IsTupleIter j t i)(ht:s.heap.IsTuple t its)(hx:its[i]? =none)
   (hE: ∀h' e,Heap.ExtBut j s.heap h' ->(∃o,h'.get? e=some o /\ o.cls= .type "StopIteration") ->E (.ref e) {s with heap:=h'}):wpAny (model prog w) A (Builtin.SmallTypes.nextOf (.ref j)) Q E s:=by
 obtain⟨oj,hoj,hcj,hdj⟩:=id hj
 obtain⟨ot,hot,_,nt,hdt⟩:=ht
 unfold Builtin.SmallTypes.nextOf
 refine wpAny_bind (wpAny_callSpecial?_slot (name:=Str.ofString "__next__") hj.typeIs F.slot_tuple_iterator_next (wpAny_call_entry F.slot_tuple_iterator_next hj.typeIs F.entry_tuple_iterator_next ?_ (F.args_tuple_iterator_next_1 _)))
 show wpAny _ _ (field (.ref j) 0 >>=_) _ _ s
 refine wpAny_bind (wpAny_field hoj hdj (x:= .ref t) rfl ?_);show wpAny _ _ (if(Value.ref t==Value.none)=true then _ else _) _ _ s
 rw[if_neg (show ¬((Value.ref t==Value.none)=true) from fun z=>Bool.false_ne_true z)]
 show wpAny _ _ (field (.ref j) 1 >>=_) _ _ s
 refine wpAny_bind (wpAny_field hoj hdj (x:= .int i 0) rfl ?_);show wpAny _ _ (seqItems? (.ref t) >>=_) _ _ s
 refine wpAny_bind (wpAny_seqItems hot hdt ?_);simp only[Int.toNat_natCast,hx]
 refine wpAny_bind (wpAny_rule (wpAny_bind (wpAny_setField hoj hdj (by simp) ?_)));show wpAny _ _ (newExc (.type "StopIteration") [] >>=_) _ _ _
 refine wpAny_bind ?_;simp only[newExc,newTuple]
 refine wpAny_bind (wpAny_newObj_type ?_ (by size_fits));refine wpAny_bind (m:=firstArgMember _ _) (wpAny_of_eq (a:=Value.none) (by first | rfl | (simp only[firstArgMember];rfl)) ?_)
 refine wpAny_newObj_type ?_ (by size_fits);simp only[raiseNew]
 refine wpAny_bind (wpAny_handled ?_);first | rw[show A.in1.handled=none from hh] | rw[hh]
 refine wpAny_bind (wpAny_pure (wpAny_throw ?_));exact hE _ _ (((Heap.SameBut.update ..).extBut.push _).push _) ⟨_,Heap.get?_push_size _ rfl,rfl⟩
end
theorem sY {prog:Program}{w:World}{A:Around}(hh:A.handled=none)(j t:Addr)(hne:t≠j)(its:Array Value):
   Draws prog w A j [j,t] its.size (fun i v=>its[i]? =some v) (fun i h=>h.IsTupleIter j t i /\ h.IsTuple t its) where
 live:=fun _ _ st=>let ⟨o,ho,_⟩:=st.1;⟨o,ho⟩
 frame:=fun _ _ _ st hk=>⟨let ⟨o,ho,r⟩:=st.1;⟨o,hk j (by simp) o ho,r⟩,let ⟨o,ho,r⟩:=st.2;⟨o,hk t (by simp) o ho,r⟩⟩
 item:=fun i s Q E hi st hQ=>by
   refine me st.1 st.2 (x:=its[i]) (by simp[hi]) fun h' hj' hs'=> ?_
   exact hQ _ h' s.toks (by simp[hi]) ⟨hj',st.2.extBut hs'.extBut hne⟩ hs'
 done:=fun s Q E st hE=>oO hh st.1 st.2 (by simp) hE
theorem xp (t:Addr)(its:Array Value)(n:Nat)(dct:Option Addr)(sl:Array (Option Value)):
   Meets (Builtin.«enumerate.__new__» ⟨[.type "enumerate", .ref t],[]⟩) (fun _ R s=>s.heap.get? t=some {cls:= .type "tuple",dict:=dct,data:= .seq its n,slots:=sl} /\
     R (.ok (.ret (.ref (s.heap.push {cls:= .type "tuple_iterator",data:= .fields #[.ref t, .int 0 0]}).objs.size)))
       {s with heap:=(s.heap.push {cls:= .type "tuple_iterator",data:= .fields #[.ref t, .int 0 0]}).push {cls:= .type "enumerate",data:= .fields #[.none, .bool false, .ref s.heap.objs.size,rawInt 0, .none, .none]}}):=
 .of_wp fun prog w A R s h=>by
   obtain⟨hp,g,d,tk,os⟩:=s;obtain⟨hl,h⟩:=h
   have hsub:=sub_enumerate
   have hL:Heap.IsTuple (Shared.heap ⟨hp,g,d,tk,os⟩) t its:=⟨_,hl,rfl,n,rfl⟩
   wp_walk using wpAny_loadPart' hl
   refine wpAny_stack_any fun st=>wpAny_pure ?_
   split
   · rename_i c _ _ _ _ _
     cases (c==Value.type "enumerate")
     · wp_walk using wpAny_loadPart' hl,wpAny_pyIter_tuple hL
       exact⟨_,rfl,h⟩
     · wp_walk using wpAny_loadPart' hl,wpAny_pyIter_tuple hL
       exact⟨_,rfl,h⟩
   · wp_walk using wpAny_loadPart' hl,wpAny_pyIter_tuple hL
     exact⟨_,rfl,h⟩
section
variable {prog:Program}{w:World}{A:Around}{E:Value ->Shared ->Prop}{s:Shared}
theorem mP {t:Addr}{its:Array Value}{Q:Value ->Shared ->Prop}(hL:s.heap.IsTuple t its)
   (h: ∀h',IsEnum h' (s.heap.objs.size+1) s.heap.objs.size 0 .none ->h'.IsTupleIter s.heap.objs.size t 0 ->h'.objs.size=s.heap.objs.size+2 ->
     (∀b o,s.heap.get? b=some o ->h'.get? b=some o) ->Q (.ref (s.heap.objs.size+1)) {s with heap:=h'}):wpAny (model prog w) A (call (.type "enumerate") [.ref t]) Q E s:=by
 obtain⟨⟨c,dct,dt,sl⟩,hl,hc,n,hd⟩:=hL
 replace hc:c= .type "tuple" :=hc
 replace hd:dt= .seq its n:=hd
 subst hc hd
 refine callType_new F.called_enumerate (by decide) (F.typeCall_enumerate_1 _) (F.newCall_enumerate_1 _) (fun obj=>F.args_object_init_2 obj _) F.entry_enumerate_new (xp t its n dct sl) ⟨hl,?_⟩
 have hz:(s.heap.push {cls:= .type "tuple_iterator",data:= .fields #[.ref t, .int 0 0]}).objs.size=s.heap.objs.size+1:=Heap.size_push ..
 show _ /\ _
 rw[hz]
 have he:IsEnum ((s.heap.push {cls:= .type "tuple_iterator",data:= .fields #[.ref t, .int 0 0]}).push {cls:= .type "enumerate",data:= .fields #[.none, .bool false, .ref s.heap.objs.size,rawInt 0, .none, .none]}) (s.heap.objs.size+1) s.heap.objs.size 0 .none:=by
   have q:=Heap.get?_push_size (s.heap.push {cls:= .type "tuple_iterator",data:= .fields #[.ref t, .int 0 0]}) (o:= {cls:= .type "enumerate",data:= .fields #[.none, .bool false, .ref s.heap.objs.size,rawInt 0, .none, .none]}) rfl
   rw[hz] at q;exact q
 refine⟨⟨_,he,rfl⟩,h _ he ⟨_,Heap.get?_push_of_some _ (Heap.get?_push_size _ rfl),rfl,rfl⟩ (by rw[Heap.size_push,hz]) fun b o x=>Heap.get?_push_of_some _ (Heap.get?_push_of_some _ x)⟩
end
end EN
namespace EN
open PySem PySem.Spec PyProof.Rows L2 WL
section
variable {X:Cx}{pins:List (Addr×Obj)}{σ:L2.St}{H:Hp}{s:Shared}{h':Heap}
theorem nW {e j:Addr}{xs:List V}{t':Nat}(I:Inv X pins σ H s)(k: ∀b o,b≠e ->b≠j ->s.heap.get? b=some o ->h'.get? b=some o)(fe:di X pins H e)(fj:di X pins H j)
   (new:aW X.prog X.w (upd H s.heap.objs.size (.tup xs)) h' s.heap.objs.size (.tup xs)):Inv X pins σ (upd H s.heap.objs.size (.tup xs)) {s with heap:=h',toks:=t'}:=by
 have hfr:H s.heap.objs.size=none:=I.hok.fresh (Nat.le_refl _)
 have ne: ∀ {b u},H b=some u ->b≠e /\ b≠j:=fun {b u} q=>⟨aN q fe.1,aN q fj.1⟩
 have nm: ∀ {b:Addr},b∉ [e,j] ->b≠e /\ b≠j:=fun {b} q=>by simpa using q
 refine I.call (ch:= [e,j]) (g':=s.gens) (d':=s.drawn) ⟨fun b o q n _ hc=>k b o (nm hc).1 (nm hc).2 q,fun b o q n _ hc=>⟨o.slots,k b o (nm hc).1 (nm hc).2 q⟩,fun b o q n hc=> ?_,fun b o q hc=>⟨o,k b o (nm hc).1 (nm hc).2 q⟩,fun b ys q=> ?_,fun b o u q=> ?_,fun b ps q=>⟨#[],?_⟩⟩ ?_ I.bare ?_
 · rw[ar (Nat.ne_of_lt (Heap.lt_size q))];exact n
 · rw[ar (aN q hfr)];exact q
 · rw[ar (aN q hfr)];exact q
 · rw[ar (aN q hfr),q];simp
 · intro b u q
   by_cases hb:b=s.heap.objs.size
   · subst hb
     rw[aw] at q;cases q
     exact new
   · rw[ar hb] at q
     refine(I.hok b u q).stay (fun c v hc r=> ?_) (fun c r=>by rw[ar (aN r hfr)];exact r) fun c ys r=>by rw[ar (aN r hfr)];exact r
     rcases hc with rfl | hc
     · exact k _ v (ne q).1 (ne q).2 r
     · exact k _ v (ne hc).1 (ne hc).2 r
 · intro b hb
   rcases List.mem_cons.mp hb with rfl | hb
   · exact⟨fe.2.2.2.1,fe.2.1,fe.2.2.2.2.1,fe.2.2.2.2.2⟩
   · rw[List.mem_singleton.mp hb]
     exact⟨fj.2.2.2.1,fj.2.1,fj.2.2.2.2.1,fj.2.2.2.2.2⟩
end
def tO (K:PySem.W.Frag)(a:Addr):It:=
 ⟨fun i H=> ∃xs x,SqT K H a xs /\ xs[i]? =some x,fun i H v H'=> ∃p x,H p=none /\ H'=upd H p (.tup [.int i,x]) /\ v= .ref p /\ ∀xs,SqT K H a xs ->xs[i]? =some x,fun i H=> ∃xs,SqT K H a xs /\ xs.length=i⟩
theorem lQ {P:Program}{w:World}{K:PySem.W.Frag}{elts:List Expr}{x1}{pos:Pos}(a e j:Addr)(hej:e≠j):Turn P w K (.Tuple elts x1 pos) (tO K a) [e,j] e (fun i h=>(∃old,IsEnum h e j i old) /\ h.IsTupleIter j a i) where
 mem:=by simp
 obj:=fun i h st b hb=>by
   obtain⟨⟨old,he⟩,o,hj,c,d⟩:=st
   rcases List.mem_cons.mp hb with rfl | hb
   · exact⟨_,he,fun v z=>nomatch z⟩
   · rw[List.mem_singleton.mp hb];exact⟨o,hj,fun v z=>by rw[d] at z;cases z⟩
 keep:=fun i h h' st k=>by
   obtain⟨⟨old,he⟩,o,hj,r⟩:=st
   exact⟨⟨old,k e (by simp) _ he⟩,o,k j (by simp) o hj,r⟩
 item := by
   intro X hP hw hK hc i pins s σ H E I hf st hg
   subst hP hw hK
   obtain⟨xs,x,hq,hx⟩:=hg
   obtain⟨its,rv,p,hz⟩:=I.tuple hq
   obtain⟨⟨old,he⟩,hj⟩:=st
   have fe:=hf e (by simp)
   have fj:=hf j (by simp)
   have hit:s.heap.IsTuple a its.toArray:=p
   have ha:a≠j:=fun z=>by
     obtain⟨o,h1,c1,_⟩:=hit
     obtain⟨o2,h2,c2,_⟩:=hj
     rw[z] at h1;rw[h1] at h2;cases h2;rw[c1] at c2;simp at c2
   have hae:a≠e:=fun z=>by
     obtain⟨o,h1,c1,_⟩:=hit
     rw[z] at h1;rw[he] at h1;cases h1;simp at c1
   have hi:i<its.toArray.size:=by
     have:=(List.getElem?_eq_some_iff.mp hx).1
     have:=rv.length
     simp;lia
   refine wpAny_pyNext_enum_itemD (sY (show X.A.in1.handled=none from I.ok.hd hc) j a ha its.toArray) he ⟨hj,hit⟩ hi hej (by simp[hej,Ne.symm hae]) fun y h' tk hy ho hst ht hsz hk=> ?_
   refine⟨_,rfl,wpAny_letOwnedTupleGo_enum ho fun h2 he2 hs2=> ?_⟩
   obtain⟨u,hu,ru⟩:=rv.get hx
   have eu:u=y:=by
     have:its.toArray[i]? =some u:=by simpa using hu
     rw[hy] at this;exact(Option.some.inj this).symm
   subst eu
   have hes:s.heap.objs.size≠e:=Nat.ne_of_gt (Heap.lt_size he)
   refine⟨.ref s.heap.objs.size,upd H s.heap.objs.size (.tup [.int i,x]),nW (t':=tk+1) I (fun b o hb hb' q=>(hs2.2 b hb).trans (hk b o hb hb' q)) fe fj ⟨by rw[sizeLine_eq];show 2<=16777216;decide,[.int i tk,u], .cons ⟨_,rfl⟩ (.cons ru .nil),?_⟩,rfl,⟨_,x,I.hok.fresh (Nat.le_refl _),rfl,rfl,fun ys hys=>by rw[I.tuple_inj hys hq];exact hx⟩,⟨⟨u,by simpa using he2⟩,?_⟩,fun b hb=> ?_⟩
   · exact⟨_,(hs2.2 _ hes).trans ht,rfl,_,rfl,rfl⟩
   · obtain⟨⟨o,h1,r⟩,_⟩:=hst
     exact⟨o,(hs2.2 j (Ne.symm hej)).trans h1,r⟩
   · have:H b=none:=(hf b hb).1
     rw[ar (fun z=> ?_)]
     · exact this
     · obtain⟨o,h1,_⟩:=hj
       rcases List.mem_cons.mp hb with rfl | hb
       · exact hes z.symm
       · rw[List.mem_singleton.mp hb] at z
         exact absurd (Heap.lt_size h1) (by rw[z];exact Nat.lt_irrefl _)
 done:=by
   intro X hP hw hK hc i pins s σ H E I hf st hg
   subst hP hw hK
   obtain⟨xs,hq,hx⟩:=hg
   obtain⟨its,rv,p,hz⟩:=I.tuple hq
   obtain⟨⟨old,he⟩,hj⟩:=st
   have hit:s.heap.IsTuple a its.toArray:=p
   have ha:a≠j:=fun z=>by
     obtain⟨o,h1,c1,_⟩:=hit
     obtain⟨o2,h2,c2,_⟩:=hj
     rw[z] at h1;rw[h1] at h2;cases h2;rw[c1] at c2;simp at c2
   obtain⟨f0,f1,f2,f3,f4,f5⟩:=hf j (by simp)
   have hl:i=its.toArray.size:=by have:=rv.length;simp;lia
   refine wpAny_pyNext_enum_endD (sY (show X.A.in1.handled=none from I.ok.hd hc) j a ha its.toArray) he ⟨hl▸hj,hit⟩ fun h2 eb=>⟨rfl,I.turned (t':=s.toks) (fun b o hb q=>eb b o hb q) f0 f1 f3 f4 f5⟩
 self:=fun _ _ _ _ _ st h=>let ⟨⟨_,he⟩,_⟩:=st;wpAny_pyIter_enum he h
section
variable {X:Cx}{elts:List Expr}{x1:_}{tpos:Pos}
def sN (K:PySem.W.Frag)(tl:TA):TI:=fun σ H R=>tl σ H fun vs H1=> ∃a,vs= [.ref a] /\ (∃xs,SqT K H1 a xs) /\ R (tO K a) H1
theorem rE {l:Expr}{tl:TA}{p pos:Pos}{tg:Expr}(et:tg= .Tuple elts x1 tpos)(hg:Gl X "enumerate")(hm:X.mg "enumerate" =none)(ha:PA X [l] tl)(hs:starEach [l] X.env= [(false,eval l X.env)]:=by rfl):PI X tg (.Call (.Name "enumerate" p) [l] [] pos) (sN X.K tl):=by
 subst et
 intro pins s σ H R I h
 refine Call_ (bK I hg hm Boot.«enumerate» (PyProof.Rows.callWith_type1 (thn (ha pos pins s σ H _ I h) fun us s1 ⟨vs,H1,I1,r1,q1⟩=> ?_) hs rfl))
 obtain⟨a,e,⟨xs,hq⟩,q⟩:=q1
 subst e
 obtain⟨v,rfl,rv1⟩:=vals1 r1
 cases rv1
 obtain⟨its,rv,ht,hz⟩:=I1.tuple hq
 refine mP (show s1.heap.IsTuple a its.toArray from ht) fun h2 he hj hsz hk=> ?_
 have I2:Inv X pins σ H1 {s1 with heap:=h2}:=I1.kept (t':=s1.toks) hk
 refine wpAny_pyIter_enum he ?_
 refine⟨_,[s1.heap.objs.size+1,s1.heap.objs.size],_,_,H1,rfl,I2,lQ a (s1.heap.objs.size+1) s1.heap.objs.size (Nat.succ_ne_self _),⟨⟨_,he⟩,hj⟩,fun b hb=> ?_,q⟩
 rcases List.mem_cons.mp hb with rfl | hb
 · exact I1.fpOk (Nat.le_succ _) (I1.hok.fresh (Nat.le_succ _))
 · rw[List.mem_singleton.mp hb];exact I1.fpOk (Nat.le_refl _) (I1.hok.fresh (Nat.le_refl _))
end
end EN
namespace WL
open PySem PySem.Spec PyProof.Rows L2 EN
section
variable {X:Cx}
variable {K:PySem.W.Frag}
def cE (l:List W):List W:=(List.range l.length).map fun(i:Nat)=> .tup [wi i,l.getD i wn]
theorem u0 {l:List W}{i:Nat}{x:W}(h:(cE l)[i]? =some x): ∃y,l[i]? =some y /\ x= .tup [wi i,y]:=by
 unfold cE at h
 rw[List.getElem?_map] at h
 by_cases hi:i<l.length
 · rw[List.getElem?_range hi] at h
   cases h
   exact⟨l[i],List.getElem?_eq_getElem hi,by simp[List.getD,hi]⟩
 · rw[List.getElem?_eq_none (by simpa using hi)] at h;cases h
theorem sV {l:List W}:(cE l).length=l.length:=by simp[cE]
theorem uZ {l:List W}{i:Nat}{y:W}(h:l[i]? =some y):(cE l)[i]? =some (.tup [wi i,y]):=by
 obtain⟨hi,rfl⟩:=List.getElem?_eq_some_iff.mp h
 unfold cE
 rw[List.getElem?_map,List.getElem?_range hi]
 simp[List.getD,hi]
def mF (a:WA):WI:=fun ρ M q=>a ρ M fun xs M1=> ∃l,xs= [.tup l] /\ q (cE l) (fun _=>True) M1
theorem sT {M:Mp}{H:Hp}{i:Nat}{l:List W}{vs:List V}{p:Addr}{x:V}(m:MOk K M H)(rr:WRs K H l vs)(hi:vs[i]? =some x)(hp:H p=none):
   ao H (upd H p (.tup [.int i,x])) /\ MOk K M (upd H p (.tup [.int i,x])) /\ ∃z,(cE l)[i]? =some z /\ WR K (upd H p (.tup [.int i,x])) z (.ref p):=by
 obtain⟨d,hd,r⟩:=rr.back hi
 have ts:=L2.bz.ts (ay (o:= .tup [.int i,x]) hp)
 exact⟨ts,m.new hp,_,uZ hd,WR.mkT (SqT.of aw) (WRs.cons WR.v (WRs.cons (r.ts ts) WRs.nil))⟩
theorem mH {H1:Hp}{p:Addr}{l:List W}{vs:List V}(hv:SqT K H1 p vs)(rr:WRs K H1 l vs): ∀i M H,ao H1 H ->MOk K M H ->True ->((cE l).length=i ->(tO K p).stop i H) /\ (i< (cE l).length ->(tO K p).go i H) /\ ∀v H',i< (cE l).length ->(tO K p).yld i H v H' ->ao H H' /\ MOk K M H' /\ ∃x,(cE l)[i]? =some x /\ WR K H' x v:=by
 intro i M H ts m _
 have hv':=Un.sqT ts hv
 have rr':=rr.ts ts
 have hl:=rr'.length
 rw[sV]
 refine⟨fun h=>⟨vs,hv',by lia⟩,fun h=>⟨vs,vs[i]'(by lia),hv',by simp⟩,fun v H' hi y=> ?_⟩
 obtain⟨q,x,hq,rfl,rfl,y⟩:=y
 exact sT m rr' (y vs hv') hq
instance {t:TA}{a:WA} [ia:IA K t a]:II K (sN K t) (mF a) where
 imp:=fun ρ M σ H q R o h k=>ia.imp ρ M σ H _ _ o h fun xs M1 v H1 ⟨l,e,h1⟩ t1 m1 r1=>by
   subst e
   obtain⟨v,rfl,r⟩:=r1.one
   obtain⟨p,vs,rfl,hv,rr⟩:=r.tup
   exact⟨p,rfl,⟨vs,hv⟩,k _ _ _ M1 H1 h1 t1 m1 (mH hv rr)⟩
theorem sF {a:WA}{ρ:WSt}{M:Mp}{q:List W ->(Mp ->Prop) ->Mp ->Prop}:mF a ρ M q=a ρ M fun xs M1=>rR xs fun x=>tupK x fun l=>q (cE l) (fun _=>True) M1:=by
 unfold mF rR tupK
 congr 1;funext xs M1;apply propext;constructor
 · rintro⟨l,h,k⟩;exact⟨_,h,l,rfl,k⟩
 · rintro⟨_,h,l,rfl,k⟩;exact⟨l,h,k⟩
end
end WL
namespace WL
open PySem L2
theorem mM {xs:List W}{keep:Mp ->Prop}{M1:Mp}{own:Nat}{fr:List Nat}{ρ:WSt}{g:WG}{c:WT}{el:WE}{q:WK}(hz:xs.length<=sizeLine)
   (h: ∀p,M1 p=none -> ∃I:Nat ->List W ->Mp ->Prop,I 0 [] (um M1 p (.lst [])) /\ (∀i ys M,i<=xs.length ->I i ys M ->keep M /\ M p=some (.lst ys) /\ ys.length<=i) /\
     (∀i x ys M,xs[i]? =some x ->I i ys M -> ∀N:List W ->Mp ->Prop,(∀ys M,I (i+1) ys M ->N ys M) ->g x (eP own fr ρ) M fun ρ2 M2=>c ρ2 M2 fun b M3=>cO b (el ρ2 M3 fun y M4=>M4 p=some (.lst ys) /\ N (ys++ [y]) (um M4 p (.lst (ys++ [y])))) (N ys M3)) /\
     ∀ys M,I xs.length ys M ->q (wr p) M):lD xs keep own fr g c el ρ M1 q:=by
 refine⟨hz,fun p hp=> ?_⟩
 obtain⟨I,h0,h1,h2,h3⟩:=h p hp
 exact⟨I,h0,h1,fun i x ys M hx hI=>h2 i x ys M hx hI _ fun _ _ z=>z,h3⟩
end WL
namespace WQ
open PySem L2 WL WP
def vZ (p:Int)(l:List Int):Prop:=(∀x∈l,0<=x /\ x<p) /\ ∀x,l.getLast? =some x ->x≠0
def tL (row:List Int)(k:Nat)(x:Int):List Int:=row.set k (row.getD k 0+x)
def putK (row:List Int)(o:Nat)(l:List Int)(n:Nat):List Int:=(List.range n).foldl (fun r i=>tL r (o+i) (l.getD i 0)) row
def mulIn (row:List Int)(k:Nat)(x:Int)(b:List Int):Nat ->List Int
 | 0=>row
 | j+1=>tL (mulIn row k x b j) (k+j) (x*b.getD j 0)
def pw (p s:Int):Nat ->Int
 | 0=>1
 | n+1=>pw p s n*s % p
def rN:WSp:=fun xs M q=> ∃ (p s:Int),xs= [wi p,wi s] /\ (p=2 \/ p=3 \/ p=5 \/ p=7) /\ 0<s /\ s<p /\ ∀r,0<r ->r<p ->r*s % p=1 ->q (wi r) M
theorem wQ: ∀ (p s:Int),(p=2 \/ p=3 \/ p=5 \/ p=7) ->0<s ->s<p ->0<pw p s (p - 2).toNat /\ pw p s (p - 2).toNat<p /\ pw p s (p - 2).toNat*s % p=1:=by
 intro p s hp h0 h1
 have hs:s=1 \/ s=2 \/ s=3 \/ s=4 \/ s=5 \/ s=6:=by lia
 rcases hp with rfl | rfl | rfl | rfl<;>rcases hs with rfl | rfl | rfl | rfl | rfl | rfl<;>first | decide | lia
end WQ
namespace WL
open PySem L2 PySem.Spec PyProof.Rows
abbrev WX:=Addr ->Mp ->Prop
section
variable {K:PySem.W.Frag}
def up (e:WX):WX:=fun C M'=> ∃M0,Sm M0 M' /\ e C M0
end
end WL
namespace L2
open PySem PySem.Spec PyProof.Rows
def Keeps (S:Nat ->Prop)(g:TG):Prop:= ∀ (σ:St) (v:V) (H:Hp) (Q:St ->Hp ->Prop),g v σ H Q ->g v σ H fun σ2 H2=>(σ2.length=σ.length /\ ∀i,¬S i ->σ2[i]? =σ[i]?) /\ Q σ2 H2
theorem lh {S:Nat ->Prop}{n:Nat}(h:S n):Keeps S (fw n):=by
 intro σ v H Q q
 refine⟨⟨by simp,fun i hi=> ?_⟩,q⟩
 rw[List.getElem?_set_ne]
 intro e;subst e;exact hi h
theorem ox {own:Nat}{fr:List Nat}{σ:St}{i:Nat}{v:V}(h:(dv own fr σ)[i]? =some (some v)):own<=i:=by
 unfold dv at h
 rcases Nat.lt_or_ge i own with c | c
 · rw[List.getElem?_append_left (by simpa using c),List.getElem?_replicate,if_pos c] at h
   cases h
 · exact c
def inW (wi2:TI)(g2:TG)(tc2:TT)(te:TE)(σ2:St)(p:Addr)(H4:Hp)(N:List V ->Hp ->Prop):Prop:=
 wi2 σ2 H4 fun J2 H5=> ∃Z:Nat ->Nat ->List V ->Hp ->Prop,(∃m zs,Z 0 m zs H5) /\ ∀j k zs H6,Z j k zs H6 ->H6 p=some (.lst zs) /\
   ((J2.stop j H6 /\ N zs H6) \/ (J2.go j H6 /\ zs.length<sizeLine /\ ∀y H7,J2.yld j H6 y H7 ->g2 y σ2 H7 fun σ3 H8=>tc2 σ3 H8 fun c H9=>
     if c=true then te σ3 H9 fun z H10=> ∃ws,H10 p=some (.lst ws) /\ ws.length<sizeLine /\ ∃k',k'<k /\ Z (j+1) k' (ws++ [z]) (upd H10 p (.lst (ws++ [z]))) else ∃ws k',k'<k /\ Z (j+1) k' ws H9))
def tw (J:It)(own:Nat)(fr:List Nat)(g:TG)(tc:TT)(wi2:TI)(g2:TG)(tc2:TT)(te:TE)(σ:St)(p:Addr)(H1:Hp)(Q:VK):Prop:=
 ∃ W :Nat ->Nat ->List V ->Hp ->Prop,(∃m,W 0 m [] (upd H1 p (.lst []))) /\ ∀i m ys H',W i m ys H' ->H' p=some (.lst ys) /\
   ((J.stop i H' /\ Q (.ref p) H') \/ (J.go i H' /\ ∀x H2,J.yld i H' x H2 ->g x (dv own fr σ) H2 fun σ2 H3=>tc σ2 H3 fun b H4=>
     if b=true then inW wi2 g2 tc2 te σ2 p H4 fun zs H5=> ∃m',m'<m /\ W (i+1) m' zs H5 else ∃zs m',m'<m /\ W (i+1) m' zs H4))
def qD (wi:TI)(own:Nat)(fr:List Nat)(g:TG)(tc:TT)(wi2:TI)(g2:TG)(tc2:TT)(te:TE):TE:=fun σ H Q=>wi σ H fun J H1=> ∀p,H1 p=none ->tw J own fr g tc wi2 g2 tc2 te σ p H1 Q
section
variable {prog:Program}{w:World}{A:Around}{R:Result ->Shared ->Prop}{s:Shared}
abbrev lc2 (elt tg iter:Expr)(ifs:List Expr)(tg2 iter2:Expr)(ifs2:List Expr)(scope:Scope)(pos:Pos):Expr:= .ListComp elt [⟨tg,iter,ifs,0⟩,⟨tg2,iter2,ifs2,0⟩] scope pos
theorem ug (elt tg iter:Expr)(ifs:List Expr)(tg2 iter2:Expr)(ifs2:List Expr)(scope:Scope)(pos:Pos)(it acc:Value)(env:Env):
   compTurn (lc2 elt tg iter ifs tg2 iter2 ifs2 scope pos) 0 it acc env=(do
     standAt iter.pos
     let r <- pyNext it
     match r with
     | none=>pure (.done .next)
     | some v=>do
       letOwnedTupleGo tg it v
       assign tg env v
       let ok <- forIn ifs true fun c r=>if r=true then do let ok <- isTrue c env (eval c env);pure (ForInStep.yield ok) else pure (ForInStep.yield r)
       if ok=true then do
         let x <- eval iter2 env
         standAt iter2.pos
         let x <- foldedSetIterable iter2 env x
         let i2 <- holding [x] (pyIter x)
         let _ <- runOwn (.compStart (lc2 elt tg iter ifs tg2 iter2 ifs2 scope pos) 1 i2 acc env) env
         again (.compLoop (lc2 elt tg iter ifs tg2 iter2 ifs2 scope pos) 0 it acc env)
       else again (.compLoop (lc2 elt tg iter ifs tg2 iter2 ifs2 scope pos) 0 it acc env)):=by rfl
theorem uf (elt tg iter:Expr)(ifs:List Expr)(tg2 iter2:Expr)(ifs2:List Expr)(scope:Scope)(pos:Pos)(it acc:Value)(env:Env):
   compTurn (lc2 elt tg iter ifs tg2 iter2 ifs2 scope pos) 1 it acc env=(do
     standAt iter2.pos
     let r <- pyNext it
     match r with
     | none=>pure (.done .next)
     | some v=>do
       letOwnedTupleGo tg2 it v
       assign tg2 env v
       let ok <- forIn ifs2 true fun c r=>if r=true then do let ok <- isTrue c env (eval c env);pure (ForInStep.yield ok) else pure (ForInStep.yield r)
       if ok=true then do
         ((do let _ <- call (.builtin "list.append") [acc, <- eval elt env]):Sem Unit)
         again (.compLoop (lc2 elt tg iter ifs tg2 iter2 ifs2 scope pos) 1 it acc env)
       else again (.compLoop (lc2 elt tg iter ifs tg2 iter2 ifs2 scope pos) 1 it acc env)):=by rfl
theorem qI {elt tg iter:Expr}{ifs:List Expr}{tg2 iter2:Expr}{ifs2:List Expr}{scope:Scope}{pos:Pos}{it acc:Value}{env:Env}
   (h0:codeAny (model prog w) A (.compLoop (lc2 elt tg iter ifs tg2 iter2 ifs2 scope pos) 1 it acc env) R s)
   (h:wpAny (model prog w) A (pyIter it) (fun it' s'=>codeAny (model prog w) A (.compLoop (lc2 elt tg iter ifs tg2 iter2 ifs2 scope pos) 1 it' acc env) R s')
     (notedBy (model prog w) A env fun x s'=>R (.error x) s') s):
   codeAny (model prog w) A (.compStart (lc2 elt tg iter ifs tg2 iter2 ifs2 scope pos) 1 it acc env) R s:=by
 refine codeAny_of_tree ?_
 show wpAny _ _ ((compStart (lc2 elt tg iter ifs tg2 iter2 ifs2 scope pos) 1 it acc env).onRaise (fun x=>do noteFrame x env;standAt theWindowsPlace)) _ _ s
 refine wpAny_notedAt ?_
 unfold compStart
 show wpAny _ _ (ask >>=_) _ _ s
 refine wpAny_bind (wpAny_askSetting (wpAny_ite ?_))
 split
 · first
     | exact wpAny_bind (wpAny_pure (wpAny_pure (And.intro rfl h0)))
     | exact wpAny_pure (And.intro rfl h0)
 · first
     | exact wpAny_bind (wpAny_rule (wpAny_bind (wpAny_standAt (wpAny_bind (wpAny_mono h (fun it' s' h'=>wpAny_pure (And.intro rfl h')) fun _ _ x=>x)))))
     | (refine wpAny_bind (wpAny_rule ?_);show wpAny _ _ (standAt iter2.pos >>=_) _ _ s;exact wpAny_bind (wpAny_standAt (wpAny_bind (wpAny_mono h (fun it' s' h'=>wpAny_pure (And.intro rfl h')) fun _ _ x=>x))))
theorem uM {elt tg iter:Expr}{ifs:List Expr}{tg2 iter2:Expr}{ifs2:List Expr}{scope:Scope}{pos:Pos}{it acc:Value}{env:Env}(I:Nat ->Shared ->Prop)
   (turn : ∀n s,I n s ->wpAny (model prog w) A (pyNext it) (fun r s₁=>match r with
     | none=>R (.ok .next) s₁
     | some v=>wpAny (model prog w) A (letOwnedTupleGo tg2 it v) (fun _ s₀=>wpAny (model prog w) A (assign tg2 env v) (fun _ s₂=>
         wpAny (model prog w) A (forIn ifs2 true fun c r=>if r=true then do let ok <- isTrue c env (eval c env);pure (ForInStep.yield ok) else pure (ForInStep.yield r)) (fun ok s₃=>if ok=true then wpAny (model prog w) A (eval elt env) (fun x s₄=>
           wpAny (model prog w) A (call (.builtin "list.append") [acc,x]) (fun _ s₅=> ∃m,m<n /\ I m s₅) (fun _ _=>False) s₄) (fun _ _=>False) s₃
           else ∃m,m<n /\ I m s₃) (fun _ _=>False) s₂)
         (fun _ _=>False) s₀) (fun _ _=>False) s₁) (fun _ _=>False) s)
   (n:Nat) (h:I n s):codeAny (model prog w) A (.compLoop (lc2 elt tg iter ifs tg2 iter2 ifs2 scope pos) 1 it acc env) R s:=by
 refine codeAny_loop rfl I (fun n s hI=> ?_) n h
 show wpAny _ A ((compTurn (lc2 elt tg iter ifs tg2 iter2 ifs2 scope pos) 1 it acc env).onRaise (fun x=>do noteFrame x env;theTreesLotGoes x)) _ _ s
 refine wpAny_noted ?_
 rw[uf]
 refine wpAny_bind (wpAny_standAt (wpAny_bind (wpAny_mono (turn n s hI) (fun r s₁ h₁=> ?_) fun _ _ h'=>h'.elim)))
 cases r with
 | none=>exact wpAny_pure h₁
 | some v=>
   refine wpAny_bind (wpAny_mono h₁ (fun _ s₀ h₀'=> ?_) fun _ _ h'=>h'.elim)
   refine wpAny_bind (wpAny_mono h₀' (fun _ s₂ h₂=> ?_) fun _ _ h'=>h'.elim)
   refine wpAny_bind (wpAny_mono h₂ (fun okb s₃ h₃=> ?_) fun _ _ h'=>h'.elim)
   cases okb with
   | false=>exact wpAny_pure ⟨rfl,h₃⟩
   | true=>exact wpAny_bind (wpAny_bind (wpAny_mono h₃ (fun x s₄ h₄=>wpAny_bind (wpAny_mono h₄ (fun _ s₅ h₅=>wpAny_pure (wpAny_pure ⟨rfl,h₅⟩)) fun _ _ h'=>h'.elim)) fun _ _ h'=>h'.elim))
theorem uN {elt tg iter:Expr}{ifs:List Expr}{tg2 iter2:Expr}{ifs2:List Expr}{scope:Scope}{pos:Pos}{it acc:Value}{env:Env}(I:Nat ->Shared ->Prop)(hs: ∀x,foldedSetIterable iter2 env x=pure x)
   (turn : ∀n s,I n s ->wpAny (model prog w) A (pyNext it) (fun r s₁=>match r with
     | none=>R (.ok .next) s₁
     | some v=>wpAny (model prog w) A (letOwnedTupleGo tg it v) (fun _ s₀=>wpAny (model prog w) A (assign tg env v) (fun _ s₂=>
         wpAny (model prog w) A (forIn ifs true fun c r=>if r=true then do let ok <- isTrue c env (eval c env);pure (ForInStep.yield ok) else pure (ForInStep.yield r)) (fun ok s₃=>if ok=true then wpAny (model prog w) A (eval iter2 env) (fun x s₄=>
           wpAny (model prog w) A (pyIter x) (fun i2 s₅=>codeAny (model prog w) (A.mark none) (.compStart (lc2 elt tg iter ifs tg2 iter2 ifs2 scope pos) 1 i2 acc env) (fun r s₆=>match r with | .ok _=> ∃m,m<n /\ I m s₆ | .error _=>False) s₅) (fun _ _=>False) s₄) (fun _ _=>False) s₃
           else ∃m,m<n /\ I m s₃) (fun _ _=>False) s₂)
         (fun _ _=>False) s₀) (fun _ _=>False) s₁) (fun _ _=>False) s)
   (n:Nat) (h:I n s):codeAny (model prog w) A (.compLoop (lc2 elt tg iter ifs tg2 iter2 ifs2 scope pos) 0 it acc env) R s:=by
 refine codeAny_loop rfl I (fun n s hI=> ?_) n h
 show wpAny _ A ((compTurn (lc2 elt tg iter ifs tg2 iter2 ifs2 scope pos) 0 it acc env).onRaise (fun x=>do noteFrame x env;theTreesLotGoes x)) _ _ s
 refine wpAny_noted ?_
 rw[ug]
 refine wpAny_bind (wpAny_standAt (wpAny_bind (wpAny_mono (turn n s hI) (fun r s₁ h₁=> ?_) fun _ _ h'=>h'.elim)))
 cases r with
 | none=>exact wpAny_pure h₁
 | some v=>
   refine wpAny_bind (wpAny_mono h₁ (fun _ s₀ h₀'=> ?_) fun _ _ h'=>h'.elim)
   refine wpAny_bind (wpAny_mono h₀' (fun _ s₂ h₂=> ?_) fun _ _ h'=>h'.elim)
   refine wpAny_bind (wpAny_mono h₂ (fun okb s₃ h₃=> ?_) fun _ _ h'=>h'.elim)
   cases okb with
   | false=>exact wpAny_pure ⟨rfl,h₃⟩
   | true=>
     refine wpAny_bind (wpAny_mono h₃ (fun x s₄ h₄=> ?_) fun _ _ h'=>h'.elim)
     refine wpAny_bind (wpAny_standAt ?_)
     rw[hs]
     refine wpAny_bind (wpAny_pure (wpAny_bind (wpAny_holding (wpAny_mono h₄ (fun i2 s₅ h₅=> ?_) fun _ _ h'=>h'.elim))))
     refine wpAny_bind (wpAny_runOwn ?_)
     refine codeAny_mono h₅ fun r s' z=> ?_
     cases r with
     | ok f=>exact wpAny_pure ⟨rfl,z⟩
     | error e=>exact z.elim
end
section
variable {X:Cx}{pins:List (Addr×Obj)}{σ:St}{H:Hp}{s s3:Shared}
theorem lB {tg iter elt:Expr}{ifs:List Expr}{tg2 iter2:Expr}{ifs2:List Expr}{pos:Pos}{own N':List Str}{fr:List Nat}{n1:Nat}{scope:Scope}{cl:List (Str×Addr)}{fp:List Addr}{it:Addr}{tn:Nat ->Heap ->Prop}{J:It}{g:TG}{tc:TT}{wi2:TI}{g2:TG}{tc2:TT}{te:TE}{Q:VK}
   {E:Value ->Shared ->Prop} {RR:Value ->Addr ->Result ->Shared ->Prop}
   (hcalm:X.calm=true) (S:CScope X own fr N' scope) (hg: ∀s3 H3,PG (au X N' scope cl fp s3 H3) tg g) (hn1:n1<=own.length) (hw:Keeps (fun i=>i<n1) g) (hc: ∀s3 H3,PTs (au X N' scope cl fp s3 H3) ifs tc)
   (hi2: ∀s3 H3,PI (au X N' scope cl fp s3 H3) tg2 iter2 wi2) (hg2: ∀s3 H3,PG (au X N' scope cl fp s3 H3) tg2 g2) (hw2:Keeps (fun i=>n1<=i /\ i<own.length) g2) (hc2: ∀s3 H3,PTs (au X N' scope cl fp s3 H3) ifs2 tc2)
   (he: ∀s3 H3,PE (au X N' scope cl fp s3 H3) elt te) (hs2: ∀s3 H3 x,foldedSetIterable iter2 (au X N' scope cl fp s3 H3).env x=pure x)
   (hcl: ∀x c,cl.lookup x=some c ->X.env.cells.lookup x=some c) (hcl2: ∀y∈scope.names,y.2= .free ->(cl.lookup y.1).isSome=true)
   (I:Inv X pins σ H s) (T:Turn X.prog X.w X.K tg J fp it tn) (st:tn 0 s.heap) (hfp: ∀b∈fp,di X pins H b) (h: ∀p,H p=none ->tw J own.length fr g tc wi2 g2 tc2 te σ p H Q)
   (fin: ∀ (s3:Shared) (H3:Hp),Inv X pins σ H3 s3 ->(∀b∈fp,di X pins H3 b) -> ∀ (D:Addr) (σ':St) (H':Hp) (s':Shared) (t:Nat),D<s3.heap.objs.size ->Inv (au X N' scope cl fp s3 H3) [] σ' H' s' ->Q (.ref D) H' ->RR (.ref D) s3.heap.objs.size (.ok .next) s'):
   wpAny (model X.prog X.w) X.A (newList []) (fun acc s₃=>wpAny (model X.prog X.w) X.A (newFunctionEnv scope X.env.globals cl [] X.env.qual none .none (some X.env)) (fun cenv s₄=>
     codeAny (model X.prog X.w) X.A (.compStart (lc2 elt tg iter ifs tg2 iter2 ifs2 scope pos) 0 (.ref it) acc {cenv with scope:=relabel scope X.env}) (RR acc cenv.locals) s₄) E s₃) E s:=by
 refine wpAny_newObj_type ?_
 have hf:H s.heap.objs.size=none:=I.hok.fresh (Nat.le_refl _)
 obtain⟨W,⟨m0,w0⟩,turn⟩:=h _ hf
 generalize e3:({s with heap:=s.heap.push {cls:= .type "list",dict:=none,data:= .seq ([]:List Value).toArray}}:Shared)=s3
 have sz3:s3.heap.objs.size=s.heap.objs.size+1:=by rw[<- e3];exact Heap.size_push ..
 have up3: ∀b o,s.heap.get? b=some o ->s3.heap.get? b=some o:=fun b o e=>by rw[<- e3];exact Heap.get?_push_of_some _ e
 have I3:Inv X pins σ (upd H s.heap.objs.size (.lst [])) s3:=by
   rw[<- e3]
   exact I.laid (t':=s.toks) (fun b u e=>Heap.get?_push_of_some _ e) (Nat.le_refl _) ⟨Nat.zero_le _,[],0, .nil,Heap.get?_push_size _ rfl⟩
 have ftn: ∀b∈fp,b<s.heap.objs.size:=fun b hb=>by
   obtain⟨o,e,_⟩:=T.obj 0 _ st b hb
   exact Heap.lt_size e
 have hfp3: ∀b∈fp,di X pins (upd H s.heap.objs.size (.lst [])) b:=fun b hb=>⟨by rw[ar (Nat.ne_of_lt (ftn b hb))];exact(hfp b hb).1,(hfp b hb).2⟩
 refine wpAny_newFunctionEnv S.nocell (by intro y hy;simp at hy) (fun h₁ hns₁ hsb₁=> ?_) S.kind
 have old: ∀b o,s3.heap.get? b=some o ->h₁.get? b=some o:=fun b o e=>hsb₁.extBut b o (Nat.ne_of_lt (Heap.lt_size e)) (Heap.get?_push_of_some _ e)
 have Ic:=lp (t:=s3.toks+([]:List (Str×Value)).length) S I3 hcl hcl2 hfp3 (fun b hb=>by rw[sz3];exact Nat.lt_succ_of_lt (ftn b hb)) hns₁ old
 have st1:tn 0 h₁:=T.keep 0 _ _ st fun b hb o e=>old b o (up3 b o e)
 have stat: ∀ {H':Hp},(∀b∈fp,H' b=none) -> ∀b∈fp,di (au X N' scope cl fp s3 (upd H s.heap.objs.size (.lst []))) [] H' b:=fun hn b hb=>by
   refine⟨hn b hb,?_,?_, .inl hb,fun x c e=>(hfp b hb).2.2.2.2.1 x c (hcl x c e),fun p hp=>absurd (show p∈([]:List (Addr×Obj)) from hp) (by simp)⟩
   · show b≠s3.heap.objs.size
     rw[sz3];exact Nat.ne_of_lt (Nat.lt_succ_of_lt (ftn b hb))
   · exact Ic.ok.exfs b hb
 have loop : codeAny (model X.prog X.w) X.A (.compLoop (lc2 elt tg iter ifs tg2 iter2 ifs2 scope pos) 0 (.ref it) (.ref s.heap.objs.size) (compEnvC scope cl s3.heap.objs.size X.env)) (RR (.ref s.heap.objs.size) s3.heap.objs.size) {s3 with heap:=h₁,toks:=s3.toks+([]:List (Str×Value)).length}:=by
   refine uN (fun n s'=> ∃i ys H',Inv (au X N' scope cl fp s3 (upd H s.heap.objs.size (.lst []))) [] (dv own.length fr σ) H' s' /\ tn i s'.heap /\ (∀b∈fp,H' b=none) /\ W i n ys H') (hs2 s3 H) ?_ m0
     ⟨0,[],_,Ic,st1,fun b hb=>(hfp3 b hb).1,w0⟩
   rintro n s4 ⟨i,ys,H4,I4,st4,fr4,w4⟩
   obtain⟨hacc,alt⟩:=turn i n ys H4 w4
   rcases alt with⟨stop,q⟩ | ⟨go,step⟩
   · refine thn (T.done (au X N' scope cl fp s3 (upd H s.heap.objs.size (.lst []))) rfl rfl rfl hcalm i [] s4 _ H4 (fun _ _=>False) I4 (stat fr4) st4 stop) fun r s5 ⟨hr,I5⟩=> ?_
     subst hr
     exact fin s3 _ I3 hfp3 _ _ H4 s5 s5.toks (by rw[sz3];exact Nat.lt_succ_self _) I5 q
   · refine thn (T.item (au X N' scope cl fp s3 (upd H s.heap.objs.size (.lst []))) rfl rfl rfl hcalm i [] s4 _ H4 (fun _ _=>False) I4 (stat fr4) st4 go) fun r s5 ⟨u,hr,h5⟩=> ?_
     subst hr
     refine thn h5 fun _ s6 ⟨x,H6,I6,r6,y6,st6,fr6⟩=> ?_
     have I6':=I6.pinned (stat fr6) (T.obj _ _ st6)
     have stp:=hw _ x H6 _ (step x H6 y6)
     refine thn (hg s3 _ _ s6 _ H6 x u _ I6' r6 stp) fun _ s7 ⟨σ7,H7,I7,wk,q7⟩=> ?_
     have wk1: ∀ (j:Nat) v,(dv own.length fr σ)[j]? =some (some v) ->σ7[j]? =some (some v):=fun j v e=>by
       rw[wk.2 j (by have:=ox e;lia)];exact e
     have wk2: ∀j,n1<=j ->j<own.length -> ∀v,σ7[j]? ≠some (some v):=fun j h1 h2 v e=>by
       rw[wk.2 j (by lia)] at e
       have:=ox e;lia
     have again: ∀ {σ9:St} {H9:Hp} {s9:Shared} {ys':List V},σ9.length=σ7.length ->(∀ (j:Nat) v,σ7[j]? =some (some v) ->σ9[j]? =some (some v)) ->Inv (au X N' scope cl fp s3 (upd H s.heap.objs.size (.lst []))) ([]++cA fp s6.heap) σ9 H9 s9 ->(∃m',m'<n /\ W (i+1) m' ys' H9) ->
         ∃m,m<n /\ ∃i ys H',Inv (au X N' scope cl fp s3 (upd H s.heap.objs.size (.lst []))) [] (dv own.length fr σ) H' s9 /\ tn i s9.heap /\ (∀b∈fp,H' b=none) /\ W i m ys H':=fun {σ9 H9 s9 ys'} hl9 hv9 I9 ⟨m',hm,w9⟩=>by
       refine⟨m',hm,i+1,ys',H9,(I9.unpinned).weak ?_ fun j v e=>hv9 j v (wk1 j v e),T.keep _ _ _ st6 fun b hb o e=>(I9.pin (b,o) (List.mem_append_right _ (List.mem_append_right _ (br hb e)))).1,fun b hb=> ?_,w9⟩
       · rw[hl9,wk.1]
       · obtain⟨o,e,d⟩:=T.obj _ _ st6 b hb
         exact(I9.pin (b,o) (List.mem_append_right _ (List.mem_append_right _ (br hb e)))).2.1
     refine thn (hc s3 _ _ s7 σ7 H7 _ I7 q7) fun ok s8 ⟨H8,I8,q8⟩=> ?_
     cases ok with
     | false=>
       simp only[Bool.false_eq_true,if_false] at q8 ⊢
       obtain⟨zs,q8⟩:=q8
       exact again rfl (fun _ _ e=>e) I8 q8
     | true =>
       simp only[if_true] at q8 ⊢
       refine thn (hi2 s3 _ _ s8 σ7 H8 _ I8 q8) fun v2 s9 h9=>thn h9 fun itv s10 h10=> ?_
       obtain⟨it2,fp2,tn2,J2,H10,e10,I10,T2,st10,f10,Z,⟨mz,z0,hz0⟩,turn2⟩:=h10
       subst e10
       have stat2: ∀ {H':Hp},(∀b∈fp2,H' b=none) -> ∀b∈fp2,di (au X N' scope cl fp s3 (upd H s.heap.objs.size (.lst []))) ([]++cA fp s6.heap) H' b:=fun hn b hb=>⟨hn b hb,(f10 b hb).2⟩
       have loop1:codeAny (model X.prog X.w) X.A (.compLoop (lc2 elt tg iter ifs tg2 iter2 ifs2 scope pos) 1 (.ref it2) (.ref s.heap.objs.size) (compEnvC scope cl s3.heap.objs.size X.env)) (fun r s₆=>match r with
           | .ok _=> ∃m,m<n /\ ∃i ys H',Inv (au X N' scope cl fp s3 (upd H s.heap.objs.size (.lst []))) [] (dv own.length fr σ) H' s₆ /\ tn i s₆.heap /\ (∀b∈fp,H' b=none) /\ W i m ys H'
           | .error _=>False) s10:=by
         refine uM (fun k s'=> ∃j zs H',Inv (au X N' scope cl fp s3 (upd H s.heap.objs.size (.lst []))) ([]++cA fp s6.heap) σ7 H' s' /\ tn2 j s'.heap /\ (∀b∈fp2,H' b=none) /\ Z j k zs H') ?_ mz ⟨0,z0,H10,I10,st10,fun b hb=>(f10 b hb).1,hz0⟩
         rintro k s11 ⟨j,zs,H11,I11,st11,fr11,z11⟩
         obtain⟨hp11,alt2⟩:=turn2 j k zs H11 z11
         rcases alt2 with⟨stop2,qN⟩ | ⟨go2,hsz2,step2⟩
         · refine thn (T2.done (au X N' scope cl fp s3 (upd H s.heap.objs.size (.lst []))) rfl rfl rfl hcalm j _ s11 _ H11 (fun _ _=>False) I11 (stat2 fr11) st11 stop2) fun r s12 ⟨hr,I12⟩=> ?_
           subst hr
           exact again rfl (fun _ _ e=>e) I12 qN
         · refine thn (T2.item (au X N' scope cl fp s3 (upd H s.heap.objs.size (.lst []))) rfl rfl rfl hcalm j _ s11 _ H11 (fun _ _=>False) I11 (stat2 fr11) st11 go2) fun r s12 ⟨u2,hr,h12⟩=> ?_
           subst hr
           refine thn h12 fun _ s13 ⟨x2,H13,I13,r13,y13,st13,fr13⟩=> ?_
           have I13':=I13.pinned (stat2 fr13) (T2.obj _ _ st13)
           have stp2:=hw2 _ x2 H13 _ (step2 x2 H13 y13)
           refine thn (hg2 s3 _ _ s13 _ H13 x2 u2 _ I13' r13 stp2) fun _ s14 ⟨σ14,H14,I14,wk14,q14⟩=> ?_
           have back2: ∀ {H9:Hp} {s9:Shared} {ws:List V},Inv (au X N' scope cl fp s3 (upd H s.heap.objs.size (.lst []))) (([]++cA fp s6.heap)++cA fp2 s13.heap) σ14 H9 s9 ->(∃k',k'<k /\ Z (j+1) k' ws H9) ->
               ∃m,m<k /\ ∃j zs H',Inv (au X N' scope cl fp s3 (upd H s.heap.objs.size (.lst []))) ([]++cA fp s6.heap) σ7 H' s9 /\ tn2 j s9.heap /\ (∀b∈fp2,H' b=none) /\ Z j m zs H':=fun {H9 s9 ws} I9 ⟨k',hk',z9⟩=>by
             refine⟨k',hk',j+1,ws,H9,(I9.unpinned).weak wk14.1.symm fun a v e=> ?_,T2.keep _ _ _ st13 fun b hb o e=>(I9.pin (b,o) (List.mem_append_right _ (List.mem_append_right _ (br hb e)))).1,fun b hb=> ?_,z9⟩
             · rw[wk14.2 a fun hS=>wk2 a hS.1 hS.2 v e];exact e
             · obtain⟨o,e,d⟩:=T2.obj _ _ st13 b hb
               exact(I9.pin (b,o) (List.mem_append_right _ (List.mem_append_right _ (br hb e)))).2.1
           refine thn (hc2 s3 _ _ s14 σ14 H14 _ I14 q14) fun ok2 s15 ⟨H15,I15,q15⟩=> ?_
           cases ok2 with
           | false=>
             simp only[Bool.false_eq_true,if_false] at q15 ⊢
             obtain⟨ws,q15⟩:=q15
             exact back2 I15 q15
           | true=>
             simp only[if_true] at q15 ⊢
             refine thn (he s3 _ _ s15 σ14 H15 _ I15 q15) fun y s16 ⟨yv,H16,I16,ry,ws,hp16,hz16,q16⟩=> ?_
             refine thn (dU _ s16 σ14 H16 (.ref s.heap.objs.size) [yv] (.ref s.heap.objs.size) [y] (fun v H'=>H'=upd H16 s.heap.objs.size (.lst (ws++ [yv]))) I16 rfl (.cons ry .nil) ⟨_,ws,yv,rfl,rfl,hp16,hz16,rfl⟩) fun v s17 ⟨_,H17,I17,_,e17⟩=> ?_
             subst e17
             exact back2 I17 q16
       show codeAny _ X.A _ _ s10
       exact qI loop1 (T2.self _ 0 _ _ _ st10 loop1)
 exact codeAny_compStart_list loop (T.self _ 0 _ _ _ st1 loop)
end
section
variable {X:Cx}
theorem rJ {tg iter elt:Expr}{ifs:List Expr}{tg2 iter2:Expr}{ifs2:List Expr}{pos:Pos}{own N':List Str}{fr:List Nat}{n1:Nat}{scope:Scope}{wi:TI}{g:TG}{tc:TT}{wi2:TI}{g2:TG}{tc2:TT}{te:TE}(hcalm:X.calm=true)(S:CScope X own fr N' scope)(hi:PI X tg iter wi)
   (hg: ∀cl fp s3 H3,PG (au X N' scope cl fp s3 H3) tg g) (hn1:n1<=own.length) (hw:Keeps (fun i=>i<n1) g) (hc: ∀cl fp s3 H3,PTs (au X N' scope cl fp s3 H3) ifs tc)
   (hi2: ∀cl fp s3 H3,PI (au X N' scope cl fp s3 H3) tg2 iter2 wi2) (hg2: ∀cl fp s3 H3,PG (au X N' scope cl fp s3 H3) tg2 g2) (hw2:Keeps (fun i=>n1<=i /\ i<own.length) g2) (hc2: ∀cl fp s3 H3,PTs (au X N' scope cl fp s3 H3) ifs2 tc2)
   (he: ∀cl fp s3 H3,PE (au X N' scope cl fp s3 H3) elt te)
   (hs: ∀x,foldedSetIterable iter X.env x=pure x:=by intro _;rfl) (hs2: ∀cl fp s3 H3 x,foldedSetIterable iter2 (au X N' scope cl fp s3 H3).env x=pure x:=by intro _ _ _ _ _;rfl):PE X (.ListComp elt [⟨tg,iter,ifs,0⟩,⟨tg2,iter2,ifs2,0⟩] scope pos) (qD wi own.length fr g tc wi2 g2 tc2 te):=by
 intro pins s σ H Q I h
 obtain⟨cl,hclos,hcl,hcl2⟩:=eN (I.ok.cellsOf S)
 rw[eval_ListComp]
 refine wpAny_comprehension_free (use:=none) rfl hs hclos S.kind S.loc (thn (hi pins s σ H _ I h) fun v s1 h1=>thn h1 fun itv s2 h2=> ?_)
 obtain⟨it,fp,tn,J,H2,e,I2,T,st2,f2,h2⟩:=h2
 subst e
 refine lB (RR:=fun acc C=>compPost (model X.prog X.w) X.A X.xe none (EP X pins σ Q) acc C) hcalm S (hg cl fp) hn1 hw (hc cl fp) (hi2 cl fp) (hg2 cl fp) hw2 (hc2 cl fp) (he cl fp) (hs2 cl fp) hcl hcl2 I2 T st2 f2 h2 ?_
 intro s3 H3 I3 f3 D σ' H' s' t hD Ic q
 obtain⟨m,hn,_⟩:=Ic.loc
 refine⟨m,hn,fun h' hsb=>⟨.ref D,H',?_,rfl,q⟩⟩
 exact fV I3 rfl (comp_back I3 f3 Ic) Ic.free hsb
end
end L2
namespace WL
open PySem L2
section
variable {K:PySem.W.Frag}
def in2K (xs2:List W)(keep2:Mp ->Prop)(g2:WG)(c2:WT)(el:WE)(ρ2:WSt)(p:Addr)(ys:List W)(M4:Mp)(N:List W ->Mp ->Prop):Prop:=
 ∃ I2:Nat ->List W ->Mp ->Prop,I2 0 ys M4 /\ (∀j zs M,j<=xs2.length ->I2 j zs M ->keep2 M /\ M p=some (.lst zs) /\ zs.length<sizeLine) /\
   (∀j y zs M,xs2[j]? =some y ->I2 j zs M ->g2 y ρ2 M fun ρ3 M5=>c2 ρ3 M5 fun b M6=>if b=true then el ρ3 M6 fun z M7=>M7 p=some (.lst zs) /\ I2 (j+1) (zs++ [z]) (um M7 p (.lst (zs++ [z]))) else I2 (j+1) zs M6) /\
   ∀zs M,I2 xs2.length zs M ->N zs M
def kb (xs:List W)(keep:Mp ->Prop)(own:Nat)(fr:List Nat)(g:WG)(c:WT)(it2:WI)(g2:WG)(c2:WT)(el:WE)(ρ:WSt)(M1:Mp)(q:WK):Prop:= ∀p,M1 p=none -> ∃I:Nat ->List W ->Mp ->Prop,I 0 [] (um M1 p (.lst [])) /\
 (∀i ys M,i<=xs.length ->I i ys M ->keep M /\ M p=some (.lst ys)) /\
 (∀i x ys M,xs[i]? =some x ->I i ys M ->g x (eP own fr ρ) M fun ρ2 M2=>c ρ2 M2 fun b M3=>if b=true then it2 ρ2 M3 fun xs2 keep2 M4=>in2K xs2 keep2 g2 c2 el ρ2 p ys M4 (I (i+1)) else I (i+1) ys M3) /\
 ∀ys M,I xs.length ys M ->q (wr p) M
def qh (it:WI)(own:Nat)(fr:List Nat)(g:WG)(c:WT)(it2:WI)(g2:WG)(c2:WT)(el:WE):WE:=fun ρ M q=>it ρ M fun xs keep M1=>kb xs keep own fr g c it2 g2 c2 el ρ M1 q
theorem wComp2_e {it:WI}{own:Nat}{fr:List Nat}{g:WG}{c:WT}{it2:WI}{g2:WG}{c2:WT}{el:WE}{ρ:WSt}{M:Mp}{q:WK}:qh it own fr g c it2 g2 c2 el ρ M q=it ρ M fun xs keep M1=>kb xs keep own fr g c it2 g2 c2 el ρ M1 q:=rfl
instance {ti:TI}{own:Nat}{fr:List Nat}{g:TG}{tc:TT}{ti2:TI}{g2:TG}{tc2:TT}{te:TE}{it:WI}{w:WG}{c:WT}{it2:WI}{w2:WG}{c2:WT}{el:WE} [ii:II K ti it] [ig:IG K g w] [ic:IT K tc c] [ii2:II K ti2 it2] [ig2:IG K g2 w2] [ic2:IT K tc2 c2] [ie:IE K te el]:
   IE K (qD ti own fr g tc ti2 g2 tc2 te) (qh it own fr w c it2 w2 c2 el) where
 imp := fun ρ M σ H q Q o h k=>ii.imp ρ M σ H _ _ o h fun xs keep J M1 H1 h1 t1 m1 ok=>by
   intro p hp
   obtain⟨I,h0,hk,hs,hd⟩:=h1 p (m1.fresh hp)
   have tp:=L2.bz.ts (ay (o:= .lst []) hp)
   refine⟨fun i m vs H'=>m=xs.length - i /\ i<=xs.length /\ ∃ys M',I i ys M' /\ ao H1 H' /\ MOk K M' H' /\ WRs K H' ys vs /\ H' p=some (.lst vs),⟨_,rfl,Nat.zero_le _,[],_,h0,tp,m1.newL hp WRs.nil,WRs.nil,aw⟩,?_⟩
   rintro i m vs H' ⟨rfl,hi,ys,M',hI,ts,m',rv,hv⟩
   refine⟨hv,?_⟩
   obtain⟨kp,hMp⟩:=hk i ys M' hi hI
   obtain⟨k1,k2,k3⟩:=ok i M' H' ts m' kp
   by_cases hlt:i<xs.length
   · refine .inr ⟨k2 hlt,fun v H2 y=> ?_⟩
     obtain⟨ty,my,x,hx,r⟩:=k3 v H2 hlt y
     replace ts:=ts.trans ty
     have oc:Ok K (eP own fr ρ) M' (dv own fr σ) H2:=⟨(o.env.ts (t1.trans ts)).cap own fr,my⟩
     refine ig.imp x v _ M' _ H2 _ _ oc r (hs i x ys M' hx hI) fun ρ3 M3 σ3 H3 h3 t3 o3=>ic.imp ρ3 M3 σ3 H3 _ _ o3 h3 fun b M4 H4 h4 t4 m4=> ?_
     cases b with
     | true=>
       simp only[if_true] at h4 ⊢
       refine ii2.imp ρ3 M4 σ3 H4 _ _ (o3.mv t4 m4) h4 fun xs2 keep2 J2 M5 H5 h5 t5 m5 ok2=> ?_
       obtain⟨I2,h20,hk2,hs2,hd2⟩:=h5
       have tt5:=ts.trans ((t3.trans t4).trans t5)
       have at5: ∀ {M6:Mp} {H6:Hp} {zs:List W},M6 p=some (.lst zs) ->MOk K M6 H6 -> ∃vs,H6 p=some (.lst vs) /\ WRs K H6 zs vs:=fun h m=>by
         obtain⟨vs,hv,rr⟩:=m p _ h
         exact⟨vs,hv,rr⟩
       obtain⟨vs5,hv5,rr5⟩:=at5 (hk2 0 ys M5 (Nat.zero_le _) h20).2.1 m5
       refine⟨fun j m vs H'=>m=xs2.length - j /\ j<=xs2.length /\ ∃zs M',I2 j zs M' /\ ao H5 H' /\ MOk K M' H' /\ WRs K H' zs vs /\ H' p=some (.lst vs),⟨_,vs5,rfl,Nat.zero_le _,ys,M5,h20,ao.refl _,m5,rr5,hv5⟩,?_⟩
       rintro j m2 vs6 H6 ⟨rfl,hj,zs,M6,hI2,ts6,m6,rv6,hv6⟩
       refine⟨hv6,?_⟩
       obtain⟨kp2,hMp2,hzl⟩:=hk2 j zs M6 hj hI2
       obtain⟨a1,a2,a3⟩:=ok2 j M6 H6 ts6 m6 kp2
       by_cases hlt2:j<xs2.length
       · refine .inr ⟨a2 hlt2,by rw[rv6.length];exact hzl,fun u7 H7 y7=> ?_⟩
         obtain⟨ty7,my7,x7,hx7,r7⟩:=a3 u7 H7 hlt2 y7
         have o7:Ok K ρ3 M6 σ3 H7:=⟨o3.env.ts ((t4.trans t5).trans (ts6.trans ty7)),my7⟩
         refine ig2.imp x7 u7 ρ3 M6 σ3 H7 _ _ o7 r7 (hs2 j x7 zs M6 hx7 hI2) fun ρ8 M8 σ8 H8 h8 t8 o8=>ic2.imp ρ8 M8 σ8 H8 _ _ o8 h8 fun b9 M9 H9 h9 t9 m9=> ?_
         cases b9 with
         | true=>
           simp only[if_true] at h9 ⊢
           refine ie.imp ρ8 M9 σ8 H9 _ _ (o8.mv t9 m9) h9 fun z M10 u H10 ⟨h10,h11⟩ t10 m10 r10=> ?_
           obtain⟨vs10,hv10,rr10⟩:=m10 p _ h10
           have t11:=en (u:= .lst (vs10++ [u])) hv10
           refine⟨vs10,hv10,by rw[rr10.length];exact hzl,_,?_,rfl,hlt2,_,_,h11,((((ts6.trans ty7).trans t8).trans t9).trans t10).trans t11,m10.putL hv10 (rr10.snoc r10),(rr10.snoc r10).ts t11,aw⟩
           lia
         | false=>
           simp only[Bool.false_eq_true,if_false] at h9 ⊢
           obtain⟨vs10,hv10,rr10⟩:=at5 (hk2 (j+1) zs M9 hlt2 h9).2.1 m9
           refine⟨vs10,_,?_,rfl,hlt2,_,_,h9,((ts6.trans ty7).trans t8).trans t9,m9,rr10,hv10⟩
           lia
       · have e':j=xs2.length:=by lia
         subst e'
         refine .inl ⟨a1 rfl,_,?_,rfl,hlt,zs,M6,hd2 zs M6 hI2,tt5.trans ts6,m6,rv6,hv6⟩
         lia
     | false=>
       simp only[Bool.false_eq_true,if_false] at h4 ⊢
       obtain⟨vs5,hv5,rr5⟩:=m4 p _ (hk (i+1) ys M4 hlt h4).2
       refine⟨vs5,_,?_,rfl,hlt,_,_,h4,ts.trans (t3.trans t4),m4,rr5,hv5⟩
       lia
   · have e':i=xs.length:=by lia
     subst e'
     exact .inl ⟨k1 rfl,k _ M' _ H' (hd ys M' hI) (t1.trans ts) m' WR.v⟩
theorem fR {α:Type}{f:α ->W}{l:List α}{i:Nat}{x:W}(h:(l.map f)[i]? =some x): ∃a,l[i]? =some a /\ x=f a:=by
 rw[List.getElem?_map] at h
 cases e:l[i]? with
 | none=>rw[e] at h;cases h
 | some a=>rw[e] at h;cases h;exact⟨a,rfl,rfl⟩
theorem xJ {α β:Type}{l:List α}{fW:α ->W}(inner:α ->List β)(gW:β ->W)(eW:α ->β ->W){keep:Mp ->Prop}{M1:Mp}{own:Nat}{fr:List Nat}{ρ:WSt}{g:WG}{c:WT}{it2:WI}{g2:WG}{c2:WT}{el:WE}{q:WK}
   (hz:(l.map fun a=>(inner a).length).sum<sizeLine) (hkeep: ∀M,Sm M1 M ->keep M)
   (hs: ∀a∈l, ∀M,Sm M1 M -> ∀ (B:WSt ->List W ->(Mp ->Prop) ->Mp ->Prop) (N0:Mp ->Prop),
     (∀ρ2 keep2,(∀M',Sm M1 M' ->keep2 M') ->(∀b∈inner a, ∀M',Sm M1 M' -> ∀N:Option W ->Mp ->Prop,N (some (eW a b)) M' ->g2 (gW b) ρ2 M' fun ρ3 M5=>c2 ρ3 M5 fun b M6=>cO b (el ρ3 M6 fun z M7=>N (some z) M7) (N none M6)) ->B ρ2 ((inner a).map gW) keep2 M) ->
     g (fW a) (eP own fr ρ) M fun ρ2 M2=>c ρ2 M2 fun b M3=>cO b (it2 ρ2 M3 fun xs2 keep2 M4=>B ρ2 xs2 keep2 M4) (N0 M3))
   (hq: ∀p,M1 p=none ->q (wr p) (um M1 p (.lst (l.map fun a=>(inner a).map (eW a)).flatten))):
   kb (l.map fW) keep own fr g c it2 g2 c2 el ρ M1 q:=by
 intro p hp
 have hlen: ∀k:List α,(k.map fun a=>(inner a).map (eW a)).flatten.length=(k.map fun a=>(inner a).length).sum:=fun k=>by
   rw[List.length_flatten,List.map_map]
   congr 1
   apply List.map_congr_left
   intro a _
   simp
 have htake: ∀i:Nat,((l.take i).map fun a=>(inner a).length).sum<=(l.map fun a=>(inner a).length).sum:=fun i=>by
   have e:(l.map fun a=>(inner a).length)=((l.take i).map fun a=>(inner a).length)++((l.drop i).map fun a=>(inner a).length):=by rw[<- List.map_append,List.take_append_drop]
   rw[e,List.sum_append]
   lia
 refine⟨fun i ys M=>M=um M1 p (.lst ys) /\ ys=((l.take i).map fun a=>(inner a).map (eW a)).flatten,⟨rfl,by simp⟩,?_,?_,?_⟩
 · rintro i ys M hi ⟨rfl,rfl⟩
   exact⟨hkeep _ (aF hp),ab⟩
 · rintro i x ys M hx ⟨rfl,rfl⟩
   obtain⟨a,ha,rfl⟩:=fR hx
   have e:l.take (i+1)=l.take i++ [a]:=by rw[List.take_add_one,ha];rfl
   have eF:((l.take (i+1)).map fun a=>(inner a).map (eW a)).flatten=((l.take i).map fun a=>(inner a).map (eW a)).flatten++(inner a).map (eW a):=by rw[e,List.map_append,List.flatten_append];simp
   have eS:((l.take (i+1)).map fun a=>(inner a).length).sum=((l.take i).map fun a=>(inner a).length).sum+(inner a).length:=by rw[e,List.map_append,List.sum_append];simp
   refine hs a (List.mem_of_getElem? ha) _ (aF hp) (fun ρ2 xs2 keep2 M4=>in2K xs2 keep2 g2 c2 el ρ2 p ((l.take i).map fun a=>(inner a).map (eW a)).flatten M4 fun ys M=>M=um M1 p (.lst ys) /\ ys=((l.take (i+1)).map fun a=>(inner a).map (eW a)).flatten) (fun M=>M=um M1 p (.lst ((l.take i).map fun a=>(inner a).map (eW a)).flatten) /\ ((l.take i).map fun a=>(inner a).map (eW a)).flatten=((l.take (i+1)).map fun a=>(inner a).map (eW a)).flatten) ?_
   intro ρ2 keep2 hk2 hs2
   refine⟨fun j zs M=>M=um M1 p (.lst zs) /\ zs=((l.take i).map fun a=>(inner a).map (eW a)).flatten++((inner a).take j).map (eW a),⟨rfl,by simp⟩,?_,?_,?_⟩
   · rintro j zs M hj ⟨rfl,rfl⟩
     refine⟨hk2 _ (aF hp),ab,?_⟩
     rw[List.length_append,hlen,List.length_map,List.length_take]
     have b3:=htake (i+1)
     rw[eS] at b3
     lia
   · rintro j y zs M hy ⟨rfl,rfl⟩
     obtain⟨b,hb,rfl⟩:=fR hy
     have e2:(inner a).take (j+1)=(inner a).take j++ [b]:=by rw[List.take_add_one,hb];rfl
     refine hs2 b (List.mem_of_getElem? hb) _ (aF hp) (fun o M4=>match o with
       | some z=>M4 p=some (.lst (((l.take i).map fun a=>(inner a).map (eW a)).flatten++((inner a).take j).map (eW a))) /\ (um M4 p (.lst (((l.take i).map fun a=>(inner a).map (eW a)).flatten++((inner a).take j).map (eW a)++ [z]))=um M1 p (.lst (((l.take i).map fun a=>(inner a).map (eW a)).flatten++((inner a).take j).map (eW a)++ [z])) /\ ((l.take i).map fun a=>(inner a).map (eW a)).flatten++((inner a).take j).map (eW a)++ [z]=((l.take i).map fun a=>(inner a).map (eW a)).flatten++((inner a).take (j+1)).map (eW a))
       | none=>M4=um M1 p (.lst (((l.take i).map fun a=>(inner a).map (eW a)).flatten++((inner a).take j).map (eW a))) /\ ((l.take i).map fun a=>(inner a).map (eW a)).flatten++((inner a).take j).map (eW a)=((l.take i).map fun a=>(inner a).map (eW a)).flatten++((inner a).take (j+1)).map (eW a)) ?_
     exact⟨ab,mX,by rw[e2,List.map_append];simp⟩
   · rintro zs M ⟨rfl,rfl⟩
     exact⟨rfl,by rw[eF,List.length_map,List.take_length]⟩
 · rintro ys M ⟨rfl,rfl⟩
   rw[List.length_map,List.take_length]
   exact hq p hp
theorem comp_map {α:Type}{l:List α}{fW:α ->W}(pr:α ->Bool)(eW:α ->W){keep:Mp ->Prop}{M1:Mp}{own:Nat}{fr:List Nat}{ρ:WSt}{g:WG}{c:WT}{el:WE}{q:WK}(hz:l.length<=sizeLine)(hkeep: ∀M,Sm M1 M ->keep M)
   (hs: ∀a∈l, ∀ (M:Mp) (N:Option W ->Mp ->Prop),Sm M1 M ->N (if pr a=true then some (eW a) else none) M ->g (fW a) (eP own fr ρ) M fun ρ2 M2=>c ρ2 M2 fun b M3=>cO b (el ρ2 M3 fun y M4=>N (some y) M4) (N none M3))
   (hq: ∀p,M1 p=none ->q (wr p) (um M1 p (.lst ((l.filter pr).map eW)))):lD (l.map fW) keep own fr g c el ρ M1 q:=by
 refine⟨by rw[List.length_map];exact hz,fun p hp=>⟨fun i ys M=>M=um M1 p (.lst ys) /\ ys=((l.take i).filter pr).map eW,⟨rfl,by simp⟩,?_,?_,?_⟩⟩
 · rintro i ys M hi ⟨rfl,rfl⟩
   refine⟨hkeep _ (aF hp),ab,?_⟩
   rw[List.length_map]
   refine Nat.le_trans (List.length_filter_le _ _) ?_
   rw[List.length_take];lia
 · rintro i x ys M hx ⟨rfl,rfl⟩
   obtain⟨a,ha,rfl⟩:=fR hx
   have e:l.take (i+1)=l.take i++ [a]:=by rw[List.take_add_one,ha];rfl
   refine hs a (List.mem_of_getElem? ha) _ (fun o M4=>match o with
     | some y=>M4 p=some (.lst (((l.take i).filter pr).map eW)) /\ (um M4 p (.lst (((l.take i).filter pr).map eW++ [y]))=um M1 p (.lst (((l.take i).filter pr).map eW++ [y])) /\ ((l.take i).filter pr).map eW++ [y]=((l.take (i+1)).filter pr).map eW)
     | none=>M4=um M1 p (.lst (((l.take i).filter pr).map eW)) /\ ((l.take i).filter pr).map eW=((l.take (i+1)).filter pr).map eW) (aF hp) ?_
   cases hf:pr a with
   | false=>
     rw[if_neg (by simp)]
     exact⟨rfl,by rw[e,List.filter_append];simp[hf]⟩
   | true=>
     rw[if_pos rfl]
     exact⟨ab,mX,by rw[e,List.filter_append];simp[hf]⟩
 · rintro ys M ⟨rfl,rfl⟩
   rw[List.length_map,List.take_length]
   exact hq p hp
theorem lC {α:Type}{l:List α}{fW:α ->W}(eW:α ->W){keep:Mp ->Prop}{M1:Mp}{own:Nat}{fr:List Nat}{ρ:WSt}{g:WG}{c:WT}{el:WE}{q:WK}(hz:l.length<=sizeLine)(hkeep: ∀M,Sm M1 M ->keep M)
   (hs: ∀a∈l, ∀ (M:Mp) (N:Option W ->Mp ->Prop),Sm M1 M ->N (some (eW a)) M ->g (fW a) (eP own fr ρ) M fun ρ2 M2=>c ρ2 M2 fun b M3=>cO b (el ρ2 M3 fun y M4=>N (some y) M4) (N none M3))
   (hq: ∀p,M1 p=none ->q (wr p) (um M1 p (.lst (l.map eW)))):lD (l.map fW) keep own fr g c el ρ M1 q:=by
 refine comp_map (fun _=>true) eW hz hkeep (fun a ha M N s h=>hs a ha M N s (by simpa using h)) fun p hp=> ?_
 have e:l.filter (fun _=>true)=l:=List.filter_eq_self.mpr fun _ _=>rfl
 rw[e]
 exact hq p hp
end
end WL
namespace L2
open PySem PySem.Spec PyProof.Rows
def rgN (a b c:Int):Nat:=(Builtin.Range.rangeSize a b c).toNat
theorem qZ {a b:Int}:rgN a b (-1)=(a - b).toNat:=by
 unfold rgN Builtin.Range.rangeSize
 rw[if_neg (by decide)]
 split
 · rw[show -(-1:Int)=1 by decide,Int.ediv_one];lia
 · show(0:Int).toNat=_;lia
def RgOk (a b c:Int):Prop:=c≠0 /\ c.natAbs<1000000 /\ a.natAbs<1000000000 /\ b.natAbs<1000000000
theorem i0 {a b c:Int}(h:c≠0):0<=Builtin.Range.rangeSize a b c:=by
 unfold Builtin.Range.rangeSize
 split
 · split
   · have:=Int.ediv_nonneg (a:=b - a - 1) (b:=c) (by lia) (by lia);lia
   · exact Int.le_refl _
 · split
   · have:=Int.ediv_nonneg (a:=a - b - 1) (b:= -c) (by lia) (by lia);lia
   · exact Int.le_refl _
theorem qM {a b c:Int}(h:RgOk a b c):Builtin.Range.small a b c=true:=by
 obtain⟨h0,h1,h2,h3⟩:=h
 have hs:Builtin.Range.rangeSize a b c<=2000000001:=by
   unfold Builtin.Range.rangeSize
   split
   · split
     · have:=Int.ediv_le_self (a:=b - a - 1) c (by lia);lia
     · lia
   · split
     · have:=Int.ediv_le_self (a:=a - b - 1) (-c) (by lia);lia
     · lia
 have hs0:=i0 (a:=a) (b:=b) h0
 unfold Builtin.Range.small
 simp only[Builtin.Range.rangeFitsLong,Bool.and_eq_true,Bool.or_eq_true,decide_eq_true_eq,beq_iff_eq]
 refine⟨⟨⟨⟨⟨by lia,by lia⟩,by lia,by lia⟩,by lia,by lia⟩,by lia,by lia⟩, .inr ?_⟩
 split
 · rw[Bool.and_eq_true,decide_eq_true_eq,decide_eq_true_eq];lia
 · rw[Bool.and_eq_true,decide_eq_true_eq,decide_eq_true_eq];lia
end L2
namespace WQ
open PySem L2 WL WP
def cv (a b:List Int):Nat ->Nat ->Int
 | 0,_=>0
 | k+1,n=>cv a b k n+if k<=n then a.getD k 0*b.getD (n - k) 0 else 0
structure IsPart (p:Int)(one other q r:List Int):Prop where
 qs:vZ p q
 rs:vZ p r
 len:r.length<other.length
 ql:q.length<=one.length
 eq: ∀n,one.getD n 0 % p=(cv q other q.length n+r.getD n 0) % p
end WQ
namespace L2
open PySem PySem.Spec PyProof.Rows
section
variable {X:Cx}{pins:List (Addr×Obj)}{σ:St}{H:Hp}{s:Shared}{a:Addr}{kvs:List (Key×V)}{k:Key}{d:V}{u r:Value}{A:Around}{E:Value ->Shared ->Prop}
theorem xD {Q:Value ->Shared ->Prop}(I:Inv X pins σ H s)(e:H a=some (.dK kvs))(ry:RelV (kV k) u)(rd:RelV d r)(z1:kvs.length<sizeLine)(h1: ∀v w' s',cf kvs k=some v ->Inv X pins σ H s' ->RelV v w' ->Q w' s')(h2: ∀s',cf kvs k=none ->Inv X pins σ (upd H a (.dK (putK kvs k d))) s' ->Q r s'):
   wpAny (model X.prog X.w) A (call (.builtin "dict.setdefault") [.ref a,u,r]) Q E s:=by
 obtain⟨z,hd,vs,rel,dd⟩:=lx I.hok e
 have hz:vs.length<=sizeLine:=by rw[<- rel.length];exact z
 have hl:(putK kvs k d).length<=sizeLine:=by have:=bW kvs k d;lia
 have rv:=rel.val k
 refine call_meetsIn PySem.F.slot_dict_setdefault dd.typeIs PySem.F.entry_dict_setdefault (PySem.F.args_dict_setdefault_3 _ _ _) (kt_meets_setdefault (aC X.prog X.w) a (gg ry) hd r) ⟨vs,dd,hz,fun v hv=> ?_,fun hn h' dd' hs=> ?_⟩
 · rw[hv] at rv
   cases hk:cf kvs k with
   | none=>rw[hk] at rv;exact absurd rv (by intro h;cases h)
   | some x=>rw[hk] at rv;exact h1 x v _ hk (I.tok _) (by first | exact rv | (cases rv;assumption))
 · rw[hn] at rv
   cases hk:cf kvs k with
   | some x=>rw[hk] at rv;exact absurd rv (by intro h;cases h)
   | none=>
     refine h2 _ hk ?_
     have he: ∃q,h'.get? a=some q:=let ⟨q,_,_,hq,_⟩:=dd';⟨q,hq⟩
     exact fD I (by rw[e];exact True.intro) hs he (ix hl hd (rel.put k rd) dd')
end
def qz (td ty tx:TE):TE:=fun σ H Q=>td σ H fun x H1=> ∃a,x= .ref a /\ IsD H1 a /\ ty σ H1 fun y H2=>tx σ H2 fun z H3=> ∃kvs k,H3 a=some (.dK kvs) /\ y=kV k /\ kvs.length<sizeLine /\
 (∀v,cf kvs k=some v ->Q v H3) /\ (cf kvs k=none ->Q z (upd H3 a (.dK (putK kvs k z))))
section
variable {X:Cx}{o e f:Expr}{apos cpos:Pos}{td ty tx:TE}
theorem rH (ho:PE X o td)(he:PE X e ty)(hf:PE X f tx)(m:M2 X o "setdefault" apos e f cpos):PE X (.Call (.Attribute o "setdefault" apos) [e,f] [] cpos) (qz td ty tx):=by
 intro pins s σ H Q I h
 refine wpAny_Call_method m.base m.few m.line PySem.F.plainAttrs_dict PySem.F.slot_dict_setdefault PySem.F.type_dict_setdefault (thn (ho pins s σ H _ I h) fun u s1 ⟨x,H1,I1,rx,a,ex,d,q1⟩=> ?_)
 subst ex
 obtain rfl:u=Value.ref a:=rx
 obtain⟨t1,t2,_⟩:=jX I1 d
 refine⟨t1,t2,?_⟩
 rw[m.trees]
 refine Calls.callWith_builtin rfl (Calls.evalArgs_plain (Calls.spliced_cons (thn (he pins s1 σ H1 _ I1 q1) fun iv s2 ⟨y,H2,I2,ry,q2⟩=>
   Calls.spliced_cons (thn (hf pins s2 σ H2 _ I2 q2) fun fv s3 ⟨z,H3,I3,rz,kvs,k,ea,ey,z1,q3,q4⟩=>Calls.spliced_nil ?_))))
 subst ey
 exact xD I3 ea ry rz z1 (fun v w' s4 hv I4 rw'=>⟨_,H3,I4,rw',q3 v hv⟩) fun s4 hn I4=>⟨z,_,I4,rz,q4 hn⟩
end
end L2
namespace WL
open PySem L2
variable {K:PySem.W.Frag}
def lL (a b c:WE):WE:=fun ρ M q=>a ρ M fun x M1=> ∃p,x=wr p /\ (∃kvs,M1 p=some (.dK kvs)) /\ b ρ M1 fun y M2=>c ρ M2 fun z M3=> ∃kvs k,M3 p=some (.dK kvs) /\ y=bA k /\ kvs.length<sizeLine /\ (∀x,bD kvs k=some x ->q x M3) /\ (bD kvs k=none ->q z (um M3 p (.dK (dA kvs k z))))
instance {t u s:TE}{a b c:WE} [ia:IE K t a] [ib:IE K u b] [ic:IE K s c]:IE K (qz t u s) (lL a b c) where
 imp :=fun ρ M σ H q Q o h k=>ia.imp ρ M σ H _ _ o h fun x M1 v H1 ⟨p,e,⟨kvs,hp⟩,h1⟩ t1 m1 r1=>by
   subst e
   obtain⟨ks,hk,rr⟩:=m1 p _ hp
   refine⟨p,r1.eq, .inl ⟨ks, .inl hk⟩,ib.imp ρ M1 σ H1 _ _ (o.mv t1 m1) h1 fun y M2 u H2 h2 t2 m2 r2=>ic.imp ρ M2 σ H2 _ _ (o.mv (t1.trans t2) m2) h2 fun z M3 u3 H3 ⟨kvs,ky,e2,e3,hl,h3,h4⟩ t3 m3 r3=> ?_⟩
   subst e3
   obtain⟨ks,hk,rr⟩:=m3 p _ e2
   have ts:=eV (u:= .dK (putK ks ky u3)) hk
   refine⟨ks,ky,hk,fo (r2.ts t3),by rw[rr.length];exact hl,fun v hv=> ?_,fun hn=> ?_⟩
   · rcases rr.val ky with⟨n1,n2⟩ | ⟨x',v',n1,n2,rx⟩
     · rw[n2] at hv;cases hv
     · rw[n2] at hv;cases hv
       exact k _ M3 _ H3 (h3 _ n1) ((t1.trans t2).trans t3) m3 rx
   · rcases rr.val ky with⟨n1,n2⟩ | ⟨x',v',n1,n2,rx⟩
     · exact k _ _ _ _ (h4 n1) (((t1.trans t2).trans t3).trans ts) (m3.putD hk (KR.put r3 rr)) (r3.ts ts)
     · rw[n2] at hn;cases hn
def iU (o:Option W)(q:W ->Prop)(n:Prop):Prop:=(∀x,o=some x ->q x) /\ (o=none ->n)
theorem wDSetD_e {a b c:WE}{ρ:WSt}{M:Mp}{q:WK}:lL a b c ρ M q=a ρ M fun x M1=>cz x fun p=>dH (M1 p) fun _=>b ρ M1 fun y M2=>c ρ M2 fun z M3=>il y fun k=>dH (M3 p) fun kvs=>b8 (kvs.length<sizeLine) (iU (bD kvs k) (fun x=>q x M3) (q z (um M3 p (.dK (dA kvs k z))))):=by
 unfold lL cz il dH b8 iU;congr 1;funext x M1;apply propext;constructor
 all_goals
   have e: ∀p:Addr,(fun y M2=>c ρ M2 fun z M3=> ∃kvs k,M3 p=some (.dK kvs) /\ y=bA k /\ kvs.length<sizeLine /\ (∀x,bD kvs k=some x ->q x M3) /\ (bD kvs k=none ->q z (um M3 p (.dK (dA kvs k z)))))=(fun y M2=>c ρ M2 fun z M3=> ∃k,y=bA k /\ ∃kvs,M3 p=some (.dK kvs) /\ kvs.length<sizeLine /\ (∀x,bD kvs k=some x ->q x M3) /\ (bD kvs k=none ->q z (um M3 p (.dK (dA kvs k z))))):=fun p=>by
     funext y M2;congr 1;funext z M3;apply propext;constructor
     · rintro⟨a,b,c,d,e⟩;exact⟨b,d,a,c,e⟩
     · rintro⟨b,d,a,c,e⟩;exact⟨a,b,c,d,e⟩
 · rintro⟨p,h1,⟨kvs,h2⟩,h⟩
   exact⟨p,h1,kvs,h2,e p▸h⟩
 · rintro⟨p,h1,kvs,h2,h⟩
   exact⟨p,h1,⟨kvs,h2⟩,(e p).symm▸h⟩
theorem uq {x:W}{q:W ->Prop}{n:Prop}:iU (some x) q n=q x:=by apply propext;unfold iU;constructor;(· intro h;exact h.1 x rfl);(· intro h;exact⟨fun y e=>by cases e;exact h,fun e=>nomatch e⟩)
theorem ur {q:W ->Prop}{n:Prop}:iU none q n=n:=by apply propext;unfold iU;constructor;(· intro h;exact h.2 rfl);(· intro h;exact⟨fun y e=>(nomatch e),fun _=>h⟩)
end WL
namespace WQ
open PySem L2 WL WP
def cs (n r:Int)(l:Pt):Int:=((l.filter fun z=>decide (z.1 % n=r)).map (·.2)).sum
end WQ
namespace L2
open PySem PySem.Spec PyProof.Rows
section
variable {X:Cx}{tg l:Expr}{tl:TE}{K:PySem.W.Frag}
theorem rD (hK:X.K=K)(hl:PE X l tl):PI X tg l (sJ K tl):=by subst hK;exact bu hl
end
end L2
namespace WQ
open PySem L2 WL WP
abbrev Cf:=Nat ->Int
def act:Nat ->Cf ->Cf ->Int
 | 0,f,g=>f 0*g 0
 | n+1,f,g=>f 0*g (n+1)+act n (fun i=>f (i+1)) g
def co (l:List Int):Cf:=fun i=>l.getD i 0
def Mult (p:Int)(a g:Cf):Prop:= ∃ (E:Cf) (N:Nat),(∀i,N<=i ->E i % p=0) /\ ∀n,a n % p=act n E g % p
def Two (p:Int)(a g h:Cf):Prop:= ∃ (A B:Cf) (N:Nat),(∀i,N<=i ->A i % p=0 /\ B i % p=0) /\ ∀n,a n % p=(act n A g+act n B h) % p
end WQ
namespace L2
open PySem PySem.Spec PyProof.Rows
def vN (kvs:List (Str×V))(k:Str):Option V:=(kvs.find? fun kv=>decide (kv.1=k)).map (·.2)
end L2
namespace WL
open PySem L2
variable {K:PySem.W.Frag}
class KT (K:PySem.W.Frag) (kvs:List (Str×V)) (tb:outParam (List (Str×W))):Prop where
 rel: ∀k:Str,((tb.find? fun kv=>decide (kv.1=k)).map (·.2)=none /\ vN kvs k=none) \/ ∃x v,(tb.find? fun kv=>decide (kv.1=k)).map (·.2)=some x /\ vN kvs k=some v /\ ∀H,WR K H x v
end WL
namespace WQ
open PySem L2 WL WP
def FV (p:Int)(a:Rd)(v:Int):Prop:= ∃lo hi,bY (vx a) lo /\ eh (vx a) hi /\ v=fwv p a lo hi
open Classical in
noncomputable def fv (p:Int) (a:Rd):Int:=if h: ∃v,FV p a v then h.choose else 0
def names:List Str:= ["on","back","up","down"]
def stp (p:Int)(s:Str):Rd:=if s= "on" then(1,[]) else if s= "back" then(-1,[]) else if s= "up" then(0,[(0,1)]) else(0,[(0,p - 1)])
noncomputable def far (p:Int) (a:Rd) (s:Str):Bool:=decide (fv p (jn p a (stp p s)) >fv p a)
end WQ
namespace WQ
open PySem L2 WL WP
def wK (a b:Int):List Str:=List.replicate (a - b).natAbs (if a<=b then "on" else "back")
def wA (p s:Int):List Str:=if s<=p - s then List.replicate s.toNat "up" else List.replicate (p - s).toNat "down"
def rowS (p:Int):Int ->Pt ->List Str
 | _,[]=> []
 | here,z::r=>wK here z.1++wA p z.2++rowS p z.1 r
def pairsOf (p:Int)(z:Int×Int):Pt:=if z.2<=p - z.2 then List.replicate z.2.toNat (z.1,1) else List.replicate (p - z.2).toNat (z.1, -1)
end WQ
namespace WQ
open PySem L2 WL WP
def ways:Int ->Pt ->Int
 | _,[]=>0
 | here,z::r=>absI (here - z.1)+ways z.1 r
end WQ
namespace WQ
open PySem L2 WL WP
structure Inv (n:Nat)(s:Int×Pt)(lo hi:Int):Prop where
 l0:lo<=0
 h0:0<=hi
 l1:lo<=s.1
 h1:s.1<=hi
 pl: ∀z∈s.2,lo<=z.1 /\ z.1<=hi
 on: ∀z∈s.2,z.2=1 \/ z.2= -1
 le:2*(hi - lo) - absI s.1+s.2.length<=n
end WQ
namespace L2
open PySem PySem.Spec PyProof.Rows
theorem Inv.freeze {X:Cx}{pins:List (Addr×Obj)}{σ:St}{H:Hp}{s:Shared}{d:Addr}{kvs:List (Key×V)}{o:Obj}(I:Inv X pins σ H s)(e:H d=some (.dK kvs))(ho:s.heap.get? d=some o):
   Inv X pins σ (upd H d (.frz o (.dK kvs))) s:=by
 have ne: ∀ {b u},H b=some u ->u≠ .dK kvs ->b≠d:=fun {b u} h n z=>by subst z;rw[e] at h;exact n (Option.some.inj h).symm
 have ne0: ∀ {b},H b=none ->b≠d:=fun {b} h z=>by subst z;rw[e] at h;cases h
 refine⟨I.ok,I.os,I.bare,⟨I.base.keep,I.base.slot,fun b u h1 h2 h3=> ?_,I.base.there,fun b xs h=> ?_,fun b o' u h=> ?_,fun b ps h=> ?_⟩,I.loc,I.cell,?_,fun x c h=> ?_,fun p hp=> ?_,fun b u h=> ?_,I.len⟩
 · have z:=I.base.free b u h1 h2 h3
   rw[ar (ne0 z)];exact z
 · have z:=I.base.tups b xs h
   rw[ar (ne z (fun q=>nomatch q))];exact z
 · have z:=I.base.frzs b o' u h
   rw[ar (ne z (fun q=>nomatch q))];exact z
 · obtain⟨more,z⟩:=I.base.tbls b ps h
   exact⟨more,by rw[ar (ne z (fun q=>nomatch q))];exact z⟩
 · rw[ar (ne0 I.free)];exact I.free
 · rw[ar (ne0 (I.freeC x c h))];exact I.freeC x c h
 · obtain⟨a1,a2,a3⟩:=I.pin p hp
   exact⟨a1,by rw[ar (ne0 a2)];exact a2,a3⟩
 · have ow: ∀c,H c=some (.own b) ->upd H d (.frz o (.dK kvs)) c=some (.own b):=fun c r=>by rw[ar (ne r (fun q=>nomatch q))];exact r
   have tu: ∀c xs,H c=some (.tup xs) ->upd H d (.frz o (.dK kvs)) c=some (.tup xs):=fun c xs r=>by rw[ar (ne r (fun q=>nomatch q))];exact r
   by_cases hb:b=d
   · subst hb
     rw[aw] at h
     cases h
     exact⟨ho,(I.hok b _ e).stay (fun _ _ _ h=>h) ow tu⟩
   · rw[ar hb] at h
     exact(I.hok b u h).stay (fun _ _ _ h=>h) ow tu
theorem sS {X:Cx}{pins:List (Addr×Obj)}{σ:St}{H:Hp}{s:Shared}{d:Addr}{o:Obj}{kvs:List (Key×V)}{es:Array DictEntry}{ep:Nat}(I:Inv X pins σ H s)(ho:o.data= .dict es ep)(e:H d=some (.frz o (.dK kvs))):
   ∃vs,KV kvs vs /\ s.heap.DictAt (aC X.prog X.w) d vs ep:=by
 obtain⟨h0,_,_,vs,rel,o',es',ep',h1,h2,h3,h4⟩:=(show aW X.prog X.w H s.heap d (.frz o (.dK kvs)) from I.hok d _ e)
 rw[h0] at h1
 cases h1
 rw[ho] at h3
 cases h3
 exact⟨vs,rel,o,es,h0,h2,ho,h4⟩
end L2
namespace WL
open PySem L2
variable {K:PySem.W.Frag}
theorem ik {H:Hp}: ∀ {kvs:List (Key×W)} {vs:List (Key×V)},KR K H kvs vs ->kvs.length=vs.length
 | _,_, .nil=>rfl
 | _,_, .cons _ t=>by rw[List.length_cons,List.length_cons,ik t]
end WL
namespace WQ
open PySem L2 WL WP
def csum (n:Int):Pt ->Int ->Int
 | [],_=>0
 | z::r,k=>(if z.1 % n=k then z.2 else 0)+csum n r k
end WQ
namespace WQ
open PySem L2 WL WP
def fl (p:Int)(m:Nat)(f:Pt):List Int:=(List.range m).map fun(k:Nat)=>csum m f k % p
end WQ
namespace L2
open PySem PySem.Spec PyProof.Rows
section
variable {X:Cx}
def kJ (i:Int)(n:Nat):List V:=(List.range n).map fun(k:Nat)=> .int (i+(k:Int))
def qw (ta:TA):TE:=fun σ H Q=>ta σ H fun vs H1=> ∃i j:Int,vs= [.int i, .int j] /\ (-(2 ^ 62) <=i /\ i<2 ^ 62 /\ -(2 ^ 62) <=j /\ j<2 ^ 62) /\ (j - i).toNat<=100000 /\ ∀l,H1 l=none ->Q (.ref l) (upd H1 l (.lst (kJ i (j - i).toNat)))
theorem mV {i:Int}{n:Nat}{acc:Array Value}(h:ItemsOf (fun j v=> ∃t,v=Value.int (i+(j:Int)*1) t) acc n):Vals (kJ i n) acc.toList:=by
 obtain⟨hl,hv⟩:=h
 have hl2:acc.toList.length=n:=by simpa using hl
 have key: ∀ (k:Nat) (l:List Value) (m:Nat),l.length=m ->(∀j v,l[j]? =some v -> ∃t,v=Value.int (i+((k+j:Nat):Int)) t) ->Vals ((List.range' k m).map fun(k:Nat)=>V.int (i+(k:Int))) l:=by
   intro k l
   induction l generalizing k with
   | nil=>
     intro m hm _
     subst hm
     exact .nil
   | cons v r ih=>
     intro m hm hj
     subst hm
     rw[List.length_cons,List.range'_succ,List.map_cons]
     refine .cons ?_ (ih (k+1) r.length rfl fun j v' e=> ?_)
     · obtain⟨t,e⟩:=hj 0 v rfl
       exact⟨t,by simpa using e⟩
     · obtain⟨t,e'⟩:=hj (j+1) v' (by rw[List.getElem?_cons_succ];exact e)
       exact⟨t,by rw[e'];congr 2<;>lia⟩
 have:=key 0 acc.toList n hl2 fun j v e=>by
   obtain⟨t,e'⟩:=hv j v (by rw[<- Array.getElem?_toList];exact e)
   exact⟨t,by rw[e'];congr 2<;>lia⟩
 unfold kJ
 rw[List.range_eq_range']
 exact this
theorem gT {a b:Expr}{ta:TA}{p1 p2 pos1 pos2:Pos}(hgl:Gl X "list")(hml:X.mg "list" =none)(hg:Gl X "range")(hm:X.mg "range" =none)(hc:X.calm=true)(ha:PA X [a,b] ta)
   (hs:starEach [a,b] X.env= [(false,eval a X.env),(false,eval b X.env)]:=by rfl) (hs2:starEach [b] X.env= [(false,eval b X.env)]:=by rfl)
   (ht:starEach [.Call (.Name "range" p2) [a,b] [] pos2] X.env= [(false,eval (.Call (.Name "range" p2) [a,b] [] pos2) X.env)]:=by rfl):
   PE X (.Call (.Name "list" p1) [.Call (.Name "range" p2) [a,b] [] pos2] [] pos1) (qw ta):=by
 intro pins s σ H Q I h
 refine Call_ (bK I hgl hml boot_list (PyProof.Rows.callWith_type1 ?_ ht rfl))
 rw[ht]
 refine Calls.spliced_cons (Call_ (bK I hg hm boot_range (PyProof.Rows.callWith_type1 (thn (ha pos2 pins s σ H _ I h) fun us s1 ⟨vs,H1,I1,r1,q1⟩=> ?_) (by rw[hs,hs2]) (by rw[hs2];rfl))))
 obtain⟨i,j,e,⟨q1,q2,q3,q4⟩,hn,q⟩:=q1
 subst e
 cases r1 with
 | cons r rr=>
   cases rr with
   | cons r' rr=>
     cases rr
     obtain⟨t,rfl⟩:=r
     obtain⟨t',rfl⟩:=r'
     refine call_range_2 (Calls.spliced_nil ?_)
     have I2:Inv X pins σ H1 {s1 with heap:=s1.heap.push {cls:= .type "range",data:= .fields #[.int i t, .int j t', .int 1 s1.toks]},toks:=s1.toks+1}:=I1.kept fun b o e=>Heap.get?_push_of_some _ e
     refine call_list_range (n:=(j - i).toNat) (I1.ok.hd hc) (IsRange.new ..) (small_one q1 q2 q3 q4) (by rw[rangeSize_one];split<;>lia) (by lia) fun h' tk acc' c' kp hg' items=> ?_
     have hv:=mV items
     refine⟨.ref _,_,I2.laid (t':=tk) kp (Nat.le_refl _) (show aW X.prog X.w _ h' _ (.lst (kJ i (j - i).toNat)) from⟨?_,acc'.toList,c',hv,by simpa using hg'⟩),rfl,q _ (I2.hok.fresh (Nat.le_refl _))⟩
     unfold kJ
     rw[List.length_map,List.length_range]
     exact Nat.le_trans hn (by rw[sizeLine_eq];decide)
end
end L2
namespace WL
open PySem L2
variable {K:PySem.W.Frag}
def qb (a:WA):WE:=fun ρ M q=>a ρ M fun xs M1=> ∃i j:Int,xs= [wi i,wi j] /\ (-(2 ^ 62) <=i /\ i<2 ^ 62 /\ -(2 ^ 62) <=j /\ j<2 ^ 62) /\ (j - i).toNat<=100000 /\ ∀l,M1 l=none ->q (wr l) (um M1 l (.lst (bq i (j - i).toNat)))
theorem lX {H:Hp}(i:Int): ∀ (l:List Nat),WRs K H (l.map fun(k:Nat)=>wi (i+(k:Int))) (l.map fun(k:Nat)=>V.int (i+(k:Int)))
 | []=>by simp only[List.map_nil,WRs]
 | k::r=>by simp only[List.map_cons,WRs];exact⟨_,_,rfl,WR.v,lX i r⟩
instance {t:TA}{a:WA} [ia:IA K t a]:IE K (qw t) (qb a) where
 imp:=fun ρ M σ H q Q o h k=>ia.imp ρ M σ H _ _ o h fun xs M1 vs H1 ⟨i,j,ex,h1,h2,h3⟩ t1 m1 r1=>by
   subst ex
   obtain⟨v,u,rfl,r,r'⟩:=r1.two
   cases r.eq;cases r'.eq
   exact⟨i,j,rfl,h1,h2,fun p hp=>k _ _ _ _ (h3 p (m1.fresh hp)) (t1.trans (L2.bz.ts (ay hp))) (m1.newL hp (lX i _)) WR.v⟩
theorem kq {a:WA}{ρ:WSt}{M:Mp}{q:WK}:qb a ρ M q=a ρ M fun xs M1=> ∃i j:Int,xs= [wi i,wi j] /\ (-(2 ^ 62) <=i /\ i<2 ^ 62 /\ -(2 ^ 62) <=j /\ j<2 ^ 62) /\ (j - i).toNat<=100000 /\ iM M1 fun l=>q (wr l) (um M1 l (.lst (bq i (j - i).toNat))):=rfl
end WL
namespace WQ
open PySem L2 WL WP
structure Wk (a:Rd)(sp:Int)(wk:List Int)(st sg t:Int)(N:Nat):Prop where
 s1:sg=1 \/ sg= -1
 t0:0<t
 sp:sp=sg*t
 wk:wk=(List.range N).map fun(k:Nat)=>st+sg*(k:Int)
 all: ∀z∈a.2, ∃j:Nat,j<N /\ z.1=st+sg*(j:Int)
end WQ
namespace L2
open PySem PySem.Spec PyProof.Rows
theorem kP {X:Cx}{pos:Pos}{k v:Expr}{tk tv:TE}(hk:PE X k tk)(hv:PE X v tv):PE X (.Dict [some k] [v] pos) (qy [(tk,tv)]):=
 uC (rC hk hv ux) rfl rfl (by simp) (by simp)
end L2
namespace WL
open PySem L2
variable {K:PySem.W.Frag}
def qf (a b:WE):WE:=fun ρ M q=> ∀p,M p=none ->a ρ (um M p (.dK [])) fun x M1=>b ρ M1 fun y M2=>M2 p=some (.dK []) /\ ∃k,x=bA k /\ q (wr p) (um M2 p (.dK [(k,y)]))
instance {tk tv:TE}{a b:WE} [ia:IE K tk a] [ib:IE K tv b]:IE K (qy [(tk,tv)]) (qf a b) where
 imp :=fun ρ M σ H q Q o h k=>fun p hp=>by
   have t0:ao H (upd H p (.dK [])):=L2.bz.ts (ay hp)
   have m0:MOk K (um M p (.dK [])) (upd H p (.dK [])):=o.hp.put t0 ⟨[],aw, .nil⟩
   refine ia.imp ρ _ σ _ _ _ (o.mv t0 m0) (h p (o.hp.fresh hp)) fun x M1 v H1 h1 t1 m1 r1=> ?_
   refine ib.imp ρ M1 σ H1 _ _ (o.mv (t0.trans t1) m1) h1 fun y M2 u H2 ⟨e1,ky,e2,h2⟩ t2 m2 r2=> ?_
   subst e2
   obtain⟨ks,hk,rr⟩:=m2 p _ e1
   cases rr
   have ev:v=kV ky:=by
     cases ky with
     | inl i=>exact r1.eq
     | inr z=>exact r1.eq
   refine⟨hk,[(ky,u)],by rw[ev];rfl,by simp,?_⟩
   have t3:=eV (u:= .dK (dE [] [(ky,u)])) hk
   refine k _ _ _ _ h2 (((t0.trans t1).trans t2).trans t3) (m2.put t3 ⟨_,aw,?_⟩) WR.v
   show KR K _ [(ky,y)] (dE [] [(ky,u)])
   have em:dE [] [(ky,u)]= [(ky,u)]:=rfl
   rw[em]
   exact .cons ⟨rfl,r2.ts t3⟩ .nil
theorem qe {a b:WE}{ρ:WSt}{M:Mp}{q:WK}:qf a b ρ M q=iM M fun p=>a ρ (um M p (.dK [])) fun x M1=>b ρ M1 fun y M2=>M2 p=some (.dK []) /\ ∃k,x=bA k /\ q (wr p) (um M2 p (.dK [(k,y)])):=rfl
end WL
namespace WQ
open PySem L2 WL WP
inductive Ln where
 | rest | mem (k:Int) | join (a b:Nat) | times (a:Nat) (n:Int)
deriving DecidableEq
def sev (r:Pt)(n:Int):Pt:=if n<0 then(List.replicate (-n).toNat (r.reverse.map fun z=>(z.1, -z.2))).flatten else(List.replicate n.toNat r).flatten
def rowLn (acc:List Pt):Ln ->Pt
 | .rest=> []
 | .mem k=> [(k,1)]
 | .join a b=>acc.getD a []++acc.getD b []
 | .times a n=>sev (acc.getD a []) n
def rowsL (ls:List Ln):List Pt:=ls.foldl (fun acc l=>acc++ [rowLn acc l]) []
theorem bT {α:Type}(l:List α)(h:l≠ []): ∃r x,l=r++ [x]:=⟨l.dropLast,l.getLast h,(List.dropLast_concat_getLast h).symm⟩
def rw_ (ls:List Ln)(i:Nat):Pt:=(rowsL ls).getD i []
def nmd:Ln ->List Nat
 | .join a b=> [a,b]
 | .times a _=> [a]
 | _=> []
end WQ
namespace WQ
open PySem L2 WL WP
structure WI (ls:List Ln)(last i:Nat)(l:List Nat):Prop where
 nd:l.Nodup
 la:last∈l
 bd: ∀j∈l,j<=last /\ (rw_ ls j).length<=(rw_ ls last).length
 cl: ∀j∈l,last<j+i ->rw_ ls j≠ [] -> ∀ln,ls[j]? =some ln -> ∀b∈nmd ln,b∈l
end WQ
namespace L2
open PySem PySem.Spec PyProof.Rows
section
variable {prog:Program}{w:World}{A:Around}{R:Result ->Shared ->Prop}{I:Addr}{fp wr:List Addr}{n:Nat}{P:Nat ->Value ->Prop}{St:Nat ->Heap ->Prop}{kw:List (Str×Value)}
theorem sk (W:Walks prog w A.in1 I fp wr n P St)(bt:Nat ->Nat ->Bool)(hcmp:CmpOf prog w A.in1 .Lt P bt)(Z:Addr)(hZ:Z∉fp):
   ∀ (k j:Nat) (s:Shared) (x:Value) (c:Nat),n - (j+1)=k ->j+1<=n ->St (j+1) s.heap ->P (argBest bt j) x ->s.heap.get? Z=some {cls:= .type "list",dict:=none,data:= .seq #[x,x] c,slots:= #[]} ->
   (∀v h' tk,P (argBest bt (n - 1)) v ->(∀b o,b∉wr ->b≠Z ->s.heap.get? b=some o ->h'.get? b=some o) ->R (.ok (.ret v)) {s with heap:=h',toks:=tk}) ->codeAny (model prog w) A (.builtin "min.loop" ⟨[.ref I, .none, .ref Z],kw⟩) R s:=by
 have hw:Z∉wr:=fun h=>hZ (W.sub _ h)
 have nm:(toString "min" ++toString ".loop" :String)= "min.loop" :=by decide
 intro k
 induction k with
 | zero=>
   intro j s x c hk hj hst hP hS hR
   have e0:j+1=n:=by lia
   refine codeAny_builtin F.entry_min_loop ?_;rw[Around.under_plainId F.plain_min_loop _]
   show wpAny _ A.in1 (seqItems? (.ref Z) >>=_) _ _ s
   refine wpAny_bind (wpAny_seqItems hS rfl ?_);show wpAny _ A.in1 (tryCatch (pyNext (.ref I)) _ >>=_) _ _ s
   refine wpAny_bind (wpAny_tryCatch (W.done s _ _ (e0▸hst) fun h1 tk hk1=> ?_))
   have hS1:=hk1 Z _ hw hS
   show wpAny _ A.in1 (updateSeq Z (fun _=> #[]) >>=_) _ _ _
   refine wpAny_bind ?_;refine wpAny_updateSeq hS1 rfl (wpAny_bind (wpAny_letGo (wpAny_pure ?_)))
   exact hR x _ tk (by rw[<- e0];exact hP) fun b o n1 n2 e=>(Heap.get?_update_other _ _ (Ne.symm n2)).trans (hk1 b o n1 e)
 | succ k ih=>
   intro j s x c hk hj hst hP hS hR
   have hlt:j+1<n:=by lia
   refine codeAny_builtin F.entry_min_loop ?_;rw[Around.under_plainId F.plain_min_loop _]
   show wpAny _ A.in1 (seqItems? (.ref Z) >>=_) _ _ s
   refine wpAny_bind (wpAny_seqItems hS rfl ?_);show wpAny _ A.in1 (tryCatch (pyNext (.ref I)) _ >>=_) _ _ s
   refine wpAny_bind (wpAny_tryCatch (W.item (j+1) s _ _ hlt hst fun v h1 tk hP1 hst1 hk1=> ?_))
   have hS1:=hk1 Z _ hw hS
   show wpAny _ A.in1 (tryCatch (holding [v,v] (richCompare .Lt v x >>=_)) _ >>=_) _ _ _
   refine wpAny_bind (wpAny_tryCatch (wpAny_holding (wpAny_bind (hcmp (j+1) (argBest bt j) v x _ _ _ hP1 hP ?_))))
   refine wpAny_bind (wpAny_holding (wpAny_truthy_bool ?_));refine wpAny_bind (wpAny_letGo (wpAny_pure ?_))
   cases hb:bt (j+1) (argBest bt j) with
   | true=>
     simp only[if_true];refine wpAny_bind ?_
     refine wpAny_updateSeq hS1 rfl (wpAny_bind (wpAny_letGo ?_));rw[nm]
     refine wpAny_pure ⟨plainId_quiet F.plain_min_loop _,ih (j+1) _ v _ (by lia) hlt (W.frame _ _ _ hst1 fun b hbf o e=> ?_) (by simp only[argBest,hb,if_true];exact hP1) (Heap.get?_update_self _ hS1 rfl) fun v2 h2 tk2 hP2 hk2=> ?_⟩
     · exact(Heap.get?_update_other _ _ (fun h:Z=b=>hZ (by rw[h];exact hbf))).trans e
     · exact hR v2 h2 tk2 hP2 fun b o n1 n2 e=>hk2 b o n1 n2 ((Heap.get?_update_other _ _ (Ne.symm n2)).trans (hk1 b o n1 e))
   | false=>
     simp only[Bool.false_eq_true,if_false];refine wpAny_bind (wpAny_letGo ?_);rw[nm]
     refine wpAny_pure ⟨plainId_quiet F.plain_min_loop _,ih (j+1) _ x c (by lia) hlt hst1 (by simp only[argBest,hb,Bool.false_eq_true,if_false];exact hP) hS1 fun v2 h2 tk2 hP2 hk2=> ?_⟩
     exact hR v2 h2 tk2 hP2 fun b o n1 n2 e=>hk2 b o n1 n2 (hk1 b o n1 e)
theorem k7 (W:Walks prog w A.in1 I fp wr n P St)(bt:Nat ->Nat ->Bool)(hcmp:CmpOf prog w A.in1 .Lt P bt)(Z:Addr)(hZ:Z∉fp){s:Shared}{c:Nat}{d:Value}{nd:Str}(hst:St 0 s.heap)
   (hS:s.heap.get? Z=some {cls:= .type "list",dict:=none,data:= .seq #[] c,slots:= #[]})
   (h0:n=0 -> ∀h' tk,(∀b o,b∉wr ->b≠Z ->s.heap.get? b=some o ->h'.get? b=some o) ->R (.ok (.ret d)) {s with heap:=h',toks:=tk})
   (hR:0<n -> ∀v h' tk,P (argBest bt (n - 1)) v ->(∀b o,b∉wr ->b≠Z ->s.heap.get? b=some o ->h'.get? b=some o) ->R (.ok (.ret v)) {s with heap:=h',toks:=tk}):codeAny (model prog w) A (.builtin "min.loop" ⟨[.ref I, .none, .ref Z],[(nd,d)]⟩) R s:=by
 have hw:Z∉wr:=fun h=>hZ (W.sub _ h)
 have nm:(toString "min" ++toString ".loop" :String)= "min.loop" :=by decide
 refine codeAny_builtin F.entry_min_loop ?_;rw[Around.under_plainId F.plain_min_loop _]
 show wpAny _ A.in1 (seqItems? (.ref Z) >>=_) _ _ s
 refine wpAny_bind (wpAny_seqItems hS rfl ?_);show wpAny _ A.in1 (tryCatch (pyNext (.ref I)) _ >>=_) _ _ s
 rcases Nat.eq_zero_or_pos n with hn | hn
 · subst hn
   refine wpAny_bind (wpAny_tryCatch (W.done s _ _ hst fun h1 tk hk1=> ?_))
   refine wpAny_bind (wpAny_rule ?_)
   exact wpAny_pure (h0 rfl _ tk fun b o n1 n2 e=>hk1 b o n1 e)
 · refine wpAny_bind (wpAny_tryCatch (W.item 0 s _ _ hn hst fun v h1 tk hP hst1 hk1=> ?_))
   have hS1:=hk1 Z _ hw hS
   show wpAny _ A.in1 (updateSeq Z (fun _=> #[v,v]) >>=_) _ _ _
   refine wpAny_bind ?_;refine wpAny_updateSeq hS1 rfl ?_;rw[nm]
   refine wpAny_pure ⟨plainId_quiet F.plain_min_loop _,sk W bt hcmp Z hZ _ 0 _ v _ rfl hn (W.frame _ _ _ hst1 fun b hbf o e=> ?_) hP (Heap.get?_update_self _ hS1 rfl) fun v2 h2 tk2 hP2 hk2=> ?_⟩
   · exact(Heap.get?_update_other _ _ (fun h:Z=b=>hZ (by rw[h];exact hbf))).trans e
   · exact hR hn v2 h2 tk2 hP2 fun b o n1 n2 e=>hk2 b o n1 n2 ((Heap.get?_update_other _ _ (Ne.symm n2)).trans (hk1 b o n1 e))
theorem pK (a d:Value):argsOk "min" ⟨[a],[("default",d)]⟩:=by unfold argsOk;kernel_rfl
variable {E:Value ->Shared ->Prop}{s:Shared}
theorem pG {x d:Value}{Q:Value ->Shared ->Prop}
   (h:wpAny (model prog w) A.in1 (pyIter x) (fun it t=> ∃I fp wr n P St bt,it= .ref I /\ Walks prog w A.in1 I fp wr n P St /\ St 0 t.heap /\ (∀b∈fp,b<t.heap.objs.size) /\ CmpOf prog w A.in1 .Lt P bt /\
     (n=0 -> ∀h' tk,(∀b o,b∉wr ->t.heap.get? b=some o ->h'.get? b=some o) ->Q d {t with heap:=h',toks:=tk}) /\
     (0<n -> ∀v h' tk,P (argBest bt (n - 1)) v ->(∀b o,b∉wr ->t.heap.get? b=some o ->h'.get? b=some o) ->Q v {t with heap:=h',toks:=tk})) E s):
   wpAny (model prog w) A (call (.builtin "min") [x] [("default",d)]) Q E s:=by
 have nm:(toString "min" ++toString ".loop" :String)= "min.loop" :=by decide
 refine wpAny_call (codeAny_call_builtin F.plain_min F.entry_min ?_)
 simp only[checkBuiltinCall,F.kind_min]
 have ha:=pK x d
 cases hsig:Manifest.signature? "min" with
 | none=>exact absurd (show(Manifest.signature? "min").isSome=true by kernel_rfl) (by rw[hsig];decide)
 | some sig=>
   have ha':Bind.checkArgs "min" sig ⟨[x],[("default",d)]⟩=pure ():=by simpa only[argsOk,hsig] using ha
   simp only[ha']
   refine wpAny_pure ?_
   show wpAny _ A.in1 (Builtin.Builtins.bindParams "min" ["key","default"] 0 ⟨[],[("default",d)]⟩ >>=_) _ _ s
   refine wpAny_bind (wpAny_of_eq (show Builtin.Builtins.bindParams "min" ["key","default"] 0 ⟨[],[("default",d)]⟩=pure [none,some d] from rfl) ?_)
   refine wpAny_bind (wpAny_pure ?_)
   refine wpAny_bind (wpAny_mono h (fun it t h₂=> ?_) fun _ _ e=>e)
   obtain⟨I,fp,wr,n,P,St,bt,rfl,W,hst,hfp,hcmp,hQ0,hQ⟩:=h₂
   refine wpAny_bind (wpAny_newObj_type ?_)
   have hZ:t.heap.objs.size∉fp:=fun hm=>Nat.lt_irrefl _ (hfp _ hm)
   rw[nm]
   refine wpAny_pure ⟨plainId_quiet F.plain_min_loop _,k7 W bt hcmp t.heap.objs.size hZ (W.frame _ _ _ hst fun b _ o e=>Heap.get?_push_of_some _ e) (Heap.get?_push_size _ rfl) (fun hn h' tk hk=> ?_) fun hn v h' tk hP hk=> ?_⟩
   · exact hQ0 hn h' tk fun b o n1 e=>hk b o n1 (Nat.ne_of_lt (Heap.lt_size e)) (Heap.get?_push_of_some _ e)
   · exact hQ hn v h' tk hP fun b o n1 e=>hk b o n1 (Nat.ne_of_lt (Heap.lt_size e)) (Heap.get?_push_of_some _ e)
end
end L2
namespace WL
open PySem PySem.Spec PyProof.Rows L2
section
variable {X:Cx}
def vp (K:PySem.W.Frag)(te td:TE):TE:=fun σ H Q=>te σ H fun x H1=>td σ H1 fun d H2=> ∃ (l:Addr) (ns:List Int),x= .ref l /\ SqL K H2 l (ns.map V.int) /\ (ns= [] ->Q d H2) /\ ∀m,bY ns m ->Q (.int m) H2
theorem uA {e ed:Expr}{te td:TE}{p pos kpos:Pos}(hg:Gl X "min")(hm:X.mg "min" =none)(hc:X.calm=true)(ha:PE X e te)(hd:PE X ed td)
   (he:starEach [e] X.env= [(false,eval e X.env)]:=by rfl):PE X (.Call (.Name "min" p) [e] [⟨some "default",ed,kpos⟩] pos) (vp X.K te td):=by
 intro pins s σ H Q I h
 refine wpAny_Call_Name_kw (bK I hg hm Boot.«min» ?_ (by decide) (by decide))
 refine PyProof.Rows.callWith_kw ?_ (by rw[he];rfl) (by rw[he];rfl) rfl rfl
 rw[he]
 refine Calls.spliced_cons (thn (ha pins s σ H _ I h) fun u s1 ⟨x,H1,I1,r1,q1⟩=>Calls.spliced_nil ?_)
 refine kws_cons (thn (hd pins s1 σ H1 _ I1 q1) fun u2 s2 ⟨d,H2,I2,r2,q2⟩=>kws_nil ?_)
 obtain⟨l,ns,rfl,hs,q0,q⟩:=q2
 cases r1
 show wpAny _ _ (call (.builtin "min") [.ref l] [("default",u2)]) _ _ s2
 obtain⟨its,rv,ht,hz⟩:=I2.list hs
 have hh:X.A.in1.handled=none:=I2.ok.hd hc
 have hlen:its.toArray.size=ns.length:=by have:=rv.length;rw[List.length_map] at this;simpa using this.symm
 have hlt:l<s2.heap.objs.size:=by obtain⟨_,e,_⟩:=ht.isList;exact Heap.lt_size e
 refine pG (wpAny_pyIter_list ht.isList ?_)
 have hk: ∀h':Heap,(∀b o,b∉ [s2.heap.objs.size] ->(s2.heap.push {cls:= .type "list_iterator",data:= .fields #[.ref l, .int 0 s2.toks]}).get? b=some o ->h'.get? b=some o) -> ∀b o,s2.heap.get? b=some o ->h'.get? b=some o:=fun h' hk b o e=>
   hk b o (fun hI=>absurd (Heap.lt_size e) (by rw[List.mem_singleton.mp hI];exact Nat.lt_irrefl _)) (Heap.get?_push_of_some _ e)
 refine⟨s2.heap.objs.size,_,_,its.toArray.size,_,_,fun i j=>decide (ns.getD i 0<ns.getD j 0),rfl,Walks.list hh s2.heap.objs.size l (Nat.ne_of_lt hlt) its.toArray,⟨⟨_,Heap.get?_push_size _ rfl,rfl,rfl⟩,ht.isList.push _⟩,fun b hb=> ?_,PySem.CmpOf.ints_lt (fun i=>ns.getD i 0) (fun i v e=>let ⟨t,h,_⟩:=dY rv e;⟨t,h⟩),fun hn h' tk hm=> ?_,fun hn v h' tk e hm=> ?_⟩
 · show b< (s2.heap.push _).objs.size
   rw[Heap.size_push]
   rcases List.mem_cons.mp hb with rfl | hb
   · exact Nat.lt_succ_self _
   · rw[List.mem_singleton.mp hb];exact Nat.lt_succ_of_lt hlt
 · exact⟨d,H2,I2.kept (t':=tk) fun b o e=>hm b o (fun hI=>absurd (Heap.lt_size e) (by rw[List.mem_singleton.mp hI];exact Nat.lt_irrefl _)) (Heap.get?_push_of_some _ e),r2,q0 (List.length_eq_zero_iff.mp (by lia))⟩
 · obtain⟨t,rfl,_⟩:=dY rv e
   rw[hlen]
   exact⟨.int _,H2,I2.kept (t':=tk) fun b o e=>hm b o (fun hI=>absurd (Heap.lt_size e) (by rw[List.mem_singleton.mp hI];exact Nat.lt_irrefl _)) (Heap.get?_push_of_some _ e),⟨t,rfl⟩,q _ (lG (List.length_pos_iff.mp (by lia)))⟩
def rb (K:PySem.W.Frag):List V ->Hp ->VK ->Prop:=fun xs H Q=> ∃ (a:Addr) (ks:List Int),xs= [.ref a] /\ SqL K H a (ks.map V.int) /\ ∀ (p:Addr) (ns:List Int),H p=none ->ns.Perm ks ->ns.Pairwise (· <= ·) ->Q (.ref p) (upd H p (.lst (ns.map V.int)))
theorem mO:bB X (.builtin "sorted") (rb X.K):=by
 intro pins s σ H xs us Q I r h
 obtain⟨a,ks,rfl,hs,q⟩:=h
 obtain⟨u,rfl,ru⟩:=vals1 r
 cases ru
 obtain⟨its,rv,ht,hz⟩:=I.list hs
 have hI:IntsAre its ks:=fu rv
 have hl:its.length=ks.length:=by have:=rv.length;rw[List.length_map] at this;exact this.symm
 rw[List.length_map] at hz
 refine Calls.call_function_entry kind_sorted plain_sorted entry_sorted (args_sorted1 _) ?_
 unfold Builtin.«sorted»
 refine wpAny_bind (m:=checkCount "sorted" 1 1 _) (wpAny_pure ?_)
 obtain⟨o,ho,hc,n,hd⟩:=ht.isList
 refine wpAny_bind (wpAny_collect_seq a (.inl rfl) ho hc hd (fun h' hkp=> ?_) (by simp only[List.size_toArray];lia))
 simp only[List.toList_toArray]
 refine wpAny_bind (wpAny_newList ?_ (by rw[hl];exact hz))
 have ho:(h'.push (seqObj "list" its.toArray 0)).get? h'.objs.size=some (seqObj "list" its.toArray 0):=Heap.get?_push_size _ rfl
 refine wpAny_bind (wpAny_holding (wpAny_call_entry slot_list_sort ⟨_,ho,rfl⟩ entry_list_sort (TS.iT (s:= {s with heap:=h'.push (seqObj "list" its.toArray 0)}) ho hI (by rw[hl];exact hz) fun out ns' a1 a2 a3=>⟨_,rfl,?_⟩) (args_list_sort _)))
 obtain⟨ee,hat'⟩:=sortedHeap_at (out:=out) ho
 have I':Inv X pins σ H {s with heap:=h'}:=I.kept (t':=s.toks) hkp
 refine wpAny_pure ⟨_,rfl, .ref h'.objs.size,_,I'.laid (t':=s.toks) (o:= .lst (ns'.map V.int)) (fun b o hb=> ?_) (Nat.le_refl _) ?_,rfl,q _ ns' (I'.hok.fresh (Nat.le_refl _)) a2 a3⟩
 · have hlt:b<h'.objs.size:=Heap.lt_size hb
   rw[sortedHeap_old (Nat.ne_of_lt hlt) (by rw[Heap.size_push];exact Nat.lt_succ_of_lt hlt)]
   exact Heap.get?_push_of_some _ hb
 · refine⟨?_,out.toList,ee,dM a1,by simpa using hat'⟩
   rw[List.length_map,a2.length_eq]
   exact hz
def qx (ta:TA):TE:=fun σ H Q=>ta σ H fun vs H1=> ∃j:Int,vs= [.int j] /\ (-(2 ^ 62) <=j /\ j<2 ^ 62) /\ j.toNat<=100000 /\ ∀l,H1 l=none ->Q (.ref l) (upd H1 l (.lst (kJ 0 j.toNat)))
theorem l6 {a:Expr}{ta:TA}{p1 p2 pos1 pos2:Pos}(hgl:Gl X "list")(hml:X.mg "list" =none)(hg:Gl X "range")(hm:X.mg "range" =none)(hc:X.calm=true)(ha:PA X [a] ta)
   (hs:starEach [a] X.env= [(false,eval a X.env)]:=by rfl)
   (ht:starEach [.Call (.Name "range" p2) [a] [] pos2] X.env= [(false,eval (.Call (.Name "range" p2) [a] [] pos2) X.env)]:=by rfl):
   PE X (.Call (.Name "list" p1) [.Call (.Name "range" p2) [a] [] pos2] [] pos1) (qx ta):=by
 intro pins s σ H Q I h
 refine Call_ (bK I hgl hml boot_list (PyProof.Rows.callWith_type1 ?_ ht rfl))
 rw[ht]
 refine Calls.spliced_cons (Call_ (bK I hg hm boot_range (PyProof.Rows.callWith_type1 (thn (ha pos2 pins s σ H _ I h) fun us s1 ⟨vs,H1,I1,r1,q1⟩=> ?_) hs rfl)))
 obtain⟨j,e,⟨q3,q4⟩,hn,q⟩:=q1
 subst e
 cases r1 with
 | cons r rr=>
   cases rr
   obtain⟨t,rfl⟩:=r
   refine call_range_1 (Calls.spliced_nil ?_)
   have I2:Inv X pins σ H1 {s1 with heap:=s1.heap.push {cls:= .type "range",data:= .fields #[.int 0 s1.toks, .int j t, .int 1 (s1.toks+1)]},toks:=s1.toks+1+1}:=I1.kept fun b o e=>Heap.get?_push_of_some _ e
   refine call_list_range (n:=(j - 0).toNat) (I1.ok.hd hc) (IsRange.new ..) (small_one (by lia) (by lia) q3 q4) (by rw[rangeSize_one];split<;>lia) (by lia) fun h' tk acc' c' kp hg' items=> ?_
   have hv:=mV items
   rw[show(j - 0).toNat=j.toNat by rw[Int.sub_zero]] at hv
   refine⟨.ref _,_,I2.laid (t':=tk) kp (Nat.le_refl _) (show aW X.prog X.w _ h' _ (.lst (kJ 0 j.toNat)) from⟨?_,acc'.toList,c',hv,by simpa using hg'⟩),rfl,q _ (I2.hok.fresh (Nat.le_refl _))⟩
   unfold kJ
   rw[List.length_map,List.length_range]
   exact Nat.le_trans hn (by rw[sizeLine_eq];decide)
end
variable {K:PySem.W.Frag}
def p8 (a d:WE):WE:=fun ρ M q=>a ρ M fun x M1=>d ρ M1 fun y M2=> ∃ (l:Addr) (ns:List Int),x=wr l /\ M2 l=some (.lst (ns.map wi)) /\ (ns= [] ->q y M2) /\ ∀m,bY ns m ->q (wi m) M2
instance {t td:TE}{a d:WE} [ia:IE K t a] [id:IE K td d]:IE K (vp K t td) (p8 a d) where
 imp:=fun ρ M σ H q Q o h k=>ia.imp ρ M σ H _ _ o h fun x M1 v H1 h1 t1 m1 r1=>id.imp ρ M1 σ H1 _ _ (o.mv t1 m1) h1 fun y M2 u H2 ⟨l,ns,e,hl,q0,q1⟩ t2 m2 r2=>by
   subst e
   cases (r1.ts t2).eq
   obtain⟨vs,hv,rr⟩:=m2 l _ hl
   cases rr.ints
   exact⟨l,ns,rfl,SqL.of hv,fun e=>k _ _ _ _ (q0 e) (t1.trans t2) m2 r2,fun m hm=>k _ _ _ _ (q1 m hm) (t1.trans t2) m2 WR.v⟩
theorem wMinD_e {a d:WE}{ρ:WSt}{M:Mp}{q:WK}:p8 a d ρ M q=a ρ M fun x M1=>d ρ M1 fun y M2=> ∃ (l:Addr) (ns:List Int),x=wr l /\ M2 l=some (.lst (ns.map wi)) /\ (ns= [] ->q y M2) /\ ∀m,bY ns m ->q (wi m) M2:=rfl
def p6:WCl:=fun xs M q=> ∃ (a:Addr) (ks:List Int),xs= [wr a] /\ M a=some (.lst (ks.map wi)) /\ ∀ (p:Addr) (ns:List Int),M p=none ->ns.Perm ks ->ns.Pairwise (· <= ·) ->q (wr p) (um M p (.lst (ns.map wi)))
instance:IC K (rb K) p6 where
 imp:=by
   rintro xs v M H q Q m r1 ⟨a,ks,rfl,hl,h⟩ k
   obtain⟨v,rfl,r⟩:=r1.one
   cases r.eq
   obtain⟨vs,hv,rr⟩:=m a _ hl
   cases rr.ints
   exact⟨a,ks,rfl,SqL.of hv,fun p ns hp h1 h2=>k _ _ _ _ (h p ns (m.fresh hp) h1 h2) (L2.bz.ts (ay hp)) (m.newL hp (WRs.ofInts ns)) WR.v⟩
def qd (a:WA):WE:=fun ρ M q=>a ρ M fun xs M1=> ∃j:Int,xs= [wi j] /\ (-(2 ^ 62) <=j /\ j<2 ^ 62) /\ j.toNat<=100000 /\ ∀l,M1 l=none ->q (wr l) (um M1 l (.lst (bq 0 j.toNat)))
instance {t:TA}{a:WA} [ia:IA K t a]:IE K (qx t) (qd a) where
 imp:=fun ρ M σ H q Q o h k=>ia.imp ρ M σ H _ _ o h fun xs M1 vs H1 ⟨j,ex,h1,h2,h3⟩ t1 m1 r1=>by
   subst ex
   obtain⟨v,rfl,r⟩:=r1.one
   cases r.eq
   exact⟨j,rfl,h1,h2,fun p hp=>k _ _ _ _ (h3 p (m1.fresh hp)) (t1.trans (L2.bz.ts (ay hp))) (m1.newL hp (lX 0 _)) WR.v⟩
theorem qc {a:WA}{ρ:WSt}{M:Mp}{q:WK}:qd a ρ M q=a ρ M fun xs M1=> ∃j:Int,xs= [wi j] /\ (-(2 ^ 62) <=j /\ j<2 ^ 62) /\ j.toNat<=100000 /\ iM M1 fun l=>q (wr l) (um M1 l (.lst (bq 0 j.toNat))):=rfl
end WL
namespace WQ
open PySem L2 WL WP
def aA (s x:Int):Int:=if s=0 then x else x % s
def hI (s x:Int):Int:=if s=0 then 0 else x / s
def eJ:List Int ->Int
 | []=>0
 | a::r=>r.foldl (fun m x=>if x<m then x else m) a
def se:List Int ->Int
 | []=>0
 | a::r=>r.foldl (fun m x=>if m<x then x else m) a
theorem foldl_min (r:List Int): ∀a,(r.foldl (fun m x=>if x<m then x else m) a=a \/ r.foldl (fun m x=>if x<m then x else m) a∈r) /\ r.foldl (fun m x=>if x<m then x else m) a<=a /\ ∀x∈r,r.foldl (fun m x=>if x<m then x else m) a<=x:=by
 induction r with
 | nil=>intro a;simp
 | cons b r ih=>
   intro a
   obtain⟨h1,h2,h3⟩:=ih (if b<a then b else a)
   rw[List.foldl_cons]
   generalize List.foldl (fun m x=>if x<m then x else m) (if b<a then b else a) r=z at h1 h2 h3
   refine⟨?_,by split at h2<;>lia,fun x hx=> ?_⟩
   · rcases h1 with h1 | h1
     · split at h1
       · rw[h1];exact .inr List.mem_cons_self
       · exact .inl h1
     · exact .inr (List.mem_cons_of_mem _ h1)
   · rcases List.mem_cons.mp hx with rfl | hx
     · split at h2<;>lia
     · exact h3 x hx
theorem foldl_max (r:List Int): ∀a,(r.foldl (fun m x=>if m<x then x else m) a=a \/ r.foldl (fun m x=>if m<x then x else m) a∈r) /\ a<=r.foldl (fun m x=>if m<x then x else m) a /\ ∀x∈r,x<=r.foldl (fun m x=>if m<x then x else m) a:=by
 induction r with
 | nil=>intro a;simp
 | cons b r ih=>
   intro a
   obtain⟨h1,h2,h3⟩:=ih (if a<b then b else a)
   rw[List.foldl_cons]
   generalize List.foldl (fun m x=>if m<x then x else m) (if a<b then b else a) r=z at h1 h2 h3
   refine⟨?_,by split at h2<;>lia,fun x hx=> ?_⟩
   · rcases h1 with h1 | h1
     · split at h1
       · rw[h1];exact .inr List.mem_cons_self
       · exact .inl h1
     · exact .inr (List.mem_cons_of_mem _ h1)
   · rcases List.mem_cons.mp hx with rfl | hx
     · split at h2<;>lia
     · exact h3 x hx
theorem cD {l:List Int}(h:l≠ []):bY l (eJ l):=by
 cases l with
 | nil=>exact absurd rfl h
 | cons a r=>
   obtain⟨h1,h2,h3⟩:=foldl_min r a
   refine⟨?_,fun x hx=> ?_⟩
   · rcases h1 with h1 | h1
     · show List.foldl _ a r∈a::r
       rw[h1];exact List.mem_cons_self
     · exact List.mem_cons_of_mem _ h1
   · rcases List.mem_cons.mp hx with rfl | hx
     · exact h2
     · exact h3 x hx
theorem jR {l:List Int}(h:l≠ []):eh l (se l):=by
 cases l with
 | nil=>exact absurd rfl h
 | cons a r=>
   obtain⟨h1,h2,h3⟩:=foldl_max r a
   refine⟨?_,fun x hx=> ?_⟩
   · rcases h1 with h1 | h1
     · show List.foldl _ a r∈a::r
       rw[h1];exact List.mem_cons_self
     · exact List.mem_cons_of_mem _ h1
   · rcases List.mem_cons.mp hx with rfl | hx
     · exact h2
     · exact h3 x hx
def hts (s f:Int)(ns:List Int):List Int:=(ns.filter fun x=>decide (aA s x=f)).map (hI s)
def plc (l:Pt):List Int:=l.map (·.1)
def bE (s:Int)(st:Pt):Int:=eJ ((plc st).map (aA s))
def jy (s:Int)(st:Pt):Int:=se (hts s (bE s st) (plc st))
def lowB (s:Int)(sts:List Pt)(pat:Pt):Bool:=sts.all fun st=>(hts s (bE s st) (plc pat)).all fun x=>decide (0<=x /\ x<jy s st)
theorem wM {M:Mp}{t p:Addr}{o1 o2:MO}(ht:M t=none)(hp:um M t o1 p=none):Sm (um M p o2) (um (um M t o1) p o2):=fun b o e=>by
 by_cases hb:b=p
 · subst hb;rw[ab] at e ⊢;exact e
 · rw[ag hb] at e ⊢
   have:b≠t:=aZ e ht
   rw[ag this];exact e
def pCol:WSp:=fun xs M q=> ∃ (x s:Int),xs= [wi x,wi s] /\ 0<=s /\ s<2 ^ 30 /\ q (wi (aA s x)) M
def xh:WSp:=fun xs M q=> ∃ (a:Addr) (ns:List Int) (s:Int),xs= [wr a,wi s] /\ M a=some (.lst (ns.map wi)) /\ ns.length<=100000 /\ 0<=s /\ s<2 ^ 30 /\ (ns= [] ->q wn M) /\ (ns≠ [] ->q (wi (eJ (ns.map (aA s)))) M)
def pHts:WSp:=fun xs M q=> ∃ (a:Addr) (ns:List Int) (s f:Int),xs= [wr a,wi s,wi f] /\ M a=some (.lst (ns.map wi)) /\ ns.length<=100000 /\ 0<=s /\ s<2 ^ 30 /\ ∀ (p:Addr) (ms:List Int),M p=none ->ms.Perm (hts s f ns) ->ms.Pairwise (· <= ·) ->q (wr p) (um M p (.lst (ms.map wi)))
def uF:WSp:=fun xs M q=> ∃ (st:Pt) (s:Int),xs= [wi s,aQ st] /\ st≠ [] /\ st.length<=100000 /\ 0<=s /\ s<2 ^ 30 /\ q (wi (bE s st)) M
def aP (s:Int)(pat:Pt)(c:Int):List Int:=(plc pat).filter fun x=>decide (aA s x=c)
def xb:WSp:=fun xs M q=> ∃ (st:Pt) (s c:Int),xs= [wi s,aQ st,wi c] /\ st.length<=100000 /\ 0<=s /\ s<2 ^ 30 /\ ∀p,M p=none ->q (wr p) (um M p (.lst ((aP s st c).map wi)))
def f9 (s:Int)(st:Pt):Int:=((aP s st (bE s st)).getLastD 0 - (aP s st (bE s st)).headD 0) / (if s >1 then s else 1)
def pSize:WSp:=fun xs M q=> ∃ (st:Pt) (s:Int),xs= [wi s,aQ st] /\ st≠ [] /\ st.length<=100000 /\ 0<=s /\ s<2 ^ 30 /\ q (wi (f9 s st)) M
def jT (s:Int)(sts:List Pt)(pat:Pt):Bool:=sts.all fun st=>(aP s pat (bE s st)).all fun x=>decide (bE s st<=x /\ x<bE s st+f9 s st*(if s >1 then s else 1))
def pLies:WSp:=fun xs M q=> ∃ (sts:List Pt) (pat:Pt) (s:Int),xs= [wi s, .tup (sts.map aQ),aQ pat] /\ (∀st∈sts,st≠ [] /\ st.length<=100000) /\ pat.length<=100000 /\ 0<=s /\ s<2 ^ 30 /\ q (wb (jT s sts pat)) M
theorem fZ {ms:List Int}(h:ms≠ []):atI (ms.map wi) (-1)=some (wi (ms.getLastD 0)):=by
 have hl:0<ms.length:=List.length_pos_iff.mpr h
 have e:ixN (ms.map wi).length (-1)=some (ms.length - 1):=by
   rw[List.length_map]
   unfold ixN
   simp
   lia
 unfold atI
 rw[e]
 show(ms.map wi)[ms.length - 1]? =_
 rw[List.getElem?_map]
 have:ms[ms.length - 1]? =some (ms.getLastD 0):=by
   rw[<- List.getLast?_eq_getElem?]
   cases ms with
   | nil=>exact absurd rfl h
   | cons a r=>simp[List.getLast?_cons]
 rw[this];rfl
structure StOk (s:Int)(st:Pt)(c:Int):Prop where
 at_:c∈plc st
 own:aA s c=c
 ge: ∀x∈plc st,c<=aA s x
 up: ∀x∈plc st,aA s x=c ->c<=x
 len:st.length<=100
 ris:(plc st).Pairwise (· < ·)
theorem StOk.ne {s:Int}{st:Pt}{c:Int}(h:StOk s st c):st≠ []:=by
 rintro rfl;exact absurd h.at_ (by simp[plc])
theorem StOk.col {s:Int}{st:Pt}{c:Int}(h:StOk s st c):bE s st=c:=by
 have hne:(plc st).map (aA s)≠ []:=by
   intro e;have:=List.mem_map_of_mem (f:=aA s) h.at_;rw[e] at this;cases this
 refine bY.uniq (cD hne) ⟨List.mem_map.mpr ⟨c,h.at_,h.own⟩,fun x hx=> ?_⟩
 obtain⟨y,hy,rfl⟩:=List.mem_map.mp hx
 exact h.ge y hy
theorem StOk.head {s:Int}{st:Pt}{c:Int}(h:StOk s st c):(aP s st c).headD 0=c:=by
 have hm:c∈aP s st c:=List.mem_filter.mpr ⟨h.at_,by simpa using h.own⟩
 have hs:(aP s st c).Pairwise (· < ·):=h.ris.sublist (List.filter_sublist)
 cases e:aP s st c with
 | nil=>rw[e] at hm;cases hm
 | cons a r=>
   rw[e] at hm hs
   have ha:a∈aP s st c:=by rw[e];exact List.mem_cons_self
   have ha':=List.mem_filter.mp ha
   have:=h.up a ha'.1 (by simpa using ha'.2)
   rcases List.mem_cons.mp hm with h1 | h1
   · exact h1.symm
   · have:=(List.pairwise_cons.mp hs).1 c h1
     show a=c
     lia
theorem jS {l:List Int}(h:l.Pairwise (· <= ·))(hn:l≠ []):eh l (l.getLastD 0):=by
 induction l using WP.bT with
 | h0=>exact absurd rfl hn
 | h1 l a _=>
   have e:(l++ [a]).getLastD 0=a:=by simp
   rw[e]
   refine⟨by simp,fun x hx=> ?_⟩
   rcases List.mem_append.mp hx with hx | hx
   · exact(List.pairwise_append.mp h).2.2 x hx a (by simp)
   · rw[List.mem_singleton.mp hx];exact Int.le_refl _
theorem fX {s x:Int}(hs:0<s):x=aA s x+s*hI s x:=by
 unfold aA hI
 rw[if_neg (by lia),if_neg (by lia)]
 have:=Int.emod_add_mul_ediv x s
 lia
theorem StOk.size {s:Int}{st:Pt}{c:Int}(hs:0<=s)(h:StOk s st c):f9 s st=jy s st:=by
 have hc:=h.col
 have hh:=h.head
 have hm:c∈aP s st c:=List.mem_filter.mpr ⟨h.at_,by simpa using h.own⟩
 have hsp:(aP s st c).Pairwise (· <= ·):=(h.ris.sublist (List.filter_sublist)).imp fun a=>by lia
 have hne:aP s st c≠ []:=fun e=>by rw[e] at hm;cases hm
 have hl:=jS hsp hne
 unfold f9 jy
 rw[hc,hh]
 have e1:hts s c (plc st)=(aP s st c).map (hI s):=rfl
 have hne2:hts s c (plc st)≠ []:=by rw[e1];simpa using hne
 refine eh.uniq ?_ (jR hne2)
 generalize (aP s st c).getLastD 0=z at hl
 have hz:=List.mem_filter.mp hl.1
 have hzc:aA s z=c:=by simpa using hz.2
 rw[e1]
 rcases Int.lt_or_eq_of_le hs with h0 | h0
 · have key: ∀x∈aP s st c,hI s x=(x - c) / (if s >1 then s else 1):=fun x hx=>by
     have hx':=List.mem_filter.mp hx
     have hxc:aA s x=c:=by simpa using hx'.2
     have e:=fX (x:=x) h0
     rw[hxc] at e
     have e2:(if s >1 then s else 1)=s:=by split<;>lia
     rw[e2,show x - c=s*hI s x by lia,Int.mul_ediv_cancel_left _ (by lia)]
   refine⟨List.mem_map.mpr ⟨z,hl.1,key z hl.1⟩,fun y hy=> ?_⟩
   obtain⟨x,hx,rfl⟩:=List.mem_map.mp hy
   rw[key x hx]
   exact Int.ediv_le_ediv (by split<;>lia) (by have:=hl.2 x hx;lia)
 · subst h0
   have e3: ∀x:Int,hI 0 x=0:=fun x=>rfl
   have e4:z=c:=hzc
   subst e4
   refine⟨List.mem_map.mpr ⟨z,hl.1,by simp[hI]⟩,fun y hy=> ?_⟩
   obtain⟨x,hx,rfl⟩:=List.mem_map.mp hy
   simp[hI]
theorem si {s:Int}{sts:List Pt}{pat:Pt}(hs:0<=s)(h: ∀st∈sts, ∃c,StOk s st c):lowB s sts pat=jT s sts pat:=by
 unfold lowB jT
 rw[Bool.eq_iff_iff,List.all_eq_true,List.all_eq_true]
 have one : ∀st∈sts,((hts s (bE s st) (plc pat)).all fun x=>decide (0<=x /\ x<jy s st))=((aP s pat (bE s st)).all fun x=>decide (bE s st<=x /\ x<bE s st+f9 s st*(if s >1 then s else 1))):=fun st hst=>by
   obtain⟨c,hc⟩:=h st hst
   rw[hc.size hs,hc.col]
   have e1:hts s c (plc pat)=(aP s pat c).map (hI s):=rfl
   rw[e1,List.all_map]
   rw[Bool.eq_iff_iff,List.all_eq_true,List.all_eq_true]
   have each: ∀x∈aP s pat c,(0<=hI s x /\ hI s x<jy s st)↔(c<=x /\ x<c+jy s st*(if s >1 then s else 1)):=fun x hx=>by
     have hx':=List.mem_filter.mp hx
     have hxc:aA s x=c:=by simpa using hx'.2
     rcases Int.lt_or_eq_of_le hs with h0 | h0
     · have e:=fX (x:=x) h0
       rw[hxc] at e
       have e2:(if s >1 then s else 1)=s:=by split<;>lia
       rw[e2]
       generalize hI s x=y at e ⊢
       generalize jy s st=z
       rw[e]
       constructor
       · rintro⟨a,b⟩
         refine⟨by have:=Int.mul_nonneg hs a;lia,?_⟩
         have:=Int.mul_lt_mul_of_pos_right b h0
         rw[Int.mul_comm s y];lia
       · rintro⟨a,b⟩
         refine⟨?_,?_⟩
         · exact Int.nonneg_of_mul_nonneg_right (a:=s) (by lia) h0
         · rw[Int.mul_comm z s] at b
           exact Int.lt_of_mul_lt_mul_left (a:=s) (by lia) hs
     · subst h0
       have:x=c:=hxc
       subst this
       simp[hI]
       lia
   constructor
   · intro hh x hx
     have:=hh x hx
     simp only[Function.comp,decide_eq_true_eq] at this ⊢
     exact(each x hx).mp this
   · intro hh x hx
     have:=hh x hx
     simp only[Function.comp,decide_eq_true_eq] at this ⊢
     exact(each x hx).mpr this
 constructor
 · intro hh st hst;rw[<- one st hst];exact hh st hst
 · intro hh st hst;rw[one st hst];exact hh st hst
def SmB (d:Addr)(M M':Mp):Prop:= ∀b o,b≠d ->M b=some o ->M' b=some o
theorem SmB.refl (d:Addr)(M:Mp):SmB d M M:=fun _ _ _ h=>h
theorem SmB.trans {d:Addr}{M M1 M2:Mp}(a:SmB d M M1)(b:SmB d M1 M2):SmB d M M2:=fun c o n h=>b c o n (a c o n h)
theorem SmB.nb {d:Addr}{M M':Mp}(h:NB d M M'):SmB d M M':=fun b o n e=>(h b n).trans e
theorem SmB.sm {d:Addr}{M M':Mp}(h:Sm M M'):SmB d M M':=fun b o _ e=>h b o e
theorem SmB.um {d p:Addr}{M M':Mp}{o:MO}(h:SmB d M M')(hp:M p=none):SmB d M (um M' p o):=fun b u n e=>by
 rw[ag (aZ e hp)];exact h b u n e
structure Pre (s c p:Int)(ps:Pt):Prop where
 each: ∀z∈ps,(∃k:Int,0<=k /\ z.1=c+k*s) \/ c<aA s z.1
 lit:tot ps c % p≠0
def bO (s c:Int):Prop:=s=0 \/ (0<=c /\ c<s)
theorem bO.own {s c:Int}(h:bO s c):aA s c=c:=by
 unfold aA
 rcases h with h | ⟨h1,h2⟩
 · rw[if_pos h]
 · rw[if_neg (by lia)];exact Int.emod_eq_of_lt h1 h2
theorem bO.on {s c:Int}(h:bO s c)(k:Int):aA s (c+k*s)=c:=by
 have:=h.own
 unfold aA at this ⊢
 split
 · rename_i e;subst e;simp
 · rename_i e;rw[if_neg e] at this;rw[Int.add_mul_emod_self_right];exact this
theorem Pre.st {s c p:Int}{ps:Pt}(p0:0<p)(hc:bO s c)(h:Pre s c p ps)(hl:ps.length<=100):StOk s (nrm p ps) c:=by
 have hP:=bV p0 ps
 have inn: ∀x∈plc (nrm p ps), ∃q∈ps,q.1=x:=fun x hx=>by
   obtain⟨z,hz,rfl⟩:=List.mem_map.mp hx
   exact md hz
 refine⟨?_,hc.own,fun x hx=> ?_,fun x hx e=> ?_,Nat.le_trans (nN p ps) hl,?_⟩
 · by_cases hm:c∈plc (nrm p ps)
   · exact hm
   · refine absurd ?_ h.lit
     rw[<- cB p0]
     exact bo fun q hq e=>hm (List.mem_map.mpr ⟨q,hq,e⟩)
 · obtain⟨q,hq,rfl⟩:=inn x hx
   rcases h.each q hq with⟨k,k0,e⟩ | e
   · rw[e,hc.on];exact Int.le_refl _
   · lia
 · obtain⟨q,hq,rfl⟩:=inn x hx
   rcases h.each q hq with⟨k,k0,e1⟩ | e1
   · rw[e1]
     rcases hc with h0 | h0
     · subst h0;simp
     · have:=Int.mul_nonneg k0 (show 0<=s by lia);lia
   · lia
 · unfold plc
   exact List.pairwise_map.mpr hP.2
theorem Pre.two {s c p r m:Int}{mids:Pt}(r0:0<=r)(r1:1+r<p)(hs:0<s)(hm:0<m)(hmid: ∀z∈mids, ∃k:Int,1<=k /\ z.1=c+k*s):Pre s c p ([(c,1+r),(c+m*s,1)]++mids):=by
 have pos: ∀k:Int,1<=k ->0<k*s:=fun k hk=>Int.mul_pos (by lia) hs
 refine⟨fun z hz=> .inl ?_,?_⟩
 · rcases List.mem_append.mp hz with hz | hz
   · rcases List.mem_cons.mp hz with rfl | hz
     · exact⟨0,Int.le_refl _,by simp⟩
     · rw[List.mem_singleton.mp hz];exact⟨m,by lia,rfl⟩
   · obtain⟨k,k1,e⟩:=hmid z hz
     exact⟨k,by lia,e⟩
 · have e1:tot mids c=0:=ju fun q hq e=>by
     obtain⟨k,k1,e2⟩:=hmid q hq
     have:=pos k k1;lia
   have e2:tot [(c,1+r),(c+m*s,1)] c=1+r:=by
     have:=pos m (by lia)
     have ne:¬c+m*s=c:=by lia
     simp[tot,ne]
   rw[cu,e1,e2,Int.add_zero,Int.emod_eq_of_lt (by lia) r1];lia
theorem Pre.snoc {s c p:Int}{ps:Pt}{z:Int×Int}(hc:bO s c)(h:Pre s c p ps)(hz:c<aA s z.1):Pre s c p (ps++ [z]):=by
 refine⟨fun q hq=> ?_,?_⟩
 · rcases List.mem_append.mp hq with hq | hq
   · exact h.each q hq
   · rw[List.mem_singleton.mp hq];exact .inr hz
 · rw[cQ,if_neg (fun e=>by rw[e,hc.own] at hz;lia),Int.add_zero];exact h.lit
end WQ
namespace WL
theorem len1 {α:Type}{l:List α}(h:l.length=1): ∃a,l= [a]:=List.length_eq_one_iff.mp h
theorem lenS {α:Type}{l:List α}{n:Nat}(h:l.length=n+1): ∃a r,l=a::r /\ r.length=n:=by
 cases l with
 | nil=>cases h
 | cons a r=>exact⟨a,r,rfl,by simpa using h⟩
theorem sj {α:Type}{l:List α}(h:l.length=2): ∃a b,l= [a,b]:=by obtain⟨a,r,rfl,g⟩:=lenS h;obtain⟨b,rfl⟩:=len1 g;exact⟨a,b,rfl⟩
end WL
namespace L2
open PySem
structure Cla (K:PySem.W.Frag)(mg:Str ->Option Value)(x qual:Str)(ps:List Str)(st:Stmt)(C f:Addr)(fd:FuncData):Prop where
 at_:mg x=some (.ref C)
 mkr:Mk K C f
 cl:Cls K C
 fn:Fun K "__init__" qual st f fd
 bd:Binds K fd ps []
section
variable {X:Cx}{k:Nat}{f C:Addr}{fd:FuncData}{ps:List Str}{sp:Sp}{x qual:Str}{st:Stmt}{p pos:Pos}{e:Expr}{es:List Expr}{t:TA}
theorem ff (M:Cla X.K X.mg x qual ps st C f fd)(F:FnOk X.prog X.w X.K X.mg X.base CX0 k f fd ps sp)(hr:Room (k+1) X.A)(hg:Gl X x)
   (ha:PA X (e::es) t) (hdb:(x==("__debug__" :Str))=false:=by decide) (he:starEach (e::es) X.env=(false,eval e X.env)::starEach es X.env:=by rfl) (hpl:(backTo pos (starEach es X.env)).any (·.1)=false:=by rfl):
   PE X (.Call (.Name x p) (e::es) [] pos) (qu C sp [] E0 t):=uB M.mkr F hr hg M.at_ M.bd .nil vK ha hdb he hpl
end
end L2
namespace WL
open PySem L2
section
variable {K:PySem.W.Frag}
theorem k9 {H:Hp}{f:Str}{x:W}: ∀ {fs:List (Str×W)} {ks:List (Str×V)},KR K H fs ks ->fs.lookup f=Option.some x -> ∃v,ks.lookup f=Option.some v /\ WR K H x v
 | _,_, .nil,h=>by cases h
 | (g,y)::fs,(g',v)::ks, .cons ⟨e,r⟩ t,h=>by
   cases (show g=g' from e)
   rw[List.lookup_cons] at h ⊢
   cases hb:f==g with
   | true=>rw[hb] at h;cases h;exact⟨v,rfl,r⟩
   | false=>rw[hb] at h;exact k9 t h
def du (f:Str)(v:W):List (Str×W) ->List (Str×W)
 | []=> [(f,v)]
 | (g,x)::r=>if g=f then(g,v)::r else(g,x)::du f v r
theorem nQ {H:Hp}{f:Str}{x:W}{v:V}(rx:WR K H x v): ∀ {fs:List (Str×W)} {ks:List (Str×V)},KR K H fs ks ->KR K H (du f x fs) (L2.cV f v ks)
 | _,_, .nil=> .cons ⟨rfl,rx⟩ .nil
 | (g,y)::fs,(g',u)::ks, .cons ⟨e,r⟩ t=>by
   cases (show g=g' from e)
   unfold du L2.cV
   split
   · exact .cons ⟨rfl,rx⟩ t
   · exact .cons ⟨rfl,r⟩ (nQ rx t)
theorem nR {H:Hp}: ∀ {kvs:List (Str×W)} {vs:List (Str×V)},KR K H kvs vs ->kvs.length=vs.length
 | _,_, .nil=>rfl
 | _,_, .cons _ t=>by rw[List.length_cons,List.length_cons,nR t]
def wFld (K:PySem.W.Frag)(a:WE)(f:Str):WE:=fun ρ M q=>a ρ M fun x M1=> ∃p C dx fs v,x=wr p /\ M1 p=some (.ins C dx fs) /\ Cls K C /\ a8 K C f /\ fs.lookup f=some v /\ q v M1
instance {t:TE}{a:WE}{f:Str} [ia:IE K t a]:IE K (tFld K t f) (wFld K a f) where
 imp:=fun ρ M σ H q Q o h k=>ia.imp ρ M σ H _ _ o h fun x M1 v H1 ⟨p,C,dx,fs,y,ex,hp,hc,hn,hl,h1⟩ t1 m1 r1=>by
   subst ex
   obtain⟨ks,e,r⟩:=m1 p _ hp
   obtain⟨u,hu,ru⟩:=k9 r hl
   exact⟨p,C,dx,ks,u,r1.eq,e,hc,hn,hu,k _ _ _ _ h1 t1 m1 ru⟩
def qX (K:PySem.W.Frag)(a b:WE)(f:Str):WS:=fun D ρ M=>b ρ M fun y M1=>a ρ M1 fun x M2=> ∃p C dx fs,x=wr p /\ M2 p=some (.ins C dx fs) /\ Cls K C /\ a8 K C f /\ fs.length<1000 /\ D.nx ρ (um M2 p (.ins C dx (du f y fs)))
instance {t u:TE}{a b:WE}{f:Str} [ia:IE K t a] [ib:IE K u b]:IS K (sFld K t u f) (qX K a b f) where
 imp:=fun ρ M σ H D' D o h e=>ib.imp ρ M σ H _ _ o h fun y M1 v1 H1 h1 t1 m1 r1=>ia.imp ρ M1 σ H1 _ _ (o.mv t1 m1) h1 fun x M2 v2 H2 ⟨p,C,dx,fs,ex,hp,hc,hn,hl,h2⟩ t2 m2 r2=>by
   subst ex
   obtain⟨ks,ek,r⟩:=m2 p _ hp
   have ts:=wB (u:= .ins C dx (cV f v1 ks)) ek
   refine⟨p,C,dx,ks,r2.eq,ek,hc,hn,by rw[<- nR r];exact hl,e.nx ρ _ σ _ h2 ((t1.trans t2).trans ts) (o.mv ((t1.trans t2).trans ts) (m2.put ts ⟨_,aw,KR.ts ts (nQ (r1.ts t2) r)⟩))⟩
def ve (C:Addr)(p:WSp)(a:WA):WE:=fun ρ M q=>a ρ M fun xs M1=> ∀x dx,M1 x=none ->M1 dx=none ->dx≠x ->p (wr x::xs) (um M1 x (.ins C dx [])) fun v M2=>v=wn /\ q (wr x) M2
instance {C:Addr}{p:WSp}{E:XK}{t:TA}{a:WA} [ia:IA K t a]:IE K (qu C (spW K p) [] E t) (ve C p a) where
 imp:=fun ρ M σ H q Q o h k=>ia.imp ρ M σ H _ _ o h fun xs M1 vs H1 h1 t1 m1 r1=>fun x dx hx hdx hne=>by
   have hx2:upd H1 dx (.own x) x=none:=by rw[ar (Ne.symm hne)];exact hx
   have ts1:ao H1 (upd H1 dx (.own x)):=L2.bz.ts (ay hdx)
   have ts2:ao (upd H1 dx (.own x)) (upd (upd H1 dx (.own x)) x (.ins C dx [])):=L2.bz.ts (ay hx2)
   refine⟨wr x::xs,um M1 x (.ins C dx []),fun v M2=>v=wn /\ q (wr x) M2,WRs.cons WR.v (by rw[List.append_nil];exact r1.ts (ts1.trans ts2)),(m1.new hdx).put ts2 ⟨[],aw, .nil⟩,h1 x dx (m1.fresh hx) (m1.fresh hdx) hne,?_⟩
   rintro y M' u H' ⟨rfl,hq⟩ ts m' r'
   exact⟨r'.eq,k _ _ _ _ hq (t1.trans ((ts1.trans ts2).trans ts)) m' WR.v⟩
def sI (o:Option MO)(k:Addr ->Addr ->List (Str×W) ->Prop):Prop:= ∃C dx fs,o=some (.ins C dx fs) /\ k C dx fs
theorem insK_e {C dx:Addr}{fs:List (Str×W)}{k:Addr ->Addr ->List (Str×W) ->Prop}:sI (some (.ins C dx fs)) k=k C dx fs:=by
 apply propext;constructor
 · rintro⟨_,_,_,e,h⟩;cases e;exact h
 · intro h;exact⟨_,_,_,rfl,h⟩
theorem wFld_e {a:WE}{f:Str}{ρ:WSt}{M:Mp}{q:WK}:wFld K a f ρ M q=a ρ M fun x M1=>cz x fun p=>sI (M1 p) fun C dx fs=>b8 (Cls K C) (b8 (a8 K C f) (iJ (fs.lookup f) fun v=>q v M1)):=by
 unfold wFld cz sI b8 iJ;congr 1;funext x M1;apply propext;constructor
 · rintro⟨p,C,dx,fs,v,e1,e2,e3,e4,e5,h⟩;exact⟨p,e1,C,dx,fs,e2,e3,e4,v,e5,h⟩
 · rintro⟨p,e1,C,dx,fs,e2,e3,e4,v,e5,h⟩;exact⟨p,C,dx,fs,v,e1,e2,e3,e4,e5,h⟩
theorem sFldW_e {a b:WE}{f:Str}{D:WEnds}{ρ:WSt}{M:Mp}:qX K a b f D ρ M=b ρ M fun y M1=>a ρ M1 fun x M2=>cz x fun p=>sI (M2 p) fun C dx fs=>b8 (Cls K C) (b8 (a8 K C f) (b8 (fs.length<1000) (D.nx ρ (um M2 p (.ins C dx (du f y fs)))))):=by
 unfold qX cz sI b8;congr 1;funext y M1;congr 1;funext x M2;apply propext;constructor
 · rintro⟨p,C,dx,fs,e1,e2,e3,e4,e5,h⟩;exact⟨p,e1,C,dx,fs,e2,e3,e4,e5,h⟩
 · rintro⟨p,e1,C,dx,fs,e2,e3,e4,e5,h⟩;exact⟨p,C,dx,fs,e1,e2,e3,e4,e5,h⟩
theorem jq {C:Addr}{p:WSp}{a:WA}{ρ:WSt}{M:Mp}{q:WK}:ve C p a ρ M q=a ρ M fun xs M1=> ∀x dx,M1 x=none ->M1 dx=none ->dx≠x ->vY p (wr x::xs) (um M1 x (.ins C dx [])) fun v M2=>v=wn /\ q (wr x) M2:=rfl
end
end WL
namespace L2
open PySem
def vS (s:Stmt)(j:Nat):Stmt:=match s with
 | .ClassDef _ _ _ b _ _ _ _ _ _ _=>b.getD j (.Pass ⟨0,0,0,0⟩)
 | _=> .Pass ⟨0,0,0,0⟩
end L2
namespace L2
open PySem PySem.Spec PyProof.Rows
def ItI (d:Addr)(o:Obj)(kvs:List (Key×V)):It:=⟨fun i H=>i<kvs.length /\ H d=some (.frz o (.dK kvs)),fun i H x H'=> ∃p kv,H p=none /\ kvs[i]? =some kv /\ H'=upd H p (.tup [kV kv.1,kv.2]) /\ x= .ref p,fun i H=>kvs.length<=i /\ H d=some (.frz o (.dK kvs))⟩
theorem mB: ∀ {kvs:List (Key×V)} {vs:List (Key×Value)} {i:Nat} {q:Key×Value},KV kvs vs ->vs[i]? =some q -> ∃p,kvs[i]? =some p /\ p.1=q.1 /\ RelV p.2 q.2
 | _,_,0,_, .cons ⟨e0,r⟩ _,e=>by cases e;exact⟨_,rfl,e0,r⟩
 | _,_,i+1,q, .cons _ t,e=>by
   have e':_=some q:=e
   rw[List.getElem?_cons_succ] at e' ⊢
   exact mB t e'
theorem jV {k:Key}{u:Value}(h:fq k u=true):RelV (kV k) u:=by
 rcases aT h with⟨i,t,rfl,rfl⟩ | ⟨x,t,rfl,rfl⟩
 · exact⟨t,rfl⟩
 · exact⟨t,rfl⟩
theorem lP {P:Program}{w:World}{K:PySem.W.Frag}{elts:List Expr}{x1}{pos:Pos}{d it:Addr}{o:Obj}{kvs:List (Key×V)}{es:Array DictEntry}{ep:Nat}(ho:o.data= .dict es ep)(hne:d≠it):
   Turn P w K (.Tuple elts x1 pos) (ItI d o kvs) [it] it (fun i h=> ∃ok ov,IsItemIter h it d i kvs.length ep ok ov) where
 mem:=by simp
 obj:=fun i h st b hb=>by
   have e:b=it:=by simpa using hb
   subst e
   obtain⟨ok,ov,e⟩:=st
   exact⟨_,e,fun v z=>nomatch z⟩
 keep:=fun i h h' ⟨ok,ov,e⟩ k=>⟨ok,ov,k it (by simp) _ e⟩
 item:=by
   intro X hP hw hK hc i pins s σ H E I hf st hg
   subst hP hw hK
   obtain⟨hi,hH⟩:=hg
   obtain⟨vs,rel,hd⟩:=sS I ho hH
   have hl:=rel.length
   obtain⟨ok,ov,st⟩:=st
   rw[hl] at st hi
   have fp:=hf it (by simp)
   obtain⟨⟨k,x⟩,hx⟩: ∃q,vs[i]? =some q:=⟨vs[i],by simp[hi]⟩
   obtain⟨p,hp,ep1,rp⟩:=mB rel hx
   refine wpAny_pyNext_items_item st hd hx fun key h' hkey hout ht hsz hk=> ?_
   refine⟨_,rfl,wpAny_letOwnedTupleGo_items hout fun h2 he2 hs2=> ?_⟩
   have hes:s.heap.objs.size≠it:=Nat.ne_of_gt (Heap.lt_size st)
   have rk:RelV (kV p.1) key:=by rw[ep1];exact jV hkey
   refine⟨.ref s.heap.objs.size,upd H s.heap.objs.size (.tup [kV p.1,p.2]),EN.nW (t':=s.toks) I (fun b o hb _ q=>(hs2.2 b hb).trans (hk b o hb q)) fp fp ⟨by rw[sizeLine_eq];show 2<=16777216;decide,[key,x], .cons rk (.cons rp .nil),?_⟩,rfl,⟨_,p,I.hok.fresh (Nat.le_refl _),hp,rfl,rfl⟩,⟨key,x,by rw[hl];exact he2⟩,fun b hb=> ?_⟩
   · exact⟨_,(hs2.2 _ hes).trans ht,rfl,_,rfl,rfl⟩
   · have e:b=it:=by simpa using hb
     subst e
     rw[ar (Ne.symm hes)];exact fp.1
 done:=by
   intro X hP hw hK hc i pins s σ H E I hf st hg
   subst hP hw hK
   obtain⟨hi,hH⟩:=hg
   obtain⟨vs,rel,hd⟩:=sS I ho hH
   have hl:=rel.length
   obtain⟨ok,ov,st⟩:=st
   rw[hl] at st hi
   obtain⟨f0,f1,f2,f3,f4,f5⟩:=hf it (by simp)
   exact wpAny_pyNext_items_end (I.ok.hd hc) st hd (by simp;lia) fun h' eb=>⟨rfl,I.turned (t':=s.toks) (fun b o hb e=>eb b o hb e) f0 f1 f3 f4 f5⟩
 self:=fun _ _ _ _ _ st h=>let ⟨_,_,e⟩:=st;PySem.W.kcp_self e h
section
variable {X:Cx}{elts:List Expr}{x1:_}{tpos:Pos}{o:Expr}{td:TE}{apos cpos:Pos}
def sL (td:TE):TI:=fun σ H R=>td σ H fun x H1=> ∃d kvs,x= .ref d /\ H1 d=some (.dK kvs) /\ ∀o,R (ItI d o kvs) (upd H1 d (.frz o (.dK kvs)))
theorem kO {tg:Expr}(et:tg= .Tuple elts x1 tpos)(ho:PE X o td)(hbase:attributeBase o "items" X.env (eval o X.env)=eval o X.env:=by rfl)(hline:(apos.endLine==cpos.line)=true:=by rfl):PI X tg (.Call (.Attribute o "items" apos) [] [] cpos) (sL td):=by
 subst et
 intro pins s σ H R I h
 refine wpAny_Call_method0_late hbase hline (thn (ho pins s σ H _ I h) fun v s1 ⟨x,H1,I1,r1,d,kvs,ex,hd,q1⟩=> ?_)
 subst ex
 obtain rfl:v=Value.ref d:=r1
 obtain⟨t1,t2,sys⟩:=jX I1 (.inl ⟨kvs, .inl hd⟩)
 refine⟨"dict","dict.items",PySem.F.plainAttrs_dict,PySem.F.slot_dict_items,PySem.F.type_dict_items,t1,t2,Calls.callWith_builtin rfl (PySem.evalArgs_none ?_)⟩
 obtain⟨z,hsys,vs,rel,dd⟩:=gi I1.hok (.inl hd)
 refine call_meetsIn PySem.F.slot_dict_items dd.typeIs PySem.F.entry_dict_items (PySem.F.args_dict_items_1 _) (meets_dict_items (aC X.prog X.w) d hsys) ⟨⟨vs,dd⟩,?_⟩
 obtain⟨ob,es,ep,g1,g2,g3,g4⟩:=dd
 have da:s1.heap.DictAt (aC X.prog X.w) d vs ep:=⟨ob,es,g1,g2,g3,g4⟩
 have hdl:d<s1.heap.objs.size:=Heap.lt_size g1
 refine wpAny_pyIter_items (d:=d) (kvs:=vs) (ep:=ep) (knd:=aC X.prog X.w) ⟨_,Heap.get?_push_size _ rfl,rfl,rfl⟩ (da.push _) ?_
 have I2:=I1.freeze hd g1
 refine⟨_,[_],_,ItI d ob kvs,_,rfl,I2.kept (t':=s1.toks) fun b o e=>Heap.get?_push_of_some _ (Heap.get?_push_of_some _ e),lP g3 ?_,?_,fun b hb=> ?_,q1 ob⟩
 · show d≠(s1.heap.push _).objs.size
   rw[Heap.size_push];lia
 · rw[rel.length]
   exact⟨_,_,Heap.get?_push_size _ rfl⟩
 · have I3:Inv X pins σ (upd H1 d (.frz ob (.dK kvs))) {s1 with heap:=s1.heap.push {cls:= .type "dict_items",data:= .fields #[.ref d]}}:=I2.kept (t':=s1.toks) fun b o e=>Heap.get?_push_of_some _ e
   have e:=List.mem_singleton.mp hb
   subst e
   exact I3.fpOk (Nat.le_refl _) (I3.hok.fresh (Nat.le_refl _))
end
theorem Inv.thaw {X:Cx}{pins:List (Addr×Obj)}{σ:St}{H:Hp}{s:Shared}{d:Addr}{kvs:List (Key×V)}{o:Obj}(I:Inv X pins σ H s)(e:H d=some (.frz o (.dK kvs)))(h0: ∀o u,X.H₀ d≠some (.frz o u)):
   Inv X pins σ (upd H d (.dK kvs)) s:=by
 have ne: ∀ {b u},H b=some u ->u≠ .frz o (.dK kvs) ->b≠d:=fun {b u} h n z=>by subst z;rw[e] at h;exact n (Option.some.inj h).symm
 have ne0: ∀ {b},H b=none ->b≠d:=fun {b} h z=>by subst z;rw[e] at h;cases h
 refine⟨I.ok,I.os,I.bare,⟨I.base.keep,I.base.slot,fun b u h1 h2 h3=> ?_,I.base.there,fun b xs h=> ?_,fun b o' u h=> ?_,fun b ps h=> ?_⟩,I.loc,I.cell,?_,fun x c h=> ?_,fun p hp=> ?_,fun b u h=> ?_,I.len⟩
 · have z:=I.base.free b u h1 h2 h3
   rw[ar (ne0 z)];exact z
 · have z:=I.base.tups b xs h
   rw[ar (ne z (fun q=>nomatch q))];exact z
 · have z:=I.base.frzs b o' u h
   have nb:b≠d:=fun z=>h0 o' u (z▸h)
   rw[ar nb];exact z
 · obtain⟨more,z⟩:=I.base.tbls b ps h
   exact⟨more,by rw[ar (ne z (fun q=>nomatch q))];exact z⟩
 · rw[ar (ne0 I.free)];exact I.free
 · rw[ar (ne0 (I.freeC x c h))];exact I.freeC x c h
 · obtain⟨a1,a2,a3⟩:=I.pin p hp
   exact⟨a1,by rw[ar (ne0 a2)];exact a2,a3⟩
 · have ow: ∀c,H c=some (.own b) ->upd H d (.dK kvs) c=some (.own b):=fun c r=>by rw[ar (ne r (fun q=>nomatch q))];exact r
   have tu: ∀c xs,H c=some (.tup xs) ->upd H d (.dK kvs) c=some (.tup xs):=fun c xs r=>by rw[ar (ne r (fun q=>nomatch q))];exact r
   by_cases hb:b=d
   · subst hb
     rw[aw] at h
     cases h
     have z:=(I.hok b _ e).stay (H':=upd H b (.dK kvs)) (h':=s.heap) (fun _ _ _ h=>h) ow tu
     exact z.2
   · rw[ar hb] at h
     exact(I.hok b u h).stay (fun _ _ _ h=>h) ow tu
def vz (t:TS):TS:=fun D σ H=> ∃d kvs,H d=some (.dK kvs) /\ t {D with nx:=fun σ' H'=> ∃o us,H' d=some (.frz o (.dK us)) /\ D.nx σ' (upd H' d (.dK us))} σ H
theorem nG {X:Cx}{st:Stmt}{t:TS}(h:PS X st t):PS X st (vz t):=by
 rintro pins s σ H D I ⟨d,kvs,hd,ht⟩
 have h0: ∀o u,X.H₀ d≠some (.frz o u):=fun o u e=>by
   have:=I.base.frzs d o u e
   rw[hd] at this;cases this
 refine thn (h pins s σ H _ I ht) fun fl s' hs=> ?_
 cases fl with
 | next=>obtain⟨σ',H',I',o,us,e,q⟩:=hs;exact⟨σ',_,I'.thaw e h0,q⟩
 | ret v=>exact hs
 | brk=>exact hs
 | cont=>exact hs
end L2
namespace WL
open PySem L2
variable {K:PySem.W.Frag}
def mE (a:WE):WI:=fun ρ M q=>a ρ M fun x M1=> ∃d kvs,x=wr d /\ M1 d=some (.dK kvs) /\ ∀o ks,q (kvs.map fun kv=> .tup [bA kv.1,kv.2]) (fun M'=>M' d=some (.fz o ks kvs)) (um M1 d (.fz o ks kvs))
theorem mC: ∀ {H:Hp} {kvs:List (Key×W)} {vs:List (Key×V)} {i:Nat} {q:Key×V},KR K H kvs vs ->vs[i]? =some q -> ∃p,kvs[i]? =some p /\ p.1=q.1 /\ WR K H p.2 q.2
 | _,_,_,0,_, .cons ⟨e0,r⟩ _,e=>by cases e;exact⟨_,rfl,e0,r⟩
 | _,_,_,i+1,q, .cons _ t,e=>by
   have e':_=some q:=e
   rw[List.getElem?_cons_succ] at e' ⊢
   exact mC t e'
theorem mG {H1:Hp}{d:Addr}{o:Obj}{kvs:List (Key×W)}{ks:List (Key×V)}:tP K H1 (ItI d o ks) (kvs.map fun kv=> .tup [bA kv.1,kv.2]) (fun M'=>M' d=some (.fz o ks kvs)):=by
 intro i M H t m hM
 obtain⟨e1,r1⟩:=m d _ hM
 have hl:=ik r1
 rw[List.length_map]
 refine⟨fun h=>⟨by lia,e1⟩,fun h=>⟨by lia,e1⟩,fun v H' hi ⟨p,kv,hp,hk,e2,e3⟩=> ?_⟩
 subst e2 e3
 obtain⟨p2,hp2,e4,rp⟩:=mC r1 hk
 have ts:ao H (upd H p (.tup [kV kv.1,kv.2])):=L2.bz.ts (ay hp)
 refine⟨ts,m.new hp, .tup [bA p2.1,p2.2],by rw[List.getElem?_map,hp2];rfl,WR.mkT (SqT.of aw) (WRs.cons ?_ (WRs.cons (rp.ts ts) WRs.nil))⟩
 rw[e4]
 cases kv.1<;>exact WR.v
instance {t:TE}{a:WE} [ia:IE K t a]:II K (sL t) (mE a) where
 imp:=fun ρ M σ H q R o h k=>ia.imp ρ M σ H _ _ o h fun x M1 v H1 ⟨d,kvs,ex,hd,h1⟩ t1 m1 r1=>by
   subst ex
   obtain⟨ks,e,r⟩:=m1 d _ hd
   refine⟨d,ks,r1.eq,e,fun ob=>k _ _ _ _ _ (h1 ob ks) (t1.trans (eV e)) (m1.put (eV e) ⟨aw,KR.ts (eV e) r⟩) mG⟩
theorem jItems_e {a:WE}{ρ:WSt}{M:Mp}{q:List W ->(Mp ->Prop) ->Mp ->Prop}:mE a ρ M q=a ρ M fun x M1=>cz x fun d=>dH (M1 d) fun kvs=> ∀o ks,q (kvs.map fun kv=> .tup [bA kv.1,kv.2]) (fun M'=>M' d=some (.fz o ks kvs)) (um M1 d (.fz o ks kvs)):=by
 unfold mE cz dH;congr 1;funext x M1;apply propext;constructor
 · rintro⟨d,kvs,e1,e2,h⟩;exact⟨d,e1,kvs,e2,h⟩
 · rintro⟨d,e1,kvs,e2,h⟩;exact⟨d,kvs,e1,e2,h⟩
def wN (t:WS):WS:=fun D ρ M=> ∃d kvs,M d=some (.dK kvs) /\ t {D with nx:=fun ρ' M'=> ∃o ks us,M' d=some (.fz o ks us) /\ D.nx ρ' (um M' d (.dK us))} ρ M
theorem wD {H:Hp}{a:Addr}{o:Obj}{xs:List (Key×V)}{u:HO}(h:H a=some (.frz o (.dK xs))):ao H (upd H a u):=mY h (fun _ z=>nomatch z) fun _ _ z=>nomatch z
instance {t:TS}{a:WS} [ia:IS K t a]:IS K (vz t) (wN a) where
 imp:=fun ρ M σ H D' D o ⟨d,kvs,hd,h⟩ e=>by
   obtain⟨ks,ek,r⟩:=o.hp d _ hd
   refine⟨d,ks,ek,ia.imp ρ M σ H _ _ o h ⟨?_,e.rt,e.bk,e.ct⟩⟩
   rintro ρ' M' σ' H' ⟨ob,us,ws,hM,hq⟩ ts ok
   obtain⟨e1,r1⟩:=ok.hp d _ hM
   have t2:=wD (u:= .dK us) e1
   exact⟨ob,us,e1,e.nx ρ' _ σ' _ hq (ts.trans t2) (ok.mv t2 (ok.hp.put t2 ⟨us,aw,KR.ts t2 r1⟩))⟩
end WL
set_option maxHeartbeats 4000000
namespace DC
open PySem PySem.Spec PyProof.Rows
theorem uO:typeLookup (.type "tuple") "keys" =pure none:=by rw[typeLookup_type,builtinLookup_eq_fast];kernel_rfl
theorem iu:entryFor table "dict.update.loop" =some Builtin.«dict.update.loop» :=entryFor_of_tree (by kernel_rfl)
theorem c9:plainId "dict.update.loop" =true:=by decide+kernel
section
variable {prog:Program}{w:World}{A:Around}{E:Value ->Shared ->Prop}{s:Shared}
theorem uJ {a:Addr}{xs:Array Value}{k:Nat}{sl:Array (Option Value)}{Q:Option Value ->Shared ->Prop}(hx:s.heap.get? a=some ⟨.type "tuple",none, .seq xs k,sl⟩)(hA:A.handled=none)
   (h: ∀h' tk,(∀b o,s.heap.get? b=some o ->h'.get? b=some o) ->Q none {s with heap:=h',toks:=tk}):wpAny (model prog w) A (getAttr? (.ref a) "keys") Q E s:=by
 obtain⟨hp,g,d,tk,os⟩:=s
 have hT: ∀tk',(⟨hp,g,d,tk',os⟩:Shared).TypeIs (.ref a) "tuple" :=fun _=>⟨_,hx,rfl⟩
 have f1:=sub_AttributeError
 have f3:=F.slot_tuple_getattribute.lookup
 have f4:=F.slot_tuple_getattribute.bind (.ref a)
 have f5:=am_tuple_getattr_none
 unfold getAttr? getAttrBy? getAttrBy
 repeat (any_goals (first | assumption | exact hT _ | ((with_reducible show wpAny _ _ (call (Value.builtin "tuple.__getattribute__") _ _) _ _ _);refine call_meets F.slot_tuple_getattribute (hT _) am_entry_tuple_getattribute (F.args_tuple_getattribute_2 _ _) (meets_getattribute_miss_tuple a xs k sl "keys" _ uO (by decide+kernel) (by size_fits)) ⟨hx,hA,fun h' tk' e hx'=> ?_⟩) | wp_step))
 obtain⟨t',u',he⟩:=hx'.there
 show wpAny _ _ (getattributeRaised _ _ _ _ _ _ _) _ _ _
 unfold getattributeRaised
 repeat (any_goals (first | assumption | wp_step))
 exact h h' _ hx'.keeps
end
section
variable {prog:Program}{w:World}{κ:Type} [DecidableEq κ]{knd:PySem.KeyKind prog w κ}{A:Around}{E:Value ->Shared ->Prop}
structure Prs (knd:PySem.KeyKind prog w κ)(h:Heap)(its:Array Value)(ps:List (κ×Value)):Prop where
 len:its.size=ps.length
 at_: ∀ (i:Nat) (p:κ×Value),ps[i]? =some p -> ∃a key,its[i]? =some (.ref a) /\ knd.is p.1 key=true /\ h.IsTuple a #[key,p.2]
theorem Prs.keeps {h h':Heap}{its:Array Value}{ps:List (κ×Value)}{x:Addr}(P:Prs knd h its ps)(hk: ∀b o,b≠x ->h.get? b=some o ->h'.get? b=some o)(hx: ∀o its n,h.get? x=some o ->o.data≠ .seq its n):Prs knd h' its ps:=
 ⟨P.len,fun i p e=>by
   obtain⟨a,key,h1,h2,o,ho,hc,n,r⟩:=P.at_ i p e
   exact⟨a,key,h1,h2,o,hk a o (fun z=>hx o _ n (z▸ho) r) ho,hc,n,r⟩⟩
def putAll (kvs:List (κ×Value))(ps:List (κ×Value)):List (κ×Value):=ps.foldl (fun m p=>stored m p.1 p.2) kvs
theorem lS (kvs:List (κ×Value))(k:κ)(v:Value):(stored kvs k v).length<=kvs.length+1:=by
 unfold stored;split
 · simp
 · simp
theorem loop {its:Array Value}{ps:List (κ×Value)}{t:Addr}{R:Result ->Shared ->Prop}(hA:A.in1.handled=none)(hn:ps.length<=1000000):
   ∀ (k i:Nat) {s:Shared} (it d:Addr) (tk:Tok) (kvs:List (κ×Value)),ps.length - i=k ->i<=ps.length ->kvs.length<=i ->s.heap.IsTupleIter it t i ->s.heap.IsTuple t its ->Prs knd s.heap its ps ->s.heap.DictOf knd d kvs ->d≠it ->d≠t ->t≠it ->
   (∀h' tk',h'.DictOf knd d (putAll kvs (ps.drop i)) ->(∀b o,b≠d ->b≠it ->s.heap.get? b=some o ->h'.get? b=some o) ->R (.ok (.ret .none)) {s with heap:=h',toks:=tk'}) ->
   codeAny (model prog w) A (.builtin "dict.update.loop" ⟨[.ref d, .ref it, .int i tk, .none],[]⟩) R s:=by
 intro k
 induction k with
 | zero=>
   intro i s it d tk kvs hk hi hl hit ht hP hd n1 n2 n3 hR
   have e:i=ps.length:=by omega
   refine codeAny_builtin iu ?_
   rw[Around.under_plainId c9 _]
   show wpAny _ A.in1 (pyNext (.ref it) >>=_) _ _ s
   refine wpAny_bind (wpAny_pyNext_tuple_end hA hit ht (by rw[Array.getElem?_eq_none];rw[hP.len];omega) fun h' hx=> ?_)
   show wpAny _ A.in1 (Builtin.Dict.addKeywords d [] >>=_) _ _ _
   refine wpAny_bind (wpAny_pure (wpAny_pure ?_))
   have e2:ps.drop i= []:=List.drop_eq_nil_of_le (by omega)
   refine hR h' s.toks ?_ fun b o _ n4 eb=>hx b o n4 eb
   rw[e2]
   exact hd.extBut hx n1
 | succ k ih=>
   intro i s it d tk kvs hk hi hl hit ht hP hd n1 n2 n3 hR
   have hlt:i<ps.length:=by omega
   obtain⟨p,hp⟩: ∃p,ps[i]? =some p:=⟨ps[i],List.getElem?_eq_getElem hlt⟩
   obtain⟨a,key,h1,h2,h3⟩:=hP.at_ i p hp
   refine codeAny_builtin iu ?_
   rw[Around.under_plainId c9 _]
   show wpAny _ A.in1 (pyNext (.ref it) >>=_) _ _ s
   refine wpAny_bind (wpAny_pyNext_tuple_item hit ht h1 fun h' hit' hs'=> ?_)
   have nc: ∀o its n,s.heap.get? it=some o ->o.data≠ .seq its n:=fun o its n eo z=>by
     obtain⟨o2,e2,_,c2⟩:=hit
     rw[eo] at e2;cases e2;rw[z] at c2;cases c2
   have hP':Prs knd h' its ps:=hP.keeps (fun b o n4 e4=>hs'.extBut b o n4 e4) nc
   have hd':h'.DictOf knd d kvs:=hd.extBut hs'.extBut n1
   have ht':h'.IsTuple t its:=by obtain⟨o,ho,r⟩:=ht;exact⟨o,hs'.extBut t o n3 ho,r⟩
   obtain⟨a',key',h1',h2',h3'⟩:=hP'.at_ i p hp
   obtain⟨oa,hoa,hca,na,hda⟩:=h3'
   have ea:a'=a:=by rw[h1] at h1';cases h1';rfl
   subst ea
   have hT:(⟨h',s.gens,s.drawn,s.toks,s.os⟩:Shared).TypeIs (.ref a') "tuple" :=⟨oa,hoa,hca⟩
   show wpAny _ A.in1 (holding [.ref a'] _ >>=_) _ _ _
   refine wpAny_bind (wpAny_holding (wpAny_bind (wpAny_tryCatch ?_)))
   unfold Builtin.Dict.pairItems
   refine wpAny_bind (wpAny_typeOf hT ?_)
   rw[if_pos (by simp)]
   refine wpAny_bind (wpAny_seqItems hoa hda ?_)
   refine wpAny_pure ?_
   show wpAny _ A.in1 (holding [key',p.2] (dictSet d key' p.2)) _ _ _
   refine wpAny_holding (wpAny_dictSet_pairs h2' hd' (fun h2 hd2 hs2=> ?_) (by rw[sizeLine_eq];omega))
   refine wpAny_pure ⟨plainId_quiet c9 _,?_⟩
   have ei:(rawInt ((i:Int)+1))=Value.int ((i+1:Nat):Int) 0:=by simp[rawInt]
   rw[ei]
   have hP2:Prs knd h2 its ps:=hP'.keeps (x:=d) (fun b o n4 e4=>hs2.extBut b o n4 e4) (fun o its n eo z=>by
     obtain⟨o2,_,_,e2,_,c2,_⟩:=hd'
     rw[eo] at e2;cases e2;rw[z] at c2;cases c2)
   refine ih (i+1) it d 0 (stored kvs p.1 p.2) (by omega) hlt (by have:=lS kvs p.1 p.2;omega) ?_ ?_ hP2 hd2 n1 n2 n3 fun h3 tk3 hd3 hk3=> ?_
   · obtain⟨o,ho,r⟩:=hit';exact⟨o,hs2.extBut it o (Ne.symm n1) ho,r⟩
   · obtain⟨o,ho,r⟩:=ht';exact⟨o,hs2.extBut t o (Ne.symm n2) ho,r⟩
   · refine hR h3 tk3 ?_ fun b o n4 n5 eb=>hk3 b o n4 n5 (hs2.extBut b o n4 (hs'.extBut b o n5 eb))
     have:ps.drop i=p::ps.drop (i+1):=by
       have:=List.drop_eq_getElem_cons hlt
       rw[this]
       rw[List.getElem?_eq_getElem hlt] at hp
       cases hp;rfl
     rw[this]
     exact hd3
theorem dh {its:Array Value}{ps:List (κ×Value)}{t:Addr}{n:Nat}{sl:Array (Option Value)}{s:Shared}{Q:Value ->Shared ->Prop}(hA:A.in1.handled=none)(hn:ps.length<=1000000)
   (hx:s.heap.get? t=some ⟨.type "tuple",none, .seq its n,sl⟩) (hP:Prs knd s.heap its ps)
   (h: ∀h' tk,h'.DictOf knd s.heap.objs.size (putAll [] ps) ->(∀b o,s.heap.get? b=some o ->h'.get? b=some o) ->Q (.ref s.heap.objs.size) {s with heap:=h',toks:=tk}):
   wpAny (model prog w) A (call (.type "dict") [.ref t]) Q E s:=by
 refine callType_codes (Q₁:=fun obj s₁=>obj= .ref s.heap.objs.size /\ s₁= {s with heap:=s.heap.push {cls:= .type "dict",data:= .dict #[]}}) PySem.F.kt_called_dict (PySem.F.kt_typeCall_dict_1 _) PySem.F.entry_dict_init (PySem.kt_code_dict_new _ ⟨rfl,rfl⟩) ?_
 rintro obj s₁ ⟨rfl,rfl⟩
 have hnew:(s.heap.push {cls:= .type "dict",data:= .dict #[]}).DictOf knd s.heap.objs.size []:=Heap.DictOf.new s.heap
 have ht2:(s.heap.push {cls:= .type "dict",data:= .dict #[]}).get? t=some ⟨.type "tuple",none, .seq its n,sl⟩:=Heap.get?_push_of_some _ hx
 have hlt:t<s.heap.objs.size:=Heap.lt_size hx
 refine⟨hnew.typeIs,PySem.F.args_dict_init_2 _ _,?_⟩
 unfold Builtin.«dict.__init__»
 refine wpAny_bind ?_
 unfold Builtin.Dict.selfAndRest
 refine wpAny_bind (wpAny_notOrdered_dict hnew.typeIs ?_)
 show wpAny _ _ (pure (s.heap.objs.size,[Value.ref t])) _ _ _
 refine wpAny_pure ?_
 show wpAny _ _ (Builtin.Dict.updateFrom "dict.__init__" s.heap.objs.size (.ref t) [] .none) _ _ _
 unfold Builtin.Dict.updateFrom
 refine wpAny_bind (wpAny_typeOf (T:= "tuple") ⟨_,ht2,rfl⟩ ?_)
 rw[if_pos (by decide)]
 refine wpAny_bind (uJ ht2 hA fun h1 tk1 hk1=> ?_)
 rw[if_pos (show(none:Option Value).isNone=true from rfl)]
 refine wpAny_bind (wpAny_rule (wpAny_bind ?_))
 have ht3:h1.IsTuple t its:=⟨_,hk1 t _ ht2,rfl,n,rfl⟩
 refine wpAny_pyIter_tuple ht3 ?_
 refine wpAny_pure ⟨plainId_quiet c9 _,?_⟩
 have hd1:h1.DictOf knd s.heap.objs.size []:=by obtain⟨o,es,ep,ho,r⟩:=hnew;exact⟨o,es,ep,hk1 _ _ ho,r⟩
 have hs1:s.heap.objs.size<h1.objs.size:=by obtain⟨o,es,ep,ho,r⟩:=hd1;exact Heap.lt_size ho
 have hP1:Prs knd (h1.push {cls:= .type "tuple_iterator",data:= .fields #[.ref t, .int 0 0]}) its ps:=⟨hP.len,fun i p e=>by
   obtain⟨a,key,e1,e2,o,ho,r⟩:=hP.at_ i p e
   exact⟨a,key,e1,e2,o,Heap.get?_push_of_some _ (hk1 a o (Heap.get?_push_of_some _ ho)),r⟩⟩
 have ei:(rawInt 0)=Value.int ((0:Nat):Int) 0:=rfl
 rw[ei]
 have htn:t≠h1.objs.size:=Nat.ne_of_lt (Heap.lt_size (hk1 t _ ht2))
 have ht4:(h1.push {cls:= .type "tuple_iterator",data:= .fields #[.ref t, .int 0 0]}).IsTuple t its:=let ⟨o,ho,r⟩:=ht3;⟨o,Heap.get?_push_of_some _ ho,r⟩
 have hit:(h1.push {cls:= .type "tuple_iterator",data:= .fields #[.ref t, .int 0 0]}).IsTupleIter h1.objs.size t 0:=⟨_,Heap.get?_push_size _ rfl,rfl,rfl⟩
 have hd2:=hd1.push {cls:= .type "tuple_iterator",data:= .fields #[.ref t, .int 0 0]}
 refine loop (A:=A.in1) (knd:=knd) (ps:=ps) (its:=its) (t:=t) (s:= {s with heap:=h1.push {cls:= .type "tuple_iterator",data:= .fields #[.ref t, .int 0 0]},toks:=tk1}) hA hn ps.length 0 h1.objs.size s.heap.objs.size 0 [] (by omega) (Nat.zero_le _) (Nat.le_refl _) hit ht4 hP1 hd2 (Nat.ne_of_lt hs1) (Nat.ne_of_gt hlt) htn fun h' tk' hd' hk'=> ?_
 refine⟨rfl,h h' tk' ?_ fun b o eb=>hk' b o (Nat.ne_of_lt (Heap.lt_size eb)) (Nat.ne_of_lt (Heap.lt_size (hk1 b o (Heap.get?_push_of_some _ eb)))) (Heap.get?_push_of_some _ (hk1 b o (Heap.get?_push_of_some _ eb)))⟩
 simpa using hd'
end
end DC
namespace L2
open PySem PySem.Spec PyProof.Rows
section
variable {X:Cx}{pins:List (Addr×Obj)}{σ:St}{H H':Hp}{s:Shared}{h':Heap}
theorem Inv.more {t':Nat}(I:Inv X pins σ H s)(k: ∀b o,s.heap.get? b=some o ->h'.get? b=some o)(hx: ∀b o,H b=some o ->H' b=some o)(hn: ∀b,b<s.heap.objs.size ->H b=none ->H' b=none)(hok:HOk X.prog X.w H' h'):
   Inv X pins σ H' {s with heap:=h',toks:=t'}:=by
 refine I.call (ch:= []) (g':=s.gens) (d':=s.drawn) ⟨fun b o q n _ _=>k b o q,fun b o q n _ _=>⟨o.slots,k b o q⟩,fun b o q n _=>hn b (Heap.lt_size q) n,fun b o q _=>⟨o,k b o q⟩,fun b ys q=>hx b _ q,fun b o u q=>hx b _ q,fun b ps q=>⟨#[],by rw[hx b _ q];simp⟩⟩ hok I.bare fun b hb=>nomatch hb
def rg (K:PySem.W.Frag):List V ->Hp ->VK ->Prop:=fun xs H Q=> ∃ (a:Addr) (vs:List V) (ps:List (Key×V)),xs= [.ref a] /\ SqT K H a vs /\ ps.length<=1000000 /\ vs.length=ps.length /\ (∀ (i:Nat) p,ps[i]? =some p -> ∃b,vs[i]? =some (.ref b) /\ SqT K H b [kV p.1,p.2]) /\ ∀q,H q=none ->Q (.ref q) (upd H q (.dK (ps.foldl (fun m p=>putK m p.1 p.2) [])))
theorem rB {K:PySem.W.Frag}{h:Heap}(tup: ∀ {b:Addr} {xs:List V},SqT K H b xs -> ∃its:List Value,Vals xs its /\ h.IsTuple b its.toArray): ∀ {ps:List (Key×V)} {vs:List V} {its:List Value},vs.length=ps.length ->(∀ (i:Nat) p,ps[i]? =some p -> ∃b,vs[i]? =some (.ref b) /\ SqT K H b [kV p.1,p.2]) ->Vals vs its ->
   ∃qs:List (Key×Value),KV ps qs /\ ∀ (i:Nat) q,qs[i]? =some q -> ∃a key,its[i]? =some (.ref a) /\ (aC X.prog X.w).is q.1 key=true /\ h.IsTuple a #[key,q.2]
 | [],vs,its,hl,_,r=>by
   refine⟨[], .nil,fun i q e=> ?_⟩
   simp at e
 | p::ps,[],its,hl,_,r=>by simp at hl
 | p :: ps,v::vs,its,hl,ha,r=>by
   cases r with
   | @cons _ u _ us r1 r2=>
     obtain⟨qs,hq,hqs⟩:=rB tup (ps:=ps) (vs:=vs) (its:=us) (by simpa using hl) (fun i p e=>by simpa using ha (i+1) p (by simpa using e)) r2
     obtain⟨b,hb,hs⟩:=ha 0 p rfl
     have hb':v= .ref b:=by simpa using hb
     subst hb'
     have eu:u=Value.ref b:=r1
     subst eu
     obtain⟨js,rj,tj⟩:=tup hs
     cases rj with
     | cons k1 k2=>
       cases k2 with
       | cons k3 k4=>
         cases k4
         rename_i key val
         refine⟨(p.1,val)::qs, .cons ⟨rfl,k3⟩ hq,fun i q e=> ?_⟩
         cases i with
         | zero=>simp at e;subst e;exact⟨b,key,rfl,gg k1,tj⟩
         | succ i=>simpa using hqs i q (by simpa using e)
theorem i7: ∀ {ps:List (Key×V)} {qs:List (Key×Value)} {m:List (Key×V)} {n:List (Key×Value)},KV ps qs ->KV m n ->KV (ps.foldl (fun m p=>putK m p.1 p.2) m) (DC.putAll n qs)
 | _,_,_,_, .nil,r=>r
 | _,_,_,_, .cons ⟨e,rv⟩ t,r=>by
   rw[List.foldl_cons]
   refine i7 (n:=stored _ _ _) t ?_
   rw[e]
   exact r.put _ rv
theorem i6: ∀ (ps:List (Key×V)) (m:List (Key×V)),(ps.foldl (fun m p=>putK m p.1 p.2) m).length<=m.length+ps.length
 | [],m=>by simp
 | p::ps,m=>by
   rw[List.foldl_cons,List.length_cons]
   have:=i6 ps (putK m p.1 p.2)
   have:=bW m p.1 p.2
   omega
theorem dh (hc:X.calm=true):bB X (.type "dict") (rg X.K):=by
 intro pins s σ H xs us Q I r h
 obtain⟨a,vs,ps,rfl,hq,hn,hl,hps,q⟩:=h
 obtain⟨u,rfl,ru⟩:=vals1 r
 cases ru
 obtain⟨its,rv,⟨o,ho,hco,n,hd,hdd⟩,hz⟩:=I.tupleD hq
 obtain⟨qs,hk,hqs⟩:=rB (X:=X) (h:=s.heap) (fun {b xs} hs=>by obtain⟨js,rj,tj,_⟩:=I.tuple hs;exact⟨js,rj,tj⟩) hl hps rv
 have hlen:qs.length=ps.length:=hk.length.symm
 obtain⟨c,dct,dat,sl⟩:=o
 simp only at hco hd hdd
 subst hco hd hdd
 refine DC.dh (knd:=aC X.prog X.w) (ps:=qs) (show X.A.in1.handled=none from I.ok.hd hc) (by rw[hlen];exact hn) ho ⟨by have:=rv.length;simp;omega,fun i p e=>by simpa using hqs i p e⟩ fun h' tk hd' hkp=> ?_
 refine⟨.ref s.heap.objs.size,_,I.laid (t':=tk) hkp (Nat.le_refl _) (ix ?_ (beq_eq_false_iff_ne.mpr (Ne.symm (Nat.ne_of_lt I.big))) (i7 hk .nil) hd'),rfl,q _ (I.hok.fresh (Nat.le_refl _))⟩
 have:=i6 ps []
 rw[sizeLine_eq];simp at this;omega
def rf:List V ->Hp ->VK ->Prop:=fun xs H Q=> ∃d kvs,xs= [.ref d] /\ Rd H d (.dK kvs) /\ ∀l,H l=none ->Q (.ref l) (upd H l (.lst (kvs.map fun kv=>kV kv.1)))
theorem iP: ∀ {kvs:List (Key×V)} {vs:List (Key×Value)} {acc:List Value},KV kvs vs ->acc.length=vs.length ->(∀ (j:Nat) v,acc[j]? =some v -> ∃k x,vs[j]? =some (k,x) /\ fq k v=true) ->Vals (kvs.map fun kv=>kV kv.1) acc
 | _,_,[], .nil,_,_=> .nil
 | _,_,_::_, .nil,h,_=>by simp at h
 | _,_,[], .cons _ _,h,_=>by simp at h
 | _,_,u::us, .cons (a:=p) (b:=q) ⟨e,_⟩ t,h,hk=>by
   refine .cons ?_ (iP t (by simpa using h) fun j v ev=>by simpa using hk (j+1) v (by simpa using ev))
   obtain⟨k,x,e1,e2⟩:=hk 0 u rfl
   simp at e1
   show RelV (kV p.1) u
   rw[e,e1]
   exact jV e2
theorem eQ (hc:X.calm=true):bB X (.type "list") rf:=by
 intro pins s σ H xs us Q I r h
 obtain⟨d,kvs,rfl,hd,q⟩:=h
 obtain⟨u,rfl,ru⟩:=vals1 r
 cases ru
 obtain⟨z,hsys,vs,rel,dd⟩:=gi I.hok hd
 obtain⟨ep,hat⟩:=dd.dictAt
 refine PySem.W.kdl_call (PySem.W.kdl_dict (knd:=aC X.prog X.w) (kvs:=vs) (ep:=ep) hsys) (I.ok.hd hc) hat (by rw[<- rel.length];exact z) fun h' tk acc c hkp hg items=> ?_
 have hv:Vals (kvs.map fun kv=>kV kv.1) acc.toList:=iP rel (by rw[Array.length_toList];exact items.1) fun j v e=>items.2 j v (by rw[<- Array.getElem?_toList];exact e)
 refine⟨.ref _,_,I.laid (t':=tk) hkp (Nat.le_refl _) (show aW X.prog X.w _ h' _ (.lst _) from⟨by rw[List.length_map];exact z,acc.toList,c,hv,by simpa using hg⟩),rfl,q _ (I.hok.fresh (Nat.le_refl _))⟩
end
end L2
namespace L2
open PySem PySem.Spec PyProof.Rows
section
variable {X:Cx}{o:Expr}{td:TE}{apos cpos p1 pos1:Pos}
theorem iO: ∀as:List Addr,Vals (as.map V.ref) (as.map Value.ref)
 | []=> .nil
 | a::r=> .cons rfl (iO r)
def ni (td:TE):TE:=fun σ H Q=>td σ H fun x H1=> ∃d kvs,x= .ref d /\ Rd H1 d (.dK kvs) /\ ∀ (l:Addr) (vs:List V) (H2:Hp),H1 l=none ->bz H1 H2 ->H2 l=some (.lst vs) ->vs.length=kvs.length ->(∀ (i:Nat) kv,kvs[i]? =some kv -> ∃a,vs[i]? =some (.ref a) /\ H2 a=some (.tup [kV kv.1,kv.2])) ->(∀b u,H2 b=some u ->H1 b=some u \/ H1 b=none /\ (b=l \/ ∃xs,u= .tup xs)) ->Q (.ref l) H2
theorem oJ (hgl:Gl X "list")(hml:X.mg "list" =none)(hc:X.calm=true)(ho:PE X o td)(hbase:attributeBase o "items" X.env (eval o X.env)=eval o X.env:=by rfl)(hline:(apos.endLine==cpos.line)=true:=by rfl)
   (ht:starEach [.Call (.Attribute o "items" apos) [] [] cpos] X.env= [(false,eval (.Call (.Attribute o "items" apos) [] [] cpos) X.env)]:=by rfl):
   PE X (.Call (.Name "list" p1) [.Call (.Attribute o "items" apos) [] [] cpos] [] pos1) (ni td):=by
 intro pins s σ H Q I h
 refine Call_ (bK I hgl hml boot_list (PyProof.Rows.callWith_type1 ?_ ht rfl))
 rw[ht]
 refine Calls.spliced_cons (wpAny_Call_method0_late hbase hline (thn (ho pins s σ H _ I h) fun v s1 ⟨x,H1,I1,r1,d,kvs,ex,hd,q1⟩=> ?_))
 subst ex
 obtain rfl:v=Value.ref d:=r1
 obtain⟨t1,t2,sys⟩:=jX I1 (.inl ⟨kvs,hd⟩)
 refine⟨"dict","dict.items",PySem.F.plainAttrs_dict,PySem.F.slot_dict_items,PySem.F.type_dict_items,t1,t2,Calls.callWith_builtin rfl (PySem.evalArgs_none ?_)⟩
 obtain⟨z,hsys,vs,rel,dd⟩:=gi I1.hok hd
 refine call_meetsIn PySem.F.slot_dict_items dd.typeIs PySem.F.entry_dict_items (PySem.F.args_dict_items_1 _) (meets_dict_items (aC X.prog X.w) d hsys) ⟨⟨vs,dd⟩,?_⟩
 refine Calls.spliced_nil ?_
 obtain⟨ep,hat⟩:=dd.dictAt
 refine PySem.W.kdx_call (knd:=aC X.prog X.w) (kvs:=vs) (ep:=ep) (I1.ok.hd hc) ⟨_,Heap.get?_push_size _ rfl,rfl,rfl⟩ (hat.push _) (by rw[<- rel.length];exact z) fun h' tk acc c as hk hg hl hG hacc=> ?_
 have hsz:(s1.heap.push {cls:= .type "dict_items",data:= .fields #[.ref d]}).objs.size=s1.heap.objs.size+1:=Heap.size_push ..
 generalize hL:(s1.heap.push {cls:= .type "dict_items",data:= .fields #[.ref d]}).objs.size=L at hg hG ⊢
 have hLs:s1.heap.objs.size<L:=by omega
 have hkl:as.length=kvs.length:=by rw[hl,rel.length]
 have hnd:as.Nodup:=hG.rise.imp fun h=>Nat.ne_of_lt h
 let H2:Hp:=fun b=>if b=L then some (.lst (as.map V.ref)) else match kvs[as.idxOf b]? with | some kv=>some (.tup [kV kv.1,kv.2]) | none=>H1 b
 have eL:H2 L=some (.lst (as.map V.ref)):=if_pos rfl
 have eA: ∀ (j:Nat) a,as[j]? =some a -> ∃kv,kvs[j]? =some kv /\ H2 a=some (.tup [kV kv.1,kv.2]):=fun j a e=>by
   have hj:j<as.length:=(List.getElem?_eq_some_iff.mp e).1
   obtain⟨kv,hkv⟩: ∃kv,kvs[j]? =some kv:=⟨kvs[j],List.getElem?_eq_getElem (by omega)⟩
   have ej:as.idxOf a=j:=by
     have:=(List.getElem?_eq_some_iff.mp e).2
     rw[<- this];exact hnd.idxOf_getElem j hj
   refine⟨kv,hkv,?_⟩
   have na:a≠L:=Nat.ne_of_gt (hG.above a (List.mem_of_getElem? e))
   show(if a=L then _ else _)=_
   rw[if_neg na,ej,hkv]
 have eO: ∀b,b≠L ->b∉as ->H2 b=H1 b:=fun b n1 n2=>by
   show(if b=L then _ else _)=_
   rw[if_neg n1,List.idxOf_eq_length n2,List.getElem?_eq_none (by omega)]
 have out: ∀b,b<s1.heap.objs.size ->b≠L /\ b∉as:=fun b hb=>⟨by omega,fun z=>absurd (Nat.lt_trans hb (Nat.lt_trans hLs (hG.above b z))) (Nat.lt_irrefl _)⟩
 have same:bz H1 H2:=fun b u e=>by
   obtain⟨n1,n2⟩:=out b (I1.hok.lt e)
   rw[eO b n1 n2];exact e
 have keep: ∀b ob,s1.heap.get? b=some ob ->h'.get? b=some ob:=fun b ob e=>hk b ob (Heap.get?_push_of_some _ e)
 have hok:HOk X.prog X.w H2 h':=fun b u e=>by
   by_cases n1:b=L
   · subst n1
     rw[eL] at e;cases e
     exact⟨by rw[List.length_map,hkl];exact z,as.map Value.ref,c,iO as,by rw[<- hacc];simpa using hg⟩
   · by_cases n2:b∈as
     · obtain⟨j,hj⟩:=List.mem_iff_getElem?.mp n2
       obtain⟨kv,hkv,e2⟩:=eA j b hj
       rw[e2] at e;cases e
       obtain⟨key,k,x,hx,hkey,ht⟩:=hG.pairs j b hj
       obtain⟨p,hp,ep1,rp⟩:=mB rel hx
       rw[hkv] at hp;cases hp
       refine⟨by rw[sizeLine_eq];show 2<=16777216;decide,[key,x], .cons (by rw[ep1];exact jV hkey) (.cons rp .nil),_,ht,rfl,_,rfl,rfl⟩
     · rw[eO b n1 n2] at e
       exact(I1.hok b u e).stay (fun c v _ r=>keep c v r) (fun c r=>same c _ r) fun c ys r=>same c _ r
 refine⟨.ref L,H2,I1.more (t':=tk) keep (fun b u e=>same b u e) (fun b hb e=>by obtain⟨n1,n2⟩:=out b hb;rw[eO b n1 n2];exact e) hok,rfl,q1 L (as.map V.ref) H2 (I1.hok.fresh (Nat.le_of_lt hLs)) same eL (by rw[List.length_map,hkl]) (fun i kv e=> ?_) fun b u e=> ?_⟩
 · obtain⟨a,ha⟩: ∃a,as[i]? =some a:=⟨as[i]'(by have:=(List.getElem?_eq_some_iff.mp e).1;omega),List.getElem?_eq_getElem _⟩
   obtain⟨kv',h1,h2⟩:=eA i a ha
   rw[e] at h1;cases h1
   exact⟨a,by rw[List.getElem?_map,ha];rfl,h2⟩
 · by_cases n1:b=L
   · exact .inr ⟨by rw[n1];exact I1.hok.fresh (Nat.le_of_lt hLs), .inl n1⟩
   · by_cases n2:b∈as
     · obtain⟨j,hj⟩:=List.mem_iff_getElem?.mp n2
       obtain⟨kv,hkv,e2⟩:=eA j b hj
       rw[e2] at e;cases e
       exact .inr ⟨I1.hok.fresh (Nat.le_of_lt (Nat.lt_trans hLs (hG.above b n2))), .inr ⟨_,rfl⟩⟩
     · rw[eO b n1 n2] at e;exact .inl e
def lu (i:Int)(n:Nat):List V:=(List.range n).map fun(k:Nat)=> .int (i - (k:Int))
def qv (ta:TA):TE:=fun σ H Q=>ta σ H fun vs H1=> ∃i j:Int,vs= [.int i, .int j, .int (-1)] /\ RgOk i j (-1) /\ (i - j).toNat<=100000 /\ ∀l,H1 l=none ->Q (.ref l) (upd H1 l (.lst (lu i (i - j).toNat)))
theorem oz {i:Int}{n:Nat}{acc:Array Value}(h:ItemsOf (fun j v=> ∃t,v=Value.int (i+(j:Int)*(-1)) t) acc n):Vals (lu i n) acc.toList:=by
 obtain⟨hl,hv⟩:=h
 have hl2:acc.toList.length=n:=by simpa using hl
 have key: ∀ (k:Nat) (l:List Value) (m:Nat),l.length=m ->(∀j v,l[j]? =some v -> ∃t,v=Value.int (i - ((k+j:Nat):Int)) t) ->Vals ((List.range' k m).map fun(k:Nat)=>V.int (i - (k:Int))) l:=by
   intro k l
   induction l generalizing k with
   | nil=>intro m hm _;subst hm;exact .nil
   | cons v r ih=>
     intro m hm hj
     subst hm
     rw[List.length_cons,List.range'_succ,List.map_cons]
     refine .cons ?_ (ih (k+1) r.length rfl fun j v' e=> ?_)
     · obtain⟨t,e⟩:=hj 0 v rfl
       exact⟨t,by simpa using e⟩
     · obtain⟨t,e'⟩:=hj (j+1) v' (by rw[List.getElem?_cons_succ];exact e)
       exact⟨t,by rw[e'];congr 2<;>omega⟩
 have:=key 0 acc.toList n hl2 fun j v e=>by
   obtain⟨t,e'⟩:=hv j v (by rw[<- Array.getElem?_toList];exact e)
   exact⟨t,by rw[e'];congr 2<;>omega⟩
 unfold lu
 rw[List.range_eq_range']
 exact this
theorem l5 {a b c:Expr}{ta:TA}{q1 q2 pos1 pos2:Pos}(hgl:Gl X "list")(hml:X.mg "list" =none)(hg:Gl X "range")(hm:X.mg "range" =none)(hc:X.calm=true)(ha:PA X [a,b,c] ta)
   (hs:starEach [a,b,c] X.env= [(false,eval a X.env),(false,eval b X.env),(false,eval c X.env)]:=by rfl) (hs2:starEach [b,c] X.env= [(false,eval b X.env),(false,eval c X.env)]:=by rfl)
   (ht:starEach [.Call (.Name "range" q2) [a,b,c] [] pos2] X.env= [(false,eval (.Call (.Name "range" q2) [a,b,c] [] pos2) X.env)]:=by rfl):
   PE X (.Call (.Name "list" q1) [.Call (.Name "range" q2) [a,b,c] [] pos2] [] pos1) (qv ta):=by
 intro pins s σ H Q I h
 refine Call_ (bK I hgl hml boot_list (PyProof.Rows.callWith_type1 ?_ ht rfl))
 rw[ht]
 refine Calls.spliced_cons (Call_ (bK I hg hm boot_range (PyProof.Rows.callWith_type1 (thn (ha pos2 pins s σ H _ I h) fun us s1 ⟨vs,H1,I1,r1,q1⟩=> ?_) (by rw[hs,hs2]) (by rw[hs2];rfl))))
 obtain⟨i,j,e,ok,hn,q⟩:=q1
 subst e
 cases r1 with
 | cons r rr=>
   cases rr with
   | cons r' rr=>
     cases rr with
     | cons r'' rr=>
       cases rr
       obtain⟨t,rfl⟩:=r
       obtain⟨t',rfl⟩:=r'
       obtain⟨t'',rfl⟩:=r''
       refine call_range_3 (by decide) (Calls.spliced_nil ?_)
       have I2:Inv X pins σ H1 {s1 with heap:=s1.heap.push {cls:= .type "range",data:= .fields #[.int i t, .int j t', .int (-1) t'']},toks:=s1.toks}:=I1.kept fun b o e=>Heap.get?_push_of_some _ e
       have hsz:Builtin.Range.rangeSize i j (-1)=((i - j).toNat:Int):=by
         have:=qZ (a:=i) (b:=j)
         have h0:=i0 (a:=i) (b:=j) (c:= -1) (by decide)
         unfold rgN at this;omega
       refine call_list_range (n:=(i - j).toNat) (I1.ok.hd hc) (IsRange.new ..) (qM ok) hsz (by omega) fun h' tk acc' c' kp hg' items=> ?_
       have hv:=oz items
       refine⟨.ref _,_,I2.laid (t':=tk) kp (Nat.le_refl _) (show aW X.prog X.w _ h' _ (.lst (lu i (i - j).toNat)) from⟨?_,acc'.toList,c',hv,by simpa using hg'⟩),rfl,q _ (I2.hok.fresh (Nat.le_refl _))⟩
       unfold lu
       rw[List.length_map,List.length_range]
       exact Nat.le_trans hn (by rw[sizeLine_eq];decide)
end
end L2
namespace WL
open PySem L2
variable {K:PySem.W.Frag}
def wu:WCl:=fun xs M q=> ∃l:List (Key×W),xs= [.tup (l.map fun p=> .tup [bA p.1,p.2])] /\ l.length<=1000000 /\ ∀p,M p=none ->q (wr p) (um M p (.dK (l.foldl (fun m p=>dA m p.1 p.2) [])))
theorem WR.key {H:Hp}{k:Key}{v:V}(h:WR K H (bA k) v):v=kV k:=by
 cases k<;>exact h.eq
theorem kR {H:Hp}: ∀ {l:List (Key×W)} {vs:List V},WRs K H (l.map fun p=> .tup [bA p.1,p.2]) vs -> ∃ps:List (Key×V),KR K H l ps /\ vs.length=ps.length /\ ∀ (i:Nat) p,ps[i]? =some p -> ∃b,vs[i]? =some (.ref b) /\ SqT K H b [kV p.1,p.2]
 | [],vs,h=>by
   simp only[List.map_nil,WRs] at h
   subst h
   exact⟨[], .nil,rfl,fun i p e=>by simp at e⟩
 | (k,x)::l,vs,h=>by
   simp only[List.map_cons,WRs] at h
   obtain⟨v,t,rfl,h1,h2⟩:=h
   obtain⟨ps,r,hl,hp⟩:=kR h2
   obtain⟨b,us,rfl,hs,hr⟩:=h1.tup
   obtain⟨u1,u2,rfl,g1,g2⟩:=hr.two
   cases g1.key
   refine⟨(k,u2)::ps, .cons ⟨rfl,g2⟩ r,by simp[hl],fun i p e=> ?_⟩
   cases i with
   | zero=>simp at e;subst e;exact⟨b,rfl,hs⟩
   | succ i=>simpa using hp i p (by simpa using e)
theorem nS {H:Hp}: ∀ {l:List (Key×W)} {ps:List (Key×V)} {m:List (Key×W)} {n:List (Key×V)},KR K H l ps ->KR K H m n ->KR K H (l.foldl (fun m p=>dA m p.1 p.2) m) (ps.foldl (fun m p=>putK m p.1 p.2) n)
 | _,_,_,_, .nil,r=>r
 | _,_,_,_, .cons (a:=a) (b:=b) ⟨e,rv⟩ t,r=>by
   rw[List.foldl_cons,List.foldl_cons]
   refine nS t ?_
   rw[e]
   exact KR.put rv r
instance:IC K (rg K) wu where
 imp:=by
   rintro xs v M H q Q m r1 ⟨l,rfl,hl,h⟩ k
   obtain⟨v,rfl,r⟩:=r1.one
   obtain⟨a,vs,rfl,hv,rr⟩:=r.tup
   obtain⟨ps,hr,hlen,hp⟩:=kR rr
   refine⟨a,vs,ps,rfl,hv,by rw[<- ik hr];exact hl,hlen,hp,fun p hp=> ?_⟩
   have ts:=L2.bz.ts (ay (o:= .dK (ps.foldl (fun m p=>putK m p.1 p.2) [])) hp)
   exact k _ _ _ _ (h p (m.fresh hp)) ts (m.put ts ⟨_,aw,KR.ts ts (nS hr .nil)⟩) WR.v
def wq:WCl:=fun xs M q=> ∃d kvs,xs= [wr d] /\ M d=some (.dK kvs) /\ ∀p,M p=none ->q (wr p) (um M p (.lst (kvs.map fun kv=>bA kv.1)))
theorem lg {H:Hp}: ∀ {l:List (Key×W)} {vs:List (Key×V)},KR K H l vs ->WRs K H (l.map fun kv=>bA kv.1) (vs.map fun kv=>kV kv.1)
 | _,_, .nil=>WRs.nil
 | _,_, .cons (a:=a) (b:=b) ⟨e,_⟩ t=>by
   refine WRs.cons ?_ (lg t)
   show WR K H (bA a.1) (kV b.1)
   rw[e]
   cases b.1<;>exact WR.v
instance:IC K rf wq where
 imp:=by
   rintro xs v M H q Q m r1 ⟨d,kvs,rfl,hd,h⟩ k
   obtain⟨v,rfl,r⟩:=r1.one
   cases r.eq
   obtain⟨ks,ek,rr⟩:=m d _ hd
   exact⟨d,ks,rfl, .inl ek,fun p hp=>k _ _ _ _ (h p (m.fresh hp)) (L2.bz.ts (ay hp)) (m.newL hp (lg rr)) WR.v⟩
def jr (a:WE):WE:=fun ρ M q=>a ρ M fun x M1=> ∃d kvs,x=wr d /\ M1 d=some (.dK kvs) /\ ∀p,M1 p=none ->q (wr p) (um M1 p (.lst (kvs.map fun kv=> .tup [bA kv.1,kv.2])))
theorem xH {a:WE}{ρ:WSt}{M:Mp}{q:WK}:jr a ρ M q=a ρ M fun x M1=>cz x fun d=>dH (M1 d) fun kvs=>iM M1 fun p=>q (wr p) (um M1 p (.lst (kvs.map fun kv=> .tup [bA kv.1,kv.2]))):=by
 unfold jr cz dH iM;congr 1;funext x M1;apply propext;constructor
 · rintro⟨d,kvs,e1,e2,h⟩;exact⟨d,e1,kvs,e2,h⟩
 · rintro⟨d,e1,kvs,e2,h⟩;exact⟨d,kvs,e1,e2,h⟩
instance {t:TE}{a:WE} [ia:IE K t a]:IE K (ni t) (jr a) where
 imp :=fun ρ M σ H q Q o h k=>ia.imp ρ M σ H _ _ o h fun x M1 v H1 ⟨d,kvs,ex,hd,h1⟩ t1 m1 r1=>by
   subst ex
   obtain⟨ks,ek,rr⟩:=m1 d _ hd
   refine⟨d,ks,r1.eq, .inl ek,fun l vs H2 hl sm el hlen hat hnew=> ?_⟩
   have ts:ao H1 H2:=L2.bz.ts sm
   refine k _ _ _ _ (h1 l (m1.fresh hl)) (t1.trans ts) (fun b x e=> ?_) WR.v
   by_cases hb:b=l
   · subst hb
     rw[ab] at e;cases e
     refine⟨vs,el,WRs.mk (by rw[hlen,List.length_map,ik rr]) fun j d' v' e1 e2=> ?_⟩
     rw[List.getElem?_map] at e1
     cases e3:kvs[j]? with
     | none=>rw[e3] at e1;cases e1
     | some kv=>
       rw[e3] at e1;cases e1
       obtain⟨kv2,e4⟩: ∃kv2,ks[j]? =some kv2:=⟨ks[j]'(by rw[<- ik rr];exact(List.getElem?_eq_some_iff.mp e3).1),List.getElem?_eq_getElem _⟩
       obtain⟨p2,e5,e6,rp⟩:=mC rr e4
       rw[e3] at e5;cases e5
       obtain⟨a2,e7,e8⟩:=hat j kv2 e4
       rw[e2] at e7;cases e7
       refine WR.mkT (SqT.of e8) (WRs.cons ?_ (WRs.cons (rp.ts ts) WRs.nil))
       rw[e6]
       cases kv2.1<;>exact WR.v
   · rw[ag hb] at e
     have hm:=m1 b x e
     obtain⟨u,hu⟩:=hm.some
     exact hm.mv ts (by rw[hu];exact sm b u hu)
def oe (i:Int)(n:Nat):List W:=(List.range n).map fun(k:Nat)=>wi (i - (k:Int))
def qa (a:WA):WE:=fun ρ M q=>a ρ M fun xs M1=> ∃i j:Int,xs= [wi i,wi j,wi (-1)] /\ RgOk i j (-1) /\ (i - j).toNat<=100000 /\ ∀l,M1 l=none ->q (wr l) (um M1 l (.lst (oe i (i - j).toNat)))
theorem n9 {H:Hp}(i:Int): ∀ (l:List Nat),WRs K H (l.map fun(k:Nat)=>wi (i - (k:Int))) (l.map fun(k:Nat)=>V.int (i - (k:Int)))
 | []=>by simp only[List.map_nil,WRs]
 | k::r=>by simp only[List.map_cons,WRs];exact⟨_,_,rfl,WR.v,n9 i r⟩
instance {t:TA}{a:WA} [ia:IA K t a]:IE K (qv t) (qa a) where
 imp:=fun ρ M σ H q Q o h k=>ia.imp ρ M σ H _ _ o h fun xs M1 vs H1 ⟨i,j,ex,h1,h2,h3⟩ t1 m1 r1=>by
   subst ex
   simp only[WRs] at r1
   obtain⟨v1,t2,rfl,g1,v2,t3,rfl,g2,v3,t4,rfl,g3,rfl⟩:=r1
   cases g1.eq;cases g2.eq;cases g3.eq
   exact⟨i,j,rfl,h1,h2,fun p hp=>k _ _ _ _ (h3 p (m1.fresh hp)) (t1.trans (L2.bz.ts (ay hp))) (m1.newL hp (n9 i _)) WR.v⟩
end WL
namespace WQ
open PySem L2 WL WP
def GD (p:Int)(m:Pt):Prop:=(m.map (·.1)).Nodup /\ ∀z∈m,0<z.2 /\ z.2<p
def bL (m:Pt)(x:Int):Pt:=m.filter fun q=>decide (q.1≠x)
theorem sW (m:Pt)(x:Int):jc (kvW m) (.inl x)=kvW (bL m x):=by
 unfold jc kvW bL
 rw[List.filter_map]
 congr 1
 apply List.filter_congr
 intro q _
 simp
theorem bQ: ∀ {m:Pt},(m.map (·.1)).Nodup -> ∀x,tot m x=look m x
 | [],_,x=>rfl
 | q ::r,h,x=>by
   rw[List.map_cons,List.nodup_cons] at h
   have ih:=bQ h.2 x
   rw[tot,look,ih]
   by_cases e:q.1=x
   · rw[if_pos e,if_pos e]
     have:look r x=0:=bo fun z hz ez=>h.1 (List.mem_map.mpr ⟨z,hz,by rw[ez,e]⟩)
     rw[this];lia
   · rw[if_neg e,if_neg e];lia
theorem cC {m:Pt}(h:(m.map (·.1)).Nodup){z:Int×Int}(hz:z∈m):look m z.1=z.2:=by
 induction m with
 | nil=>cases hz
 | cons q r ih=>
   rw[List.map_cons,List.nodup_cons] at h
   rw[look]
   rcases List.mem_cons.mp hz with rfl | hz'
   · rw[if_pos rfl]
   · rw[if_neg (fun e=>h.1 (List.mem_map.mpr ⟨z,hz',e.symm⟩))]
     exact ih h.2 hz'
theorem mq (m:Pt)(x y:Int):look (bL m x) y=if y=x then 0 else look m y:=by
 induction m with
 | nil=>simp[bL,look]
 | cons q r ih=>
   unfold bL at ih ⊢
   rw[List.filter_cons]
   by_cases e:q.1=x
   · simp only[e,ne_eq,not_true_eq_false,decide_false,Bool.false_eq_true,if_false]
     rw[ih,look]
     by_cases ey:y=x
     · rw[if_pos ey,if_pos ey]
     · rw[if_neg ey,if_neg ey,if_neg (by rw[e];exact Ne.symm ey)]
   · simp only[ne_eq,e,not_false_eq_true,decide_true,if_true]
     rw[look,look,ih]
     by_cases ey:q.1=y
     · rw[if_pos ey,if_pos ey,if_neg (by rw[<- ey];exact e)]
     · rw[if_neg ey,if_neg ey]
theorem GD.range {p:Int}{m:Pt}(hp:0<p)(h:GD p m)(x:Int):0<=look m x /\ look m x<p:=by
 by_cases hx: ∃z∈m,z.1=x
 · obtain⟨z,hz,rfl⟩:=hx
   rw[cC h.1 hz]
   have:=h.2 z hz;lia
 · rw[bo fun z hz e=>hx ⟨z,hz,e⟩];lia
theorem GD.drop {p:Int}{m:Pt}(h:GD p m)(x:Int):GD p (bL m x):=by
 refine⟨h.1.sublist (List.Sublist.map _ List.filter_sublist),fun z hz=>h.2 z (List.mem_filter.mp hz).1⟩
theorem uL {m:Pt}{x v:Int}{z:Int×Int}(h:z∈d4 m x v):z=(x,v) \/ z∈m:=by
 unfold d4 at h
 split at h
 · obtain⟨q,hq,e⟩:=List.mem_map.mp h
   split at e
   · rename_i e2;left;rw[<- e,e2]
   · right;rw[<- e];exact hq
 · rcases List.mem_append.mp h with h | h
   · exact .inr h
   · exact .inl (List.mem_singleton.mp h)
theorem GD.put {p:Int}{m:Pt}(h:GD p m){x v:Int}(h0:0<v)(h1:v<p):GD p (d4 m x v):=
 ⟨jP h.1,fun z hz=>by
   rcases uL hz with rfl | hz
   · exact⟨h0,h1⟩
   · exact h.2 z hz⟩
theorem uX {m:Pt}{x:Int}(h:look m x≠0):(bD (kvW m) (.inl x)).isSome=true:=by
 rw[jt]
 rcases dZ (m:=m) (x:=x) with⟨_,e,_⟩ | ⟨q,e,_⟩
 · exact absurd e h
 · rw[e];rfl
def NZ (p n:Int):Prop:= ∀y,0<y ->y<p ->y*n % p≠0
def shf (by_:Int)(b:Pt):Pt:=b.map fun z=>(z.1+by_,z.2)
theorem mZ (by_:Int): ∀ (b:Pt) (x:Int),tot (shf by_ b) x=tot b (x - by_)
 | [],x=>rfl
 | z::r,x=>by
   show tot ((z.1+by_,z.2)::shf by_ r) x=_
   rw[tot,tot,mZ by_ r x]
   by_cases e:z.1+by_=x
   · rw[if_pos e,if_pos (by lia)]
   · rw[if_neg e,if_neg (by lia)]
def pAddS:WSp:=fun xs M q=> ∃ (h o:Addr) (p by_ n:Int) (a b:Pt),xs= [wi p,wr h,wr o,wi by_,wi n] /\ h≠o /\ M h=some (.dK (kvW a)) /\ M o=some (.dK (kvW b)) /\ 0<p /\ p<1000 /\ GD p a /\ GD p b /\ NZ p n /\ a.length+b.length<=100000 /\
 ∀c,GD p c ->c.length<=a.length+b.length ->(∀x,look c x=(look a x+look b (x - by_)*n) % p) ->q wn (um M h (.dK (kvW c)))
theorem oU (m:Pt)(x:Int):(bL m x).length<=m.length:=List.length_filter_le _ _
def xf (C:Addr):WSp:=fun xs M q=> ∃ (s dx:Addr) (l r:W),xs= [wr s,l,r] /\ M s=some (.ins C dx []) /\ q wn (um M s (.ins C dx [("lamps",l),("parts",r)]))
end WQ
namespace WQ
open PySem L2 WL WP
def rM (R C:Addr):WSp:=fun xs M q=> ∃ (s dx r dr:Addr) (l u f g e:W),xs= [wr s,wr r,f,g,e] /\ s≠r /\ M s=some (.ins C dx []) /\ M r=some (.ins R dr [("lamps",l),("parts",u)]) /\ q wn (um M s (.ins C dx [("lamps",l),("parts",u),("first",f),("length",g),("foot",e)]))
end WQ
namespace WL
open PySem L2
theorem sDDelW_e {a b:WE}{D:WEnds}{ρ:WSt}{M:Mp}:lW a b D ρ M=a ρ M fun x M1=>b ρ M1 fun y M2=>cz x fun p=>il y fun k=>dH (M2 p) fun kvs=>b8 ((bD kvs k).isSome=true) (D.nx ρ (um M2 p (.dK (jc kvs k)))):=by
 unfold lW cz il dH b8;congr 1;funext x M1;congr 1;funext y M2;apply propext;constructor
 · rintro⟨p,kvs,k,e1,e2,e3,e4,h⟩;exact⟨p,e1,k,e3,kvs,e2,e4,h⟩
 · rintro⟨p,e1,k,e3,kvs,e2,e4,h⟩;exact⟨p,kvs,k,e1,e2,e3,e4,h⟩
end WL
namespace WQ
open PySem L2 WL WP
abbrev Pq:=List (Int×Addr×Pt)
def pdW (P:Pq):List (Key×W):=P.map fun t=>((Sum.inl t.1:Key),wr t.2.1)
def pf (P:Pq)(w:Int):Pt:=match P.find? (fun t=>decide (t.1=w)) with
 | some t=>t.2.2
 | none=> []
def av (rl rp:Addr)(P:Pq):List Addr:=rl::rp::P.map fun t=>t.2.1
structure RowAt (p:Int)(M:Mp)(rl rp:Addr)(a:Pt)(P:Pq):Prop where
 lam:M rl=some (.dK (kvW a))
 par:M rp=some (.dK (pdW P))
 inn: ∀t∈P,M t.2.1=some (.dK (kvW t.2.2))
 ga:GD p a
 gp: ∀t∈P,GD p t.2.2
 ndk:(P.map (·.1)).Nodup
 nda:(av rl rp P).Nodup
def dJ (M M':Mp)(L:List Addr):Prop:= ∀d o,M d=some o ->d∉L ->M' d=some o
theorem dJ.trans {M M1 M2:Mp}{L L':List Addr}(h:dJ M M1 L)(h':dJ M1 M2 L')(hs: ∀x∈L',x∈L \/ M x=none):dJ M M2 L:=fun d o e n=>
 h' d o (h d o e n) fun hd=>(hs d hd).elim n fun z=>by rw[e] at z;cases z
theorem dJ.sm {M M':Mp}(h:Sm M M')(L:List Addr):dJ M M' L:=fun d o e _=>h d o e
theorem jQ {α β:Type}{f:α ->β}: ∀ {l:List α},(l.map f).Nodup -> ∀ {x y:α},x∈l ->y∈l ->f x=f y ->x=y
 | [],_,x,_,hx,_,_=>by cases hx
 | z ::r,h,x,y,hx,hy,e=>by
   rw[List.map_cons,List.nodup_cons] at h
   rcases List.mem_cons.mp hx with ex | hx
   · rcases List.mem_cons.mp hy with ey | hy
     · rw[ex,ey]
     · exact absurd (List.mem_map.mpr ⟨y,hy,by rw[<- e,ex]⟩) h.1
   · rcases List.mem_cons.mp hy with ey | hy
     · exact absurd (List.mem_map.mpr ⟨x,hx,by rw[e,ey]⟩) h.1
     · exact jQ h.2 hx hy e
theorem find_some {P:Pq}{w:Int}{t:Int×Addr×Pt}(h:P.find? (fun t=>decide (t.1=w))=some t):t∈P /\ t.1=w:=⟨List.mem_of_find?_eq_some h,by simpa using List.find?_some h⟩
theorem find_none {P:Pq}{w:Int}(h:P.find? (fun t=>decide (t.1=w))=none):w∉P.map (·.1):=fun hm=>by
 obtain⟨t,ht,e⟩:=List.mem_map.mp hm
 have:=List.find?_eq_none.mp h t ht
 simp[e] at this
theorem mW (P:Pq)(w:Int):bD (pdW P) (.inl w)=(P.find? fun t=>decide (t.1=w)).map fun t=>wr t.2.1:=by
 induction P with
 | nil=>rfl
 | cons t r ih=>
   unfold bD pdW at ih ⊢
   rw[List.map_cons,List.find?_cons,List.find?_cons]
   have e:decide ((Sum.inl t.1:Key)=Sum.inl w)=decide (t.1=w):=jZ _ _
   simp only[e]
   cases decide (t.1=w) with
   | true=>rfl
   | false=>exact ih
theorem wV {P:Pq}{w:Int}{e:Addr}{c:Pt}(h:w∉P.map (·.1)):dA (pdW P) (.inl w) (wr e)=pdW (P++ [(w,e,c)]):=by
 unfold dA
 have:((pdW P).any fun kv=>decide (kv.1=Sum.inl w))=false:=by
   rw[List.any_eq_false]
   intro kv hkv
   obtain⟨t,ht,rfl⟩:=List.mem_map.mp hkv
   simp only[decide_eq_true_eq,Sum.inl.injEq]
   exact fun ew=>h (List.mem_map.mpr ⟨t,ht,ew⟩)
 rw[this]
 unfold pdW
 rw[List.map_append];rfl
def eB (P:Pq)(w:Int)(c:Pt):Pq:=P.map fun u=>if u.1=w then(u.1,u.2.1,c) else u
theorem uE (P:Pq)(w:Int)(c:Pt):pdW (eB P w c)=pdW P:=by
 unfold pdW eB;rw[List.map_map];apply List.map_congr_left;intro t _;simp only[Function.comp];split<;>rfl
theorem lJ (P:Pq)(w:Int)(c:Pt):(eB P w c).map (fun t=>t.2.1)=P.map fun t=>t.2.1:=by
 unfold eB;rw[List.map_map];apply List.map_congr_left;intro t _;simp only[Function.comp];split<;>rfl
theorem lj (P:Pq)(w:Int)(c:Pt):(eB P w c).map (·.1)=P.map (·.1):=by
 unfold eB;rw[List.map_map];apply List.map_congr_left;intro t _;simp only[Function.comp];split<;>rfl
theorem cI (t:Int×Addr×Pt)(P:Pq)(w:Int):pf (t::P) w=if t.1=w then t.2.2 else pf P w:=by
 unfold pf
 rw[List.find?_cons]
 by_cases e:t.1=w
 · simp[e]
 · simp[e]
theorem nI {P:Pq}{w:Int}{c:Pt}(v:Int)(h:w∈P.map (·.1)):pf (eB P w c) v=if v=w then c else pf P v:=by
 induction P with
 | nil=>cases h
 | cons t r ih=>
   show pf ((if t.1=w then(t.1,t.2.1,c) else t)::eB r w c) v=_
   by_cases e:t.1=w
   · rw [if_pos e,cI,cI]
     by_cases ev:v=w
     · rw[if_pos (show t.1=v by rw[ev,e]),if_pos ev]
     · rw [if_neg (show ¬t.1=v from fun z=>ev (z.symm.trans e)),if_neg ev,if_neg (show ¬t.1=v from fun z=>ev (z.symm.trans e))]
       by_cases hr:w∈r.map (·.1)
       · rw[ih hr,if_neg ev]
       · have:eB r w c=r:=by
           unfold eB
           refine(List.map_congr_left (g:=id) fun u hu=> ?_).trans (List.map_id r)
           exact if_neg fun eu=>hr (List.mem_map.mpr ⟨u,hu,eu⟩)
         rw[this]
   · rw[if_neg e,cI,cI]
     have hr:w∈r.map (·.1):=by
       rcases List.mem_cons.mp (show w∈t.1::r.map (·.1) from h) with z | z
       · exact absurd z.symm e
       · exact z
     by_cases ev:t.1=v
     · rw[if_pos ev,if_pos ev,if_neg (fun z=>e (ev.trans z))]
     · rw[if_neg ev,if_neg ev,ih hr]
theorem l4 {P:Pq}{w:Int}{e:Addr}{c:Pt}(v:Int)(h:w∉P.map (·.1)):pf (P++ [(w,e,c)]) v=if v=w then c else pf P v:=by
 induction P with
 | nil=>
   rw[List.nil_append,cI]
   by_cases ev:v=w
   · rw[if_pos ev.symm,if_pos ev]
   · rw[if_neg (Ne.symm ev),if_neg ev]
 | cons t r ih=>
   rw[List.cons_append,cI,cI]
   have hr:w∉r.map (·.1):=fun z=>h (List.mem_cons_of_mem _ z)
   by_cases ev:t.1=v
   · rw[if_pos ev,if_pos ev,if_neg (fun z=>h (by rw[<- z, <- ev];exact List.mem_cons_self))]
   · rw[if_neg ev,if_neg ev,ih hr]
theorem jL {P:Pq}{w:Int}(h:w∉P.map (·.1)):pf P w= []:=by
 unfold pf
 cases e:P.find? (fun t=>decide (t.1=w)) with
 | none=>rfl
 | some t=>obtain⟨h1,h2⟩:=find_some e;exact absurd (List.mem_map.mpr ⟨t,h1,h2⟩) h
theorem l3 {P:Pq}(h:(P.map (·.1)).Nodup){t:Int×Addr×Pt}(ht:t∈P):pf P t.1=t.2.2:=by
 induction P with
 | nil=>cases ht
 | cons u r ih=>
   rw[List.map_cons,List.nodup_cons] at h
   rw[cI]
   rcases List.mem_cons.mp ht with rfl | ht'
   · rw[if_pos rfl]
   · rw[if_neg (fun e=>h.1 (List.mem_map.mpr ⟨t,ht',e.symm⟩))];exact ih h.2 ht'
section
variable {p:Int}{M M':Mp}{rl rp:Addr}{a:Pt}{P:Pq}
theorem RowAt.same (h:RowAt p M rl rp a P)(hk: ∀d∈av rl rp P,M' d=M d):RowAt p M' rl rp a P:=
 ⟨(hk rl (by simp[av])).trans h.lam,(hk rp (by simp[av])).trans h.par,fun t ht=>(hk _ (by simp only[av,List.mem_cons,List.mem_map];exact .inr (.inr ⟨t,ht,rfl⟩))).trans (h.inn t ht),h.ga,h.gp,h.ndk,h.nda⟩
theorem RowAt.mem (h:RowAt p M rl rp a P){d:Addr}(hd:d∈av rl rp P): ∃kvs,M d=some (.dK kvs):=by
 simp only[av,List.mem_cons,List.mem_map] at hd
 rcases hd with rfl | rfl | ⟨t,ht,rfl⟩
 · exact⟨_,h.lam⟩
 · exact⟨_,h.par⟩
 · exact⟨_,h.inn t ht⟩
theorem RowAt.keep (h:RowAt p M rl rp a P){L:List Addr}(hk:dJ M M' L)(hd: ∀d∈av rl rp P,d∉L):RowAt p M' rl rp a P:=h.same fun d hd'=>by
 obtain⟨kvs,e⟩:=h.mem hd'
 rw[e];exact hk d _ e (hd d hd')
theorem RowAt.lamp (h:RowAt p M rl rp a P){c:Pt}(gc:GD p c):RowAt p (um M rl (.dK (kvW c))) rl rp c P:=by
 have nd:=List.nodup_cons.mp h.nda
 refine⟨ab,?_,fun t ht=> ?_,gc,h.gp,h.ndk,h.nda⟩
 · rw[ag (fun e=>nd.1 (by rw[<- e];exact List.mem_cons_self))];exact h.par
 · rw[ag (fun e=>nd.1 (by rw[<- e];exact List.mem_cons_of_mem _ (List.mem_map.mpr ⟨t,ht,rfl⟩)))];exact h.inn t ht
theorem RowAt.set (h:RowAt p M rl rp a P){t:Int×Addr×Pt}(ht:t∈P){c:Pt}(gc:GD p c):RowAt p (um M t.2.1 (.dK (kvW c))) rl rp a (eB P t.1 c):=by
 have nd:=List.nodup_cons.mp h.nda
 have nd2:=List.nodup_cons.mp nd.2
 have ea:av rl rp (eB P t.1 c)=av rl rp P:=by unfold av;rw[lJ]
 refine⟨?_,?_,fun u hu=> ?_,h.ga,fun u hu=> ?_,by rw[lj];exact h.ndk,by rw[ea];exact h.nda⟩
 · rw[ag (fun e=>nd.1 (by rw[e];exact List.mem_cons_of_mem _ (List.mem_map.mpr ⟨t,ht,rfl⟩)))];exact h.lam
 · rw[ag (fun e=>nd2.1 (by rw[e];exact List.mem_map.mpr ⟨t,ht,rfl⟩)),uE];exact h.par
 · obtain⟨v,hv,rfl⟩:=List.mem_map.mp hu
   by_cases e:v.1=t.1
   · rw[if_pos e]
     have:v=t:=jQ h.ndk hv ht e
     rw[this];exact ab
   · rw[if_neg e,ag (fun ea=> ?_)]
     · exact h.inn v hv
     · exact e (by rw[jQ nd2.2 hv ht ea])
 · obtain⟨v,hv,rfl⟩:=List.mem_map.mp hu
   split
   · exact gc
   · exact h.gp v hv
theorem RowAt.new (h:RowAt p M rl rp a P){w:Int}{e:Addr}{c:Pt}(he:M e=none)(hw:w∉P.map (·.1))(gc:GD p c):RowAt p (um (um M e (.dK (kvW c))) rp (.dK (pdW (P++ [(w,e,c)])))) rl rp a (P++ [(w,e,c)]):=by
 have nd:=List.nodup_cons.mp h.nda
 have nd2:=List.nodup_cons.mp nd.2
 have ne: ∀d∈av rl rp P,d≠e:=fun d hd z=>by obtain⟨kvs,q⟩:=h.mem hd;rw[z,he] at q;cases q
 have erl:=ne rl (by simp[av])
 have erp:=ne rp (by simp[av])
 have ein: ∀t∈P,t.2.1≠e:=fun t ht=>ne _ (by simp only[av,List.mem_cons,List.mem_map];exact .inr (.inr ⟨t,ht,rfl⟩))
 refine⟨?_,ab,fun u hu=> ?_,h.ga,fun u hu=> ?_,?_,?_⟩
 · rw[ag (fun z=>nd.1 (by rw[z];exact List.mem_cons_self)),ag erl];exact h.lam
 · rcases List.mem_append.mp hu with hu | hu
   · rw[ag (fun z=>nd2.1 (by rw[<- z];exact List.mem_map.mpr ⟨u,hu,rfl⟩)),ag (ein u hu)];exact h.inn u hu
   · rw[List.mem_singleton.mp hu,ag (Ne.symm erp),ab]
 · rcases List.mem_append.mp hu with hu | hu
   · exact h.gp u hu
   · rw[List.mem_singleton.mp hu];exact gc
 · rw[List.map_append]
   refine List.nodup_append.mpr ⟨h.ndk,by simp,fun x hx y hy=> ?_⟩
   simp at hy;subst hy
   exact fun z=>hw (z▸hx)
 · have:av rl rp (P++ [(w,e,c)])=av rl rp P++ [e]:=by unfold av;rw[List.map_append];rfl
   rw[this]
   refine List.nodup_append.mpr ⟨h.nda,by simp,fun x hx y hy=> ?_⟩
   simp at hy;subst hy
   exact ne x hx
end
end WQ
namespace WQ
open PySem L2 WL WP
def InsRS (R S:Addr)(M:Mp)(o ol op:Addr):Prop:=(∃d,M o=some (.ins R d [("lamps",wr ol),("parts",wr op)])) \/ ∃d f g e,M o=some (.ins S d [("lamps",wr ol),("parts",wr op),("first",f),("length",g),("foot",e)])
def vM (R S:Addr):WSp:=fun xs M q=> ∃ (r dr rl rp o ol op:Addr) (p s sh n:Int) (a b:Pt) (P Q:Pq) (B C:Nat),xs= [wi p,wi s,wr r,wr o,wi sh,wi n] /\ M r=some (.ins R dr [("lamps",wr rl),("parts",wr rp)]) /\ InsRS R S M o ol op /\ 0<p /\ p<1000 /\ 0<=s /\ s<2 ^ 30 /\ NZ p n /\
 RowAt p M rl rp a P /\ RowAt p M ol op b Q /\ (∀x∈av rl rp P,x∉av ol op Q) /\ a.length+b.length<=100000 /\ P.length+Q.length<=100000 /\ (∀t∈P,t.2.2.length<=B) /\ (∀t∈Q,t.2.2.length<=C) /\ B+C<=100000 /\
 ∀ M' c P',RowAt p M' rl rp c P' ->(∀x,look c x=(look a x+look b (x - s*sh)*n) % p) ->(∀w x,look (pf P' w) x=(look (pf P w) x+look (pf Q w) (x - sh)*n) % p) ->dJ M M' (av rl rp P) ->(∀x∈av rl rp P',x∈av rl rp P \/ M x=none) ->(∀x∈av rl rp P,x∈av rl rp P') ->
   c.length<=a.length+b.length ->P'.length<=P.length+Q.length ->(∀t∈P',t.2.2.length<=B+C) ->(∀w∈P'.map (·.1),w∈P.map (·.1) \/ w∈Q.map (·.1)) ->q wn M'
theorem nH {Q:Pq}{i:Nat}{t:Int×Addr×Pt}(hn:(Q.map (·.1)).Nodup)(h:Q[i]? =some t)(w:Int):pf (Q.take (i+1)) w=if w=t.1 then t.2.2 else pf (Q.take i) w:=by
 have hnot:t.1∉(Q.take i).map (·.1):=fun hm=>by
   rw[List.map_take] at hm
   obtain⟨j,hj,e⟩:=List.mem_iff_getElem.mp hm
   rw[List.length_take,List.length_map] at hj
   rw[List.getElem_take] at e
   obtain⟨hi,e2⟩:=List.getElem?_eq_some_iff.mp h
   have:=List.pairwise_iff_getElem.mp hn j i (by simp;lia) (by simpa using hi) (by lia)
   apply this
   rw[e];simp[e2]
 rw[List.take_add_one,h]
 obtain⟨t1,t2,t3⟩:=t
 exact l4 w hnot
theorem qp {Q:Pq}{i:Nat}{t:Int×Addr×Pt}(hn:(Q.map (·.1)).Nodup)(h:Q[i]? =some t):t.1∉(Q.take i).map (·.1):=fun hm=>by
   rw[List.map_take] at hm
   obtain⟨j,hj,e⟩:=List.mem_iff_getElem.mp hm
   rw[List.length_take,List.length_map] at hj
   rw[List.getElem_take] at e
   obtain⟨hi,e2⟩:=List.getElem?_eq_some_iff.mp h
   have:=List.pairwise_iff_getElem.mp hn j i (by simp;lia) (by simpa using hi) (by lia)
   apply this
   rw[e];simp[e2]
theorem GD.nil {p:Int}:GD p []:=⟨List.nodup_nil,fun z hz=>by cases hz⟩
theorem aU {p:Int}{m:Pt}(p0:0<p)(h:GD p m)(x:Int):look m x % p=look m x:=Int.emod_eq_of_lt (h.range p0 x).1 (h.range p0 x).2
theorem RowAt.pfGD {p:Int}{M:Mp}{rl rp:Addr}{a:Pt}{P:Pq}(h:RowAt p M rl rp a P)(w:Int):GD p (pf P w):=by
 unfold pf
 cases e:P.find? (fun t=>decide (t.1=w)) with
 | none=>exact GD.nil
 | some t=>exact h.gp t (find_some e).1
end WQ
namespace WQ
open PySem L2 WL WP
def fC (a:Int)(n:Nat):List Int:=(List.range n).map fun(k:Nat)=>a - (k:Int)
def upI (a:Int)(n:Nat):List Int:=(List.range n).map fun(k:Nat)=>a+(k:Int)
def thl (ns:List Int)(len:Int):List Int:=if len=0 \/ ns= [] then ns else fC (ns.getLastD 0) (ns.getLastD 0 - (len - 1)).toNat++upI (ns.headD 0) (0 - ns.headD 0).toNat
def pTHL:WSp:=fun xs M q=> ∃ (f:Addr) (ns:List Int) (len:Int),xs= [wr f,wi len] /\ M f=some (.lst (ns.map wi)) /\ 0<=len /\ len<10000 /\ ns.length<=100000 /\ (∀x∈ns, -10000<x /\ x<10000) /\ ∀p M',Sm M M' ->M' p=some (.lst ((thl ns len).map wi)) ->q (wr p) M'
end WQ
namespace WL
open PySem L2
theorem qk {M:Mp}{x:Addr}{l:List W}{k:Bool ->Prop}(h:M x=some (.lst l)):truK M (.v (.ref x)) k=k (!l.isEmpty):=by
 apply propext;constructor
 · rintro⟨b,⟨l',h1,h2⟩ | ⟨l',h1,_⟩,z⟩
   · rw[h] at h1;cases h1;rw[h2] at z;exact z
   · rw[h] at h1;cases h1
 · intro z;exact⟨_, .inl ⟨l,h,rfl⟩,z⟩
theorem p9 {a:WA}{ρ:WSt}{M:Mp}{q:WK}:qa a ρ M q=a ρ M fun xs M1=> ∃i j:Int,xs= [wi i,wi j,wi (-1)] /\ RgOk i j (-1) /\ (i - j).toNat<=100000 /\ iM M1 fun l=>q (wr l) (um M1 l (.lst (oe i (i - j).toNat))):=rfl
end WL
namespace WQ
open PySem L2 WL WP
theorem dX {l:List Int}(h:l≠ []):l.getLastD 0∈l:=by
 induction l using WP.bT with
 | h0=>exact absurd rfl h
 | h1 l a _=>simp
end WQ
namespace WQ
open PySem L2 WL WP
def shI (len h:Int):Int:=if h<0 then h else h - len
structure Hs (hs:List Int)(len:Int):Prop where
 out: ∀h∈hs,h<0 \/ len<=h
 ord: ∀ (i j:Nat) h g,j<i ->hs[i]? =some h ->hs[j]? =some g ->¬(0<=g - shI len h /\ g - shI len h<=len)
 clo: ∀h∈hs, ∀y,shI len h<=y ->y<=shI len h+len ->y∈hs \/ (0<=y /\ y<len)
theorem dW {a x:Int}{n:Nat}:x∈fC a n↔a - n<x /\ x<=a:=by
 unfold fC
 rw[List.mem_map]
 constructor
 · rintro⟨k,hk,rfl⟩;have:=List.mem_range.mp hk;lia
 · rintro⟨h1,h2⟩;exact⟨(a - x).toNat,List.mem_range.mpr (by lia),by lia⟩
theorem gz {a x:Int}{n:Nat}:x∈upI a n↔a<=x /\ x<a+n:=by
 unfold upI
 rw[List.mem_map]
 constructor
 · rintro⟨k,hk,rfl⟩;have:=List.mem_range.mp hk;lia
 · rintro⟨h1,h2⟩;exact⟨(x - a).toNat,List.mem_range.mpr (by lia),by lia⟩
theorem lI {a x:Int}{n i:Nat}(h:(fC a n)[i]? =some x):i<n /\ x=a - i:=by
 unfold fC at h
 rw[List.getElem?_map] at h
 by_cases hi:i<n
 · rw[List.getElem?_range hi] at h;cases h;exact⟨hi,rfl⟩
 · rw[List.getElem?_eq_none (by simp;lia)] at h;cases h
theorem tH {a x:Int}{n i:Nat}(h:(upI a n)[i]? =some x):i<n /\ x=a+i:=by
 unfold upI at h
 rw[List.getElem?_map] at h
 by_cases hi:i<n
 · rw[List.getElem?_range hi] at h;cases h;exact⟨hi,rfl⟩
 · rw[List.getElem?_eq_none (by simp;lia)] at h;cases h
theorem nY {l:List Int}(h:l.Pairwise (· <= ·)): ∀x∈l,l.headD 0<=x:=by
 cases l with
 | nil=>intro x hx;cases hx
 | cons a r=>
   intro x hx
   rcases List.mem_cons.mp hx with rfl | hx
   · exact Int.le_refl _
   · exact(List.pairwise_cons.mp h).1 x hx
theorem wH {ns:List Int}{len:Int}(l0:0<=len)(hs:ns.Pairwise (· <= ·))(hn:ns.Nodup):Hs (thl ns len) len /\ ∀y∈ns,y∈thl ns len \/ (0<=y /\ y<len):=by
 unfold thl
 by_cases hc:len=0 \/ ns= []
 · rw [if_pos hc]
   rcases hc with hz | hz
   · subst hz
     refine⟨⟨fun h _=>by lia,fun i j h g hji hi hj=> ?_,fun h hh y h1 h2=> .inl ?_⟩,fun y hy=> .inl hy⟩
     · have hne:g≠h:=fun e=>by
         obtain⟨a1,a2⟩:=List.getElem?_eq_some_iff.mp hi
         obtain⟨b1,b2⟩:=List.getElem?_eq_some_iff.mp hj
         exact List.pairwise_iff_getElem.mp hn j i b1 a1 hji (by rw[a2,b2,e])
       unfold shI;split<;>lia
     · have:y=h:=by unfold shI at h1 h2;split at h1<;>lia
       rw[this];exact hh
   · subst hz
     exact⟨⟨(fun h hh=>nomatch hh),(fun i j h g _ hi _=>by simp at hi),(fun h hh=>nomatch hh)⟩,(fun y hy=>nomatch hy)⟩
 · rw [if_neg hc]
   have hl:0<len:=by have:=fun e=>hc (.inl e);lia
   have hne:ns≠ []:=fun e=>hc (.inr e)
   have hlast:=jS hs hne
   have hhead:=nY hs
   generalize ns.getLastD 0=b at hlast
   generalize ns.headD 0=a at hhead
   have mem: ∀x,x∈fC b (b - (len - 1)).toNat++upI a (0 - a).toNat↔(len<=x /\ x<=b) \/ (a<=x /\ x<0):=fun x=>by
     rw[List.mem_append,dW,gz];constructor<;>(intro h;lia)
   refine⟨⟨fun h hh=> ?_,fun i j h g hji hi hj=> ?_,fun h hh y h1 h2=> ?_⟩,fun y hy=> ?_⟩
   · rw[mem] at hh;lia
   · rw [List.getElem?_append] at hi hj
     unfold shI
     split at hi
     · obtain⟨_,e1⟩:=lI hi
       split at hj
       · obtain⟨_,e2⟩:=lI hj
         have:=(dW (a:=b) (x:=h) (n:=(b - (len - 1)).toNat)).mp (List.mem_of_getElem? hi)
         split<;>lia
       · rename_i q1 q2;lia
     · obtain⟨r1,e1⟩:=tH hi
       split at hj
       · have:=(dW (a:=b) (x:=g) (n:=(b - (len - 1)).toNat)).mp (List.mem_of_getElem? hj)
         split<;>lia
       · obtain⟨_,e2⟩:=tH hj
         split<;>lia
   · rw[mem] at hh ⊢
     unfold shI at h1 h2
     split at h1<;>lia
   · rw[mem]
     have:=hlast.2 y hy
     have:=hhead y hy
     lia
structure StF (s p:Int)(b:Pt)(f len foot:Int):Prop where
 ok:bO s f
 l0:0<=len
 s0:s=0 ->len=0
 ge: ∀x,look b x≠0 ->f<=aA s x
 hgt: ∀x,look b x≠0 ->aA s x=f ->0<=hI s x /\ hI s x<=len
 top:look b (f+len*s)=1
 bot:look b f*foot % p=1
 ft:0<foot /\ foot<p
theorem lE {s:Int}(x k:Int):aA s (x+k*s)=aA s x:=by
 unfold aA
 split
 · rename_i e;subst e;simp
 · rw[Int.add_mul_emod_self_right]
theorem j6 {s:Int}(h:s≠0)(x k:Int):hI s (x+k*s)=hI s x+k:=by
 unfold hI
 rw[if_neg h,if_neg h,Int.add_mul_ediv_right _ _ h]
theorem ja {s f:Int}(ok:bO s f)(h:s≠0)(k:Int):hI s (f+k*s)=k:=by
 rw[j6 h]
 have:hI s f=0:=by
   unfold hI;rw[if_neg h]
   rcases ok with z | ⟨z1,z2⟩
   · exact absurd z h
   · exact Int.ediv_eq_zero_of_lt z1 z2
 rw[this,Int.zero_add]
theorem kg {s f x:Int}(s0:0<=s)(e:aA s x=f):x=f+hI s x*s:=by
 rcases Int.lt_or_eq_of_le s0 with h | h
 · have:=fX (x:=x) h;rw[e] at this;rw[Int.mul_comm];exact this
 · subst h;have:x=f:=e;rw[this];simp
def cop (g:Int ->Int)(js:List (Int×Int)):Int:=js.foldr (fun j r=>g j.1*j.2+r) 0
theorem bp (g:Int ->Int)(j:Int×Int)(js:List (Int×Int)):cop g (j::js)=g j.1*j.2+cop g js:=rfl
theorem nM {p n:Int}(hp:p=2 \/ p=3 \/ p=5 \/ p=7)(hn:n % p≠0):NZ p n:=by
 intro y y0 y1 e
 have e2:y*(n % p) % p=0:=by rw[Int.mul_emod,Int.emod_emod_of_dvd _ (Int.dvd_refl p), <- Int.mul_emod];exact e
 have r0:=Int.emod_nonneg n (show p≠0 by lia)
 have r1:=Int.emod_lt_of_pos n (show 0<p by lia)
 generalize n % p=r at hn e2 r0 r1
 have key: ∀p∈([2,3,5,7]:List Nat), ∀y∈List.range p, ∀r∈List.range p,y≠0 ->r≠0 ->y*r % p≠0:=by decide
 obtain⟨p',rfl⟩:=Int.eq_ofNat_of_zero_le (show 0<=p by lia)
 obtain⟨y',rfl⟩:=Int.eq_ofNat_of_zero_le (show 0<=y by lia)
 obtain⟨r',rfl⟩:=Int.eq_ofNat_of_zero_le r0
 refine key p' (by simp;lia) y' (List.mem_range.mpr (by lia)) r' (List.mem_range.mpr (by lia)) (by lia) (by lia) ?_
 have:((y'*r' % p':Nat):Int)=0:=by push_cast;exact e2
 lia
end WQ
namespace WQ
open PySem L2 WL WP
structure CutSt (s p f len:Int)(b a:Pt)(hs:List Int)(i:Nat)(c:Pt)(js:List (Int×Int)):Prop where
 rel: ∀x,look c x=(look a x+cop (fun sh=>look b (x - s*sh)) js) % p
 clr: ∀ (j:Nat) g,j<i ->hs[j]? =some g ->look c (f+g*s)=0
 sup: ∀x,aA s x=f ->look c x≠0 ->hI s x∈hs \/ (0<=hI s x /\ hI s x<len)
 lowc: ∀x,aA s x<f ->look c x=look a x
section
variable {s p f len foot:Int}{b a c:Pt}{hs:List Int}{i:Nat}{js:List (Int×Int)}{h:Int}
theorem CutSt.skip (st:CutSt s p f len b a hs i c js)(hh:hs[i]? =some h)(hz:look c (f+h*s)=0):CutSt s p f len b a hs (i+1) c js:=
 ⟨st.rel,fun j g hj hg=>by
   rcases Nat.lt_or_ge j i with z | z
   · exact st.clr j g z hg
   · have:j=i:=by lia
     subst this;rw[hh] at hg;cases hg;exact hz,st.sup,st.lowc⟩
theorem gE (s x sh:Int):aA s (x - s*sh)=aA s x:=by
 have:=lE (s:=s) x (-sh)
 rw[show x+ -sh*s=x - s*sh by rw[Int.neg_mul,Int.mul_comm s sh];lia] at this
 exact this
theorem sP {s:Int}(hs:s≠0)(x sh:Int):hI s (x - s*sh)=hI s x - sh:=by
 have:=j6 hs x (-sh)
 rw[show x+ -sh*s=x - s*sh by rw[Int.neg_mul,Int.mul_comm s sh];lia] at this
 rw[this];lia
theorem CutSt.step {c':Pt}{n:Int}(F:StF s p b f len foot)(H:Hs hs len)(s0:0<=s)(p0:0<p)(hz0:s=0 -> ∀h∈hs,h=0)(gc:GD p c)(gc':GD p c')(st:CutSt s p f len b a hs i c js)(hh:hs[i]? =some h)
   (hn:n=if h<0 then -(look c (f+h*s))*foot else -(look c (f+h*s))) (e: ∀x,look c' x=(look c x+look b (x - s*shI len h)*n) % p):CutSt s p f len b a hs (i+1) c' ((shI len h,n)::js):=by
 have hm:=List.mem_of_getElem? hh
 have quiet: ∀x,look b (x - s*shI len h)=0 ->look c' x=look c x:=fun x hx=>by rw[e,hx,Int.zero_mul,Int.add_zero,aU p0 gc]
 have here:look c' (f+h*s)=0:=by
   rw[e,hn]
   by_cases hneg:h<0
   · rw[if_pos hneg]
     have e1:f+h*s - s*shI len h=f:=by unfold shI;rw[if_pos hneg,Int.mul_comm s h];lia
     rw[e1]
     generalize look c (f+h*s)=v
     have e2:v+look b f*(-v*foot)=v - v*(look b f*foot):=by
       rw[Int.neg_mul,Int.mul_neg, <- Int.mul_assoc,Int.mul_comm (look b f) v,Int.mul_assoc];lia
     rw[e2,Int.sub_emod,Int.mul_emod,F.bot]
     rw[Int.mul_one,Int.emod_emod_of_dvd _ (Int.dvd_refl p),Int.sub_self];rfl
   · rw[if_neg hneg]
     have e1:f+h*s - s*shI len h=f+len*s:=by unfold shI;rw[if_neg hneg,Int.mul_comm s (h - len),Int.sub_mul];lia
     rw[e1,F.top,Int.one_mul]
     rw[show look c (f+h*s)+ -look c (f+h*s)=0 by lia];rfl
 refine⟨fun x=> ?_,fun j g hj hg=> ?_,fun x hx hne=> ?_,fun x hx=> ?_⟩
 · rw[e,st.rel,Int.emod_add_emod,bp,Int.add_assoc,Int.add_comm (cop _ js)]
 · rcases Nat.lt_or_ge j i with z | z
   · rw [quiet]
     · exact st.clr j g z hg
     · by_cases hne:look b (f+g*s - s*shI len h)=0
       · exact hne
       · exfalso
         have hcol:aA s (f+g*s - s*shI len h)=f:=by rw[gE,F.ok.on]
         have hr:=F.hgt _ hne hcol
         by_cases hs0:s=0
         · have g0:=hz0 hs0 g (List.mem_of_getElem? hg)
           have h0:=hz0 hs0 h hm
           have:=H.ord i j h g z hh hg
           have l0:=F.s0 hs0
           subst l0;rw[g0,h0] at this
           exact this (by unfold shI;simp)
         · rw[sP hs0,ja F.ok hs0] at hr
           exact H.ord i j h g z hh hg hr
   · have:j=i:=by lia
     subst this;rw[hh] at hg;cases hg;exact here
 · by_cases hb:look b (x - s*shI len h)=0
   · rw[quiet x hb] at hne;exact st.sup x hx hne
   · have hcol:aA s (x - s*shI len h)=f:=by rw[gE];exact hx
     have hr:=F.hgt _ hb hcol
     by_cases hs0:s=0
     · have h0:=hz0 hs0 h hm
       have:hI s x=0:=by unfold hI;rw[if_pos hs0]
       left;rw[this, <- h0];exact hm
     · rw[sP hs0] at hr
       exact H.clo h hm _ (by lia) (by lia)
 · rw [quiet x]
   · exact st.lowc x hx
   · by_cases hb:look b (x - s*shI len h)=0
     · exact hb
     · have:=F.ge _ hb
       rw[gE] at this;lia
theorem CutSt.low (st:CutSt s p f len b a hs hs.length c js)(s0:0<=s): ∀x,aA s x=f ->look c x≠0 ->0<=hI s x /\ hI s x<len:=fun x hx hne=>by
 rcases st.sup x hx hne with z | z
 · exfalso
   obtain⟨j,hj⟩:=List.mem_iff_getElem?.mp z
   have:=st.clr j _ (List.getElem?_eq_some_iff.mp hj).1 hj
   rw[<- kg s0 hx] at this
   exact hne this
 · exact z
end
def Wt (Z:Int)(m:Pt):Prop:= ∀x,look m x≠0 -> -Z<=x /\ x<=Z
theorem Wt.len {p Z:Int}{m:Pt}(g:GD p m)(h:Wt Z m)(z0:0<=Z):m.length<=(2*Z+1).toNat:=by
 have:=dS (l:=upI (-Z) (2*Z+1).toNat) g.1 fun k hk=>by
   obtain⟨z,hz,rfl⟩:=List.mem_map.mp hk
   have hne:look m z.1≠0:=by rw[cC g.1 hz];have:=g.2 z hz;lia
   have:=h z.1 hne
   exact gz.mpr (by lia)
 rw[List.length_map] at this
 unfold upI at this;rw[List.length_map,List.length_range] at this
 exact this
theorem ph {s f:Int}{ns:List Int}(hn:ns.Nodup)(s0:0<=s):(hts s f ns).Nodup:=by
 unfold hts
 have h2:(ns.filter fun x=>decide (aA s x=f)).Nodup:=hn.sublist List.filter_sublist
 refine List.Pairwise.map _ (R:=fun x y=>x≠y /\ aA s x=f /\ aA s y=f) (fun x y h e=> ?_) ?_
 · exact h.1 (by rw[kg s0 h.2.1,kg s0 h.2.2,e])
 · refine List.Pairwise.imp_of_mem (fun {x y} hx hy h=>⟨h,?_,?_⟩) h2
   · simpa using(List.mem_filter.mp hx).2
   · simpa using(List.mem_filter.mp hy).2
end WQ
namespace WQ
open PySem L2 WL WP
def qH (s p f len foot:Int)(b:Pt)(g:Int ->Int)(h:Int):Int ->Int:=if g (f+h*s)=0 then g else fun x=>(g x+look b (x - s*shI len h)*(if h<0 then -(g (f+h*s))*foot else -(g (f+h*s)))) % p
def mK (s p f len foot:Int)(b:Pt)(hs:List Int)(g:Int ->Int):Int ->Int:=hs.foldl (qH s p f len foot b) g
theorem jd {s p f len foot:Int}{b:Pt}{hs:List Int}{g:Int ->Int}{i:Nat}{h:Int}(e:hs[i]? =some h):mK s p f len foot b (hs.take (i+1)) g=qH s p f len foot b (mK s p f len foot b (hs.take i) g) h:=by
 unfold mK;rw[List.take_add_one,e,List.foldl_append];rfl
def pCut (R S:Addr):WSp:=fun xs M q=> ∃ (r dr rl rp o ds ol op:Addr) (p s f len foot:Int) (a b:Pt) (P Q:Pq) (B C:Nat) (Z D:Int),xs= [wi p,wi s,wr r,wr o] /\ M r=some (.ins R dr [("lamps",wr rl),("parts",wr rp)]) /\
 M o=some (.ins S ds [("lamps",wr ol),("parts",wr op),("first",wi f),("length",wi len),("foot",wi foot)]) /\ (p=2 \/ p=3 \/ p=5 \/ p=7) /\ 0<=s /\ s<=8 /\ len<1000 /\ StF s p b f len foot /\ RowAt p M rl rp a P /\ RowAt p M ol op b Q /\ (∀x∈av rl rp P,x∉av ol op Q) /\
 Wt Z a /\ Wt D b /\ 0<=Z /\ Z<=3000 /\ 0<=D /\ D<=1000 /\ (∀t∈P,t.2.2.length<=B) /\ (∀t∈Q,t.2.2.length<=C) /\ B+(2*Z+2).toNat*C<=90000 /\ C<=9 /\ P.length+Q.length<=1000 /\
 ∀ M' c P' js,RowAt p M' rl rp c P' ->(∀x,look c x=(look a x+cop (fun sh=>look b (x - s*sh)) js) % p) ->(∀w x,look (pf P' w) x=(look (pf P w) x+cop (fun sh=>look (pf Q w) (x - sh)) js) % p) ->(s=0 -> ∀j∈js,j.1=0) ->
   (∀x,aA s x=f ->look c x≠0 ->0<=hI s x /\ hI s x<len) ->(∀x,aA s x<f ->look c x=look a x) ->Wt (Z+D+s) c ->dJ M M' (av rl rp P) ->(∀x∈av rl rp P',x∈av rl rp P \/ M x=none) ->(∀x∈av rl rp P,x∈av rl rp P') ->
   (∀t∈P',t.2.2.length<=B+(2*Z+2).toNat*C) ->(∀w∈P'.map (·.1),w∈P.map (·.1) \/ w∈Q.map (·.1)) ->(∃ms:List Int,ms.Perm (hts s f (plc a)) /\ ms.Pairwise (· <= ·) /\ look c=mK s p f len foot b (thl ms len) (look a)) ->(∀j∈js, -Z - 1<=j.1 /\ j.1<=Z) ->q wn M'
theorem sA {P P' Q:Pq}(hn:(P'.map (·.1)).Nodup)(h: ∀w∈P'.map (·.1),w∈P.map (·.1) \/ w∈Q.map (·.1)):P'.length<=P.length+Q.length:=by
 have:=dS (l:=P.map (·.1)++Q.map (·.1)) hn fun k hk=>List.mem_append.mpr (h k hk)
 rw[List.length_map,List.length_append,List.length_map,List.length_map] at this
 exact this
theorem jU (a:Pt):(kvW a).map (fun kv=>bA kv.1)=(plc a).map wi:=by
 unfold kvW plc;rw[List.map_map,List.map_map];rfl
theorem hI_bd {s f x Z:Int}(s0:0<=s)(s8:s<=8)(h: -Z<=x /\ x<=Z)(z0:0<=Z): -Z - 1<=hI s x /\ hI s x<=Z:=by
 unfold hI
 split
 · lia
 · rename_i hs
   have hs1:1<=s:=by lia
   have h1:=Int.emod_add_mul_ediv x s
   have h2:=Int.emod_nonneg x hs
   have h3:=Int.emod_lt_of_pos x (show 0<s by lia)
   generalize x / s=y at h1
   generalize x % s=m at h1 h2 h3
   constructor
   · rcases Int.lt_or_le y (-Z - 1) with q | q
     · have:s*y<=s*(-Z - 2):=Int.mul_le_mul_of_nonneg_left (by lia) (by lia)
       have e:s*(-Z - 2)= -(s*Z) - 2*s:=by rw[Int.mul_sub,Int.mul_neg];lia
       have:Z<=s*Z:=by have:=Int.mul_le_mul_of_nonneg_right hs1 z0;lia
       lia
     · exact q
   · rcases Int.lt_or_le Z y with q | q
     · have:s*(Z+1) <=s*y:=Int.mul_le_mul_of_nonneg_left (by lia) (by lia)
       have e:s*(Z+1)=s*Z+s:=by rw[Int.mul_add];lia
       have:Z<=s*Z:=by have:=Int.mul_le_mul_of_nonneg_right hs1 z0;lia
       lia
     · exact q
end WQ
namespace WQ
open PySem L2 WL WP
theorem wJ {ns:List Int}{len h:Int}(l0:0<=len)(hh:h∈thl ns len):(h<0 -> ∃m∈ns,m<=h) /\ (0<=h -> ∃m∈ns,h<=m):=by
 unfold thl at hh
 by_cases hc:len=0 \/ ns= []
 · rw[if_pos hc] at hh;exact⟨fun _=>⟨h,hh,Int.le_refl _⟩,fun _=>⟨h,hh,Int.le_refl _⟩⟩
 · rw[if_neg hc,List.mem_append,dW,gz] at hh
   have hne:ns≠ []:=fun e=>hc (.inr e)
   have hl:0<len:=by have:=fun e=>hc (.inl e);lia
   have h1:ns.getLastD 0∈ns:=dX hne
   have h2:ns.headD 0∈ns:=by cases ns with | nil=>exact absurd rfl hne | cons x r=>exact List.mem_cons_self
   exact⟨fun z=>⟨_,h2,by lia⟩,fun z=>⟨_,h1,by lia⟩⟩
theorem uh {ns:List Int}{len Z:Int}{n:Nat}(l0:0<=len)(z0:0<=Z)(hb: ∀x∈ns, -Z - 1<=x /\ x<=Z)(hn:ns.length<=n):(thl ns len).length<=max n (2*Z+2).toNat:=by
 unfold thl
 by_cases hc:len=0 \/ ns= []
 · rw[if_pos hc];lia
 · rw[if_neg hc,List.length_append]
   have hne:ns≠ []:=fun e=>hc (.inr e)
   have hl:0<len:=by have:=fun e=>hc (.inl e);lia
   have h1:ns.getLastD 0∈ns:=dX hne
   have h2:ns.headD 0∈ns:=by cases ns with | nil=>exact absurd rfl hne | cons x r=>exact List.mem_cons_self
   have b1:=hb _ h1
   have b2:=hb _ h2
   unfold fC upI
   rw[List.length_map,List.length_map,List.length_range,List.length_range]
   lia
theorem sQ {s x:Int}(s0:0<s):x - s<s*hI s x /\ s*hI s x<=x:=by
 unfold hI
 rw[if_neg (by lia)]
 have h1:=Int.emod_add_mul_ediv x s
 have h2:=Int.emod_nonneg x (show s≠0 by lia)
 have h3:=Int.emod_lt_of_pos x s0
 exact⟨by lia,by lia⟩
end WQ
namespace WQ
open PySem L2 WL WP
theorem bJ {m:Pt}{x:Int}(h:look m x≠0):x∈plc m:=by
 rcases dZ (m:=m) (x:=x) with⟨h1,h2,_⟩ | ⟨q,h1,h2⟩
 · exact absurd h2 h
 · have h3:=List.find?_some h1
   have h4:=List.mem_of_find?_eq_some h1
   refine List.mem_map.mpr ⟨q,h4,?_⟩
   first | exact of_decide_eq_true h3 | exact beq_iff_eq.mp h3 | simpa using h3
end WQ
namespace WQ
open PySem L2 WL WP
theorem de {p:Int}{a:Pt}(ga:GD p a){x:Int}(h:x∈plc a):0<look a x /\ look a x<p:=by
 obtain⟨z,hz,rfl⟩:=List.mem_map.mp h
 rw[cC ga.1 hz];exact ga.2 z hz
theorem tI {s f h:Int}{a:Pt}(s0:0<=s)(hh:h∈hts s f (plc a)):f+h*s∈plc a /\ aA s (f+h*s)=f:=by
 obtain⟨x,hx,e⟩:=List.mem_map.mp hh
 have h1:=(List.mem_filter.mp hx).1
 have h2:aA s x=f:=by simpa using(List.mem_filter.mp hx).2
 have h3:=kg s0 h2
 rw[e] at h3
 rw[<- h3];exact⟨h1,h2⟩
theorem iq {s f x:Int}{a:Pt}(h:x∈plc a)(e:aA s x=f):hI s x∈hts s f (plc a):=List.mem_map.mpr ⟨x,List.mem_filter.mpr ⟨h,by simpa using e⟩,rfl⟩
theorem xF {s x:Int}(s0:0<=s):bO s (aA s x):=by
 unfold bO aA
 by_cases h:s=0
 · exact .inl h
 · rw[if_neg h];exact .inr ⟨Int.emod_nonneg _ h,Int.emod_lt_of_pos _ (by lia)⟩
structure Mn (s f m t:Int)(a:Pt):Prop where
 mn:bY ((plc a).map (aA s)) f
 lo:m∈hts s f (plc a)
 hi:t∈hts s f (plc a)
 bd: ∀h∈hts s f (plc a),m<=h /\ h<=t
theorem Mn.ok {s f m t:Int}{a:Pt}(h:Mn s f m t a)(s0:0<=s):bO s f:=by
 obtain⟨x,_,e⟩:=List.mem_map.mp h.mn.1
 rw[<- e];exact xF s0
theorem kA {f t m s:Int}:f+(t - m)*s+s*m=f+t*s:=by rw[Int.sub_mul,Int.mul_comm s m];lia
theorem oE {s p f m t tn foot:Int}{a b:Pt}(p1:1<p)(s0:0<=s)(ga:GD p a)(N:Mn s f m t a)(htn:tn*look a (f+t*s) % p=1)(e: ∀x,look b x=look a (x+s*m)*tn % p)
   (hfoot:foot*look b f % p=1) (f0:0<foot) (f1:foot<p):StF s p b f (t - m) foot:=by
 have lit: ∀x,look b x≠0 ->x+s*m∈plc a:=fun x hx=>bJ fun z=>hx (by rw[e,z,Int.zero_mul];rfl)
 have col: ∀x,aA s (x+s*m)=aA s x:=fun x=>by rw[Int.mul_comm];exact lE x m
 refine⟨N.ok s0,by have:=N.bd _ N.lo;lia,fun z=> ?_,fun x hx=> ?_,fun x hx hc=> ?_,?_,by rw[Int.mul_comm];exact hfoot,f0,f1⟩
 · obtain⟨x,_,e1⟩:=List.mem_map.mp N.lo
   obtain⟨y,_,e2⟩:=List.mem_map.mp N.hi
   rw[<- e1, <- e2];unfold hI;rw[if_pos z,if_pos z];rfl
 · rw[<- col x];exact N.mn.2 _ (List.mem_map.mpr ⟨_,lit x hx,rfl⟩)
 · have h1:=N.bd _ (iq (lit x hx) ((col x).trans hc))
   by_cases z:s=0
   · have h2:=N.bd _ N.lo
     unfold hI;rw[if_pos z];lia
   · rw[Int.mul_comm,j6 z] at h1;lia
 · rw[e,kA,Int.mul_comm];exact htn
theorem lT {s p f m t tn:Int}{a b:Pt}(s0:0<=s)(p0:0<p)(ga:GD p a)(N:Mn s f m t a)(nz:NZ p tn)(e: ∀x,look b x=look a (x+s*m)*tn % p):0<look b f /\ look b f<p:=by
 have h1:=de ga (tI s0 N.lo).1
 have h2:=nz _ h1.1 h1.2
 rw[e,Int.mul_comm s m]
 have h3:=Int.emod_nonneg (look a (f+m*s)*tn) (show p≠0 by lia)
 have h4:=Int.emod_lt_of_pos (look a (f+m*s)*tn) p0
 lia
theorem mn_of {s:Int}{a:Pt}{ms:List Int}(hne:a≠ [])(hperm:ms.Perm (hts s (eJ ((plc a).map (aA s))) (plc a)))(hsort:ms.Pairwise (· <= ·)):
   ms≠ [] /\ Mn s (eJ ((plc a).map (aA s))) (ms.headD 0) (ms.getLastD 0) a:=by
 have hpl:plc a≠ []:=fun e=>hne (List.map_eq_nil_iff.mp e)
 have mn:=cD (l:=(plc a).map (aA s)) (fun e=>hpl (List.map_eq_nil_iff.mp e))
 obtain⟨x,hx,e⟩:=List.mem_map.mp mn.1
 have hms:ms≠ []:=fun z=>by
   have:=hperm.mem_iff.mpr (iq hx e)
   rw[z] at this;cases this
 have hl:=jS hsort hms
 refine⟨hms,mn,hperm.mem_iff.mp ?_,hperm.mem_iff.mp (dX hms),fun h hh=>⟨nY hsort h (hperm.mem_iff.mpr hh),hl.2 h (hperm.mem_iff.mpr hh)⟩⟩
 cases ms with | nil=>exact absurd rfl hms | cons x r=>exact List.mem_cons_self
def xa (R S:Addr):WSp:=fun xs M q=> ∃ (r dr rl rp:Addr) (p s:Int) (a:Pt) (P:Pq) (B:Nat) (D:Int),xs= [wi p,wi s,wr r] /\ M r=some (.ins R dr [("lamps",wr rl),("parts",wr rp)]) /\ (p=2 \/ p=3 \/ p=5 \/ p=7) /\ 0<=s /\ s<=8 /\ RowAt p M rl rp a P /\ a≠ [] /\ Wt D a /\ 0<=D /\ D<=1000 /\
 (∀t∈P,t.2.2.length<=B) /\ B<=100000 /\ P.length<=1000 /\
 ∀ M' o ds ol op b Q f m t foot tn,M' o=some (.ins S ds [("lamps",wr ol),("parts",wr op),("first",wi f),("length",wi (t - m)),("foot",wi foot)]) ->RowAt p M' ol op b Q ->StF s p b f (t - m) foot ->Mn s f m t a ->0<tn ->tn<p ->tn*look a (f+t*s) % p=1 ->
   (∀x,look b x=look a (x+s*m)*tn % p) ->(∀w x,look (pf Q w) x=look (pf P w) (x+m)*tn % p) ->Sm M M' ->(∀x∈o::av ol op Q,M x=none) ->(∀t∈Q,t.2.2.length<=B) ->(∀w∈Q.map (·.1),w∈P.map (·.1)) ->q (wr o) M'
end WQ
namespace WL
open PySem L2
theorem vy {p:Addr}{M M':Mp}{o:MO}(h:WQ.SmB p M M'):WQ.SmB p M (um M' p o):=fun b u n e=>by rw[ag n];exact h b u n e
theorem mN {α β:Type}{l:List α}{fW:α ->W}(gW:β ->W)(R:α ->List W ->Prop)(n:Nat){keep:Mp ->Prop}{M1:Mp}{own:Nat}{fr:List Nat}{ρ:WSt}{g:WG}{c:WT}{it2:WI}{g2:WG}{c2:WT}{el:WE}{q:WK}
   (hz:l.length*n<sizeLine) (hkeep: ∀p M,M1 p=none ->WQ.SmB p M1 M ->keep M)
   (hs: ∀a∈l, ∀p M ys,M1 p=none ->WQ.SmB p M1 M ->M p=some (.lst ys) -> ∀ (B:WSt ->List W ->(Mp ->Prop) ->Mp ->Prop) (N0:Mp ->Prop),
     (∀ρ2 keep2 (bs:List β) (eW:β ->W) M4,WQ.SmB p M M4 ->M4 p=some (.lst ys) ->R a (bs.map eW) ->bs.length<=n ->(∀M',WQ.SmB p M4 M' ->keep2 M') ->(∀b∈bs, ∀M',WQ.SmB p M4 M' -> ∀N:Option W ->Mp ->Prop,N (some (eW b)) M' ->g2 (gW b) ρ2 M' fun ρ3 M5=>c2 ρ3 M5 fun b M6=>cO b (el ρ3 M6 fun z M7=>N (some z) M7) (N none M6)) ->B ρ2 (bs.map gW) keep2 M4) ->
     g (fW a) (eP own fr ρ) M fun ρ2 M2=>c ρ2 M2 fun b M3=>cO b (it2 ρ2 M3 fun xs2 keep2 M4=>B ρ2 xs2 keep2 M4) (N0 M3))
   (hq: ∀p M (yss:List (List W)),M1 p=none ->WQ.SmB p M1 M ->M p=some (.lst yss.flatten) ->yss.length=l.length ->(∀ (i:Nat) a zs,l[i]? =some a ->yss[i]? =some zs ->R a zs) ->q (wr p) M):
   kb (l.map fW) keep own fr g c it2 g2 c2 el ρ M1 q:=by
 intro p hp
 refine⟨fun i ys M=>WQ.SmB p M1 M /\ M p=some (.lst ys) /\ ∃yss:List (List W),yss.length=i /\ ys=yss.flatten /\ ys.length<=i*n /\ ∀ (j:Nat) a zs,l[j]? =some a ->yss[j]? =some zs ->R a zs,
   ⟨vy (WQ.SmB.refl p M1),ab,[],rfl,rfl,Nat.zero_le _,fun j a zs _ h=>by simp at h⟩,?_,?_,?_⟩
 · rintro i ys M hi ⟨h1,h2,_⟩
   exact⟨hkeep p M hp h1,h2⟩
 · rintro i x ys M hx ⟨h1,h2,yss,h3,h4,h5,h6⟩
   obtain⟨a,ha,rfl⟩:=fR hx
   have hil:=(List.getElem?_eq_some_iff.mp ha).1
   have hin:(i+1)*n<=l.length*n:=Nat.mul_le_mul_right _ hil
   have hin':(i+1)*n=i*n+n:=by rw[Nat.add_mul,Nat.one_mul]
   refine hs a (List.mem_of_getElem? ha) p M ys hp h1 h2 (fun ρ2 xs2 keep2 M4=>in2K xs2 keep2 g2 c2 el ρ2 p ys M4 _) (fun M3=>_) ?_
   intro ρ2 keep2 bs eW M4 k1 k2 k3 k4 k5 k6
   refine⟨fun j zs M'=>WQ.SmB p M4 M' /\ M' p=some (.lst zs) /\ zs=ys++(bs.take j).map eW,⟨WQ.SmB.refl p M4,k2,by simp⟩,?_,?_,?_⟩
   · rintro j zs M' hj ⟨z1,z2,rfl⟩
     refine⟨k5 M' z1,z2,?_⟩
     rw[List.length_append,List.length_map,List.length_take]
     lia
   · rintro j y zs M' hy ⟨z1,z2,rfl⟩
     obtain⟨b,hb,rfl⟩:=fR hy
     have e2:bs.take (j+1)=bs.take j++ [b]:=by rw[List.take_add_one,hb];rfl
     refine k6 b (List.mem_of_getElem? hb) M' z1 (fun o M5=>match o with
       | some z=>M5 p=some (.lst (ys++(bs.take j).map eW)) /\ (WQ.SmB p M4 (um M5 p (.lst (ys++(bs.take j).map eW++ [z]))) /\ um M5 p (.lst (ys++(bs.take j).map eW++ [z])) p=some (.lst (ys++(bs.take j).map eW++ [z])) /\ ys++(bs.take j).map eW++ [z]=ys++(bs.take (j+1)).map eW)
       | none=>WQ.SmB p M4 M5 /\ M5 p=some (.lst (ys++(bs.take j).map eW)) /\ ys++(bs.take j).map eW=ys++(bs.take (j+1)).map eW) ?_
     exact⟨z2,vy z1,ab,by rw[e2,List.map_append];simp⟩
   · rintro zs M' ⟨z1,z2,rfl⟩
     rw[List.length_map,List.take_length] at*
     refine⟨h1.trans (k1.trans z1),z2,yss++ [bs.map eW],by simp[h3],by rw[h4];simp,?_,fun j a' zs' ha' hzs=> ?_⟩
     · rw[List.length_append,List.length_map];lia
     · rw [List.getElem?_append] at hzs
       split at hzs
       · exact h6 j a' zs' ha' hzs
       · rename_i hj
         have hj':j=i:=by
           obtain⟨q1,_⟩:=List.getElem?_eq_some_iff.mp hzs
           simp at q1;lia
         subst hj'
         rw[ha] at ha';cases ha'
         rw[h3,Nat.sub_self] at hzs
         cases hzs;exact k3
 · rintro ys M ⟨h1,h2,yss,h3,h4,h5,h6⟩
   rw[List.length_map] at h3
   exact hq p M yss hp h1 (h4▸h2) h3 h6
end WL
namespace WQ
open PySem L2 WL WP
abbrev Part:=Int×Int×Int
def f7 (t:Part):W:= .tup [wi t.1,wi t.2.1,wi t.2.2]
def m8 (p n:Int)(P:Pq):List Part:=P.flatMap fun t=>t.2.2.map fun z=>(t.1,z.1,z.2*n % p)
def pTold:WSp:=fun xs M q=> ∃ (rl rp:Addr) (p n:Int) (a:Pt) (P:Pq) (B:Nat),xs= [wi p,wr rp,wi n] /\ 0<p /\ p<1000 /\ -1000<n /\ n<1000 /\ RowAt p M rl rp a P /\ P.length<=1000 /\ (∀t∈P,t.2.2.length<=B) /\ B<=90000 /\ P.length*B<=90000 /\
 ∀t M' (tl:List Part),Sm M M' ->M t=none ->M' t=some (.lst (tl.map f7)) ->tl.Perm (m8 p n P) ->q (wr t) M'
theorem qo {p n w:Int}{m:Pt}(g:(m.map (·.1)).Nodup){shs:List Int}(h:shs.Perm (plc m)):(shs.map fun sh=>((w,sh,look m sh*n % p):Part)).Perm (m.map fun z=>(w,z.1,z.2*n % p)):=by
 have h1:=h.map fun sh=>((w,sh,look m sh*n % p):Part)
 have e:(plc m).map (fun sh=>((w,sh,look m sh*n % p):Part))=m.map fun z=>(w,z.1,z.2*n % p):=by
   unfold plc;rw[List.map_map]
   apply List.map_congr_left
   intro z hz
   simp only[Function.comp]
   rw[cC g hz]
 rw[e] at h1;exact h1
theorem iQ {p n:Int}{P:Pq}(hg: ∀w,((pf P w).map (·.1)).Nodup): ∀ {ws:List Int} {yss:List (List W)},yss.length=ws.length ->
   (∀ (i:Nat) a zs,ws[i]? =some a ->yss[i]? =some zs -> ∃shs:List Int,shs.Perm (plc (pf P a)) /\ zs=shs.map fun sh=>f7 (a,sh,look (pf P a) sh*n % p)) ->
   ∃tl:List Part,yss.flatten=tl.map f7 /\ tl.Perm (ws.flatMap fun w=>(pf P w).map fun z=>(w,z.1,z.2*n % p))
 | [],[],_,_=>⟨[],rfl, .nil⟩
 | [],_::_,h,_=>by cases h
 | _::_,[],h,_=>by cases h
 | w::ws,zs::yss,h,hR=>by
   obtain⟨shs,h1,e1⟩:=hR 0 w zs rfl rfl
   obtain⟨tl,e2,h2⟩:=iQ hg (ws:=ws) (yss:=yss) (by simpa using h) fun i a z ha hz=>hR (i+1) a z (by simpa using ha) (by simpa using hz)
   refine⟨(shs.map fun sh=>((w,sh,look (pf P w) sh*n % p):Part))++tl,?_,?_⟩
   · rw[List.flatten_cons,e2,e1,List.map_append,List.map_map];rfl
   · rw[List.flatMap_cons];exact(qo (hg w) h1).append h2
theorem oB {p n:Int}{P:Pq}(nd:(P.map (·.1)).Nodup)(hg: ∀w,((pf P w).map (·.1)).Nodup){ws:List Int}(hperm:ws.Perm (P.map (·.1))){yss:List (List W)}(hlen:yss.length=ws.length)
   (hR: ∀ (i:Nat) a zs,ws[i]? =some a ->yss[i]? =some zs -> ∃shs:List Int,shs.Perm (plc (pf P a)) /\ zs=shs.map fun sh=>f7 (a,sh,look (pf P a) sh*n % p)):
   ∃tl:List Part,yss.flatten=tl.map f7 /\ tl.Perm (m8 p n P):=by
 obtain⟨tl,e,h⟩:=iQ hg hlen hR
 refine⟨tl,e,h.trans ?_⟩
 have h2:=hperm.flatMap_right fun w=>(pf P w).map fun z=>((w,z.1,z.2*n % p):Part)
 refine h2.trans (List.Perm.of_eq ?_)
 unfold m8
 rw[List.flatMap_def,List.flatMap_def,List.map_map]
 congr 1
 apply List.map_congr_left
 intro t ht
 simp only[Function.comp]
 rw[l3 nd ht]
end WQ
namespace WQ
open PySem L2 WL WP
theorem fE (G:Int ->Int)(x:Int): ∀d:Pt,cop G d=G x*tot d x+cop G (bL d x)
 | []=>by simp[cop,tot,bL]
 | z ::r=>by
   have ih:=fE G x r
   rw[bp,ih]
   unfold bL
   rw[List.filter_cons]
   by_cases e:z.1=x
   · rw[if_neg (by simpa using e)]
     have:tot (z::r) x=z.2+tot r x:=by show(if z.1=x then z.2 else 0)+tot r x=_;rw[if_pos e]
     rw[this,e,Int.mul_add];exact(Int.add_assoc _ _ _).symm
   · rw[if_pos (by simpa using e),bp]
     have:tot (z::r) x=tot r x:=by show(if z.1=x then z.2 else 0)+tot r x=_;rw[if_neg e,Int.zero_add]
     rw[this];exact Int.add_left_comm _ _ _
theorem dN (x y:Int): ∀d:Pt,tot (bL d x) y=if y=x then 0 else tot d y
 | []=>by simp[bL,tot]
 | z ::r=>by
   have ih:=dN x y r
   have e1:tot (z::r) y=(if z.1=y then z.2 else 0)+tot r y:=rfl
   unfold bL at ih ⊢
   rw[List.filter_cons]
   by_cases e:z.1=x
   · rw[if_neg (by simpa using e),ih,e1]
     by_cases ey:y=x
     · rw[if_pos ey,if_pos ey]
     · rw[if_neg ey,if_neg ey,if_neg (fun q=>ey (by rw[<- q,e])),Int.zero_add]
   · rw[if_pos (by simpa using e)]
     show(if z.1=y then z.2 else 0)+_=_
     rw[ih,e1]
     by_cases ey:y=x
     · rw[if_pos ey,if_pos ey,if_neg (fun q=>e (by rw[q,ey]))];rfl
     · rw[if_neg ey,if_neg ey]
theorem iA {p:Int}(G:Int ->Int): ∀ (n:Nat) (d:Pt),d.length<=n ->(∀x,tot d x % p=0) ->cop G d % p=0
 | n,[],_,_=>Int.zero_emod _
 | 0,_::_,h,_=>by simp at h
 | n +1,z::r,h,ht=>by
   rw[fE G z.1]
   have hl:(bL (z::r) z.1).length<=n:=by
     unfold bL
     rw[List.filter_cons,if_neg (by simp)]
     have:=List.length_filter_le (fun q:Int×Int=>decide (q.1≠z.1)) r
     simp only[List.length_cons] at h
     lia
   have ih:=iA G n _ hl fun x=>by
     rw[dN]
     split
     · rfl
     · exact ht x
   rw[Int.add_emod,ih,Int.mul_emod,ht,Int.mul_zero];simp
theorem gD (G:Int ->Int)(b:Pt): ∀a:Pt,cop G (a++b)=cop G a+cop G b
 | []=>by show cop G b=0+_;rw[Int.zero_add]
 | z::r=>by rw[List.cons_append,bp,bp,gD G b r,Int.add_assoc]
theorem mL (G:Int ->Int)(k:Int): ∀a:Pt,cop G (tm k a)=cop G a*k
 | []=>by show(0:Int)=0*k;simp
 | z::r=>by
   have:tm k (z::r)=(z.1,z.2*k)::tm k r:=rfl
   rw[this,bp,bp,mL G k r,Int.add_mul,Int.mul_assoc]
theorem oq {p:Int}(G:Int ->Int){a b:Pt}(h: ∀x,tot a x % p=tot b x % p):cop G a % p=cop G b % p:=by
 have h1:=iA (p:=p) G _ (a++tm (-1) b) (Nat.le_refl _) fun x=>by
   rw[cu,qm,Int.mul_neg,Int.mul_one, <- Int.sub_eq_add_neg]
   exact Int.emod_eq_emod_iff_emod_sub_eq_zero.mp (h x)
 rw[gD,mL,Int.mul_neg,Int.mul_one, <- Int.sub_eq_add_neg] at h1
 exact Int.emod_eq_emod_iff_emod_sub_eq_zero.mpr h1
theorem ou (x:Int): ∀js:Pt,cop (fun sh=>if x - sh=0 then 1 else 0) js=tot js x
 | []=>rfl
 | z::r=>by
   rw[bp,ou x r]
   show _=(if z.1=x then z.2 else 0)+tot r x
   by_cases e:z.1=x
   · rw[if_pos e,if_pos (by lia),Int.one_mul]
   · rw[if_neg e,if_neg (by lia),Int.zero_mul]
def tkN (s:Int)(sts:List Pt)(P:Pq)(x:Int):Nat ->Int
 | 0=>0
 | n+1=>tkN s sts P x n+cop (fun sh=>look (sts.getD n []) (x - s*sh)) (pf P n)
theorem kx {s p:Int}{sts:List Pt}{P P':Pq}(hP: ∀w,((pf P w).map (·.1)).Nodup)(hP': ∀w,((pf P' w).map (·.1)).Nodup)(x:Int): ∀n:Nat,(∀w:Nat,w<n -> ∀y,look (pf P' w) y % p=look (pf P w) y % p) ->tkN s sts P' x n % p=tkN s sts P x n % p
 | 0,_=>rfl
 | n+1,h=>by
   have ih:=kx (s:=s) (sts:=sts) (p:=p) hP hP' x n fun w hw=>h w (by lia)
   rw[tkN,tkN,Int.add_emod,ih,oq (p:=p) _ (a:=pf P' n) (b:=pf P n) fun y=>by rw[bQ (hP' n),bQ (hP n)];exact h n (by lia) y, <- Int.add_emod]
end WQ
namespace WQ
open PySem L2 WL WP
structure Sr (s p:Int)(st:Pt)(c len D:Int):Prop where
 pat:a7 p st
 ok:bO s c
 l0:0<=len
 s0:s=0 ->len=0
 ge: ∀x∈plc st,c<=aA s x
 hgt: ∀x∈plc st,aA s x=c ->0<=hI s x /\ hI s x<=len
 bot:c∈plc st
 top:look st (c+len*s)=1
 wt:Wt D st
theorem xA {s c:Int}(ok:bO s c):hI s c=0:=by
 unfold hI
 rcases ok with h | h
 · rw[if_pos h]
 · rw[if_neg (by lia)];exact Int.ediv_eq_zero_of_lt h.1 h.2
theorem Sr.topm {s p:Int}{st:Pt}{c len D:Int}(h:Sr s p st c len D):c+len*s∈plc st:=bJ (by rw[h.top];decide)
theorem Sr.tophI {s p:Int}{st:Pt}{c len D:Int}(h:Sr s p st c len D):hI s (c+len*s)=len:=by
 by_cases z:s=0
 · rw[h.s0 z];unfold hI;rw[if_pos z]
 · exact ja h.ok z len
theorem Sr.uniq {s p:Int}{st:Pt}{c len D c' len' D':Int}(h:Sr s p st c len D)(h':Sr s p st c' len' D'):c=c' /\ len=len':=by
 have e:c=c':=by
   have h1:=h.ge c' h'.bot
   have h2:=h'.ge c h.bot
   rw[h'.ok.own] at h1;rw[h.ok.own] at h2;lia
 subst e
 have h1:=h'.hgt _ h.topm (h.ok.on len)
 have h2:=h.hgt _ h'.topm (h.ok.on len')
 rw[h.tophI] at h1;rw[h'.tophI] at h2
 exact⟨rfl,by lia⟩
theorem Sr.mn {s p:Int}{st:Pt}{c len D f m t:Int}(h:Sr s p st c len D)(s0:0<=s)(N:Mn s f m t st):f=c /\ m=0 /\ t=len:=by
 have e:f=c:=bY.uniq N.mn ⟨List.mem_map.mpr ⟨c,h.bot,h.ok.own⟩,fun x hx=>by obtain⟨y,hy,rfl⟩:=List.mem_map.mp hx;exact h.ge y hy⟩
 subst e
 have b1:=N.bd _ (iq h.bot h.ok.own)
 have b2:=N.bd _ (iq h.topm (h.ok.on len))
 rw[xA h.ok] at b1;rw[h.tophI] at b2
 have bnd: ∀y∈hts s f (plc st),0<=y /\ y<=len:=fun y hy=>by
   obtain⟨x,hx,e⟩:=List.mem_map.mp hy
   have:=h.hgt x (List.mem_filter.mp hx).1 (by simpa using(List.mem_filter.mp hx).2)
   rw[e] at this;exact this
 have b3:=bnd _ N.lo
 have b4:=bnd _ N.hi
 exact⟨rfl,by lia,by lia⟩
theorem inv_uniq {p v f g:Int}(f0:0<f)(f1:f<p)(g0:0<g)(g1:g<p)(hf:f*v % p=1)(hg:g*v % p=1):f=g:=by
 have h1:f*(g*v) % p=f:=by rw[Int.mul_emod,hg,Int.mul_one,Int.emod_emod,Int.emod_eq_of_lt (by lia) f1]
 have h2:g*(f*v) % p=g:=by rw[Int.mul_emod,hf,Int.mul_one,Int.emod_emod,Int.emod_eq_of_lt (by lia) g1]
 have h3:f*(g*v)=g*(f*v):=by rw[<- Int.mul_assoc, <- Int.mul_assoc,Int.mul_comm f g]
 rw[h3] at h1;exact h1.symm.trans h2
def Cut1 (s p:Int)(st:Pt)(g g':Int ->Int):Prop:= ∃ (a b:Pt) (f len D foot:Int) (ms:List Int),GD p a /\ look a=g /\ look b=look st /\ Sr s p st f len D /\ 0<foot /\ foot<p /\ foot*look st f % p=1 /\ ms.Perm (hts s f (plc a)) /\ ms.Pairwise (· <= ·) /\ g'=mK s p f len foot b (thl ms len) g
theorem plc_perm {p:Int}{a b:Pt}(ga:GD p a)(gb:GD p b)(e:look a=look b):(plc a).Perm (plc b):=by
 refine(List.perm_ext_iff_of_nodup ga.1 gb.1).mpr fun x=>⟨fun h=> ?_,fun h=> ?_⟩
 · have:=de ga h;exact bJ (by rw[<- e];lia)
 · have:=de gb h;exact bJ (by rw[e];lia)
def TkI (s p:Int)(sts:List Pt)(g0:Int ->Int):Nat ->(Int ->Int) ->Prop
 | 0,g=>g=g0
 | i+1,g'=> ∃g,TkI s p sts g0 i g /\ Cut1 s p (sts.getD i []) g g'
end WQ
namespace WQ
open PySem L2 WL WP
structure SrL (s p:Int)(sts:List Pt)(D:Int):Prop where
 each: ∀ (i:Nat) st,sts[i]? =some st -> ∃c len,Sr s p st c len D /\ len<1000
 ris: ∀ (i j:Nat) st st' c len c' len',i<j ->sts[i]? =some st ->sts[j]? =some st' ->Sr s p st c len D ->Sr s p st' c' len' D ->c<c'
structure Took (s p:Int)(sts:List Pt)(D Y:Int)(pat rest:Pt)(P:Pq)(n:Nat):Prop where
 chain:TkI s p sts (look pat) n (look rest)
 low: ∀ (i:Nat) st c len,i<n ->sts[i]? =some st ->Sr s p st c len D -> ∀x,aA s x=c ->look rest x≠0 ->0<=hI s x /\ hI s x<len
 rel: ∀x,look rest x=(look pat x+tkN s sts P x n) % p
 keys: ∀w∈P.map (·.1),0<=w /\ w< (n:Int)
 still:s=0 -> ∀w x,look (pf P w) x≠0 ->x=0
 rng: ∀w x,look (pf P w) x≠0 -> -Y - 1<=x /\ x<=Y
 nd:(P.map (·.1)).Nodup
 gp: ∀t∈P,GD p t.2.2
def w8:WSp:=fun xs M q=> ∃ (p s D Z Zm:Int) (sts:List Pt) (pat:Pt),xs= [wi p,wi s, .tup (sts.map aQ),aQ pat] /\ (p=2 \/ p=3 \/ p=5 \/ p=7) /\ 0<=s /\ s<=8 /\ SrL s p sts D /\ a7 p pat /\ Wt Z pat /\ 0<=Z /\ 0<=D /\ D<=1000 /\ Z+sts.length*(D+s) <=Zm /\ Zm<=3000 /\ sts.length*(sts.length*(2*Zm+2).toNat) <=90000 /\ sts.length<=13 /\
 ∀t M' rest (tl:List Part) P,a7 p rest ->Wt Zm rest ->Took s p sts D Zm pat rest P sts.length ->tl.Perm (m8 p (-1) P) ->Sm M M' ->M t=none ->M' t=some (.lst (tl.map f7)) ->q (.tup [aQ rest,wr t]) M'
end WQ
namespace WQ
open PySem L2 WL WP
theorem rm {m:Pt}{x v:Int}(h:x∉m.map (·.1)):d4 m x v=m++ [(x,v)]:=by
 unfold d4;rw[if_neg (fun e=>h (fH.mp e))]
def prW (m:Pt):List (Key×W):=m.map fun z=>((Sum.inl z.1:Key),wi z.2)
theorem og (m:Pt)(nd:(m.map (·.1)).Nodup):(prW m).foldl (fun m p=>dA m p.1 p.2) []=kvW m:=by
 have key: ∀ (b a:Pt),((a++b).map (·.1)).Nodup ->(prW b).foldl (fun m p=>dA m p.1 p.2) (kvW a)=kvW (a++b):=by
   intro b
   induction b with
   | nil=>intro a _;rw[List.append_nil];rfl
   | cons z r ih=>
     intro a h
     have hx:z.1∉a.map (·.1):=fun hm=>by
       rw[List.map_append,List.map_cons] at h
       exact(List.nodup_append.mp h).2.2 _ hm _ List.mem_cons_self rfl
     show(prW r).foldl _ (dA (kvW a) (.inl z.1) (wi z.2))=_
     rw[gw,rm hx,ih (a++ [z]) (by rw[List.append_assoc];exact h),List.append_assoc];rfl
 exact key m [] nd
theorem nJ (m:Pt):aQ m= .tup ((prW m).map fun p=> .tup [bA p.1,p.2]):=by
 unfold aQ prW;rw[List.map_map];rfl
theorem dc {p:Int}{m:Pt}(h:a7 p m):GD p m:=⟨(List.pairwise_map.mpr h.2).imp fun h e=>by rw[e] at h;exact absurd h (Int.lt_irrefl _),h.1⟩
end WQ
namespace WQ
open PySem L2 WL WP
theorem fF {g:Int ->Int}: ∀ {js:Pt},(∀j∈js,g j.1=0) ->cop g js=0
 | [],_=>rfl
 | z::r,h=>by rw[bp,h z List.mem_cons_self,Int.zero_mul,fF (js:=r) fun j hj=>h j (List.mem_cons_of_mem _ hj)];rfl
theorem Took.ext {s p D Y:Int}{sts:List Pt}{pat a b:Pt}{P:Pq}{n:Nat}(h:Took s p sts D Y pat a P n)(e:look b=look a):Took s p sts D Y pat b P n:=
 ⟨by rw[e];exact h.chain,by rw[e];exact h.low,by rw[e];exact h.rel,h.keys,h.still,h.rng,h.nd,h.gp⟩
theorem rF {p:Int}{P:Pq}(gp: ∀t∈P,GD p t.2.2)(w:Int):((pf P w).map (·.1)).Nodup:=by
 unfold pf
 cases e:P.find? (fun t=>decide (t.1=w)) with
 | none=>exact List.nodup_nil
 | some t=>exact(gp t (find_some e).1).1
theorem px {p a b b' c c':Int}(h1:b' % p=b % p)(h2:c' % p=c % p):(a+b+c) % p=(a+(b'+c')) % p:=by
 have h3:(b+c) % p=(b'+c') % p:=by rw[Int.add_emod, <- h1, <- h2, <- Int.add_emod]
 rw[Int.add_assoc,Int.add_emod,h3, <- Int.add_emod]
theorem Took.step {s p D Y cl len foot:Int}{sts:List Pt}{pat c c' b st:Pt}{P P' Q:Pq}{js:Pt}{i:Nat}(tk:Took s p sts D Y pat c P i)(p0:0<p)(s0:0<=s)(srl:SrL s p sts D)(hst:sts[i]? =some st)(sr:Sr s p st cl len D)(eb:look b=look st)
   (f0:0<foot) (f1:foot<p) (hf:foot*look st cl % p=1) (gc:GD p c) (nd':(P'.map (·.1)).Nodup) (gp': ∀t∈P',GD p t.2.2)
   (ec: ∀x,look c' x=(look c x+cop (fun sh=>look b (x - s*sh)) js) % p) (ep: ∀w x,look (pf P' w) x=(look (pf P w) x+cop (fun sh=>look (pf Q w) (x - sh)) js) % p)
   (eq: ∀w x,look (pf Q w) x=if w=(i:Int) /\ x=0 then 1 else 0) (ej:s=0 -> ∀j∈js,j.1=0) (elow: ∀x,aA s x=cl ->look c' x≠0 ->0<=hI s x /\ hI s x<len) (elowc: ∀x,aA s x<cl ->look c' x=look c x)
   (hky: ∀w∈P'.map (·.1),w∈P.map (·.1) \/ w=(i:Int)) (hct: ∃ms:List Int,ms.Perm (hts s cl (plc c)) /\ ms.Pairwise (· <= ·) /\ look c'=mK s p cl len foot b (thl ms len) (look c)) (hjr: ∀j∈js, -Y - 1<=j.1 /\ j.1<=Y):Took s p sts D Y pat c' P' (i+1):=by
 have hget:sts.getD i []=st:=by rw[List.getD_eq_getElem?_getD,hst];rfl
 obtain⟨ms,m1,m2,m3⟩:=hct
 have hnot:(i:Int)∉P.map (·.1):=fun h=>by have:=(tk.keys _ h).2;lia
 have q0: ∀w,w≠(i:Int) -> ∀x,cop (fun sh=>look (pf Q w) (x - sh)) js=0:=fun w hw x=>fF fun j _=>by rw[eq,if_neg (fun z=>hw z.1)]
 refine⟨⟨look c,tk.chain,⟨c,b,cl,len,D,foot,ms,gc,rfl,by rw[hget];exact eb,by rw[hget];exact sr,f0,f1,by rw[hget];exact hf,m1,m2,m3⟩⟩,fun j st' c2 sj hj hst' sr' x hx hne=> ?_,fun x=> ?_,fun w hw=> ?_,fun hs w x hne=> ?_,fun w x hne=> ?_,nd',gp'⟩
 · rcases Nat.lt_or_ge j i with z | z
   · have hlt:=srl.ris j i st' st c2 sj cl len z hst' hst sr' sr
     rw[elowc x (by lia)] at hne
     exact tk.low j st' c2 sj z hst' sr' x hx hne
   · have:j=i:=by lia
     subst this
     rw[hst] at hst';cases hst'
     obtain⟨rfl,rfl⟩:=sr.uniq sr'
     exact elow x hx hne
 · rw [ec,tk.rel,Int.emod_add_emod]
   have h1:=kx (s:=s) (p:=p) (sts:=sts) (rF tk.gp) (rF gp') x i fun w hw y=>by
     rw[ep,q0 w (by lia),Int.add_zero,Int.emod_emod]
   have h2:=oq (p:=p) (fun sh=>look st (x - s*sh)) (a:=pf P' i) (b:=js) fun y=>by
     rw[bQ (rF gp' i),ep,jL hnot]
     have:cop (fun sh=>look (pf Q i) (y - sh)) js=cop (fun sh=>if y - sh=0 then 1 else 0) js:=by
       congr 1;funext sh;rw[eq]
       by_cases z:y - sh=0
       · rw[if_pos ⟨rfl,z⟩,if_pos z]
       · rw[if_neg (fun q=>z q.2),if_neg z]
     rw[this,ou]
     show(0+_) % p % p=_
     rw[Int.zero_add,Int.emod_emod]
   rw[tkN,hget,eb]
   exact px h1 h2
 · rcases hky w hw with z | z
   · have:=tk.keys w z;push_cast;lia
   · rw[z];push_cast;lia
 · by_cases z:x=0
   · exact z
   · exfalso
     refine hne ?_
     rw[ep]
     have h1:look (pf P w) x=0:=by
       by_cases y:look (pf P w) x=0
       · exact y
       · exact absurd (tk.still hs w x y) z
     rw[h1,fF fun j hj=>by rw[eq,ej hs j hj,if_neg (fun q=>z (by have:=q.2;lia))]]
     rfl
 · by_cases h1:look (pf P w) x=0
   · by_cases z: -Y - 1<=x /\ x<=Y
     · exact z
     · exfalso
       refine hne ?_
       rw[ep,h1,fF fun j hj=>by rw[eq,if_neg (fun q=>z (by have:=hjr j hj;have:=q.2;lia))]]
       rfl
   · exact tk.rng w x h1
theorem Took.len {s p D Y:Int}{sts:List Pt}{pat a:Pt}{P:Pq}{n:Nat}(h:Took s p sts D Y pat a P n):P.length<=n:=by
 have:=dS (l:=upI 0 n) h.nd fun k hk=>gz.mpr (by have:=h.keys k hk;lia)
 rw[List.length_map] at this
 unfold upI at this;rw[List.length_map,List.length_range] at this
 exact this
theorem uG {Q:Pq}{i:Int}(nd:(Q.map (·.1)).Nodup)(h: ∀w∈Q.map (·.1),w∈ [i]):Q.length<=1:=by
 have:=dS (l:= [i]) nd h
 rw[List.length_map] at this
 exact this
end WQ
namespace WQ
open PySem L2 WL WP
def putL (s:Int)(sts:List Pt)(tl:List Part):Pt:=tl.flatMap fun t=>(sts.getD t.1.toNat []).map fun z=>(z.1+t.2.1*s,z.2*t.2.2)
end WQ
namespace WQ
open PySem L2 WL WP
structure PreS (s c p m:Int)(ps:Pt):Prop where
 each: ∀z∈ps,(∃k:Int,0<=k /\ k<=m /\ z.1=c+k*s) \/ (c<aA s z.1 /\ -9<=z.1 /\ z.1<=9)
 lit:tot ps c % p≠0
 top:tot ps (c+m*s) % p=1
theorem PreS.pre {s c p m:Int}{ps:Pt}(h:PreS s c p m ps):Pre s c p ps:=⟨fun z hz=>(h.each z hz).imp (fun⟨k,k0,_,e⟩=>⟨k,k0,e⟩) And.left,h.lit⟩
theorem PreS.one {s c p:Int}(hp:1<p):PreS s c p 0 [(c,1)]:=by
 have e:tot [(c,1)] c=1:=by simp[tot]
 refine⟨fun z hz=> .inl ⟨0,Int.le_refl _,Int.le_refl _,by rw[List.mem_singleton.mp hz];simp⟩,?_,?_⟩
 · rw[e,Int.emod_eq_of_lt (by decide) hp];decide
 · rw[Int.zero_mul,Int.add_zero,e];exact Int.emod_eq_of_lt (by decide) hp
theorem PreS.two {s c p r m:Int}{mids:Pt}(r0:0<=r)(r1:1+r<p)(hs:0<s)(hm:0<m)(hmid: ∀z∈mids, ∃k:Int,1<=k /\ k<m /\ z.1=c+k*s):PreS s c p m ([(c,1+r),(c+m*s,1)]++mids):=by
 have P:=Pre.two (c:=c) (p:=p) (mids:=mids) r0 r1 hs hm fun z hz=>by obtain⟨k,k1,_,e⟩:=hmid z hz;exact⟨k,k1,e⟩
 refine⟨fun z hz=> .inl ?_,P.lit,?_⟩
 · rcases List.mem_append.mp hz with hz | hz
   · rcases List.mem_cons.mp hz with rfl | hz
     · exact⟨0,Int.le_refl _,by lia,by simp⟩
     · rw[List.mem_singleton.mp hz];exact⟨m,by lia,Int.le_refl _,rfl⟩
   · obtain⟨k,k1,k2,e⟩:=hmid z hz
     exact⟨k,by lia,by lia,e⟩
 · have pos:0<m*s:=Int.mul_pos hm hs
   have e1:tot mids (c+m*s)=0:=ju fun q hq e=>by
     obtain⟨k,k1,k2,e2⟩:=hmid q hq
     have:k*s<m*s:=Int.mul_lt_mul_of_pos_right k2 hs
     lia
   have e2:tot [(c,1+r),(c+m*s,1)] (c+m*s)=1:=by
     have ne:¬c=c+m*s:=by lia
     show(if c=c+m*s then 1+r else 0)+((if c+m*s=c+m*s then 1 else 0)+0)=1
     rw[if_neg ne,if_pos rfl];rfl
   rw[cu,e1,e2,Int.add_zero];exact Int.emod_eq_of_lt (by decide) (by lia)
theorem PreS.snoc {s c p m:Int}{ps:Pt}{z:Int×Int}(hc:bO s c)(h:PreS s c p m ps)(hz:c<aA s z.1)(h9: -9<=z.1 /\ z.1<=9):PreS s c p m (ps++ [z]):=by
 refine⟨fun q hq=> ?_,(h.pre.snoc hc hz).lit,?_⟩
 · rcases List.mem_append.mp hq with hq | hq
   · exact h.each q hq
   · rw[List.mem_singleton.mp hq];exact .inr ⟨hz,h9⟩
 · rw[cQ,if_neg (fun e=>by rw[e,hc.on] at hz;lia),Int.add_zero];exact h.top
theorem PreS.sr {s c p m D:Int}{ps:Pt}(p0:1<p)(s0:0<=s)(hc:bO s c)(m0:0<=m)(ms:s=0 ->m=0)(h:PreS s c p m ps)(hD:9<=D)(hcD: -D<=c /\ c+m*s<=D):Sr s p (nrm p ps) c m D:=by
 have hP:=bV (p:=p) (by lia) ps
 have inn: ∀x∈plc (nrm p ps), ∃q∈ps,q.1=x:=fun x hx=>by
   obtain⟨z,hz,rfl⟩:=List.mem_map.mp hx
   exact md hz
 have hbot:look (nrm p ps) c≠0:=by rw[cB (by lia)];exact h.lit
 have ks: ∀k:Int,0<=k ->k<=m ->0<=k*s /\ k*s<=m*s:=fun k k0 k1=>⟨Int.mul_nonneg k0 s0,Int.mul_le_mul_of_nonneg_right k1 s0⟩
 refine⟨hP,hc,m0,ms,fun x hx=> ?_,fun x hx e=> ?_,bJ hbot,by rw[cB (by lia)];exact h.top,fun x hx=> ?_⟩
 · obtain⟨q,hq,rfl⟩:=inn x hx
   rcases h.each q hq with⟨k,_,_,e⟩ | e
   · rw[e,hc.on];exact Int.le_refl _
   · lia
 · obtain⟨q,hq,rfl⟩:=inn x hx
   rcases h.each q hq with⟨k,k0,k1,e1⟩ | e1
   · by_cases z:s=0
     · unfold hI;rw[if_pos z];lia
     · rw[e1,ja hc z];exact⟨k0,k1⟩
   · lia
 · obtain⟨q,hq,rfl⟩:=inn x (bJ hx)
   rcases h.each q hq with⟨k,k0,k1,e1⟩ | e1
   · have:=ks k k0 k1;rw[e1];lia
   · lia
end WQ
namespace WQ
theorem iZ (a:Int)(n:Nat):((List.range n).map fun j:Nat=>a+(j:Int)).Pairwise (· < ·):=by
 rw[List.pairwise_map]
 exact List.pairwise_lt_range.imp fun h=>by lia
end WQ
namespace WQ
open PySem L2 WL WP
theorem Sr.fcol_is {s p c len D:Int}{st:Pt}(h:Sr s p st c len D):bE s st=c:=by
 have hne:(plc st).map (aA s)≠ []:=by
   intro e;have:=List.mem_map_of_mem (f:=aA s) h.bot;rw[e] at this;cases this
 exact bY.uniq (cD hne) ⟨List.mem_map.mpr ⟨c,h.bot,h.ok.own⟩,fun x hx=>by obtain⟨y,hy,rfl⟩:=List.mem_map.mp hx;exact h.ge y hy⟩
theorem Sr.slen_is {s p c len D:Int}{st:Pt}(h:Sr s p st c len D):jy s st=len:=by
 unfold jy
 rw[h.fcol_is]
 have hm:len∈hts s c (plc st):=by have:=iq h.topm (h.ok.on len);rw[h.tophI] at this;exact this
 have hne:hts s c (plc st)≠ []:=fun e=>by rw[e] at hm;cases hm
 refine eh.uniq (jR hne) ⟨hm,fun y hy=> ?_⟩
 obtain⟨x,hx,e⟩:=List.mem_map.mp hy
 have:=h.hgt x (List.mem_filter.mp hx).1 (by simpa using(List.mem_filter.mp hx).2)
 rw[e] at this;exact this.2
theorem Took.lowB_is {s p D Y:Int}{sts:List Pt}{pat a:Pt}{P:Pq}(h:Took s p sts D Y pat a P sts.length)(srl:SrL s p sts D)(ga:GD p a):lowB s sts a=true:=by
 unfold lowB
 rw[List.all_eq_true]
 intro st hst
 obtain⟨i,hi⟩:=List.mem_iff_getElem?.mp hst
 obtain⟨c,len,sr,_⟩:=srl.each i st hi
 rw[sr.fcol_is,sr.slen_is,List.all_eq_true]
 intro y hy
 obtain⟨x,hx,e⟩:=List.mem_map.mp hy
 have h1:=(List.mem_filter.mp hx).1
 have h2:aA s x=c:=by simpa using(List.mem_filter.mp hx).2
 have h3:=de ga h1
 have h4:=h.low i st c len (List.getElem?_eq_some_iff.mp hi).1 hi sr x h2 (by lia)
 rw[e] at h4
 exact decide_eq_true h4
end WQ
namespace WQ
open PySem L2 WL WP
def cV (s x:Int)(sts:List Pt)(t:Part):Int:=tot (sts.getD t.1.toNat []) (x - t.2.1*s)*t.2.2
end WQ
namespace L2
open PySem
def pN:Nat ->(List Value ->Prop) ->Prop
 | 0,p=>p []
 | n+1,p=> ∀v,pN n fun us=>p (v::us)
theorem pN.to: ∀ {n:Nat} {p:List Value ->Prop},pN n p -> ∀us,us.length=n ->p us
 | 0,_,h,[],_=>h
 | _+1,_,h,v::us,e=>pN.to (h v) us (Nat.succ.inj e)
section
variable {K:PySem.W.Frag}{h:Heap}{mg:Str ->Option Value}{x:Str}{ps:List Str}{st:Stmt}{f C:Addr}{oc:Value}{od an:Option Addr}{osl:Array (Option Value)}{kV doc pm cdv ct:Value}
theorem aO (X:K.In h)(G:h.Ns mainGlobals mg)(a:PySem.W.nsIn K mainGlobals x=some (some (.ref f)))
   (l:K.lookup f=some ⟨oc,od, .func (PySem.W.fnOf x x (bM st) (bg st) (ai st) .none kV doc pm an cdv ct),osl⟩)
   (c:PySem.W.codeIn K cdv x=true) (k:PySem.W.keepIn K (.ref f)=true)
   (b: ∀ (kV doc pm:Value) (an:Option Addr) (cdv ct:Value),pN ps.length fun us=>bindArgs (PySem.W.fnOf x x (bM st) (bg st) (ai st) .none kV doc pm an cdv ct) ⟨us,[]⟩=pure (ps.zip us)):
   Fnc K mg x ps st f (PySem.W.fnOf x x (bM st) (bg st) (ai st) .none kV doc pm an cdv ct):=
 ⟨PySem.W.mg_of X G a,j7 l c k,(j7 (st:=st) l c k).binds fun kV doc pm an cdv ct us e=>(b kV doc pm an cdv ct).to us e⟩
theorem tD {q:Str}(X:K.In h)(G:h.Ns mainGlobals mg)(a:PySem.W.nsIn K mainGlobals x=some (some (.ref C)))(g:PySem.W.findIn K (.ref C) "__init__" =some (some (.ref f)))
   (l:K.lookup f=some ⟨oc,od, .func (PySem.W.fnOf "__init__" q (bM st) (bg st) (ai st) .none kV doc pm an cdv ct),osl⟩)
   (c:PySem.W.codeIn K cdv q=true) (k:PySem.W.keepIn K (.ref f)=true)
   (h1:PySem.W.makesIn K C=true) (h2:PySem.W.isFn K (.ref f)=true) (h3:PySem.W.keepIn K (.ref C)=true) (h4:PySem.W.plainGet K C Str.empty=true) (h5:PySem.W.hasDictIn K C=true) (h6:PySem.W.plainOver K C=true) (h7:PySem.W.findIn K (.ref C) "__setattr__" =some (some (.builtin "object.__setattr__")))
   (b: ∀ (kV doc pm:Value) (an:Option Addr) (cdv ct:Value),pN ps.length fun us=>bindArgs (PySem.W.fnOf "__init__" q (bM st) (bg st) (ai st) .none kV doc pm an cdv ct) ⟨us,[]⟩=pure (ps.zip us)):
   Cla K mg x q ps st C f (PySem.W.fnOf "__init__" q (bM st) (bg st) (ai st) .none kV doc pm an cdv ct):=
 ⟨PySem.W.mg_of X G a,⟨h1,g,h2,h3⟩,⟨h4,h5,h6,h7⟩,j7 l c k,(j7 (st:=st) l c k).binds fun kV doc pm an cdv ct us e=>(b kV doc pm an cdv ct).to us e⟩
theorem hU {q:Str}{fd:FuncData}(_:Cla K mg x q ps st C f fd)(a:Str)(e:PySem.W.findIn K (.ref C) a=some none):a8 K C a:=e
theorem xu {l:PySem.W.OpenLaw}{w:World}{fa:Addr}{fd:FuncData}{p:Str}{kd:Nat}(T:Fnc K mg "law" [p] st f fd)(hfa:mg "law" =some (.ref fa))(hb: ∀ (kV doc pm:Value) (an:Option Addr) (cdv ct v:Value),bindArgs (PySem.W.fnOf "law" "law" (bM st) (bg st) (ai st) .none kV doc pm an cdv ct) ⟨[v],[]⟩=pure [(p,v)])
   (ok: ∀base,FnOk l.prog w K mg base CX0 kd f fd [p] (WQ.kC K)):
   ∃fd:FuncData,(∀ (s:Shared) (v:Value),BindsTo s fd ⟨[v],[]⟩ [(p,v)]) /\ ∀base:Heap,K.In base ->base.Ns mainGlobals mg ->FnOk l.prog w K mg base CX0 kd fa fd [p] (WQ.kC K):=by
 have e:=hfa.symm.trans T.at_
 cases e
 obtain⟨oc,od,kV,doc,pm,an,cdv,ct,osl,rfl,lk,hcd⟩:=T.fn.ex
 exact⟨_,fun s v=> .of_eq (hb kV doc pm an cdv ct v),fun base _ _=>ok base⟩
end
end L2
namespace WQ
open PySem L2 WL WP
theorem iB {p:Int}(G:Int ->Int): ∀ (n:Nat) (d:Pt),d.length<=n ->(∀x,G x*tot d x % p=0) ->cop G d % p=0
 | n,[],_,_=>Int.zero_emod _
 | 0,_::_,h,_=>by simp at h
 | n +1,z::r,h,ht=>by
   rw[fE G z.1]
   have hl:(bL (z::r) z.1).length<=n:=by
     unfold bL
     rw[List.filter_cons,if_neg (by simp)]
     have:=List.length_filter_le (fun q:Int×Int=>decide (q.1≠z.1)) r
     simp only[List.length_cons] at h
     lia
   have ih:=iB G n _ hl fun x=>by
     rw[dN]
     split
     · rw[Int.mul_zero];rfl
     · exact ht x
   rw[Int.add_emod,ih,ht];rfl
theorem je (v:Int): ∀js:Pt,cop (fun _=>v) js=v*cop (fun _=>1) js
 | []=>by show(0:Int)=v*0;simp
 | z::r=>by rw[bp,bp,je v r,Int.mul_add,Int.one_mul]
theorem m7 {d:Pt}{x:Int}(h:tot d x≠0):x∈d.map (·.1):=by
 refine Decidable.byContradiction fun hn=>h (ju fun q hq e=>hn (List.mem_map.mpr ⟨q,hq,e⟩))
theorem tq {p:Int}(G:Int ->Int)(d:Pt)(m:Int)(h: ∀y,y≠m ->G y*tot d y % p=0):cop G d % p=G m*tot d m % p:=by
 rw[fE G m,Int.add_emod,iB (p:=p) G _ (bL d m) (Nat.le_refl _) fun x=>by
   rw[dN]
   split
   · rw[Int.mul_zero];rfl
   · rename_i e;exact h x e]
 rw[Int.add_zero,Int.emod_emod]
theorem Sr.out {s p c len D:Int}{st:Pt}(h:Sr s p st c len D)(hs:s≠0){k:Int}(hk:¬(0<=k /\ k<=len)):look st (c+k*s)=0:=by
 refine Decidable.byContradiction fun hn=>hk ?_
 have:=h.hgt _ (bJ hn) (h.ok.on k)
 rwa [ja h.ok hs] at this
theorem u4 {s p c len D:Int}{st js:Pt}(hp:p=2 \/ p=3 \/ p=5 \/ p=7)(s0:0<=s)(sr:Sr s p st c len D)
   (low: ∀x,aA s x=c ->cop (fun sh=>look st (x - s*sh)) js % p≠0 ->0<=hI s x /\ hI s x<len) (x:Int):cop (fun sh=>look st (x - s*sh)) js % p=0:=by
 have p0:0<p:=by lia
 by_cases z:s=0
 · have e: ∀x,cop (fun sh=>look st (x - s*sh)) js=look st x*cop (fun _=>1) js:=fun x=>by
     rw[<- je];congr 1;funext sh;rw[z,Int.zero_mul,Int.sub_zero]
   have ht:=sr.top
   rw[z,Int.mul_zero,Int.add_zero] at ht
   have h0:cop (fun _=>1) js % p=0:=by
     refine Decidable.byContradiction fun hn=> ?_
     have:=low c sr.ok.own (by rw[e,ht,Int.one_mul];exact hn)
     have:=sr.s0 z
     lia
   rw[e,Int.mul_emod,h0,Int.mul_zero];rfl
 · have spos:0<s:=by lia
   have hmul: ∀a b:Int,c+a*s - s*b=c+(a - b)*s:=fun a b=>by rw[Int.sub_mul,Int.mul_comm s b];lia
   suffices hall: ∀y,tot js y % p=0 by exact iA _ _ _ (Nat.le_refl _) hall
   intro y
   refine Decidable.byContradiction fun hy=> ?_
   have hne:(js.map (·.1)).filter (fun y=>decide (tot js y % p≠0))≠ []:=fun e=>by
     have:y∈(js.map (·.1)).filter (fun y=>decide (tot js y % p≠0)):=List.mem_filter.mpr ⟨m7 fun e0=>hy (by rw[e0];rfl),decide_eq_true hy⟩
     rw[e] at this;cases this
   obtain⟨ma,mb⟩:=jR hne
   obtain⟨la,lb⟩:=cD hne
   generalize se _=m at ma mb
   generalize eJ _=k at la lb
   have hm:tot js m % p≠0:=by simpa using(List.mem_filter.mp ma).2
   have hk:tot js k % p≠0:=by simpa using(List.mem_filter.mp la).2
   have inn: ∀y,tot js y % p≠0 ->k<=y /\ y<=m:=fun y h=>by
     have:y∈(js.map (·.1)).filter (fun y=>decide (tot js y % p≠0)):=List.mem_filter.mpr ⟨m7 fun e0=>h (by rw[e0];rfl),decide_eq_true h⟩
     exact⟨lb y this,mb y this⟩
   have out: ∀y,¬(k<=y /\ y<=m) ->tot js y % p=0:=fun y h=>Decidable.byContradiction fun h2=>h (inn y h2)
   have h1:=low (c+(len+m)*s) (sr.ok.on _) (by
     rw[tq _ js m fun y ne=> ?_,hmul,show len+m - m=len by lia,sr.top,Int.one_mul]
     · exact hm
     · rw[hmul]
       rcases Int.lt_or_le m y with h | h
       · rw[Int.mul_emod,out y (by lia),Int.mul_zero];rfl
       · rw[sr.out z (by lia),Int.zero_mul];rfl)
   rw[ja sr.ok z] at h1
   have hc:=de (dc sr.pat) sr.bot
   have h2:=low (c+k*s) (sr.ok.on _) (by
     rw[tq _ js k fun y ne=> ?_,hmul,Int.sub_self,Int.zero_mul,Int.add_zero]
     · exact nM hp hk _ hc.1 hc.2
     · rw[hmul]
       rcases Int.lt_or_le y k with h | h
       · rw[Int.mul_emod,out y (by lia),Int.mul_zero];rfl
       · rw[sr.out z (by lia),Int.zero_mul];rfl)
   rw[ja sr.ok z] at h2
   have:=(inn k hk).2
   lia
def spn (s:Int)(sts:List Pt)(J:Nat ->Pt)(x:Int):Nat ->Int
 | 0=>0
 | n+1=>spn s sts J x n+cop (fun sh=>look (sts.getD n []) (x - s*sh)) (J n)
theorem ng (s:Int)(sts:List Pt)(P:Pq)(x:Int): ∀n,tkN s sts P x n=spn s sts (fun i=>pf P i) x n
 | 0=>rfl
 | n+1=>by rw[tkN,spn,ng s sts P x n]
theorem gs (s:Int)(sts:List Pt)(J J':Nat ->Pt)(x:Int): ∀n,spn s sts (fun i=>J i++J' i) x n=spn s sts J x n+spn s sts J' x n
 | 0=>rfl
 | n+1=>by rw[spn,spn,spn,gs s sts J J' x n,gD];lia
theorem qJ (s:Int)(sts:List Pt)(J:Nat ->Pt)(k x:Int): ∀n,spn s sts (fun i=>tm k (J i)) x n=spn s sts J x n*k
 | 0=>by show(0:Int)=0*k;simp
 | n+1=>by rw[spn,spn,qJ s sts J k x n,mL,Int.add_mul]
theorem jw (s:Int)(sts:List Pt)(x:Int): ∀n,spn s sts (fun _=> []) x n=0
 | 0=>rfl
 | n+1=>by rw[spn,jw s sts x n];rfl
theorem qK {s p:Int}{sts:List Pt}{J:Nat ->Pt}{x:Int}{i:Nat}: ∀n,i<n ->(∀j,j<n ->j≠i ->cop (fun sh=>look (sts.getD j []) (x - s*sh)) (J j) % p=0) ->spn s sts J x n % p=cop (fun sh=>look (sts.getD i []) (x - s*sh)) (J i) % p
 | 0,h,_=>absurd h (Nat.not_lt_zero _)
 | n + 1,h,hj=>by
   rw[spn]
   by_cases e:i=n
   · subst e
     have: ∀m,m<=i ->spn s sts J x m % p=0:=fun m=>by
       induction m with
       | zero=>intro _;exact Int.zero_emod _
       | succ m ih=>intro hm;rw[spn,Int.add_emod,ih (by lia),hj m (by lia) (by lia)];rfl
     rw[Int.add_emod,this i (Nat.le_refl _),Int.zero_add,Int.emod_emod]
   · rw[Int.add_emod,qK n (by lia) (fun j h1 h2=>hj j (by lia) h2),hj n (by lia) (fun q=>e q.symm),Int.add_zero,Int.emod_emod]
def LowF (s p:Int)(sts:List Pt)(D:Int)(g:Int ->Int):Prop:= ∀ (i:Nat) st c len,sts[i]? =some st ->Sr s p st c len D -> ∀x,aA s x=c ->g x % p≠0 ->0<=hI s x /\ hI s x<len
theorem uk {s p D:Int}{sts:List Pt}{J:Nat ->Pt}{g:Int ->Int}(hp:p=2 \/ p=3 \/ p=5 \/ p=7)(s0:0<=s)(srl:SrL s p sts D)(e: ∀x,g x % p=spn s sts J x sts.length % p)(low:LowF s p sts D g)(x:Int):spn s sts J x sts.length % p=0:=by
 have get: ∀i st,sts[i]? =some st ->sts.getD i []=st:=fun i st h=>by rw[List.getD_eq_getElem?_getD,h];rfl
 have key : ∀ (i:Nat),i<sts.length -> ∀x,cop (fun sh=>look (sts.getD i []) (x - s*sh)) (J i) % p=0:=fun i=>by
   induction i using Nat.strongRecOn with
   | ind i ih=>
     intro hi x
     obtain⟨c,len,sr,_⟩:=srl.each i _ (List.getElem?_eq_getElem hi)
     rw[get i _ (List.getElem?_eq_getElem hi)]
     refine u4 hp s0 sr (fun x hx hne=> ?_) x
     refine low i _ c len (List.getElem?_eq_getElem hi) sr x hx ?_
     rw[e,qK (i:=i) _ hi fun j hj hji=> ?_,get i _ (List.getElem?_eq_getElem hi)]
     · exact hne
     · rcases Nat.lt_or_ge j i with h | h
       · exact ih j h hj x
       · obtain⟨c2,sj,sr2,_⟩:=srl.each j _ (List.getElem?_eq_getElem hj)
         have hlt:=srl.ris i j _ _ c len c2 sj (by lia) (List.getElem?_eq_getElem hi) (List.getElem?_eq_getElem hj) sr sr2
         rw[get j _ (List.getElem?_eq_getElem hj)]
         rw[fF fun k _=> ?_]
         · rfl
         · refine Decidable.byContradiction fun hn=> ?_
           have:=sr2.ge _ (bJ hn)
           rw[gE,hx] at this
           lia
 have: ∀m,m<=sts.length ->spn s sts J x m % p=0:=fun m=>by
   induction m with
   | zero=>intro _;exact Int.zero_emod _
   | succ m ih=>intro hm;rw[spn,Int.add_emod,ih (by lia),key m (by lia)];rfl
 exact this _ (Nat.le_refl _)
def LowP (s p:Int)(sts:List Pt)(D:Int)(r:Pt):Prop:= ∀ (i:Nat) st c len,sts[i]? =some st ->Sr s p st c len D -> ∀x,aA s x=c ->look r x≠0 ->0<=hI s x /\ hI s x<len
theorem gR {s p D:Int}{sts:List Pt}{J J':Nat ->Pt}{f:Int ->Int}{r r':Pt}(hp:p=2 \/ p=3 \/ p=5 \/ p=7)(s0:0<=s)(srl:SrL s p sts D)(h:a7 p r)(h':a7 p r')(l:LowP s p sts D r)(l':LowP s p sts D r')
   (e: ∀x,look r x % p=(f x+spn s sts J x sts.length) % p) (e': ∀x,look r' x % p=(f x+spn s sts J' x sts.length) % p):r=r':=by
 have p0:0<p:=by lia
 refine jN h h' fun x=> ?_
 have k: ∀x,(look r x - look r' x) % p=spn s sts (fun i=>J i++tm (-1) (J' i)) x sts.length % p:=fun x=>by
   rw[gs,qJ,Int.sub_emod,e,e', <- Int.sub_emod]
   congr 1;lia
 have hz:=uk hp s0 srl k (fun i st c len hi sr x hx hne=>by
   by_cases z:look r x=0
   · by_cases z':look r' x=0
     · refine absurd ?_ hne
       show(look r x - look r' x) % p=0
       rw[z,z'];rfl
     · exact l' i st c len hi sr x hx z'
   · exact l i st c len hi sr x hx z) x
 rw[<- k x] at hz
 have a:=hV p0 h x
 have b:=hV p0 h' x
 have:=Int.emod_emod_of_dvd
 rcases Int.lt_or_le (look r x) (look r' x) with q | q
 · have h2:(look r x - look r' x+p) % p=0:=by rw[Int.add_emod_right];exact hz
   rw[Int.emod_eq_of_lt (by lia) (by lia)] at h2
   lia
 · rw[Int.emod_eq_of_lt (by lia) (by lia)] at hz
   lia
theorem Took.lowP {s p D Y:Int}{sts:List Pt}{pat r:Pt}{P:Pq}(h:Took s p sts D Y pat r P sts.length):LowP s p sts D r:=fun i st c len hi=>h.low i st c len (List.getElem?_eq_some_iff.mp hi).1 hi
theorem Took.eqv {s p D Y:Int}{sts:List Pt}{pat r:Pt}{P:Pq}(h:Took s p sts D Y pat r P sts.length)(x:Int):look r x % p=(look pat x+spn s sts (fun i=>pf P i) x sts.length) % p:=by
 rw[h.rel,ng,Int.emod_emod]
theorem nk (s:Int)(sts:List Pt)(J:Nat ->Pt)(k:Nat)(sh v x:Int): ∀n,spn s sts (fun i=>if i=k then J i++ [(sh,v)] else J i) x n=spn s sts J x n+if k<n then look (sts.getD k []) (x - s*sh)*v else 0
 | 0=>rfl
 | n +1=>by
   rw[spn,spn,nk s sts J k sh v x n]
   by_cases e:n=k
   · subst e
     rw[if_pos rfl,if_neg (Nat.lt_irrefl _),if_pos (Nat.lt_succ_self _),gD]
     show _+(_+(look (sts.getD n []) (x - s*sh)*v+0))=_
     lia
   · rw[if_neg e]
     by_cases h:k<n
     · rw[if_pos h,if_pos (by lia)];lia
     · rw[if_neg h,if_neg (by lia)];lia
theorem fm {p:Int}(p0:0<p){a b:Pt}(ha:a7 p a)(hb:a7 p b)(y n x:Int):look (nrm p (a++mvt y n b)) x=(look a x+look b (x - y)*n) % p:=by
 rw[cB p0,cu,xo,qm,wG,ku ha.2,ku hb.2]
theorem kh {p:Int}(p0:0<p){a b:Pt}(ha:a7 p a)(hb:a7 p b){y n x:Int}(h:look (nrm p (a++mvt y n b)) x≠0):look a x≠0 \/ look b (x - y)≠0:=by
 by_cases z:look a x=0
 · refine .inr fun z'=>h ?_
   rw[fm p0 ha hb,z,z',Int.zero_mul];rfl
 · exact .inl z
def xc:WSp:=fun xs M q=> ∃ (p s D Z Zm:Int) (sts:List Pt) (pat:Pt),xs= [wi p,wi s, .tup (sts.map aQ),aQ pat] /\ (p=2 \/ p=3 \/ p=5 \/ p=7) /\ 0<=s /\ s<=8 /\ SrL s p sts D /\ a7 p pat /\ Wt Z pat /\ 0<=Z /\ 0<=D /\ D<=1000 /\ Z+sts.length*(D+s) <=Zm /\ Zm<=3000 /\ sts.length*(sts.length*(2*Zm+2).toNat) <=90000 /\ sts.length<=13 /\
 ∀rest P,a7 p rest ->Wt Zm rest ->Took s p sts D Zm pat rest P sts.length ->q (aQ rest) M
def xi:WSp:=fun xs M q=> ∃ (d l:Addr) (p s c:Int),xs= [wr d,wi p,wi s,wi c] /\ Dr M d l /\ 2<=p /\ p<=7 /\ 0<=s /\ s<=8 /\ bO s c /\ (s=0 -> -6<=c /\ c<=6) /\ ∀ (st:Pt) (len:Int) (M':Mp),StOk s st c ->Sr s p st c len (if s=0 then 9 else 31) ->len<1000 ->st.length<=7 ->Dr M' d l ->SmB d M M' ->q (aQ st) M'
def pDSrS:WSp:=fun xs M q=> ∃ (d l:Addr) (p s:Int),xs= [wr d,wi p,wi s] /\ Dr M d l /\ 2<=p /\ p<=7 /\ 0<=s /\ s<=8 /\ ∀ (sts:List Pt) (M':Mp),SrL s p sts (if s=0 then 9 else 31) ->(s=0 ->sts.length<=13) ->(s≠0 ->(sts.length:Int) <=s) ->(∀st∈sts,(∃c,StOk s st c) /\ st.length<=7) ->Dr M' d l ->SmB d M M' ->q (.tup (sts.map aQ)) M'
end WQ
set_option synthInstance.maxSize 100000
set_option synthInstance.maxHeartbeats 0
open PySem L2 WL WP WQ EN PyProof.Rows
local macro_rules | `(tactic| simp? [$xs,*]) => do let a <- ("lstK_e dicK_e optK_e andK_e iteK_t iteK_f isB_e refK_e tupK_e keyK_i wVar_0 wVar_1 wVar_2 wVar_3 wVar_4 wVar_5 wVar_6 wVar_7 wVar_8 wVar_9 wVar_10 wVar_11 wVar_12 wVar_13 wVar_14 wVar_15 wVar_16 wVar_17 wVar_18 wVar_19 wVar_20 wVar_21 wVar_22 wVar_23 wC_e wOp_e wUn_e wI_e wI0_e wU_e wEq_i wNe_i wTest_e wAnd_e wOr_e wNot_e wAndV_e wNotV_e wChain_e wNil_e wCons_e wTup_e wLst_e wIxL_e wIxT_e intK_e wCB_e wCall_e wLen_l wLen_t wAbs_e wMax2_e xG wo wIsX_e wBM_e xI wCat_e wTruth_e wDNew_e wDGet_e wDGet2_e sNext_e sCont_e sDrop_e sRet_e sIf_e sAsg_e twoK_e sDPutW_e sFor_e vName_e vNil_e vCons_e vTup_e vSub_e wSetL_e jList_e jTup_e oneK_e jRng1_e jRng2_e wComp_e wYes_e wComp2_e wDSetD_e uq ur wFld_e sFldW_e insK_e jItems_e xH qc wMinD_e sDDelW_e".splitOn " ").toArray.mapM fun s => `(Lean.Parser.Tactic.simpLemma| ↓ $(Lean.mkIdent s.toName):term); let b <- ("vR uU vQ tX uT uW tZ uV sy tY vP uQ vO tU uP oW nU oV mD nT tT sv tS pO su uS tW uR sx tV sl1 sl2 sl3 sl4 sl0 List.map_cons List.map_nil List.length_cons List.length_nil Nat.zero_add List.cons_append List.nil_append List.set_cons_zero List.set_cons_succ ab mX tJ atI_1 atI_2 atI_3 ixN_1 ixN_2 ixN_3 Bool.not_true Bool.not_false List.getElem?_cons_zero List.getElem?_cons_succ Option.join_some and_self and_true true_and Option.getD_some Option.getD_none tyW eP".splitOn " ").toArray.mapM fun s => `(Lean.Parser.Tactic.simpLemma| $(Lean.mkIdent s.toName):term); `(tactic| try simp only [$a,*, $b,*, Nat.reduceAdd, Nat.reduceSub, List.reduceReplicate, $xs,*])
local macro_rules | `(tactic| dsimp? [$xs,*]) => `(tactic| (simp? [↓aR, $xs,*]; repeat (with_reducible refine cP ?_; simp? [↓aR, $xs,*])))
namespace K20
open PySem L2 WL WP WQ EN PyProof.Rows
def top (i:Nat):Stmt:=PySem.Challenge.pw_duskround_k20_whole_one_rest_each.main.body.getD i (.Pass ⟨0,0,0,0⟩)
abbrev jA:Stmt:=top 1
abbrev fK:Stmt:=top 3
abbrev qW:Stmt:=vS (top 5) 0
abbrev jE:Stmt:=vS (top 6) 0
abbrev gQ:Stmt:=top 7
abbrev bI:Stmt:=top 8
abbrev cS:Stmt:=top 9
abbrev cM:Stmt:=top 10
abbrev dz:Stmt:=top 11
abbrev bG:Stmt:=top 12
abbrev qV:Stmt:=top 13
abbrev jC:Stmt:=top 14
abbrev cg:Stmt:=top 15
abbrev jB:Stmt:=top 16
abbrev fI:Stmt:=top 17
abbrev fJ:Stmt:=top 19
abbrev gO:Stmt:=top 20
abbrev qU:Stmt:=top 21
abbrev e9:Stmt:=top 22
abbrev dy:Stmt:=top 23
abbrev gu:Stmt:=top 24
abbrev eC:Stmt:=top 25
abbrev bH:Stmt:=top 26
abbrev bj:Stmt:=top 27
abbrev jD:Stmt:=top 28
abbrev cx:Stmt:=top 29
abbrev dQ:Stmt:=top 30
abbrev dP:Stmt:=top 31
abbrev gP:Stmt:=top 32
abbrev c6:Stmt:=top 33
abbrev qT:Stmt:=top 34
set_option genInjectivity false in
set_option genSizeOf false in
structure Adr where
 f_tidy:Addr
 d_tidy:FuncData
 f_inverse:Addr
 d_inverse:FuncData
 f_Row:Addr
 d_Row:FuncData
 f_Stair:Addr
 d_Stair:FuncData
 f_column:Addr
 d_column:FuncData
 f_first_column:Addr
 d_first_column:FuncData
 f_heights:Addr
 d_heights:FuncData
 f_add_shifted:Addr
 d_add_shifted:FuncData
 f_add_moved:Addr
 d_add_moved:FuncData
 f_too_high_or_low:Addr
 d_too_high_or_low:FuncData
 f_cut:Addr
 d_cut:FuncData
 f_stood:Addr
 d_stood:FuncData
 f_told_parts:Addr
 d_told_parts:FuncData
 f_taken:Addr
 d_taken:FuncData
 f_rest_of:Addr
 d_rest_of:FuncData
 f_l_begin:Addr
 d_l_begin:FuncData
 f_l_take:Addr
 d_l_take:FuncData
 f_l_p:Addr
 d_l_p:FuncData
 f_l_tidy:Addr
 d_l_tidy:FuncData
 f_l_pattern:Addr
 d_l_pattern:FuncData
 f_l_sum:Addr
 d_l_sum:FuncData
 f_l_column:Addr
 d_l_column:FuncData
 f_l_draw_stair:Addr
 d_l_draw_stair:FuncData
 f_l_draw_stairs:Addr
 d_l_draw_stairs:FuncData
 f_l_int:Addr
 d_l_int:FuncData
 f_l_is_pattern:Addr
 d_l_is_pattern:FuncData
 f_l_first:Addr
 d_l_first:FuncData
 f_l_spots:Addr
 d_l_spots:FuncData
 f_l_size:Addr
 d_l_size:FuncData
 f_l_lies_low:Addr
 d_l_lies_low:FuncData
 f_law:Addr
 d_law:FuncData
 c_Row:Addr
 c_Stair:Addr
structure Txt (K:PySem.W.Frag)(mg:Str ->Option Value)(A:Adr):Prop where
 b_abs:mg "abs" =none
 b_bool:mg "bool" =none
 b_dict:mg "dict" =none
 b_enumerate:mg "enumerate" =none
 b_int:mg "int" =none
 b_isinstance:mg "isinstance" =none
 b_len:mg "len" =none
 b_list:mg "list" =none
 b_max:mg "max" =none
 b_min:mg "min" =none
 b_range:mg "range" =none
 b_sorted:mg "sorted" =none
 b_tuple:mg "tuple" =none
 tidy:Fnc K mg "tidy" ["p","pairs"] jA A.f_tidy A.d_tidy
 inverse:Fnc K mg "inverse" ["p","setting"] fK A.f_inverse A.d_inverse
 Row:Cla K mg "Row" "Row.__init__" ["self","lamps","parts"] qW A.c_Row A.f_Row A.d_Row
 Stair:Cla K mg "Stair" "Stair.__init__" ["self","row","first","length","foot"] jE A.c_Stair A.f_Stair A.d_Stair
 column:Fnc K mg "column" ["place","stride"] gQ A.f_column A.d_column
 first_column:Fnc K mg "first_column" ["places","stride"] bI A.f_first_column A.d_first_column
 heights:Fnc K mg "heights" ["places","stride","first"] cS A.f_heights A.d_heights
 add_shifted:Fnc K mg "add_shifted" ["p","held","others","by","n"] cM A.f_add_shifted A.d_add_shifted
 add_moved:Fnc K mg "add_moved" ["p","stride","row","other","shift","n"] dz A.f_add_moved A.d_add_moved
 too_high_or_low:Fnc K mg "too_high_or_low" ["found","length"] bG A.f_too_high_or_low A.d_too_high_or_low
 cut:Fnc K mg "cut" ["p","stride","row","stair"] qV A.f_cut A.d_cut
 stood:Fnc K mg "stood" ["p","stride","row"] jC A.f_stood A.d_stood
 told_parts:Fnc K mg "told_parts" ["p","parts","n"] cg A.f_told_parts A.d_told_parts
 taken:Fnc K mg "taken" ["p","stride","stairs","pattern"] jB A.f_taken A.d_taken
 rest_of:Fnc K mg "rest_of" ["p","stride","stairs","pattern"] fI A.f_rest_of A.d_rest_of
 l_begin:Fnc K mg "_law_begin" ["_law_script"] fJ A.f_l_begin A.d_l_begin
 l_take:Fnc K mg "_law_take" ["_law_draw","_law_many"] gO A.f_l_take A.d_l_take
 l_p:Fnc K mg "_law_p" ["_law_draw"] qU A.f_l_p A.d_l_p
 l_tidy:Fnc K mg "_law_tidy" ["_law_p_here","_law_pairs"] e9 A.f_l_tidy A.d_l_tidy
 l_pattern:Fnc K mg "_law_pattern" ["_law_draw","_law_p_here","_law_most","_law_far"] dy A.f_l_pattern A.d_l_pattern
 l_sum:Fnc K mg "_law_sum" ["_law_p_here","_law_one","_law_other","_law_by","_law_many"] gu A.f_l_sum A.d_l_sum
 l_column:Fnc K mg "_law_column" ["_law_place","_law_stride"] eC A.f_l_column A.d_l_column
 l_draw_stair:Fnc K mg "_law_draw_stair" ["_law_draw","_law_p_here","_law_stride","_law_at"] bH A.f_l_draw_stair A.d_l_draw_stair
 l_draw_stairs:Fnc K mg "_law_draw_stairs" ["_law_draw","_law_p_here","_law_stride"] bj A.f_l_draw_stairs A.d_l_draw_stairs
 l_int:Fnc K mg "_law_int" ["_law_thing"] jD A.f_l_int A.d_l_int
 l_is_pattern:Fnc K mg "_law_is_pattern" ["_law_p_here","_law_thing"] cx A.f_l_is_pattern A.d_l_is_pattern
 l_first:Fnc K mg "_law_first" ["_law_stride","_law_pattern_here"] dQ A.f_l_first A.d_l_first
 l_spots:Fnc K mg "_law_spots" ["_law_stride","_law_pattern_here","_law_at"] dP A.f_l_spots A.d_l_spots
 l_size:Fnc K mg "_law_size" ["_law_stride","_law_stair"] gP A.f_l_size A.d_l_size
 l_lies_low:Fnc K mg "_law_lies_low" ["_law_stride","_law_stairs","_law_pattern_here"] c6 A.f_l_lies_low A.d_l_lies_low
 law:Fnc K mg "law" ["_law_script"] qT A.f_law A.d_law
 n_Row_lamps:a8 K A.c_Row "lamps"
 n_Row_parts:a8 K A.c_Row "parts"
 n_Stair_first:a8 K A.c_Stair "first"
 n_Stair_foot:a8 K A.c_Stair "foot"
 n_Stair_lamps:a8 K A.c_Stair "lamps"
 n_Stair_length:a8 K A.c_Stair "length"
 n_Stair_parts:a8 K A.c_Stair "parts"
theorem ny:FnScope ["p","pairs","turned","place","setting"] ["p","pairs"] (ai jA):=⟨rfl,rfl,rfl,by decide+kernel,rfl,by decide+kernel,by decide+kernel⟩
theorem gM:FnScope ["p","setting","found","at"] ["p","setting"] (ai fK):=⟨rfl,rfl,rfl,by decide+kernel,rfl,by decide+kernel,by decide+kernel⟩
theorem qS:FnScope ["self","lamps","parts"] ["self","lamps","parts"] (ai qW):=⟨rfl,rfl,rfl,by decide+kernel,rfl,by decide+kernel,by decide+kernel⟩
theorem kH:FnScope ["self","row","first","length","foot"] ["self","row","first","length","foot"] (ai jE):=⟨rfl,rfl,rfl,by decide+kernel,rfl,by decide+kernel,by decide+kernel⟩
theorem iY:FnScope ["place","stride"] ["place","stride"] (ai gQ):=⟨rfl,rfl,rfl,by decide+kernel,rfl,by decide+kernel,by decide+kernel⟩
theorem dq:FnScope ["places","stride"] ["places","stride"] (ai bI):=⟨rfl,rfl,rfl,by decide+kernel,rfl,by decide+kernel,by decide+kernel⟩
theorem gN:FnScope ["places","stride","first"] ["places","stride","first"] (ai cS):=⟨rfl,rfl,rfl,by decide+kernel,rfl,by decide+kernel,by decide+kernel⟩
theorem dw:FnScope ["p","held","others","by","n","key","setting","now"] ["p","held","others","by","n"] (ai cM):=⟨rfl,rfl,rfl,by decide+kernel,rfl,by decide+kernel,by decide+kernel⟩
theorem eY:FnScope ["p","stride","row","other","shift","n","which","settings"] ["p","stride","row","other","shift","n"] (ai dz):=⟨rfl,rfl,rfl,by decide+kernel,rfl,by decide+kernel,by decide+kernel⟩
theorem cw:FnScope ["found","length"] ["found","length"] (ai bG):=⟨rfl,rfl,rfl,by decide+kernel,rfl,by decide+kernel,by decide+kernel⟩
theorem qR:FnScope ["p","stride","row","stair","found","height","setting"] ["p","stride","row","stair"] (ai qV):=⟨rfl,rfl,rfl,by decide+kernel,rfl,by decide+kernel,by decide+kernel⟩
theorem kE:FnScope ["p","stride","row","first","found","turn","upright"] ["p","stride","row"] (ai jC):=⟨rfl,rfl,rfl,by decide+kernel,rfl,by decide+kernel,by decide+kernel⟩
theorem d5:FnScope ["p","parts","n"] ["p","parts","n"] (ai cg):=⟨rfl,rfl,rfl,by decide+kernel,rfl,by decide+kernel,by decide+kernel⟩
theorem kD:FnScope ["p","stride","stairs","pattern","row","which","stair"] ["p","stride","stairs","pattern"] (ai jB):=⟨rfl,rfl,rfl,by decide+kernel,rfl,by decide+kernel,by decide+kernel⟩
theorem gI:FnScope ["p","stride","stairs","pattern"] ["p","stride","stairs","pattern"] (ai fI):=⟨rfl,rfl,rfl,by decide+kernel,rfl,by decide+kernel,by decide+kernel⟩
theorem gL:FnScope ["_law_script"] ["_law_script"] (ai fJ):=⟨rfl,rfl,rfl,by decide+kernel,rfl,by decide+kernel,by decide+kernel⟩
theorem iW:FnScope ["_law_draw","_law_many","_law_number","_law_got"] ["_law_draw","_law_many"] (ai gO):=⟨rfl,rfl,rfl,by decide+kernel,rfl,by decide+kernel,by decide+kernel⟩
theorem qQ:FnScope ["_law_draw"] ["_law_draw"] (ai qU):=⟨rfl,rfl,rfl,by decide+kernel,rfl,by decide+kernel,by decide+kernel⟩
theorem iV:FnScope ["_law_p_here","_law_pairs","_law_sums","_law_place","_law_setting"] ["_law_p_here","_law_pairs"] (ai e9):=⟨rfl,rfl,rfl,by decide+kernel,rfl,by decide+kernel,by decide+kernel⟩
theorem eX:FnScope ["_law_draw","_law_p_here","_law_most","_law_far","_law_pairs","_law_k","_law_place"] ["_law_draw","_law_p_here","_law_most","_law_far"] (ai dy):=⟨rfl,rfl,rfl,by decide+kernel,rfl,by decide+kernel,by decide+kernel⟩
theorem kF:FnScope ["_law_p_here","_law_one","_law_other","_law_by","_law_many"] ["_law_p_here","_law_one","_law_other","_law_by","_law_many"] (ai gu):=⟨rfl,rfl,rfl,by decide+kernel,rfl,by decide+kernel,by decide+kernel⟩
theorem f6:FnScope ["_law_place","_law_stride"] ["_law_place","_law_stride"] (ai eC):=⟨rfl,rfl,rfl,by decide+kernel,rfl,by decide+kernel,by decide+kernel⟩
theorem dk:FnScope ["_law_draw","_law_p_here","_law_stride","_law_at","_law_pairs","_law_many","_law_k","_law_place"] ["_law_draw","_law_p_here","_law_stride","_law_at"] (ai bH):=⟨rfl,rfl,rfl,by decide+kernel,rfl,by decide+kernel,by decide+kernel⟩
theorem cR:FnScope ["_law_draw","_law_p_here","_law_stride","_law_columns","_law_kept"] ["_law_draw","_law_p_here","_law_stride"] (ai bj):=⟨rfl,rfl,rfl,by decide+kernel,rfl,by decide+kernel,by decide+kernel⟩
theorem kG:FnScope ["_law_thing"] ["_law_thing"] (ai jD):=⟨rfl,rfl,rfl,by decide+kernel,rfl,by decide+kernel,by decide+kernel⟩
theorem dj:FnScope ["_law_p_here","_law_thing","_law_k","_law_pair"] ["_law_p_here","_law_thing"] (ai cx):=⟨rfl,rfl,rfl,by decide+kernel,rfl,by decide+kernel,by decide+kernel⟩
theorem gK:FnScope ["_law_stride","_law_pattern_here"] ["_law_stride","_law_pattern_here"] (ai dQ):=⟨rfl,rfl,rfl,by decide+kernel,rfl,by decide+kernel,by decide+kernel⟩
theorem gJ:FnScope ["_law_stride","_law_pattern_here","_law_at"] ["_law_stride","_law_pattern_here","_law_at"] (ai dP):=⟨rfl,rfl,rfl,by decide+kernel,rfl,by decide+kernel,by decide+kernel⟩
theorem iX:FnScope ["_law_stride","_law_stair","_law_spots_here"] ["_law_stride","_law_stair"] (ai gP):=⟨rfl,rfl,rfl,by decide+kernel,rfl,by decide+kernel,by decide+kernel⟩
theorem d6:FnScope ["_law_stride","_law_stairs","_law_pattern_here","_law_stair","_law_at","_law_size_here","_law_place"] ["_law_stride","_law_stairs","_law_pattern_here"] (ai c6):=⟨rfl,rfl,rfl,by decide+kernel,rfl,by decide+kernel,by decide+kernel⟩
theorem qP:FnScope ["_law_script","_law_draw","_law_p_here","_law_stride","_law_stairs","_law_one","_law_other","_law_put","_law_k","_law_stair","_law_left","_law_right"] ["_law_script"] (ai qT):=⟨rfl,rfl,rfl,by decide+kernel,rfl,by decide+kernel,by decide+kernel⟩
section
variable {P:Program}{w:World}{K:PySem.W.Frag}{mg:Str ->Option Value}{base:Heap}{A:Adr}
theorem oM (T:Txt K mg A):FnOk P w K mg base CX0 1 A.f_column A.d_column ["place","stride"] (spW K pCol):=by
 refine okS T.column.fn iY (by rintro vs M q ⟨x,s,rfl,_⟩;rfl) fun cdv A' outer s H E hr=> ?_
 have nd:=iY.nd
 refine⟨_,(ah (bw (aE dC (pv 1) af (@aH _ _ (by decide) (by decide))) (ak (az (pv 0))) aX) (ak (az (aq bS (pv 0) (pv 1))))),?_⟩
 try dsimp only[bh]
 refine⟨_,inferInstance,?_⟩
 rintro vs M q ⟨x,s,rfl,s0,s1,k⟩
 dsimp? []
 refine a4 (fun h=> ?_) fun h=> ?_
 · dsimp? []
   rw[aA,if_pos h] at k
   exact exM k
 · have h0:0<s:=by omega
   dsimp? [h0]
   rw[aA,if_neg h] at k
   exact exM k
theorem dD (T:Txt K mg A):FnOk P w K mg base CX0 1 A.f_l_column A.d_l_column ["_law_place","_law_stride"] (spW K pCol):=by
 refine okS T.l_column.fn f6 (by rintro vs M q ⟨x,s,rfl,_⟩;rfl) fun cdv A' outer s H E hr=> ?_
 have nd:=f6.nd
 refine⟨_,(ah (bw (aE dC (pv 1) af (@aH _ _ (by decide) (by decide))) (ak (az (pv 0))) aX) (ak (az (aq bS (pv 0) (pv 1))))),?_⟩
 try dsimp only[bh]
 refine⟨_,inferInstance,?_⟩
 rintro vs M q ⟨x,s,rfl,s0,s1,k⟩
 dsimp? []
 refine a4 (fun h=> ?_) fun h=> ?_
 · dsimp? []
   rw[aA,if_pos h] at k
   exact exM k
 · have h0:0<s:=by omega
   dsimp? [h0]
   rw[aA,if_neg h] at k
   exact exM k
theorem gq (T:Txt K mg A):FnOk P w K mg base CX0 2 A.f_first_column A.d_first_column ["places","stride"] (spW K xh):=by
 have G_column:=oM (P:=P) (w:=w) (base:=base) T
 refine okS T.first_column.fn dq (by rintro vs M q ⟨a,ns,s,rfl,_⟩;rfl) fun cdv A' outer s H E hr=> ?_
 have nd:=dq.nd
 refine⟨_,(ak (az (@uA _ _ _ _ _ _ _ _ (by rfl) T.b_min rfl (@bU _ _ _ _ _ _ _ _ _ _ _ _ _ _ rfl (CScope.of (sc:=ai bI) (N:= ["places","stride"]) (own:= ["place"]) (fr:= [1]) (N':= ["place","stride"]) rfl rfl rfl (by decide+kernel) rfl (by decide+kernel) (by decide+kernel) (by decide+kernel) (by decide+kernel) (by decide+kernel)) (bu (pv 0)) (fun _ _ _ _=>(@ax _ _ (0) _ (by show(["place","stride"]:List Str).Nodup;decide+kernel) rfl (by first | exact Or.inl rfl | exact Or.inr rfl) (by first | exact .inl rfl | exact .inr rfl | assumption))) bC (fun _ _ _ _=>c7) (fun _ _ _ _=>(@aj _ _ _ _ _ _ _ _ _ _ _ _ _ T.column G_column (hr.mono (by decide)) (by rfl) (@aa _ _ _ _ _ (pv 0) (@aa _ _ _ _ _ (pv 1) ae (by rfl)) (by rfl)) (by decide) (by rfl) (by rfl))) (by intro _;rfl)) wZ (by rfl)))),?_⟩
 try dsimp only[bh]
 refine⟨_,inferInstance,?_⟩
 rintro vs M q ⟨a,ns,s,rfl,ha,hl,s0,s1,k0,k1⟩
 dsimp? [p8,ha]
 refine lC (fun x:Int=>wi (aA s x)) (big (by omega)) (fun M6 s6=>s6 _ _ ha) ?_ fun t ht=> ?_
 · intro x hx M3 N s3 hN
   dsimp? []
   refine⟨x,s,rfl,s0,s1,?_⟩
   dsimp? []
   exact hN
 dsimp? []
 refine⟨t,ns.map (aA s),rfl,by rw[ab,List.map_map];rfl,fun e=> ?_,fun m hm=> ?_⟩
 · dsimp? []
   exact⟨M,aF ht,k0 (by simpa using e)⟩
 · dsimp? []
   have hne:ns≠ []:=by rintro rfl;exact absurd hm.1 (by simp)
   rw[bY.uniq hm (cD (by simpa using hne))]
   exact⟨M,aF ht,k1 hne⟩
theorem gY (T:Txt K mg A):FnOk P w K mg base CX0 1 A.f_heights A.d_heights ["places","stride","first"] (spW K pHts):=by
 refine okS T.heights.fn gN (by rintro vs M q ⟨a,ns,s,f,rfl,_⟩;rfl) fun cdv A' outer s H E hr=> ?_
 have nd:=gN.nd
 refine⟨_,(ah (bw (aE dC (pv 1) af (@aH _ _ (by decide) (by decide))) (ak (az (@bU _ _ _ _ _ _ _ _ _ _ _ _ _ _ rfl (CScope.of (sc:=ai cS) (N:= ["places","stride","first"]) (own:= ["place"]) (fr:= [2]) (N':= ["place","first"]) rfl rfl rfl (by decide+kernel) rfl (by decide+kernel) (by decide+kernel) (by decide+kernel) (by decide+kernel) (by decide+kernel)) (bu (pv 0)) (fun _ _ _ _=>(@ax _ _ (0) _ (by show(["place","first"]:List Str).Nodup;decide+kernel) rfl (by first | exact Or.inl rfl | exact Or.inr rfl) (by first | exact .inl rfl | exact .inr rfl | assumption))) bC (fun _ _ _ _=>(dR (aE dC (pv 0) (pv 1) (@aH _ _ (by decide) (by decide))))) (fun _ _ _ _=>af) (by intro _;rfl)))) aX) (ak (az (@aM _ _ _ _ _ _ _ _ _ mO (by rfl) T.b_sorted Boot.«sorted» (@aa _ _ _ _ _ (@bU _ _ _ _ _ _ _ _ _ _ _ _ _ _ rfl (CScope.of (sc:=ai cS) (N:= ["places","stride","first"]) (own:= ["place"]) (fr:= [1,2]) (N':= ["place","stride","first"]) rfl rfl rfl (by decide+kernel) rfl (by decide+kernel) (by decide+kernel) (by decide+kernel) (by decide+kernel) (by decide+kernel)) (bu (pv 0)) (fun _ _ _ _=>(@ax _ _ (0) _ (by show(["place","stride","first"]:List Str).Nodup;decide+kernel) rfl (by first | exact Or.inl rfl | exact Or.inr rfl) (by first | exact .inl rfl | exact .inr rfl | assumption))) bC (fun _ _ _ _=>(dR (aE dC (aq bS (pv 0) (pv 1)) (pv 2) (@aH _ _ (by decide) (by decide))))) (fun _ _ _ _=>(aq fh (pv 0) (pv 1))) (by intro _;rfl)) ae (by rfl)) (by decide) (by decide) (by rfl) (by rfl))))),?_⟩
 try dsimp only[bh]
 refine⟨_,inferInstance,?_⟩
 rintro vs M q ⟨a,ns,s,f,rfl,ha,hl,s0,s1,k⟩
 dsimp? []
 refine a4 (fun h=> ?_) fun h=> ?_
 · subst h
   dsimp? [ha]
   refine comp_map (fun x:Int=>decide (x=f)) (fun x:Int=>wi 0) (big (by omega)) (fun M6 s6=>s6 _ _ ha) ?_ fun t ht=> ?_
   · intro x hx M3 N s3 hN
     dsimp? []
     refine a4 (fun h=> ?_) fun h=> ?_
     · dsimp? []
       simpa only[h,decide_true,if_true] using hN
     · dsimp? []
       simpa only[h,decide_false,Bool.false_eq_true,if_false] using hN
   dsimp? []
   have e:(ns.filter fun x=>decide (x=f)).map (fun _=>wi 0)=(hts 0 f ns).map wi:=by
     unfold hts;rw[List.map_map];rfl
   rw[e]
   refine exM (k t _ ht (List.Perm.refl _) ?_)
   unfold hts
   rw[List.pairwise_map]
   exact List.pairwise_of_forall fun _ _=>Int.le_refl _
 · have h0:0<s:=by omega
   have cd: ∀x,iH x s=True:=fun x=>by simp[iH];omega
   dsimp? [ha,h0,cd]
   refine comp_map (fun x:Int=>decide (x % s=f)) (fun x:Int=>wi (x / s)) (big (by omega)) (fun M6 s6=>s6 _ _ ha) ?_ fun t ht=> ?_
   · intro x hx M3 N s3 hN
     dsimp? [h0]
     refine a4 (fun h=> ?_) fun h=> ?_
     · dsimp? [h0,cd]
       simpa only[h,decide_true,if_true] using hN
     · dsimp? []
       simpa only[h,decide_false,Bool.false_eq_true,if_false] using hN
   dsimp? [p6]
   have e:(ns.filter fun x=>decide (x % s=f)).map (fun x=>wi (x / s))=(hts s f ns).map wi:=by
     unfold hts aA hI;rw[List.map_map];simp only[h,if_false];rfl
   refine⟨t,hts s f ns,rfl,by rw[ab,e],fun p ms hp h1 h2=> ?_⟩
   dsimp? []
   exact⟨_,wM ht hp,k p ms (by rw[ag (fun z=>by rw[z,ab] at hp;cases hp)] at hp;exact hp) h1 h2⟩
theorem rY (T:Txt K mg A):FnOk P w K mg base CX0 1 A.f_Row A.d_Row ["self","lamps","parts"] (spW K (xf A.c_Row)):=by
 have cl:=eq_true T.Row.cl
 have n1:=eq_true T.n_Row_lamps
 have n2:=eq_true T.n_Row_parts
 refine okS T.Row.fn qS (by rintro vs M q ⟨s,dx,l,r,rfl,_⟩;rfl) fun cdv A' outer s H E hr=> ?_
 have nd:=qS.nd
 refine⟨_,(ah (eE (pv 0) (pv 1) rfl) (ak (eE (pv 0) (pv 2) rfl))),?_⟩
 try dsimp only[bh]
 refine⟨_,inferInstance,?_⟩
 rintro vs M q ⟨s,dx,l,r,rfl,hs,k⟩
 have e1:du "lamps" l []= [(("lamps" :Str),l)]:=rfl
 have e2:du "parts" r [(("lamps" :Str),l)]= [(("lamps" :Str),l),(("parts" :Str),r)]:=rfl
 dsimp? [hs,cl,n1,n2,e1,e2,Nat.reduceLT]
 exact exM k
theorem rX (T:Txt K mg A):FnOk P w K mg base CX0 1 A.f_Stair A.d_Stair ["self","row","first","length","foot"] (spW K (rM A.c_Row A.c_Stair)):=by
 have cl:=eq_true T.Row.cl
 have cl2:=eq_true T.Stair.cl
 have n1:=eq_true T.n_Row_lamps
 have n2:=eq_true T.n_Row_parts
 have m1:=eq_true T.n_Stair_lamps
 have m2:=eq_true T.n_Stair_parts
 have m3:=eq_true T.n_Stair_first
 have m4:=eq_true T.n_Stair_length
 have m5:=eq_true T.n_Stair_foot
 refine okS T.Stair.fn kH (by rintro vs M q ⟨s,dx,r,dr,l,u,f,g,e,rfl,_⟩;rfl) fun cdv A' outer s H E hr=> ?_
 have nd:=kH.nd
 refine⟨_,(ah (eE (pv 0) (a9 (pv 1) rfl) rfl) (ah (eE (pv 0) (a9 (pv 1) rfl) rfl) (ah (eE (pv 0) (pv 2) rfl) (ah (eE (pv 0) (pv 3) rfl) (ak (eE (pv 0) (pv 4) rfl)))))),?_⟩
 try dsimp only[bh]
 refine⟨_,inferInstance,?_⟩
 rintro vs M q ⟨s,dx,r,dr,l,u,f,g,e,rfl,hsr,hs,hr,k⟩
 have f1: [(("lamps" :Str),l),(("parts" :Str),u)].lookup ("lamps" :Str)=some l:=rfl
 have f2: [(("lamps" :Str),l),(("parts" :Str),u)].lookup ("parts" :Str)=some u:=rfl
 have e1:du "lamps" l []= [(("lamps" :Str),l)]:=rfl
 have e2:du "parts" u [(("lamps" :Str),l)]= [(("lamps" :Str),l),(("parts" :Str),u)]:=rfl
 have e3:du "first" f [(("lamps" :Str),l),(("parts" :Str),u)]= [(("lamps" :Str),l),(("parts" :Str),u),(("first" :Str),f)]:=rfl
 have e4:du "length" g [(("lamps" :Str),l),(("parts" :Str),u),(("first" :Str),f)]= [(("lamps" :Str),l),(("parts" :Str),u),(("first" :Str),f),(("length" :Str),g)]:=rfl
 have e5:du "foot" e [(("lamps" :Str),l),(("parts" :Str),u),(("first" :Str),f),(("length" :Str),g)]= [(("lamps" :Str),l),(("parts" :Str),u),(("first" :Str),f),(("length" :Str),g),(("foot" :Str),e)]:=rfl
 dsimp? [hs,hr,cl,cl2,n1,n2,m1,m2,m3,m4,m5,f1,f2,e1,e2,e3,e4,e5,ag (Ne.symm hsr),Nat.reduceLT]
 exact exM k
theorem gZ (T:Txt K mg A):FnOk P w K mg base CX0 1 A.f_add_shifted A.d_add_shifted ["p","held","others","by","n"] (spW K pAddS):=by
 refine okS T.add_shifted.fn dw (by rintro vs M q ⟨h,o,p,b,n,a,c,rfl,_⟩;rfl) fun cdv A' outer s H E hr=> ?_
 have nd:=dw.nd
 refine⟨_,(ak (nG (@bR _ _ _ _ _ _ _ _ PassesOwn.never rfl (@kO _ _ _ _ _ _ _ _ _ rfl (pv 2) (by rfl) (by rfl)) (@dB _ _ _ _ _ (2) rfl (@aV _ _ _ _ _ (@ax _ _ (5) _ nd rfl (by first | exact Or.inl rfl | exact Or.inr rfl) (by first | exact .inl rfl | exact .inr rfl | assumption)) (@aV _ _ _ _ _ (@ax _ _ (6) _ nd rfl (by first | exact Or.inl rfl | exact Or.inr rfl) (by first | exact .inl rfl | exact .inr rfl | assumption)) cH (by rfl)) (by rfl)) (by rfl) (by rfl)) (ah (@aB _ _ (7) _ _ _ _ nd rfl (by first | exact Or.inl rfl | exact Or.inr rfl) (aq bS (aq a5 (fg (cc hr) (pv 1) (aq a5 (pv 5) (pv 3)) af ⟨by rfl,by rfl,by rfl,by rfl⟩) (aq bf (pv 6) (pv 4))) (pv 0)) (by rfl) (by first | exact .inl rfl | exact .inr rfl | assumption)) (ak (bw (aE rP (pv 7) af (@aH _ _ (by decide) (by decide))) (ak (jJ (cc hr) (pv 1) (aq a5 (pv 5) (pv 3)) (pv 7) rfl)) (ak (uw (pv 1) (aq a5 (pv 5) (pv 3))))))) (by intro _;rfl)))),?_⟩
 try dsimp only[bh]
 refine⟨_,inferInstance,?_⟩
 rintro vs M q ⟨h,o,p,by_,n,a,b,rfl,hho,hh,ho,p0,p1,ga,gb,nz,hl,k⟩
 refine⟨o,_,ho,?_⟩
 dsimp? [ho]
 intro ob ks
 have hkv:(kvW b).map (fun kv=>W.tup [bA kv.1,kv.2])=b.map aG:=by unfold kvW;rw[List.map_map];rfl
 rw[hkv]
 refine cZ (fun i ρ M'=> ∃ (o1 o2 o3:Option W) (c:Pt),ρ= [some (wi p),some (wr h),some (wr o),some (wi by_),some (wi n),o1,o2,o3] /\ M' h=some (.dK (kvW c)) /\ M' o=some (.fz ob ks (kvW b)) /\ (∀d,d≠h ->d≠o ->M' d=M d) /\ GD p c /\ c.length<=a.length+i /\ ∀x,look c x=(look a x+tot (shf by_ (b.take i)) x*n) % p)
   ⟨none,none,none,a,rfl,by rw[ag hho];exact hh,ab,fun d _ h2=>ag h2,ga,Nat.le_refl _,fun x=>by have:=ga.range p0 x;simp[shf,tot];exact(Int.emod_eq_of_lt this.1 this.2).symm⟩ ?_ ?_ ?_
 · rintro i ρ M' _ ⟨o1,o2,o3,c,rfl,_,h2,_⟩
   exact h2
 · rintro i x ρ M' hx ⟨o1,o2,o3,c,rfl,h1,h2,h3,gc,hcl,hlk⟩ N hN
   obtain⟨z,hz,rfl⟩:=pairs_at hx
   have hil:=(List.getElem?_eq_some_iff.mp hz).1
   have hzr:=gb.2 z (List.mem_of_getElem? hz)
   have cm:bF z.2 n=True:=eq_true (.inl ⟨by lia,by lia⟩)
   have hs:((kvW c).length<sizeLine)=True:=by rw[kvW,List.length_map];exact eq_true (mQ (by lia))
   have stp: ∀x,(look a x+tot (shf by_ (b.take (i+1))) x*n) % p=if x=z.1+by_ then(look c (z.1+by_)+z.2*n) % p else look c x:=fun x=>by
     have e:shf by_ (b.take (i+1))=shf by_ (b.take i)++ [(z.1+by_,z.2)]:=by rw[List.take_add_one,hz];unfold shf;rw[List.map_append];rfl
     rw[e,cQ]
     by_cases ex:x=z.1+by_
     · subst ex
       rw[if_pos rfl,if_pos rfl,hlk,Int.emod_add_emod,Int.add_mul,Int.add_assoc]
     · rw[if_neg ex,if_neg (fun q=>ex q.symm),hlk,Int.add_zero]
   dsimp? [aG,h1,gA,cm,p0]
   refine sH (fun hne=> ?_) fun he=> ?_
   · have h0:=Int.emod_nonneg (look c (z.1+by_)+z.2*n) (show p≠0 by lia)
     have hp:=Int.emod_lt_of_pos (look c (z.1+by_)+z.2*n) p0
     dsimp? [h1,hs,gw]
     refine hN _ _ ⟨_,_,_,d4 c (z.1+by_) ((look c (z.1+by_)+z.2*n) % p),rfl,ab,by rw[ag (Ne.symm hho)];exact h2,fun d d1 d2=>by rw[ag d1];exact h3 d d1 d2,gc.put (by lia) hp,Nat.le_trans ij (by lia),fun x=> ?_⟩
     rw[stp,fS]
   · have hhas:((bD (kvW c) (Sum.inl (z.1+by_))).isSome=true)=True:=eq_true (uX fun e0=>by
       rw[e0,Int.zero_add] at he
       exact nz z.2 hzr.1 hzr.2 he)
     dsimp? [h1,hhas,sW]
     refine hN _ _ ⟨_,_,_,bL c (z.1+by_),rfl,ab,by rw[ag (Ne.symm hho)];exact h2,fun d d1 d2=>by rw[ag d1];exact h3 d d1 d2,gc.drop _,Nat.le_trans (oU _ _) (by lia),fun x=> ?_⟩
     rw[stp,mq,he]
 · rintro ρ M' ⟨o1,o2,o3,c,rfl,h1,h2,h3,gc,hcl,hlk⟩
   rw[List.length_map] at hcl hlk
   rw[List.take_length] at hlk
   refine⟨ob,ks,kvW b,h2,um M h (.dK (kvW c)),fun d u e=> ?_,k c gc hcl fun x=> ?_⟩
   · by_cases d1:d=h
     · subst d1;rw[ab] at e;rw[ag hho,h1];exact e
     · rw[ag d1] at e
       by_cases d2:d=o
       · subst d2;rw[ab, <- ho];exact e
       · rw[ag d2,h3 d d1 d2];exact e
   · rw[hlk,mZ,bQ gb.1]
end
end K20
open PySem L2 WL WP WQ EN PyProof.Rows
namespace K20
open PySem L2 WL WP WQ EN PyProof.Rows
section
variable {P:Program}{w:World}{K:PySem.W.Frag}{mg:Str ->Option Value}{base:Heap}{A:Adr}
theorem fi (T:Txt K mg A):FnOk P w K mg base CX0 2 A.f_add_moved A.d_add_moved ["p","stride","row","other","shift","n"] (spW K (vM A.c_Row A.c_Stair)):=by
 have G_add_shifted:=gZ (P:=P) (w:=w) (base:=base) T
 have clR:=eq_true T.Row.cl
 have nR1:=eq_true T.n_Row_lamps
 have nR2:=eq_true T.n_Row_parts
 refine okS T.add_moved.fn eY (by rintro vs M q ⟨r,dr,rl,rp,o,ol,op,p,s,sh,n,a,b,P,Q,B,C,rfl,_⟩;rfl) fun cdv A' outer s H E hr=> ?_
 have nd:=eY.nd
 refine⟨_,(ah (@cj _ _ _ _ (@aj _ _ _ _ _ _ _ _ _ _ _ _ _ T.add_shifted G_add_shifted (hr.mono (by decide)) (by rfl) (@aa _ _ _ _ _ (pv 0) (@aa _ _ _ _ _ (a9 (pv 2) rfl) (@aa _ _ _ _ _ (a9 (pv 3) rfl) (@aa _ _ _ _ _ (aq bf (pv 1) (pv 4)) (@aa _ _ _ _ _ (pv 5) ae (by rfl)) (by rfl)) (by rfl)) (by rfl)) (by rfl)) (by decide) (by rfl) (by rfl)) (by rfl)) (ak (nG (@bR _ _ _ _ _ _ _ _ PassesOwn.never rfl (@kO _ _ _ _ _ _ _ _ _ rfl (a9 (pv 3) rfl) (by rfl) (by rfl)) (@dB _ _ _ _ _ (2) rfl (@aV _ _ _ _ _ (@ax _ _ (6) _ nd rfl (by first | exact Or.inl rfl | exact Or.inr rfl) (by first | exact .inl rfl | exact .inr rfl | assumption)) (@aV _ _ _ _ _ (@ax _ _ (7) _ nd rfl (by first | exact Or.inl rfl | exact Or.inr rfl) (by first | exact .inl rfl | exact .inr rfl | assumption)) cH (by rfl)) (by rfl)) (by rfl) (by rfl)) (ak (@cj _ _ _ _ (@aj _ _ _ _ _ _ _ _ _ _ _ _ _ T.add_shifted G_add_shifted (hr.mono (by decide)) (by rfl) (@aa _ _ _ _ _ (pv 0) (@aa _ _ _ _ _ (rH (a9 (pv 2) rfl) (pv 6) cX ⟨by rfl,by rfl,by rfl,by rfl⟩) (@aa _ _ _ _ _ (pv 7) (@aa _ _ _ _ _ (pv 4) (@aa _ _ _ _ _ (pv 5) ae (by rfl)) (by rfl)) (by rfl)) (by rfl)) (by rfl)) (by decide) (by rfl) (by rfl)) (by rfl))) (by intro _;rfl))))),?_⟩
 try dsimp only[bh]
 refine⟨_,inferInstance,?_⟩
 rintro vs M q ⟨r,dr,rl,rp,o,ol,op,p,s,sh,n,a,b,P,Q,B,C,rfl,hr0,ho0,p0,p1,s0,s1,nz,rowP,rowQ,dis,hab,hPQ,hB,hC,hBC,k⟩
 obtain⟨Co,dO,fs,ho,clO,nO1,nO2,fO1,fO2⟩: ∃Co dO fs,M o=some (.ins Co dO fs) /\ (Cls K Co=True) /\ (a8 K Co "lamps" =True) /\ (a8 K Co "parts" =True) /\ fs.lookup ("lamps" :Str)=some (wr ol) /\ fs.lookup ("parts" :Str)=some (wr op):=by
   rcases ho0 with⟨d,e⟩ | ⟨d,f,g,e',e⟩
   · exact⟨_,_,_,e,clR,nR1,nR2,rfl,rfl⟩
   · exact⟨_,_,_,e,eq_true T.Stair.cl,eq_true T.n_Stair_lamps,eq_true T.n_Stair_parts,rfl,rfl⟩
 have fR1: [(("lamps" :Str),wr rl),(("parts" :Str),wr rp)].lookup ("lamps" :Str)=some (wr rl):=rfl
 have fR2: [(("lamps" :Str),wr rl),(("parts" :Str),wr rp)].lookup ("parts" :Str)=some (wr rp):=rfl
 have cm:bF s sh=True:=eq_true (.inl ⟨by lia,by lia⟩)
 have notP: ∀ {x C' d' fs'},M x=some (.ins C' d' fs') ->x∉av rl rp P:=fun {x C' d' fs'} e hx=>by obtain⟨kvs,e2⟩:=rowP.mem hx;rw[e] at e2;cases e2
 have notQ: ∀ {x C' d' fs'},M x=some (.ins C' d' fs') ->x∉av ol op Q:=fun {x C' d' fs'} e hx=>by obtain⟨kvs,e2⟩:=rowQ.mem hx;rw[e] at e2;cases e2
 have mrl:rl∈av rl rp P:=by simp[av]
 have mrp:rp∈av rl rp P:=by simp[av]
 have mol:ol∈av ol op Q:=by simp[av]
 have mop:op∈av ol op Q:=by simp[av]
 have min: ∀t∈Q,t.2.1∈av ol op Q:=fun t ht=>by simp only[av,List.mem_cons,List.mem_map];exact .inr (.inr ⟨t,ht,rfl⟩)
 have ndQ:=List.nodup_cons.mp (List.nodup_cons.mp rowQ.nda).2
 dsimp? [hr0,ho,clR,nR1,nR2,clO,nO1,nO2,fR1,fR2,fO1,fO2,cm]
 refine⟨rl,ol,p,s*sh,n,a,b,rfl,fun e=>dis rl mrl (by rw[e];exact mol),rowP.lam,rowQ.lam,p0,p1,rowP.ga,rowQ.ga,nz,hab,fun c gc hcl hlk=> ?_⟩
 simp? [↓aR]
 refine cP ?_
 have row1:=rowP.lamp gc
 have ho1:um M rl (.dK (kvW c)) o=some (.ins Co dO fs):=by rw[ag (fun e=>notP ho (by rw[e];exact mrl))];exact ho
 have hr1:um M rl (.dK (kvW c)) r=some (.ins A.c_Row dr [(("lamps" :Str),wr rl),(("parts" :Str),wr rp)]):=by rw[ag (fun e=>notP hr0 (by rw[e];exact mrl))];exact hr0
 have hop1:um M rl (.dK (kvW c)) op=some (.dK (pdW Q)):=by rw[ag (fun e=>dis rl mrl (by rw[<- e];exact mop))];exact rowQ.par
 refine⟨op,pdW Q,hop1,?_⟩
 dsimp? [ho1,clO,nO2,fO2,hop1]
 intro ob ks
 have hkv:(pdW Q).map (fun kv=>W.tup [bA kv.1,kv.2])=Q.map fun t=>W.tup [wi t.1,wr t.2.1]:=by unfold pdW;rw[List.map_map];rfl
 rw[hkv]
 generalize hM1:um M rl (.dK (kvW c))=M1 at row1 ho1 hr1 hop1
 have kp1:dJ M M1 (av rl rp P):=fun d u e nd=>by rw[<- hM1,ag (fun z=>nd (by rw[z];exact mrl))];exact e
 have fr1: ∀x,M1 x=none ->M x=none:=fun x e=>by
   cases e2:M x with
   | none=>rfl
   | some u=>by_cases hx:x=rl;(· subst hx;rw[row1.lam] at e;cases e);(· rw[<- hM1,ag hx,e2] at e;cases e)
 refine cZ (fun i ρ M'=> ∃ (o1 o2:Option W) (P':Pq),ρ= [some (wi p),some (wi s),some (wr r),some (wr o),some (wi sh),some (wi n),o1,o2] /\ M' op=some (.fz ob ks (pdW Q)) /\ RowAt p M' rl rp c P' /\ dJ M1 M' (op::av rl rp P) /\ (∀x∈av rl rp P',x∈av rl rp P \/ M1 x=none) /\ (∀x∈av rl rp P,x∈av rl rp P') /\ (∀w x,look (pf P' w) x=(look (pf P w) x+look (pf (Q.take i) w) (x - sh)*n) % p) /\ (∀w,w∉(Q.take i).map (·.1) ->pf P' w=pf P w) /\ P'.length<=P.length+i /\ (∀t∈P',t.2.2.length<=B+C) /\ (∀w∈P'.map (·.1),w∈P.map (·.1) \/ w∈Q.map (·.1)))
   ⟨none,none,P,rfl,ab,row1.same fun d hd=>ag (fun z=>dis d hd (by rw[z];exact mop)),fun d u e nd=>by rw[ag (fun z=>nd (by rw[z];exact List.mem_cons_self))];exact e,fun x hx=> .inl hx,fun x hx=>hx,fun w x=>by show _=(look (pf P w) x+0*n) % p;rw[Int.zero_mul,Int.add_zero,aU p0 (rowP.pfGD w)],fun w _=>rfl,Nat.le_refl _,fun t ht=>Nat.le_trans (hB t ht) (Nat.le_add_right _ _),fun w hw=> .inl hw⟩ ?_ ?_ ?_
 · rintro i ρ M' _ ⟨o1,o2,P',rfl,h2,_⟩
   exact h2
 · rintro i x ρ M' hx ⟨o1,o2,P',rfl,h2,row,kp,fr,hsub,hpf,hun,hln,hin,hky⟩ N hN
   obtain⟨t,hz,rfl⟩: ∃t,Q[i]? =some t /\ x=W.tup [wi t.1,wr t.2.1]:=by
     rw[List.getElem?_map] at hx
     cases e:Q[i]? with
     | none=>rw[e] at hx;cases hx
     | some q=>rw[e] at hx;cases hx;exact⟨q,rfl,rfl⟩
   have hil:=(List.getElem?_eq_some_iff.mp hz).1
   have htQ:=List.mem_of_getElem? hz
   have hwi:=hun t.1 (qp rowQ.ndk hz)
   have hr2:M' r=some (.ins A.c_Row dr [(("lamps" :Str),wr rl),(("parts" :Str),wr rp)]):=kp r _ hr1 (fun hm=>by
     rcases List.mem_cons.mp hm with z | z
     · rw[z,hop1] at hr1;cases hr1
     · exact notP hr0 z)
   have tin:t.2.1∉av rl rp P:=fun z=>dis _ z (min t htQ)
   have hqa:M' t.2.1=some (.dK (kvW t.2.2)):=kp _ _ (by rw[<- hM1,ag (fun z=>tin (by rw[z];exact mrl))];exact rowQ.inn t htQ) (fun hm=>by
     rcases List.mem_cons.mp hm with z | z
     · exact ndQ.1 (by rw[<- z];exact List.mem_map.mpr ⟨t,htQ,rfl⟩)
     · exact tin z)
   have tin2:t.2.1∉av rl rp P':=fun z=>by
     rcases fr _ z with z | z
     · exact tin z
     · have:=rowQ.inn t htQ
       rw[fr1 _ z] at this;cases this
   have hs:((pdW P').length<sizeLine)=True:=by rw[pdW,List.length_map];exact eq_true (mQ (by lia))
   have hrp:=row.par
   dsimp? [hr2,clR,nR2,fR2,hrp]
   intro e he
   have nrp:rp≠e:=aZ row.par he
   have nqa:t.2.1≠e:=aZ hqa he
   dsimp? [ag nrp,hrp,hs,mW]
   have nop:op∉av rl rp P:=fun z=>dis _ z mop
   have nop2:op∉av rl rp P':=fun z=>by
     rcases fr _ z with z | z
     · exact nop z
     · rw[hop1] at z;cases z
   have nope:op≠e:=aZ h2 he
   have hBw:(pf P t.1).length<=B:=by
     unfold pf
     cases e2:P.find? (fun u=>decide (u.1=t.1)) with
     | none=>exact Nat.zero_le _
     | some u=>exact hB u (find_some e2).1
   have htC:=hC t htQ
   have tk1: ∀w,w∉(Q.take (i+1)).map (·.1) ->w≠t.1 /\ w∉(Q.take i).map (·.1):=fun w hw=>by
     rw[List.take_add_one,hz,List.map_append] at hw
     exact⟨fun z=>hw (List.mem_append.mpr (.inr (by rw[z];exact List.mem_singleton.mpr rfl))),fun z=>hw (List.mem_append.mpr (.inl z))⟩
   have dne: ∀ {d u},M1 d=some u ->d≠e ->d∉op::av rl rp P ->M' d=some u:=fun h1 _ h3=>kp _ _ h1 h3
   have M1e:M1 e=none:=by
     cases e2:M1 e with
     | none=>rfl
     | some u=>
       exfalso
       by_cases hm:e∈op::av rl rp P
       · rcases List.mem_cons.mp hm with z | z
         · exact nope z.symm
         · obtain⟨kvs,q2⟩:=row.mem (hsub e z);rw[he] at q2;cases q2
       · rw[kp e u e2 hm] at he;cases he
   cases hf:P'.find? (fun u=>decide (u.1=t.1)) with
   | some u=>
     obtain⟨hu,hw⟩:=find_some hf
     have eu:u.2.2=pf P t.1:=by rw[<- hwi, <- hw];exact(l3 row.ndk hu).symm
     have une:u.2.1≠e:=aZ (row.inn u hu) he
     have umem:u.2.1∈av rl rp P':=by simp only[av,List.mem_cons,List.mem_map];exact .inr (.inr ⟨u,hu,rfl⟩)
     rw[Option.map_some,uq]
     refine⟨u.2.1,t.2.1,p,sh,n,u.2.2,t.2.2,rfl,fun z=>tin2 (by rw[<- z];exact umem),by rw[ag une];exact row.inn u hu,by rw[ag nqa];exact hqa,p0,p1,row.gp u hu,rowQ.gp t htQ,nz,by rw[eu];lia,fun c' gc' hl' hlk'=> ?_⟩
     have eadr:av rl rp (eB P' u.1 c')=av rl rp P':=by unfold av;rw[lJ]
     have ukey:u.1∈P'.map (·.1):=List.mem_map.mpr ⟨u,hu,rfl⟩
     refine hN _ _ ⟨_,_,eB P' u.1 c',rfl,by rw[ag (fun z=>nop2 (by rw[z];exact umem)),ag nope];exact h2,(row.set hu gc').same fun d hd=> ?_,fun d o' e1 nd=> ?_,by rw[eadr];exact fr,by rw[eadr];exact hsub,fun w' x=> ?_,fun w' hw'=> ?_,by unfold eB;rw[List.length_map];lia,fun v hv=> ?_,by rw[lj];exact hky⟩
     · rw[eadr] at hd
       by_cases z:d=u.2.1
       · rw[z,ab,ab]
       · obtain⟨kvs,q2⟩:=row.mem hd
         rw[ag z,ag z,ag (aZ q2 he)]
     · have n1:d≠e:=fun z=>by rw[z,M1e] at e1;cases e1
       have n2:d≠u.2.1:=fun z=>by
         rcases fr _ umem with q2 | q2
         · exact nd (List.mem_cons_of_mem _ (by rw[z];exact q2))
         · rw[z,q2] at e1;cases e1
       rw[ag n2,ag n1];exact kp d o' e1 nd
     · rw[nI w' ukey,nH rowQ.ndk hz,hw]
       by_cases z:w'=t.1
       · rw[if_pos z,if_pos z,hlk',eu,z]
       · rw[if_neg z,if_neg z];exact hpf w' x
     · obtain⟨z1,z2⟩:=tk1 w' hw'
       rw[nI w' ukey,hw,if_neg z1];exact hun w' z2
     · obtain⟨v',hv',rfl⟩:=List.mem_map.mp hv
       split
       · show c'.length<=B+C
         rw[eu] at hl';lia
       · exact hin v' hv'
   | none=>
     have hnk:=find_none hf
     have pnil:pf P t.1= []:=by rw[<- hwi];exact jL hnk
     rw[Option.map_none,ur,wV (c:= []) hnk]
     refine⟨e,t.2.1,p,sh,n,[],t.2.2,rfl,Ne.symm nqa,by rw[ag (Ne.symm nrp),ab];rfl,by rw[ag (fun z=>tin2 (by rw[z];simp[av])),ag nqa];exact hqa,p0,p1,GD.nil,rowQ.gp t htQ,nz,by simp only[List.length_nil];lia,fun c' gc' hl' hlk'=> ?_⟩
     have epd:pdW (P'++ [(t.1,e,[])])=pdW (P'++ [(t.1,e,c')]):=by unfold pdW;rw[List.map_append,List.map_append];rfl
     have eadr:av rl rp (P'++ [(t.1,e,c')])=av rl rp P'++ [e]:=by unfold av;rw[List.map_append];rfl
     refine hN _ _ ⟨_,_,P'++ [(t.1,e,c')],rfl,by rw[ag nope,ag (fun z=>nop2 (by rw[z];simp[av])),ag nope];exact h2,(row.new he hnk gc').same fun d hd=> ?_,fun d o' e1 nd=> ?_,fun x hx=> ?_,fun x hx=>by rw[eadr];exact List.mem_append.mpr (.inl (hsub x hx)),fun w' x=> ?_,fun w' hw'=> ?_,by rw[List.length_append,List.length_singleton];lia,fun v hv=> ?_,fun w' hw'=> ?_⟩
     · by_cases z:d=e
       · rw[z,ab,ag (Ne.symm nrp),ab]
       · rw[ag z]
         by_cases z2:d=rp
         · rw[z2,ab,ab,epd]
         · rw[ag z2,ag z2,ag z,ag z]
     · have n1:d≠e:=fun z=>by rw[z,M1e] at e1;cases e1
       have n2:d≠rp:=fun z=>nd (List.mem_cons_of_mem _ (by rw[z];exact mrp))
       rw[ag n1,ag n2,ag n1];exact kp d o' e1 nd
     · rw[eadr] at hx
       rcases List.mem_append.mp hx with hx | hx
       · exact fr x hx
       · rw[List.mem_singleton.mp hx];exact .inr M1e
     · rw[l4 w' hnk,nH rowQ.ndk hz]
       by_cases z:w'=t.1
       · rw[if_pos z,if_pos z,hlk',z,pnil]
       · rw[if_neg z,if_neg z];exact hpf w' x
     · obtain⟨z1,z2⟩:=tk1 w' hw'
       rw[l4 w' hnk,if_neg z1];exact hun w' z2
     · rcases List.mem_append.mp hv with hv | hv
       · exact hin v hv
       · rw[List.mem_singleton.mp hv];show c'.length<=B+C;simp only[List.length_nil] at hl';lia
     · rw[List.map_append] at hw'
       rcases List.mem_append.mp hw' with hw' | hw'
       · exact hky w' hw'
       · rw[List.mem_singleton.mp hw'];exact .inr (List.mem_map.mpr ⟨t,htQ,rfl⟩)
 · rintro ρ M' ⟨o1,o2,P',rfl,h2,row,kp,fr,hsub,hpf,hun,hln,hin,hky⟩
   rw[List.length_map] at hln hpf hun
   rw[List.take_length] at hpf hun
   have nop:op∉av rl rp P:=fun z=>dis _ z mop
   have nop2:op∉av rl rp P':=fun z=>by
     rcases fr _ z with z | z
     · exact nop z
     · rw[hop1] at z;cases z
   refine⟨ob,ks,pdW Q,h2,exM (k _ c P' (row.same fun d hd=>ag (fun z=>nop2 (by rw[<- z];exact hd))) hlk hpf (fun d u e nd=> ?_) (fun x hx=>(fr x hx).imp id (fr1 x)) hsub hcl hln hin hky)⟩
   by_cases hd:d=op
   · subst hd;rw[ab, <- rowQ.par];exact e
   · rw[ag hd]
     exact kp d u (kp1 d u e nd) fun hm=>(List.mem_cons.mp hm).elim hd nd
end
end K20
open PySem L2 WL WP WQ EN PyProof.Rows
namespace K20
open PySem L2 WL WP WQ EN PyProof.Rows
section
variable {P:Program}{w:World}{K:PySem.W.Frag}{mg:Str ->Option Value}{base:Heap}{A:Adr}
theorem eI (T:Txt K mg A):FnOk P w K mg base CX0 1 A.f_too_high_or_low A.d_too_high_or_low ["found","length"] (spW K pTHL):=by
 refine okS T.too_high_or_low.fn cw (by rintro vs M q ⟨f,ns,len,rfl,_⟩;rfl) fun cdv A' outer s H E hr=> ?_
 have nd:=cw.nd
 refine⟨_,(ah (bw (gS (aE dC (pv 1) af (@aH _ _ (by decide) (by decide))) (fL (c8 (@oG _ _ _ (pv 0) (by intro _;rfl))))).pt (ak (az (pv 0))) aX) (ak (az (aq rQ (@l5 _ _ _ _ _ _ _ _ _ (by rfl) T.b_list (by rfl) T.b_range rfl (@aa _ _ _ _ _ (a0 aS (pv 0) (d8 cL af) (fun _ _=>rfl)) (@aa _ _ _ _ _ (aq b0 (pv 1) af) (@aa _ _ _ _ _ (d8 cL af) ae (by rfl)) (by rfl)) (by rfl)) (by rfl) (by rfl) (by rfl)) (@gT _ _ _ _ _ _ _ _ (by rfl) T.b_list (by rfl) T.b_range rfl (@aa _ _ _ _ _ (a0 aS (pv 0) af (fun _ _=>rfl)) (@aa _ _ _ _ _ af ae (by rfl)) (by rfl)) (by rfl) (by rfl) (by rfl)))))),?_⟩
 try dsimp only[bh]
 refine⟨_,inferInstance,?_⟩
 rintro vs M q ⟨f,ns,len,rfl,hf,l0,l1,hn,hb,k⟩
 by_cases hl:len=0
 · have e:thl ns len=ns:=if_pos (.inl hl)
   rw[e] at k
   dsimp? [hl,decide_true]
   exact exM (k f M (Sm.refl M) hf)
 · have hl':decide (len=0)=false:=decide_eq_false hl
   have htr: ∀ {k:Bool ->Prop},truK M (.v (.ref f)) k=k (!(ns.map wi).isEmpty):=qk hf
   by_cases hne:ns= []
   · have e:thl ns len=ns:=if_pos (.inr hne)
     rw[e] at k
     subst hne
     dsimp? [hl',htr,List.map_nil,List.isEmpty_nil,Bool.not_true,Bool.not_false]
     exact exM (k f M (Sm.refl M) hf)
   · have hie:(ns.map wi).isEmpty=false:=by cases ns with | nil=>exact absurd rfl hne | cons a r=>rfl
     have h1:atI (ns.map wi) (-1)=some (wi (ns.getLastD 0)):=fZ hne
     have h0:atI (ns.map wi) 0=some (wi (ns.headD 0)):=by
       cases ns with
       | nil=>exact absurd rfl hne
       | cons a r=>exact tJ
     have hbl: -10000<ns.getLastD 0 /\ ns.getLastD 0<10000:=hb _ (dX hne)
     have hbh: -10000<ns.headD 0 /\ ns.headD 0<10000:=by
       refine hb _ ?_
       cases ns with
       | nil=>exact absurd rfl hne
       | cons a r=>exact List.mem_cons_self
     dsimp? [hl',htr,hie,Bool.not_false,hf,h1,h0,p9]
     refine⟨ns.getLastD 0,len - 1,rfl,⟨by decide,by decide,by lia,by lia⟩,by lia,fun u hu=> ?_⟩
     have nu:f≠u:=aZ hf hu
     dsimp? [ag nu,hf,h0,kq]
     refine⟨ns.headD 0,0,rfl,⟨by lia,by lia,by lia,by lia⟩,by lia,fun v hv=> ?_⟩
     have nuv:u≠v:=aZ ab hv
     dsimp? [ag nuv]
     have e:thl ns len=fC (ns.getLastD 0) (ns.getLastD 0 - (len - 1)).toNat++upI (ns.headD 0) (0 - ns.headD 0).toNat:=if_neg (by rintro(z | z);(· exact hl z);(· exact hne z))
     refine⟨big (by unfold oe bq;rw[List.length_map,List.length_map,List.length_range,List.length_range];lia),fun p hp=>exM (k p _ (((aF hu).trans (aF hv)).trans (aF hp)) ?_)⟩
     rw[ab,e,List.map_append]
     unfold oe bq fC upI
     rw[List.map_map,List.map_map];rfl
end
end K20
open PySem L2 WL WP WQ EN PyProof.Rows
namespace K20
open PySem L2 WL WP WQ EN PyProof.Rows
section
variable {P:Program}{w:World}{K:PySem.W.Frag}{mg:Str ->Option Value}{base:Heap}{A:Adr}
theorem xn (T:Txt K mg A):FnOk P w K mg base CX0 3 A.f_cut A.d_cut ["p","stride","row","stair"] (spW K (pCut A.c_Row A.c_Stair)):=by
 have G_add_moved:=fi (P:=P) (w:=w) (base:=base) T
 have G_too_high_or_low:=eI (P:=P) (w:=w) (base:=base) T
 have G_heights:=gY (P:=P) (w:=w) (base:=base) T
 have clR:=eq_true T.Row.cl
 have nR1:=eq_true T.n_Row_lamps
 have clS:=eq_true T.Stair.cl
 have nS3:=eq_true T.n_Stair_first
 have nS4:=eq_true T.n_Stair_length
 have nS5:=eq_true T.n_Stair_foot
 refine okS T.cut.fn qR (by rintro vs M q ⟨r,dr,rl,rp,o,ds,ol,op,p,s,f,len,foot,a,b,P,Q,B,C,Z,D,rfl,_⟩;rfl) fun cdv A' outer s H E hr=> ?_
 have nd:=qR.nd
 refine⟨_,(ah (@aB _ _ (4) _ _ _ _ nd rfl (by first | exact Or.inl rfl | exact Or.inr rfl) (@aj _ _ _ _ _ _ _ _ _ _ _ _ _ T.heights G_heights (hr.mono (by decide)) (by rfl) (@aa _ _ _ _ _ (@aY _ _ _ _ _ _ _ _ _ (eQ rfl) (by rfl) T.b_list Boot.«list» (@aa _ _ _ _ _ (a9 (pv 2) rfl) ae (by rfl)) (by decide) (by decide) (by rfl) (by rfl)) (@aa _ _ _ _ _ (pv 1) (@aa _ _ _ _ _ (a9 (pv 3) rfl) ae (by rfl)) (by rfl)) (by rfl)) (by decide) (by rfl) (by rfl)) (by rfl) (by first | exact .inl rfl | exact .inr rfl | assumption)) (ak (@bR _ _ _ _ _ _ _ _ PassesOwn.never rfl (bu (@aj _ _ _ _ _ _ _ _ _ _ _ _ _ T.too_high_or_low G_too_high_or_low (hr.mono (by decide)) (by rfl) (@aa _ _ _ _ _ (pv 4) (@aa _ _ _ _ _ (a9 (pv 3) rfl) ae (by rfl)) (by rfl)) (by decide) (by rfl) (by rfl))) (@ax _ _ (5) _ nd rfl (by first | exact Or.inl rfl | exact Or.inr rfl) (by first | exact .inl rfl | exact .inr rfl | assumption)) (ah (@aB _ _ (6) _ _ _ _ nd rfl (by first | exact Or.inl rfl | exact Or.inr rfl) (fg (cc hr) (a9 (pv 2) rfl) (aq a5 (a9 (pv 3) rfl) (aq bf (pv 5) (pv 1))) af ⟨by rfl,by rfl,by rfl,by rfl⟩) (by rfl) (by first | exact .inl rfl | exact .inr rfl | assumption)) (ah (bw (aE dC (pv 6) af (@aH _ _ (by decide) (by decide))) (ak kN) aX) (ak (bw (aE i5 (pv 5) af (@aH _ _ (by decide) (by decide))) (ak (@cj _ _ _ _ (@aj _ _ _ _ _ _ _ _ _ _ _ _ _ T.add_moved G_add_moved (hr.mono (by decide)) (by rfl) (@aa _ _ _ _ _ (pv 0) (@aa _ _ _ _ _ (pv 1) (@aa _ _ _ _ _ (pv 2) (@aa _ _ _ _ _ (pv 3) (@aa _ _ _ _ _ (pv 5) (@aa _ _ _ _ _ (aq bf (d8 cL (pv 6)) (a9 (pv 3) rfl)) ae (by rfl)) (by rfl)) (by rfl)) (by rfl)) (by rfl)) (by rfl)) (by decide) (by rfl) (by rfl)) (by rfl))) (ak (@cj _ _ _ _ (@aj _ _ _ _ _ _ _ _ _ _ _ _ _ T.add_moved G_add_moved (hr.mono (by decide)) (by rfl) (@aa _ _ _ _ _ (pv 0) (@aa _ _ _ _ _ (pv 1) (@aa _ _ _ _ _ (pv 2) (@aa _ _ _ _ _ (pv 3) (@aa _ _ _ _ _ (aq b0 (pv 5) (a9 (pv 3) rfl)) (@aa _ _ _ _ _ (d8 cL (pv 6)) ae (by rfl)) (by rfl)) (by rfl)) (by rfl)) (by rfl)) (by rfl)) (by decide) (by rfl) (by rfl)) (by rfl))))))) (by intro _;rfl)))),?_⟩
 try dsimp only[bh]
 refine⟨_,inferInstance,?_⟩
 rintro vs M q ⟨r,dr,rl,rp,o,ds,ol,op,p,s,f,len,foot,a,b,P,Q,B,C,Z,D,rfl,hr0,ho0,hp,s0,s8,len1,F,rowP,rowQ,dis,wa,wb',z0,z1,d0,d1,hB,hC,hBC,hC9,hPQ,k⟩
 have p0:0<p:=by lia
 have fR1: [(("lamps" :Str),wr rl),(("parts" :Str),wr rp)].lookup ("lamps" :Str)=some (wr rl):=rfl
 have fS3: [(("lamps" :Str),wr ol),(("parts" :Str),wr op),(("first" :Str),wi f),(("length" :Str),wi len),(("foot" :Str),wi foot)].lookup ("first" :Str)=some (wi f):=rfl
 have fS4: [(("lamps" :Str),wr ol),(("parts" :Str),wr op),(("first" :Str),wi f),(("length" :Str),wi len),(("foot" :Str),wi foot)].lookup ("length" :Str)=some (wi len):=rfl
 have fS5: [(("lamps" :Str),wr ol),(("parts" :Str),wr op),(("first" :Str),wi f),(("length" :Str),wi len),(("foot" :Str),wi foot)].lookup ("foot" :Str)=some (wi foot):=rfl
 have hla:=wa.len rowP.ga z0
 have hpl:(plc a).length<=100000:=by unfold plc;rw[List.length_map];lia
 have hlam:=rowP.lam
 dsimp? [hr0,clR,nR1,fR1]
 refine⟨rl,kvW a,rfl,hlam,fun u hu=> ?_⟩
 rw[jU]
 have nou:o≠u:=aZ ho0 hu
 dsimp? [ag nou,ho0,clS,nS3,fS3]
 refine⟨u,plc a,s,f,rfl,ab,hpl,s0,by lia,fun v ms hv hperm hsort=> ?_⟩
 have nov:o≠v:=aZ (by rw[ag nou];exact ho0) hv
 dsimp? [ag nou,ag nov,ho0,clS,nS4,fS4]
 have hpa: ∀x∈plc a, -Z<=x /\ x<=Z:=fun x hx=>by
   obtain⟨z,hz,rfl⟩:=List.mem_map.mp hx
   exact wa z.1 (by rw[cC rowP.ga.1 hz];have:=rowP.ga.2 z hz;lia)
 have hms: ∀m∈ms, ∃x, -Z<=x /\ x<=Z /\ m=hI s x:=fun m hm=>by
   obtain⟨x,hx,e⟩:=List.mem_map.mp (hperm.mem_iff.mp hm)
   have:=hpa x (List.mem_filter.mp hx).1
   exact⟨x,this.1,this.2,e.symm⟩
 have hmb: ∀m∈ms, -Z - 1<=m /\ m<=Z:=fun m hm=>by
   obtain⟨x,h1,h2,rfl⟩:=hms m hm
   exact hI_bd (f:=f) s0 s8 ⟨h1,h2⟩ z0
 have hml:ms.length<=(2*Z+1).toNat:=by
   rw[hperm.length_eq]
   refine Nat.le_trans ?_ (Nat.le_trans (Nat.le_of_eq (List.length_map (as:=a) (fun z=>z.1))) hla)
   unfold hts
   rw[List.length_map]
   exact List.length_filter_le _ _
 refine⟨v,ms,len,rfl,ab,F.l0,by lia,by lia,fun x hx=>by have:=hmb x hx;lia,fun t M1 sm hM1=> ?_⟩
 obtain⟨HS,hcov⟩:=wH F.l0 hsort (hperm.nodup_iff.mpr (ph rowP.ga.1 s0))
 have hlen:(thl ms len).length<=(2*Z+2).toNat:=Nat.le_trans (uh F.l0 z0 hmb hml) (by lia)
 have hbd:=fun h (hh:h∈thl ms len)=>wJ F.l0 hh
 have hz0:s=0 -> ∀h∈thl ms len,h=0:=fun e h hh=>by
   have l0:=F.s0 e
   have e2:thl ms len=ms:=if_pos (.inl l0)
   rw[e2] at hh
   obtain⟨x,_,_,rfl⟩:=hms h hh
   unfold hI;rw[if_pos e]
 obtain⟨hs,ehs⟩: ∃hs,hs=thl ms len:=⟨_,rfl⟩
 rw[<- ehs] at hM1 HS hcov hlen hbd hz0
 dsimp? [hM1]
 have sm0:Sm M M1:=((aF hu).trans (aF hv)).trans sm
 refine cZ (fun i ρ M'=> ∃ (o5 o6:Option W) (c:Pt) (P':Pq) (js:List (Int×Int)),ρ= [some (wi p),some (wi s),some (wr r),some (wr o),some (wr v),o5,o6] /\ M' t=some (.lst (hs.map wi)) /\ RowAt p M' rl rp c P' /\ CutSt s p f len b a hs i c js /\
   (∀w x,look (pf P' w) x=(look (pf P w) x+cop (fun sh=>look (pf Q w) (x - sh)) js) % p) /\ (s=0 -> ∀j∈js,j.1=0) /\ Wt (Z+D+s) c /\ dJ M M' (av rl rp P) /\ (∀x∈av rl rp P',x∈av rl rp P \/ M x=none) /\ (∀x∈av rl rp P,x∈av rl rp P') /\
   (∀t∈P',t.2.2.length<=B+i*C) /\ (∀w∈P'.map (·.1),w∈P.map (·.1) \/ w∈Q.map (·.1)) /\ look c=mK s p f len foot b (hs.take i) (look a) /\ (∀j∈js, -Z - 1<=j.1 /\ j.1<=Z))
   ⟨none,none,a,P,[],rfl,hM1,rowP.keep (dJ.sm sm0 []) (fun d _ h=>by cases h),⟨fun x=> ?i1,fun j g hj _=>absurd hj (Nat.not_lt_zero j),fun x hx hne=> ?i2,fun x _=>rfl⟩,fun w x=> ?i3,(fun _ j hj=>by cases hj),fun x hx=> ?i4,dJ.sm sm0 _,fun x hx=> .inl hx,fun x hx=>hx,fun t ht=>Nat.le_trans (hB t ht) (Nat.le_add_right _ _),fun w hw=> .inl hw,rfl,(fun j h=>by cases h)⟩ ?_ ?_ ?_
 case i1=>show _=(look a x+0) % p;rw[Int.add_zero,aU p0 rowP.ga]
 case i2=>
   refine hcov _ (hperm.mem_iff.mpr (List.mem_map.mpr ⟨x,List.mem_filter.mpr ⟨?_,by simpa using hx⟩,rfl⟩))
   exact bJ hne
 case i3=>show _=(look (pf P w) x+0) % p;rw[Int.add_zero,aU p0 (rowP.pfGD w)]
 case i4=>have:=wa x hx;lia
 · rintro i ρ M' _ ⟨o5,o6,c,P',js,rfl,h2,_⟩
   exact h2
 · rintro i x ρ M' hx ⟨o5,o6,c,P',js,rfl,h2,row,cst,hpf,hj0,wc,kp,fr,hsub,hin,hky,hct,hjr⟩ N hN
   obtain⟨h,hz,rfl⟩: ∃h,hs[i]? =some h /\ x=wi h:=by
     rw[List.getElem?_map] at hx
     cases e:hs[i]? with
     | none=>rw[e] at hx;cases hx
     | some q=>rw[e] at hx;cases hx;exact⟨q,rfl,rfl⟩
   have hm:=List.mem_of_getElem? hz
   have hil:=(List.getElem?_eq_some_iff.mp hz).1
   have notP: ∀ {x C' d' fs'},M x=some (.ins C' d' fs') ->x∉av rl rp P:=fun {x C' d' fs'} e hx=>by obtain⟨kvs,e2⟩:=rowP.mem hx;rw[e] at e2;cases e2
   have hr2:=kp r _ hr0 (notP hr0)
   have ho2:=kp o _ ho0 (notP ho0)
   have hlm:=row.lam
   have hh1: -10000<h /\ h<10000:=by
     rcases Int.lt_or_le h 0 with z | z
     · obtain⟨m,h3,h4⟩:=(hbd h hm).1 z;have:=hmb m h3;lia
     · obtain⟨m,h3,h4⟩:=(hbd h hm).2 z;have:=hmb m h3;lia
   have cm:bF h s=True:=eq_true (.inr ⟨by lia,by lia⟩)
   dsimp? [hr2,ho2,clR,clS,nR1,nS3,nS4,nS5,fR1,fS3,fS4,fS5,hlm,cm,gA]
   refine a4 (fun e0=>hN _ _ ⟨_,_,c,P',js,rfl,h2,row,cst.skip hz e0,hpf,hj0,wc,kp,fr,hsub,fun t ht=>Nat.le_trans (hin t ht) (Nat.add_le_add_left (Nat.mul_le_mul_right _ (Nat.le_succ i)) _),hky,by rw[jd hz, <- hct];exact(if_pos e0).symm,hjr⟩) fun e0=> ?_
   have hl:=row.ga.range p0 (f+h*s)
   have hft:=F.ft
   have hnz1:NZ p (-look c (f+h*s)):=nM hp fun e=>e0 (by
     have:=Int.emod_emod_of_dvd (-look c (f+h*s)) (Int.dvd_refl p)
     have h3:(-look c (f+h*s)) % p=0:=e
     have:=Int.dvd_of_emod_eq_zero h3
     have h4:=Int.dvd_neg.mp this
     have h5:=Int.emod_eq_zero_of_dvd h4
     rw[Int.emod_eq_of_lt hl.1 hl.2] at h5;exact h5)
   have hnz2:NZ p (-look c (f+h*s)*foot):=nM hp fun e=>hnz1 foot hft.1 hft.2 (by rw[Int.mul_comm];exact e)
   have rowQ':=rowQ.keep kp fun d hd hd'=>dis d hd' hd
   have dis': ∀x∈av rl rp P',x∉av ol op Q:=fun x hx hx'=>by
     rcases fr x hx with z | z
     · exact dis x z hx'
     · obtain⟨kvs,e⟩:=rowQ.mem hx'
       rw[z] at e;cases e
   have hcl:=wc.len row.ga (by lia)
   have hbl:=wb'.len rowQ.ga d0
   have hkl:=sA row.ndk hky
   have hBi:B+i*C+C<=B+(2*Z+2).toNat*C:=by
     have:=Nat.mul_le_mul_right C (show i+1<=(2*Z+2).toNat by lia)
     rw[Nat.add_mul,Nat.one_mul] at this;lia
   have shb: -(Z+s) <=s*shI len h /\ s*shI len h<=Z+s:=by
     rcases Int.lt_or_eq_of_le s0 with z | z
     · unfold shI
       split
       · rename_i hneg
         obtain⟨m,h3,h4⟩:=(hbd h hm).1 hneg
         obtain⟨x,h5,h6,rfl⟩:=hms m h3
         have h7:=sQ (x:=x) z
         have h8:=Int.mul_le_mul_of_nonneg_left h4 s0
         have h9:s*h<=0:=Int.mul_nonpos_of_nonneg_of_nonpos s0 (by lia)
         lia
       · rename_i hneg
         obtain⟨m,h3,h4⟩:=(hbd h hm).2 (by lia)
         obtain⟨x,h5,h6,rfl⟩:=hms m h3
         have h7:=sQ (x:=x) z
         have h8:=Int.mul_le_mul_of_nonneg_left h4 s0
         have hol:=HS.out h hm
         have h9:0<=s*(h - len):=Int.mul_nonneg s0 (by lia)
         have h10:s*(h - len) <=s*h:=Int.mul_le_mul_of_nonneg_left (by have:=F.l0;lia) s0
         lia
     · rw[<- z,Int.zero_mul];lia
   have fin: ∀n,(n=if h<0 then -(look c (f+h*s))*foot else -(look c (f+h*s))) ->NZ p n ->vM A.c_Row A.c_Stair [wi p,wi s,wr r,wr o,wi (shI len h),wi n] M' fun _ M2=>N [some (wi p),some (wi s),some (wr r),some (wr o),some (wr v),some (wi h),some (wi (look c (f+h*s)))] M2:=fun n hn nz=>by
     refine⟨r,dr,rl,rp,o,ol,op,p,s,shI len h,n,c,b,P',Q,B+i*C,C,rfl,hr2, .inr ⟨_,_,_,_,ho2⟩,p0,by lia,s0,by lia,nz,row,rowQ',dis',by lia,by lia,hin,hC,by lia,fun M2 c' P2 row2 ec ep kp2 fr2 sub2 _ _ hin2 hky2=>hN _ _ ⟨_,_,c',P2,(shI len h,n)::js,rfl,?_,row2,cst.step F HS s0 p0 hz0 row.ga row2.ga hz hn ec,fun w x=> ?_,fun e j hj=> ?_,fun x hx=> ?_,kp.trans kp2 fr,fun x hx=> ?_,fun x hx=>sub2 x (hsub x hx),fun t ht=> ?_,fun w hw=> ?_,?_,fun j hj=> ?_⟩⟩
     · exact kp2 t _ h2 fun hx=>by obtain⟨kvs,e⟩:=row.mem hx;rw[h2] at e;cases e
     · rw[ep,hpf,Int.emod_add_emod,bp,Int.add_assoc,Int.add_comm (cop _ js)]
     · rcases List.mem_cons.mp hj with rfl | hj
       · have e1:=hz0 e h hm
         have e2:=F.s0 e
         show shI len h=0
         rw[e1,e2];rfl
       · exact hj0 e j hj
     · rw[ec] at hx
       by_cases hc:look c x=0
       · have hb:look b (x - s*shI len h)≠0:=fun e=>hx (by rw[hc,e,Int.zero_mul];rfl)
         have:=wb' _ hb
         lia
       · exact wc x hc
     · rcases fr2 x hx with z | z
       · exact fr x z
       · cases e:M x with
         | none=>exact .inr rfl
         | some u=>
           by_cases hx':x∈av rl rp P
           · exact .inl hx'
           · rw[kp x _ e hx'] at z;cases z
     · have:=hin2 t ht
       rw[Nat.add_mul,Nat.one_mul];lia
     · rcases hky2 w hw with z | z
       · exact hky w z
       · exact .inr z
     · rw[jd hz, <- hct]
       unfold qH
       rw[if_neg e0, <- hn]
       exact funext ec
     · rcases List.mem_cons.mp hj with rfl | hj
       · show -Z - 1<=shI len h /\ shI len h<=Z
         have l0:=F.l0
         unfold shI
         split
         · rename_i hneg
           obtain⟨m,h3,h4⟩:=(hbd h hm).1 hneg
           have:=hmb m h3;lia
         · rename_i hneg
           obtain⟨m,h3,h4⟩:=(hbd h hm).2 (by lia)
           have:=hmb m h3
           have:=HS.out h hm;lia
       · exact hjr j hj
   dsimp? []
   refine a4 (fun hneg=> ?_) fun hneg=> ?_
   · have cm2:bF (-look c (f+h*s)) foot=True:=eq_true (.inr ⟨by lia,by lia⟩)
     dsimp? [ho2,clS,nS5,fS5,cm2]
     have:=fin _ rfl (by rw[if_pos hneg];exact hnz2)
     rw[if_pos hneg,show shI len h=h from if_pos hneg] at this
     exact this
   · dsimp? [ho2,clS,nS4,fS4]
     have:=fin _ rfl (by rw[if_neg hneg];exact hnz1)
     rw[if_neg hneg,show shI len h=h - len from if_neg hneg] at this
     exact this
 · rintro ρ M' ⟨o5,o6,c,P',js,rfl,h2,row,cst,hpf,hj0,wc,kp,fr,hsub,hin,hky,hct,hjr⟩
   rw[List.length_map] at cst hin hct
   rw[List.take_length] at hct
   exact exM (k M' c P' js row cst.rel hpf hj0 (cst.low s0) cst.lowc wc kp fr hsub (fun t ht=>Nat.le_trans (hin t ht) (Nat.add_le_add_left (Nat.mul_le_mul_right _ (by lia)) _)) hky ⟨ms,hperm,hsort,by rw[hct,ehs]⟩ hjr)
end
end K20
open PySem L2 WL WP WQ EN PyProof.Rows
namespace K20
open PySem L2 WL WP WQ EN PyProof.Rows
section
variable {P:Program}{w:World}{K:PySem.W.Frag}{mg:Str ->Option Value}{base:Heap}{A:Adr}
theorem l9 (T:Txt K mg A):FnOk P w K mg base CX0 1 A.f_inverse A.d_inverse ["p","setting"] (spW K rN):=by
 refine okS T.inverse.fn gM (by rintro vs M q ⟨p,s,rfl,_⟩;rfl) fun cdv A' outer s H E hr=> ?_
 have nd:=gM.nd
 refine⟨_,(ah (@aB _ _ (2) _ _ _ _ nd rfl (by first | exact Or.inl rfl | exact Or.inr rfl) af (by rfl) (by first | exact .inl rfl | exact .inr rfl | assumption)) (ah (@bR _ _ _ _ _ _ _ _ PassesOwn.never rfl (@cW _ _ _ _ _ _ (by rfl) T.b_range (@aa _ _ _ _ _ (aq b0 (pv 0) af) ae (by rfl)) (by rfl)) (@ax _ _ (3) _ nd rfl (by first | exact Or.inl rfl | exact Or.inr rfl) (by first | exact .inl rfl | exact .inr rfl | assumption)) (ak (@aB _ _ (2) _ _ _ _ nd rfl (by first | exact Or.inl rfl | exact Or.inr rfl) (aq bS (aq bf (pv 2) (pv 1)) (pv 0)) (by rfl) (by first | exact .inl rfl | exact .inr rfl | assumption))) (by intro _;rfl)) (ak (az (pv 2))))),?_⟩
 try dsimp only[bh]
 refine⟨_,inferInstance,?_⟩
 rintro vs M q ⟨p,s,rfl,hp,s0,s1,k⟩
 have hp0:(0<p)=True:=eq_true (by omega)
 have cm: ∀x,bF x s=True:=fun x=>eq_true (.inr ⟨by omega,by omega⟩)
 simp? [↓aR]
 refine cP ?_; simp? [↓aR]
 refine⟨⟨by omega,by omega⟩,cZ (fun i ρ M'=> ∃o:Option W,ρ= [some (wi p),some (wi s),some (wi (pw p s i)),o] /\ M'=M) ⟨none,rfl,rfl⟩ (fun _ _ _ _ _=>trivial) ?_ ?_⟩
 · rintro i x ρ M' hx ⟨o,rfl,rfl⟩ N hN
   obtain⟨hi,rfl⟩:=cU hx
   simp? [↓aR,cm,hp0]
   exact hN _ _ ⟨_,rfl,rfl⟩
 · rintro ρ M' ⟨o,rfl,rfl⟩
   rw[cT]
   dsimp only
   refine cP ?_; simp? [↓aR]
   obtain⟨h1,h2,h3⟩:=wQ p s hp s0 s1
   exact exM (k _ h1 h2 h3)
theorem rT (T:Txt K mg A):FnOk P w K mg base CX0 4 A.f_stood A.d_stood ["p","stride","row"] (spW K (xa A.c_Row A.c_Stair)):=by
 have G_add_moved:=fi (P:=P) (w:=w) (base:=base) T
 have G_first_column:=gq (P:=P) (w:=w) (base:=base) T
 have G_heights:=gY (P:=P) (w:=w) (base:=base) T
 have G_inverse:=l9 (P:=P) (w:=w) (base:=base) T
 have G_Row:=rY (P:=P) (w:=w) (base:=base) T
 have G_Stair:=rX (P:=P) (w:=w) (base:=base) T
 have clR:=eq_true T.Row.cl
 have nR1:=eq_true T.n_Row_lamps
 refine okS T.stood.fn kE (by rintro vs M q ⟨r,dr,rl,rp,p,s,a,P,B,D,rfl,_⟩;rfl) fun cdv A' outer s H E hr=> ?_
 have nd:=kE.nd
 refine⟨_,(ah (@aB _ _ (3) _ _ _ _ nd rfl (by first | exact Or.inl rfl | exact Or.inr rfl) (@aj _ _ _ _ _ _ _ _ _ _ _ _ _ T.first_column G_first_column (hr.mono (by decide)) (by rfl) (@aa _ _ _ _ _ (@aY _ _ _ _ _ _ _ _ _ (eQ rfl) (by rfl) T.b_list Boot.«list» (@aa _ _ _ _ _ (a9 (pv 2) rfl) ae (by rfl)) (by decide) (by decide) (by rfl) (by rfl)) (@aa _ _ _ _ _ (pv 1) ae (by rfl)) (by rfl)) (by decide) (by rfl) (by rfl)) (by rfl) (by first | exact .inl rfl | exact .inr rfl | assumption)) (ah (@aB _ _ (4) _ _ _ _ nd rfl (by first | exact Or.inl rfl | exact Or.inr rfl) (@aj _ _ _ _ _ _ _ _ _ _ _ _ _ T.heights G_heights (hr.mono (by decide)) (by rfl) (@aa _ _ _ _ _ (@aY _ _ _ _ _ _ _ _ _ (eQ rfl) (by rfl) T.b_list Boot.«list» (@aa _ _ _ _ _ (a9 (pv 2) rfl) ae (by rfl)) (by decide) (by decide) (by rfl) (by rfl)) (@aa _ _ _ _ _ (pv 1) (@aa _ _ _ _ _ (pv 3) ae (by rfl)) (by rfl)) (by rfl)) (by decide) (by rfl) (by rfl)) (by rfl) (by first | exact .inl rfl | exact .inr rfl | assumption)) (ah (@aB _ _ (5) _ _ _ _ nd rfl (by first | exact Or.inl rfl | exact Or.inr rfl) (@aj _ _ _ _ _ _ _ _ _ _ _ _ _ T.inverse G_inverse (hr.mono (by decide)) (by rfl) (@aa _ _ _ _ _ (pv 0) (@aa _ _ _ _ _ (cn (cc hr) (a9 (pv 2) rfl) (aq a5 (pv 3) (aq bf (a0 aS (pv 4) (d8 cL af) (fun _ _=>rfl)) (pv 1))) (fun _ _=>rfl)) ae (by rfl)) (by rfl)) (by decide) (by rfl) (by rfl)) (by rfl) (by first | exact .inl rfl | exact .inr rfl | assumption)) (ah (@aB _ _ (6) _ _ _ _ nd rfl (by first | exact Or.inl rfl | exact Or.inr rfl) (@ff _ _ _ _ _ _ _ _ _ _ _ _ _ _ _ T.Row G_Row (hr.mono (by decide)) (by rfl) (@aa _ _ _ _ _ cX (@aa _ _ _ _ _ cX ae (by rfl)) (by rfl)) (by decide) (by rfl) (by rfl)) (by rfl) (by first | exact .inl rfl | exact .inr rfl | assumption)) (ah (@cj _ _ _ _ (@aj _ _ _ _ _ _ _ _ _ _ _ _ _ T.add_moved G_add_moved (hr.mono (by decide)) (by rfl) (@aa _ _ _ _ _ (pv 0) (@aa _ _ _ _ _ (pv 1) (@aa _ _ _ _ _ (pv 6) (@aa _ _ _ _ _ (pv 2) (@aa _ _ _ _ _ (d8 cL (a0 aS (pv 4) af (fun _ _=>rfl))) (@aa _ _ _ _ _ (pv 5) ae (by rfl)) (by rfl)) (by rfl)) (by rfl)) (by rfl)) (by rfl)) (by decide) (by rfl) (by rfl)) (by rfl)) (ak (az (@ff _ _ _ _ _ _ _ _ _ _ _ _ _ _ _ T.Stair G_Stair (hr.mono (by decide)) (by rfl) (@aa _ _ _ _ _ (pv 6) (@aa _ _ _ _ _ (pv 3) (@aa _ _ _ _ _ (aq b0 (a0 aS (pv 4) (d8 cL af) (fun _ _=>rfl)) (a0 aS (pv 4) af (fun _ _=>rfl))) (@aa _ _ _ _ _ (@aj _ _ _ _ _ _ _ _ _ _ _ _ _ T.inverse G_inverse (hr.mono (by decide)) (by rfl) (@aa _ _ _ _ _ (pv 0) (@aa _ _ _ _ _ (cn (cc hr) (a9 (pv 6) rfl) (pv 3) (fun _ _=>rfl)) ae (by rfl)) (by rfl)) (by decide) (by rfl) (by rfl)) ae (by rfl)) (by rfl)) (by rfl)) (by rfl)) (by decide) (by rfl) (by rfl))))))))),?_⟩
 try dsimp only[bh]
 refine⟨_,inferInstance,?_⟩
 rintro vs M q ⟨r,dr,rl,rp,p,s,a,P,B,D,rfl,hr0,hp,s0,s8,rowP,hne,wa,d0,d1,hB,hBl,hPl,k⟩
 have p0:0<p:=by lia
 have fR1: [(("lamps" :Str),wr rl),(("parts" :Str),wr rp)].lookup ("lamps" :Str)=some (wr rl):=rfl
 have hla:=wa.len rowP.ga d0
 have hpl:(plc a).length<=100000:=by unfold plc;rw[List.length_map];lia
 have hlam:=rowP.lam
 dsimp? [hr0,clR,nR1,fR1]
 refine⟨rl,kvW a,rfl,hlam,fun u hu=> ?_⟩
 rw[jU]
 refine⟨u,plc a,s,rfl,ab,hpl,s0,by lia,fun e=>absurd (List.map_eq_nil_iff.mp e) hne,fun _=> ?_⟩
 have mm:=fun ms=>mn_of (s:=s) (a:=a) (ms:=ms) hne
 generalize eJ ((plc a).map (aA s))=f at mm ⊢
 have nru:r≠u:=aZ hr0 hu
 have nlu:rl≠u:=aZ hlam hu
 dsimp? [ag nru,ag nlu,hr0,clR,nR1,fR1]
 refine⟨rl,kvW a,rfl,by rw[ag nlu];exact hlam,fun u2 hu2=> ?_⟩
 rw[jU]
 refine⟨u2,plc a,s,f,rfl,ab,hpl,s0,by lia,fun v ms hv hperm hsort=> ?_⟩
 obtain⟨hms,mn⟩:=mm ms hperm hsort
 have h1:atI (ms.map wi) (-1)=some (wi (ms.getLastD 0)):=fZ hms
 have h0:atI (ms.map wi) 0=some (wi (ms.headD 0)):=by
   cases ms with
   | nil=>exact absurd rfl hms
   | cons a r=>exact tJ
 generalize ms.getLastD 0=tp at mn h1
 generalize ms.headD 0=m at mn h0
 have sm1:Sm M (um (um (um M u (.lst ((plc a).map wi))) u2 (.lst ((plc a).map wi))) v (.lst (ms.map wi))):=((aF hu).trans (aF hu2)).trans (aF hv)
 have hv1:um (um (um M u (.lst ((plc a).map wi))) u2 (.lst ((plc a).map wi))) v (.lst (ms.map wi)) v=some (.lst (ms.map wi)):=ab
 generalize um (um (um M u (.lst ((plc a).map wi))) u2 (.lst ((plc a).map wi))) v (.lst (ms.map wi))=M1 at sm1 hv1 ⊢
 have hr1:=sm1 _ _ hr0
 have hlam1:=sm1 _ _ hlam
 have cm:bF tp s=True:=eq_true (.inr ⟨by lia,by lia⟩)
 have htop:=tI s0 mn.hi
 have hval:=gF (m:=a) htop.1
 have hlit:=de rowP.ga htop.1
 dsimp? [hv1,h1,hr1,clR,nR1,fR1,hlam1,cm,hval]
 refine⟨p,_,rfl,hp,hlit.1,hlit.2,fun tn tn0 tn1 htn=> ?_⟩
 dsimp? []
 intro e1 he1 e2 he2 x dx hx hdx hdxx
 refine⟨x,dx,wr e1,wr e2,rfl,ab,rfl,?_⟩
 have sm2:Sm M1 (um (um (um M1 e1 (.dK [])) e2 (.dK [])) x (.ins A.c_Row dx [("lamps",wr e1),("parts",wr e2)])):=((aF he1).trans (aF he2)).trans (aF hx)
 dsimp? []
 have hx2:um (um (um M1 e1 (.dK [])) e2 (.dK [])) x (.ins A.c_Row dx [("lamps",wr e1),("parts",wr e2)]) x=some (.ins A.c_Row dx [("lamps",wr e1),("parts",wr e2)]):=ab
 have n12:e1≠e2:=aZ ab he2
 have n1x:e1≠x:=aZ (by rw[ag n12];exact ab) hx
 have n2x:e2≠x:=aZ ab hx
 have hf1:M1 e2=none:=by rw[ag (Ne.symm n12)] at he2;exact he2
 have hf2:M1 x=none:=by rw[ag (Ne.symm n2x),ag (Ne.symm n1x)] at hx;exact hx
 have row0:RowAt p (um (um (um M1 e1 (.dK [])) e2 (.dK [])) x (.ins A.c_Row dx [("lamps",wr e1),("parts",wr e2)])) e1 e2 [] []:=
   ⟨by rw[ag n1x,ag n12];exact ab,by rw[ag n2x];exact ab,(fun t ht=>by cases ht),GD.nil,(fun t ht=>by cases ht),List.nodup_nil,by simp[av,n12]⟩
 generalize um (um (um M1 e1 (.dK [])) e2 (.dK [])) x (.ins A.c_Row dx [("lamps",wr e1),("parts",wr e2)])=M2 at sm2 hx2 row0 ⊢
 have hv2:=sm2 _ _ hv1
 have hr2:=sm2 _ _ hr1
 have fr2: ∀d,d∈x::av e1 e2 [] ->M1 d=none:=fun d hd=>by
   simp only[av,List.mem_cons,List.map_nil,List.not_mem_nil,or_false] at hd
   rcases hd with rfl | rfl | rfl
   · exact hf2
   · exact he1
   · exact hf1
 have frM: ∀d,M1 d=none ->M d=none:=fun d hd=>by
   cases e:M d with
   | none=>rfl
   | some o=>rw[sm1 _ _ e] at hd;cases hd
 have rowP2:RowAt p M2 rl rp a P:=rowP.keep (dJ.sm (sm1.trans sm2) []) (fun d _ h=>by cases h)
 have nz:NZ p tn:=nM hp (by rw[Int.emod_eq_of_lt (by lia) tn1];lia)
 dsimp? [hv2,h0]
 refine⟨x,dx,e1,e2,r,rl,rp,p,s, -m,tn,[],a,[],P,0,B,rfl,hx2, .inl ⟨_,hr2⟩,p0,by lia,s0,by lia,nz,row0,rowP2,?_,by show 0+a.length<=_;lia,by show 0+P.length<=_;lia,(fun t ht=>by cases ht),hB,by lia,fun M3 b Q row3 eb eq kp3 fr3 sub3 hbl _ hin3 hky3=> ?_⟩
 · intro d hd hd'
   obtain⟨kvs,e⟩:=rowP.mem hd'
   rw[frM d (fr2 d (List.mem_cons_of_mem _ hd))] at e;cases e
 have eb': ∀x,look b x=look a (x+s*m)*tn % p:=fun x=>by
   rw[eb];show(0+_) % p=_
   rw[Int.zero_add,Int.mul_neg,Int.sub_neg]
 have hft:=lT s0 p0 rowP.ga mn nz eb'
 have hvalb:=gF (m:=b) (bJ (m:=b) (x:=f) (by lia))
 have nvr: ∀ {d kvs},M2 d=some (.lst kvs) ->d∉av e1 e2 []:=fun {d kvs} e hd=>by obtain⟨kvs,e2⟩:=row0.mem hd;rw[e] at e2;cases e2
 have nir: ∀ {d C' d' fs'},M2 d=some (.ins C' d' fs') ->d∉av e1 e2 []:=fun {d C' d' fs'} e hd=>by obtain⟨kvs,e2⟩:=row0.mem hd;rw[e] at e2;cases e2
 have hv3:=kp3 _ _ hv2 (nvr hv2)
 have hx3:=kp3 _ _ hx2 (nir hx2)
 have hlam3:=row3.lam
 have fX1: [(("lamps" :Str),wr e1),(("parts" :Str),wr e2)].lookup ("lamps" :Str)=some (wr e1):=rfl
 dsimp? []
 rw[jq]
 dsimp? [hv3,h0,h1,hx3,clR,nR1,fX1,hlam3,hvalb]
 refine⟨p,_,rfl,hp,hft.1,hft.2,fun foot f0 f1 hfo=> ?_⟩
 dsimp? []
 intro o ds ho hds hdo
 have nxo:x≠o:=aZ hx3 ho
 refine⟨o,ds,x,dx,wr e1,wr e2,wi f,wi (tp - m),wi foot,rfl,Ne.symm nxo,ab,by rw[ag nxo];exact hx3,rfl,exM ?_⟩
 have frM2: ∀d,M2 d=none ->M d=none:=fun d hd=>by
   cases e:M d with
   | none=>rfl
   | some o=>rw[sm2 _ _ (sm1 _ _ e)] at hd;cases hd
 have sm3:Sm M M3:=fun d u e=>kp3 _ _ (sm2 _ _ (sm1 _ _ e)) fun hd=>by rw[frM d (fr2 d (List.mem_cons_of_mem _ hd))] at e;cases e
 have frM3: ∀d,M3 d=none ->M d=none:=fun d hd=>by
   cases e:M d with
   | none=>rfl
   | some o=>rw[sm3 _ _ e] at hd;cases hd
 refine k _ o ds e1 e2 b Q f m tp foot tn ab (row3.same fun d hd=> ?_) (oE (by lia) s0 rowP.ga mn htn eb' hfo f0 f1) mn tn0 tn1 htn eb' (fun w x=> ?_) (fun d u e=> ?_) (fun d hd=> ?_) (fun t ht=>Nat.le_trans (hin3 t ht) (by lia)) fun w hw=>(hky3 w hw).elim (fun z=>by cases z) id
 · have hdo:d≠o:=fun z=>by obtain⟨kvs,e⟩:=row3.mem hd;rw[z,ho] at e;cases e
   rw[ag hdo,ag hdo]
 · rw[eq];show(0+_) % p=_
   rw[Int.zero_add,Int.sub_neg]
 · have hdo:d≠o:=fun z=>by rw[z,frM3 o ho] at e;cases e
   rw[ag hdo,ag hdo];exact sm3 _ _ e
 · rcases List.mem_cons.mp hd with rfl | hd
   · exact frM3 _ ho
   · rcases fr3 d hd with z | z
     · exact frM d (fr2 d (List.mem_cons_of_mem _ z))
     · exact frM2 d z
end
end K20
open PySem L2 WL WP WQ EN PyProof.Rows
namespace K20
open PySem L2 WL WP WQ EN PyProof.Rows
section
variable {P:Program}{w:World}{K:PySem.W.Frag}{mg:Str ->Option Value}{base:Heap}{A:Adr}
theorem iK (T:Txt K mg A):FnOk P w K mg base CX0 1 A.f_told_parts A.d_told_parts ["p","parts","n"] (spW K pTold):=by
 refine okS T.told_parts.fn d5 (by rintro vs M q ⟨rl,rp,p,n,a,P,B,rfl,_⟩;rfl) fun cdv A' outer s H E hr=> ?_
 have nd:=d5.nd
 refine⟨_,(ak (az (@rJ _ _ _ _ _ _ _ _ _ _ _ _ (1) _ _ _ _ _ _ _ _ rfl (CScope.of (sc:=ai cg) (N:= ["p","parts","n"]) (own:= ["which","shift"]) (fr:= [0,2,1]) (N':= ["which","shift","p","n","parts"]) rfl rfl rfl (by decide+kernel) rfl (by decide+kernel) (by decide+kernel) (by decide+kernel) (by decide+kernel) (by decide+kernel)) (bu (@aM _ _ _ _ _ _ _ _ _ (cq rfl) (by rfl) T.b_sorted Boot.«sorted» (@aa _ _ _ _ _ (pv 1) ae (by rfl)) (by decide) (by decide) (by rfl) (by rfl))) (fun _ _ _ _=>(@ax _ _ (0) _ (by show(["which","shift","p","n","parts"]:List Str).Nodup;decide+kernel) rfl (by first | exact Or.inl rfl | exact Or.inr rfl) (by first | exact .inl rfl | exact .inr rfl | assumption))) (by decide) (lh (by show _<_;decide)) (fun _ _ _ _=>c7) (fun _ _ _ _=>(@rD _ _ _ _ (K) rfl (@aM _ _ _ _ _ _ _ _ _ (cq rfl) (by rfl) T.b_sorted Boot.«sorted» (@aa _ _ _ _ _ (cn (cc hr) (pv 4) (pv 0) (fun _ _=>rfl)) ae (by rfl)) (by decide) (by decide) (by rfl) (by rfl)))) (fun _ _ _ _=>(@ax _ _ (1) _ (by show(["which","shift","p","n","parts"]:List Str).Nodup;decide+kernel) rfl (by first | exact Or.inl rfl | exact Or.inr rfl) (by first | exact .inl rfl | exact .inr rfl | assumption))) (lh (by show _<=_ /\ _<_;decide)) (fun _ _ _ _=>c7) (fun _ _ _ _=>(bZ (@aa _ _ _ _ _ (pv 0) (@aa _ _ _ _ _ (pv 1) (@aa _ _ _ _ _ (aq bS (aq bf (cn (cc hr) (cn (cc hr) (pv 4) (pv 0) (fun _ _=>rfl)) (pv 1) (fun _ _=>rfl)) (pv 3)) (pv 2)) ae (by rfl)) (by rfl)) (by rfl)))) (by intro _;rfl) (by intro _ _ _ _ _;rfl)))),?_⟩
 try dsimp only[bh]
 refine⟨_,inferInstance,?_⟩
 rintro vs M q ⟨rl,rp,p,n,a,P,B,rfl,p0,p1,n0,n1,row,hPl,hB,hB9,hPB,k⟩
 have hpar:=row.par
 dsimp? [hpar]
 refine⟨rp,pdW P,P.map (·.1),rfl,hpar,by unfold pdW;rw[List.map_map,List.map_map];rfl,big (by rw[List.length_map];lia),fun u ws hu hperm hsort=> ?_⟩
 dsimp? [ab]
 have hwl:ws.length=P.length:=by rw[hperm.length_eq,List.length_map]
 have smu:=aF (o:= .lst (ws.map wi)) hu
 refine mN (fun x:Int=>wi x) (fun w zs=> ∃shs:List Int,shs.Perm (plc (pf P w)) /\ zs=shs.map fun sh=>f7 (w,sh,look (pf P w) sh*n % p)) B (mQ (by rw[hwl];lia)) (fun p' M' h1 h2=>h2 u _ (aZ ab h1) ab) ?_ ?_
 · intro w hw p' M' ys hp' sm hys B' N0 hB'
   obtain⟨t,ht,rfl⟩:=List.mem_map.mp (hperm.mem_iff.mp hw)
   have hpf:pf P t.1=t.2.2:=l3 row.ndk ht
   have hM: ∀d o,M d=some o ->M' d=some o:=fun d o e=>sm d o (fun z=>by rw[z] at e;rw[smu _ _ e] at hp';cases hp') (smu _ _ e)
   have hpar1:=hM _ _ hpar
   have hin1:=hM _ _ (row.inn t ht)
   have hval:bD (pdW P) (Sum.inl t.1)=some (wr t.2.1):=by
     rw[mW]
     cases e:P.find? (fun u=>decide (u.1=t.1)) with
     | none=>exact absurd (List.find?_eq_none.mp e t ht) (by simp)
     | some u=>
       have h1:=find_some e
       have h2:u=t:=jQ row.ndk h1.1 ht h1.2
       rw[h2];rfl
   dsimp? [hpar1,hval,hin1]
   refine⟨t.2.1,kvW t.2.2,plc t.2.2,rfl,hin1,by unfold kvW plc;rw[List.map_map,List.map_map];rfl,big (by unfold plc;rw[List.length_map];have:=hB t ht;lia),fun v shs hv hperm2 hsort2=> ?_⟩
   dsimp? [ab]
   refine hB' _ _ shs (fun sh=>f7 (t.1,sh,look (pf P t.1) sh*n % p)) _ (SmB.sm (aF hv)) (by rw[ag (aZ hys hv)];exact hys) ⟨shs,by rw[hpf];exact hperm2,rfl⟩ ?_ (fun M5 h5=>h5 v _ (Ne.symm (aZ hys hv)) ab) ?_
   · rw[hperm2.length_eq];unfold plc;rw[List.length_map];exact hB t ht
   · intro sh hsh M5 sm5 N hN
     have np: ∀ {d o},M d=some o ->d≠p':=fun {d o} e z=>by rw[z] at e;rw[smu _ _ e] at hp';cases hp'
     have hM5: ∀d o,M d=some o ->M5 d=some o:=fun d o e=>sm5 d o (np e) (aF hv _ _ (hM d o e))
     have hpar5:=hM5 _ _ hpar
     have hin5:=hM5 _ _ (row.inn t ht)
     have hlit:=de (row.gp t ht) (hperm2.mem_iff.mp hsh)
     have hv5:=gF (m:=t.2.2) (hperm2.mem_iff.mp hsh)
     have cm:bF (look t.2.2 sh) n=True:=eq_true (.inr ⟨by lia,by lia⟩)
     dsimp? [hpar5,hval,hin5,hv5,cm,p0]
     rw[hpf] at hN
     exact hN
 · intro t M' yss ht sm hM' hlen hR
   obtain⟨tl,e,hp⟩:=oB row.ndk (fun w=>(row.pfGD w).1) hperm hlen hR
   have hMt:M t=none:=by
     cases e:M t with
     | none=>rfl
     | some o=>rw[smu _ _ e] at ht;cases ht
   exact exM (k t M' tl (fun d o e=>sm d o (fun z=>by rw[z,hMt] at e;cases e) (smu _ _ e)) hMt (by rw[hM',e]) hp)
end
end K20
open PySem L2 WL WP WQ EN PyProof.Rows
namespace K20
open PySem L2 WL WP WQ EN PyProof.Rows
section
variable {P:Program}{w:World}{K:PySem.W.Frag}{mg:Str ->Option Value}{base:Heap}{A:Adr}
theorem l8 (T:Txt K mg A):FnOk P w K mg base CX0 1 A.f_l_begin A.d_l_begin ["_law_script"] (nq K):=by
 refine T.l_begin.fn.ok gL (fun vs H Q E h=> ?_) (fun cdv A' outer s H vs Q E hr h=> ?_)
 · obtain⟨a,ns,rfl,_⟩:=h
   rfl
 · obtain⟨a,ns,rfl,hs,k⟩:=h
   have nd:=gL.nd
   refine⟨_,(ak (az (jM (@aa _ _ _ _ _ (@aY _ _ _ _ _ _ _ _ _ iG (by rfl) T.b_list Boot.«list» (@aa _ _ _ _ _ (rG uo (pv 0) uz (uy af)) ae (by rfl)) (by decide) (by decide) (by rfl) (by rfl)) (@aa _ _ _ _ _ af (@aa _ _ _ _ _ af (@aa _ _ _ _ _ af ae (by rfl)) (by rfl)) (by rfl)) (by rfl))))),?_⟩
   have ec: ∃ms:List Int,pC (ns.map V.int) none (some 63)=ms.map V.int:=by
     refine⟨(ns.drop (HT.sIx (ns.map V.int).length 0 none)).take (HT.sIx (ns.map V.int).length (ns.map V.int).length (some 63) - HT.sIx (ns.map V.int).length 0 none),?_⟩
     unfold pC
     rw[List.map_take,List.map_drop]
   obtain⟨ms,em⟩:=ec
   refine⟨_,rfl,_,rfl,_,_,rfl,hs,fun p hp=>⟨_,_,rfl, .inl (SqL.of aw),fun l hl=>⟨by show 4<=sizeLine;decide,fun d hd=> ?_⟩⟩⟩
   have hld:l≠d:=fun e=>by rw[e,aw] at hd;cases hd
   refine k d l ms _ hld.symm aw ?_
   rw[ar hld,aw,em]
theorem cY (T:Txt K mg A):FnOk P w K mg base CX0 1 A.f_l_take A.d_l_take ["_law_draw","_law_many"] (spW K pTake):=by
 refine okS T.l_take.fn iW (by rintro vs M q ⟨d,l,n,rfl,_⟩;rfl) fun cdv A' outer s H E hr=> ?_
 have nd:=iW.nd
 refine⟨_,(ah (bw (rh (aE i5 (a0 aS (pv 0) af (fun _ _=>rfl)) (pv 1) (@aH _ _ (by decide) (by decide))) (nE (aE i5 (a0 aS (pv 0) af (fun _ _=>rfl)) (@aM _ _ _ _ _ _ _ _ _ c0 (by rfl) T.b_len Boot.«len» (@aa _ _ _ _ _ (a0 aS (pv 0) af (fun _ _=>rfl)) ae (by rfl)) (by decide) (by decide) (by rfl) (by rfl)) (@aH _ _ (by decide) (by decide))))).pt (ah (@aB _ _ (2) _ _ _ _ nd rfl (by first | exact Or.inl rfl | exact Or.inr rfl) (a0 aS (a0 aS (pv 0) af (fun _ _=>rfl)) (a0 aS (pv 0) af (fun _ _=>rfl)) (fun _ _=>rfl)) (by rfl) (by first | exact .inl rfl | exact .inr rfl | assumption)) (ah (@fM _ _ _ _ _ _ (aq a5 (a0 aS (pv 0) af (fun _ _=>rfl)) af) (@fN _ _ _ _ _ _ _ (pv 0) af set_list (by intro _;rfl)) (by rfl) (by rfl) (by rfl)) (ah (@fM _ _ _ _ _ _ af (@fN _ _ _ _ _ _ _ (pv 0) af set_list (by intro _;rfl)) (by rfl) (by rfl) (by rfl)) (ak (bw (aE nL (@aM _ _ _ _ _ _ _ _ _ jf (by rfl) T.b_abs Boot.«abs» (@aa _ _ _ _ _ (pv 2) ae (by rfl)) (by decide) (by decide) (by rfl) (by rfl)) (aq xj af af) (@aH _ _ (by decide) (by decide))) (ak (@fM _ _ _ _ _ _ (@aM _ _ _ _ _ _ _ _ _ jf (by rfl) T.b_abs Boot.«abs» (@aa _ _ _ _ _ (pv 2) ae (by rfl)) (by decide) (by decide) (by rfl) (by rfl)) (@fN _ _ _ _ _ _ _ (pv 0) af set_list (by intro _;rfl)) (by rfl) (by rfl) (by rfl))) (ak (@fM _ _ _ _ _ _ (aq bS (aq a5 (aq a5 (aq bf (a0 aS (pv 0) af (fun _ _=>rfl)) af) (aq bf (aq bS (pv 2) af) af)) af) af) (@fN _ _ _ _ _ _ _ (pv 0) af set_list (by intro _;rfl)) (by rfl) (by rfl) (by rfl)))))))) aX) (ah (bw (aE nL (a0 aS (pv 0) af (fun _ _=>rfl)) (pv 1) (@aH _ _ (by decide) (by decide))) (ah (@aB _ _ (3) _ _ _ _ nd rfl (by first | exact Or.inl rfl | exact Or.inr rfl) (aq bS (a0 aS (pv 0) af (fun _ _=>rfl)) (pv 1)) (by rfl) (by first | exact .inl rfl | exact .inr rfl | assumption)) (ah (@fM _ _ _ _ _ _ (aq fh (a0 aS (pv 0) af (fun _ _=>rfl)) (pv 1)) (@fN _ _ _ _ _ _ _ (pv 0) af set_list (by intro _;rfl)) (by rfl) (by rfl) (by rfl)) (ak (az (pv 3))))) aX) (ah (@fM _ _ _ _ _ _ (aq bS (aq a5 (aq bf (a0 aS (pv 0) af (fun _ _=>rfl)) af) af) af) (@fN _ _ _ _ _ _ _ (pv 0) af set_list (by intro _;rfl)) (by rfl) (by rfl) (by rfl)) (ak (az (aq bS (aq fh (a0 aS (pv 0) af (fun _ _=>rfl)) af) (pv 1))))))),?_⟩
 try dsimp only[bh]
 refine⟨_,inferInstance,?_⟩
 rintro vs M q ⟨d,l,n,rfl,⟨ns,i,c,sd,hd,hl,hi,hne⟩,n0,n1,k⟩
 refine j0 (fun ρ M'=> ∃ (o1 o2:Option W) (i' c' s':Int),ρ= [some (wr d),some (wi n),o1,o2] /\ M' d=some (.lst [wr l,wi i',wi c',wi s']) /\ NB d M M' /\ 0<=i') ?_ fun N hN=> ?_
 · rintro ρ M' ⟨o1,o2,i',c',s',rfl,h,nb,hi'⟩
   have fin: ∀ (r c' s':Int),0<=r ->r<n -> ∃M0,Sm M0 (um M' d (.lst [wr l,wi i',wi c',wi s'])) /\ q (wi r) M0:=fun r c' s' h0 h1=>
     exM (k r _ h0 h1 ⟨ns,i',c',s',ab,by rw[ag (Ne.symm hne),nb l (Ne.symm hne)];exact hl,hi',hne⟩ (nb.trans NB.put))
   have cm3: ∀x,bF x 16807=True:=fun x=>by simp[bF]
   have cd1: ∀x,iH x n=True:=fun x=>by simp[iH,n0,n1]
   have cd2: ∀x,iH x 64=True:=fun x=>by simp[iH]
   have z2:((0:Int) <2147483647)=True:=by decide
   simp? [↓aJ,h,n0,cm3,cd1,cd2,z2]
   exact a4 (fun _=>fin _ _ _ (Int.emod_nonneg _ (by lia)) (Int.emod_lt_of_pos _ n0)) fun _=>fin _ _ _ (Int.emod_nonneg _ (by lia)) (Int.emod_lt_of_pos _ n0)
 · have nx: ∀ (o1 o2:Option W) (i' c' s':Int),0<=i' ->N [some (wr d),some (wi n),o1,o2] (um M d (.lst [wr l,wi i',wi c',wi s'])):=fun _ _ _ _ _ h=>hN _ _ ⟨_,_,_,_,_,rfl,ab,NB.put,h⟩
   have nx0: ∀ (o1 o2:Option W),N [some (wr d),some (wi n),o1,o2] M:=fun _ _=>hN _ _ ⟨_,_,_,_,_,rfl,hd,NB.refl d M,hi⟩
   have cp:CPow 10 18=True:=by simp[CPow]
   have cm: ∀x,bF x 48271=True:=fun x=>by simp[bF]
   have cm2: ∀x,bF x 69621=True:=fun x=>by simp[bF]
   have z1:((0:Int) <2147483629)=True:=by decide
   have z2:((0:Int) <2147483647)=True:=by decide
   by_cases hlt:i<ns.length
   · have hx:atI (ns.map wi) i=some (wi (ns[i.toNat]'(by lia))):=u6 hi (by rw[List.getElem?_map,List.getElem?_eq_getElem (by lia)];rfl)
     simp? [↓aJ,hd,hl,hx,List.length_map,cp,cm,cm2,z1,z2]
     exact a4 (fun _=>a4 (fun _=>a4 (fun _=>nx _ _ _ _ _ (by lia)) fun _=>nx _ _ _ _ _ (by lia)) fun _=>nx0 _ _) fun _=>nx0 _ _
   · simp? [↓aJ,hd,hl,hlt,List.length_map,decide_false]
     exact a4 (fun _=>nx0 _ _) fun _=>nx0 _ _
theorem xm (T:Txt K mg A):FnOk P w K mg base CX0 2 A.f_l_p A.d_l_p ["_law_draw"] (spW K pP):=by
 have G_l_take:=cY (P:=P) (w:=w) (base:=base) T
 refine okS T.l_p.fn qQ (by rintro vs M q ⟨d,l,rfl,_⟩;rfl) fun cdv A' outer s H E hr=> ?_
 have nd:=qQ.nd
 refine⟨_,(ak (az (a0 cN (bZ (@aa _ _ _ _ _ af (@aa _ _ _ _ _ af (@aa _ _ _ _ _ af (@aa _ _ _ _ _ af ae (by rfl)) (by rfl)) (by rfl)) (by rfl))) (@aj _ _ _ _ _ _ _ _ _ _ _ _ _ T.l_take G_l_take (hr.mono (by decide)) (by rfl) (@aa _ _ _ _ _ (pv 0) (@aa _ _ _ _ _ af ae (by rfl)) (by rfl)) (by decide) (by rfl) (by rfl)) (fun _ _=>rfl)))),?_⟩
 try dsimp only[bh]
 refine⟨_,inferInstance,?_⟩
 rintro vs M q ⟨d,l,rfl,hD,k⟩
 simp? [↓aJ]
 refine⟨d,l,4,rfl,hD,by decide,by decide,fun r M1 r0 r1 D1 b1=> ?_⟩
 have hr4:r=0 \/ r=1 \/ r=2 \/ r=3:=by omega
 rcases hr4 with rfl | rfl | rfl | rfl<;> simp? [↓aJ]
 · exact exM (k 2 _ (by decide) D1 b1)
 · exact exM (k 3 _ (by decide) D1 b1)
 · exact exM (k 5 _ (by decide) D1 b1)
 · exact exM (k 7 _ (by decide) D1 b1)
theorem rW (T:Txt K mg A):FnOk P w K mg base CX0 1 A.f_l_int A.d_l_int ["_law_thing"] (spW K pInt):=by
 refine okS T.l_int.fn kG (by rintro vs M q ⟨i,rfl,_⟩;rfl) fun cdv A' outer s H E hr=> ?_
 have nd:=kG.nd
 refine⟨_,(ak (az (w6 (@aM _ _ _ _ _ _ _ _ _ fG (by rfl) T.b_isinstance Boot.«isinstance» (@aa _ _ _ _ _ (pv 0) (@aa _ _ _ _ _ (@gy _ _ _ _ _ (by rfl) T.b_int Boot.«int» (show RelV (.ty "int") _ from rfl) (by decide) (by decide)) ae (by rfl)) (by rfl)) (by decide) (by decide) (by rfl) (by rfl)) (wX (wY (@aM _ _ _ _ _ _ _ _ _ fG (by rfl) T.b_isinstance Boot.«isinstance» (@aa _ _ _ _ _ (pv 0) (@aa _ _ _ _ _ (@gy _ _ _ _ _ (by rfl) T.b_bool Boot.«bool» (show RelV (.ty "bool") _ from rfl) (by decide) (by decide)) ae (by rfl)) (by rfl)) (by decide) (by decide) (by rfl) (by rfl))))))),?_⟩
 try dsimp only[bh]
 refine⟨_,inferInstance,?_⟩
 rintro vs M q ⟨i,rfl,k⟩
 simp? [↓aJ]
 exact exM k
theorem uH (T:Txt K mg A):FnOk P w K mg base CX0 1 A.f_tidy A.d_tidy ["p","pairs"] (spW K vL):=by
 refine okS T.tidy.fn ny (by rintro vs M q ⟨a,p,ps,rfl,_⟩;rfl) fun cdv A' outer s H E hr=> ?_
 have nd:=ny.nd
 refine⟨_,(ah (@aB _ _ (2) _ _ _ _ nd rfl (by first | exact Or.inl rfl | exact Or.inr rfl) cX (by rfl) (by first | exact .inl rfl | exact .inr rfl | assumption)) (ah (@bR _ _ _ _ _ _ _ _ PassesOwn.never rfl (bu (pv 1)) (@dB _ _ _ _ _ (2) rfl (@aV _ _ _ _ _ (@ax _ _ (3) _ nd rfl (by first | exact Or.inl rfl | exact Or.inr rfl) (by first | exact .inl rfl | exact .inr rfl | assumption)) (@aV _ _ _ _ _ (@ax _ _ (4) _ nd rfl (by first | exact Or.inl rfl | exact Or.inr rfl) (by first | exact .inl rfl | exact .inr rfl | assumption)) cH (by rfl)) (by rfl)) (by rfl) (by rfl)) (ak (jJ (cc hr) (pv 2) (pv 3) (aq bS (aq a5 (fg (cc hr) (pv 2) (pv 3) af ⟨by rfl,by rfl,by rfl,by rfl⟩) (pv 4)) (pv 0)) rfl)) (by intro _;rfl)) (ak (az (@aY _ _ _ _ _ _ _ _ _ dI (by rfl) T.b_tuple Boot.«tuple» (@aa _ _ _ _ _ (@bU _ _ _ _ _ _ _ _ _ _ _ _ _ _ rfl (CScope.of (sc:=ai jA) (N:= ["p","pairs","turned","place","setting"]) (own:= ["place"]) (fr:= [2]) (N':= ["place","turned"]) rfl rfl rfl (by decide+kernel) rfl (by decide+kernel) (by decide+kernel) (by decide+kernel) (by decide+kernel) (by decide+kernel)) (bu (@aM _ _ _ _ _ _ _ _ _ (cq rfl) (by rfl) T.b_sorted Boot.«sorted» (@aa _ _ _ _ _ (pv 2) ae (by rfl)) (by decide) (by decide) (by rfl) (by rfl))) (fun _ _ _ _=>(@ax _ _ (0) _ (by show(["place","turned"]:List Str).Nodup;decide+kernel) rfl (by first | exact Or.inl rfl | exact Or.inr rfl) (by first | exact .inl rfl | exact .inr rfl | assumption))) bC (fun _ _ _ _=>(dR (aE rP (cn (cc hr) (pv 1) (pv 0) (fun _ _=>rfl)) af (@aH _ _ (by decide) (by decide))))) (fun _ _ _ _=>(bZ (@aa _ _ _ _ _ (pv 0) (@aa _ _ _ _ _ (cn (cc hr) (pv 1) (pv 0) (fun _ _=>rfl)) ae (by rfl)) (by rfl)))) (by intro _;rfl)) ae (by rfl)) (by decide) (by decide) (by rfl) (by rfl)))))),?_⟩
 try dsimp only[bh]
 refine⟨_,inferInstance,?_⟩
 rintro vs M q ⟨a,p,ps,rfl,ha,p0,h64,hbig,k⟩
 simp? [↓aJ]
 intro d hd
 have nad:a≠d:=aZ ha hd
 simp? [↓aJ,ag nad,ha]
 refine cZ (fun i ρ M'=> ∃ (o1 o2:Option W) (m:Pt),ρ= [some (wi p),some (wr a),some (wr d),o1,o2] /\ M'=um M d (.dK (kvW m)) /\ (m.map (·.1)).Nodup /\ m.length<=i /\ (∀x,look m x=tot (ps.take i) x % p) /\ ∀k∈m.map (·.1), ∃q∈ps,q.1=k)
   ⟨none,none,[],rfl,rfl,List.nodup_nil,Nat.le_refl _,fun x=>by simp[look,tot],by simp⟩ ?_ ?_ ?_
 · rintro i ρ M' _ ⟨o1,o2,m,rfl,rfl,_⟩
   rw[ag nad];exact ha
 · rintro i x ρ M' hx ⟨o1,o2,m,rfl,rfl,hn,hl,ht,hin⟩ N hN
   obtain⟨z,hz,rfl⟩:=pairs_at hx
   have hil:=(List.getElem?_eq_some_iff.mp hz).1
   have hs:((kvW m).length<sizeLine)=True:=by rw[kvW,List.length_map];exact eq_true (mQ (by omega))
   simp? [↓aJ,aG,gA,p0,hs,gw]
   refine hN _ _ ⟨_,_,_,rfl,rfl,jP hn,Nat.le_trans ij (by omega),fun x=> ?_,fun k hk=>(kY hk).elim (fun e=>⟨z,List.mem_of_getElem? hz,e.symm⟩) (hin k)⟩
   rw[fS,List.take_add_one,hz]
   show _=tot (ps.take i++ [z]) x % p
   rw[cQ]
   by_cases hx:x=z.1
   · subst hx
     rw[if_pos rfl,if_pos rfl,ht,Int.emod_add_emod]
   · rw[if_neg hx,if_neg (Ne.symm hx),Int.add_zero];exact ht x
 · rintro ρ M' ⟨o1,o2,m,rfl,rfl,hn,hl,ht,hin⟩
   rw[List.length_map] at hl ht
   rw[List.take_length] at ht
   simp? [↓aJ]
   refine⟨d,kvW m,m.map (·.1),rfl,ab,k8 m,(by rw[List.length_map];exact big (by omega)),fun sp ns hsp hperm hsort=> ?_⟩
   have hdsp:d≠sp:=aZ ab hsp
   have hns:ns.length<=100000:=by rw[hperm.length_eq,List.length_map];omega
   simp? [↓aJ]
   refine eM (fun x=>match x with | .v (.int n)=>if look m n=0 then none else some (aG (n,look m n)) | _=>none) (by rw[List.length_map];exact big hns) (fun M3 s3=>s3 _ _ ab) ?_ fun t ht0=> ?_
   · intro i x hx M3 N s3 hN
     obtain⟨n,hn',rfl⟩:=dF hx
     have hdM:M3 d=some (.dK (kvW m)):=s3 _ _ (by rw[ag hdsp,ab])
     have hnk:n∈m.map (·.1):=hperm.mem_iff.mp (List.mem_of_getElem? hn')
     simp? [↓aJ,hdM,gF hnk]
     refine sH (fun h=> ?_) fun h=> ?_
     · simp only[h,if_false] at hN
       exact hN
     · simp only[h,if_true] at hN
       exact hN
   · simp? [↓aJ]
     refine⟨M,((Sm.um (Sm.refl M) hd).trans (aF hsp)).trans (aF ht0),?_⟩
     · have e:(ns.map wi).filterMap (fun x=>match x with | .v (.int n)=>if look m n=0 then none else some (aG (n,look m n)) | _=>none)=(nrm p ps).map aG:=by
         rw[<- nv p0 hn ht hperm hsort,List.filterMap_map]
         unfold sel
         rw[List.map_filterMap]
         congr 1
         funext n
         simp only[Function.comp]
         split<;>rfl
       rw[e]
       exact k
theorem fO (T:Txt K mg A):FnOk P w K mg base CX0 1 A.f_l_tidy A.d_l_tidy ["_law_p_here","_law_pairs"] (spW K vL):=by
 refine okS T.l_tidy.fn iV (by rintro vs M q ⟨a,p,ps,rfl,_⟩;rfl) fun cdv A' outer s H E hr=> ?_
 have nd:=iV.nd
 refine⟨_,(ah (@aB _ _ (2) _ _ _ _ nd rfl (by first | exact Or.inl rfl | exact Or.inr rfl) cX (by rfl) (by first | exact .inl rfl | exact .inr rfl | assumption)) (ah (@bR _ _ _ _ _ _ _ _ PassesOwn.never rfl (bu (pv 1)) (@dB _ _ _ _ _ (2) rfl (@aV _ _ _ _ _ (@ax _ _ (3) _ nd rfl (by first | exact Or.inl rfl | exact Or.inr rfl) (by first | exact .inl rfl | exact .inr rfl | assumption)) (@aV _ _ _ _ _ (@ax _ _ (4) _ nd rfl (by first | exact Or.inl rfl | exact Or.inr rfl) (by first | exact .inl rfl | exact .inr rfl | assumption)) cH (by rfl)) (by rfl)) (by rfl) (by rfl)) (ak (jJ (cc hr) (pv 2) (pv 3) (aq bS (aq a5 (fg (cc hr) (pv 2) (pv 3) af ⟨by rfl,by rfl,by rfl,by rfl⟩) (pv 4)) (pv 0)) rfl)) (by intro _;rfl)) (ak (az (@aY _ _ _ _ _ _ _ _ _ dI (by rfl) T.b_tuple Boot.«tuple» (@aa _ _ _ _ _ (@bU _ _ _ _ _ _ _ _ _ _ _ _ _ _ rfl (CScope.of (sc:=ai e9) (N:= ["_law_p_here","_law_pairs","_law_sums","_law_place","_law_setting"]) (own:= ["_law_place"]) (fr:= [2]) (N':= ["_law_place","_law_sums"]) rfl rfl rfl (by decide+kernel) rfl (by decide+kernel) (by decide+kernel) (by decide+kernel) (by decide+kernel) (by decide+kernel)) (bu (@aM _ _ _ _ _ _ _ _ _ (cq rfl) (by rfl) T.b_sorted Boot.«sorted» (@aa _ _ _ _ _ (pv 2) ae (by rfl)) (by decide) (by decide) (by rfl) (by rfl))) (fun _ _ _ _=>(@ax _ _ (0) _ (by show(["_law_place","_law_sums"]:List Str).Nodup;decide+kernel) rfl (by first | exact Or.inl rfl | exact Or.inr rfl) (by first | exact .inl rfl | exact .inr rfl | assumption))) bC (fun _ _ _ _=>(dR (aE gU (cn (cc hr) (pv 1) (pv 0) (fun _ _=>rfl)) af (@aH _ _ (by decide) (by decide))))) (fun _ _ _ _=>(bZ (@aa _ _ _ _ _ (pv 0) (@aa _ _ _ _ _ (cn (cc hr) (pv 1) (pv 0) (fun _ _=>rfl)) ae (by rfl)) (by rfl)))) (by intro _;rfl)) ae (by rfl)) (by decide) (by decide) (by rfl) (by rfl)))))),?_⟩
 try dsimp only[bh]
 refine⟨_,inferInstance,?_⟩
 rintro vs M q ⟨a,p,ps,rfl,ha,p0,h64,hbig,k⟩
 simp? [↓aJ]
 intro d hd
 have nad:a≠d:=aZ ha hd
 simp? [↓aJ,ag nad,ha]
 refine cZ (fun i ρ M'=> ∃ (o1 o2:Option W) (m:Pt),ρ= [some (wi p),some (wr a),some (wr d),o1,o2] /\ M'=um M d (.dK (kvW m)) /\ (m.map (·.1)).Nodup /\ m.length<=i /\ (∀x,look m x=tot (ps.take i) x % p) /\ ∀k∈m.map (·.1), ∃q∈ps,q.1=k)
   ⟨none,none,[],rfl,rfl,List.nodup_nil,Nat.le_refl _,fun x=>by simp[look,tot],by simp⟩ ?_ ?_ ?_
 · rintro i ρ M' _ ⟨o1,o2,m,rfl,rfl,_⟩
   rw[ag nad];exact ha
 · rintro i x ρ M' hx ⟨o1,o2,m,rfl,rfl,hn,hl,ht,hin⟩ N hN
   obtain⟨z,hz,rfl⟩:=pairs_at hx
   have hil:=(List.getElem?_eq_some_iff.mp hz).1
   have hs:((kvW m).length<sizeLine)=True:=by rw[kvW,List.length_map];exact eq_true (mQ (by omega))
   simp? [↓aJ,aG,gA,p0,hs,gw]
   refine hN _ _ ⟨_,_,_,rfl,rfl,jP hn,Nat.le_trans ij (by omega),fun x=> ?_,fun k hk=>(kY hk).elim (fun e=>⟨z,List.mem_of_getElem? hz,e.symm⟩) (hin k)⟩
   rw[fS,List.take_add_one,hz]
   show _=tot (ps.take i++ [z]) x % p
   rw[cQ]
   by_cases hx:x=z.1
   · subst hx
     rw[if_pos rfl,if_pos rfl,ht,Int.emod_add_emod]
   · rw[if_neg hx,if_neg (Ne.symm hx),Int.add_zero];exact ht x
 · rintro ρ M' ⟨o1,o2,m,rfl,rfl,hn,hl,ht,hin⟩
   rw[List.length_map] at hl ht
   rw[List.take_length] at ht
   simp? [↓aJ]
   refine⟨d,kvW m,m.map (·.1),rfl,ab,k8 m,(by rw[List.length_map];exact big (by omega)),fun sp ns hsp hperm hsort=> ?_⟩
   have hdsp:d≠sp:=aZ ab hsp
   have hns:ns.length<=100000:=by rw[hperm.length_eq,List.length_map];omega
   simp? [↓aJ]
   refine eM (fun x=>match x with | .v (.int n)=>if look m n=0 then none else some (aG (n,look m n)) | _=>none) (by rw[List.length_map];exact big hns) (fun M3 s3=>s3 _ _ ab) ?_ fun t ht0=> ?_
   · intro i x hx M3 N s3 hN
     obtain⟨n,hn',rfl⟩:=dF hx
     have hdM:M3 d=some (.dK (kvW m)):=s3 _ _ (by rw[ag hdsp,ab])
     have hnk:n∈m.map (·.1):=hperm.mem_iff.mp (List.mem_of_getElem? hn')
     simp? [↓aJ,hdM,gF hnk]
     have hge:0<=look m n:=by rw[ht];exact Int.emod_nonneg _ (by omega)
     refine a4 (fun h=> ?_) fun h=> ?_
     · have h':¬look m n=0:=by omega
       simp only[h',if_false] at hN
       exact hN
     · have h':look m n=0:=by omega
       simp only[h',if_true] at hN
       exact hN
   · simp? [↓aJ]
     refine⟨M,((Sm.um (Sm.refl M) hd).trans (aF hsp)).trans (aF ht0),?_⟩
     · have e:(ns.map wi).filterMap (fun x=>match x with | .v (.int n)=>if look m n=0 then none else some (aG (n,look m n)) | _=>none)=(nrm p ps).map aG:=by
         rw[<- nv p0 hn ht hperm hsort,List.filterMap_map]
         unfold sel
         rw[List.map_filterMap]
         congr 1
         funext n
         simp only[Function.comp]
         split<;>rfl
       rw[e]
       exact k
theorem jO (T:Txt K mg A):FnOk P w K mg base CX0 2 A.f_l_pattern A.d_l_pattern ["_law_draw","_law_p_here","_law_most","_law_far"] (spW K rL):=by
 have G_l_take:=cY (P:=P) (w:=w) (base:=base) T
 have G_l_tidy:=fO (P:=P) (w:=w) (base:=base) T
 refine okS T.l_pattern.fn eX (by rintro vs M q ⟨d,l,p,most,far,rfl,_⟩;rfl) fun cdv A' outer s H E hr=> ?_
 have nd:=eX.nd
 refine⟨_,(ah (@aB _ _ (4) _ _ _ _ nd rfl (by first | exact Or.inl rfl | exact Or.inr rfl) (jM ae) (by rfl) (by first | exact .inl rfl | exact .inr rfl | assumption)) (ah (@bR _ _ _ _ _ _ _ _ PassesOwn.never rfl (@cW _ _ _ _ _ _ (by rfl) T.b_range (@aa _ _ _ _ _ (@aj _ _ _ _ _ _ _ _ _ _ _ _ _ T.l_take G_l_take (hr.mono (by decide)) (by rfl) (@aa _ _ _ _ _ (pv 0) (@aa _ _ _ _ _ (aq a5 (pv 2) af) ae (by rfl)) (by rfl)) (by decide) (by rfl) (by rfl)) ae (by rfl)) (by rfl)) (@ax _ _ (5) _ nd rfl (by first | exact Or.inl rfl | exact Or.inr rfl) (by first | exact .inl rfl | exact .inr rfl | assumption)) (ah (@aB _ _ (6) _ _ _ _ nd rfl (by first | exact Or.inl rfl | exact Or.inr rfl) (aq b0 (@aj _ _ _ _ _ _ _ _ _ _ _ _ _ T.l_take G_l_take (hr.mono (by decide)) (by rfl) (@aa _ _ _ _ _ (pv 0) (@aa _ _ _ _ _ (aq a5 (aq bf af (pv 3)) af) ae (by rfl)) (by rfl)) (by decide) (by rfl) (by rfl)) (pv 3)) (by rfl) (by first | exact .inl rfl | exact .inr rfl | assumption)) (ak (@cj _ _ _ _ (@rK _ _ _ _ _ _ _ _ _ _ _ _ PySem.F.plainAttrs_list PySem.F.slot_list_append PySem.F.type_list_append dU (pv 4) (@aa _ _ _ _ _ (bZ (@aa _ _ _ _ _ (pv 6) (@aa _ _ _ _ _ (aq a5 af (@aj _ _ _ _ _ _ _ _ _ _ _ _ _ T.l_take G_l_take (hr.mono (by decide)) (by rfl) (@aa _ _ _ _ _ (pv 0) (@aa _ _ _ _ _ (aq b0 (pv 1) af) ae (by rfl)) (by rfl)) (by decide) (by rfl) (by rfl))) ae (by rfl)) (by rfl))) ae (by rfl)) (by rfl) (by rfl) (by rfl) (by rfl) (by rfl)) (by rfl)))) (by intro _;rfl)) (ak (az (@aj _ _ _ _ _ _ _ _ _ _ _ _ _ T.l_tidy G_l_tidy (hr.mono (by decide)) (by rfl) (@aa _ _ _ _ _ (pv 1) (@aa _ _ _ _ _ (pv 4) ae (by rfl)) (by rfl)) (by decide) (by rfl) (by rfl)))))),?_⟩
 try dsimp only[bh]
 refine⟨_,inferInstance,?_⟩
 rintro vs M q ⟨d,l,p,most,far,rfl,hD,p2,p3,m0,m1,f0,f1,k⟩
 simp? [↓aR]
 intro a ha
 obtain⟨nad,nal⟩:=hD.ne ha
 refine cP ?_
 simp? [↓aR]
 refine⟨d,l,most+1,rfl,hD.put ha,by omega,by omega,fun n M1 n0 n1 D1 b1=> ?_⟩
 have ha1:M1 a=some (.lst []):=by rw[b1 a nad,ab]
 simp? [↓aR]
 refine⟨⟨by omega,by omega⟩,cZ (fun i ρ M'=> ∃ (o1 o2:Option W) (ps:Pt),ρ= [some (wr d),some (wi p),some (wi most),some (wi far),some (wr a),o1,o2] /\ Dr M' d l /\ M' a=some (.lst (ps.map aG)) /\ ps.length=i /\ (∀z∈ps, -far<=z.1 /\ z.1<=far /\ 0<z.2 /\ z.2<p) /\ (∀b,b≠d ->b≠a ->M' b=M b))
   ⟨none,none,[],rfl,D1,ha1,rfl,by simp,fun b h1 h2=>by rw[b1 b h1,ag h2]⟩ (fun _ _ _ _ _=>trivial) ?_ ?_⟩
 · rintro i x ρ M' hx ⟨o1,o2,ps,rfl,D2,ha2,hl,hz,hb⟩ N hN
   obtain⟨hi,rfl⟩:=cU hx
   have cm: ∀x,bF 2 x=True:=fun x=>by simp[bF]
   simp? [↓aR,cm]
   refine⟨d,l,2*far+1,rfl,D2,by omega,by omega,fun r M3 r0 r1 D3 b3=> ?_⟩
   simp? [↓aR]
   refine cP ?_
   have ha3:M3 a=some (.lst (ps.map aG)):=by rw[b3 a nad];exact ha2
   simp? [↓aR,ha3]
   refine⟨d,l,p - 1,rfl,D3,by omega,by omega,fun s' M4 s0 s1 D4 b4=> ?_⟩
   have ha4:M4 a=some (.lst (ps.map aG)):=by rw[b4 a nad];exact ha3
   have hs:((ps.map aG).length<sizeLine)=True:=by rw[List.length_map];exact eq_true (mQ (by omega))
   simp? [↓aR,ha4,hs]
   refine hN _ _ ⟨_,_,ps++ [(r - far,1+s')],rfl,D4.put' nad nal,?_,by simp[hl],fun z hz'=> ?_,fun b h1 h2=> ?_⟩
   · rw[ab,List.map_append];rfl
   · rcases List.mem_append.mp hz' with hz' | hz'
     · exact hz z hz'
     · rw[List.mem_singleton.mp hz'];exact⟨by show -far<=r - far;omega,by show r - far<=far;omega,by show 0<1+s';omega,by show 1+s'<p;omega⟩
   · rw[ag h2,b4 b h1,b3 b h1,hb b h1 h2]
 · rintro ρ M' ⟨o1,o2,ps,rfl,D2,ha2,hl,hz,hb⟩
   rw[cT] at hl
   dsimp only
   refine cP ?_
   simp? [↓aR]
   refine⟨a,p,ps,rfl,ha2,by omega,uY (by omega),by omega,?_⟩
   refine⟨fun b=>if b=a then none else M' b,fun b o e=> ?_,k ps _ (by omega) hz ?_ ?_⟩
   · dsimp only at e
     split at e
     · cases e
     · exact e
   · obtain⟨ns,i,c,s',h1,h2,h3,h4⟩:=D2
     exact⟨ns,i,c,s',by dsimp only;rw[if_neg (Ne.symm nad)];exact h1,by dsimp only;rw[if_neg (Ne.symm nal)];exact h2,h3,h4⟩
   · intro b hb'
     dsimp only
     split
     · rename_i e;rw[e];exact ha.symm
     · rename_i e;exact hb b hb' e
theorem gm (T:Txt K mg A):FnOk P w K mg base CX0 2 A.f_l_is_pattern A.d_l_is_pattern ["_law_p_here","_law_thing"] (spW K xg):=by
 have G_l_int:=rW (P:=P) (w:=w) (base:=base) T
 refine okS T.l_is_pattern.fn dj (by rintro vs M q ⟨p,pat,rfl,_⟩;rfl) fun cdv A' outer s H E hr=> ?_
 have nd:=dj.nd
 refine⟨_,(ah (bw (c8 (@eD _ _ _ (@aM _ _ _ _ _ _ _ _ _ fG (by rfl) T.b_isinstance Boot.«isinstance» (@aa _ _ _ _ _ (pv 1) (@aa _ _ _ _ _ (@gy _ _ _ _ _ (by rfl) T.b_tuple Boot.«tuple» (show RelV (.ty "tuple") _ from rfl) (by decide) (by decide)) ae (by rfl)) (by rfl)) (by decide) (by decide) (by rfl) (by rfl)) (by intro _;rfl))) (ak (az d9)) aX) (ah (@bR _ _ _ _ _ _ _ _ PassesOwn.never rfl (@cW _ _ _ _ _ _ (by rfl) T.b_range (@aa _ _ _ _ _ (@aM _ _ _ _ _ _ _ _ _ c0 (by rfl) T.b_len Boot.«len» (@aa _ _ _ _ _ (pv 1) ae (by rfl)) (by decide) (by decide) (by rfl) (by rfl)) ae (by rfl)) (by rfl)) (@ax _ _ (2) _ nd rfl (by first | exact Or.inl rfl | exact Or.inr rfl) (by first | exact .inl rfl | exact .inr rfl | assumption)) (ah (@aB _ _ (3) _ _ _ _ nd rfl (by first | exact Or.inl rfl | exact Or.inr rfl) (a0 cN (pv 1) (pv 2) (fun _ _=>rfl)) (by rfl) (by first | exact .inl rfl | exact .inr rfl | assumption)) (ah (bw (gS (c8 (@eD _ _ _ (@aM _ _ _ _ _ _ _ _ _ fG (by rfl) T.b_isinstance Boot.«isinstance» (@aa _ _ _ _ _ (pv 3) (@aa _ _ _ _ _ (@gy _ _ _ _ _ (by rfl) T.b_tuple Boot.«tuple» (show RelV (.ty "tuple") _ from rfl) (by decide) (by decide)) ae (by rfl)) (by rfl)) (by decide) (by decide) (by rfl) (by rfl)) (by intro _;rfl))) (fL (aE rP (@aM _ _ _ _ _ _ _ _ _ c0 (by rfl) T.b_len Boot.«len» (@aa _ _ _ _ _ (pv 3) ae (by rfl)) (by decide) (by decide) (by rfl) (by rfl)) af (@aH _ _ (by decide) (by decide))))).pt (ak (az d9)) aX) (ah (bw (gS (c8 (@eD _ _ _ (@aj _ _ _ _ _ _ _ _ _ _ _ _ _ T.l_int G_l_int (hr.mono (by decide)) (by rfl) (@aa _ _ _ _ _ (a0 cN (pv 3) af (fun _ _=>rfl)) ae (by rfl)) (by decide) (by rfl) (by rfl)) (by intro _;rfl))) (gS (c8 (@eD _ _ _ (@aj _ _ _ _ _ _ _ _ _ _ _ _ _ T.l_int G_l_int (hr.mono (by decide)) (by rfl) (@aa _ _ _ _ _ (a0 cN (pv 3) af (fun _ _=>rfl)) ae (by rfl)) (by decide) (by rfl) (by rfl)) (by intro _;rfl))) (fL (c8 (@rA _ _ _ _ _ _ _ _ _ _ _ _ i5 i5 af (a0 cN (pv 3) af (fun _ _=>rfl)) (pv 0) (by with_unfolding_all rfl)))))).pt (ak (az d9)) aX) (ak (bw (rh (aE gU (pv 2) af (@aH _ _ (by decide) (by decide))) (nE (aE nL (a0 cN (a0 cN (pv 1) (aq b0 (pv 2) af) (fun _ _=>rfl)) af (fun _ _=>rfl)) (a0 cN (pv 3) af (fun _ _=>rfl)) (@aH _ _ (by decide) (by decide))))).pt (ak (az d9)) aX))))) (by intro _;rfl)) (ak (az d9)))),?_⟩
 try dsimp only[bh]
 refine⟨_,inferInstance,?_⟩
 rintro vs M q ⟨p,pat,rfl,⟨h1,h2⟩,hl,k⟩
 have hl':(pat.map aG).length=pat.length:=List.length_map _
 simp? [↓aJ,aQ,hl']
 refine⟨⟨by omega,by omega⟩,cZ (fun i ρ M'=> ∃o1 o2:Option W,ρ= [some (wi p),some (aQ pat),o1,o2] /\ M'=M) ⟨none,none,rfl,rfl⟩ (fun _ _ _ _ _=>trivial) ?_ ?_⟩
 · rintro i x ρ M' hx ⟨o1,o2,rfl,rfl⟩ N hN
   obtain⟨hi,rfl⟩:=cU hx
   have hi':i<pat.length:=by omega
   have ha:atI (pat.map aG) (0+(i:Int))=some (aG pat[i]):=by
     rw[Int.zero_add];exact cK (by rw[List.getElem?_map,List.getElem?_eq_getElem hi'];rfl)
   have hz:=h1 pat[i] (List.getElem_mem hi')
   simp? [↓aJ,aQ,ha,aG]
   refine⟨_,rfl,?_⟩
   simp? [↓aJ]
   refine⟨_,rfl,?_⟩
   simp? [↓aJ,hz.1,hz.2,decide_true]
   refine a4 (fun h=> ?_) fun h=>hN _ _ ⟨_,_,rfl,rfl⟩
   have hi1:i - 1<pat.length:=by omega
   have ha':atI (pat.map aG) (0+(i:Int) - 1)=some (aG pat[i - 1]):=by
     have:(0+(i:Int) - 1)=((i - 1:Nat):Int):=by omega
     rw[this];exact cK (by rw[List.getElem?_map,List.getElem?_eq_getElem hi1];rfl)
   have hlt:=List.pairwise_iff_getElem.mp h2 (i - 1) i hi1 hi' (by omega)
   simp? [↓aJ,ha',aG]
   exact a4 (fun h=>by omega) fun _=>hN _ _ ⟨_,_,rfl,rfl⟩
 · rintro ρ M' ⟨o1,o2,rfl,rfl⟩
   simp? [↓aJ]
   exact exM k
theorem rV (T:Txt K mg A):FnOk P w K mg base CX0 2 A.f_l_sum A.d_l_sum ["_law_p_here","_law_one","_law_other","_law_by","_law_many"] (spW K pSum):=by
 have G_l_tidy:=fO (P:=P) (w:=w) (base:=base) T
 refine okS T.l_sum.fn kF (by rintro vs M q ⟨p,a,b,y,n,rfl,_⟩;rfl) fun cdv A' outer s H E hr=> ?_
 have nd:=kF.nd
 refine⟨_,(ak (az (@aj _ _ _ _ _ _ _ _ _ _ _ _ _ T.l_tidy G_l_tidy (hr.mono (by decide)) (by rfl) (@aa _ _ _ _ _ (pv 0) (@aa _ _ _ _ _ (aq rQ (@aY _ _ _ _ _ _ _ _ _ iG (by rfl) T.b_list Boot.«list» (@aa _ _ _ _ _ (pv 1) ae (by rfl)) (by decide) (by decide) (by rfl) (by rfl)) (@bU _ _ _ _ _ _ _ _ _ _ _ _ _ _ rfl (CScope.of (sc:=ai gu) (N:= ["_law_p_here","_law_one","_law_other","_law_by","_law_many"]) (own:= ["_law_place","_law_setting"]) (fr:= [3,4]) (N':= ["_law_place","_law_setting","_law_by","_law_many"]) rfl rfl rfl (by decide+kernel) rfl (by decide+kernel) (by decide+kernel) (by decide+kernel) (by decide+kernel) (by decide+kernel)) (jK (pv 2)) (fun _ _ _ _=>(@dB _ _ _ _ _ (2) rfl (@aV _ _ _ _ _ (@ax _ _ (0) _ (by show(["_law_place","_law_setting","_law_by","_law_many"]:List Str).Nodup;decide+kernel) rfl (by first | exact Or.inl rfl | exact Or.inr rfl) (by first | exact .inl rfl | exact .inr rfl | assumption)) (@aV _ _ _ _ _ (@ax _ _ (1) _ (by show(["_law_place","_law_setting","_law_by","_law_many"]:List Str).Nodup;decide+kernel) rfl (by first | exact Or.inl rfl | exact Or.inr rfl) (by first | exact .inl rfl | exact .inr rfl | assumption)) cH (by rfl)) (by rfl)) (by rfl) (by rfl))) iE (fun _ _ _ _=>c7) (fun _ _ _ _=>(bZ (@aa _ _ _ _ _ (aq a5 (pv 0) (pv 2)) (@aa _ _ _ _ _ (aq bf (pv 1) (pv 3)) ae (by rfl)) (by rfl)))) (by intro _;rfl))) ae (by rfl)) (by rfl)) (by decide) (by rfl) (by rfl)))),?_⟩
 try dsimp only[bh]
 refine⟨_,inferInstance,?_⟩
 rintro vs M q ⟨p,a,b,y,n,rfl,p0,hf,ha,hb,hz,k⟩
 simp? [↓aJ,aQ]
 intro u hu
 simp? [↓aJ]
 refine eM (fun x=>match x with | .tup [.v (.int x), .v (.int s)]=>some (.tup [wi (x+y),wi (s*n)]) | _=>none) (by rw[List.length_map];exact big (by omega)) (fun _ _=>trivial) ?_ fun t ht=> ?_
 · intro i x hx M3 N s3 hN
   obtain⟨z,hz',rfl⟩:=pairs_at hx
   have:=hz z (List.mem_of_getElem? hz')
   have cm:bF z.2 n=True:=eq_true (.inl ⟨by omega,by omega⟩)
   simp? [↓aJ,aG,cm]
   exact hN
 · have e:(b.map aG).filterMap (fun x=>match x with | .tup [.v (.int x), .v (.int s)]=>some (.tup [wi (x+y),wi (s*n)]) | _=>none)=(mvt y n b).map aG:=by
     rw[List.filterMap_map,mvt,List.map_map]
     exact List.filterMap_eq_map.symm▸rfl
   rw[e]
   have hut:u≠t:=aZ ab ht
   have hs:((a.map aG).length+((mvt y n b).map aG).length<=sizeLine)=True:=eq_true (big (by rw[List.length_map,List.length_map,mvt,List.length_map];omega))
   simp? [↓aJ,ag hut,hs]
   intro c hc
   simp? [↓aJ]
   refine⟨c,p,a++mvt y n b,rfl,by rw[ab,List.map_append],p0,hf,by rw[List.length_append,mvt,List.length_map];omega,?_⟩
   exact⟨M,((aF hu).trans (aF ht)).trans (aF hc),k⟩
end
end K20
open PySem L2 WL WP WQ EN PyProof.Rows
namespace K20
open PySem L2 WL WP WQ EN PyProof.Rows
section
variable {P:Program}{w:World}{K:PySem.W.Frag}{mg:Str ->Option Value}{base:Heap}{A:Adr}
theorem rS (T:Txt K mg A):FnOk P w K mg base CX0 5 A.f_taken A.d_taken ["p","stride","stairs","pattern"] (spW K w8):=by
 have G_cut:=xn (P:=P) (w:=w) (base:=base) T
 have G_stood:=rT (P:=P) (w:=w) (base:=base) T
 have G_told_parts:=iK (P:=P) (w:=w) (base:=base) T
 have G_tidy:=uH (P:=P) (w:=w) (base:=base) T
 have G_Row:=rY (P:=P) (w:=w) (base:=base) T
 refine okS T.taken.fn kD (by rintro vs M q ⟨p,s,D,Z,Zm,sts,pat,rfl,_⟩;rfl) fun cdv A' outer s H E hr=> ?_
 have nd:=kD.nd
 refine⟨_,(ah (@aB _ _ (4) _ _ _ _ nd rfl (by first | exact Or.inl rfl | exact Or.inr rfl) (@ff _ _ _ _ _ _ _ _ _ _ _ _ _ _ _ T.Row G_Row (hr.mono (by decide)) (by rfl) (@aa _ _ _ _ _ (@aY _ _ _ _ _ _ _ _ _ (dh rfl) (by rfl) T.b_dict Boot.«dict» (@aa _ _ _ _ _ (pv 3) ae (by rfl)) (by decide) (by decide) (by rfl) (by rfl)) (@aa _ _ _ _ _ cX ae (by rfl)) (by rfl)) (by decide) (by rfl) (by rfl)) (by rfl) (by first | exact .inl rfl | exact .inr rfl | assumption)) (ah (@bR _ _ _ _ _ _ _ _ PassesOwn.never rfl (@rE _ _ _ _ _ _ _ _ _ rfl (by rfl) T.b_enumerate (@aa _ _ _ _ _ (pv 2) ae (by rfl)) (by rfl)) (@dB _ _ _ _ _ (2) rfl (@aV _ _ _ _ _ (@ax _ _ (5) _ nd rfl (by first | exact Or.inl rfl | exact Or.inr rfl) (by first | exact .inl rfl | exact .inr rfl | assumption)) (@aV _ _ _ _ _ (@ax _ _ (6) _ nd rfl (by first | exact Or.inl rfl | exact Or.inr rfl) (by first | exact .inl rfl | exact .inr rfl | assumption)) cH (by rfl)) (by rfl)) (by rfl) (by rfl)) (ak (@cj _ _ _ _ (@aj _ _ _ _ _ _ _ _ _ _ _ _ _ T.cut G_cut (hr.mono (by decide)) (by rfl) (@aa _ _ _ _ _ (pv 0) (@aa _ _ _ _ _ (pv 1) (@aa _ _ _ _ _ (pv 4) (@aa _ _ _ _ _ (@aj _ _ _ _ _ _ _ _ _ _ _ _ _ T.stood G_stood (hr.mono (by decide)) (by rfl) (@aa _ _ _ _ _ (pv 0) (@aa _ _ _ _ _ (pv 1) (@aa _ _ _ _ _ (@ff _ _ _ _ _ _ _ _ _ _ _ _ _ _ _ T.Row G_Row (hr.mono (by decide)) (by rfl) (@aa _ _ _ _ _ (@aY _ _ _ _ _ _ _ _ _ (dh rfl) (by rfl) T.b_dict Boot.«dict» (@aa _ _ _ _ _ (pv 6) ae (by rfl)) (by decide) (by decide) (by rfl) (by rfl)) (@aa _ _ _ _ _ (kP (pv 5) (kP af af)) ae (by rfl)) (by rfl)) (by decide) (by rfl) (by rfl)) ae (by rfl)) (by rfl)) (by rfl)) (by decide) (by rfl) (by rfl)) ae (by rfl)) (by rfl)) (by rfl)) (by rfl)) (by decide) (by rfl) (by rfl)) (by rfl))) (by intro _;rfl)) (ak (az (bZ (@aa _ _ _ _ _ (@aj _ _ _ _ _ _ _ _ _ _ _ _ _ T.tidy G_tidy (hr.mono (by decide)) (by rfl) (@aa _ _ _ _ _ (pv 0) (@aa _ _ _ _ _ (@oJ _ _ _ _ _ _ _ (by rfl) T.b_list rfl (a9 (pv 4) rfl) (by rfl) (by rfl) (by rfl)) ae (by rfl)) (by rfl)) (by decide) (by rfl) (by rfl)) (@aa _ _ _ _ _ (@aj _ _ _ _ _ _ _ _ _ _ _ _ _ T.told_parts G_told_parts (hr.mono (by decide)) (by rfl) (@aa _ _ _ _ _ (pv 0) (@aa _ _ _ _ _ (a9 (pv 4) rfl) (@aa _ _ _ _ _ (d8 cL af) ae (by rfl)) (by rfl)) (by rfl)) (by decide) (by rfl) (by rfl)) ae (by rfl)) (by rfl))))))),?_⟩
 try dsimp only[bh]
 refine⟨_,inferInstance,?_⟩
 rintro vs M q ⟨p,s,D,Z,Zm,sts,pat,rfl,hp,s0,s8,srl,hpat,wz,z0,d0,d1,hZm,hZ3,hB9,hn,k⟩
 have p0:0<p:=by lia
 have clR:=eq_true T.Row.cl
 have nR1:=eq_true T.n_Row_lamps
 have nR2:=eq_true T.n_Row_parts
 dsimp? []
 rw[jq]
 dsimp? []
 have gpat:=dc hpat
 have hpl:pat.length<=1000000:=by have:=wz.len gpat z0;have:0<=(sts.length:Int)*(D+s):=Int.mul_nonneg (by lia) (by lia);lia
 refine⟨prW pat,by rw[nJ],by rw[prW,List.length_map];exact hpl,fun l1 hl1=> ?_⟩
 rw[og pat gpat.1]
 intro p1 hp1 r dr hr hdr hdrr
 refine⟨r,dr,wr l1,wr p1,rfl,ab,rfl,?_⟩
 dsimp? []
 have n1:l1≠p1:=aZ ab hp1
 have n1r:l1≠r:=aZ (by rw[ag n1];exact ab) hr
 have n2r:p1≠r:=aZ ab hr
 have row0:RowAt p (um (um (um M l1 (.dK (kvW pat))) p1 (.dK [])) r (.ins A.c_Row dr [("lamps",wr l1),("parts",wr p1)])) l1 p1 pat []:=
   ⟨by rw[ag n1r,ag n1];exact ab,by rw[ag n2r];exact ab,(fun t ht=>by cases ht),gpat,(fun t ht=>by cases ht),List.nodup_nil,by simp[av,n1]⟩
 have hr0:um (um (um M l1 (.dK (kvW pat))) p1 (.dK [])) r (.ins A.c_Row dr [("lamps",wr l1),("parts",wr p1)]) r=some (.ins A.c_Row dr [("lamps",wr l1),("parts",wr p1)]):=ab
 have sm0:Sm M (um (um (um M l1 (.dK (kvW pat))) p1 (.dK [])) r (.ins A.c_Row dr [("lamps",wr l1),("parts",wr p1)])):=((aF hl1).trans (aF hp1)).trans (aF hr)
 have fp1:M p1=none:=by rw[ag (Ne.symm n1)] at hp1;exact hp1
 have fr:M r=none:=by rw[ag (Ne.symm n2r),ag (Ne.symm n1r)] at hr;exact hr
 generalize um (um (um M l1 (.dK (kvW pat))) p1 (.dK [])) r (.ins A.c_Row dr [("lamps",wr l1),("parts",wr p1)])=M1 at row0 hr0 sm0 ⊢
 have fR1: [(("lamps" :Str),wr l1),(("parts" :Str),wr p1)].lookup ("lamps" :Str)=some (wr l1):=rfl
 have fR2: [(("lamps" :Str),wr l1),(("parts" :Str),wr p1)].lookup ("parts" :Str)=some (wr p1):=rfl
 rw[sF]
 dsimp? []
 refine cZ (fun i ρ M'=> ∃ (o5 o6:Option W) (c:Pt) (P':Pq),ρ= [some (wi p),some (wi s),some (.tup (sts.map aQ)),some (aQ pat),some (wr r),o5,o6] /\ M' r=some (.ins A.c_Row dr [("lamps",wr l1),("parts",wr p1)]) /\ RowAt p M' l1 p1 c P' /\ Took s p sts D Zm pat c P' i /\ Wt (Z+i*(D+s)) c /\ Sm M M' /\ (∀x∈av l1 p1 P',M x=none) /\ (∀t∈P',t.2.2.length<=i*(2*Zm+2).toNat))
   ⟨none,none,pat,[],rfl,hr0,row0,⟨rfl,fun i _ _ _ h=>absurd h (Nat.not_lt_zero i),fun x=> ?i1,(fun w h=>by cases h),(fun _ w x h=>absurd rfl h),(fun w x h=>absurd rfl h),List.nodup_nil,(fun t h=>by cases h)⟩,?i2,sm0,?i3,(fun t h=>by cases h)⟩ ?_ ?_ ?_
 case i1=>show _=(look pat x+0) % p;rw[Int.add_zero,aU p0 gpat]
 case i2=>intro x hx;have:=wz x hx;simp;lia
 case i3=>
   intro x hx
   simp only[av,List.mem_cons,List.map_nil,List.not_mem_nil,or_false] at hx
   rcases hx with rfl | rfl
   · exact hl1
   · exact fp1
 · intro i ρ M' _ _;trivial
 · rintro i x ρ M' hx ⟨o5,o6,c,P',rfl,hr1,row,tk,wc,sm,frs,hin⟩ N hN
   obtain⟨y,hy,rfl⟩:=u0 hx
   obtain⟨st,hst,rfl⟩:=fR hy
   obtain⟨cl,len,sr,hlen⟩:=srl.each i st hst
   have gst:=dc sr.pat
   have hil:=(List.getElem?_eq_some_iff.mp hst).1
   have hsl:=sr.wt.len gst d0
   dsimp? []
   rw[jq]
   dsimp? []
   refine⟨prW st,by rw[nJ],by rw[prW,List.length_map];lia,fun e1 he1=> ?_⟩
   rw[og st gst.1]
   dsimp? [qe]
   intro q1 hq1 q2 hq2
   have n12:e1≠q1:=aZ ab hq1
   have n13:e1≠q2:=aZ (by rw[ag n12];exact ab) hq2
   have n23:q1≠q2:=aZ ab hq2
   have f1:M' q1=none:=by rw[ag (Ne.symm n12)] at hq1;exact hq1
   have f2:M' q2=none:=by rw[ag (Ne.symm n23),ag (Ne.symm n13)] at hq2;exact hq2
   refine⟨.inl 0,rfl,by rw[ag n23];exact ab, .inl i,rfl,?_⟩
   intro x dx hx' hdx hdxx
   have n1x:e1≠x:=aZ (by rw[ag n12,ag n13,ag n12];exact ab) hx'
   have n2x:q1≠x:=aZ ab hx'
   have n3x:q2≠x:=aZ (by rw[ag (Ne.symm n23)];exact ab) hx'
   have f3:M' x=none:=by rw[ag (Ne.symm n2x),ag (Ne.symm n3x),ag (Ne.symm n2x),ag (Ne.symm n1x)] at hx';exact hx'
   refine⟨x,dx,wr e1,wr q1,rfl,ab,rfl,?_⟩
   rw[mX]
   have rowS:RowAt p (um (um (um (um (um M' e1 (.dK (kvW st))) q1 (.dK [])) q2 (.dK [(.inl 0,W.v (V.int 1))])) q1 (.dK [(.inl (i:Int),wr q2)])) x (.ins A.c_Row dx [("lamps",wr e1),("parts",wr q1)])) e1 q1 st [((i:Int),q2,[(0,1)])]:=
     ⟨by rw[ag n1x,ag n12,ag n13,ag n12];exact ab,by rw[ag n2x];exact ab,(fun t ht=>by rw[List.mem_singleton.mp ht,ag n3x,ag (Ne.symm n23)];exact ab),gst,
       (fun t ht=>by rw[List.mem_singleton.mp ht];exact⟨by simp,fun z hz=>by rw[List.mem_singleton.mp hz];exact⟨by decide,by show(1:Int) <p;lia⟩⟩),by simp,by simp[av,n12,n13,n23]⟩
   have hxs:um (um (um (um (um M' e1 (.dK (kvW st))) q1 (.dK [])) q2 (.dK [(.inl 0,W.v (V.int 1))])) q1 (.dK [(.inl (i:Int),wr q2)])) x (.ins A.c_Row dx [("lamps",wr e1),("parts",wr q1)]) x=some (.ins A.c_Row dx [("lamps",wr e1),("parts",wr q1)]):=ab
   have sm1:Sm M' (um (um (um (um (um M' e1 (.dK (kvW st))) q1 (.dK [])) q2 (.dK [(.inl 0,W.v (V.int 1))])) q1 (.dK [(.inl (i:Int),wr q2)])) x (.ins A.c_Row dx [("lamps",wr e1),("parts",wr q1)])):=fun d o e=>by
     rw[ag (aZ e f3),ag (aZ e f1),ag (aZ e f2),ag (aZ e f1),ag (aZ e he1)];exact e
   generalize um (um (um (um (um M' e1 (.dK (kvW st))) q1 (.dK [])) q2 (.dK [(.inl 0,W.v (V.int 1))])) q1 (.dK [(.inl (i:Int),wr q2)])) x (.ins A.c_Row dx [("lamps",wr e1),("parts",wr q1)])=M2 at rowS hxs sm1 ⊢
   have hsne:st≠ []:=fun z=>by have:=sr.bot;rw[z] at this;cases this
   refine⟨x,dx,e1,q1,p,s,st,[((i:Int),q2,[(0,1)])],1,D,rfl,hxs,hp,s0,s8,rowS,hsne,sr.wt,d0,d1,(fun t ht=>by rw[List.mem_singleton.mp ht];exact Nat.le_refl _),by decide,by simp,fun M3 o ds ol op b Q f m t foot tn ho rowQ stf mn tn0 tn1 htn eb eq sm3 fr3 lenQ keyQ=> ?_⟩
   obtain⟨rfl,rfl,rfl⟩:=sr.mn s0 mn
   have etn:tn=1:=by rw[sr.top,Int.mul_one,Int.emod_eq_of_lt (by lia) tn1] at htn;exact htn
   subst etn
   have eb':look b=look st:=funext fun x=>by rw[eb,Int.mul_zero,Int.add_zero,Int.mul_one,aU p0 gst]
   have eq': ∀w x,look (pf Q w) x=if w=(i:Int) /\ x=0 then 1 else 0:=fun w x=>by
     rw[eq,Int.add_zero,Int.mul_one]
     by_cases hw:w=(i:Int)
     · subst hw
       have e:pf [((i:Int),q2,[(0,1)])] (i:Int)= [(0,1)]:=by simp[pf]
       rw[e]
       by_cases hx:x=0
       · subst hx;rw[if_pos ⟨rfl,rfl⟩];show(1:Int) % p=1;exact Int.emod_eq_of_lt (by decide) (by lia)
       · rw[if_neg (fun z=>hx z.2)]
         have:look [((0:Int),(1:Int))] x=0:=bo fun q hq e=>hx (by rw[List.mem_singleton.mp hq] at e;exact e.symm)
         rw[this];rfl
     · have e:pf [((i:Int),q2,[(0,1)])] w= []:=jL (by simp;exact hw)
       rw[e,if_neg (fun z=>hw z.1)];rfl
   rw[Int.sub_zero] at ho stf
   have hr3:=sm3 _ _ (sm1 _ _ hr1)
   have smM3:Sm M M3:=fun d u e=>sm3 _ _ (sm1 _ _ (sm _ _ e))
   have frM3: ∀d,M3 d=none ->M d=none:=fun d hd=>by
     cases e:M d with
     | none=>rfl
     | some o=>rw[smM3 _ _ e] at hd;cases hd
   have row3:RowAt p M3 l1 p1 c P':=row.keep (dJ.sm (sm1.trans sm3) []) (fun d _ h=>by cases h)
   have dis: ∀x∈av l1 p1 P',x∉av ol op Q:=fun x hx hx2=>by
     obtain⟨kvs,e⟩:=row.mem hx
     have:=fr3 x (List.mem_cons_of_mem _ hx2)
     rw[sm1 _ _ e] at this;cases this
   have wb':Wt D b:=fun x hx=>sr.wt x (by rw[<- eb'];exact hx)
   have hkQ: ∀w∈Q.map (·.1),w∈ [(i:Int)]:=keyQ
   have hQl:=uG rowQ.ndk hkQ
   have hPl:=tk.len
   have hZi:Z+i*(D+s) <=Zm:=by
     have:=Int.mul_le_mul_of_nonneg_right (show(i:Int) <=sts.length by lia) (show 0<=D+s by lia)
     lia
   have hZ0:0<=(i:Int)*(D+s):=Int.mul_nonneg (by lia) (by lia)
   have hBi:i*(2*Zm+2).toNat+(2*(Z+i*(D+s))+2).toNat*1<=(i+1)*(2*Zm+2).toNat:=by
     rw[Nat.add_mul,Nat.one_mul,Nat.mul_one];lia
   have hBn:(i+1)*(2*Zm+2).toNat<=90000:=by
     refine Nat.le_trans (Nat.mul_le_mul_right _ (show i+1<=sts.length from hil)) (Nat.le_trans ?_ hB9)
     exact Nat.le_mul_of_pos_left _ (by lia)
   have nir:r∉av l1 p1 P':=fun hd=>by obtain⟨kvs,e⟩:=row.mem hd;rw[hr1] at e;cases e
   refine⟨r,dr,l1,p1,o,ds,ol,op,p,s,_,_,foot,c,b,P',Q,i*(2*Zm+2).toNat,1,Z+i*(D+s),D,rfl,hr3,ho,hp,s0,s8,hlen,stf,row3,rowQ,dis,wc,wb',by lia,by lia,d0,d1,hin,lenQ,by lia,by decide,by lia,fun M4 c4 P4 js row4 ec ep ej elow elowc ew kp4 fr4 sub4 hin4 hky4 hct hjr=>hN _ _ ⟨_,_,c4,P4,rfl,kp4 _ _ hr3 nir,row4,
     tk.step p0 s0 srl hst sr eb' stf.ft.1 stf.ft.2 (by rw[<- eb',Int.mul_comm];exact stf.bot) row.ga row4.ndk row4.gp ec ep eq' ej elow elowc (fun w hw=>(hky4 w hw).imp id fun z=>List.mem_singleton.mp (hkQ w z)) hct (fun j hj=>by have:=hjr j hj;lia),?_,fun d u e=>kp4 _ _ (smM3 _ _ e) fun hd=>(by rw[frs d hd] at e;cases e),fun d hd=>(fr4 d hd).elim (frs d) (frM3 d),fun t ht=>Nat.le_trans (hin4 t ht) hBi⟩⟩
   have ez:Z+((i+1:Nat):Int)*(D+s)=Z+i*(D+s)+D+s:=by push_cast;rw[Int.add_mul,Int.one_mul];lia
   rw[ez];exact ew
 · rintro ρ M' ⟨o5,o6,c,P',rfl,hr1,row,tk,wc,sm,frs,hin⟩
   have hlam:=row.lam
   have hpar:=row.par
   dsimp? [hr1,clR,nR1,nR2,fR1,fR2,hlam]
   intro u hu
   have elen:(cE (sts.map aQ)).length=sts.length:=by unfold cE;rw[List.length_map,List.length_range,List.length_map]
   rw[elen] at tk wc hin
   have hkv:(kvW c).map (fun kv=>W.tup [bA kv.1,kv.2])=c.map aG:=by unfold kvW;rw[List.map_map];rfl
   rw[hkv]
   have hnn:0<=(sts.length:Int)*(D+s):=Int.mul_nonneg (by lia) (by lia)
   have hcl:=wc.len row.ga (by lia)
   refine⟨u,p,c,rfl,ab,p0,few,by lia,?_⟩
   have nru:r≠u:=aZ hr1 hu
   dsimp? [ag nru,hr1,clR,nR2,fR2]
   have hPl:=tk.len
   have hPB:P'.length*(sts.length*(2*Zm+2).toNat) <=90000:=Nat.le_trans (Nat.mul_le_mul_right _ hPl) hB9
   have hB1:sts.length*(2*Zm+2).toNat<=90000:=by
     rcases Nat.eq_zero_or_pos sts.length with z | z
     · rw[z,Nat.zero_mul];decide
     · exact Nat.le_trans (Nat.le_mul_of_pos_left _ z) hB9
   refine⟨l1,p1,p, -1,c,P',sts.length*(2*Zm+2).toNat,rfl,p0,by lia,by decide,by decide,row.keep (dJ.sm (aF hu) []) (fun d _ h=>by cases h),by lia,hin,hB1,hPB,fun t M2 tl sm2 ht hM2 hperm=>exM (k t M2 (nrm p c) tl P' (bV p0 c) (fun x hx=> ?_) (tk.ext (funext fun x=> ?_)) hperm ?_ ?_ hM2)⟩
   · rw[cB p0,bQ row.ga.1,aU p0 row.ga] at hx
     have:=wc x hx;lia
   · rw[cB p0,bQ row.ga.1,aU p0 row.ga]
   · exact sm.trans ((aF hu).trans sm2)
   · cases e:M t with
     | none=>rfl
     | some o=>rw[aF hu _ _ (sm _ _ e)] at ht;cases ht
theorem l7 (T:Txt K mg A):FnOk P w K mg base CX0 6 A.f_rest_of A.d_rest_of ["p","stride","stairs","pattern"] (spW K xc):=by
 have G_taken:=rS (P:=P) (w:=w) (base:=base) T
 refine okS T.rest_of.fn gI (by rintro vs M q ⟨p,s,D,Z,Zm,sts,pat,rfl,_⟩;rfl) fun cdv A' outer s H E hr=> ?_
 have nd:=gI.nd
 refine⟨_,(ak (az (a0 cN (@aj _ _ _ _ _ _ _ _ _ _ _ _ _ T.taken G_taken (hr.mono (by decide)) (by rfl) (@aa _ _ _ _ _ (pv 0) (@aa _ _ _ _ _ (pv 1) (@aa _ _ _ _ _ (pv 2) (@aa _ _ _ _ _ (pv 3) ae (by rfl)) (by rfl)) (by rfl)) (by rfl)) (by decide) (by rfl) (by rfl)) af (fun _ _=>rfl)))),?_⟩
 try dsimp only[bh]
 refine⟨_,inferInstance,?_⟩
 rintro vs M q ⟨p,s,D,Z,Zm,sts,pat,rfl,hp,s0,s8,srl,hpat,wz,z0,d0,d1,hZm,hZ3,hB9,hn,k⟩
 dsimp? []
 refine⟨p,s,D,Z,Zm,sts,pat,rfl,hp,s0,s8,srl,hpat,wz,z0,d0,d1,hZm,hZ3,hB9,hn,fun t M' rest tl P hr wr tk _ sm _ _=> ?_⟩
 dsimp? []
 exact⟨M,sm,k rest P hr wr tk⟩
end
end K20
open PySem L2 WL WP WQ EN PyProof.Rows
namespace K20
open PySem L2 WL WP WQ EN PyProof.Rows
section
variable {P:Program}{w:World}{K:PySem.W.Frag}{mg:Str ->Option Value}{base:Heap}{A:Adr}
theorem gn (T:Txt K mg A):FnOk P w K mg base CX0 2 A.f_l_draw_stair A.d_l_draw_stair ["_law_draw","_law_p_here","_law_stride","_law_at"] (spW K xi):=by
 have G_l_take:=cY (P:=P) (w:=w) (base:=base) T
 have G_l_tidy:=fO (P:=P) (w:=w) (base:=base) T
 have G_l_column:=dD (P:=P) (w:=w) (base:=base) T
 refine okS T.l_draw_stair.fn dk (by rintro vs M q ⟨d,l,p,s,c,rfl,_⟩;rfl) fun cdv A' outer s H E hr=> ?_
 have nd:=dk.nd
 refine⟨_,(ah (@aB _ _ (4) _ _ _ _ nd rfl (by first | exact Or.inl rfl | exact Or.inr rfl) (jM (@aa _ _ _ _ _ (bZ (@aa _ _ _ _ _ (pv 3) (@aa _ _ _ _ _ af ae (by rfl)) (by rfl))) ae (by rfl))) (by rfl) (by first | exact .inl rfl | exact .inr rfl | assumption)) (ah (@aB _ _ (5) _ _ _ _ nd rfl (by first | exact Or.inl rfl | exact Or.inr rfl) (aq bf (@aj _ _ _ _ _ _ _ _ _ _ _ _ _ T.l_take G_l_take (hr.mono (by decide)) (by rfl) (@aa _ _ _ _ _ (pv 0) (@aa _ _ _ _ _ af ae (by rfl)) (by rfl)) (by decide) (by rfl) (by rfl)) (@aY _ _ _ _ _ _ _ _ _ fY (by rfl) T.b_int Boot.«int» (@aa _ _ _ _ _ (gx gU (pv 2) af (@aH _ _ (by decide) (by decide))) ae (by rfl)) (by decide) (by decide) (by rfl) (by rfl))) (by rfl) (by first | exact .inl rfl | exact .inr rfl | assumption)) (ah (bw (aE gU (pv 5) af (@aH _ _ (by decide) (by decide))) (ah (@aB _ _ (4) _ _ _ _ nd rfl (by first | exact Or.inl rfl | exact Or.inr rfl) (jM (@aa _ _ _ _ _ (bZ (@aa _ _ _ _ _ (pv 3) (@aa _ _ _ _ _ (aq a5 af (@aj _ _ _ _ _ _ _ _ _ _ _ _ _ T.l_take G_l_take (hr.mono (by decide)) (by rfl) (@aa _ _ _ _ _ (pv 0) (@aa _ _ _ _ _ (aq b0 (pv 1) af) ae (by rfl)) (by rfl)) (by decide) (by rfl) (by rfl))) ae (by rfl)) (by rfl))) (@aa _ _ _ _ _ (bZ (@aa _ _ _ _ _ (aq a5 (pv 3) (aq bf (pv 5) (pv 2))) (@aa _ _ _ _ _ af ae (by rfl)) (by rfl))) ae (by rfl)) (by rfl))) (by rfl) (by first | exact .inl rfl | exact .inr rfl | assumption)) (ak (@cj _ _ _ _ (@rK _ _ _ _ _ _ _ _ _ _ _ _ PySem.F.plainAttrs_list PySem.F.slot_list_extend PySem.F.type_list_extend oP (pv 4) (@aa _ _ _ _ _ (@bU _ _ _ _ _ _ _ _ _ _ _ _ _ _ rfl (CScope.of (sc:=ai bH) (N:= ["_law_draw","_law_p_here","_law_stride","_law_at","_law_pairs","_law_many","_law_k","_law_place"]) (own:= ["_law_k"]) (fr:= [3,0,1,2]) (N':= ["_law_k","_law_at","_law_draw","_law_p_here","_law_stride"]) rfl rfl rfl (by decide+kernel) rfl (by decide+kernel) (by decide+kernel) (by decide+kernel) (by decide+kernel) (by decide+kernel)) (@oI _ _ _ _ _ _ _ (by rfl) T.b_range (@aa _ _ _ _ _ af (@aa _ _ _ _ _ (pv 5) ae (by rfl)) (by rfl)) (by rfl) (by rfl)) (fun _ _ _ _=>(@ax _ _ (0) _ (by show(["_law_k","_law_at","_law_draw","_law_p_here","_law_stride"]:List Str).Nodup;decide+kernel) rfl (by first | exact Or.inl rfl | exact Or.inr rfl) (by first | exact .inl rfl | exact .inr rfl | assumption))) bC (fun _ _ _ _=>c7) (fun _ _ _ _=>(bZ (@aa _ _ _ _ _ (aq a5 (pv 1) (aq bf (pv 0) (pv 4))) (@aa _ _ _ _ _ (@aj _ _ _ _ _ _ _ _ _ _ _ _ _ T.l_take G_l_take (hr.mono (by decide)) (by rfl) (@aa _ _ _ _ _ (pv 2) (@aa _ _ _ _ _ (pv 3) ae (by rfl)) (by rfl)) (by decide) (by rfl) (by rfl)) ae (by rfl)) (by rfl)))) (by intro _;rfl)) ae (by rfl)) (by rfl) (by rfl) (by rfl) (by rfl) (by rfl)) (by rfl)))) aX) (ah (@bR _ _ _ _ _ _ _ _ PassesOwn.never rfl (@cW _ _ _ _ _ _ (by rfl) T.b_range (@aa _ _ _ _ _ (@aj _ _ _ _ _ _ _ _ _ _ _ _ _ T.l_take G_l_take (hr.mono (by decide)) (by rfl) (@aa _ _ _ _ _ (pv 0) (@aa _ _ _ _ _ af ae (by rfl)) (by rfl)) (by decide) (by rfl) (by rfl)) ae (by rfl)) (by rfl)) (@ax _ _ (6) _ nd rfl (by first | exact Or.inl rfl | exact Or.inr rfl) (by first | exact .inl rfl | exact .inr rfl | assumption)) (ah (@aB _ _ (7) _ _ _ _ nd rfl (by first | exact Or.inl rfl | exact Or.inr rfl) (aq b0 (@aj _ _ _ _ _ _ _ _ _ _ _ _ _ T.l_take G_l_take (hr.mono (by decide)) (by rfl) (@aa _ _ _ _ _ (pv 0) (@aa _ _ _ _ _ af ae (by rfl)) (by rfl)) (by decide) (by rfl) (by rfl)) af) (by rfl) (by first | exact .inl rfl | exact .inr rfl | assumption)) (ak (bw (aE gU (@aj _ _ _ _ _ _ _ _ _ _ _ _ _ T.l_column G_l_column (hr.mono (by decide)) (by rfl) (@aa _ _ _ _ _ (pv 7) (@aa _ _ _ _ _ (pv 2) ae (by rfl)) (by rfl)) (by decide) (by rfl) (by rfl)) (pv 3) (@aH _ _ (by decide) (by decide))) (ak (@cj _ _ _ _ (@rK _ _ _ _ _ _ _ _ _ _ _ _ PySem.F.plainAttrs_list PySem.F.slot_list_append PySem.F.type_list_append dU (pv 4) (@aa _ _ _ _ _ (bZ (@aa _ _ _ _ _ (pv 7) (@aa _ _ _ _ _ (aq a5 af (@aj _ _ _ _ _ _ _ _ _ _ _ _ _ T.l_take G_l_take (hr.mono (by decide)) (by rfl) (@aa _ _ _ _ _ (pv 0) (@aa _ _ _ _ _ (aq b0 (pv 1) af) ae (by rfl)) (by rfl)) (by decide) (by rfl) (by rfl))) ae (by rfl)) (by rfl))) ae (by rfl)) (by rfl) (by rfl) (by rfl) (by rfl) (by rfl)) (by rfl))) aX))) (by intro _;rfl)) (ak (az (@aj _ _ _ _ _ _ _ _ _ _ _ _ _ T.l_tidy G_l_tidy (hr.mono (by decide)) (by rfl) (@aa _ _ _ _ _ (pv 1) (@aa _ _ _ _ _ (pv 4) ae (by rfl)) (by rfl)) (by decide) (by rfl) (by rfl)))))))),?_⟩
 try dsimp only[bh]
 refine⟨_,inferInstance,?_⟩
 rintro vs M q ⟨d,l,p,s,c,rfl,hD,p2,p7,s0,s8,hc,hc6,k⟩
 have p0:0<p:=by omega
 dsimp? []
 intro a ha
 obtain⟨nad,nal⟩:=hD.ne ha
 dsimp? []
 refine⟨d,l,4,rfl,hD.put ha,by decide,by decide,fun m M2 g0 g1 D2 b2=> ?_⟩
 have hM2:M2 a=some (.lst [aG (c,1)]):=by rw[b2 a nad,ab];rfl
 have s2:SmB d M M2:=fun b o n e=>by rw[b2 b n,ag (aZ e ha)];exact e
 have cm:bF m (if decide (0<s)=true then 1 else 0)=True:=by simp only[bF];split<;>simp
 dsimp? []
 refine .inr ⟨_,rfl,?_⟩
 simp? [↓aR,cm]
 refine cP ?_
 have hm:0<=m*(if decide (0<s)=true then 1 else 0) /\ m*(if decide (0<s)=true then 1 else 0) <=3 /\ (0<m*(if decide (0<s)=true then 1 else 0) ->0<s):=by
   by_cases h:0<s
   · rw[if_pos (decide_eq_true h),Int.mul_one];exact⟨by omega,by omega,fun _=>h⟩
   · rw[if_neg (by simpa using h),Int.mul_zero];exact⟨by omega,by omega,by omega⟩
 generalize m*(if decide (0<s)=true then 1 else 0)=m' at hm
 clear cm g0 g1
 obtain⟨m0,m1,m2⟩:=hm
 generalize m'=m at m0 m1 m2
 refine j0 (fun ρ M3=> ∃ (e:Addr) (ps:Pt),ρ= [some (wr d),some (wi p),some (wi s),some (wi c),some (wr e),some (wi m),none,none] /\ Dr M3 d l /\ SmB d M M3 /\ M e=none /\ e≠d /\ e≠l /\ M3 e=some (.lst (ps.map aG)) /\ (ps.length:Int) <=m+1 /\ PreS s c p m ps) ?_ fun N hN=> ?_
 rotate_left
 · dsimp? []
   refine a4 (fun h=> ?_) fun h=>hN _ _ ⟨a,[(c,1)],rfl,D2,s2,ha,nad,nal,hM2,by simp;omega,(show m=0 by omega)▸PreS.one (by omega)⟩
   have cm:bF m s=True:=eq_true (.inl ⟨by omega,by omega⟩)
   dsimp? []
   refine⟨d,l,p - 1,rfl,D2,by omega,by omega,fun r M3 r0 r1 D3 b3=> ?_⟩
   dsimp? [cm]
   intro e he
   obtain⟨ned,nel⟩:=D3.ne he
   have heM:M e=none:=by
     cases e2:M e with
     | none=>rfl
     | some o=>have:=s2 e o ned e2;rw[b3 e ned,this] at he;cases he
   dsimp? []
   refine⟨⟨by omega,by omega⟩,mM (by rw[cT];exact big (by omega)) fun t ht=> ?_⟩
   have htM:M t=none:=by
     cases e2:M t with
     | none=>rfl
     | some o=>
       exfalso
       have ntd:t≠d:=((D3.put he).ne ht).1
       have h2:=((s2.trans (SmB.nb b3)).um heM (o:= .lst [W.tup [wi c,W.v (V.int (1+r))],W.tup [W.v (V.int (c+m*s)),W.v (V.int 1)]])) t o ntd e2
       rw[ht] at h2;cases h2
   refine⟨fun i ys M'=> ∃ps:Pt,ys=ps.map aG /\ ps.length=i /\ (∀z∈ps, ∃k:Int,1<=k /\ k<m /\ z.1=c+k*s) /\ Dr M' d l /\ M' t=some (.lst ys) /\ M' e=some (.lst [aG (c,1+r),aG (c+m*s,1)]) /\ SmB d M M',⟨[],rfl,rfl,by simp,?_,ab,?_,?_⟩,?_,?_,?_⟩
   · exact(D3.put he).put ht
   · rw[ag (aZ ab ht),ab];rfl
   · exact((s2.trans (SmB.nb b3)).um heM).um htM
   · rintro i ys M' hi ⟨ps,rfl,hl,_,_,hM,_⟩
     exact⟨trivial,hM,by rw[List.length_map];omega⟩
   · rintro i x ys M' hx ⟨ps,rfl,hl,hk,D5,hM,hMe,s5⟩ N2 hN2
     obtain⟨hi,rfl⟩:=cU hx
     obtain⟨ntd,ntl⟩:=(D3.put he).ne ht
     have nte:t≠e:=fun z=>by rw[z,ab] at ht;cases ht
     have cm2:bF (1+(i:Int)) s=True:=eq_true (.inl ⟨by omega,by omega⟩)
     simp? [↓aR,cm2]
     refine⟨d,l,p,rfl,D5,by omega,by omega,fun g M6 g0 g1 D6 b6=> ?_⟩
     simp? [↓aR]
     refine⟨by rw[b6 t ntd];exact hM,hN2 _ _ ⟨ps++ [(c+(1+(i:Int))*s,g)],by rw[List.map_append];rfl,by simp[hl],fun z hz=> ?_,D6.put' ntd ntl,ab,by rw[ag (Ne.symm nte),b6 e ned];exact hMe,?_⟩⟩
     · rcases List.mem_append.mp hz with hz | hz
       · exact hk z hz
       · rw[List.mem_singleton.mp hz];exact⟨1+(i:Int),by omega,by omega,rfl⟩
     · exact(s5.trans (SmB.nb b6)).um htM
   · rintro ys M' ⟨ps,rfl,hl,hk,D5,hM,hMe,s5⟩
     rw[cT] at hl
     refine⟨e,t,_,_,rfl,rfl,hMe,hM,big (by simp;omega),?_⟩
     exact hN _ _ ⟨e,[(c,1+r),(c+m*s,1)]++ps,rfl,D5.put' ned nel,s5.um heM,heM,ned,nel,by rw[ab,List.map_append];rfl,by simp;omega,PreS.two r0 (by omega) (m2 h) h hk⟩
 rintro ρ M3 ⟨e,ps,rfl,D3,s3,heM,ned,nel,hM3,hps,hpre⟩
 dsimp? []
 refine⟨d,l,4,rfl,D3,by decide,by decide,fun n M4 n0 n1 D4 b4=> ?_⟩
 dsimp? []
 refine⟨⟨by omega,by omega⟩,cZ (fun i ρ M5=> ∃ (o1 o2:Option W) (ps:Pt),ρ= [some (wr d),some (wi p),some (wi s),some (wi c),some (wr e),some (wi m),o1,o2] /\ Dr M5 d l /\ SmB d M M5 /\ M5 e=some (.lst (ps.map aG)) /\ (ps.length:Int) <=m+1+i /\ PreS s c p m ps) ⟨none,none,ps,rfl,D4,s3.trans (SmB.nb b4),by rw[b4 e ned];exact hM3,by omega,hpre⟩ (fun _ _ _ _ _=>trivial) ?_ ?_⟩
 · rintro i x ρ M5 hx ⟨o1,o2,ps,rfl,D5,s5,hM5,hps,hpre⟩ N hN
   obtain⟨hi,rfl⟩:=cU hx
   dsimp? []
   refine⟨d,l,19,rfl,D5,by decide,by decide,fun r M6 r0 r1 D6 b6=> ?_⟩
   have h6:M6 e=some (.lst (ps.map aG)):=by rw[b6 e ned];exact hM5
   dsimp? []
   refine⟨r - 9,s,rfl,s0,by omega,?_⟩
   dsimp? []
   refine a4 (fun h=> ?_) fun h=>hN _ _ ⟨_,_,ps,rfl,D6,s5.trans (SmB.nb b6),h6,by omega,hpre⟩
   dsimp? [h6]
   refine⟨d,l,p - 1,rfl,D6,by omega,by omega,fun g M7 g0 g1 D7 b7=> ?_⟩
   have h7:M7 e=some (.lst (ps.map aG)):=by rw[b7 e ned];exact h6
   have hs:((ps.map aG).length<sizeLine)=True:=by rw[List.length_map];exact eq_true (mQ (by omega))
   dsimp? [h7,hs]
   exact hN _ _ ⟨_,_,ps++ [(r - 9,1+g)],rfl,D7.put' ned nel,((s5.trans (SmB.nb b6)).trans (SmB.nb b7)).um heM,by rw[ab,List.map_append];rfl,by rw[List.length_append,List.length_singleton];omega,hpre.snoc hc h ⟨by show -9<=r - 9;omega,by show r - 9<=9;omega⟩⟩
 · rintro ρ M5 ⟨o1,o2,ps,rfl,D5,s5,hM5,hps,hpre⟩
   rw[cT] at hps
   dsimp? []
   refine⟨e,p,ps,rfl,hM5,p0,few,by omega,?_⟩
   dsimp? []
   have hms:s=0 ->m=0:=fun z=>by
     rcases Int.lt_or_le 0 m with y | y
     · have:=m2 y;omega
     · omega
   have hb:0<=m*s /\ m*s<=24:=by
     refine⟨Int.mul_nonneg m0 s0,?_⟩
     have h1:=Int.mul_le_mul_of_nonneg_right m1 s0
     omega
   have hcD: -(if s=0 then 9 else 31) <=c /\ c+m*s<=(if s=0 then 9 else 31):=by
     split
     · rename_i z
       have:=hc6 z;have e0:=hms z;rw[e0,Int.zero_mul];omega
     · rename_i z
       rcases hc with y | y
       · exact absurd y z
       · omega
   refine exM (k _ m _ (hpre.pre.st p0 hc (by omega)) (hpre.sr (by omega) s0 hc m0 hms (by split<;>decide) hcD) (by omega) (Nat.le_trans (nN _ _) ?_) D5 s5)
   omega
end
end K20
open PySem L2 WL WP WQ EN PyProof.Rows
namespace K20
open PySem L2 WL WP WQ EN PyProof.Rows
section
variable {P:Program}{w:World}{K:PySem.W.Frag}{mg:Str ->Option Value}{base:Heap}{A:Adr}
theorem fP (T:Txt K mg A):FnOk P w K mg base CX0 3 A.f_l_draw_stairs A.d_l_draw_stairs ["_law_draw","_law_p_here","_law_stride"] (spW K pDSrS):=by
 have G_l_take:=cY (P:=P) (w:=w) (base:=base) T
 have G_l_draw_stair:=gn (P:=P) (w:=w) (base:=base) T
 refine okS T.l_draw_stairs.fn cR (by rintro vs M q ⟨d,l,p,s,rfl,_⟩;rfl) fun cdv A' outer s H E hr=> ?_
 have nd:=cR.nd
 refine⟨_,(ah (@aB _ _ (3) _ _ _ _ nd rfl (by first | exact Or.inl rfl | exact Or.inr rfl) (@l6 _ _ _ _ _ _ _ (by rfl) T.b_list (by rfl) T.b_range rfl (@aa _ _ _ _ _ (pv 2) ae (by rfl)) (by rfl) (by rfl)) (by rfl) (by first | exact .inl rfl | exact .inr rfl | assumption)) (ah (bw (aE dC (pv 2) af (@aH _ _ (by decide) (by decide))) (ak (@aB _ _ (3) _ _ _ _ nd rfl (by first | exact Or.inl rfl | exact Or.inr rfl) (@gT _ _ _ _ _ _ _ _ (by rfl) T.b_list (by rfl) T.b_range rfl (@aa _ _ _ _ _ (d8 cL af) (@aa _ _ _ _ _ af ae (by rfl)) (by rfl)) (by rfl) (by rfl) (by rfl)) (by rfl) (by first | exact .inl rfl | exact .inr rfl | assumption))) aX) (ah (@lZ _ (4) _ _ _ _ _ _ _ _ _ _ _ _ _ _ _ _ rfl nd rfl (Or.inl rfl) (CScope.of (sc:=ai bj) (N:= ["_law_draw","_law_p_here","_law_stride","_law_columns","_law_kept"]) (own:= ["_law_at"]) (fr:= [0,2]) (N':= ["_law_at","_law_draw","_law_stride"]) rfl rfl rfl (by decide+kernel) rfl (by decide+kernel) (by decide+kernel) (by decide+kernel) (by decide+kernel) (by decide+kernel)) (bu (pv 3)) (fun _ _ _ _=>(@ax _ _ (0) _ (by show(["_law_at","_law_draw","_law_stride"]:List Str).Nodup;decide+kernel) rfl (by first | exact Or.inl rfl | exact Or.inr rfl) (by first | exact .inl rfl | exact .inr rfl | assumption))) bC (fun _ _ _ _=>(dR (aE gU (@aj _ _ _ _ _ _ _ _ _ _ _ _ _ T.l_take G_l_take (hr.mono (by decide)) (by rfl) (@aa _ _ _ _ _ (pv 1) (@aa _ _ _ _ _ af ae (by rfl)) (by rfl)) (by decide) (by rfl) (by rfl)) (aq fh (aq bf af (@aY _ _ _ _ _ _ _ _ _ fY (by rfl) T.b_int Boot.«int» (@aa _ _ _ _ _ (gx dC (pv 2) af (@aH _ _ (by decide) (by decide))) ae (by rfl)) (by decide) (by decide) (by rfl) (by rfl))) af) (@aH _ _ (by decide) (by decide))))) (fun _ _ _ _=>(pv 0)) rfl (by intro _;rfl) (by first | exact .inl rfl | exact .inr rfl | assumption)) (ak (az (@aY _ _ _ _ _ _ _ _ _ dI (by rfl) T.b_tuple Boot.«tuple» (@aa _ _ _ _ _ (@bU _ _ _ _ _ _ _ _ _ _ _ _ _ _ rfl (CScope.of (sc:=ai bj) (N:= ["_law_draw","_law_p_here","_law_stride","_law_columns","_law_kept"]) (own:= ["_law_at"]) (fr:= [0,1,2]) (N':= ["_law_at","_law_draw","_law_p_here","_law_stride"]) rfl rfl rfl (by decide+kernel) rfl (by decide+kernel) (by decide+kernel) (by decide+kernel) (by decide+kernel) (by decide+kernel)) (bu (pv 4)) (fun _ _ _ _=>(@ax _ _ (0) _ (by show(["_law_at","_law_draw","_law_p_here","_law_stride"]:List Str).Nodup;decide+kernel) rfl (by first | exact Or.inl rfl | exact Or.inr rfl) (by first | exact .inl rfl | exact .inr rfl | assumption))) bC (fun _ _ _ _=>c7) (fun _ _ _ _=>(@aj _ _ _ _ _ _ _ _ _ _ _ _ _ T.l_draw_stair G_l_draw_stair (hr.mono (by decide)) (by rfl) (@aa _ _ _ _ _ (pv 1) (@aa _ _ _ _ _ (pv 2) (@aa _ _ _ _ _ (pv 3) (@aa _ _ _ _ _ (pv 0) ae (by rfl)) (by rfl)) (by rfl)) (by rfl)) (by decide) (by rfl) (by rfl))) (by intro _;rfl)) ae (by rfl)) (by decide) (by decide) (by rfl) (by rfl))))))),?_⟩
 try dsimp only[bh]
 refine⟨_,inferInstance,?_⟩
 rintro vs M q ⟨d,l,p,s,rfl,hD,p2,p7,s0,s8,k⟩
 dsimp? [qc]
 refine⟨s,rfl,⟨by omega,by omega⟩,by omega,?_⟩
 intro a ha
 simp? [↓aR]
 refine cP (j0 (fun ρ M1=> ∃ (e:Addr) (cs:List Int),ρ= [some (wr d),some (wi p),some (wi s),some (wr e),none] /\ Sm M M1 /\ M e=none /\ M1 e=some (.lst (cs.map wi)) /\ cs.length<=13 /\ (s≠0 ->(cs.length:Int) <=s) /\ cs.Pairwise (· < ·) /\ ∀c∈cs,bO s c /\ (s=0 -> -6<=c /\ c<=6)) ?_ fun N hN=> ?_)
 rotate_left
 · dsimp? []
   refine a4 (fun h=> ?_) fun h=>hN _ _ ⟨a,(List.range s.toNat).map fun j:Nat=>0+(j:Int),rfl,aF ha,ha,by rw[ab,List.map_map];rfl,by simp;omega,by intro _;simp;omega,iZ 0 _,fun c hc=> ?_⟩
   · dsimp? [kq]
     refine⟨-6,7,rfl,by decide,by decide,fun e he=> ?_⟩
     have heM:M e=none:=(aF ha).free he
     refine hN _ _ ⟨e,(List.range 13).map fun j:Nat=> -6+(j:Int),rfl,(aF ha).trans (aF he),heM,by rw[ab,List.map_map];rfl,by simp,fun z=>absurd h z,iZ (-6) _,fun c hc=> ?_⟩
     obtain⟨j,hj,rfl⟩:=List.mem_map.mp hc
     have:=List.mem_range.mp hj
     exact⟨.inl h,fun _=>⟨by omega,by omega⟩⟩
   · obtain⟨j,hj,rfl⟩:=List.mem_map.mp hc
     have:=List.mem_range.mp hj
     exact⟨.inr ⟨by omega,by omega⟩,fun z=>absurd z h⟩
 rintro ρ M1 ⟨e,cs,rfl,s1,heM,hM1,hcl,hcl8,hris,hcs⟩
 have D1:=hD.sm s1
 obtain⟨ned,nel⟩:=hD.ne heM
 dsimp? [hM1]
 refine mM (by rw[List.length_map];exact big (by omega)) fun t ht=> ?_
 have htM:M t=none:=s1.free ht
 obtain⟨ntd,ntl⟩:=hD.ne htM
 have nte:t≠e:=fun z=>by rw[z,hM1] at ht;cases ht
 refine⟨fun i ys M'=> ∃ks:List Int,ys=ks.map wi /\ ks.Sublist (cs.take i) /\ (∀c∈ks,bO s c /\ (s=0 -> -6<=c /\ c<=6)) /\ Dr M' d l /\ M' t=some (.lst ys) /\ M' e=some (.lst (cs.map wi)) /\ SmB d M M',⟨[],rfl,List.nil_sublist _,by simp,D1.put ht,ab,by rw[ag (Ne.symm nte)];exact hM1,(SmB.sm s1).um htM⟩,?_,?_,?_⟩
 · rintro i ys M' hi ⟨ks,rfl,hl,_,_,hM,hMe,_⟩
   exact⟨hMe,hM,by rw[List.length_map];have:=hl.length_le;rw[List.length_take] at this;omega⟩
 · rintro i x ys M' hx ⟨ks,rfl,hl,hk,D5,hM,hMe,s5⟩ N2 hN2
   obtain⟨c,hc,rfl⟩:=dF hx
   have hcc:=hcs c (List.mem_of_getElem? hc)
   simp? [↓aR]
   refine⟨d,l,4,rfl,D5,by decide,by decide,fun g M6 g0 g1 D6 b6=> ?_⟩
   simp? [↓aR]
   refine .inr ⟨_,rfl,?_⟩
   have cm:bF 4 (if decide (s=0)=true then 1 else 0)=True:=by simp only[bF];split<;>simp
   have cd: ∀x,iH x 3=True:=fun x=>by simp[iH]
   simp? [↓aR,cm,cd]
   refine a4 (fun h=> ?_) fun h=> ?_
   · simp? [↓aR]
     refine⟨by rw[b6 t ntd];exact hM,hN2 _ _ ⟨ks++ [c],by rw[List.map_append];rfl,by rw[List.take_add_one,hc];exact hl.append (List.Sublist.refl _),fun z hz=> ?_,D6.put' ntd ntl,ab,by rw[ag (Ne.symm nte),b6 e ned];exact hMe,(s5.trans (SmB.nb b6)).um htM⟩⟩
     rcases List.mem_append.mp hz with hz | hz
     · exact hk z hz
     · rw[List.mem_singleton.mp hz];exact hcc
   · exact hN2 _ _ ⟨ks,rfl,by rw[List.take_add_one];exact hl.trans (List.sublist_append_left _ _),hk,D6,by rw[b6 t ntd];exact hM,by rw[b6 e ned];exact hMe,s5.trans (SmB.nb b6)⟩
 · rintro ys M2 ⟨ks,rfl,hkl,hks,D2,hM2,_,s2⟩
   rw[List.length_map,List.take_length] at hkl
   have hkll:=hkl.length_le
   have hkr:=hris.sublist hkl
   dsimp? [hM2]
   refine mM (by rw[List.length_map];exact big (by omega)) fun u hu=> ?_
   have huM:M u=none:=by
     obtain⟨nud,_⟩:=D2.ne hu
     cases e2:M u with
     | none=>rfl
     | some o=>have:=s2 u o nud e2;rw[hu] at this;cases this
   obtain⟨nud,nul⟩:=D2.ne hu
   have nut:u≠t:=fun z=>by rw[z,hM2] at hu;cases hu
   refine⟨fun i ys M'=> ∃sts:List Pt,ys=sts.map aQ /\ sts.length=i /\ (∀ (j:Nat) st,sts[j]? =some st -> ∃c len,ks[j]? =some c /\ Sr s p st c len (if s=0 then 9 else 31) /\ len<1000 /\ StOk s st c /\ st.length<=7) /\ Dr M' d l /\ M' u=some (.lst ys) /\ M' t=some (.lst (ks.map wi)) /\ SmB d M M',⟨[],rfl,rfl,by simp,D2.put hu,ab,by rw[ag (Ne.symm nut)];exact hM2,s2.um huM⟩,?_,?_,?_⟩
   · rintro i ys M' hi ⟨sts,rfl,hl,_,_,hM,hMe,_⟩
     exact⟨hMe,hM,by rw[List.length_map];omega⟩
   · rintro i x ys M' hx ⟨sts,rfl,hl,hk,D5,hM,hMe,s5⟩ N2 hN2
     obtain⟨c,hc,rfl⟩:=dF hx
     obtain⟨c1,c2⟩:=hks c (List.mem_of_getElem? hc)
     simp? [↓aR]
     refine⟨d,l,p,s,c,rfl,D5,p2,p7,s0,s8,c1,c2,fun st len M6 h1 h2 h3 h4 D6 b6=> ?_⟩
     simp? [↓aR]
     refine⟨b6 u _ nud hM,hN2 _ _ ⟨sts++ [st],by rw[List.map_append];rfl,by simp[hl],fun j z hz=> ?_,D6.put' nud nul,ab,by rw[ag (Ne.symm nut)];exact b6 t _ ntd hMe,(s5.trans b6).um huM⟩⟩
     rw[List.getElem?_append] at hz
     split at hz
     · exact hk j z hz
     · rename_i hj
       have hj':j=i:=by
         obtain⟨q1,_⟩:=List.getElem?_eq_some_iff.mp hz
         simp at q1;omega
       subst hj'
       rw[hl,Nat.sub_self] at hz
       cases hz
       exact⟨c,len,hc,h2,h3,h1,h4⟩
   · rintro ys M3 ⟨sts,rfl,hl,hk,D3,hM3,_,s3⟩
     rw[List.length_map] at hl
     dsimp? [hM3]
     refine exM (k sts _ ⟨fun j st hj=> ?_,fun i j st st' c len c' len' hij hi hj h1 h2=> ?_⟩ (fun _=>by omega) (fun z=>by have:=hcl8 z;omega) (fun st hst=> ?_) D3 s3)
     · obtain⟨c,len,_,h2,h3,_⟩:=hk j st hj
       exact⟨c,len,h2,h3⟩
     · obtain⟨d1,l1,e1,f1,_⟩:=hk i st hi
       obtain⟨d2,l2,e2,f2,_⟩:=hk j st' hj
       rw[(h1.uniq f1).1,(h2.uniq f2).1]
       obtain⟨g1,g2⟩:=List.getElem?_eq_some_iff.mp e1
       obtain⟨g3,g4⟩:=List.getElem?_eq_some_iff.mp e2
       rw[<- g2, <- g4]
       exact List.pairwise_iff_getElem.mp hkr i j g1 g3 hij
     · obtain⟨j,hj⟩:=List.mem_iff_getElem?.mp hst
       obtain⟨c,len,_,_,_,h5,h6⟩:=hk j st hj
       exact⟨⟨c,h5⟩,h6⟩
end
end K20
open PySem L2 WL WP WQ EN PyProof.Rows
namespace K20
open PySem L2 WL WP WQ EN PyProof.Rows
section
variable {P:Program}{w:World}{K:PySem.W.Frag}{mg:Str ->Option Value}{base:Heap}{A:Adr}
theorem gX (T:Txt K mg A):FnOk P w K mg base CX0 2 A.f_l_first A.d_l_first ["_law_stride","_law_pattern_here"] (spW K uF):=by
 have G_l_column:=dD (P:=P) (w:=w) (base:=base) T
 refine okS T.l_first.fn gK (by rintro vs M q ⟨st,s,rfl,_⟩;rfl) fun cdv A' outer s H E hr=> ?_
 have nd:=gK.nd
 refine⟨_,(ak (az (@aM _ _ _ _ _ _ _ _ _ (pF rfl) (by rfl) T.b_min Boot.«min» (@aa _ _ _ _ _ (@bU _ _ _ _ _ _ _ _ _ _ _ _ _ _ rfl (CScope.of (sc:=ai dQ) (N:= ["_law_stride","_law_pattern_here"]) (own:= ["_law_place","_law_setting"]) (fr:= [0]) (N':= ["_law_place","_law_setting","_law_stride"]) rfl rfl rfl (by decide+kernel) rfl (by decide+kernel) (by decide+kernel) (by decide+kernel) (by decide+kernel) (by decide+kernel)) (jK (pv 1)) (fun _ _ _ _=>(@dB _ _ _ _ _ (2) rfl (@aV _ _ _ _ _ (@ax _ _ (0) _ (by show(["_law_place","_law_setting","_law_stride"]:List Str).Nodup;decide+kernel) rfl (by first | exact Or.inl rfl | exact Or.inr rfl) (by first | exact .inl rfl | exact .inr rfl | assumption)) (@aV _ _ _ _ _ (@ax _ _ (1) _ (by show(["_law_place","_law_setting","_law_stride"]:List Str).Nodup;decide+kernel) rfl (by first | exact Or.inl rfl | exact Or.inr rfl) (by first | exact .inl rfl | exact .inr rfl | assumption)) cH (by rfl)) (by rfl)) (by rfl) (by rfl))) iE (fun _ _ _ _=>c7) (fun _ _ _ _=>(@aj _ _ _ _ _ _ _ _ _ _ _ _ _ T.l_column G_l_column (hr.mono (by decide)) (by rfl) (@aa _ _ _ _ _ (pv 0) (@aa _ _ _ _ _ (pv 2) ae (by rfl)) (by rfl)) (by decide) (by rfl) (by rfl))) (by intro _;rfl)) ae (by rfl)) (by decide) (by decide) (by rfl) (by rfl)))),?_⟩
 try dsimp only[bh]
 refine⟨_,inferInstance,?_⟩
 rintro vs M q ⟨st,s,rfl,hne,hl,s0,s1,k⟩
 dsimp? [aQ]
 refine lC (fun z:Int×Int=>wi (aA s z.1)) (big (by omega)) (fun _ _=>trivial) ?_ fun t ht=> ?_
 · intro z hz M3 N s3 hN
   dsimp? [aG]
   refine⟨z.1,s,rfl,s0,s1,?_⟩
   dsimp? []
   exact hN
 have e1:st.map (fun z=>wi (aA s z.1))=((plc st).map (aA s)).map wi:=by unfold plc;rw[List.map_map,List.map_map];rfl
 have hpn:(plc st).map (aA s)≠ []:=by unfold plc;simpa using hne
 rw[e1]
 dsimp? []
 refine⟨t,(plc st).map (aA s),rfl,ab,hpn,fun m hm=> ?_⟩
 dsimp? []
 rw[bY.uniq hm (cD hpn)]
 exact⟨M,aF ht,k⟩
theorem gV (T:Txt K mg A):FnOk P w K mg base CX0 2 A.f_l_spots A.d_l_spots ["_law_stride","_law_pattern_here","_law_at"] (spW K xb):=by
 have G_l_column:=dD (P:=P) (w:=w) (base:=base) T
 refine okS T.l_spots.fn gJ (by rintro vs M q ⟨st,s,c,rfl,_⟩;rfl) fun cdv A' outer s H E hr=> ?_
 have nd:=gJ.nd
 refine⟨_,(ak (az (@bU _ _ _ _ _ _ _ _ _ _ _ _ _ _ rfl (CScope.of (sc:=ai dP) (N:= ["_law_stride","_law_pattern_here","_law_at"]) (own:= ["_law_place","_law_setting"]) (fr:= [2,0]) (N':= ["_law_place","_law_setting","_law_at","_law_stride"]) rfl rfl rfl (by decide+kernel) rfl (by decide+kernel) (by decide+kernel) (by decide+kernel) (by decide+kernel) (by decide+kernel)) (jK (pv 1)) (fun _ _ _ _=>(@dB _ _ _ _ _ (2) rfl (@aV _ _ _ _ _ (@ax _ _ (0) _ (by show(["_law_place","_law_setting","_law_at","_law_stride"]:List Str).Nodup;decide+kernel) rfl (by first | exact Or.inl rfl | exact Or.inr rfl) (by first | exact .inl rfl | exact .inr rfl | assumption)) (@aV _ _ _ _ _ (@ax _ _ (1) _ (by show(["_law_place","_law_setting","_law_at","_law_stride"]:List Str).Nodup;decide+kernel) rfl (by first | exact Or.inl rfl | exact Or.inr rfl) (by first | exact .inl rfl | exact .inr rfl | assumption)) cH (by rfl)) (by rfl)) (by rfl) (by rfl))) iE (fun _ _ _ _=>(dR (aE dC (@aj _ _ _ _ _ _ _ _ _ _ _ _ _ T.l_column G_l_column (hr.mono (by decide)) (by rfl) (@aa _ _ _ _ _ (pv 0) (@aa _ _ _ _ _ (pv 3) ae (by rfl)) (by rfl)) (by decide) (by rfl) (by rfl)) (pv 2) (@aH _ _ (by decide) (by decide))))) (fun _ _ _ _=>(pv 0)) (by intro _;rfl)))),?_⟩
 try dsimp only[bh]
 refine⟨_,inferInstance,?_⟩
 rintro vs M q ⟨st,s,c,rfl,hl,s0,s1,k⟩
 dsimp? [aQ]
 refine comp_map (fun z:Int×Int=>decide (aA s z.1=c)) (fun z:Int×Int=>wi z.1) (big (by omega)) (fun _ _=>trivial) ?_ fun t ht=> ?_
 · intro z hz M3 N s3 hN
   dsimp? [aG]
   refine⟨z.1,s,rfl,s0,s1,?_⟩
   dsimp? []
   refine a4 (fun h=> ?_) fun h=> ?_
   · dsimp? []
     simpa only[h,decide_true,if_true] using hN
   · dsimp? []
     simpa only[h,decide_false,Bool.false_eq_true,if_false] using hN
 have e1:(st.filter fun z=>decide (aA s z.1=c)).map (fun z=>wi z.1)=(aP s st c).map wi:=by
   unfold aP plc;rw[List.filter_map,List.map_map];rfl
 rw[e1]
 dsimp? []
 exact exM (k t ht)
theorem oK (T:Txt K mg A):FnOk P w K mg base CX0 3 A.f_l_size A.d_l_size ["_law_stride","_law_stair"] (spW K pSize):=by
 have G_l_first:=gX (P:=P) (w:=w) (base:=base) T
 have G_l_spots:=gV (P:=P) (w:=w) (base:=base) T
 refine okS T.l_size.fn iX (by rintro vs M q ⟨st,s,rfl,_⟩;rfl) fun cdv A' outer s H E hr=> ?_
 have nd:=iX.nd
 refine⟨_,(ah (@aB _ _ (2) _ _ _ _ nd rfl (by first | exact Or.inl rfl | exact Or.inr rfl) (@aj _ _ _ _ _ _ _ _ _ _ _ _ _ T.l_spots G_l_spots (hr.mono (by decide)) (by rfl) (@aa _ _ _ _ _ (pv 0) (@aa _ _ _ _ _ (pv 1) (@aa _ _ _ _ _ (@aj _ _ _ _ _ _ _ _ _ _ _ _ _ T.l_first G_l_first (hr.mono (by decide)) (by rfl) (@aa _ _ _ _ _ (pv 0) (@aa _ _ _ _ _ (pv 1) ae (by rfl)) (by rfl)) (by decide) (by rfl) (by rfl)) ae (by rfl)) (by rfl)) (by rfl)) (by decide) (by rfl) (by rfl)) (by rfl) (by first | exact .inl rfl | exact .inr rfl | assumption)) (ak (az (aq fh (aq b0 (a0 aS (pv 2) (d8 cL af) (fun _ _=>rfl)) (a0 aS (pv 2) af (fun _ _=>rfl))) (@aM _ _ _ _ _ _ _ _ _ (iF rfl) (by rfl) T.b_max Boot.«max» (@aa _ _ _ _ _ af (@aa _ _ _ _ _ (pv 0) ae (by rfl)) (by rfl)) (by decide) (by decide) (by rfl) (by rfl)))))),?_⟩
 try dsimp only[bh]
 refine⟨_,inferInstance,?_⟩
 rintro vs M q ⟨st,s,rfl,hne,hl,s0,s1,k⟩
 dsimp? []
 refine⟨st,s,rfl,hne,hl,s0,s1,?_⟩
 dsimp? []
 refine⟨st,s,bE s st,rfl,hl,s0,s1,fun t ht=> ?_⟩
 have hpn:(plc st).map (aA s)≠ []:=by unfold plc;simpa using hne
 have hn:aP s st (bE s st)≠ []:=by
   obtain⟨x,hx,e⟩:=List.mem_map.mp (cD hpn).1
   have:x∈aP s st (bE s st):=List.mem_filter.mpr ⟨hx,decide_eq_true e⟩
   intro e2;rw[e2] at this;cases this
 have h1:atI ((aP s st (bE s st)).map wi) (-1)=some (wi ((aP s st (bE s st)).getLastD 0)):=fZ hn
 have h0:atI ((aP s st (bE s st)).map wi) 0=some (wi ((aP s st (bE s st)).headD 0)):=by
   cases e:aP s st (bE s st) with
   | nil=>exact absurd e hn
   | cons a r=>exact tJ
 have cd: ∀x,iH x (if s >1 then s else 1)=True:=fun x=>by simp only[iH];split<;>simp<;>omega
 dsimp? [ab,h1,h0,cd]
 exact⟨M,aF ht,k⟩
theorem iL (T:Txt K mg A):FnOk P w K mg base CX0 4 A.f_l_lies_low A.d_l_lies_low ["_law_stride","_law_stairs","_law_pattern_here"] (spW K pLies):=by
 have G_l_first:=gX (P:=P) (w:=w) (base:=base) T
 have G_l_spots:=gV (P:=P) (w:=w) (base:=base) T
 have G_l_size:=oK (P:=P) (w:=w) (base:=base) T
 refine okS T.l_lies_low.fn d6 (by rintro vs M q ⟨sts,pat,s,rfl,_⟩;rfl) fun cdv A' outer s H E hr=> ?_
 have nd:=d6.nd
 refine⟨_,(ah (@bR _ _ _ _ _ _ _ _ PassesOwn.never rfl (jK (pv 1)) (@ax _ _ (3) _ nd rfl (by first | exact Or.inl rfl | exact Or.inr rfl) (by first | exact .inl rfl | exact .inr rfl | assumption)) (ah (@aB _ _ (4) _ _ _ _ nd rfl (by first | exact Or.inl rfl | exact Or.inr rfl) (@aj _ _ _ _ _ _ _ _ _ _ _ _ _ T.l_first G_l_first (hr.mono (by decide)) (by rfl) (@aa _ _ _ _ _ (pv 0) (@aa _ _ _ _ _ (pv 3) ae (by rfl)) (by rfl)) (by decide) (by rfl) (by rfl)) (by rfl) (by first | exact .inl rfl | exact .inr rfl | assumption)) (ah (@aB _ _ (5) _ _ _ _ nd rfl (by first | exact Or.inl rfl | exact Or.inr rfl) (@aj _ _ _ _ _ _ _ _ _ _ _ _ _ T.l_size G_l_size (hr.mono (by decide)) (by rfl) (@aa _ _ _ _ _ (pv 0) (@aa _ _ _ _ _ (pv 3) ae (by rfl)) (by rfl)) (by decide) (by rfl) (by rfl)) (by rfl) (by first | exact .inl rfl | exact .inr rfl | assumption)) (ak (@bR _ _ _ _ _ _ _ _ PassesOwn.never rfl (bu (@aj _ _ _ _ _ _ _ _ _ _ _ _ _ T.l_spots G_l_spots (hr.mono (by decide)) (by rfl) (@aa _ _ _ _ _ (pv 0) (@aa _ _ _ _ _ (pv 2) (@aa _ _ _ _ _ (pv 4) ae (by rfl)) (by rfl)) (by rfl)) (by decide) (by rfl) (by rfl))) (@ax _ _ (6) _ nd rfl (by first | exact Or.inl rfl | exact Or.inr rfl) (by first | exact .inl rfl | exact .inr rfl | assumption)) (ak (bw (gS (aE i5 (pv 6) (pv 4) (@aH _ _ (by decide) (by decide))) (fL (aE nL (pv 6) (aq a5 (pv 4) (aq bf (pv 5) (@aM _ _ _ _ _ _ _ _ _ (iF rfl) (by rfl) T.b_max Boot.«max» (@aa _ _ _ _ _ af (@aa _ _ _ _ _ (pv 0) ae (by rfl)) (by rfl)) (by decide) (by decide) (by rfl) (by rfl)))) (@aH _ _ (by decide) (by decide))))).pt (ak (az d9)) aX)) (by intro _;rfl))))) (by intro _;rfl)) (ak (az d9))),?_⟩
 try dsimp only[bh]
 refine⟨_,inferInstance,?_⟩
 rintro vs M q ⟨sts,pat,s,rfl,hst,hpl,s0,s1,k⟩
 dsimp? []
 refine cZ (fun i ρ M'=> ∃o1 o2 o3 o4:Option W,ρ= [some (wi s),some (.tup (sts.map aQ)),some (aQ pat),o1,o2,o3,o4] /\ Sm M M' /\ jT s (sts.take i) pat=true) ⟨none,none,none,none,rfl,Sm.refl M,rfl⟩ (fun _ _ _ _ _=>trivial) ?_ ?_
 · rintro i x ρ M' hx ⟨o1,o2,o3,o4,rfl,sM,hlo⟩ N hN
   obtain⟨st,hz,rfl⟩: ∃st,sts[i]? =some st /\ x=aQ st:=by
     rw[List.getElem?_map] at hx
     cases e:sts[i]? with
     | none=>rw[e] at hx;cases hx
     | some q=>rw[e] at hx;cases hx;exact⟨q,rfl,rfl⟩
   obtain⟨h1,h2⟩:=hst st (List.mem_of_getElem? hz)
   dsimp? []
   refine⟨st,s,rfl,h1,h2,s0,s1,?_⟩
   dsimp? []
   refine⟨st,s,rfl,h1,h2,s0,s1,?_⟩
   dsimp? []
   refine⟨pat,s,bE s st,rfl,hpl,s0,s1,fun t ht=> ?_⟩
   dsimp? [ab]
   have cm: ∀x,bF x (if s >1 then s else 1)=True:=fun x=>by simp only[bF];split<;>simp<;>omega
   refine cZ (fun j ρ M2=> ∃o4:Option W,ρ= [some (wi s),some (.tup (sts.map aQ)),some (aQ pat),some (aQ st),some (wi (bE s st)),some (wi (f9 s st)),o4] /\ M2=um M' t (.lst ((aP s pat (bE s st)).map wi)) /\ ((aP s pat (bE s st)).take j).all (fun x=>decide (bE s st<=x /\ x<bE s st+f9 s st*(if s >1 then s else 1)))=true) ⟨_,rfl,rfl,rfl⟩ ?_ ?_ ?_
   · rintro j ρ M2 _ ⟨o4,rfl,rfl,_⟩
     exact ab
   · rintro j x ρ M2 hx ⟨o4,rfl,rfl,hj⟩ N2 hN2
     obtain⟨y,hy,rfl⟩:=dF hx
     have bad:¬(bE s st<=y /\ y<bE s st+f9 s st*(if s >1 then s else 1)) ->jT s sts pat=false:=fun hb=>by
       have hm:=List.mem_of_getElem? hz
       have hy':=List.mem_of_getElem? hy
       unfold jT
       rw[List.all_eq_false]
       refine⟨st,hm,?_⟩
       intro hall
       have:=List.all_eq_true.mp hall y hy'
       exact hb (by simpa using this)
     dsimp? [cm]
     refine a4 (fun h=> ?_) fun h=> ?_
     · rw[bad (by omega)] at k
       dsimp? []
       exact⟨M,sM.trans (aF ht),k⟩
     · dsimp? [cm]
       refine a4 (fun h'=> ?_) fun h'=> ?_
       · rw[bad (by omega)] at k
         dsimp? []
         exact⟨M,sM.trans (aF ht),k⟩
       · refine hN2 _ _ ⟨_,rfl,rfl,?_⟩
         rw[List.take_add_one,hy,List.all_append,hj]
         show(true && (decide (_ /\ _) && true))=true
         rw[decide_eq_true (by omega)];rfl
   · rintro ρ M2 ⟨o4,rfl,rfl,hj⟩
     rw[List.length_map,List.take_length] at hj
     refine hN _ _ ⟨_,_,_,_,rfl,sM.trans (aF ht),?_⟩
     rw[List.take_add_one,hz]
     show jT s (sts.take i++ [st]) pat=true
     unfold jT at hlo ⊢
     rw[List.all_append,hlo,List.all_cons,hj];rfl
 · rintro ρ M' ⟨o1,o2,o3,o4,rfl,sM,hlo⟩
   rw[List.length_map,List.take_length] at hlo
   dsimp? []
   rw[hlo] at k
   exact⟨M,sM,k⟩
end
end K20
open PySem L2 WL WP WQ EN PyProof.Rows
namespace K20
open PySem L2 WL WP WQ EN PyProof.Rows
section
variable {P:Program}{w:World}{K:PySem.W.Frag}{mg:Str ->Option Value}{base:Heap}{A:Adr}
theorem xl (T:Txt K mg A):FnOk P w K mg base CX0 8 A.f_law A.d_law ["_law_script"] (kC K):=by
 have G_l_begin:=l8 (P:=P) (w:=w) (base:=base) T
 have G_l_p:=xm (P:=P) (w:=w) (base:=base) T
 have G_l_take:=cY (P:=P) (w:=w) (base:=base) T
 have G_l_draw_stairs:=fP (P:=P) (w:=w) (base:=base) T
 have G_l_pattern:=jO (P:=P) (w:=w) (base:=base) T
 have G_rest_of:=l7 (P:=P) (w:=w) (base:=base) T
 have G_l_is_pattern:=gm (P:=P) (w:=w) (base:=base) T
 have G_l_lies_low:=iL (P:=P) (w:=w) (base:=base) T
 have G_l_sum:=rV (P:=P) (w:=w) (base:=base) T
 refine okLaw T.law.fn qP (by decide) fun cdv A' outer s H E hr=> ?_
 have nd:=qP.nd
 refine⟨_,(ah (@aB _ _ (1) _ _ _ _ nd rfl (by first | exact Or.inl rfl | exact Or.inr rfl) (@aj _ _ _ _ _ _ _ _ _ _ _ _ _ T.l_begin G_l_begin (hr.mono (by decide)) (by rfl) (@aa _ _ _ _ _ (pv 0) ae (by rfl)) (by decide) (by rfl) (by rfl)) (by rfl) (by first | exact .inl rfl | exact .inr rfl | assumption)) (ah (@aB _ _ (2) _ _ _ _ nd rfl (by first | exact Or.inl rfl | exact Or.inr rfl) (@aj _ _ _ _ _ _ _ _ _ _ _ _ _ T.l_p G_l_p (hr.mono (by decide)) (by rfl) (@aa _ _ _ _ _ (pv 1) ae (by rfl)) (by decide) (by rfl) (by rfl)) (by rfl) (by first | exact .inl rfl | exact .inr rfl | assumption)) (ah (@aB _ _ (3) _ _ _ _ nd rfl (by first | exact Or.inl rfl | exact Or.inr rfl) (@aj _ _ _ _ _ _ _ _ _ _ _ _ _ T.l_take G_l_take (hr.mono (by decide)) (by rfl) (@aa _ _ _ _ _ (pv 1) (@aa _ _ _ _ _ af ae (by rfl)) (by rfl)) (by decide) (by rfl) (by rfl)) (by rfl) (by first | exact .inl rfl | exact .inr rfl | assumption)) (ah (bw (aE dC (@aj _ _ _ _ _ _ _ _ _ _ _ _ _ T.l_take G_l_take (hr.mono (by decide)) (by rfl) (@aa _ _ _ _ _ (pv 1) (@aa _ _ _ _ _ af ae (by rfl)) (by rfl)) (by decide) (by rfl) (by rfl)) af (@aH _ _ (by decide) (by decide))) (ak (@aB _ _ (3) _ _ _ _ nd rfl (by first | exact Or.inl rfl | exact Or.inr rfl) (aq a5 af (@aj _ _ _ _ _ _ _ _ _ _ _ _ _ T.l_take G_l_take (hr.mono (by decide)) (by rfl) (@aa _ _ _ _ _ (pv 1) (@aa _ _ _ _ _ af ae (by rfl)) (by rfl)) (by decide) (by rfl) (by rfl))) (by rfl) (by first | exact .inl rfl | exact .inr rfl | assumption))) aX) (ah (@aB _ _ (4) _ _ _ _ nd rfl (by first | exact Or.inl rfl | exact Or.inr rfl) (@aj _ _ _ _ _ _ _ _ _ _ _ _ _ T.l_draw_stairs G_l_draw_stairs (hr.mono (by decide)) (by rfl) (@aa _ _ _ _ _ (pv 1) (@aa _ _ _ _ _ (pv 2) (@aa _ _ _ _ _ (pv 3) ae (by rfl)) (by rfl)) (by rfl)) (by decide) (by rfl) (by rfl)) (by rfl) (by first | exact .inl rfl | exact .inr rfl | assumption)) (ah (@aB _ _ (5) _ _ _ _ nd rfl (by first | exact Or.inl rfl | exact Or.inr rfl) (@aj _ _ _ _ _ _ _ _ _ _ _ _ _ T.l_pattern G_l_pattern (hr.mono (by decide)) (by rfl) (@aa _ _ _ _ _ (pv 1) (@aa _ _ _ _ _ (pv 2) (@aa _ _ _ _ _ af (@aa _ _ _ _ _ af ae (by rfl)) (by rfl)) (by rfl)) (by rfl)) (by decide) (by rfl) (by rfl)) (by rfl) (by first | exact .inl rfl | exact .inr rfl | assumption)) (ah (@aB _ _ (6) _ _ _ _ nd rfl (by first | exact Or.inl rfl | exact Or.inr rfl) (@aj _ _ _ _ _ _ _ _ _ _ _ _ _ T.l_pattern G_l_pattern (hr.mono (by decide)) (by rfl) (@aa _ _ _ _ _ (pv 1) (@aa _ _ _ _ _ (pv 2) (@aa _ _ _ _ _ af (@aa _ _ _ _ _ af ae (by rfl)) (by rfl)) (by rfl)) (by rfl)) (by decide) (by rfl) (by rfl)) (by rfl) (by first | exact .inl rfl | exact .inr rfl | assumption)) (ah (@aB _ _ (7) _ _ _ _ nd rfl (by first | exact Or.inl rfl | exact Or.inr rfl) (pv 5) (by rfl) (by first | exact .inl rfl | exact .inr rfl | assumption)) (ah (@bR _ _ _ _ _ _ _ _ PassesOwn.never rfl (@cW _ _ _ _ _ _ (by rfl) T.b_range (@aa _ _ _ _ _ (aq bf (@aj _ _ _ _ _ _ _ _ _ _ _ _ _ T.l_take G_l_take (hr.mono (by decide)) (by rfl) (@aa _ _ _ _ _ (pv 1) (@aa _ _ _ _ _ af ae (by rfl)) (by rfl)) (by decide) (by rfl) (by rfl)) (@aY _ _ _ _ _ _ _ _ _ fY (by rfl) T.b_int Boot.«int» (@aa _ _ _ _ _ (gx gU (@aM _ _ _ _ _ _ _ _ _ c0 (by rfl) T.b_len Boot.«len» (@aa _ _ _ _ _ (pv 4) ae (by rfl)) (by decide) (by decide) (by rfl) (by rfl)) af (@aH _ _ (by decide) (by decide))) ae (by rfl)) (by decide) (by decide) (by rfl) (by rfl))) ae (by rfl)) (by rfl)) (@ax _ _ (8) _ nd rfl (by first | exact Or.inl rfl | exact Or.inr rfl) (by first | exact .inl rfl | exact .inr rfl | assumption)) (ah (@aB _ _ (9) _ _ _ _ nd rfl (by first | exact Or.inl rfl | exact Or.inr rfl) (a0 cN (pv 4) (@aj _ _ _ _ _ _ _ _ _ _ _ _ _ T.l_take G_l_take (hr.mono (by decide)) (by rfl) (@aa _ _ _ _ _ (pv 1) (@aa _ _ _ _ _ (@aM _ _ _ _ _ _ _ _ _ c0 (by rfl) T.b_len Boot.«len» (@aa _ _ _ _ _ (pv 4) ae (by rfl)) (by decide) (by decide) (by rfl) (by rfl)) ae (by rfl)) (by rfl)) (by decide) (by rfl) (by rfl)) (fun _ _=>rfl)) (by rfl) (by first | exact .inl rfl | exact .inr rfl | assumption)) (ak (@aB _ _ (7) _ _ _ _ nd rfl (by first | exact Or.inl rfl | exact Or.inr rfl) (@aj _ _ _ _ _ _ _ _ _ _ _ _ _ T.l_sum G_l_sum (hr.mono (by decide)) (by rfl) (@aa _ _ _ _ _ (pv 2) (@aa _ _ _ _ _ (pv 7) (@aa _ _ _ _ _ (pv 9) (@aa _ _ _ _ _ (aq bf (aq b0 (@aj _ _ _ _ _ _ _ _ _ _ _ _ _ T.l_take G_l_take (hr.mono (by decide)) (by rfl) (@aa _ _ _ _ _ (pv 1) (@aa _ _ _ _ _ af ae (by rfl)) (by rfl)) (by decide) (by rfl) (by rfl)) af) (pv 3)) (@aa _ _ _ _ _ (@aj _ _ _ _ _ _ _ _ _ _ _ _ _ T.l_take G_l_take (hr.mono (by decide)) (by rfl) (@aa _ _ _ _ _ (pv 1) (@aa _ _ _ _ _ (pv 2) ae (by rfl)) (by rfl)) (by decide) (by rfl) (by rfl)) ae (by rfl)) (by rfl)) (by rfl)) (by rfl)) (by rfl)) (by decide) (by rfl) (by rfl)) (by rfl) (by first | exact .inl rfl | exact .inr rfl | assumption)))) (by intro _;rfl)) (ah (@aB _ _ (10) _ _ _ _ nd rfl (by first | exact Or.inl rfl | exact Or.inr rfl) (@aj _ _ _ _ _ _ _ _ _ _ _ _ _ T.rest_of G_rest_of (hr.mono (by decide)) (by rfl) (@aa _ _ _ _ _ (pv 2) (@aa _ _ _ _ _ (pv 3) (@aa _ _ _ _ _ (pv 4) (@aa _ _ _ _ _ (pv 5) ae (by rfl)) (by rfl)) (by rfl)) (by rfl)) (by decide) (by rfl) (by rfl)) (by rfl) (by first | exact .inl rfl | exact .inr rfl | assumption)) (ah (@aB _ _ (11) _ _ _ _ nd rfl (by first | exact Or.inl rfl | exact Or.inr rfl) (@aj _ _ _ _ _ _ _ _ _ _ _ _ _ T.rest_of G_rest_of (hr.mono (by decide)) (by rfl) (@aa _ _ _ _ _ (pv 2) (@aa _ _ _ _ _ (pv 3) (@aa _ _ _ _ _ (pv 4) (@aa _ _ _ _ _ (pv 6) ae (by rfl)) (by rfl)) (by rfl)) (by rfl)) (by decide) (by rfl) (by rfl)) (by rfl) (by first | exact .inl rfl | exact .inr rfl | assumption)) (ah (bw (gS (c8 (@eD _ _ _ (@aj _ _ _ _ _ _ _ _ _ _ _ _ _ T.l_is_pattern G_l_is_pattern (hr.mono (by decide)) (by rfl) (@aa _ _ _ _ _ (pv 2) (@aa _ _ _ _ _ (pv 10) ae (by rfl)) (by rfl)) (by decide) (by rfl) (by rfl)) (by intro _;rfl))) (fL (c8 (@eD _ _ _ (@aj _ _ _ _ _ _ _ _ _ _ _ _ _ T.l_is_pattern G_l_is_pattern (hr.mono (by decide)) (by rfl) (@aa _ _ _ _ _ (pv 2) (@aa _ _ _ _ _ (pv 11) ae (by rfl)) (by rfl)) (by decide) (by rfl) (by rfl)) (by intro _;rfl))))).pt (ak (az d9)) aX) (ah (bw (gS (c8 (@eD _ _ _ (@aj _ _ _ _ _ _ _ _ _ _ _ _ _ T.l_lies_low G_l_lies_low (hr.mono (by decide)) (by rfl) (@aa _ _ _ _ _ (pv 3) (@aa _ _ _ _ _ (pv 4) (@aa _ _ _ _ _ (pv 10) ae (by rfl)) (by rfl)) (by rfl)) (by decide) (by rfl) (by rfl)) (by intro _;rfl))) (fL (aE (rO hr.u60) (@aj _ _ _ _ _ _ _ _ _ _ _ _ _ T.rest_of G_rest_of (hr.mono (by decide)) (by rfl) (@aa _ _ _ _ _ (pv 2) (@aa _ _ _ _ _ (pv 3) (@aa _ _ _ _ _ (pv 4) (@aa _ _ _ _ _ (pv 10) ae (by rfl)) (by rfl)) (by rfl)) (by rfl)) (by decide) (by rfl) (by rfl)) (pv 10) (@aH _ _ (by decide) (by decide))))).pt (ak (az d9)) aX) (ah (bw (aE (rO hr.u60) (@aj _ _ _ _ _ _ _ _ _ _ _ _ _ T.rest_of G_rest_of (hr.mono (by decide)) (by rfl) (@aa _ _ _ _ _ (pv 2) (@aa _ _ _ _ _ (pv 3) (@aa _ _ _ _ _ (pv 4) (@aa _ _ _ _ _ (pv 7) ae (by rfl)) (by rfl)) (by rfl)) (by rfl)) (by decide) (by rfl) (by rfl)) (pv 10) (@aH _ _ (by decide) (by decide))) (ak (az d9)) aX) (ak (az (gx (xk hr.u60) (@aj _ _ _ _ _ _ _ _ _ _ _ _ _ T.rest_of G_rest_of (hr.mono (by decide)) (by rfl) (@aa _ _ _ _ _ (pv 2) (@aa _ _ _ _ _ (pv 3) (@aa _ _ _ _ _ (pv 4) (@aa _ _ _ _ _ (@aj _ _ _ _ _ _ _ _ _ _ _ _ _ T.l_sum G_l_sum (hr.mono (by decide)) (by rfl) (@aa _ _ _ _ _ (pv 2) (@aa _ _ _ _ _ (pv 5) (@aa _ _ _ _ _ (pv 6) (@aa _ _ _ _ _ af (@aa _ _ _ _ _ af ae (by rfl)) (by rfl)) (by rfl)) (by rfl)) (by rfl)) (by decide) (by rfl) (by rfl)) ae (by rfl)) (by rfl)) (by rfl)) (by rfl)) (by decide) (by rfl) (by rfl)) (@aj _ _ _ _ _ _ _ _ _ _ _ _ _ T.l_sum G_l_sum (hr.mono (by decide)) (by rfl) (@aa _ _ _ _ _ (pv 2) (@aa _ _ _ _ _ (pv 10) (@aa _ _ _ _ _ (pv 11) (@aa _ _ _ _ _ af (@aa _ _ _ _ _ af ae (by rfl)) (by rfl)) (by rfl)) (by rfl)) (by rfl)) (by decide) (by rfl) (by rfl)) (@aH _ _ (by decide) (by decide))))))))))))))))))),?_⟩
 try dsimp only[bh]
 refine⟨_,inferInstance,?_⟩
 intro d l M hD
 dsimp? []
 refine⟨d,l,rfl,hD,fun p M1 hp D1 _=> ?_⟩
 have p0:0<p:=by omega
 have p7:p<=7:=by omega
 have p2:2<=p:=by omega
 dsimp? []
 refine⟨d,l,5,rfl,D1,by decide,by decide,fun s M2 s0 s1 D2 _=> ?_⟩
 simp? [↓aR]
 refine cP (j0 (fun ρ M'=> ∃s:Int,ρ= [none,some (wr d),some (wi p),some (wi s),none,none,none,none,none,none,none,none] /\ 0<=s /\ s<=8 /\ Dr M' d l) ?_ fun N hN=> ?_)
 rotate_left
 · dsimp? []
   refine⟨d,l,6,rfl,D2,by decide,by decide,fun g M3 g0 g1 D3 _=> ?_⟩
   dsimp? []
   refine a4 (fun h=> ?_) fun h=>hN _ _ ⟨s,rfl,s0,by omega,D3⟩
   dsimp? []
   refine⟨d,l,4,rfl,D3,by decide,by decide,fun g M3 g0 g1 D3 _=> ?_⟩
   dsimp? []
   exact hN _ _ ⟨5+g,rfl,by omega,by omega,D3⟩
 clear s0 s1 D2
 rintro ρ M3 ⟨s,rfl,s0,s8,D3⟩
 dsimp? []
 refine⟨d,l,p,s,rfl,D3,p2,p7,s0,s8,fun sts M4 srl hn0 hn1 hst D4 _=> ?_⟩
 dsimp? []
 refine⟨d,l,p,7,9,rfl,D4,p2,by omega,by decide,by decide,by decide,by decide,fun ps M6 hpl hps D6 _=> ?_⟩
 have wt9: ∀ps:Pt,(∀z∈ps, -9<=z.1 /\ z.1<=9) ->Wt 9 (nrm p ps):=fun ps hps x hx=>by
   obtain⟨z,hz,e⟩:=List.mem_map.mp (bJ hx)
   obtain⟨y,hy,e2⟩:=md hz
   have:=hps y hy
   omega
 have h1:=bV p0 ps
 have w1:=wt9 ps fun z hz=>by have:=hps z hz;omega
 generalize nrm p ps=one at h1 w1
 dsimp? []
 refine⟨d,l,p,7,9,rfl,D6,p2,by omega,by decide,by decide,by decide,by decide,fun ps M7 hpl hps D7 _=> ?_⟩
 have h2:=bV p0 ps
 have w2:=wt9 ps fun z hz=>by have:=hps z hz;omega
 generalize nrm p ps=other at h2 w2
 dsimp? []
 refine⟨d,l,6,rfl,D7,by decide,by decide,fun r M8 r0 r1 D8 _=> ?_⟩
 refine .inr ⟨_,rfl,?_⟩
 have cm:bF r (if decide (0< ((List.map aQ sts).length:Int))=true then 1 else 0)=True:=by simp only[bF];split<;>simp
 simp? [↓aR,cm]
 obtain⟨D,Z0,Z1,Z2,hDs,srl',d0,dm,z0,hz1,hz2,hz2m,hc1,hc2,hn13⟩: ∃D Z0 Z1 Z2:Int,((s=0 /\ D=9 /\ Z0=9) \/ (D=31 /\ Z0=47)) /\ SrL s p sts D /\ 0<=D /\ D<=1000 /\ 9<=Z0 /\ Z0+sts.length*(D+s) <=Z1 /\ Z1+sts.length*(D+s) <=Z2 /\ Z2<=3000 /\ sts.length*(sts.length*(2*Z1+2).toNat) <=90000 /\ sts.length*(sts.length*(2*Z2+2).toNat) <=90000 /\ sts.length<=13:=by
   by_cases z:s=0
   · have hn:=hn0 z
     rw[if_pos z] at srl
     refine⟨9,9,126,243, .inl ⟨z,rfl,rfl⟩,srl,by decide,by decide,by decide,by rw[z];omega,by rw[z];omega,by decide,?_,?_,hn⟩
     · exact Nat.le_trans (Nat.mul_le_mul hn (Nat.mul_le_mul_right _ hn)) (by decide)
     · exact Nat.le_trans (Nat.mul_le_mul hn (Nat.mul_le_mul_right _ hn)) (by decide)
   · have hn:sts.length<=8:=by have:=hn1 z;omega
     rw[if_neg z] at srl
     have h1:=Int.mul_le_mul_of_nonneg_right (show(sts.length:Int) <=8 by omega) (show 0<=31+s by omega)
     refine⟨31,47,359,671, .inr ⟨rfl,rfl⟩,srl,by decide,by decide,by decide,by omega,by omega,by decide,?_,?_,by omega⟩
     · exact Nat.le_trans (Nat.mul_le_mul hn (Nat.mul_le_mul_right _ hn)) (by decide)
     · exact Nat.le_trans (Nat.mul_le_mul hn (Nat.mul_le_mul_right _ hn)) (by decide)
 have hk0:=Int.mul_nonneg (show 0<=(sts.length:Int) by omega) (show 0<=D+s by omega)
 have wup: ∀ {Z Z':Int} {a:Pt},Z<=Z' ->Wt Z a ->Wt Z' a:=fun h w x hx=>by have:=w x hx;omega
 have hrk:0<=r*(if decide (0< ((List.map aQ sts).length:Int))=true then 1 else 0) /\ r*(if decide (0< ((List.map aQ sts).length:Int))=true then 1 else 0) <=5 /\ (0<r*(if decide (0< ((List.map aQ sts).length:Int))=true then 1 else 0) ->0<sts.length):=by
   by_cases h:0<sts.length
   · rw[if_pos (decide_eq_true (by rw[List.length_map];omega)),Int.mul_one];exact⟨by omega,by omega,fun _=>h⟩
   · rw[if_neg (by rw[decide_eq_true_eq,List.length_map];omega),Int.mul_zero];exact⟨by omega,by omega,by omega⟩
 generalize r*(if decide (0< ((List.map aQ sts).length:Int))=true then 1 else 0)=n at hrk
 obtain⟨n0,n5,nst⟩:=hrk
 refine⟨⟨by omega,by omega⟩,cZ (fun i ρ M'=> ∃ (o1 o2:Option W) (put:Pt) (J:Nat ->Pt),ρ= [none,some (wr d),some (wi p),some (wi s),some (.tup (sts.map aQ)),some (aQ one),some (aQ other),some (aQ put),o1,o2,none,none] /\ Dr M' d l /\ a7 p put /\ Wt Z0 put /\ ∀x,look put x % p=(look one x+spn s sts J x sts.length) % p)
   ⟨none,none,one,fun _=> [],rfl,D8,h1,wup z0 w1,fun x=>by rw[jw,Int.add_zero]⟩ (fun _ _ _ _ _=>trivial) ?_ ?_⟩
 · rintro i x ρ M' hx ⟨o1,o2,put,J,rfl,D9,hput,wput,hJ⟩ N hN
   obtain⟨hi,rfl⟩:=cU hx
   have hpos:=nst (by omega)
   dsimp? [List.length_map]
   refine⟨d,l,sts.length,rfl,D9,by omega,by omega,fun g M10 g0 g1 D10 _=> ?_⟩
   obtain⟨st,hg⟩: ∃st,sts[g.toNat]? =some st:=⟨_,List.getElem?_eq_getElem (by omega)⟩
   have hat:atI (sts.map aQ) g=some (aQ st):=by
     have:=cK (xs:=sts.map aQ) (j:=g.toNat) (v:=aQ st) (by rw[List.getElem?_map,hg];rfl)
     rwa [show((g.toNat:Nat):Int)=g by omega] at this
   obtain⟨c,len,sr,_⟩:=srl'.each _ st hg
   have hget:sts.getD g.toNat []=st:=by rw[List.getD_eq_getElem?_getD,hg];rfl
   dsimp? [hat]
   refine⟨d,l,5,rfl,D10,by decide,by decide,fun t M11 t0 t1 D11 _=> ?_⟩
   have cm2:bF (t - 2) s=True:=eq_true (.inl ⟨by omega,by omega⟩)
   dsimp? [cm2]
   refine⟨d,l,p,rfl,D11,p0,by omega,fun v M12 v0 v1 D12 _=> ?_⟩
   dsimp? []
   have hpl:=wput.len (dc hput) (by omega)
   have hst7:=(hst st (List.mem_of_getElem? hg)).2
   refine⟨p,put,st,(t - 2)*s,v,rfl,p0,few,by omega,by omega,fun z hz=>by have:=sr.pat.1 z hz;omega,?_⟩
   dsimp? []
   refine hN _ _ ⟨_,_,nrm p (put++mvt ((t - 2)*s) v st),fun i=>if i=g.toNat then J i++ [(t - 2,v)] else J i,rfl,D12,bV p0 _,fun x hx=> ?_,fun x=> ?_⟩
   · rcases kh p0 hput sr.pat hx with h | h
     · exact wput x h
     · have:=sr.wt _ h
       rcases hDs with⟨z,e1,e2⟩ | ⟨e1,e2⟩
       · rw[z,Int.mul_zero] at this;omega
       · have m1:=Int.mul_le_mul_of_nonneg_right (show t - 2<=2 by omega) s0
         have m2:=Int.mul_le_mul_of_nonneg_right (show -2<=t - 2 by omega) s0
         omega
   · rw[fm p0 hput sr.pat,Int.emod_emod,nk,if_pos (by omega),hget,Int.mul_comm s,Int.add_emod,hJ, <- Int.add_emod,Int.add_assoc]
 rintro ρ M9 ⟨o1,o2,put,J,rfl,D9,hput,wput,hJ⟩
 dsimp? []
 refine⟨p,s,D,Z0,Z1,sts,one,rfl,hp,s0,s8,srl',h1,wup z0 w1,by omega,d0,dm,hz1,by omega,hc1,hn13,fun left P1 hL wL t1=> ?_⟩
 dsimp? []
 refine⟨p,s,D,Z0,Z1,sts,other,rfl,hp,s0,s8,srl',h2,wup z0 w2,by omega,d0,dm,hz1,by omega,hc1,hn13,fun right P2 hR wR t2=> ?_⟩
 have hll:=wL.len (dc hL) (by omega)
 have hlr:=wR.len (dc hR) (by omega)
 dsimp? []
 refine⟨p,left,rfl,hL,by omega,?_⟩
 dsimp? [Bool.not_true]
 refine⟨p,right,rfl,hR,by omega,?_⟩
 dsimp? [Bool.not_true]
 refine⟨sts,left,s,rfl,fun st hst'=>⟨(hst st hst').1.choose_spec.ne,by have:=(hst st hst').2;omega⟩,by omega,s0,by omega,?_⟩
 have hlow:jT s sts left=true:=by rw[<- si s0 fun st hst'=>(hst st hst').1];exact t1.lowB_is srl' (dc hL)
 dsimp? [hlow,Bool.not_true]
 refine⟨p,s,D,Z1,Z2,sts,left,rfl,hp,s0,s8,srl',hL,wL,by omega,d0,dm,hz2,by omega,hc2,hn13,fun r3 P3 h3 w3 t3=> ?_⟩
 have e3:r3=left:=gR (f:=look left) hp s0 srl' h3 hL t3.lowP t1.lowP t3.eqv (J':=fun _=> []) fun x=>by rw[jw,Int.add_zero]
 subst e3
 refine r9 rfl ?_
 dsimp? []
 refine⟨p,s,D,Z0,Z1,sts,put,rfl,hp,s0,s8,srl',hput,wput,by omega,d0,dm,hz1,by omega,hc1,hn13,fun r4 P4 h4 w4 t4=> ?_⟩
 have e4:r4=r3:=gR (f:=look one) hp s0 srl' h4 hL t4.lowP t1.lowP (J:=fun i=>J i++pf P4 i) (fun x=>by rw[t4.eqv,gs,Int.add_emod,hJ, <- Int.add_emod,Int.add_assoc]) t1.eqv
 subst e4
 refine r9 rfl ?_
 dsimp? []
 have hl1:=w1.len (dc h1) (by omega)
 have hl2:=w2.len (dc h2) (by omega)
 refine⟨p,one,other,0,1,rfl,p0,few,by omega,by omega,fun z hz=>by have:=h2.1 z hz;omega,?_⟩
 dsimp? []
 have w12:Wt 9 (nrm p (one++mvt 0 1 other)):=fun x hx=>by
   rcases kh p0 h1 h2 hx with h | h
   · exact w1 x h
   · have:=w2 _ h;omega
 refine⟨p,s,D,Z0,Z1,sts,_,rfl,hp,s0,s8,srl',bV p0 _,wup z0 w12,by omega,d0,dm,hz1,by omega,hc1,hn13,fun r5 P5 h5 w5 t5=> ?_⟩
 dsimp? []
 refine⟨p,r4,right,0,1,rfl,p0,few,by omega,by omega,fun z hz=>by have:=hR.1 z hz;omega,?_⟩
 have e5:r5=nrm p (r4++mvt 0 1 right):=gR (f:=fun x=>look one x+look other x) hp s0 srl' h5 (bV p0 _) t5.lowP (fun i st c len hi sr x hx hne=>by
     rcases kh p0 hL hR hne with h | h
     · exact t1.lowP i st c len hi sr x hx h
     · rw[Int.sub_zero] at h;exact t2.lowP i st c len hi sr x hx h)
   (J:=fun i=>pf P5 i) (J':=fun i=>pf P1 i++pf P2 i) (fun x=>by rw[t5.eqv,fm p0 h1 h2,Int.sub_zero,Int.mul_one,Int.emod_add_emod]) (fun x=>by
     rw[fm p0 hL hR,Int.sub_zero,Int.mul_one,Int.emod_emod,Int.add_emod,t1.eqv,t2.eqv, <- Int.add_emod,gs]
     congr 1;lia)
 subst e5
 dsimp? []
 refine xC rfl ?_
 dsimp? []
end
end K20
namespace K20
open PySem L2 WL WQ PyProof.Rows
theorem walk {l:PySem.W.OpenLaw}{q:Program}{loose:List Str}{XP:(Str ->Option Value) ->Heap ->Prop}{YP:World ->Heap ->Prop}{d:DefRec}{K:Params ->PySem.W.Frag}(hn:l.most=some 63)(hdf:d.params.defaults= [])
   (hY: ∀ (w:World) (h:Heap),YP w h ->(K w.params).In h) (nm:d.name= "law")
   (F: ∀ (w:World) (mg:Str ->Option Value) (h:Heap),(K w.params).In h ->h.Ns mainGlobals mg -> ∃A,Txt (K w.params) mg A):
   PySem.W.WalkO q loose XP YP l.row.toRowW d [] (fun f vs=>PySem.call f vs):=
 L2.ud (n:=63) (k:=8) (x:= "_law_script") (CX:=fun _=>CX0) (sp:=fun w=>kC (K w.params)) hn (by decide) hdf ⟨rfl,by decide,by decide⟩ hY (fun w mg fa h X G e=>(F w mg h X G).elim fun _ T=>xu T.law (nm▸e) (fun _ _ _ _ _ _ _=>rfl) fun _=>xl T) (fun _ _ a ns hl _ hS=>⟨a,ns,rfl,hS,fun _=>rfl⟩) fun _ _ _ _ _ z=>z
end K20
def PySem.W.Fast.tw16054390246961701055:Nat:=0
def PySem.W.Fast.tw1133537794783268590:Nat:=0
def PySem.W.Fast.tw10063614667023065509:Nat:=0
def PySem.W.Fast.tw15379965752937802767:Nat:=0
def PySem.W.Fast.tw10265712705909444766:Nat:=0
def PySem.W.Fast.tw18357786304279755446:Nat:=0
def PySem.W.Fast.tw17835800465295055089:Nat:=0
def PySem.W.Fast.tw5433391164948799701:Nat:=0
def PySem.W.Fast.tw4101297588228819128:Nat:=0
def PySem.W.Fast.tw6857498415318714320:Nat:=0
def PySem.W.Fast.tw13080338237489788715:Nat:=0
def PySem.W.Fast.tw18365145838584704750:Nat:=0
def PySem.W.Fast.tw6625647787080178606:Nat:=0
def PySem.W.Fast.tw14033793118242125691:Nat:=0
def PySem.W.Fast.tw2372099566181074808:Nat:=0
def PySem.W.Fast.tw15439783307491394638:Nat:=0
def PySem.W.Fast.tw17159716278402864229:Nat:=0
def PySem.W.Fast.tw1081334282277720115:Nat:=0
def PySem.W.Fast.tw8307975009388835248:Nat:=0
def PySem.W.Fast.tw6983669081579859601:Nat:=0
def PySem.W.Fast.tw15811255712878925833:Nat:=0
def PySem.W.Fast.tw17952747707699364043:Nat:=0
def PySem.W.Fast.tw6360429771730842326:Nat:=0
def PySem.W.Fast.tw9834818390078321841:Nat:=0
def PySem.W.Fast.tw7891371430090838236:Nat:=0
def PySem.W.Fast.tw3693305731151049466:Nat:=0
def PySem.W.Fast.tw17694954005315630605:Nat:=0
def PySem.W.Fast.tw11923754215677594995:Nat:=0
def PySem.W.Fast.tw5620853149192633694:Nat:=0
def PySem.W.Fast.tw1748470177017131764:Nat:=0
def PySem.W.Fast.tw10008003694722464605:Nat:=0
def PySem.W.Fast.tw11122080839151872259:Nat:=0
def PySem.W.Fast.tw7007573953168776163:Nat:=0
def PySem.W.Fast.tw5985231960218971155:Nat:=0
def PySem.W.Fast.tw11706366933306470610:Nat:=0
def PySem.W.Fast.tw8745400273588419208:Nat:=0
def PySem.W.Fast.tw1627807957267100581:Nat:=0
def PySem.W.Fast.tw15581433448633343653:Nat:=0
def PySem.W.Fast.tw489435095102229084:Nat:=0
def PySem.W.Fast.tw7924721527336129188:Nat:=0
def PySem.W.Fast.tw9889788739104164929:Nat:=0
def PySem.W.Fast.tw5704904895793648331:Nat:=0
def PySem.W.Fast.tw2366201131381657905:Nat:=0
def PySem.W.Fast.tw4865282469238777062:Nat:=0
def PySem.W.Fast.tw4166031820060218544:Nat:=0
def PySem.W.Fast.tw11437210462695484883:Nat:=0
def PySem.W.Fast.tw3077062068777708325:Nat:=0
def PySem.W.Fast.tw13405729263316964245:Nat:=0
def PySem.W.Fast.tw8728323377112859973:Nat:=0
def PySem.W.Fast.tw3312285388568555068:Nat:=0
def PySem.W.Fast.tw17524283284000298142:Nat:=0
def PySem.W.Fast.tw14483456619221716973:Nat:=0
def PySem.W.Fast.tw12446638188053949956:Nat:=0
def PySem.W.Fast.tw11611029147576243013:Nat:=0
def PySem.W.Fast.tw4279616879058902699:Nat:=0
def PySem.W.Fast.tw17954771854555951353:Nat:=0
def PySem.W.Fast.tw1267668379082099022:Nat:=0
def PySem.W.Fast.tw13983187547880650315:Nat:=0
def PySem.W.Fast.tw13851261902745225312:Nat:=0
def PySem.W.Fast.tw16607641898938011812:Nat:=0
open PySem PySem.W PyProof.Rows L2
set_option maxRecDepth 100000 in
set_option maxHeartbeats 0 in
theorem PySem.Challenge.cw_duskround_k20_whole_one_rest_each_holds : PySem.Challenge.rw_duskround_k20_whole_one_rest_each.Holds := by
 w_on;o_law;k_head;(case hw=>w_witness2)
 k_fill
 refine K20.walk (l:=PySem.Challenge.rw_duskround_k20_whole_one_rest_each) rfl rfl (fun w h Y=>PySem.W.kIn_of Y) rfl fun w mg h X G=> ?_
 have' F_tidy:=aO (x:= "tidy") (ps:= ["p","pairs"]) (st:=K20.jA) X G ?g14 ?g15 ?g16 ?g17 (fun _ _ _ _ _ _ _ _=>rfl);(case g14=>k_is);(case g15=>k_is);(case g16=>k_is);(case g17=>k_is);have' F_inverse:=aO (x:= "inverse") (ps:= ["p","setting"]) (st:=K20.fK) X G ?g18 ?g19 ?g20 ?g21 (fun _ _ _ _ _ _ _ _=>rfl);(case g18=>k_is);(case g19=>k_is);(case g20=>k_is);(case g21=>k_is);have' F_Row:=tD (x:= "Row") (ps:= ["self","lamps","parts"]) (st:=K20.qW) X G ?g22 ?g23 ?g24 ?g25 ?g26 ?g27 ?g28 ?g29 ?g30 ?g31 ?g32 ?g33 (fun _ _ _ _ _ _ _ _ _=>rfl);(case g22=>k_is);(case g23=>k_is);(case g24=>k_is);(case g25=>k_is);(case g26=>k_is);(case g27=>k_is);(case g28=>k_is);(case g29=>k_is);(case g30=>k_is);(case g31=>k_is);(case g32=>k_is);(case g33=>k_is);have' F_Stair:=tD (x:= "Stair") (ps:= ["self","row","first","length","foot"]) (st:=K20.jE) X G ?g34 ?g35 ?g36 ?g37 ?g38 ?g39 ?g40 ?g41 ?g42 ?g43 ?g44 ?g45 (fun _ _ _ _ _ _ _ _ _ _ _=>rfl);(case g34=>k_is);(case g35=>k_is);(case g36=>k_is);(case g37=>k_is);(case g38=>k_is);(case g39=>k_is);(case g40=>k_is);(case g41=>k_is);(case g42=>k_is);(case g43=>k_is);(case g44=>k_is);(case g45=>k_is);have' F_column:=aO (x:= "column") (ps:= ["place","stride"]) (st:=K20.gQ) X G ?g46 ?g47 ?g48 ?g49 (fun _ _ _ _ _ _ _ _=>rfl);(case g46=>k_is);(case g47=>k_is);(case g48=>k_is);(case g49=>k_is);have' F_first_column:=aO (x:= "first_column") (ps:= ["places","stride"]) (st:=K20.bI) X G ?g50 ?g51 ?g52 ?g53 (fun _ _ _ _ _ _ _ _=>rfl);(case g50=>k_is);(case g51=>k_is);(case g52=>k_is);(case g53=>k_is);have' F_heights:=aO (x:= "heights") (ps:= ["places","stride","first"]) (st:=K20.cS) X G ?g54 ?g55 ?g56 ?g57 (fun _ _ _ _ _ _ _ _ _=>rfl);(case g54=>k_is);(case g55=>k_is);(case g56=>k_is);(case g57=>k_is);have' F_add_shifted:=aO (x:= "add_shifted") (ps:= ["p","held","others","by","n"]) (st:=K20.cM) X G ?g58 ?g59 ?g60 ?g61 (fun _ _ _ _ _ _ _ _ _ _ _=>rfl);(case g58=>k_is);(case g59=>k_is);(case g60=>k_is);(case g61=>k_is);have' F_add_moved:=aO (x:= "add_moved") (ps:= ["p","stride","row","other","shift","n"]) (st:=K20.dz) X G ?g62 ?g63 ?g64 ?g65 (fun _ _ _ _ _ _ _ _ _ _ _ _=>rfl);(case g62=>k_is);(case g63=>k_is);(case g64=>k_is);(case g65=>k_is);have' F_too_high_or_low:=aO (x:= "too_high_or_low") (ps:= ["found","length"]) (st:=K20.bG) X G ?g66 ?g67 ?g68 ?g69 (fun _ _ _ _ _ _ _ _=>rfl);(case g66=>k_is);(case g67=>k_is);(case g68=>k_is);(case g69=>k_is);have' F_cut:=aO (x:= "cut") (ps:= ["p","stride","row","stair"]) (st:=K20.qV) X G ?g70 ?g71 ?g72 ?g73 (fun _ _ _ _ _ _ _ _ _ _=>rfl);(case g70=>k_is);(case g71=>k_is);(case g72=>k_is);(case g73=>k_is);have' F_stood:=aO (x:= "stood") (ps:= ["p","stride","row"]) (st:=K20.jC) X G ?g74 ?g75 ?g76 ?g77 (fun _ _ _ _ _ _ _ _ _=>rfl);(case g74=>k_is);(case g75=>k_is);(case g76=>k_is);(case g77=>k_is);have' F_told_parts:=aO (x:= "told_parts") (ps:= ["p","parts","n"]) (st:=K20.cg) X G ?g78 ?g79 ?g80 ?g81 (fun _ _ _ _ _ _ _ _ _=>rfl);(case g78=>k_is);(case g79=>k_is);(case g80=>k_is);(case g81=>k_is);have' F_taken:=aO (x:= "taken") (ps:= ["p","stride","stairs","pattern"]) (st:=K20.jB) X G ?g82 ?g83 ?g84 ?g85 (fun _ _ _ _ _ _ _ _ _ _=>rfl);(case g82=>k_is);(case g83=>k_is);(case g84=>k_is);(case g85=>k_is);have' F_rest_of:=aO (x:= "rest_of") (ps:= ["p","stride","stairs","pattern"]) (st:=K20.fI) X G ?g86 ?g87 ?g88 ?g89 (fun _ _ _ _ _ _ _ _ _ _=>rfl);(case g86=>k_is);(case g87=>k_is);(case g88=>k_is);(case g89=>k_is);have' F_l_begin:=aO (x:= "_law_begin") (ps:= ["_law_script"]) (st:=K20.fJ) X G ?g90 ?g91 ?g92 ?g93 (fun _ _ _ _ _ _ _=>rfl);(case g90=>k_is);(case g91=>k_is);(case g92=>k_is);(case g93=>k_is);have' F_l_take:=aO (x:= "_law_take") (ps:= ["_law_draw","_law_many"]) (st:=K20.gO) X G ?g94 ?g95 ?g96 ?g97 (fun _ _ _ _ _ _ _ _=>rfl);(case g94=>k_is);(case g95=>k_is);(case g96=>k_is);(case g97=>k_is);have' F_l_p:=aO (x:= "_law_p") (ps:= ["_law_draw"]) (st:=K20.qU) X G ?g98 ?g99 ?g100 ?g101 (fun _ _ _ _ _ _ _=>rfl);(case g98=>k_is);(case g99=>k_is);(case g100=>k_is);(case g101=>k_is);have' F_l_tidy:=aO (x:= "_law_tidy") (ps:= ["_law_p_here","_law_pairs"]) (st:=K20.e9) X G ?g102 ?g103 ?g104 ?g105 (fun _ _ _ _ _ _ _ _=>rfl);(case g102=>k_is);(case g103=>k_is);(case g104=>k_is);(case g105=>k_is);have' F_l_pattern:=aO (x:= "_law_pattern") (ps:= ["_law_draw","_law_p_here","_law_most","_law_far"]) (st:=K20.dy) X G ?g106 ?g107 ?g108 ?g109 (fun _ _ _ _ _ _ _ _ _ _=>rfl);(case g106=>k_is);(case g107=>k_is);(case g108=>k_is);(case g109=>k_is);have' F_l_sum:=aO (x:= "_law_sum") (ps:= ["_law_p_here","_law_one","_law_other","_law_by","_law_many"]) (st:=K20.gu) X G ?g110 ?g111 ?g112 ?g113 (fun _ _ _ _ _ _ _ _ _ _ _=>rfl);(case g110=>k_is);(case g111=>k_is);(case g112=>k_is);(case g113=>k_is);have' F_l_column:=aO (x:= "_law_column") (ps:= ["_law_place","_law_stride"]) (st:=K20.eC) X G ?g114 ?g115 ?g116 ?g117 (fun _ _ _ _ _ _ _ _=>rfl);(case g114=>k_is);(case g115=>k_is);(case g116=>k_is);(case g117=>k_is);have' F_l_draw_stair:=aO (x:= "_law_draw_stair") (ps:= ["_law_draw","_law_p_here","_law_stride","_law_at"]) (st:=K20.bH) X G ?g118 ?g119 ?g120 ?g121 (fun _ _ _ _ _ _ _ _ _ _=>rfl);(case g118=>k_is);(case g119=>k_is);(case g120=>k_is);(case g121=>k_is);have' F_l_draw_stairs:=aO (x:= "_law_draw_stairs") (ps:= ["_law_draw","_law_p_here","_law_stride"]) (st:=K20.bj) X G ?g122 ?g123 ?g124 ?g125 (fun _ _ _ _ _ _ _ _ _=>rfl);(case g122=>k_is);(case g123=>k_is);(case g124=>k_is);(case g125=>k_is);have' F_l_int:=aO (x:= "_law_int") (ps:= ["_law_thing"]) (st:=K20.jD) X G ?g126 ?g127 ?g128 ?g129 (fun _ _ _ _ _ _ _=>rfl);(case g126=>k_is);(case g127=>k_is);(case g128=>k_is);(case g129=>k_is);have' F_l_is_pattern:=aO (x:= "_law_is_pattern") (ps:= ["_law_p_here","_law_thing"]) (st:=K20.cx) X G ?g130 ?g131 ?g132 ?g133 (fun _ _ _ _ _ _ _ _=>rfl);(case g130=>k_is);(case g131=>k_is);(case g132=>k_is);(case g133=>k_is);have' F_l_first:=aO (x:= "_law_first") (ps:= ["_law_stride","_law_pattern_here"]) (st:=K20.dQ) X G ?g134 ?g135 ?g136 ?g137 (fun _ _ _ _ _ _ _ _=>rfl);(case g134=>k_is);(case g135=>k_is);(case g136=>k_is);(case g137=>k_is);have' F_l_spots:=aO (x:= "_law_spots") (ps:= ["_law_stride","_law_pattern_here","_law_at"]) (st:=K20.dP) X G ?g138 ?g139 ?g140 ?g141 (fun _ _ _ _ _ _ _ _ _=>rfl);(case g138=>k_is);(case g139=>k_is);(case g140=>k_is);(case g141=>k_is);have' F_l_size:=aO (x:= "_law_size") (ps:= ["_law_stride","_law_stair"]) (st:=K20.gP) X G ?g142 ?g143 ?g144 ?g145 (fun _ _ _ _ _ _ _ _=>rfl);(case g142=>k_is);(case g143=>k_is);(case g144=>k_is);(case g145=>k_is);have' F_l_lies_low:=aO (x:= "_law_lies_low") (ps:= ["_law_stride","_law_stairs","_law_pattern_here"]) (st:=K20.c6) X G ?g146 ?g147 ?g148 ?g149 (fun _ _ _ _ _ _ _ _ _=>rfl);(case g146=>k_is);(case g147=>k_is);(case g148=>k_is);(case g149=>k_is);have' F_law:=aO (x:= "law") (ps:= ["_law_script"]) (st:=K20.qT) X G ?g150 ?g151 ?g152 ?g153 (fun _ _ _ _ _ _ _=>rfl);(case g150=>k_is);(case g151=>k_is);(case g152=>k_is);(case g153=>k_is);have' N_Row_lamps:=hU F_Row "lamps" ?n_Row_lamps;(case n_Row_lamps=>k_is);have' N_Row_parts:=hU F_Row "parts" ?n_Row_parts;(case n_Row_parts=>k_is);have' N_Stair_first:=hU F_Stair "first" ?n_Stair_first;(case n_Stair_first=>k_is);have' N_Stair_foot:=hU F_Stair "foot" ?n_Stair_foot;(case n_Stair_foot=>k_is);have' N_Stair_lamps:=hU F_Stair "lamps" ?n_Stair_lamps;(case n_Stair_lamps=>k_is);have' N_Stair_length:=hU F_Stair "length" ?n_Stair_length;(case n_Stair_length=>k_is);have' N_Stair_parts:=hU F_Stair "parts" ?n_Stair_parts;(case n_Stair_parts=>k_is)
 refine' ⟨⟨_,_,_,_,_,_,_,_,_,_,_,_,_,_,_,_,_,_,_,_,_,_,_,_,_,_,_,_,_,_,_,_,_,_,_,_,_,_,_,_,_,_,_,_,_,_,_,_,_,_,_,_,_,_,_,_,_,_,_,_,_,_,_,_⟩,PySem.W.mg_none_of X G ?g1,PySem.W.mg_none_of X G ?g2,PySem.W.mg_none_of X G ?g3,PySem.W.mg_none_of X G ?g4,PySem.W.mg_none_of X G ?g5,PySem.W.mg_none_of X G ?g6,PySem.W.mg_none_of X G ?g7,PySem.W.mg_none_of X G ?g8,PySem.W.mg_none_of X G ?g9,PySem.W.mg_none_of X G ?g10,PySem.W.mg_none_of X G ?g11,PySem.W.mg_none_of X G ?g12,PySem.W.mg_none_of X G ?g13,F_tidy,F_inverse,F_Row,F_Stair,F_column,F_first_column,F_heights,F_add_shifted,F_add_moved,F_too_high_or_low,F_cut,F_stood,F_told_parts,F_taken,F_rest_of,F_l_begin,F_l_take,F_l_p,F_l_tidy,F_l_pattern,F_l_sum,F_l_column,F_l_draw_stair,F_l_draw_stairs,F_l_int,F_l_is_pattern,F_l_first,F_l_spots,F_l_size,F_l_lies_low,F_law,N_Row_lamps,N_Row_parts,N_Stair_first,N_Stair_foot,N_Stair_lamps,N_Stair_length,N_Stair_parts⟩
 (case g1=>k_is);(case g2=>k_is);(case g3=>k_is);(case g4=>k_is);(case g5=>k_is);(case g6=>k_is);(case g7=>k_is);(case g8=>k_is);(case g9=>k_is);(case g10=>k_is);(case g11=>k_is);(case g12=>k_is);(case g13=>k_is)
