import PyProof.Rows.All
import Wide.All
import OpenK.AllK
import Wide.FinOn
import Lean
import PyProof.EqAt
import PyProof.EqKinds
import PyProof.TupleCall
import PyProof.NeKinds
import PyProof.SumAny
import PyProof.ConsumeS
import PyProof.WalkInts
import PyProof.Draws
import PyProof.EnumMake
import PyProof.Rows.Range3
import PyProof.MeetsStr
import KE.KDictLaws
import PyProof.Rows.CallKwBuiltin
import PyProof.DictItems
import KE.KPairComp
import PyProof.AttrMissHeap
import KE.KDictOf
import KE.KItemsList
import KE.KTryMore
import PyProof.StrBlockG
import PyProof.StrWalks
import PyProof.Rows.SortStr
import PyProof.Rows.SortKeyStr
import PySem.Challenge.RW_duskround_k36_crews_refused
set_option linter.all false
set_option genSizeOf false
set_option genInjectivity false
abbrev eV:=@List
abbrev eX:=@PySem.Value
abbrev eY:=@PySem.Shared
abbrev fk:=@Option
abbrev fR:=@PySem.Addr
abbrev hU:=@PyProof.Rows.Keyed
abbrev iC:=@Array
abbrev iD:=@PySem.W.Frag
abbrev jf:=@PyProof.Rows.SortSt
def aa:=@List.length_map
def ag:=@List.mem_singleton
def ah:=@List.mem_map
def aj:=@if_neg
def ak:=@PySem.wpAny_bind
def am:=@if_pos
def ao:=@List.getElem?_eq_some_iff
def ap:=@Nat.le_refl
def aq:=@List.getElem?_eq_getElem
def ar:=@PySem.Heap.get?_push_of_some
def au:=@List.mem_append
def ay:=@List.mem_cons
def az:=@List.mem_of_getElem?
def aA:=@Decidable.byContradiction
def aC:=@List.mem_cons_of_mem
def aD:=@Bool.false_eq_true
def aF:=@List.getElem?_map
def aH:=@PyProof.Rows.wpS_bind
def aI:=@Nat.le_trans
def aJ:=@PySem.Heap.lt_size
def aK:=@List.map_map
def aM:=@List.length_append
def aN:=@PySem.wpAny_pure
def aO:=@List.map_append
def aQ:=@List.mem_cons_self
def aR:=@PyProof.Rows.wpS_pure
def aT:=@List.length_cons
def aV:=@List.mem_filter
def aX:=@eq_true
def aY:=@List.map_cons
def aZ:=@Ne.symm
def a4:=@PySem.Heap.get?_push_size
def a5:=@List.getElem?_append_right
def a6:=@Int.mul_le_mul_of_nonneg_right
def a7:=@List.size_toArray
def a_:=@Nat.ne_of_lt
def be:=@List.mem_append_right
def bi:=@List.getElem?_append_left
def bj:=@Int.mul_le_mul_of_nonneg_left
def bn:=@Int.le_refl
def bo:=@Bool.false_ne_true
def bu:=@Int.add_emod
def bw:=@List.take_add_one
def bB:=@if_false
def bC:=@Option.some.inj
def bD:=@List.take_append_drop
def bE:=@List.length_take
def bF:=@Int.add_zero
def bH:=@Nat.lt_of_lt_of_le
def bI:=@List.map_congr_left
def bJ:=@List.take_length
def bK:=@PySem.wpAny_mono
def bM:=@List.nodup_cons
def bO:=@PySem.PassesOwn.never
def bQ:=@List.getD_eq_getElem?_getD
def bR:=@Int.zero_mul
def bS:=@List.pairwise_iff_getElem
def bT:=@List.length_singleton
def bV:=@PyProof.Rows.callWith_type1
def bY:=@Int.mul_comm
def cb:=@decide_eq_false
def cc:=@List.pairwise_cons
def ci:=@if_true
def cj:=@decide_eq_true
def cw:=@Int.zero_add
def cx:=@List.length_range
def cy:=@List.append_assoc
def cz:=@PySem.W.mg_none_of
def cA:=@List.mem_iff_getElem?
def cB:=@List.pairwise_map
def cC:=@Int.mul_emod
def cE:=@Nat.lt_irrefl
def cG:=@Int.emod_emod
def cJ:=@Array.toList_append
def cP:=@Int.mul_nonneg
def cQ:=@decide_eq_true_eq
def cU:=@List.pairwise_append
def cV:=@Int.emod_lt_of_pos
def cX:=@PyProof.Rows.wpS_forRange
def cY:=@PySem.sizeLine_eq
def c5:=@List.getElem_mem
def c_:=@Int.mul_zero
def db:=@Int.emod_eq_of_lt
def dg:=@List.length_eq_zero_iff
def dm:=@Nat.zero_le
def dq:=@List.mem_range
def du:=@Int.mul_one
def dw:=@List.find?_cons
def dy:=@Int.emod_nonneg
def dD:=@Nat.lt_succ_self
def dE:=@Int.emod_eq_emod_iff_emod_sub_eq_zero
def dJ:=@PySem.Calls.spliced_cons
def dP:=@Array.length_toList
def dQ:=@Int.emod_add_emod
def dX:=@List.getElem?_replicate
def d4:=@Nat.lt_or_ge
def d5:=@Int.lt_or_le
def d7:=@PySem.mem_of_lookup
def eh:=@Int.mul_neg
def eB:=@List.drop_eq_getElem_cons
def eC:=@PySem.wpAny_truthy_bool
def eI:=@List.perm_append_comm
def eM:=@PySem.Heap.size_push
def eN:=@PySem.Heap.get?_update_other
inductive c7 {T0 T1:Type}(P:T0 ->T1 ->Prop):Prop | mk (x0:T0) (x1:T1) (h:P x0 x1):c7 P
inductive gL {T0 T1 T2:Type}(P:T0 ->T1 ->T2 ->Prop):Prop | mk (x0:T0) (x1:T1) (x2:T2) (h:P x0 x1 x2):gL P
inductive m_ {T0 T1 T2 T3:Type}(P:T0 ->T1 ->T2 ->T3 ->Prop):Prop | mk (x0:T0) (x1:T1) (x2:T2) (x3:T3) (h:P x0 x1 x2 x3):m_ P
inductive Gq {T0 T1 T2 T3 T4:Type}(P:T0 ->T1 ->T2 ->T3 ->T4 ->Prop):Prop | mk (x0:T0) (x1:T1) (x2:T2) (x3:T3) (x4:T4) (h:P x0 x1 x2 x3 x4):Gq P
inductive _Y {T0 T1 T2 T3 T4 T5:Type}(P:T0 ->T1 ->T2 ->T3 ->T4 ->T5 ->Prop):Prop | mk (x0:T0) (x1:T1) (x2:T2) (x3:T3) (x4:T4) (x5:T5) (h:P x0 x1 x2 x3 x4 x5):_Y P
inductive OJ {T0 T1 T2 T3 T4 T5 T6:Type}(P:T0 ->T1 ->T2 ->T3 ->T4 ->T5 ->T6 ->Prop):Prop | mk (x0:T0) (x1:T1) (x2:T2) (x3:T3) (x4:T4) (x5:T5) (x6:T6) (h:P x0 x1 x2 x3 x4 x5 x6):OJ P
inductive E1 {T0 T1 T2 T3 T4 T5 T6 T7:Type}(P:T0 ->T1 ->T2 ->T3 ->T4 ->T5 ->T6 ->T7 ->Prop):Prop | mk (x0:T0) (x1:T1) (x2:T2) (x3:T3) (x4:T4) (x5:T5) (x6:T6) (x7:T7) (h:P x0 x1 x2 x3 x4 x5 x6 x7):E1 P
inductive dU (P0 P1 P2:Prop):Prop | mk (Ys:P0) (LM:P1) (FU:P2):dU P0 P1 P2
inductive gy (P0 P1 P2 P3:Prop):Prop | mk (Ys:P0) (LM:P1) (FU:P2) (_I:P3):gy P0 P1 P2 P3
inductive kg (P0 P1 P2 P3 P4:Prop):Prop | mk (Ys:P0) (LM:P1) (FU:P2) (_I:P3) (hP4:P4):kg P0 P1 P2 P3 P4
inductive nD (P0 P1 P2 P3 P4 P5:Prop):Prop | mk (Ys:P0) (LM:P1) (FU:P2) (_I:P3) (hP4:P4) (hP5:P5):nD P0 P1 P2 P3 P4 P5
inductive E2 (P0 P1 P2 P3 P4 P5 P6:Prop):Prop | mk (Ys:P0) (LM:P1) (FU:P2) (_I:P3) (hP4:P4) (hP5:P5) (hP6:P6):E2 P0 P1 P2 P3 P4 P5 P6
inductive p9 (P0 P1 P2 P3 P4 P5 P6 P7:Prop):Prop | mk (Ys:P0) (LM:P1) (FU:P2) (_I:P3) (hP4:P4) (hP5:P5) (hP6:P6) (hP7:P7):p9 P0 P1 P2 P3 P4 P5 P6 P7
set_option Elab.async false
set_option maxRecDepth 100000
set_option genSizeOf false
set_option genInjectivity false
local macro_rules | `(∅) => `(by lia)
local macro_rules | `(⇑$x) => `(by simpa using $x)
set_option compiler.extract_closed false
noncomputable section
local macro_rules|`(⋯)=>`(by decide)
local macro_rules|`(tactic|symm)=>`(tactic|constructor)
local macro_rules|`(tactic|exact $e)=>`(tactic|refine $e)
local macro_rules|`(tactic|show $e)=>`(tactic|refine $e)
local macro_rules|`(def $i $s:optDeclSig:=by $v)=>do let d:=Lean.mkNode ``Lean.Parser.Command.declSig #[s.raw[0],s.raw[1][0]];`(theorem $i $(⟨d⟩):declSig:=by $v)|`(def $i $s:optDeclSig $v:declVal)=>`(noncomputable def $i $s:optDeclSig $v:declVal)|`(abbrev $i $s:optDeclSig $v:declVal)=>`(noncomputable abbrev $i $s:optDeclSig $v:declVal)
local macro_rules|`(tactic|let $p:term$[:$t]?:=$e)=>do let r:=p.raw.rewriteBottomUp (λs=>let k:=s.getKind;if s.isIdent then Lean.mkNode `Lean.Parser.Tactic.rcasesPat.one #[s] else if k==`Lean.Parser.Term.hole then Lean.mkNode `Lean.Parser.Tactic.rcasesPat.ignore s.getArgs else if k==`Lean.Parser.Term.anonymousCtor then Lean.mkNode `Lean.Parser.Tactic.rcasesPat.tuple (s.getArgs.modify 1 λa=>.node .none `null (a.getArgs.map λq=>if q.isAtom then q else Lean.mkNode `Lean.Parser.Tactic.rcasesPatLo #[Lean.mkNode `Lean.Parser.Tactic.rcasesPatMed #[Lean.mkNullNode #[q]],Lean.mkNullNode])) else s);`(tactic|obtain $(⟨Lean.mkNode `Lean.Parser.Tactic.rcasesPatMed #[Lean.mkNullNode #[r]]⟩):rcasesPatMed$[:$t]?:=$e)
local macro_rules|`(tactic|simp![$x,*]$[$l]?)=>`(tactic|simp only[$x,*]$[$l]?)
local macro_rules|`(#[$x,$y])=>`(⟨$x,$y⟩)|`(#[$x,$y,$z,*])=>`(⟨$x,$y,$z,*⟩)
local macro_rules (kind:=Lean.Parser.Command.mutual)|s=>do
 let c:=s[1].getArgs
 if !c[0]!.isOfKind `Lean.Parser.Command.check then Lean.Macro.throwUnsupported
 let p:=c[0]![1][1]
 let go(m:Std.HashMap String Lean.Syntax)(x:Lean.Syntax):=x.rewriteBottomUp λy=>match y with|.ident _ _ (.str .anonymous n) _=>(m.get? n).getD y|_=>y
 let mut m:Std.HashMap String Lean.Syntax:={}
 let z:="ÀÁÂÃÄÅÆÇÈÉÊËÌÍÎÏÐÑÒÓÔÕÖØÙÚÛÜÝÞßàáâãäåæçèéêëìíîïðñòóôõöøùúûüýþÿĀāĂăĄąĆćĈĉĊċČčĎďĐđĒēĔĕĖėĘęĚěĜĝĞğĠġĢģĤĥĦħĨĩĪīĬĭĮįİıĲĳĴĵĶķĸĹĺĻļĽľĿŀŁłŃńŅņŇňŉŊŋŌōŎŏŐőŒœŔŕŖŗŘřŚśŜŝŞşŠšŢţŤťŦŧŨũŪūŬŭŮůŰűŲųŴŵŶŷŸŹźŻżŽžſγδεζθιμνξοπςτυχψωΑΒΓΔΕΖΗΘΙΚΜΝΞΟΡΤΥΦΧΨΩϊϋόύώϏϐϑϒϓϔϕϖϗϘϙϚϛϜϝϞϟϠϡϢϣϤϥϦϧϨϩϪϫϬϭϮϯϰϱϲϳϴϵ϶ϷϸϹϺϻ".toList.map toString
 let mut w:="abcdefghijklmnopqrstuvwxyzABCDEFGHIJKLMNOPQRSTUVWXYZ".toList.flatMap λa=>z.map λb=>toString a++b
 let mut k:=""
 for x in #[p[0]]++p[2].getSepArgs do
  if x.isIdent then k:=x.getId.toString
  else if k=="" then
   m:=m.insert w.head! (go m x);w:=w.tail!
  else
   m:=m.insert k (go m x);k:=""
 let mut o:Array Lean.Syntax:=#[]
 for x in c[1:] do
  if x.isOfKind `Lean.Parser.Command.universe then
   let i:Lean.Ident:=⟨x[1][0]⟩
   o:=o.push (← if i.getId==`e then `(end) else `(end $i))
  else o:=o.push (go m x)
 return Lean.mkNullNode o
mutual
#check (À,lo+x,Á,ap _,Â,⇑h,Ã,sa+k,Ä,eV V,Å,⇑e,Æ,aJ e,Ç,am e,È,aj e,É,n +1,Ê,fk W,Ë,eV W,Ì,wi s,Í,wi p,Î,(-1),Ï,bn _,Ð,z::r,Ñ,0<=s,Ò,fg a,Ó,am z,Ô,aj z,Õ,km k,a x y,Ö,p::ps,Ø,x::xs,Ù,a≤b,b≤a,Ú,iC hU,lo<=i,(n+1),Û,[_,_],Ü,(k+1),am c1,aj c1,Ý,eV α,(i+k),Þ,(j+1),ß,(i+1),e.2.1,à,j - 1,i - 1,á,⇑hl,jZ hy,i'+j',eV Rn,[x,y],â,eV eX,iC eX,aN ?_,ã,.bl b,eV cF,bL hb,ä,eV fR,fk fR,⇑hb,.bl _,ak ?_,(k,x),am hk,aj hk,p.1=k,q.1=k,v::vs,aj hx,I n s,å,eV Dt,æ,q x M,b≠d,ç,l[i]?,(M x),q.1=x,z.1=x,è,(0<p),"min",fg st,am ey,aj ey,é,t.2.1,t.1=w,ê,t.2.2,u.2.1,am ev,aj ev,ë,s≠0,eV oE,ì,eV Pt,"law",(J i),g.2.2,í,eV fH,t.c=c,î,t∈L,u∈L,fF hu,eV Rd,lap.1,lap.2,b≠o,ï,"one",ð,"row","end",bG ht,l4 ?_,aE n1,wr e1,aE vV,46608,ñ,(.n 1),xs[i]?,some b,ò,b=true,ó,(lo+n),ô,some r,pure r,some d,(À),õ,(Á),i=À,fB hsz,ö,aj ∅,ø,(.n 0),am ∅,(lo+i),(lo+k),ù,some k,(la<f),some g,ú,this.2,û,some x,N<=i+j,ü,this.1,i+j<=N,ý,(.n 2),na - k,sb - 1,(Ã),aq ∅,þ,some u,ÿ,"list",Ā,.ref a,(·.2),ā,eV Int,.inl k,.inr x,.inl i,Ă,.int i,.str x,ă,some v,List V,Ą,some o,ą,am rfl,Ć,(·.1),.ref x,(cE _),.lst _,b∉ex,ć,eV Env,Ĉ,some c,b∉ch,(Æ),ĉ,eV Str,Ċ,some a,.inl q,Q v H',ċ,Gl X x,X.mg x,c=true,.inl h,(ls i),some y,ar _ e,2 ^ 62,.int j,2 ^ 64,.int _,.str _,.ref p,dx≠x,.ref C,yH K C,ar _ q,(dD _),fJ k A,(.n 5),vs[i]?,Č,fk Int,some j,č,#[_,e],.int b,.int a,.ref l,"dict",.ref b,.ref _,kv.1=k,some q,some n,Ď,eV Nat,.ref D,ď,.tup l,.lst l,.tup _,.ref d,.ref t,CG K C,List W,(oK e),x=wi i,Đ,(wr p),y=gl k,some z,keep M,wi q.2,(M1 p),(M2 p),dh r x,(a++b),dh a x,cO p l,.inr h,(fP m),(a:fR),p<1000,z.1+pY,(a:Pt),(a:Rd),(0,[]),α ->W,β ->W,(eW a),λ_=>0,100000,Bd b l,ns= [],đ,b_ s x,(b_ s),(Ñ),Ē,hI s x,kP s c,GD p m,GD p a,NZ p n,GD p c,"foot",some t,(ly P),pf P w,wi len,0<=len,0<foot,foot<p,d4 j i,(s<=8),(0<=Z),(0<=D),look c,-Z - 1,dh d x,(Ð),pf P n,400000,y - sh,K.In h,Cu p n,(lo+1),ē,(Ï),sts[i],Ĕ,(.n 8),wr t.o,(nq L),(·.c),(·.b),h.yD z,(hc z),h a aQ,a+kS r,(hV L),Ls[i]?,yC s i,(u:fR),nE R x,"self","held","ends",ĕ,(pv 1),Ė,(de _),ė,(pv 0),Ę,(pv 2),ę,(pv 3),Ě,(pv 4),ě,(pv 5),Ĝ,(pv 6),(pv 7),(tQ T),(fE T),(mK T),.inl 0,hV L d,(.n 6),(Lqp c),ĝ,(0:Int),a+1≤b,b+1≤a,c8 xs i,c8 xs k,Ğ,[_,_,_],min k n,(j+1+k),d.2.2.1,d.2.2.2,e.2.2.1,(à),ğ,(aÈ),cA.mp h,dL st g,am ⇑c,aj ⇑c,(sb+nb),l≠ [],"tuple",(aÎ),p.1=q.1,(n:Nat),.tup xs,"range",k b u q,some o',Ġ,some ob,Q () s',ġ,eV Expr,eV Stmt,Ģ,I.tok _,(ã),(e::es),(i:Nat),ģ,(n:Int),Int ->V,(g i j),Ĥ,1000000,vals1 r,ay.mp h,ĥ,(k:Int),(j:Int),ao.mp h,(1:Int),(pk ry),#[q,hq],(f8 st),(eG st),Ħ,(bg st),ok=true,br H H1,ħ,br H H',K.In hh,Sm M M2,Ĩ,Sm M M',(aq hj),h.at e1,wb true,q wn M',ĩ,(k:Nat),Sm M1 M,(bG hp),hq p hp,sa z hz,ag.mp h,lH p ps,Ī,(p:Int),8000000,(aZ c6),Int×Pt,its[i]?,a.2.map,eV Bool,x - e*n,(m:Int),g x % p,a.1≠0,[a,b,c],[(0,1)],h3 x hx,ī,fA s st,Ĭ,(i:Int),ah.mp h,ĭ,"lamps",Į,"parts",į,"first",pf P' w,4000000,h - len,(f+h*s),wi foot,3000000,(x+s*m),İ,List Pt,gI s st,(eE hn),(a - b),(aq hi),(w:Int),h - 2*w,hj j jR,ı,List fH,u.c=t.c,w+2*K*s,iH L t',fr x hx,Sm M M3,f_ p Ls,Li ns R,Zg p ms,Vh p ms,fR ->TS,fR ->WS,"other",Ĳ,"place","shift","found","stair",ĳ,(fq hr),"which",(P':Pq),hB t ht,U5 m h3,(.n 13),tt - mm,(E'+Λ),Ĵ,List Int,List Nat,ĵ,Ord less,arrOf st,lo+c.snd,Ķ,.inl rfl,arrOf bN,ķ,O.refl _,(i - lo),(base+i),l.take i,l.drop i,au.mp hx,ĸ,o.push x,Ĺ,λx=> ?_,i<a.size,j<b.size,(c8 b j),(c8 a i),ag.mp hx,ĺ,.inr rfl,am ⇑c2,aj ⇑c2,Ļ,#[_,rfl],(.inl c),l.take k,l.drop k,l.drop j,(lo,n,0),pl≠ [],ļ,h.get? a,[Ā],.int i t,cM xs us,RelV x u,Ľ,RelV v u,ľ,H b=none,Ŀ,a4 _ rfl,(cS P w),ŀ,(.ref f),(aĕ),h.get? b,H a=none,Ze (H x),(.own x),k b ob q,(ZQ h H),List Str,List Env,b∉X.ex,b∉X.fs,(ă),X.pn++ai,some p.2,id I.loc,ao.mp hi,⇑I.len,cM vs us,t σ H Q,t D σ H,RelV x v,Ł,RelV y u,(Ă),(aē),x= .bl c,.bl true,ł,(Ā),r.inj r',X.prog=P,J.go i H,(LqIe e),16777216,#[H,I,q],Ń,(aĪ),(.inl e),yH X.K C,λ_=>rfl,(aī),(.n 200),ń,(aĨ),kQ outer,(vs++rQ),#[us,[]],(us++ds),fJ k X.A,cM rQ ds,P.zip vs,a5 ⇑hi,bi ⇑hi,Ņ,(.g Lq0),ņ,H p=none,H l=none,(aĴ),Ň,iU kvs k,#[h1,h2],ay.mp hx,(y=kV k),(.dK []),#[t,rfl],λ_ h=>h,ay.mp hy,(aĻ),(aĢ),(ď),(vf d e),AH d<=50,"sorted",br H1 H2,(uP P w),(.ref e),ň,M p=none,ŉ,gF K M H,(û),w ρ M q,Ŋ,IE K t a,IT K t a,wb false,IE K u b,IA K u b,ŋ,IA K t a,(x=wr a),Ō,m a _ hl,ō,iT.of hv,(iG K p),p vs M q,m.new hp,#[rfl,r],(x=wr p),(ań),fI kvs k,IE K s c,IS K t a,IG K g w,(LqNe h),I i ρ M,I m ρ M,I i ys M,Sm M0 M',DR M x d,Ŏ,(by rfl),Dr M d l,ŏ,Int×Int,W ->Prop,look r x,look l x,h.1 z hz,Ő,(LqId e),ő,look a x,look b x,ag.mp hq,BA hp hs,ay.mp hz,(.inl x),nj m x v,Œ,look m x,look m y,look m n,(d l:fR),œ,16000000,(aő),(pat:Pt),(a b:Pt),Nw y n b,(bk p a),(o0 _ _),ns≠ [],(.ref j),ay.mp hb,fe.2.2.2,Ŕ,ag.mp hb,fj.2.2.2,λz=> ?_,(Wj K p),(Ex K e),Str ->TE,Sm M1 M',ŕ,(.g Lq1),oT e n q,lY e n l,cO p a.2,(lo+i*c),[(ky,u)],đ=f,M t=none,(đ),ms≠ [],wr x::xs,(.dK us),hx b _ q,(hW m x),h.2 z hz,Ŗ,look c x,"length",wr é,M x=none,ah.mp hm,nZ P w c,pf P t.1,au.mp hu,ag.mp hu,x - s*sh,(aŧ),(pf Q w),(x - sh),(iB e).1,ŗ,kl len h,ao.mp hj,look b f,(.g Lq2),(look a),đ=c,ah.mp hx,ah.mp hy,look pat,qy l c k,Nat ->Pt,λ_=> [],ah.mp hb,(look b),pI Nk sn,(Λ:Int),ah.mp hc,one x hx,(pf Q n),#[1,rfl],#[2,rfl],.inl t.c,au.mp hb,u.c=t'.c,sm _ _ e,L++ [t'],one u hu,Ò= [],u8 s Z c,(·.len),lH p t.b,Ord L Ls,(aι),au.mp ht,ag.mp ht,Ř,"stride","rounds","stairs","makers",(s,rest),λh=> ?_,pc s a.1,(top 49),"_law_k",b.map cN,ay.mp hm,ay.mp hj,λ_=> ?_,M d=none,qi _ _ e,(gm rfl),Wm _ _ e,(jN rfl),far t ht,(.n 100),(j0:Int),t.c≠c0,(mem ht),(qB rfl),sound c x,i<xs.size,(aΕ),eY ->Prop,some none,pure none,ř,[_,_,_,_],#[rfl,?_],Q true bN,(none,()),(l+r) / 2,Bf i=true,al.take i,bl.take j,Ś,(LE less),al.drop i,bl.drop j,elem' b j,elem' a i,c.2.2.2.2,e.2.2.2.1,à - k,ś,(by simp),n - Þ,aR ü,aR ú,i<=a.size,j<=b.size,at_+Ü,(arrOf s),(LqNd NV),(dL Fb g),(LqIz h1),.cons _ t,.cons r t,cM xs its,Ŝ,KV kvs vs,h'.get? b,(aϋ),h'.get? a,List Addr,H' b=none,K.In base,ŝ,Hp ->Prop,Ş,PE X a ta,PE X b tb,PT X a tA,.bl false,(.lst xs),h.ok I.c9,PS X st t,PE X e te,(.ref it),I.list hq,rv.get hx,(LqNd hl),PE X l tl,-(aģ),x= Ă,ş,Int ->Int,k=(i !=0),(.dK kvs),kG f v fs,xT I.c9 e,(Ģ),Š,(.n 1000),λ_=>none,PE X o ta,A.units+1,PA X es t,H1 p=none,kh CX X E,(LqNe hl),(.type T),(.lst ys),(LqNd d_),(.tup ys),(.dT kvs),pR I.c9 e,rel.val k,wE I.c9 e,z_ I.c9 e,PE X o td,PE X i ty,pyNext it,(.lst []),(.ref Da),I.list iN,I.list hs,(.ref ea),š,some true,Ţ,Mp ->Prop,(.lst vs),b ρ M1 q,IT K tc c,ţ,M1 p=none,x= ď,IS K t w',ns.map wi,#[rfl,rx],rr.val ky,m1 p _ hp,m3 p _ e2,D.nx ρ M,br.refl _,Sm.refl M,#[hi,rfl],Ť,û::r,#[l,h2,k],(LqIe e1),(LqIe hx),aj (aZ e),(aϬ),Dr M' d l,NB d M M',Nat ->Int,(p s:Int),(aϳ),(n+1:Nat),.int j t',(i j:Int),H1 l=none,"default",pC s f ns,(g,y)::fs,M1 x=none,ps.drop i,fK M M' L,h.D9 t ht,sT ns len,0<=Ē,look c' x,sT ms len,eV (Ë),cO p rest,look st x,look r' x,lc v gs x,(aC _ hc),w_ s p bs,(LqId h3),(LqIe h3),nX k t hk,(sr i hi),look c1 x,M0 x=none,(aC _ hx),(bÒ),bA.take i,(look pt),(o dx:fR),yu ns r x,ms.map gz,Ul p ms s,"surplus",(o5.HH i),iO a 8 24,"pattern",ť,"setting","members",Ŧ,jo K mg A,(TU h hm),Z+i*(D+s),w'+2*K'*s,(LqId BY),i*bã,Sm.refl _,ŧ,(bå),λ_ _=>rfl,(lo+n - 1),Ũ,(Ķ),ũ,(bç),(À - 1),(arrOf gU),oB hks ∅,Ū,(by omega),(.m 2 Lq1),(.m 2 Lq0),fk (Ú),(ĸ),a.size - 1,((LqNd e)),(sa,na,pw),(LqNd hsz),(a,n,p)::r,(arrOf gM),pairsOf vs,ak aΨ,λ_ _ e=>e,(· <= ·),ū,eV (κ×V),H a=Ą,H b=þ,.seq its n,Ŭ,lE P w H h,(λ_ q=>q),λ_ _ q=>q,(cR H a o),(cR H x o),kQ X.outer,some .cell,some .free,kQ X.stack,I.pin p hp,s'.os=s.os,λ_ _ x=>x,tb σ H1 Q,K.lookup a,pure false,I.tuple hq,I.ok.hd hc,.Name x iW,J.stop i H,#[rfl,rfl],Int ->Prop,1073741824,ŭ,(bĜ),false=true,Ů,some false,"__init__",eval e env,(dC K C f),Mk X.K C f,(bM.mp nd),K.lookup f,gV kvs k v,ua I.c9 eb,rX H a y o,ů,eV (cF×V),.bool true,K w.params,y.2= .free,(lr x c e),(hg cl fp),(hc cl fp),(he cl fp),I.tuple hs,I.tuple iN,j<l.length,λ_ _ h=>h,H' ea=none,.v aϑ,(um M p o),Ű,WR K H x v,WR K H d v,eV (κ×W),MR K H a o,(cR H a u),ű,gF K M' H',WR K H y u,(r1.ts t2),(ko.of ce),Option Int,xs= [wr a],Ų,eV (cF×W),l.length=n,D.nx ρ M1,II K ti it,(ys++ [y]),(l.map cN),ų,#[_,rfl,h],jP p l x s,aj (aZ hx),0<l.length,a.2.length,d4 j Ü,(gi l)[i]?,q (wb b) M,AA X.K x C,(pyIter x),iu f e n x,lM f e n x,(-n).toNat,lw p a n r,l.length*n,r.2.length,I.io x c h,"min.loop",(s<2 ^ 30),M1 dx=none,eO b n1 n2,Ŵ,bX rl rp P,M d=Ą,bM.mp h.Qm,bX ol op Q,ŵ,(bπ),ns.headD 0,dq.mpr ∅,s*ŗ,(aV.mp hx),(Ò).map,ms.headD 0,d6 G d % p,look pat x,sr.ok.on _,nX i st hi,(.m 2 Lq2),qD s l h P,(bA:ì),eA s K w c,(.m 2 Lq4),(.m 2 Lq3),row.mem hx,u.GR c1 P1,(jn p a r),(ms:añ),cO p aó,("p" :Str),(.lst [x]),(b₀::sV),I8.tI I.ok,"_law_one",h3 d d1 d2,(gf e9 aL),(ae aL ax),aE (aZ vV),aE (aZ Lq),aE (aZ Qo),aE (aZ Jb),absurd h z,ah.mp FP.1,(bx2 t ht),aE (aZ _a),(F:ā),mb.O3 a hm,(jn p r a),Int.ofNat k,LE less x y,Array Keyed,failedOf st,i<a₀.size,i<=k /\ k<j,c.snd.snd+1,c.snd.fst+1,(LqNk iE c),c=bϴ,λj hj=> ?_,λi hi=> ?_,LE less y x,e.2.2.2.2.1,e.2.2.2.2.2,Decidable c,uF λr=> ?_,(FL rfl ?_),(k==0)=true,i+n<xs.size,(y=c8 xs n),(T.mb j hj),gallopOf st,Ŷ,[_,_,_,_,_],n - (at_+k),c8 xs (i+n),pendingOf s,(sb,nb,pw2),i=l1.length,l1.length+1,pj k v=true,Value.ref a,eV (κ×eX),Array Value,Heap ->Prop,o.dict=none,(its:â),h.Ns1 dx mA,fs.lookup f,(cR H x o'),some .local,Str ->fk eX,X.fn x=true,ŷ,X.calm=true,λp hp=> ?_,(neL b o e),Ÿ,λb hb=> ?_,λm hm=> ?_,i<σ.length,#[u',r',?_],D.nx σ' H',D.bk σ' H',D.ct σ' H',(SP X ai D),aĝ=none,#[H1,I1,q1],iT K H a xs,ko K H a xs,(cÐ),I.v9 a o hk,#[σ,H,I,h],(V' tc t u),(v= Ā),(a_ aĚ),2<=sizeLine,⟨m0,w0⟩,tn i s.heap,(model P w),"enumerate",λi _=>n<=i,(hf b hb).1,Ź,(x= Ā),⟨xs,hq⟩,I1.tuple hq,again I7 n7,eX ->Sem eX,Mt x y=true,iT K H p xs,ko K H p xs,K.In s.heap,(·.isSome),eV (Str×V),(g==k)=true,(qv f y fs),(.m 16 Lq1),sp vs H Q E,(ps.zip us),r.append hd,(.Name x p),I2.after JR,λy hy=> ?_,i<vs.length,Ai xs lo hi,(i+n).toNat,j<xs.length,i<xs.length,(x= aĨ),I.c9 p _ hk,n<=sizeLine,(x= aĴ),(y= aĶ),iU (p::r) k,.cons ?_ ih,(ks.map kV),KT H kvs xs,ź,λx hx=> ?_,(!o.isSome),(cR H a ob),aN (ak fin),eV (TE×TE),eV (eX×eX),eV (cF×eX),lW kvs more,#[t1,t2,?_],Params ->iD,Option Addr,fU.lookup x,cl.lookup x,(LqNe this),(LqNd this),(xZ b hb).2,(.ok .next),eval iP env,W i m ys H',tn 0 s.heap,mZ I3 f3 Ic,ko K H a vs,im K H l vs,Rep K H d v,#[v,rfl,h1],sf d e=true,(ks:ā),#[_,ho,rfl],H₀ b=none,kt b o e hb,(I.No e hb),"__class__",.v bĕ,aE (cT e h),(um M' p o),Ż,cW K H l vs,WR K H' x v,ż,KR K H l vs,ki K H D' D,(t.trans s),Ž,(br.refl H),t1.trans t2,t2.trans t3,iT K H p ys,ko K H p ys,(cĉ),Bool ->Prop,a ρ M D.rt,o.env.ts t1,xs.length=i,(λ_=>True),ts.trans ty,i=xs.length,I m' ρ' M',ts.trans t1,t3.trans t4,(ns:ā),Ë ->Prop,.v bĀ,(cą),1<=sizeLine,4<=sizeLine,(cc.mp h.2),(q.2+s) % p,λz hz=> ?_,Sum.inl q.1,m++ [(x,v)],some (wr d),(ms.map wi),.inl (Ky a),ns.getD i 0,i<ns.length,ns.getD j 0,0<ns.length,Value.ref t,PA X [l] tl,bs.map V.bl,i<bs.length,(bs.map wb),cls= aĪ,(e::e'::es),eval df env,HM.snoc r10,(dB a).take,some aŘ,(n+1).toNat,(ģ+1),(Ux lo c n),#[∅, ∅],(i j c:Int),λv hv=> ?_,h xs M q h3,(i+ĥ),Gl X ÿ,t0.trans t1,yE b o n1 e,0<ms.length,(LqId this),(LqIe this),ž,eV (Str×W),ks.lookup f,UJ.trans Lj,KR K H l ps,(ĭ,l),Int×fR×Pt,Sum.inl t.1,ſ,λu hu=> ?_,#[t,ht,rfl],γ,λt ht=> ?_,#[u,hu,rfl],bX rl rp P',s=0 ->len=0,(hs.take i),N.bd _ N.lo,q (wr t) M',d.length<=n,ĝ=0*k,look rest x,(sts:ì),λw hw=> ?_,(Ne.symm z),dh js y % p,λy ne=> ?_,λi=>pf P i,(A++B).getD,0<=a /\ a<p,λa ha=> ?_,Fl aŹ v,Q3 s b lo n,(x - s*z.1),J bs.length,fA s sts[k],(.inr trim),fA s aź,(x - s*j.1),ĝ % p,(p s Z:Int),look t'.b x,eT s p G0 f,λf hf=> ?_,gA.each u e,(K.toNat+2),gA.each v e,h.each t ht,(cĺ),(nA ns:Nat),δ,(.g Ĕ),Nat.gcd a b,a+1 - (b+1),b+1 - (a+1),n.natAbs<=8,(h,a,c)∈R,ε,some (Ì),Gg p ms s v,some (wr v),ζ,some (Í),ih (hf rfl),(Addr ->WS),s ea E ρ M,6<ms.length,M b=Ġ,θ,"_law_draw","_law_many","_law_most",(.ref A.gE),(.ref A.gD),(.ref A.fT),"_law_told",(eD ė),aX T.Row.cl,some (wr o),some (wi n),pairs_at hx,some (wr r),row.D9 u hu,λd hd=> ?_,λw' x=> ?_,Dy iI.oo hz,aE (aZ nrp),HS.out h hm,Ca (x:=x) z,some (wi h),bX e1 e2 [],λ_=>Z9 _ _,some (wr a),"_law_sums",λz pB=> ?_,.v (.int x),.v (.int s),bX l1 p1 P',(.n aŵ),eZ row.ga.1,(fg c1).map,ι,some (wr u),uu.GR c1 P2,w'+4*(mI*s),(.n aŚ),some (wi b),(eD Ę),some (gz a),mb.pat a hm,Eh (Yg a h),(Bo hr.u60),(l.ok&&r.ok),kindOf st=kd,model prog w,lo+c.snd.fst,c.snd.snd >0,μ,(.a Lq0 Lq1),ν,(.a Lq0 Lq3),ξ,(.a Lq2 Lq3),ο,(.a Lq1 Lq2),pendingOf bN,pendingOf st,π,(.a Lq1 Lq0),(LqNp iE hj),ς,(.a Lq0 Lq2),τ,(.a Lq2 Lq1),υ,(.a Lq2 Lq0),lo+(x+1) - 1,(.a Lq1 Lq1),hk x hx y hy,ForInStep R7,∀x,f x=g x,ForInStep S7,(cŔ),(ao.mp hn).1,(bC hn).symm,(LqNp h1 h2),i+1+1=a.size,kindOf bN=kd,(LqNp hN ck),(.a Lq1 Lq3),(.a Lq5 Lq6),χ,(.a Lq3 Lq4),(LqNp hN Ed),(h3 n n1 n2),(.a Lq3 Lq1),(.a Lq4 Lq5),aj ś,(LqNp hz hk),(.a Lq3 Lq2),(.a Lq1 Lq4),(.a Lq2 Lq4),(.a Lq2 Lq5),l.length - 2,l.length - 1,l1++x::y::l2,lo=a₀.size,pendingOf qI,pendingOf gM,2<=xF.length,pl.length<=1,(.ret .none),decide (a=b),u=Value.none,â ->Prop,RelV p.2 q.2,List (cF×V),.type ÿ,.ins C dx fs,bL (dM q hn),ψ,eV (fR×Obj),Option Value,env.kindOf x,I.cell x c e,(I.KG x c e),(I.io x c e),λx c e=> ?_,(cŨ),λb u e=> ?_,(bď).1,λy c e=> ?_,.inl #[k,?_],I.cell y c e,λ_ _=>False,eval e X.env,eval a X.env,eval b X.env,#[v,H,I,r,h],op≠ .NotIn,absurd rfl h,(cŰ),λh' hx=> ?_,eval o X.env,w8 X body tb,hN σ3 H3 n3,li X ai H' b,xs.length<=i,Gl X aό,(V7 r ta tb),decide (x=y),(g==k)=false,OP X.K C m g,eV (Str×eX),(.a Lq2 Lq2),fJ Ü X.A,(start N vs),False.elim q,s.TypeIs v T,some i.toNat,-ģ <=i,xs= [aĨ],ob.dict=none,(λx=> !x.1),kvs.length+1,valueAt vs k,(gV kvs k y),List Keyword,ns.length<=n,(cγ),(true==true),ns.map V.int,fJ k callerA,iC DictEntry,False.elim h,λb o e=> ?_,absurd rfl z,eV (Str×fR),(λj=>N[j]?),i<own.length,eval c X.env,(newList []),(I9.ku).weak,l.getD j .fw,up b _ e1 X0,E cls none H,"ValueError",(e₀::rest),(.Name x np),"isinstance",List (cF×W),KR K H fs ks,.fz o ks kvs,E3 K H ρ σ,ω,(o.mv t1 m1),⟨c,e,h1⟩,(Cg l lo hi),(m.fresh hp),cW K H xs vs,λi x e=> ?_,xs= [ď],some (.dK l),l.map Ć,(a l ρ M q),List.range n,ko K H1 p vs,cW K H1 l vs,Un.sqT ts hv,i<=xs.length,k3 v H2 gu y,kJ _ aϨ,pV l=some ds,(xs= [wr d]),#[q,rfl,rfl],decide (i=j),#[b,d,a,c,e],#[a,b,c,d,e],#[_,_,rfl,h],(Ne.symm h2),Α,m.map Ć,r.map Ć,(aŒ,z.2),(.s Lq1 Lq2),Β,(.s Lq0 Lq1),ms.map V.int,N.length - 2,(ao.mp e').1,bL (dM q J5),bL (dM r J5),⟨old,he⟩,(ao.mp hx).1,⟨o,h1,r⟩,(toString i),q (ws out) M,j<=yB.length,VX.trans ty7,#[a,rfl,rfl],l.take ß,-(aϴ+1),(.s Lq0 Lq2),(.s Lq0 Lq3),(.s Lq2 Lq3),Γ,(.n Ĥ),"setdefault",λ_ _ _ h=>h,yE Z _ hw hS,l.getLastD 0,[kV p.1,p.2],gV m p.1 p.2,λi q e=> ?_,(.a Lq3 Lq0),Œ≠0,(.dK (fP c)),P.map Ć,(nZ P t.1 c),t.2.2.length,Q.map Ć,bś≠0,(LqIp y0 y1),List.range p,Ŗ≠0,(.s Lq2 Lq1),(.s Lq1 Lq0),Wt (Z+D+s) c,cϚ.1,Mn s f m t a,WQ.uJ p M1 M,(aŧ).map,(sts.map fh),Δ,yw s p sts D,aA λhn=> ?_,aA λhy=> ?_,k<=y /\ y<=m,sr.out z ∅,i<sts.length,(Ne.symm X_),eT s p sts f,eT s p sts g,(A.length+n),(.s Lq1 Lq3),Pt×Int×Nat,G.map Ć,[g.1].length,bs.getD i [],Cw s p sts D,sts.length*h,(cϠ),(jd.of h).l0,λy' ne=> ?_,(.a Lq0 Lq0),ő≠0,qb s Z l h a,(.s Lq0 Lq4),w6 S s p M t,Ε,L.map aŽ,(t.c,t.o,[]),L.map až,ë ->0<=c,(.a Lq0 Lq5),(.s Lq4 Lq5),gA.each t ht,gA.each u hu,t'.o::t'.adr,gA.wg u e hx,(LqIp h1 h2),sr t (az ht),h.each t' m2,(h.fin t ht),λst iM=> ?_,ms.length<=6,(xs= [wr u]),(.a Lq0 Lq4),#[r,rfl,rfl],w=1 \/ w= -1,R.map Ć,("way" :Str),LX X rest al,(.s Lq6 Lq7),(.s Lq3 Lq4),(xs= [gz a]),2<=p /\ p<=7,"_law_pairs",[cϰ],Ζ,(by trivial),decide (x=f),(ao.mp hz).1,λd u e=> ?_,some (wr rl),(o1 o2:Ê),nZ P' u.1 c',λw' xV=> ?_,Η,(cŋ),(.n bÀ),(o5 o6:Ê),(.n aϭ),"_law_place",hz z (az pB),(ao.mp iM).1,aE (cT e f3),aE (cT e f1),aE (cT e f2),aE (cT e TF),(LqNp hn _H),dR p0 row.ga,(LqIp k0 k0),(K'.toNat+1),some (wr hd),eA s K' w' c,(LqIp w0 JV),(LqIp l0 h1),(o4 o5:Ê),λt ht _=>ht,((LqId hSk)),we.each t ht,(wX.of b hb),frL t ht y e,frN (_P y e),gP p0 row.ga,decide (n<0),#[M,bG hu,k],some (wr rd),some (wr ed),some (wr rc),aX T.Crew.cl,(mb.O3 a ha),bG pD _ _ o4,D7.Sd SK nul,l.I c≤r.I c,l.N c≤r.N c,less x y=true,Θ,SB kd a₀ st,(LqNp hn hxn),SB kd a₀ bN,À - (vU+1),(b5.trans hp),Q (ù) st,Nat×Nat×Nat,a.size+b.size,a.extract 0 i,b.extract 0 j,uK less a b x,uK less a b r,aR (h x g hr),at_+ms.length,(sa,na+nb,pw),Ι,[_,_,_,_,_,_],lo<=a₀.size,(.inl õ),fk Unit×Unit,s.heap.get? a,IntsAre vs ns,Value.int i t,Value.str x t,Κ,u=dâ,List (Str×V),.type aΧ,a<h.objs.size,aÏ×fR×eX,some (.own a),fs.map Ć,.type aό,X.H₀ b=none,some bċ,s.heap.get? b,(_b b o e hx),V ->ŝ,(.Name x pos),aĝ=þ,absurd rfl h2,eC #[H1,I1,q],some ł,iT X.K H a xs,ko X.K H a xs,λf s1 q=> ?_,PA X [a,b] ta,λp hp z=> ?_,J.O1 i H x H',((0:Nat):Int),cä <=j,Int ->aϔ,(.n bĝ),cS X.prog X.w,Μ,(.type "int"),some ŀ,"__setattr__",absurd rfl hy,PE X value tv,#[σ,_,I3,q2],False.elim hq,False.elim JR,some Ń,f9 N ps scope,(.builtin id),(getItem o i),#[z,H,I,uZ,q],s.heap.get? p,iT X.K H p ys,ko X.K H p ys,#[o,e,ex.2.1],"list.append",(r.append r2),vs.map Ć,RelV (kV k) u,eV (aÏ×V),u=Value.ref b,l.most=aĺ,(σ[j]?).join,Ic.ok.Ce b hb,l[j]? =aĀ,im X.K H l vs,vs.getD j .fw,Rep X.K H d x,Rep X.K H e y,o.cls= aĪ,"__getattr__",KR K H kvs ks,(Mt a b=true),(dŏ),#[c,r1.eq,?_],(m1.fresh hp),some (aļ),lJ l i=þ,uS l.length i,q (some i) M1,(h3 xs M q h),k= !l.isEmpty,mS (r2.ts t3),λv H2 y=> ?_,(t1.trans ts),(o'.mv t1 m1),I ß ys M3,(o3.mv t4 m4),xs.take ß,eV (ŏ),A6 c b D ρ M,(dŠ),(dŉ),(.v (aĤ)),(.type "str"),Mu a b D ρ M,GU c b D ρ M,(by simp[hz]),look (q::r) x,#[q,hq, Å],am (p8.mpr h),r.filterMap _,mv (-a.1) a.2,(by simp[hi]),s.heap.get? t,#[hl▸hj,vd],#[#[_,he],hj],.tup [wi i,y],(gi l).length,Mod K mg h₀,(dB a).length,n (bC h).symm,some (.own b),KR K H kvs vs,(j - i).toNat,(I1.ok.hd hc),s.heap.get? Z,ms.getLastD 0,ms.length - 1,kvs.length<=i,#[_,rfl,e0,r],(ItI d o kvs),v=Value.ref d,(i - ĥ),(Cz i j Î),(i - j).toNat,λkv=>gl kv.1,(by simp[bX]),P'.map Ć,Q[i]? =ať,(by simp;lia),ns.getLastD 0,-Z<=x /\ x<=Z,(2*Z+1).toNat,absurd rfl hx,max B (C+Z+1),pC s f (Ò),absurd rfl c6,(2*Z+2).toNat,absurd rfl qc,WQ.uJ p M4 M',bs.take Þ,sts.getD n [],(h.ok.on len),sts.getD i [],W.mg_of X G a,this i õ,m<=sts.length,this _ õ,[(ī,1)],(dΩ),(bs.map _++_),single _ _ c6,rS s p bA a P,rS s p bA b Q,bI λu _=> ?_,(bÎ+2*K),Ν,uL s Z K w KP,eP s K w KP c,rT s Z E EP t,rT s Z K KP u,L0.map aŽ,(fK.sm sm []),∀x∈l,0<=x,some (aŻ),K3 s p Z w bA,bA.take ß,L1.map aŽ,(by simp[hn]),-8<=x /\ x<=8,[(ĥ,w)],(2*b+1).toNat,ms.map Ć,sts.length<=6,("head" :Str),("laps" :Str),(jn p r' a).2,"_law_script",Ξ,"_law_p_here",Ο,(.n œ),aX T.Stair.cl,(aŤ :Str),ji z.2 n=True,kp d o' e1 nd,(bG hu).trans,(ij t ht).len,(row.gp t ht),Ρ,(hr.mono ⋯),(row.D9 t ht),(fK.sm qi []),(LqIp w0 hE0),(j' - (j0+1)),(LqNp afx NE),(sm.trans qi),(far t D_).bx,aX T.n_Crew_p,(bG h0 _ _ h),Nat.le_of_eq h,Τ,hU ->hU ->Bool,less y x=false,(.none, .none),Υ,eX ->bϯ,Φ,(eÓ),zt lo c.snd d8,iN i j hi iE c,hm i j hi iE c,λi h1 h2=> ?_,(c=(none,l,r)),#[?_,?_,?_,?_],h.bb x hx y hy,(LS a b o i j),(LU a b o i j),(none,o,i,j,c),(c8 b aΝ),(c8 a ğ),(none,i,j,o,c),xs.extract i j,rR e1 e2 xs ys,⟨u1,u2,u3⟩,#[bû,[]],(Sum.inl a:cF),(Sum.inr a:cF),(cS prog w).is,u=Value.bool b,u=Value.type n,Χ,aý =û,fu P w H h a o,some cÒ,h.objs.size<=a,some (.pK o u),fu P w H h a u,bootBuiltins x,X.env.kindOf x,X.env::X.outer,AllBare s.gens,I.ok.oz.mem hb,Hp ->VK ->Prop,Ψ,St ->ŝ,Ω,(EP X ai σ Q),(TP X ai σ Q),(AP X ai σ Q),some cÛ,pure Flow.next,λx c e z=> ?_,It ->ŝ,(tn i s'.heap),k= !xs.isEmpty,ϊ,some cç,fs.length<1000,(LqNp hl this),A.handled=none,(.ins C dx []),λr s' hq=> ?_,PA X aϒ t,λr s' JR=> ?_,aİ =ă,b∈([]:ä),uS xs.length i,lJ xs i=ă,xs[j]? =ă,.int ys.length,ϋ,(eĂ),(Obj.mapSeq f),some (.lst zs),DecidableEq κ,kvs.map Ć,(cù).mT,some (.ref fa),s₁.gens= #[],(eĶ),λ_ _ _=>False,xY s₁.heap H,λy hy hf=> ?_,names.lookup x,ό,(eđ),wpAny_noted ?_,aN #[rfl,h₃],some có,J.O1 i H' x H2,(lA own fr σ),⟨m',hm,w9⟩,I3.cell x a ha,vs[j]? =ă,(Ø).length,(y::ys).length,(LqNp hn this),Rep.uW I h1 r1,Rep.u_ I h2 r2,Rep.u_ I h1 r1,Rep.uW I h2 r2,b<h'.objs.size,b∉cŨ,.type "object",s1.heap.get? b,#[hh,g,d,t,os],Looks.at LT ?_,Mp ->WK ->Prop,ύ,dj ->Ţ,WR K H p.2 q.2,some cĄ,KR.ts ał r,ώ,Ok K ρ M σ H,q (.v (g i)) M,q (wb (!c)) M1,#[[],ce, .nil],(nC own fr ρ),#[rfl,by simp],(.type "bool"),Pt ->ş,0<z.2 /\ z.2<p,(vs= bû),(LqIp hb this),(by size_fits),b≠e /\ b≠j,hf j ś,(bC this).symm,standAt df.pos,n1<=own.length,(bê).map,bL (Nu I.free),lW [] bŸ,(argBest bt j),aİ =aĹ,[gl kv.1,kv.2],ps[i]? =some p,(as.map V.ref),decide (aæ),x∉cϖ,x∈Ŵ,(h.range p0 x),hs[i]? =some h,hs[j]? =aĈ,look c bÂ,λx hx c6=> ?_,st.sup x hx c6,λx hx hc=> ?_,d6 (ař) js,nG s sts P x n,look b=look st,pC s c (aã),d6 (λ_=>1) js,gG s sts J x n,λi=>J i++J' i,(LqIp gu this),Uw s p sts D r,eV (ş),(Ē).toNat,2*sts.length*w,dh js y' % p=0,(LqIp h1 this),(Mo.of (c5 _)),(bA.getD n []),cϤ+2*K,ë ->c+1<=s,fr x cĸ,λu hu hx=> ?_,tc.fr u e x hx,cs[i]? =Ċ,cs[j]? =aþ,h0 u (aC _ hu),(L.length:Int),Ps[k]? =some P,as[k]? =Ċ,ns[k]? =some e,row.length<=17,yI ns R0 R F D,(XP X ai σ E),X.lj că,iO a m r=false,"farthest_end",[aξ,aõ],"_law_members",(ae ĕ ax),Ϗ,(ĭ :Str),ϐ,(Į :Str),(į :Str),(ae ě ax),op::Ŵ,λz=>qd _ z _g,c'.length<=B+C,(gf e9 Ĝ),(ae ę ax),(ae Ę ax),"_law_setting",(ae Ě ax),(ae Ĝ ax),(by rw[e];rfl),(LqIp e0 hΛ0),cs.drop (j0+1),(gf e9 Ę),(ae ė ax),nA (ns.take i),(n.natAbs:Int),(ae (pv 9) ax),.inl (.inl hz),c8 ŧ i,aH (wpS_get ?_),countRun' lo d8,ϑ,(.a Lq1 ñ),ϒ,(.a Lq0 ñ),ϓ,(.a Lq2 ñ),(.a ñ Lq1),(.a Lq3 ñ),ϔ,(Nat.zero_le _),(lo+k - (lo+l)),(c=(none,la,f)),ϕ,(.a Lq0 ø),(by rw[bE];lia),elem' b aΝ,elem' a ğ,(aÈ==0)=true,(à==1)=true,∃g,bN=aΟ,h3 k õ ∅,ϖ,[_,_,_,_,_,_,_],(.a Lq4 ñ),oU T m bô,ϗ,(.a ø Lq0),at_+k+ms.length,s1 i j hi iE c2,s2 i j c3 iE hj,(SB kd a₀ gM),(.a Lq0 ý),(.a ý Lq1),(Sum.inl.inj q),Paired.length r,ļ=Ą,fs.length<=1000,⟨_,_,_,e,_⟩,bā=Ą,(xY h H).get? b,x≠ "__name__",X.N[i]? =û,Ϙ,Inv X ai σ H s,(I.ok.bs b o e),(I.ok.Fu b o e),λb o e hx=> ?_,(au.mp hp).elim,AllBare s'.gens,(exec st X.env),λb o e=>aĢ,hf it ś,λh' bN sb=> ?_,(hi - lo).toNat,PI X tg iter wi,(binaryOp .Add),(compareOp .Eq),(fď),congrArg some e,"type.__call__",aI I.ok.KL I.sz,(Nat.le_succ _),λfl s' hs=> ?_,(.a ø Lq1),ϙ,(fô),(.cons ru .nil),(.lst (xs++zs)),h1.symm.trans e,atKey (q::qs) k,cí<cLine,#[ob,h1,h2.2.1],(pre_splitW NY),(by rw[q];simp),f9 N ps Ħ,dĸ.2.2,S.free _ hm rfl,Nat ->bϯ,noteFrame x env,Lh own.length g,#[tg,iter,iL,0],(.cons ry .nil),(λb o hb=> ?_),"BaseException",X.N[i]? =aĺ,(σ.set i none),br H cΑ,WR K H (gl k) v,m=xs.length - i,#[_,l,rfl,h3,k],q (gz aŕ) M,-dh a.2 (x+a.1),its.toArray[i]?,aϰ =ă,(ns.length - 1),.tup [Ă,x],λh2 LJ lq=> ?_,bs.getD i false,(ρ.set i none),decide (x=V.fw),assign tg env v,assign kj env v,(cĜ:Int),PA X aϷ ta,(.n cŵ),(I.c9 b _ e).oO,.pK o cç,((k+j:Nat):Int),(uP X.prog X.w),λh1 tk yE=> ?_,[(cĠ,d)],(by rw[he];rfl),(.a Lq1 ø),(.cons rp .nil),((i+1:Nat):Int),(P++ [(w,e,c)]),(ĭ,wr ol),(Į,wr op),look bς x,pf (Q.take i) w,len=0 \/ aŜ,(0<=y /\ y<len),List (ŏ),st.clr j g z hg,Int.zero_emod _,(.s Lq0 ø),dΝ≠0,(by rw[e0];rfl),dh js k % p≠0,(.a ø Lq2),λi=>tm k aì,get i _ bÉ,get j _ aϣ,λi=>mv k aì,Nat.succ.inj h1,Q3 s b aŹ n,(Rb s G).length,lc v (Rb s G) x,(bÆ).toNat,jd.each i st hi,(.a Lq5 ñ),(.a ñ Lq0),(y4 js #[y,hy]),sts'.map (fA s),(.a Lq3 ø),Ϛ,oF S s p M hd L,zY hd L rl rp P,(.a Lq2 ø),bX u.ol u.op P1,a+kS (r.take k),L.length*(E+Λ),(fχ),bA[i]? =some pt,(λn=>pf t.Q n),some (.int n t),((a+1:Nat):Int),((b+1:Nat):Int),(.a Ĕ Lq1),(R++ [(y,v,c)]),(Ř :Str),_W p ms s v sts,matched O hk ?_,λ_ _ z=>z.elim,wb (! cł),["p",ï,"n"],[fΙ],"_law_far_here",ϛ,(λ_ _ _ _=>e_),(bε :Str),(cK Ę rfl),(cK ę rfl),dR p0 (jv.Iq w),(.s Lq0 ñ),(cK Ě rfl),(cK ě rfl),eP s K' w' KP c,λz=>QC mn.lo z,t.Q.length<=100,λv' va X2=> ?_,(L1.length:Int),Ϝ,(cK ė rfl),(LqNp hi4 this),lo+d8<=a₀.size,(c=(none,lo,hi)),λx hx y hy=> ?_,xs.toList.drop i,ϝ,w5 less a₀ a b,.done (û,c),(none,o,i',j',c),xs.toList.take i,(h2 (k - 1) ∅),(none,i',j',o,c),Sg less xs lo hi,hi<=e1 \/ e2<=lo,failedOf bN=none,v₁::v₂::rest,(λq=>nomatch q),(W.instObj C dx),cÑ=Ą,k b u (hb b n) q,List (Addr×Obj),b≠X.env.locals,ay.mp (I.xl b z),Bool ->ŝ,Ä ->ŝ,model X.prog X.w,#[σ',H',I.kR,q],{D with nx:=u D},pyNext cß,"range_iterator",(IsRange.new ..),Int ->cŴ,(.builtin "abs"),W.lookIn name od,beq_iff_eq.mpr h,Inv X ai σ H s',fs.lookup m=none,pure dė,Binds K fd ps [],F.len _ _ _ _ hq,λb ob q=>aĬ,EP X ai σ Q w s,(.builtin "len"),.seq its.toArray,Rd H a cç,Rd H a cö,(λz=>nomatch z),(gV kvs p.1 p.2),k==NameKind.free,X.env.kindOf y.1,Inv X ai σ H s3,A.units+60<cLine,h0.get? b=Ą,(.ext (lx ea C)),hh.get? a=Ą,Bool ->Ţ,Ë ->Ţ,L2.fY.ts (cq hp),q (.v aϕ) M,(.lst (l++ [y])),.dK (gV ks k v1),λv H' hi y=> ?_,hk i ys M' hi hI,Ê ->Ţ,#[_,_,rfl,rfl,h],∀q∈l,q.1≠x,(dŧ:cF),x∈Α,x∉Α,mX (m:=m) (x:=x),Nat ->Nat ->Bool,i< fŕ,beq_iff_eq.mp hk,(Int.dvd_refl p),I.base.nW b xs h,I.base.oN b ps h,(.builtin aâ),L2.fY.ts (cq GK),L2.fY.ts (cq GH),.Pass #[0,0,0,0],kvs[i]? =some kv,#[d,e1,kvs,e2,h],#[d,kvs,e1,e2,h],Rj knd h' its ps,as.map Value.ref,kvs[j]? =some kv,P.map λt=>é,w∉eθ,w∈eθ,Ϟ,cZ p M rl rp a P,uO R S M o ol op,look (aϻ) x,λe=>hc bğ,λe=>hc (.inr e),(ŗ,n)::js,(P.length<=1000),yss[i]? =some zs,ϟ,sts[i]? =some st,sts[j]? =some bN,(p s D Z Zm:Int),(sts.length<=13),aj (λz=>hw z.1),(Nat.succ.inj h),∀a∈v,a % p=0,hI s dΨ,atC x i st hi hx,(ka (eE hx) rfl),(bπ - s*t),(LqIp h1.1 h2.1),(LqIp h1.2 h2.2),(Sum.inl u.c:cF),s=0 ->K=0 /\ w=0,(bA.length<=100),look (pf P1 w) x,(LqIp h1.1 h2.2),au.mpr (.inl hb),λu hu x hx=> ?_,(T8 d (aC _ nr)),∀b∈bs,b∈bA,O0 s p w bA bs L,(by rw[B.len,e]),(h.base.of b hb),(yC s bA.length),(sts.length:Int),(fs:ž),∀n∈ns,Lg S n,y=x+n \/ y=x - n,n.toNat=n.natAbs,(λf s8 h8=> ?_),(λx=>f x - g x),CrF p s sts rest,[cŃ,"by"],"farthest_place",(aS (bZ ė)),decide (x % s=f),aX T.n_Row_lamps,aX T.n_Row_parts,PH pY (b.take i),λx hx=> .inl hx,λw hw=> .inl hw,(LqIp h4 ü),(aS (bZ Ę)),(aS (bZ ę)),(λ_ _=>trivial),(.a bá Lq1),λ_ _ _ _ _=>rfl,(cŇ+2*K'),(LqIp hΛ0 Ni.1),B.held.each t D_,([1, -1]:ā),Int.natAbs_neg n,aX T.n_Crew_head,(NB.trans b1 b2),Ll - d<k /\ k<=Ll,pure (some c.snd),Ϡ,(ϔ),(Bf (gC+la)=true),aR (h _ g2 g4 g5),key∈a₀.toList,(gř),JL less a b o i j,λk h1 h2 h3=> ?_,(∃g,qI=aΟ),JH less a b o i j,(l.take j).drop i,(arrOf s).extract,#[pl,rfl,B',hp,R],(cŚ).size,Array.Perm.refl _,sc.names.lookup x,Vis X.env.scope x,s.heap.IsCell c v,Loc X.env.scope x,σ.set i bċ,{s with heap:=h'},Inv X ai σ H' s',isTrue e X.env nF,starEach es X.env,λc H1=>Q (!c) H1,wpAny_execs_nil q,Nat ->då,(eval iter X.env),(sb.2 b hb).trans,(.Name aό p),(λb u q=>aĬ),.Attribute o f iW,Inv X ai σ H1 s1,standAt gx.atName,#[[],H,I, .nil,h],(λb u e=>aĢ),I.c9.fresh õ,Inv.made (C:=C) I,(hr.make C us []),Str ->fk NameKind,((p,w)::bĪ),s.heap.update p f,SeqAt.EqAt.same _,.ref h'.objs.size,(λ_ _ q=>aĬ),(Ň).isSome,valueAt (q::qs) k,X.A.units+1<cLine,.Subscript o i iW,(cR H p bĲ),(Aa s.heap I.big),λ_ _ h'=>h'.elim,(RR fU KH.locals),T.obj 0 _ st b hb,turn i n ys H4 w4,T.obj _ _ RT b hb,Nat.ne_of_gt z.lt,cí+n<cLine,.cons ⟨e,r⟩ t,(um M p (aļ)),H a=some (.dK xs),ρ.set i bĿ,M a=fĵ,q (wi l.length) M,λy=>decide (y=k),(um M p bĲ),(bŌ).isSome,.inr (by simp[h]),(a.2++mv a.1 b.2),bŨ.2.length,#[?_,ź],.type dĆ,(lq.2 b hb).trans,#[#[u, ⇑LJ],?_],M a=some (.exc C),evalEach es X.env,(.lst (l.map eW)),f (x+e*cĜ),e*((m+1:Nat):Int),(.s Lq0 ŕ),(.a Lq0 ŕ),gĂ eW,X.mg ÿ =none,(.Name ÿ p1),(xs= [wi i,wi j]),(kvs[i]? =some p),some (.dK (fP a)),a.length+b.length,cZ p M' rl rp a P,P.length+Q.length,(.a Lq0 Ņ),(.a Lq2 bΑ),λ_=>#[h,hh,Ï],⇑(cϚ.2),cϛ aŝ,m∈fű,(w,z.1,z.2*n % p),ϡ,Sr s p st c len D,-Y - 1<=x /\ x<=Y,.tup eΓ,look b (x - s*lo),eV (eΟ),(bs.length+(1+i)),(J (bs.length+0)),⇑((aV.mp k1).2),(.g μ),tm j.2 (mv j.1 q),eT s p G bΜ,eT s p G bΒ,(ĭ,wr t.ol),(Į,wr t.op),some (.dK aż),rS s p bA t.b t.Q,(λh=>by cases h),decide (a.c<=b.c),∀t∈L,Wt D t.b,∀u∈L,0<=u.len,decide (x≠lo+n),(λz=>D z \/ z=y),some (.dK (ly R)),(cϬ,Í),Uk p ms s v sts w,starEach [] X.env,up₄.trans up₅,(I6.lj că),[_,_,_,_,_,_,_,_],dh a.2 (x - r'.1),["p",Į,"n"],aX T.n_Stair_foot,λd o' e1 nd=> ?_,P'++ [(t.1,e,c')],(bW oh ĕ aL),(-gĐ),Fd _ _ (bϢ),(n9 ė aL jq),Df p0 hn ht dI i_,(a.map cN).length,(bŧ).map cN,fÆ+2*K',(by rw[aa];omega),λr hr l0 l1=> ?_,[aõ,cŃ],(λM s=>s _ _ Ka),Int.ofNat_le.mpr h,yT lo c.snd.fst d8,hs _ _ ∅ ∅ ∅,Ϣ,(.a ø ñ),iN _ _ ∅ ∅ ∅,(.a ñ ñ),(bϹ).take k,(bϷ).drop k,a.extract i a.size,b.extract j b.size,(j+1==b.size)=true,i<xs.toList.length,(UA less a b st N),aH (wp_elem hj ?_),aH (wpS_modify ?_),.inl #[x,c,rfl,hr],(Uz less a b st N),(T.ma ğ ∅),(T.mb aΝ ∅),xs.toList.take at_,(bå).extract,o.data= cŠ,eV (fö),tupleKind bÿ,k _ _ Ũ e,k a _ Ũ e,H c=fϨ,Str ->eą,env.cells.lookup x,⟨o,es,ep,ho,r⟩,(λ_ z=>nomatch z),(e1.trans e2.symm),lE X.prog X.w H h',hl j y v' e1 e2 e3,Inv X ai σ' H' s',ϣ,(hð),(cM xs its.toList),H a=fϴ,(by rw[z];show hb),(PIE X ai σ tg R),I1.c9.fresh õ,X.mg aό =none,V ->fϱ,Ϥ,(dN I q ś),(compareOp .IsNot),(by simp![a7];lia),(W.plainGet_of hg),W.makesIn K C=true,s.heap.objs.size+1,dé=ă,ϥ,(.a ø ø),absurd z ś,(aĕ::bĥ),Binds X.K fd ps ds,(call Ń us),H p=fϴ,(cR H l có),H l=fϴ,H a=ϊ,λh' F' hs=>h _ ?_,starEach [e] X.env,h _ _ cê ?_,(ns.map WData.int),eV (Str×NameKind),b<s.heap.objs.size,R dĹ s₁,zs.length<sizeLine,Nat.ne_of_gt I3.lt,Result ->bϯ,cí+50<cLine,(args_list_sort _),(by decide+kernel),"__getattribute__",W ->gí,vs.length=l.length,λj x u e1 e2=> ?_,Ϧ,(hđ),Ok K ρ' M' σ' H',k b M1 H1 h1 t1 m1,k _ M1 H1 h1 t1 m1,h1 p fĴ,(h p eŏ),(.lst (l.set j z)),(eŖ).map,(gZ lo n).length=n,M p=gÚ,M d=ϊ,(.type "NoneType"),aj (h q ś),fI aŏ bş,λe=>hn.1 (e▸hz),0<=z.2 /\ z.2<1000,(by rw[cY];decide),(.lst dŪ),(.a Š Lq1),(λi=>dŬ),A.in1.handled=none,wpAny_loadPart' hl,(.Tuple vg x1 pos),i<its.toArray.size,i=its.toArray.size,l.getLast? =û,pure (.done .next),ak (wpAny_rule ?_),λa=>fŗ,(eŵ).map,l.length<=sizeLine,lM f e n cě,I.base.l8 b o' u h,cR H d (.pK o v) c,#[xs,M,q,r,m,h4,k],fU.toList.length=n,(aã).map aŝ,(show g=g' from e),.cons ⟨e0,r⟩ _,cR H d cç c,"dict.update.loop",ps.length<=Ĥ,(yE b o (ar _ eb)),ah.mpr dψ,(by rw[z];show aQ),ah.mpr dω,(uO R S M r rl rp),(cZ p M ol op b Q),cZ p M' rl rp c P',f+h*s - cϙ,tl.Perm (vD p n P),v.length=gs.length,B_ (cϠ).ok,ah.mp (aV.mp k1).1,k2 _ (Jv js y' h2),(by push_cast;lia),c∈sts.map (fA s),KP+s*fι,look (pf t'.Q w) x,w∈t.Q.map Ć,(um M3 hd (.dK D)),(sX ∅ h o hw hl),(.a Ĕ ñ),fI (ly R) bş,PA X.Lp aϒ ta,List ExceptHandler,qE K r C ea E ρ M,[Ĳ,Ř],[bÛ,bε],(Ϗ,l),aX T.n_Stair_lamps,aX T.n_Stair_parts,aX T.n_Stair_first,(ϐ,u),(gĹ,f),(by rw[e];show US),(by rw[z];show US),ah.mpr #[t,QD,rfl],λc' _N sy Tv=> ?_,(ae cϲ ax),(xX.mem_iff.mp _m),(ae aL cϳ),[Ĳ,"turned"],(2*(Zm+1)+1).toNat,eÇ aŝ,(.lst (cs.map wi)),Ls.map λt=>wi t.c,List.range n.toNat,lY a.1 n.toNat a.2,(by rw[aF,ha];rfl),aX T.n_Crew_stride,aX T.n_Crew_stairs,(s1.trans (aö)),getElem?_pos xs i h,fk Bool ->jf ->Prop,λi j hi iE hj=> ?_,(λi hi Q' hq=> ?_),MI less al bl o i j,MH less al bl t i j,modify λs=>dL s mg,uF λ_=>uF Ĺ,aR #[hg,x,_,rfl,hr],aR #[FR,x,_,rfl,hr],aH (wp_elem ∅ ?_),CK xs at_ ms.zipIdx,(by rw[rl,hsz];lia),(eù).size,vs.length<=sizeLine,ϧ,xs.length<=sizeLine,o.data= .dict es ep,Mod X.K X.mg X.base,s.heap.objs.size<=a,lE X.prog X.w H' h',assignEach es X.env,(some (cű)),(Inv X ai σ H' s2),λb hb=>dĈ,(ģ - aϓ),[s1.heap.objs.size],b=s1.heap.objs.size,⟨x,H1,I1,r1,q1⟩,CA s.heap x dx C mA,ns.length<=sizeLine,some (eă),vs.length=ps.length,(cR H1 dx bĄ),us.length=ps.length,ys.length<=sizeLine,(cŽ).length,λz=>e (h1.trans z),(atKey xs k).isSome,kvs.length<sizeLine,h w' _ cê uZ,(cù).getD rd,⟨y,H2,I2,ry,q2⟩,h.Ns mainGlobals mg,At K x qual st f fd,lA own.length fr σ,relabel scope X.env,([]++jx fp s6.heap),k_ (I.ok.cellsOf S),vs.length=ks.length,(.builtin bĻ),(by rw[hl];show Yw),.lst (Np.map V.int),sc.names.lookup y.1,starEach rest X.env,.str dň tk,(dŏ).trans,(hϑ),λ_ _ _ _ h=>h.elim,(l.length<sizeLine),M3 p=ϊ,M4 p=gÚ,ok i M' H' ts m' kp,M=um M1 p có,λq=>decide (aà),(a.length<=aϭ),(b.length<=aϭ),cΡ<=Ĥ,tg= .Tuple vg x1 AW,s1.heap.objs.size+1,Mp ->WK ->WX ->Prop,Keeps (λi=>i<n1) g,cΡ*n.natAbs,λh=>hZ (W.sub _ h),ak (wpAny_letGo ?_),(by rw[hl];show hz),ns.length<=œ,∀t∈P,GD p ê,Cy s p b f len foot,∀t∈P,Wt B ê,(look a (f+m*s)*tn),(dI.mem_iff.mpr hh),gϘ≠0,W.clsIn K C=some cd,(lo,a)::dΦ,J hϸ,eT.gG ij J _ õ,(.a Lq0 (.m 0 Lq1)),(.a cŐ Lq0),(.a Lq1 cő),λt=>decide (aî),(.a Lq1 cϡ),(.a Lq0 cŐ),(.a Lq2 cϦ),x∈F0 \/ cķ,λu hu x hx gX=> ?_,(i2.each t ht).keep,(λ_ h=>by cases h),Fh.same λd nr=> ?_,T8 hd cĸ rfl,L0.flatMap (·.adr),kS (L.map bϏ),[(ĝ,aϚ)],λt ht=>(Cd t ht).2,eV (fR× (bÖ)),#[_,_,cϯ,q],eV (fR× (bØ)),(um M' ea (.exc C)),["p",ï,bÙ],["p",cŃ,"n"],["places",Ř],aX T.n_Stair_length,(hÌ,g),(by rw[z];simp[bX]),(cĉ).isEmpty,(λj h=>by cases h),[Ĳ,ť],(Nat.not_lt_zero i),(λt h=>by cases h),(ah.mpr #[t,rN,BY]),(cs.length:Int) - 1,[W.tup [wi b,wi w]],bs.weak dŦ,((l.s r).s ñ).z,Keyed ->Keyed ->Bool,(Bf (gC - la)=false),(i+1+1==a.size)=true,o++a.extract i aÆ,kindOf (dL bN mg)=kd,#[m,hi, ∅,ia, ∅],λr g hr=>fin r g hr,Runs less xs l lo hi,(eø).back?,(.done eü),xs.toList.map aď,o.cls= fô,kvs.length<=sizeLine,bL (hm b _ q λz=>z),X.env.cells.lookup x,X.base.get? b=Ą,Ϩ,fý=Ą,λb o e n hb hx=> ?_,(ha ai s σ H _ I h),(op==CmpOp.In)=false,(h ai s σ H _ I hw),(its.size<=sizeLine),(he ai s σ H _ I h),(.Subscript o i pos),(ho ai s σ H _ I h),(∃xs,iT K H1 a xs),(∃xs,ko K H1 a xs),(false,eē),(hi ai s σ H _ I h),λi j=> .int aϕ,kvs.length=vs.length,(if k then 1 else 0),W.hasDictIn K C=true,some (fĐ),W.plainOver K C=true,ϩ,(iĔ),(.Attribute e f pos),(hv ai s σ H _ I h),(false,eĒ),(beq_iff_eq.mp M.fn),(I2.Ud.make C us []),(∀v,(x,v)∉binds),scope.names.lookup y,HT.tD xs.length 0 lo,(if b then 1 else 0),λkv=>(kV kv.1,kv.2),Calls.spliced_nil ?_,(λv _=>v= bĘ),dS X own fr N' scope,∃m,m<n /\ I m s₃,(by rw[z];show cE _),wpAny_newObj_type ?_,X.A.in1.handled=none,Nat.lt_succ_of_lt gu,"ValueError.__new__",vs.isEmpty=l.isEmpty,.cons cĊ .nil,Nat ->ύ,(Ok K ρ2 M2 σ2 H2),(Α).Nodup,s.heap.IsTuple t its,(by simp[TD,aZ hae]),s.heap.objs.size≠e,Nat.ne_of_gt (aJ he),(Nat.succ_ne_self _),pw p s (p - 2).toNat,(i.natAbs.log2<1920),out.length<=sizeLine,(f (out++y) ρ M1 q),of_decide_eq_true hk,starEach [b,c] X.env,(I2.c9.fresh õ),bL (Nu (cϏ)),(false,eĔ),o.data≠ cŠ,Rj knd s.heap its ps,(false,eĿ),(eθ).Nodup,um M rl eζ,fK M M' (Ŵ),(eν).Nodup,(λh hh=>nomatch hh),(f+g*s - cϙ),(.s Ņ ñ),(.s ŕ ñ),yss.length=ws.length,gG s sts J x m % p=0,bŘ - cĮ,∀a∈v,dΤ,Q3 s g.1 g.2.1 aí,bs.length=sts.length,(Ε).Nodup,(eϑ++ [a]),o.perm.mem_iff.mp ht,(dϖ).row.ga,(dϞ).lookup,{s' with heap:=h₅},["p",Ř,ð],[aξ,"lap",ï],(λM6 s6=>s6 _ _ ha),PH pY (b.take ß),some (.ins Cr dr yG),some (.ins Co dO fs),some (.ins C' d' FW),λv ms hv dI i_=> ?_,#[by omega,by omega],Lk.lG.held.each t rN,E'+cŉ+bã,EP+cŉ+bã,[į,"p",aο],2*(eÉ)+2*nI,(.a Ņ ñ),(-n).natAbs=n.natAbs,.inr #[n,hn,w,hw,ez],[ï,"lap",aξ],((b.s a).s (r.s l)).z,(.a ν Lq1),(mirror_perm _ _ _ _),(.a Lq3 ο),Bf (lo+(uT - lo) / 2),al.Pairwise Ś,bl.Pairwise Ś,α ->StateT σ Sem β,(.a Lq1 ξ),(.a ο Lq3),∃g,dL bN mg=aΟ,(.a Lq2 μ),(.a eç Lq2),(c=(none,o',i',j',d)),(.a ξ Lq4),(.a μ Lq2),(c=(none,i',j',o',d)),(.a eì Lq6),(.a eè Lq2),(.a eè Lq4),(fϞ).size,(.a ς Lq3),(.a Lq2 eë),(.a Lq4 ξ),(.a Lq2 χ),(.a ξ Lq1),(.a Lq2 eç),(.a Lq3 eì),(a==sysModules)=false,∃u,h'.get? e=þ,Value ->Shared ->Prop,σ[i]? =fü,aI I.ok.KL I.ok.above,I.base.there b o e hx,λi x v e1 e2 e3=> ?_,λz=>(LK _ z).2.1 rfl,I.mod.glob.keeps I.bk,(.UnaryOp .Not a pos),(ϧ),λ_ _ z=>False.elim z,(.Tuple [a,b] k2 pt2),ak (wpAny_standAt ?_),#[m',hm,σ3,H3,I3,w3],∀b∈fp,li X ai H b,(∀b∈fp,cÕ),s.heap.get? it=Ą,#[_,Ŀ,rfl,rfl],.ref s.heap.objs.size,Ϫ,Ä ->fϱ,(intBits_le_64 h1 h2),uU X (compareOp op) r,if i<0 then -i else i,λw hw=>h w (aC _ hw),HT.tD its.length 0 lo,(by simp![a7] <;>lia),λkv=>decide (aĸ),decide (p.1≠k)=true,decide (q.1≠k)=true,(iϔ),tupleKind_room_in1 hu,∃q,cÓ=aĹ,eV (V×V) ->ŝ,d.params.defaults= [],scope.kind= .function,(iϚ),s3.heap.get? b=Ą,b≠s3.heap.objs.size,s3.heap.objs.size≠a,im.inj I l _ vs hr nO,Rep.inj I _ _ _ TX LP,(ks.length<=sizeLine),.type gΑ,gê=Ą,Ë ->gí,ρ[i]? =some bĿ,(r1.ts (dŐ)),(h p (o.hp.fresh hp)),(M2 p=ϊ),#[cď,m,d,hd,r],(ts.trans t3).trans t,(dŜ).trans t,∀M,aϧ ->aņ,(.a Lq0 ο),(.a Lq1 υ),(bŠ).map Ć,aj (λe=>h (p8.mp e)),((q.1+b,q.2)::mv b r),(iϰ),(by rw[aF,aq hi];rfl),.type "StopIteration",wpAny_pyIter_tuple hL,aN (And.intro rfl h0),(∀b∈YB,cÕ),(.a Β Lq1),((n.toNat:Nat):Int)=n,(.a Β Lq2),(.s Β Lq2),(.s Lq0 ο),⟨xs,M,q,r,m,h3,k⟩,(List.range' k m).map,λv2 h2 VY FU AF=> ?_,l.Pairwise cŝ,(.tup [kV kv.1,kv.2]),codeAny_builtin uq ?_,(λm p=>eſ),(.a Lq2 eδ),(.a Lq3 τ),(.a Γ Lq1),(λm p=>kF m p.1 p.2),some (.dK (fP ê)),(Q.take i).map Ć,(b - (len - 1)).toNat,Int.lt_or_eq_of_le s0,(.s μ Lq1),(fũ).Nodup,(.a Lq0 eŧ),look a bÅ*tn % p,yss.flatten=tl.map nK,ka h.Mg fŸ,sts.getD t.1.toNat [],W.codeIn K cdv q=true,(LqIk s0 dΜ),(.s μ Lq2),(.a Lq0 τ),(.s eŷ Lq1),∀y,dh aì y % p=0,gG s bs J x bs.length,cĨ /\ Ē<h,λst=>gϬ,look t (đ+k*s)=0,(.s ς Lq1),(gĤ - dr),Y_ s Z K w KP c a P L,(LqIp (LqIe d_) h2.2),(λ_ _ h=>by cases h),λx hx=>h x cĸ,(.a Lq1 ς),cs.Pairwise (· < ·),[(Ĭ,q,aϸ)],(λt ht=>(Cd t ht).1),(.a Lq0 eτ),(.s Lq0 eŧ),∀n∈ns,dϜ,-8<=y ->y<=8 ->nE R y,["p",Ř,aο],["p",cń,ð],(bW iw ė ĕ),(bW fi ě ę),aX (.inl dž),(λd _ h=>by cases h),aX (.inr dž),(LqIp z0 (LqIp z h9)),(λt ht=>by cases ht),(eĶ).length,dI.mem_iff.mp (az N7),(bW fi ė Ę),(.a ξ Lq0),(.a Lq0 ξ),.lst (eÇ wi),(gņ).take,List.mem_flatMap.mp e,#[_,inferInstance,?_],(bW fN ę Ę),some (wi dϘ),([1, -1]:ā).take,ê++ [((b:Int),w)],s6 _ _ (bG ht _ _ LN),StateT jf Sem (fk Nat),(c8 ũ aā),(c8 ũ aą),(c8 ũ aĆ),(c8 cŎ aĆ),(.a cŐ ñ),(.a cő ñ),less bï bð,(JL less a b o' i' j'),(JH less a b o' i' j'),(LqNp hz (cŗ)),(jù),∃t,u=Value.bytes b t,∃t,u=Value.float b t,List.range h.objs.size,base.Ns mainGlobals mg,X.stack=fϮ,λj y v' e1 e2 e3=> ?_,holding [v] (truthy v),hb ai s1 σ H1 Q I1 q1,Inv (X.sJ E) ai σ H s,.ref s1.heap.objs.size,∀v,o.data≠ .cell v,∀b∈fp,eĝ,W.isFn K ŀ=true,(cè).map Ć,(keywordEach [] X.env),starEach aϒ X.env,λb z=>absurd z (Qk b),scope.names.lookup y.1,(Int.natCast_nonneg _),(.Slice lo hi none p2),.ref s3.heap.objs.size,(its.toArray.size:Int),(·.setIfInBounds j u),(Q (gÊ) H),its.length=its'.length,ns.Pairwise cŝ,∃o',B.get? b=aώ,Inv (X.lj e) ai σ H s,bindName X.env n .none,(∀u,RelV c u ->u=cu),Nat ->hĐ,(dŝ).trans t5,ts.trans (dŝ),(l.map wi)[i]? =û,List.getElem?_range hi,xI (lJ l i) λu=>q u M,YC xs keep g b D ρ M1,(LqIp this ŭ),Heap.SameBut.update ..,X.mg dĆ =none,λh2 he hj hsz hk=> ?_,ss I.ok.mod O.ns O.exc,#[by simp,dÎ],σ7[j]? =fü,λa=>(dB a).map aŘ,(xs= [Í,gz a,wi n]),starEach aϷ X.env,(if b<a then b else a),(if a<b then b else a),ms.Pairwise cŝ,um M1 x gÁ,look bτ bυ,Int.add_comm (d6 _ js),s=0 -> ∀j∈js,j.1=0,(LqIk s0 (Ne.symm hs)),gh (hϱ),ys++(bs.take j).map eW,λz=>hϳ,W.nsIn K mainGlobals x,(eπ).flatMap,(LqIp bĜ ü),lc (v1++v2) (g1++g2) x,alo<=z.1 /\ z.1<alo+an,(λi=>J (bs.length+i)),dh fſ y % p,dϊ+y*s - s*sh,(ka bÇ (Nk.on k)),uB _ js k eϊ,nG s bA Q ŵ n,∀x∈t.adr,x∉u.adr,gĤ - t.len,M x=some (.ins C d fs),(.lst (cϛ wi)),∀t∈L,t.len<bÄ,λt ht=>eϜ.2,(LqIp h1 (LqIp h2 h2)),⇑(List.find?_some e),some (.lst (E.map wi)),{a with wt:=a.wt.up l},∀st∈sts,Wt 7748 st,_V p ms s v sts w rest,(dϣ ->e C1 M),[aξ,"p",cń],gw (bϙ) bϙ,(gJ ė ĕ rfl),(gJ ė Ę rfl),(λ_ _ _ _ _=>trivial),(by rw[aû];show av),frM d (Ov d (aC _ hd)),(by change _<_;decide),(.a Ο Lq1),gw (bϠ) bϠ,M3 d=some (.dK aŏ),[(Ĭ,q2,aϸ)],(.a bϧ bϧ),(sm.trans PD).trans Fd,(λt ht=>(fin t ht).1),(ae gŇ ax),JD (bϙ) bϙ,(by split at Oa<;>lia),#[rfl,_,_,rfl,g2,g4,g5],(List.drop_sublist _ _),o++bϺ++bϹ,(List.take_sublist _ _),b.extract Þ aΘ,(hÝ).take,(hà).drop,(Nat.pos_of_ne_zero c2),eÖ=pl.toArray,min (a₀.size - lo) mr,iΘ - 2,λUN z B5 p5 R5 o5=> ?_,∃o',cÑ=aώ,z.sameBut hs (KG y c e),(op==CmpOp.NotIn)=false,(jψ),(be _ (be _ (gg hb e))),{s with toks:=s.toks+1},s.heap.push W.emptyDict,H a=iό,(.ins C dx (kG f y fs)),CE outer P w H s Q u s',.cons rfl (dĘ),q _ (hΓ),(if a then 1 else 0)==b,H s.heap.objs.size=none,(atKey xs k).map aď,iT K H a gÒ,s₁.heap.get? b=Ą,List.replicate own none,#[by simp,λi u e=> ?_],(by rw[I.ok.frames,iM]),wpAny_loadPart_at hx ?_,(Ţ) ->Ţ,#[vs,e.trans e1,r.ts t],a ρ M λx M1=>r x M1 q,(o.mv fĲ m2),kK cdv A outer s H E hr,#[#[?_,eő],m],(xs.take i).filterMap f,some (.lst dœ),some (.lst (ps.map cN)),wpAny_pyIter_enum he ?_,q (gi l) dŘ M1,letOwnedTupleGo tg it v,letOwnedTupleGo kj it v,I1.kept gŲ,[.ref I, .none, .ref Z],List.foldl _ a r∈a::r,PySem.KeyKind prog w κ,(kvs.map λkv=>kV kv.1),λp=> .tup [gl p.1,p.2],.inr (.inr dψ),λi j h g X_ hi hj=> ?_,cĨ /\ Ē<len,look b (x - cϙ),tn*look a (f+t*s) % p=1,Cy s p b f (t - m) foot,some (.lst (tl.map nK)),gG s sts J x sts.length,Fl g.2.1 (v.take aí),λg:eΟ=>aí,hx (by rw[eb,e,bR];rfl),(LqIk this dΜ),ms.Perm (pC s c (Ò)),(LqIp cē ü),(LqIp (LqId e1) ú),Int.lt_trichotomy u.c c,aE (λz=>nd (ag.mpr z)),(Ò).length<=œ,eT s p (eϑ) f,bS.mp o.Fj i j g1 g3 iE,(.a ø δ),some (.lst (cľ)),am (beq_self_eq_true _),fQ f s (eŶ) x,lw p lap (-bϚ) r0,(look c (aŒ)+z.2*n),W.tup [wi t.1,bζ],(λu=>decide (u.1=t.1)),(ae hÎ ax),[Ĳ,ť,"n"],(ae Ϝ ax),λr M2 r0 r1 D2 b2=> ?_,(λx=> ∃e:Int,x=wi e),some (.lst (ou.map gz)),#[a,rfl,(AF a ha).2,?_],ou.map λa=> ! cł,ϫ,(.a μ ñ),Ϭ,(.a Lq1 ϓ),(.a Lq0 gő),(.a Lq0 ϓ),(.a Lq2 ϒ),(.a ς ñ),#[rfl,l,l,rfl,hrk,Tu,U7],(.a ο ñ),(.a ϑ Lq2),(.a ϓ Lq3),ϭ,(.a Lq0 ϑ),Ϯ,(.a ϒ Lq1),(.a eè ñ),(.a Lq1 ϒ),(.a ϕ Lq1),Prod.ext (vb _ hm).1 rfl,fϢ=Sum.inl b,fϣ=Sum.inr b,e=x \/ H e=some bĄ,s.heap.Ns X.env.locals m,(I.base.free b o e n hx),Heap.SameBut a s.heap h',(hb ai s1 σ H1 _ I1 q1),behindInMarks op b=false,(λs2 I2=>#[_,H1,I2,q1]),(ha pos ai s σ H _ I h),∃u,us= [u] /\ bþ,W.plainGet K C name=true,W.findIn K Ń name,(show False from r).elim,(.a ϑ Lq0),W.codeIn K cdv qual=true,λb o e=>(e0.bs b o e).1,(kĎ),show aϚ >0 by decide,h'.get? s.heap.objs.size,(.a ϓ Lq0),s.TypeIs ł aĵ,(ho ai s1 σ H1 _ I1 q1),([]:eĲ).length,(he ai s1 σ H1 _ I1 q1),(hf ai s2 σ H2 _ I2 q2),mg d.name=gÐ,W.keepIn K ŀ=true,(λy hy=>h1 y (aC _ hy)),env.kindOf n==cŦ,pure (ForInStep.yield r),(.builtin fĠ),SeqAt.EqAt.of_refs J_ ?_,hr.items rv (j:=j) ⇑g1,nO.items Ff (j:=j) ⇑g2,j6 X.K X.mg x ps st f fd,λc o h=>b c o (a c o h),H a=some (.ext (lx a C)),M b=Ą ->M' b=Ą,(iϥ t3),a ρ M λc M1=>q (!c) M1,q ((bŌ).getD z) M3,((dŐ).trans ts),(hk ß ys M4 gu h4).2,#[_,_,rfl,rfl,rfl, Â],#[l, .inl #[_,rfl,h3],k],if aà then q.2 else 0,ϯ,p=2 \/ p=3 \/ p=5 \/ p=7,(.tup [.int r.1,Iy r.2]),(.a ϒ Lq2),s.heap.IsTupleIter j t i,cR H p (gΞ),#[_,he,λv z=>nomatch z],I1.kept (t':=s1.toks) hk,(q (ws eŰ) M1),k'<k /\ Z Þ k' ws H9,(.a (.s ø Lq0) Lq0),∀ {b},ľ ->aÞ,I.base.free b u h1 h2 h3,P (argBest bt (n - 1)) v,ak (wpAny_letGo aΨ),(.a Lq0 gϒ),(iϥ ts),cR H1 dx bĄ x=none,cĨ /\ Ē<=len,(.a Β ñ),(.a υ ø),lC s p sts D Y pat a P n,λb=>(b,bÊ,bË),(.a Lq0 gŐ),vT hp hk0 _ hv.1 hv.2 h1,if bÍ then t else u,ah.mp (qc.mem_iff.mp hm),(GJ u hu q).up h.KY h.Zh,eT.of (hŉ),f=gh ((fg b).map aŝ),LL S s p bA M0 L0 hd M L,((2*L.length*w:Nat):Int),(λt ht=>eϜ.1),some (.lst (row.map cN)),vj p s ms v w z sts rest,eŶ+1= -aϴ,(nA (fΔ):Nat),[aξ,ĭ,Į],(dF lS ĕ aL Ė),s3 _ _ (by rw[aE TH,av]),[Ĳ,ť,"by"],(.ins A.dZ dx (bÕ)),0< ((ms.length:Nat):Int),eÖ=eØ,show lo+bè=i by lia,aH (hb _ Ū _ ?_),Sg less arr base (base+n),#[this.1.trans eI,ú],LE less bð bï,(eù=pl.toArray),#[z.1,ht _ _ z.2.1,z.2.2],iĂ=Ĉ,X.s₀.heap.get? b=Ą,a_ (bH aĚ I.ok.above),I.base.slot b o e n hb hx,List.getElem?_set_self _B,PE X fĀ (Ml i),PE X fĀ (tC v),(.Compare a [op] [b] pos),hb wh ai s1 σ H1 Q I1 q1,es.toList.any (·.refKey),beq_eq_false_iff_ne.mpr h,H1 s1.heap.objs.size=none,(us++ds).length=ps.length,V ->Ϫ,(by rw[hk];show#[_,I',q]),List.length_filter_le _ _,cR H a (.dK (cŽ)),(by rw[l];show cù),(λf vs=>PySem.call f vs),λ_ h=>absurd h ś,fr.filterMap eĽ,pure (ForInStep.yield ok),bU X N' scope cl fp s3 H3,k _ M1 _ H1 h1 t1 m1 WR.v,a ρ M λxs M1=>r xs M1 q,⟨p,e,⟨kvs,hp⟩,h1⟩,a ρ M λ_ M1=>cΘ,fČ /\ j<aģ,List.length_pos_of_mem hk,.tup [.int q.1, .int q.2],(fś<=œ),Manifest.signature? aâ,Int.emod_add_mul_ediv x s,Around.under_plainId kW _,(fŦ<=œ),(xs= [wi i,wi j,wi Î]),(M s=some gÁ),if v=w then c else pf P v,(λsh=>look b ŵ),(ms.Perm (fű)),(hW aų z.1).length<=n,(Z+sts.length*(D+s) <=Zm),(λsh=>look t ŵ),(λsh=>look P ŵ),(eϖ).row.mem gX,(bÒ).length=L.length,∀x,S x -> fΑ,List (Addr× (Addr ->TS)),["p",Ř,"patterns"],km (k f M (cĐ) hf),∀d,M3 d=none ->bϡ,gw (bϠ) dϺ,0<=hő*(D+s),(bϦ).up P0.KY P0.Zh,iá - t.len,Z+8*(iá+1),(c8 ŧ cŌ),(c8 ũ cō),show i=eÚ by lia,less (c8 arr bé) key,less key (c8 arr bé),List.Perm.trans ?_ e1.symm,List.Perm.append_left _ ?_,o++(a.extract k i).reverse,(failedOf (<- get)).isNone,ak (seqEpoch_at _q rfl ?_),{s with heap:=h',toks:=t'},dz jĀ ?_,(eval fĀ X.env),{s with heap:=h',toks:=tk},dz (hl ai s σ H _ I h) ?_,(by rw[e];show True.intro),.ins C s.heap.objs.size [],(H1 a=iό),W.keepIn X.K ŀ=true,(by rw[hj];simpa using ew),(sliceBounds lo hi none n),#[#[o,e,ex.1],λa e2=> ?_],(gx.endLine==fO.line)=true,H b=some (.tup (k.map kV)),#[dd.typeIs,λb q=> ?_,hd],env.scope.kind== .function,hw _ x H6 _ (step x H6 y6),ak (wpAny_standAt (aÔ)),λ_ s'=>SP X ai D .next s',X.env.kindOf n=dë,qz (M:=eÓ) hx hc,(λM'=>M' p=fĵ),ϰ,(ϯ),List.length_pos_iff.mpr hn,List.mem_iff_getElem.mp hx,foldedSetIterable df env x,(.s Β ŕ),(.a hϢ Lq2),H d=some (gό),{t with heap:=h',toks:=tk},bL (ne z hç),bL (ne r hç),some (.lst gĉ),(∀t∈P,eμ<=B),List.mem_iff_getElem.mp hm,qa s p f len b a hs i c js,(List.map_eq_nil_iff.mp e),look bς (x+m)*tn % p,ys++(fŶ).map eW,(if z.1=y then z.2 else 0),(λsh=>look st ŵ),List.zipWith (· - ·) v u,((gğ:Nat):Int),(λsh=>f (x - s*t - s*sh)),∀t∈L,iÆ,OO s Z K w KP c dr a P L t,au.mpr (.inr (ag.mpr rfl)),∀x∈eϗ,x≠hd,if v.c=u'.c then u' else v,(fχ).length=i+1,λn hn=>h8 n fω,(.s hϢ Lq1),(∃a∈ms,cł=true),(ae ė gĸ),[Ĳ,Ř,į],(.g jů),(ae ĕ gĿ),(ae aL iſ),(ĝ <2147483647)=True,(LqIp e0 hũ),um M' v iζ,(.ins A.dZ dx (cĿ)),LE less bϮ (c8 xs j),ϱ,(.a ϒ ñ),(.a ϑ ø),(.a ϒ ø),(LqNp h1 Ϡ),aH (wp_elem (hm i hi).1 ?_),Gk (FX λ_ d=>rfl) λd=> ?_,uF λ_=>uF λx=>dÓ,(λk hk=>#[∅,T.mb _ ∅]),(.a Lq0 Ϣ),∀r,fè ->Q r st,(bõ).drop j++bö,#[_,Ŀ,rfl,_,rfl,rfl],jý=Ĉ,(I.base.keep b o e n hb hx),λe=>hj (tR hN e1 (e▸hi)),(.BoolOp .Or (b::rest) pos),ϲ,(.a Ϣ Lq0),(λb z=>iĖ),fr.filterMap (λj=>X.N[j]?),(lĤ),Nat.lt_succ_of_lt (TY b hb),sortedHeap_at (out:=out) ho,(cR H' ea hč),{s' with heap:=h5,toks:=tk},.builtin "object.__class__",(um M4 p (.lst cΚ)),(fŁ).filterMap f,List.getElem?_eq_none ⇑hi,l.Pairwise (λa b=>a.1<b.1),if aà then(q.1,v) else q,m.find? iϭ,if y=x then v else bš,List.length_erase_of_mem hk,∀z∈a,iĽ,k b o (nm hc).1 (nm hc).2 q,(∃old,IsEnum h e j i old),s.heap.IsList a its.toArray,((out++y).length<=sizeLine),eŵ=bê++ [a],(.lst (HP i fś)),CmpOf prog w A.in1 .Lt P bt,(.a Lq1 Ϣ),λv M2=>v=wn /\ q (wr x) M2,aN #[plainId_quiet kW _,?_],(.lst (z8 i fŦ)),λ ĩ=>wi fŤ,c.length<=hϪ,(eΒ Ć).Nodup,kΜ % p,(.a Lq2 ϥ),(.a ø gϲ),(iÀ++LR q r),Cy s p t.b t.c t.len t.foot,fμ+(bÎ)+2*K,L.Pairwise λa b=>a.c≠b.c,absurd (z.trans y.symm) q.2,tc.kp.free (gĦ),R.find? λt=>decide (t.1=x),List.mem_of_find?_eq_some e,fin I8 λs9 I9=>#[_,_,I9,q],qE K ((D,s)::r) C ea E ρ M,["places",Ř,į],["p",Ř,aο,ð],(.a ø ϗ),(um M u iζ),(.a (.n 4) gŢ),(.a ý ϑ),ϳ,jS prog w A E s kd a₀ less,(iN i cō hi ∅ ∅),Ng less ŧ lo ó,Sg less ũ lo ó,∀y∈bϹ,dÄ,∀y∈bϺ,dÄ,∀y∈bϸ,dÏ,List.Perm.append_left _ h.pm,(none,ĸ,i,j+1,0,bc+1),(none,ĸ,i+1,j,ac+1,0),StateT jf Sem (eÝ),StateT jf Sem (eß),xs.toList.Pairwise Ś,λr hr=>h r (dÚ) hr,(LqNp (LqNe QU) ((LqNe h2))),(LqNp (LqNd QU) ((LqNd h2))),(iΖ).toList,iú ač sb,iú sb (sb+m),aR #[rfl,xF,ne4,B4,s4,p4,R4],∀f,lD (dé) (mA f),hž=cŦ,List.getElem?_set_ne (aZ hj),hf v u s2 x y H2 I2 r1 r2 q2,(.BoolOp .And (b::rest) pos),(lő),(dz (hc ai s σ H _ I h) ?_),(dz jĆ ?_),(dz jĄ ?_),s.heap.IsTuple a its.toArray,W.instObj C s.heap.objs.size,PySem.W.isFn K ŀ=true,CH P w K mg base A outer s H,(cR H p (.lst (xs.set j v))),vs.any jΖ,(show fĥ from ry),∀b∈fp,iģ,(kŽ++c),Nat ->Nat ->hï,eX ->fR ->iħ,(.a (.a Lq0 (.n 60)) ñ),#[by simp[h.1],λj y e=> ?_],q Đ (um M1 p cÛ),k _ M _ H h Ž m r',(dő \/ dŒ),k _ M _ H h Ž m ?_,b ρ M1 λxs M2=>r x xs M2 q,(∃kvs,M1 p=ϊ),(um M3 p (.dK (kF kvs k z))),(I 0 [] (um M1 p cÿ)),ih λz hz=>h z fŊ,decide (kv.1=(Sum.inl x:cF)),W.kitOne K Ń bĶ,λ ĩ=>V.int dε,#[t,by rw[e'];congr 2<;>lia],#[?_,Ut.toList,c',hv, ⇑J1],List.find?_eq_none.mp h t ht,P'.length<=hϬ,(aŸ).map λv=>(a:Int)::v,jņ++Rb s G,sts.map λst=> fž,(.a μ cϡ),#[ź,λz x hx=> ?_],(.s jÍ Lq2),(.s jÍ Lq3),(.s jÎ Lq4),∀x∈eϗ,bθ,t.c<u.c ->rH s u.c u.len t.b,BSt S s p Z w bA i M hd L bs,List.find?_eq_none.mp e t ht,["p",Ř,ð,bÜ],(λkv=>W.tup gć),λe=>hx (by rw[hc,e,bR];rfl),_=dh (ps.take i++ [z]) x % p,(gņ)[q]? =aĀ,Z+8*(jŘ+1),(s+1)*(eÉ+2*(2*mI)),λcdv A' outer s H E hr=> ?_,(di (ae aL (ae (di ax) ax))),cN (z.1+a.1*(0+ĥ),z.2),(.a (.g eÊ) ñ),(.ins A.dZ dx (dϞ)),(show f' _ _ (zk K) from kN),(λa:WQ.Rd=>hÈ),(mirror xs i j ((j - i) / 2)),(b.extract k aΝ).reverse,{s with heap:=Fw s.heap a vs},(show ļ=some _ from x),X.env.frame=some X.env.locals,λz=>(LK c z).2.2.1 x c e rfl,ϴ,(x==("__debug__" :Str))=false,⇑(congrArg Array.toList d1),{D with nx:=N,ct:=N,bk:=D.nx},s1.heap.IsTuple a its.toArray,(.Call dę [] [] pos),iϑ<=sizeLine,(Hw wi own.length fr g tc te),W.hideAll s.heap eċ,(t1.trans Ϧ),(l.any jΖ),a ρ M λx M1=>g x ρ M1 D.nx,((bê).filter pr).map eW,Builtin.Range.rangeSize a b c,ak (wpAny_seqItems hS rfl ?_),(seqObj ÿ its.toArray 0),(λm x=>if x<m then x else m),(λm x=>if m<x then x else m),(by rw[<- rel.length];show z),I1.c9.fresh (Nat.le_of_lt _K),P.find? (λt=>gĊ),(∀t∈P',eμ<=B+C),(w,sh,look bς sh*n % p),xn (i:=i) _ hi λj hj X_=> ?_,∀b∈bs,eT s p sts bΜ,(LqNp this Ϡ),L.find? (jË),eT s p jŉ f,CI s Z K w KP c c1 P1 t la lp,cZ p M3 t'.ol t'.op t'.b t'.Q,Sr s p (bϐ) t.c t.len D,(M u=kύ),(if a.1<0 then -a.1 else a.1),(if z.1<0 then -z.1 else z.1),(fΟ (bG hv)).trans,#[rl,fP a,rfl,vc,ſ],(.a (.g eϳ) ñ),((fP m).length<sizeLine)=True,[e϶,gŁ],(h.pm.append_right _).trans ?_,(none,ĸ,i+1,j,mg,ac,bc),(none,aÈ,j,ĸ,ac+1,0),(none,i,à,ĸ,0,bc+1),(.a χ eè),(eø).push bù=_,get?_update_seq ho (λ_=> #[]),k b o (λz=>hc (by simp[z])) e,#[_,N7,kā],Hp ->(hî) ->Prop,backTo pos (hμ),(.BoolOp .Or (a::b::rest) pos),dz (hi ai s1 σ H1 _ I1 q1) ?_,PySem.W.keepIn K ŀ=true,(if g=f then þ else mA g),(.a ø ϥ),Value.ref ϩ,backTo fO (iğ),N'.length=own.length+fr.length,(J.stop i H' /\ Q ń H'),λout Np a1 a2 a3=>#[_,rfl,?_],b∉bĤ ->B.get? b=Ą,(λz=>absurd z (by simp[hex])),Ë ->kδ,k _ M _ H h Ž m WR.v,(iϥ t3).trans,(l.length+l'.length<=sizeLine),q (wb (! hϕ)) M2,L2.fY.ts (cq (o:= .lst []) hp),(.a Lq2 (.a Lq0 eë)),(dŰ==Value.none)=true,ak (wpAny_seqItems hot hdt ?_),(.a μ ξ),absurd rv (by intro h;cases h),λh' tk Ut c' kp J1 items=> ?_,(.a Γ τ),λ ĩ=>V.int fŤ,#[t,by rw[e'];congr 2<;>omega],(.a j϶ Lq2),∀j∈js, -jl<=j.1 /\ j.1<=jh,(.a Lq0 jŨ),λt u=> kŁ,∀u∈L,c<u.c ->fξ,(tc.sp f hf).trans Ÿ,md.stood row.Si Fh.Si eb eq hk,(λb wj=>pA ∅ h o (ij b wj)),(LqIp a8 (LqIp b8 ((LqIw c)))),(.a μ eñ),["p",aο,"others","by","n"],#[by rfl,by rfl,by rfl,by rfl],ϵ,(dW dH ė aL Η),(.a Ϣ ø),(dW dH Ě aL Η),aX (.inl jŖ),(.a jů Lq3),(.a μ ς),(.a Lq0 kÏ),(dW iA Ę aL Η),(dW iA ė aL Η),(∀i,hi<=i ->i<n ->Bf i=false),#[h.pm.trans eI,h.so,h.bb,h.ba],liftM (rule "list.sort.gallop"),(l1++fë::l2).toArray,PySem.Within mA (fù),(.BoolOp .And (a::b::rest) pos),Inv X ai σ H hζ,vn X.prog X.w X.K tg J fp it tn,#[H,Ģ,by rw[ub r];show q],W.findIn K Ń f=bϰ,(xs.length+zs.length<=sizeLine),(kvs.any jΖ),(PySem.F.args_dict_get_3 _ _ _),kK cdv A outer s H vs Q E hr xW,∀b o,H b=Ą ->H' b=Ą,∀y∈scope.names,y.2≠ .cell,scope.names.lookup x=cŧ,(its.length==its'.length)=false,(gÎ=ks.map Sum.inl),a x ρ M λρ' M'=>b r ρ' M' q,λh=>#[vs,vs[i]'∅,va,by simp],el ρ2 M3 λy M4=>N (aġ) M4,{nx:=N,rt:=D.rt,bk:=D.nx,ct:=N},Rl X.K X.mg x qual ps st C f fd,H2 a=some jϩ,(l.map kΓ),λsh=>if aŶ=0 then 1 else 0,Sr s p st (ī) (bÆ) D,A1 (f:=kÇ) h,L.find? (λu=>decide (bÍ)),Cy s p t'.b t'.c t'.len t'.foot,(um M3 hd (.dK (nq (bÏ)))),(by rw[ag.mp gX] at hx;show hx),h.each t (jŊ),Wt Ĥ t.b /\ t.len<bÄ,l.filter λx=>iË,(R++ [(y,v,c++ fΒ)]),(gJ ė (cK ĕ rfl) rfl),(a9 (i:=5) nd rfl Ζ),(a9 (i:=6) nd rfl Ζ),(a9 (i:=7) nd rfl Ζ),P.find? kϓ,(.a Ο τ),(a9 (i:=3) nd rfl Ζ),(um M u kń),[dũ,dϮ,o1,o2],(.lst [wr l,wi i',wi c',wi s']),(a9 (i:=4) nd rfl Ζ),(a9 (i:=2) nd rfl Ζ),(a9 (i:=8) nd rfl Ζ),(.inr #[t3,_,_,rfl,av,rfl,rfl]),Lqj Û Lq0 Lq1 Lq0 Lq1 hi rfl,Lqj Û Lq0 Lq1 Lq0 Lq1 c1 rfl,pure (ForInStep.yield bϴ),some (LS a b cœ i Þ),some (UU a b cœ ß j),modify λs=>dL s (dÐ+1),(none,aÈ,j,ĸ,mg,ac,bc),List.take_of_length_le ś,h.fin T.sa T.sb hÜ,(LqNp h2 kú),(letOwnedTupleGo tg cß u),(dz kϱ ?_),holding [ov] (getMethod ov m pl),cD P w K mg base CX k f fd ps sp,λr s'=>r=w /\ EP X ai σ Q r s',(fĝ \/ fĞ),its.toArray.size+BP.toArray.size,backTo fO (starEach [e,f] X.env),(.call (.ref fa) fϡ),s3.toks+([]:eĤ).length,some (assign (cű) X.env),#[?_,out.toList,ee,mx a1, ⇑TV],"BaseException.__getattribute__",q (wi (jΒ)) M,q Đ (um M p (.lst (l++l'))),(.lst (kν)),wR xs keep own fr g c el ρ M1 q,(m.any iϭ)=true,#[o,(lq.2 j (aZ TD)).trans h1,r],(wpAny_pyIter_list ht.isList ?_),(.a (.g ϒ) ñ),lY e n (q::l)=bŴ++bŵ,(.lst (hϤ++ [y])),plainId_quiet F.plain_min_loop _,(Heap.get?_update_self _ QT rfl),ns.filter λx=>decide (bŹ),∀o u,X.H₀ d≠fϪ,(λM'=>M' d=some (eŋ)),ps.foldl jϫ m,∀w,lϟ,∃j∈js,look b dύ≠0,∀w,((pf Q w).map Ć).Nodup,((iH L (cϨ)).map až),#[f,o,ds,ol,op,bâ,foot,b,Q],hÓ+(cŇ)+2*K',(.lst ((gņ).map wi)),(by rw[<- fÐ];show hx),∀n∈fΔ,dϜ,(kϛ).all id,(.a ν ϑ),ĸ++kŤ,(.a Lq1 kϣ),(.a ξ gś),(.a μ ϓ),(.a ñ jŵ),(.a ϒ ξ),kŪ=l1.length,some (seqObj ÿ vs.toArray n),decide (kϨ),Inv X ai (hε) H s',(x==("__classdict__" :Str))=false,St ->Hp ->(Ψ) ->Prop,I1.ya õ (ič),(λv H2=>v= .fw /\ Q bĀ H2),Nat.le_of_lt (x.above y c (d7 h)),∃zs m',m'<m /\ W ß m' zs H4,(cR H s.heap.objs.size cÿ),I6.pinned (sW fr6) (T.obj _ _ RT),exec_Assign_Name_used _ _ _ _ hsw,q _ Np (I'.c9.fresh õ) a2 a3,Heap.MadeExcOf s.heap h' e cls vs,br H1 lΦ,Option.isSome_iff_exists.mp k.cls,dj ->Mp ->(ύ) ->Prop,(q (gZ 0 j.toNat) dŘ M1),(.a Lq0 kϢ),(cR H s.heap.objs.size cÒ),λy h' tk hy ho iM ht hsz hk=> ?_,Inv X ai σ H1 {s1 with heap:=h2},((eŵ).filter pr).map eW,Walks prog w A.in1 I fp wr n P St,(m1.new GK).put Lj gó,(.a Lq1 kϝ),∀x,đ<f ->Ŗ=ő,(Lqj Û Lq0 Lq1 Lq0 Lq1 z rfl),λsh=>((w,sh,look m sh*n % p):oE),(if aá then z.2 else 0)+aŊ,∀w,((aϻ).map Ć).Nodup,lC s p sts D Y pat r P sts.length,∀st∈sts,eT s p sts' (look st),(fž,0,gϬ),fD λj jR=>aA λhq=>hn #[j,jR,hq],nq L=ly (L.map λt=>eϐ),d6 (λsh=>look t.b ŵ) js,(qc.nodup_iff.mpr (mV ga.1 h.s0)),∀u∈L, ∀x∈t'.adr,x∉u.adr,[(Ĭ,q,jØ)],(LqIp hxr.2 (LqIp h2 ((LqIw c)))),(lý).lookup,["p",Ř,bϖ,cŃ],[bÝ,bÚ,"p","n",Į],cT (by rw[cϷ];show av) gX,#[x,dx,aú,wr q1,rfl,av,rfl,?_],(LqIp k0 (LqIp k0 fΧ)),(.a Lq0 kϣ),(.a Lq1 lÀ),[Ĳ,ť,"k",aõ,"n"],Nat.gcd (gŉ) n.natAbs,(((cĐ).um QZ).um TZ).um QZ,decide (6< ((ou.length:Nat):Int)),(Lqj Û Lq0 Lq1 Lq0 Lq1 iE rfl),aR (h n st B Tr Tq XJ rfl rR.refl),rR lo ó ŧ ũ,sa.sublist kš,sa.sublist kţ,(none,c.2.1,c.2.2.1,c.2.2.2.1,0,0),some (LU a b cœ ğ j),some (Vf a b cœ i aΝ),#[by simp,by simp,by simp,by simp],bā=þ ->cÑ=þ,#[(hs.2 p.1 ne).trans e,n,ne,nf,d],∀xs,dú ->Χ,∀xs,dû ->Χ,λi h h' st k=>k it ś _ st,(show ∃t,u=fñ from r),(show ∃t,u=fò from r),(backTo pos (starEach args X.env)),(.Call dę aϒ [] pos),mŇ::us,kvs.filter λkv=>decide (kv.1≠k),mY I3 rfl (dĽ) Ic.free NV,λcdv A outer s H vs Q E hr h=> ?_,(t1.trans (jϒ)),((eų).trans t8).trans t9,#[a1,by rw[bL (Nu a2)];show a2,a3],(∀x∈Ŵ,gċ),(∀j∈js, aű<=j.1 /\ j.1<=Z),(by rw[bŜ] at e;show e.symm),(lϥ - dr),eT.of (lŽ),fI aż (bΧ)=fτ,HT.tD ká 0 none,[(Ĭ,q2,jØ)],.lst (ou.map λa=>hÈ),rR lo (lo+d8) ŧ ũ,uF λ_=>Gk (FX λ_ e=> ?_) λe=> ?_,Runs less ũ pl 0 a₀.size,V ->V ->V ->Hp ->(ŝ) ->Prop,#[o,e,λv z=>by rw[d] at z;cases z],϶,absurd (show cŶ from hs) bo,absurd (show cŶ from fx) bo,(∃m,W 0 m [] (cR H1 p cÿ)),PG lΡ tg g,dz (hc s3 _ _ s7 σ7 H7 _ I7 q7) ?_,(seqObj ÿ fU.toList.toArray 0),#[[Ā, iϤ],[]],(mŐ ts),wpAny_newObj_type ?_ gü,absurd (aJ h1) jğ,më=aþ,codeAny_builtin F.entry_min_loop ?_,(W.frame _ _ _ NT λb hbf o e=> ?_),(∀x∈Ŵ,x∈dΑ),∀x,bś=jϷ,(sts.map kÇ).sum,lϥ - t.len,(pe (by change _<=_ /\ _<_;decide)),(LqIp hS.2 (LqIp hSd fË)),(.ins A.dZ dx (Uk p ms s v sts v2)),aH (wpS_lift (wpAny_rule bϲ)),aR #[rfl,la,f,rfl,h2,h3,h4, .inl c1],uF λy=>FL rfl (uF λz=>dÓ),(.a ϫ ñ),∀r g,fè ->Q r (aΟ),CK ŧ ač r.toList.zipIdx,some {cls:= .none,data:= .fields ps},some (W.methodObj ŀ (.ref y)),#[.int aϕ,H,Ģ,Ļ,q],V ->Č ->Č ->fϱ,K4 lΡ iL tc,PE lΡ iP te,{KH with scope:=iϛ},s3.heap.objs.size=iĔ,(.a Ϯ ñ),(.a ϭ ñ),mroIn K C (gé)=š,(D.nx ρ (um M2 p (.dK (wF kvs k)))),∀ρ M,I xs.length ρ M ->cĎ,λρ' M'=> ∃m',m'<m /\ dś,tT M λp=>q Đ hώ,#[o,hj,λv z=>by rw[d] at z;cases z],PG lΡ kj g2,K4 lΡ fX uX,((Ln i j c:Nat):Int) - fċ,M4 p=some (.lst (hϤ)),(I.c9 b u h).oO (eŻ) ow tu,.Call (.Name aό p2) [a,b] [] xE,(eN _ _ (aZ n2)).trans (dι),(.a ø Ϯ),(kvs.map λkv=> .tup gć),bS.mp hn j i fū ⇑hi ∅,d6 (λsh=>kį) js,(∀t∈P',Wt (fŰ) ê),∀w∈eν,hİ,Lqf [_] ϒ Lq0 this rfl,lc (lŸ) gs x,L.map λt=>((Sum.inl t.c:cF),aŻ),Tin R S s p M hd r dr rl rp bA a P L,L.mergeSort λa b=>iÈ,lC s p sts D Y pat rest P sts.length,(.a Ĕ (.a Ĕ ς)),(um (um M1 e1 bĲ) e2 bĲ),(.a ø (.a ο ø)),[Ĳ,ť,hŚ],λcdv A' outer s H E e hr hF hP=> ?_,decide (6< ((cľ).length:Int)),[bϜ,θ,Ξ],Ú ->Ú ->StateT jf Sem (Ú),(decide (ac<7) && decide (bc<7))=true,cŒ×Nat×Nat×Ú×Nat×Nat,LE less fϛ fϜ,LE less fϜ fϛ,show Ã+(sb+m - ač)=sb+m by lia,(Runs less cř pl 0 a₀.size),wpAny M A (storeName X.env x u) Q E s,.inr #[k,c,e,kŭ],I1.kept (t':=s1.toks) gŲ,(backToKw pos kĊ),wpAny_Call_Name_kw (mP I hg hm ?_ oy),{cls:= .type aĵ,data:= .dict #[]},λj=>vf (eł) (m.getD j .fw),q Đ (um M p (.lst eŎ)),λh=>#[vs,vs[i]'∅,ō,by simp],Ϸ,(v0 iP tg iter iL kj df fX scope pos),Keeps (λi=>n1<=i /\ eľ) g2,I2.kept (t':=s1.toks) gŲ,h'.push mğ,(.lst (kĴ++ [z])),h.ug x eψ hϰ,lC s p sts D Zm pat rest P sts.length,(.a Lq1 (.a ξ cϥ)),(.a jϕ cϦ),(.a jŸ (.m 2 Lq5)),aj (show ¬w.c=(cϨ).c from y),fs.lookup hÄ=ε,gN ĭ l []= [ių],(.a jŨ cϥ),(um M4 l1 (.lst jë)),Lqj [_] Lq0 Lq0 ø ø LqN0 rfl,MI less a.toList b.toList o.toList i j,(λx c hr=>#[rfl, iô]),Lqj Û Lq0 Lq1 Lq0 Lq1 (LqNz c) rfl,(b∈X.ex \/ X.s₀.heap.objs.size<=b),X.env.scope.names.lookup x=dë,(I7.pin (b,o) kŰ),(Un (bĤ) [] H H' s.heap s'.heap),(λkv=>if aĸ then(kv.1,v) else kv),hû ->RelV v w' ->Q w' s',codeAny_loop rfl I (λn s hI=> ?_) n h,#[0,[],_,Ic,Fb,λb hb=>(B6 b hb).1,w0],(I9.pin (b,o) kŰ),#[m,hn,λh' NV=>#[aĻ,H',?_,rfl,q]],b∉bĤ -> kĖ,(mĘ).get? b,R (.ok (.ret Ń)) gë,(D.nx ρ mç),(.lst (kν++ [y])),q (gi l) lť M1,(A0 wi own.length fr g tc CL g2 uX te),(.lst (mĜ)),#[?_,by split at h2<;>lia,ź],h1 x dx (m1.fresh hx) (m1.fresh GK) c6,Lqj Û Lq0 Lq1 Lq0 Lq1 (LqNd e) rfl,.Call (.Name aό q2) aϷ [] xE,W.mroIn K C (gé)=š,(λsh=>look gģ ŵ),d6 (λsh=>look (pf t.Q w) bυ) js,∀x,dϐ=jϷ,.inl (List.mem_flatMap.mpr #[t,ht,hx]),[aξ,ð,į,bε,aŤ],[θ,Ξ,cϰ],(dW dH Ě cϲ Η),(ae ė lν),hØ*(jś),(ae mů ax),ĸ++mč,(.a ϱ ñ),c7 λx d=>c=(û,d) /\ fç,∃sl,cÑ=some {o with slots:=sl},Ϩ ->hé,fý=þ ->cÑ=þ,(dz (ha ai s σ H Q I h) λc s1 e=> ?_),[.Tuple [.Name x px, .Name y py] kt pt],∀name,hù=some (mA name),λus s1 ⟨vs,H1,I1,r,q⟩=>#[I1.v9,?_],envOfC qual scope s.heap.objs.size f cd,#[i,rfl,mŏ],(∀ys M,I xs.length ys M ->q Đ M),(LqIp (LqId hx) kġ),(l.map λq=> lī),Lqi Û Lq0 Lq1 Lq0 Lq1 (LqIz hb) rfl,λi j=>decide (dŬ<dŮ),wpAny _ _ (field bū 0 >>=_) _ _ s,wpAny _ _ (field bū 1 >>=_) _ _ s,cR H s.heap.objs.size (gΞ),#[_,(lq.2 _ QR).trans ht,rfl,_,rfl,rfl],[iϲ,s1.heap.objs.size],PI lΡ kj df CL,(gĂ iŊ).sum,Int.emod_emod_of_dvd _ hġ,Around.under_plainId F.plain_min_loop _,r.foldl mĠ a,r.foldl mġ a,.dK (ps.foldl jϫ []),(.a Ϣ ϑ),(λsh=>look (fŷ) ŵ),rT s Z (bÎ) (iŧ) u,∀w∈t'.Q.map Ć,hİ,(ah.mpr #[t,o.perm.mem_iff.mpr ht,rfl]),∀ea,w8 (gĳ) cϮ ts,[ï,gĵ,hŚ],["p",ï,"n",aõ,cŃ,"pairs"],(fC ĳ Ě ė Η),(fC ĳ ĕ ė Η),(fC ĳ Ę ě Η),Lqj Û Lq0 Lq1 Lq0 Lq1 cñ rfl,#[by first | decide | decide+kernel,?_],Inv X ai σ H lŐ,Inv X ai σ H lœ,y.size<=sizeLine /\ k=((y.size:Int) !=0),(LqNp ϔ Ϡ),(cR (cR H dx bĄ) x gÁ),(λh' c' kp e=>fin its r' hz h' c' kp e),cε ->(cl.lookup y.1).isSome=true,(by rw[<- Array.getElem?_toList];show e),∀vs M q,bŇ ->iύ,Ok K gô M' gÜ H2,#[(o.env.ts fĽ).Vi own fr,my],m.map (λq=>lύ),(.Call (.Name dĆ p) [l] [] pos),wR (l.map fW) keep own fr g c el ρ M1 q,.Call (.Attribute o "items" gx) [] [] fO,(cW.cons ?_ (cW.cons (rp.ts ts) cW.nil)),∀j∈js, ∃h∈cĪ,j.1=ŗ,Lqi [_] ø Lq0 ø Lq0 ü rfl,∀b∈bs,eT s p (eϑ) bΜ,["p",Ř,ð,bÙ,bÚ,"n"],(.a Ο jŬ),["p","pairs","turned",Ĳ,ť],cT (by rw[aû,aE Nv,aû];show av) gX,mϴ - t.len,#[rfl,la,f,rfl,h2,h3,h4, .inl Ū],aH (wpS_modify (aH (wpS_modify (aR ?_)))),∀b u,ną,Inv X ai σ H' lŐ,ta σ H λx H1=>tb σ H1 λy H2=>R x y H2,(cR iώ x gÁ),compEnvC scope cl s3.heap.objs.size X.env,dz (hg s3 _ _ s6 _ H6 x u _ I6' r6 Pz) ?_,ak (m:=checkCount bĻ 1 1 _) aΨ,some (some (lΨ)),a ρ M λx M1=>b ρ M1 λy M2=>r x y M2 q,wpAny _ _ (seqItems? (aĿ) >>=_) _ _ s,#[jχ,ht.isList.push _],nsIn K mainGlobals x=some (fė),some #[fô,none, cŠ,sl],Lqi Û Lq0 Lq1 (.m 1 Lq0) Lq1 this rfl,M5 p=some (.lst (kĴ)),W.excIn K C Y1 jģ =true,L.Pairwise mŠ,∀t∈L1,mΓ,(bW fN ϵ aL),(um (um M l1 (.dK (fP pat))) p1 bĲ),kS ((kç k).map aζ),∃s:Int,(lÿ:Int)=s,(LqIp (LqIe hs) kϹ),decide ((((ou.map gz).length:Nat):Int)=0),(bubble cŎ aĆ gŒ),wpS Φ A E s (mergeAt' i) Q st,(.a ν (.a Lq4 ϑ)),(LqNp (LqNd NR) ((Nat.pos_of_ne_zero c1))),(LqNp (LqNd JK) (kŧ)),λbN pl b1 b2 b3 b4=>#[rfl,pl,b1,b2,b3,b4],∀x c,lΙ ->c≠b,(hs.2 b (lĐ)).trans,(spliced (mŁ)),(show mÓ from p),∀x,foldedSetIterable iter X.env x=pure x,(.Call (.Attribute o m gx) aϒ [] pos),(mŇ::bħ),(backTo fO (hμ)).any Ć,(.ListComp iP [#[qg,iter,iL,0]] scope pos),(.ListComp iP [gχ] scope pos),nω.2.1,findIn K Ń fį =bϰ,cD P w K mg base gT Ü f fd ps bņ,∀i ρ M,eŚ ->bő ->aņ,(λi j=>decide (dŬ >dŮ)),ak (wpAny_field QH Oe (x:= aĿ) rfl ?_),starEach [l] X.env= [(false,eval l X.env)],(by rintro ⟨i,a,b,c⟩;exact #[i,a,b,c]),λb o n1 e=>hk b o n1 dā bķ,d6 lĹ fſ,λy=> ∃x∈E, ∃n∈ns,hŔ,decide (mı <=r),CrR p lÿ ms sts rest,(.a ο kϜ),(aU T.iY aυ hr (ae ė cϳ)),(.a ø mņ),(.a (.m 9 (.a (.n 332) (.m 272 Lq3))) Lq4),decide (mİ <=e),decide (mİ <=8),(aU T.iY aυ hr (ae ĕ cϳ)),pure (ForInStep.yield (none,dÊ,0)),(by exact Lqj Û Lq0 Lq1 Lq0 Lq1 ha rfl),(by exact mΨ),(by exact Lqj Û Lq0 Lq1 Lq0 Lq1 h1 rfl),LE less (gō) (c8 ŧ j),c8 (nĻ) n,Lqi Û Lq0 Lq1 ϒ Lq1 h rfl,PassesOwn ϣ X.A X.env X.xe,((gŵ:Nat):Int) - fċ,some (some (.builtin "object.__setattr__")),λv hv=>cŻ.1 (List.of_mem_zip hv).1,wpAny_Call_Name_kw (iz I hg hm hv ?_ hn oy),(if([]:eĲ).isEmpty then 0 else 1),{cls:= eĂ,data:= .seq vs.toArray},λx c e=>gο.2.1 x c cζ,(λx=>do gτ;theTreesLotGoes x),λb o e=>Tf.extBut b o dā bķ,h'.push nħ,mroIn K C (jϊ)=š,(.builtin mϞ),Lqi [] ø ø ø ø LqI0 rfl,(show jġ from cŰ),Call_ (iz I Yd Ts boot_list (bV ?_ ht rfl)),(D.nx ρ (um M2 p (.ins C dx (gN f y fs)))),wpAny _ A.in1 (hó >>=_) _ _ s,(xs= [Í,Ì, hϵ,fh pat]),kĶ=some (fė),aV.mpr #[mB λe0=>hy gϡ,cj hy],∀i st,ϟ ->fŹ=st,(∀a∈ms,bŶ /\ iϰ),(.lst (t.2.2.map cN++ jë)),decide (mı <=24),unsupported "internal:list.sort.merge-bound",W.item i s _ _ hg st λv h' tk hv bN kk=> ?_,(bV mϓ hs rfl),y.length<=sizeLine /\ k=((y.length:Int) !=0),∃kvs,H p=ϊ /\ k= !kvs.isEmpty,(kvs.find? jΖ).map aď,∀s3 H3,nĥ,∀b xs,Rd H b cÒ ->Rd H' b cÒ,(backTo fO (iϣ)).any Ć,cW.mk (by simp[h.length]) iĮ,a ρ M λx M1=>r ρ M1 λxs M2=>q (Ø) M2,D.nx ((hϐ).set j (aġ)) M1,#[λz hz=>h.1 z fŊ,dŤ.2],ak (wpAny_field QH Oe (x:= .int i 0) rfl ?_),(.lst (mĜ++ [y])),W.findIn K Ń fį =bϰ,∀j∈js, ∃h∈sT ms t.len,j.1=kl t.len h,rT s Z (cŇ) (KP+s*hŨ) u,(by rw[I.ok.glob];show jθ),λ_ _ _ _ _ st h=>wpAny_pyIter_rangeiter st h,∀vs H Q E,dĖ ->iύ,cD X.prog X.w X.K X.mg X.base CX k f fd ps sp,cellsFrom ϩ scope.names [],absurd (show gÆ from z) ś,t {nx:=λ_ H'=>Q .fw H',rt:=Q} eħ H,∀l,bĭ ->Q bĮ (cR H l cõ),∀s3 H3,nŀ,∀s3 H3,nŁ,cD X.prog X.w X.K X.mg X.base gT k f fd ps sp,(.a ϒ kϢ),wpAny _ A.in1 (seqItems? (.ref Z) >>=_) _ _ s,lJ dŪ Î=some (wi (fŞ)),W.mroIn K C (jϊ)=š,(LqIp h3 (LqIp h4.2 (LqIp h5.2 ((LqId h6))))),r'.1+a.1=0 /\ eT s p sts (look fΘ),#[rfl,rfl,rfl,by right,rfl,by right,by right],∀x c,fç ->Q (hÞ) bN,MH less a.toList b.toList o.toList.reverse i j,aR (h Fb B1 rfl (iυ) rR.refl),{cls:= eĂ,data:= .seq its.toArray n},∀x:Str,gŪ ->mb x=fϬ,λi h h' st k=>st.at λo e=>k it ś o e,(kvs.map λkv=>if aĸ then(kv.1,y) else kv),cε -> ∃c,env.cells.lookup y.1=Ĉ,∀b o,nϑ,(RR ků s3.heap.objs.size),Value.builtin mϞ,#[λh=>fώ,λh=>h,hĕ],.cons ?_ (ih Ü r.length rfl λj v' e=> ?_),q (wr l) (um M1 l (.lst (gZ i fś))),q (wr l) (um M1 l (.lst (Ev i fŦ))),(ő+d6 lĴ js) % p,Lqi Û Lq0 μ ø Lq1 this rfl,(.s nŽ Lq4),(.s nŽ Lq5),(.s nž Lq6),[ių,iŷ].lookup,(.s nε Lq5),(LqIp hS.2 (LqIp hSd (LqIp afz fË))),(mirror ŧ lo ó ((lo+n - lo) / 2)),(by exact Lqj [_] ñ Lq0 ý Lq0 hj rfl),λi H=>c7 λxs x=>dú /\ Χ,λi H=>c7 λxs x=>dû /\ Χ,(∀l,bĭ ->Q bĮ iě),T.keep 0 _ _ st λb hb o e=>old b o (up3 b o e),(gĂ kĨ).flatten,aj (show ¬t.1=v from λz=>ev (z.symm.trans e)),(∀x∈dΑ,gČ \/ bθ),(by exact Lqi [_] ø Lq0 ø Lq0 s0 rfl),(List.range h).map λη:Nat=>ī+(η:Int)*s,((nı:Nat):Int),TC R S s p bA M0 F0 G0 L0 hd M r dr rl rp a P L,∀t∈L, ∀u∈L,mû,iy tc.lG.held.nd h.mem rN (h.at_.trans BY.symm),(c7 λx c=>r= hÞ /\ fç),Lqj [_] ý Lq0 iê Lq0 c2 rfl,(eù)[kŪ]? =þ,∀b xs,H b=fϨ ->H' b=fϨ,b≠it ->nϑ,#[rv,#[V.ref ϩ,H',I3,rfl,q3]],(nϗ).kindOf,{cls:= eĂ,data:= .seq its'.toArray n'},∀ (s:eY) (u:eX),BindsTo s fd #[[u],[]] [(x,u)],Inv X ai σ nÎ s3,(.a μ (.a (.s eŹ Lq1) Lq3)),∀u∈L,nϬ,(.ins A.d3 dx [(ĭ,aú),(Į,wr e2)]),Lqi [_] Ϣ Lq0 ý Lq0 p2 rfl,(.ins A.d3 dr [(ĭ,wr l1),(Į,wr p1)]),#[Ii st,by rw[xH],by rw[Ii,aa];lia,λe1 TF=> ?_],(.ins A.d3 dx [(ĭ,aú),(Į,wr q1)]),(by exact nθ),Lqj [_] ø Lq0 ø Lq0 ϔ rfl,(by exact nν),∀b u,b≠e ->ną,∀b o u,H b=fϪ ->H' b=fϪ,[λv=>bindName X.env y v,λv=>bindName X.env x v],I1.laid (t':=s1.toks) hΒ õ ?_,(mŁ).any Ć=false,PE X nč (tCB r t),s.heap.push nŲ,∀ (w:World) (h:Heap),YP w h ->(cδ).In h,ak (bK h₁ (λ_ s₀ Xx=> ?_) hΦ),ak (bK Xx (λ_ s₂ h₂=> ?_) hΦ),∀b o,jΤ ->h₁.get? b=Ą,Kr I 50 A.in1 _ _ _ _ _ _ ?_ ?_ q1 q4 ⇑q2 ⇑q5,λρ M σ H q Q o h k=>k _ M H h Ž o.hp,λa b c d h t o=>#[a,b,h,jϒ,o],(λhI=>absurd aĚ (by rw[ag.mp hI];show cE _)),yj (l.map fW) keep own fr g c zP g2 c2 el ρ M1 q,(by simp![bX,ay,ah];show kΔ),∀w x,look bτ x=lŴ,(.ins R dx [iÃ,iÄ]),∀ {x C d fs},kŃ ->x∉ [hd],l.countP (λx=>decide ¬(iË)=true),(cg gS Ŏ T.rE Boot.«abs» gŀ),Lqj [_] Lq0 Ο Lq0 Γ ha rfl,#[aψ,rfl,by rw[aE Jb];show av, aĒ,rfl,?_],(cg gR Ŏ T.rD Boot.«len» gĿ),(cg gS Ŏ T.rE Boot.«abs» gň),Lqj [_] Lq0 ϒ ø ø LqN0 rfl,eval (.Call (.Attribute e m gx) args [] pos) X.env,A.deeper (nϗ),∀cl fp s3 H3,nĥ,ks.Nodup ->(∀k∈ks,k∈l) ->ks.length<=l.length,Lqi [_] ø ϒ ø Lq0 this rfl,(eN _ _ (λh:Z=b=>hZ (by rw[h];show hbf))).trans e,(show 0<=bÎ+2*K by have:=h.k0;have:=h.w0;lia),(dc jL Ŏ T.h_ Boot.«list» gĸ),aR #[rfl,_,by simp,B5,HF o5 (.inr õ) s4,p5,R5],some oŚ,#[sl,oõ e1],#[o',oõ e1],attributeBase e f X.env (eĒ)=eĒ,A.under (.builtin gŻ #[aĪ::us,kw]),iQ CX P w K mg base N qual scope f cd A outer s H E,attributeBase o m X.env (eĚ)=eĚ,∀b o,Ϩ ->jΤ,∀cl fp s3 H3,nŀ,∀cl fp s3 H3,nŁ,(List.mem_erase_of_ne hzk).mpr (hs z fŊ),val (PySem.argBest (λi j=>decide (val i<val j)) k),#[#[old,k e ś _ he],o,k j ś o hj,r],I1.ya gŽ (I1.c9.fresh gŽ),∀cl fp s3 H3,nŌ,∀cl fp s3 H3,nō,(iŋ kĨ).flatten,hj Þ v' (by rw[List.getElem?_cons_succ];show e),(by rw[ec,z,nè];rfl),a ρ M (λx M1=>D.nx (hϐ) M1) (e ρ),[e϶,gŁ,"_law_by",dϥ],(hs.2 b (a_ (bH aĚ (I.ok.Vj x c hfn hc)))).trans,I.turned (λb o hb e=>kk b o aÒ e) f0 f1 f3 f4 f5,W.findIn K Ń cŷ =jď,(hb _ (nĎ) I2.v9 hl),Lqj Ğ μ Lq2 μ Lq2 hz rfl,ak (bK h₂ (λW9 s₃ h₃=> ?_) hΦ),λb hb o e=>nω.1,(Lqi [_] ϗ Lq0 ø ø LqI0 rfl),(Lqi [_] Lq0 ϗ ø ø LqI0 rfl),Lqi [_] ø Lq0 Ϣ Lq0 ü rfl,(∀z∈ps, -far<=z.1 /\ z.1<=far /\ gù),val (PySem.argBest (λi j=>decide (val i >val j)) k),Lqi [] ø (.n 2000000001) ø ø LqI0 rfl,d6 (λsh=>look (fŹ) ŵ) aì % p,(fm λq hq e=>hn nė),∀w x,iŨ=lŴ,PyProof.Rows.lands_againW YE λh₆ fl₆ up₆=> ?_,(eϞ ->lζ ->e C2 M),Int.dvd_natAbs.mp (Int.natCast_dvd_natCast.mpr this),pure (ForInStep.done (bϰ,c.snd.fst,c.snd.snd)),FL rfl (FL rfl (uF λg=>Gk (FX λ_ c=> ?_) λc=> ?_)),y<sb+nb ->LE less (c8 ŧ x) (c8 ŧ y),dí \/ nο,(λ_ s'=>c7 λσ' H'=>iĈ /\ Q σ' H'),eval oú X.env,(HT.tD xs.length xs.length hi - jĘ),∀b∈fp,li X ai nÎ b,ih n (dD n) A.in1 _ _ _ _ _ _ ?_ ?_ q1 q4 ⇑q2 ⇑q5,c7 λa vs=>dU dĀ (dľ) (Ż),a5 (by exact Lqj Û Lq0 Lq1 Lq0 Lq1 (LqNz hj) rfl),Lqi [_] ø Ņ ϒ ø hn rfl,PR X nč (tRK C sp ta),less kð lŇ,(iQ CX P w K mg base N qual scope f cdv A outer s H E),#[gÊ,H,Ģ,#[s.toks+1,by rw[a7,d_]],q],codeAny_compStart_list loop (T.self _ 0 _ _ _ Fb loop),#[_,rfl,wpAny_letOwnedTupleGo_enum ho gΟ],.ListComp iP [gχ,#[kj,df,fX,0]] scope pos,∀cl fp s3 H3,nϣ,#[List.mem_of_find?_eq_some h, ⇑(List.find?_some h)],∀x,bŹ ->eς ->kΖ,Lqi Ğ Lq0 eŧ ς Lq1 h1.2 rfl,M r=some (.ins R dr [(ĭ,wr rl),(Į,wr rp)]),(js.map Ć).filter (λy=>decide (gϠ)),(LqIp kĎ kϹ),tc.kp.trans UV λx hx=> .inl (by rw[bñ];show Va),[(Ϗ,wr l1),(ϐ,wr p1)].lookup,(by exact LqIm (Lqi [_] ø Lq0 ø Lq0 n0 rfl)),(by exact Lqj [_] Lq0 aΑ Lq0 aΑ (LqNz h6) rfl),Lqj [] Ϣ ñ ø ø LqN0 rfl,pure (.done (ô,d.2.1,aΙ,aΚ.1,cÁ)),vs.map some++List.replicate (N.length - vs.length) none,(∀x c,dĵ=Ĉ ->lĎ),∀x c,dĵ=Ĉ ->lΙ,absurd rfl (SeqAt.ne_of_list_tuple (s:=s) hl.isList ht),some (some oĦ),a ρ M λo M1=>b ρ M1 λi M2=>s o i x M2 λM3=>q ρ M3,(none::dũ::List.replicate (eũ) none),(toString aâ ++toString ".loop" :String)= cϐ,wpAny _ A.in1 (tryCatch (pyNext (.ref I)) _ >>=_) _ _ s,(by exact Lqj Û Lq0 Lq1 ϒ Lq1 hn rfl),d6 (λt=>look gģ hŁ) bΤ,(by exact Lqi Û Lq0 μ ø Lq1 k0 rfl),a.2.all λz=>oĊ,[θ,Ξ,dϦ,hË],[ï,gĵ,hŚ,aõ,cŃ],(by exact Lqj Û Lq0 Lq1 ϒ Lq1 hxn rfl),Lqj Û ϒ Lq1 ϒ Lq1 hb rfl,W.methodCall_KW (pl:=pl) mÒ ht,Lqi [_] ø Lq0 ø Lq0 kĎ rfl,wpAny _ X.A (assign (cű) X.env cĀ) _ _ s',((∃a,cΖ /\ hϑ) \/ eŒ),(cä <=i /\ i<aģ /\ lĩ),∀w x,look bτ x=if w=Ĭ /\ x=0 then 1 else 0,∀u∈L,u.c<c ->nϬ,∀u∈L,u.c=c ->nϬ,Lqj Û Lq0 μ ø Lq1 ϔ rfl,pure (.done (ô,aÇ,aΜ,cÂ,dÐ)),(nĎ++ds).length=ps.length,iQ bĽ P w K mg base N qual scope f cd A outer s H E,(∀b o,b∉wr ->t.heap.get? b=Ą ->hé),attributeBase o "items" X.env (eĚ)=eĚ,∀w∈fũ,hİ \/ w∈eν,λi=>match i with | 0=>kΝ | i+1=>J i,∀x,bΓ ->cĶ≠0 ->cĨ /\ Ē<t.len,(.a ο (.a Ϣ gϲ)),(by change(iä:ĉ).Nodup;decide+kernel),pure (.yield (none,aÇ,aΜ,cÂ,dÐ+1)),(dz jĊ λv s1 h1=>dz h1 λS_ s2 h2=> ?_),(.a (.a (.a Lq0 (.m 16 ϑ)) bģ) ñ),(W.fnOf name qual params body scope dV kV kf pm an cdv ct),(backToKw fO kĊ).all (λx=>x.1.isSome),ϸ,(bU X N' scope cl fp s3 nÎ),compTurn Ϸ 0 it fU env,compTurn Ϸ 1 it fU env,cD X.prog X.w X.K X.mg X.base gώ k f fd ps sp,wpAny_Call_method0_late zV zS mÑ,List.length_filter_le (λq:ŏ=>decide (q.1≠z.1)) r,y∈pÞ,ih (by exact Lqj Û Lq0 Lq1 ϒ Lq1 hm rfl),[ių,iŷ,iŸ],∀ {x C' d' FW},M x=jŔ ->x∉Ŵ,(cg bϣ Ŏ T.jO Boot.«sorted» gŀ),Z8 T.repeated.fn jT (by left) mą,reverseSlice' (eÔ - (dÉ)) (eÔ),(by exact Lqj [_] Ϣ Lq0 ñ Lq0 h1 rfl),i<k ->LE less kò kñ,∀i,i<n ->base+i<arr.size /\ c8 arr bé∈a₀.toList,(by exact Lqj [_] Ϣ Lq0 ñ Lq0 nb rfl),Lqj Ğ μ Lq2 μ Lq2 (LqNz i1) rfl,(iQ gT P w K mg base N qual Ħ f cdv A outer s H E).Lp,∀y∈scope.names,oÁ,{s3 with heap:=h₁,toks:=mϛ},fin s3 _ I3 B6 _ _ H4 s5 s5.toks (by rw[RN];show dD _) I5 q,λb M2 v H2 h2 t2 m2 r2=>k b M2 v H2 h2 fĲ m2 r2,∀p,ţ ->q Đ (um M1 p (.lst (xs.filterMap f))),aj (show ¬(mŕ) from λz=>bo z),n=if h<0 then -(gĐ)*foot else -(gĐ),sts.length*(bË)+an+nı,(by exact Lqi [_] ø Lq0 Ϣ Lq0 s0 rfl),s=0 \/ s=1 \/ s=2 \/ s=3 \/ s=4 \/ s=5 \/ s=6 \/ s=7 \/ s=8,(DB (K:=K) rfl (fC ĳ Ę ė Η) rfl),∃x∈E.take a, ∃n∈ns, ∃w∈hū,z=x+n*w,Inv X ai σ H' {s with heap:=h',gens:=g',drawn:=d',toks:=t'},wpAny ϣ X.A (f (bü) (.int j u)) Q E s,fJ k (A.deeper (envOfC qual Ħ s.heap.objs.size f cdv)),sortedHeap_old (a_ gu) (by rw[eM];show jĢ),(Lqi Û Lq0 jϠ ø ø LqI0 rfl),(Lqi Û jϠ Lq0 ø ø LqI0 rfl),(Lqj Û μ π ø ø LqN0 rfl),∀x,Ŗ=oŦ,aΩ /\ H q.2.1=some (.tup (p.1.map kV)) /\ RelV p.2 q.2.2,hž=dë \/ mË,wpAny ϣ X.A lŒ Q E s,(kŲ).push (mÔ),λp hp=>absurd (show p∈([]:ψ) from hp) ś,typeLookup cò "__getitem__" =pure (some fę),a ρ M λx M1=>lo ρ M1 λl M2=>hi ρ M2 λu M3=>r x l u M3 q,λy M4 v4 H4 h4 t4 m4 r4=>k y M4 v4 H4 h4 (t1.trans t4) m4 r4,(.compLoop Ϸ 0 it fU env),(.compLoop Ϸ 1 it fU env),foldedSetIterable df (lĤ).env x=pure x,(W.fnOf x x aϝ aϞ Ħ .none kV kf pm an cdv ct),(W.fnOf m q aϝ aϞ Ħ .none kV kf pm an cdv ct),[Ξ,cϰ,"_law_other","_law_by",dϥ],#[M,((Sm.um (cĐ) hd).trans (bG xW)).trans (bG ht0),?_],Lqj Ğ Lq0 Lq1 ς τ (LqNp hi iE) rfl,(al++bl).Perm ((bϷ++bϹ)++(bϸ++bϺ)),Ϲ,kċ=jē::hμ,W.WalkO q vY XP YP l.row.toRowW d [] lĠ,.inl #[k1 rfl,k _ M' _ H' (hd ys M' hI) fĽ m' WR.v],ħ /\ gF K M H' /\ ∃x,cΥ =û /\ dŌ,(iQ bĽ P w K mg base N qual Ħ f cdv A outer s H E),(.compStart Ϸ 1 i2 fU env),cW.cons WR.v (by rw[List.append_nil];show r1.ts (dπ)),q Đ (um M1 p (.lst nŔ)),∀b∈bs, ∀x,eξ -> -bÊ <=Ē /\ Ē<=w,Lqi Ğ Lq0 Lq1 ς τ eϙ rfl,(um mΞ u2 kń),Lqj Û Lq0 Lq1 ϒ ϑ (LqNw c1) rfl,∀b ps,H b=some (.Mj ps) -> ∃more,H' b=some (.Mj (ps++more)),#[_,st,λv z=>by have z':Data.fields _=Data.cell v:=z;cases z'],λb hb=>#[by rw[bL (a_ (TY b hb))];show(xZ b hb).1,dĸ],it ρ M λxs keep M1=>yj xs keep own fr g c zP g2 c2 el ρ M1 q,∀x,cĶ=(ő+nê) % p,(by exact Lqi Ğ μ τ Lq0 Lq2 hk rfl),(by change(kϕ:ĉ).Nodup;decide+kernel),(W.fnOf x qual aϝ aϞ Ħ .none kV kf pm an cdv ct),#[m,hn.sameBut sb c6,λh' Tg=>#[_,H',mY I3 rfl I6 Ic.free Tg,q]],wpAny _ _ (if mŕ then _ else _) _ _ s,s1.heap.push {cls:= .type "dict_items",data:= .fields #[aľ]},#[_,_,_,e,dϬ,hŝ,hŞ,rfl,rfl],(by change(lă:ĉ).Nodup;decide+kernel),s.heap.get? l=oϙ,s₁.heap.get? a=some oĠ,wpAny Φ A (Builtin.SmallTypes.nextOf bū) Q E s,(∀b o,b∉wr ->b≠Z ->nϑ),#[r'.eq,k _ _ _ _ hq (t1.trans ((dπ).trans ts)) m' WR.v],Lqf Û Ϯ π (LqIp h this) rfl,(dc (jM rfl) Ŏ T.h_ Boot.«list» (ae hÍ ax)),db (by exact Lqi [_] ø Lq0 Ϣ Lq0 UK rfl) Pj,(∀i,i<l ->LE less kñ kò),(none,d.2.1,aΙ,aΚ.1,cÁ+1,aΚ.2.1,aΚ.2.2),(by exact Lqj Û ϒ Lq1 ϒ Lq1 h rfl),λxs H Q=> ∃i,xs= [Ă] /\ Q (.int (jΒ)) H,λb o n1 n2 e=>AF b o n1 n2 (nŒ),Lqf Û Ϯ π (LqIp hk this) rfl,some (.ins C dx (vj p lÿ ms v w z sts rest)),cŅ.2 (by exact Lqi [_] ø Lq0 ø Lq0 (LqIz jQ) rfl),(big (by exact Lqj [_] Lq0 Ο Lq0 Γ hl rfl)),(g_ Ŏ T.jp.choose_spec (show RelV (.int 8) _ from Ļ)),(g_ Ŏ T.lL.choose_spec (show RelV (.int 6) _ from Ļ)),(by exact Lqj [_] ñ Lq0 ñ Lq0 (Nat.pos_of_ne_zero c) rfl),((eù).modify (iΘ - 1) _).push bù=_,wpAny Φ A (Builtin.«list.sort» fϡ) P E s,Ϻ,(by exact pù),∀y∈scope.names,y.2= .local ->kč=dë,(∀x M' v H',q x M' ->ħ ->ű ->dŌ ->aĜ),(Ku oĨ j a ha its.toArray),λ_ _ _ _ _ st h=>let ⟨⟨_,he⟩,_⟩:=st;wpAny_pyIter_enum he h,(a϶ -> -aŚ<n /\ n<aŚ /\ iϵ<=15000000),(by exact Lqj Û ϒ Lq1 ϒ Lq1 hm rfl),(by exact Lqj Û ϒ Lq1 ϒ Lq1 hn rfl),(big (by exact Lqj [_] Lq0 Ο Lq0 Ο hl rfl)),(g_ Ŏ T.kr.choose_spec (show RelV (.int 24) _ from Ļ)),(by exact pĀ),λc bN=>hŴ /\ nϏ,T.keep _ _ _ RT oϴ,∀b o,Ϩ ->nΒ,∀st∈sts,bÆ<=oŹ,[Ξ,eϪ,eÀ,e϶,gŁ],["p",Ř,"patterns",aο,bÝ,cŃ,"firsts",bϖ],(dz kϱ nϖ),λfU C=>compPost ϣ X.A X.xe none Ω fU C,(by exact Lqi Û μ π ø ø LqI0 rfl),JY (show t.c∈Ε by rw[<- ll.key];show iř),(by change(mĶ:ĉ).Nodup;decide+kernel),Lqj Ğ Lq0 Lq1 υ ο (LqNp hz ((LqNe e))) rfl,I.turned (t':=s.toks) (λb o hb e=>hς e) f0 f1 f3 f4 f5,(W.fnOf cŷ q aϝ aϞ Ħ .none kV kf pm an cdv ct),[aξ,"p",cń,aπ,"lap",bϖ,bϗ,"rest",cŀ],#[_,_,_,e,fΚ,iŴ,iŵ,rfl,rfl],pure (.done (mϋ,ĸ,i,j+1,mg,ac,bc)),(oô) /\ ∀p∈bČ,p.1≠b,Lqj Ğ Lq0 Lq1 υ ο (LqNp hz (cô)) rfl,∀b o,Ϩ ->ľ ->mŌ,PySem.argBest (nϝ) gΝ,(by exact Lqi [_] Ϣ Lq0 iê Lq0 hp rfl),w8 pġ aϞ t,I.laid (t':=s.toks) hΒ õ #[dm _,[],0, .nil,Ŀ],starEach eņ X.env=(false,eval e₀ X.env)::iϣ,findIn K Ń dň =oÝ,λz M3 v3 H3 h3 t3 m3 r3=>k z M3 v3 H3 h3 lÓ m3 r3,ih j (by exact Lqj Û Lq0 Lq1 ϒ ϑ h' rfl),PySem.argBest oă gΝ,nx _ _ _ _ _ (by exact Lqi [_] ø ϒ ø Lq0 hi rfl),Lqj Û Lq0 bϧ π (.a bϧ Lq1) (LqNp XS this) rfl,(aS (bZ (je eÐ Ĝ (jy (ae kX (ae zq (ae zq ax)))) Ė))),(mirror ũ (fà) aā ((À - (fà)) / 2)),(I.c9 b ob e).oO (λc w' hc q=>(hs.2 c ?_).trans q) cš cŢ,show kG f v (aÕ::r)=(if k=f then(k,v)::r else aÕ::kG f v r) from rfl,fJ k (A.deeper (PyProof.Rows.envOfC qual Ħ s.heap.objs.size f cdv)),λp hp=>k _ _ _ _ iĳ Ϧ (m.om hp rr) WR.v,(by exact Lqj [_] ϒ ϒ ø ø LqN0 rfl),Lqi Ğ Lq0 Lq1 ς τ kΦ rfl,(by change(nñ:ĉ).Nodup;decide+kernel),(by change(nø:ĉ).Nodup;decide+kernel),LqNx (Lqj Û Lq0 Lq1 Lq0 Lq1 g1 rfl) (mΩ),LqIx (Lqi Û Lq0 Lq1 Lq0 Lq1 h1 rfl) (Lqi Û Lq0 Lq1 Lq0 Lq1 h2 rfl),W.findIn K Ń dň =oÝ,(by exact Lqj Ğ Lq0 kϢ Lq0 ο hN rfl),(Draws.list oĨ j a ha its.toArray),oŴ++(dŹ j).map aŘ,Builtin.Builtins.bindParams aâ ["key",cĠ] 0 #[[],gϐ],Lqj Û ϒ Lq1 ϒ Lq1 (LqNk GJ (Ne.symm e)) rfl,(show e<=0 by exact Lqi [_] Lq0 ø ϒ ø (LqIw z) rfl),{s with heap:=pĹ},(pŜ).objs.size,((dΩ).map Ć).filter (λy=>decide (kļ≠0)),(by change(nŢ:ĉ).Nodup;decide+kernel),Lqj [_] ϒ kõ ø Lq0 ϔ rfl,∀nF,isTrue a X.env nF=(do let v <- nF;standAt a.pos;kĂ),(newFunctionEnv scope X.env.globals cl [] X.env.qual none .none (some X.env)),Lqj Ğ Lq0 Lq1 ς τ (LqNp cñ (bŐ)) rfl,λρ2 M2=>c ρ2 M2 λb M3=>iK b (mμ) (N none M3),List.getElem?_eq_none (by simp;exact Lqj Û Lq0 Lq1 Lq0 Lq1 (LqNz hi) rfl),Lqi Û ø Lq0 gϒ μ kΥ rfl,(λ_ _ _ _=>(di (ae ė (ae nϳ ax)))),λh' eb=>#[rfl,I.turned (t':=s.toks) (λb o hb e=>eb b o hb e) f0 f1 f3 f4 f5],(Up ha hb I h λv u s2 x y H2 I2 rx ry q=>ho ai s2 σ H2 x y v u Q I2 rx ry q),W.findIn K Ń fđ =oĜ,(by exact Lqi [_] ϒ ø ϒ ø (LqIw h0) rfl),λh2 eb=>#[rfl,I.turned (t':=s.toks) (λb o hb q=>eb b o hb q) f0 f1 f3 f4 f5],ak (wpAny_standAt (ak (bK h (λit' s' h'=>aN (And.intro rfl h')) cū))),∀cl fp s3 H3 x,pŀ,Lqi [_] ø cő ϥ eϋ (LqIp this this) rfl,[ių,iŷ,iŸ,jâ],(λx=>match x with | .tup [eÂ,s]=>some (.tup [wi (x+b),s]) | _=>none),Lqi Û ø μ ϥ π (LqIp s0 d0) rfl,(by exact Lqj Û ϒ Lq1 ϱ Lq1 hi rfl),m_ λo' i' j' d=>dU jŭ kø (i+j+1<=aÊ),m_ λi' j' o' d=>dU jŰ kù (aÊ+1<=i+j),wpAny_newFunctionEnv S.tS (by intro y hy;simp at hy) (λh₁ To Tf=> ?_) S.kind,λe=>Lqf Û Ϯ π (LqIp this (Ő)) rfl,{cls:= .type "tuple_iterator",data:= .fields (List.toArray [aĿ, .int 0 0])},oŴ++(dŹ Þ).map aŘ,(λx=>match x with | .tup [x, eÃ]=>some (.tup [x,wi (s*n)]) | _=>none),(by exact Lqj Û ϒ Lq1 mß Lq1 hu rfl),PS X (.Raise (some (.Call eŇ eņ [] fO)) none pos) (AY C E t),(Lqi Ğ kÁ j϶ ø ø LqI0 rfl),(Lqi Ğ j϶ kÁ ø ø LqI0 rfl),(Lqi Ğ jϣ kÃ ø ø LqI0 rfl),(show c+1<=c2 by exact Lqi Û ϒ Lq1 ϒ Lq1 hc rfl),(Lqi Ğ jϕ kÏ ø ø LqI0 rfl),(j==NameKind.free && lş && lÉ)=true,ak (wpAny_standAt (ak (bK (turn n s hI) (λr s₁ h₁=> ?_) hΦ))),λe=>Lqf [_] ϲ ϕ (LqIp s0 ŭ) rfl,λe=>Lqf [_] ϲ ϕ (LqIp p0 ŭ) rfl,Lqi [_] Ϣ Lq0 Ϣ Lq0 kΡ rfl,b D (λρ' C M'=> ∀ea,M' ea=none ->qE K al C ea D ρ' jÝ) ρ M,Lqj Û Lq0 Ο π kŖ (LqNp abT hl) rfl,Lqj Û Lq0 (.n 50) k϶ (.a (.n 50) Lq1) gâ rfl,(by rintro a b c d ⟨m',hm,h⟩ t o;exact #[m',hm,a,b,h,jϓ,o]),(∀i ys M,eŚ ->bœ ->aņ /\ iķ /\ ys.length<=i),Call_ (iz I hg hm Boot.«enumerate» oĵ),∀w x,hĲ=(gϘ+nŖ) % p,(by exact Lqj Û cő (.a cő Lq1) ø Lq1 ϔ rfl),(by exact Lqj Û cő jÊ ø Lq1 ϔ rfl),jm (by exact Lqj Û ϒ ϑ ϒ Lq1 hn rfl),Lqj Û ý Lq0 (.a Lq1 ý) μ (LqNp (LqNe afq) ((LqNz h2))) rfl,Calls.call_function_entry kind_sorted plain_sorted entry_sorted (args_sorted1 _) ?_,#[ah.mpr #[c,h.bot,h.ok.own],λx hx=>by let⟨y,hy,rfl⟩:=bΔ;show h.ge y hy],(qy (st:=st) l c k).binds λkV kf pm an cdv ct us e=>(b kV kf pm an cdv ct).to us e,(by exact Lqj [_] Ϣ ϒ ø Lq0 ϔ rfl),{cls:= fú,data:= .fields (List.toArray [.int lo t, .int hi u, .int 1 v])},(λm' hm=>by let⟨o',_R,_S,N1,r'⟩:=hm;rw[ho] at N1;cases N1;show#[_,_R,_S,hL,r']),cM (V.ref ϩ::bĥ) oû,(dz jĆ λu s1 ⟨x,H1,I1,rx,q1⟩=>mŃ),(.lst (pϑ)),∀w x,hŇ=(gϘ+nΤ) % p,ox I os bare fl c9 zT un kb kt fl₆ ((iÑ).trans up₆) (tk:=s'.toks),(by exact Lqi ř jů Lq3 jϕ Lq3 ekp rfl),(∀ (i:Nat) p,gĈ -> ∃b,aİ =some (aĶ) /\ ko K H b ež),λe=>Lqf [_] ϲ ϕ (LqIp ü ŭ) rfl,(by exact Lqi Ğ Lq0 μ gϴ ο (LqIp hw w0) rfl),(QW t ht j hj).2 (by exact Lqj Û Lq0 π ø Lq1 ϔ rfl),Lqj Ğ ϒ Lq1 kϝ τ eÙ rfl,um pŐ v iĿ,um nζ v oı,xz T m (.inl (by exact Lqj Û Lq0 ϑ Lq0 ϑ (LqNd c) rfl)),(by simp;exact Lqj Ğ Lq0 Lq1 υ ο (LqNp hx (câ)) rfl),Lqj Ğ Lq0 Lq1 lÀ Ϭ (LqNp l this) rfl,w x M q ->pŶ ->r v H Q,h1.push pϱ,Lqj Ğ Lq0 Lq1 kϝ (.a Lq2 ϑ) (LqNp this h) rfl,[fΙ,θ,Ξ,gķ,bϜ,"_law_at",dϪ],(T.ma i pϬ),Lqj Ğ Lq0 Lq1 lÀ kϢ gâ rfl,oš ==Value.builtin "object.__getattribute__",ib.imp ρ M1 σ H1 _ _ ω h1 λb M2 H2 h2 t2 m2=>k b M2 H2 h2 fĲ m2,(by exact pϜ),Lqi ř mô ν jÌ Lq3 this rfl,jû /\ jż /\ ∃vs,Ŝ /\ h.DictOf bÿ a vs,ώ ->bŀ ->(∀b M' H',q b M' ->ħ ->ű ->Q b H') ->bĒ,aj (by exact λe=>Lqf Û Ϯ π (LqIp l ŭ) rfl),codeAny Φ A pĿ R s,(.lst (pϑ++ [z])),(by exact Lqi [_] Ϣ Lq0 Ϣ Lq0 (LqIk s0 (Ne.symm h)) rfl),(by exact Lqi [_] Ϣ Lq0 Ϣ Lq0 kÀ rfl),wpAny_handleBy_cons (codeAny_handlers_test (DJ I5 hg O'.bound ?_ oy)) (by intro q;cases q),um nŠ x oο,(dz (h pos ai s σ H _ I hq) λus s1 ⟨xs,H1,I1,r,z,q⟩=>#[by rw[<- r.length];show z,?_]),(xs.drop (jĘ)).take pË,s.heap.push pϱ,I2.kept (t':=tk) λb o e=>hm b o oΡ bķ,(by change(oϭ:ĉ).Nodup;decide+kernel),a5 (by exact Lqj Ğ Lq0 Lq1 ς τ (LqNp cñ ((LqNz hj))) rfl),(by exact LqNx (mΨ) (Lqj Û Lq0 Lq1 Lq0 Lq1 (LqNz gu) rfl)),pQ (fŬ) (fŬ - (len - 1)).toNat++yN (cϗ) (0 - cϗ).toNat,(by exact qÁ),(eQ (n:=2) rfl (bv mΗ (bv mΘ dG))),(eQ (n:=2) rfl (bv mΘ (bv mΙ dG))),(eQ (n:=2) rfl (bv mΝ (bv mΤ dG))),(mH ĳ Ę Ě (aU T.stood (tM T) hr nϊ) rfl),(eQ (n:=2) rfl (bv mΤ (bv mΗ dG))),(eQ (n:=2) rfl (bv mΥ (bv mΝ dG))),findIn K Ń iī =pê,[iÃ,iÄ,(į,wi t.c),(bε,wi t.len),(aŤ,wi t.foot)],show((λt:dυ=>decide (t.1=c)) ∘ λt:fH=>eϐ)=jË from rfl,(by exact Lqi Û Lq0 jÍ ϥ eÛ fÃ rfl),({s with heap:=s.heap.push {cls:= eĂ,dict:=none,data:= .seq ([]:â).toArray}}:eY),Lqj Û (.a (.a ϒ (.n 50)) ñ) Lq1 mß Lq1 hu rfl,LqNx (Lqj [_] Lq0 ø Lq0 ø h rfl) (oψ),aH (wp_elem pϬ ?_),{s3 with heap:=s3.heap.push {cls:= .type "slice",data:= .fields (List.toArray [vl,vu, .none])}},(by simp![a7] <;>exact pΑ),w x ρ M q ->(∀ρ' M' σ' H',q ρ' M' ->ħ ->iį ->Q σ' H') ->t v σ H Q,Lqj Ğ ϒ Lq1 kϞ ο (LqNp cô this) rfl,g2 (gW b) ρ2 M' λρ3 M5=>c2 ρ3 M5 λb M6=>iK b (el ρ3 M6 λz M7=>N (aŅ) M7) (N none M6),aj (by exact λe=>Lqf [_] ϲ ϕ (LqIp hs ŭ) rfl),W.findIn K Ń iī =pê,um oé r oς,s.heap.push qÓ,callWith pos f first (backTo pos (kċ)) nŰ,wpAny_assign_Name (qh I5 hN hx hl (show RelV cĀ cĀ from rfl) (λs6 I6 NV=> ?_) hf),λy M2=>c ρ M2 λz M3=>c7 λkvs k=>dU (iϩ) bŋ (lÕ),propext #[oĆ,oĆ],bs.map (lð)++((t,alo,an)::sts.map λst=>nç),(λx=>match x with | .v (.int n)=>if bŢ=0 then none else some (cN (n,bŢ)) | _=>none),(λx=>match x with | .tup [eÂ, eÃ]=>some (.tup [wi (x+y),wi (s*n)]) | _=>none),(by exact Lqj Ğ ϒ ο ϒ ο (LqNp h1 n1) rfl),(X.env.scope.kind== .class || (X.env.scope.kind== .module && X.env.locals !=X.env.globals))=false,s1.heap.push {cls:= fú,data:= .fields (List.toArray [bü, cĝ, .int c RM])},(dϓ).keep UV (SR (dϓ).ins) λx hx gX=>gA.wg u e mΑ,Lqj Û μ Ο μ (.a eϵ eϵ) (LqNp ha hb) rfl,(λr s'=>r= .ok (.ret eĴ) /\ OldK s₁.heap s'.heap /\ s'.os=s₁.os /\ gŰ),ib.imp ρ M1 σ H1 _ _ ω h1 pĥ,λxs H Q=>(∃i,xs= [Ă] /\ Q bĕ H) \/ ∃k,xs= [.bl k] /\ Q (.int jč) H,h ϩ s.heap.objs.size (I.c9.fresh gŽ) (hΓ) (a_ aĭ),Lqj Ğ nń Lq2 nŅ Lq2 hu rfl,(Lqi ř mŗ (.a ς eç) ø ø LqI0 rfl),(B.ind qĂ),yk B.held qö,(hc (by exact Lqj Ğ ϒ Lq1 kϝ τ eã rfl)),s.heap.get? p.1=bč /\ H p.1=none /\ p.1≠X.env.locals /\ p.1∉X.fs /\ ∀v,p.2.data≠ .cell v,#[jÿ,jÿ,I.base.free,gŮ,I.base.nW,I.base.l8,I.base.oN],dJ (Call_ (iz I hg hm boot_range (bV (dz (ha xE ai s σ H _ I h) ?_) (by rw[hs,lq]) (by rw[lq];rfl)))),(λ_ _ _ _=>(a9 (i:=0) (by change(jŚ:ĉ).Nodup;decide+kernel) rfl Ζ)),λp ns hp h1 h2=>k _ _ _ _ (h p ns eŏ h1 h2) Ϧ (m.om hp (cW.ofInts ns)) WR.v,(show p≠0 by exact λe=>Lqf [_] ϲ ϕ (LqIp hp ŭ) rfl),(qü).objs.size,g (fW a) gô M pϝ,(show p≠0 by exact qÂ),⟨Lqi [_] δ Ņ Lq0 Ĕ a8.2 rfl,Lqi [_] Ņ Ĕ δ Lq0 a8.1 rfl⟩,(by exact Lqj Û ñ Lq0 lχ μ (LqNp hq Ϡ) rfl),jû /\ jż /\∃xs,dĩ /\ h.DictOfH (iý) a xs,g (fW a) gô M λρ2 M2=>c ρ2 M2 λb M3=>iK b (zP ρ2 M3 λyB gQ M4=>B ρ2 yB gQ M4) (N0 M3),∀o ks,q nŔ mϭ (um M1 d (eŋ)),(gv ĕ qą),(by exact Lqj ř Lq0 Lq1 nÃ jŹ (LqNp x2 y1) rfl),Lqj ř ϒ ο kϜ jţ eÙ rfl,(dz kϱ (by rintro us s1 ⟨vs,H1,I1,r1,q1⟩;exact hc ai s1 σ H1 vs us Q I1 r1 q1)),(by exact Lqi Û ø Lq0 gϒ μ oì rfl),bi (by exact Lqj Ğ ϒ Lq1 kϞ ο (LqNp câ hj) rfl),(by exact Lqi ř Lq0 Lq1 (.a Lq0 jÎ) (.a jÎ Lq1) (LqIp U6 h1) rfl),(by exact Lqi Ğ mŭ mŭ ø ø LqI0 rfl),(by exact Lqi Ğ mŭ mŮ ø ø LqI0 rfl),(qę).objs.size,iϔ /\ (∀x,bŌ=û ->q x M3) /\ (bŌ=none ->q z mç),(by exact LqNx (Lqj Û Lq0 Lq1 ϒ ϑ hj rfl) ná),(by exact Lqi ř mö mø gő Lq2 q rfl),Lqi ř Lq0 jÌ ϗ (.a Lq3 (.s jÌ Lq3)) (LqIp l0 U6) rfl,#[m,hi, (by exact Lqj Û ϱ Lq1 ϱ Lq1 (LqNk hj c) rfl)],(hc (by exact Lqj Û ñ Lq0 lχ μ (LqNp k1 Ϡ) rfl)),(by exact Lqj Ğ (.a ϗ ñ) Lq1 kϞ ο (LqNp ia hk) rfl),if mż=true then kvs.map nτ else kvs++ [(k,v)],(qģ).objs.size,a ρ M λxs M1=>gL λ dſ=>dU (xs= [wi i,wi j,wi c]) (Cz i j c) (q (qH i c (Ln i j c)) dŘ M1),[(Ϗ,wr l),(ϐ,wr q),iŸ,jâ,(fΜ,e)].lookup,(by exact Lqi ř mŗ mŗ ø ø LqI0 rfl),(by exact Lqi ř mŗ mş ø ø LqI0 rfl),Q (.int aϕ s.toks) kű ->pį,(∀ (p:fR) (ns:ā),ň ->ns.Perm ks ->kĕ ->q Đ (um M p (.lst dœ))),LqIx (Lqi [_] ϕ Lq0 ø ø LqI0 rfl) (Lqi [_] Lq0 ϕ ø ø LqI0 rfl),LqIx oϵ o϶,⟨oħ,Lqi [_] Ϣ Lq0 Ϣ Lq0 hp rfl⟩,λc gU=>gU=bN /\ c7 λlo hi=>gy hÛ (hi<=n) (∀i,i<hi ->b϶) mű,bi (by simp;exact Lqj Ğ ϒ Lq1 kϞ ο (LqNp câ hi) rfl),(show 0<=2*K by have:=h.k0;exact pϨ),(by exact LqNx (Lqj [_] Lq0 ø Lq0 ø (LqNz ck) rfl) (oψ)),λfU C=>compPost ϣ X.A X.xe (mϜ) (lŢ) fU C,zQ (t:=mϛ) S I3 lr pG B6 (λb hb=>by rw[RN];show lΤ) To old,(∀r:Rd,cό ->(a.1=0 ->cώ<=cΡ) ->(a϶ ->cώ<=iϵ) ->q (gz r) M),(pĭ) \/ ∃n∈ns.take b, ∃w∈hū,z=h+n*w,(∀ (p:fR) (ns:ā),ņ ->ns.Perm ks ->kĕ ->Q ń (cR H p (.lst gÒ))),{nx:=λσ H=>D.nx gΓ H,rt:=D.rt,bk:=λσ H=>D.bk gΓ H,ct:=λσ H=>D.ct gΓ H},#[sm _ _ i2.wG,λt ht=>jÑ fπ iÇ kÍ,i2.nd,i2.qd,i2.wg],(aU T.first_column (iX T) hr (ae (dc (jM rfl) Ŏ T.h_ Boot.«list» kϔ) gĸ)),(show _<=iá by exact Lqi Ğ mö jÍ ø Lq2 l0 rfl),∀v u s2 x y H2,Inv X ai σ H2 s2 ->bĔ ->Ł ->R x y H2 ->wpAny ϣ X.A (f v u) Q X.xe s2,λc r=>if r=true then do let ok <- isTrue c env (eval c env);lģ else lÊ,∀ {H':Hp},jτ -> ∀b∈fp,li ϸ [] H' b,a ρ hϔ λx M1=>b ρ M1 λy M2=>M2 p=some bĲ /\ ∃k,x=gl k /\ q Đ (um M2 p (.dK [(k,y)])),Lqj ř ϒ Lq1 (.a Lq2 kϜ) (.a Lq1 eï) (LqNp hz (LqNp hyl gu)) rfl,(um (um (um (um M' e1 (.dK (fP st))) q1 bĲ) q2 (.dK [(aψ,W.v (V.int 1))])) q1 (.dK [(.inl Ĭ,wr q2)])),(by exact Lqi Ğ μ mŭ ϥ ς gŅ rfl),(by exact Lqi Ğ μ mŮ ϥ ς gŅ rfl),(by exact Lqj ř ϫ Lq2 mϹ ξ fÞ rfl),wpAny_comprehension_free (use:=none) rfl hs uh S.kind S.loc pČ,Lqi Ŷ oŨ nŽ ø Lq4 l0 rfl,Calls.Name_function_global I.ok.kind hg (Calls.loadGlobal_global oŅ hm h) hd,⟨oϷ,Lqi Û ϒ Lq1 ϒ Lq1 ú rfl⟩,⟨oÌ,Lqi Û ϒ ϑ ϒ Lq1 ú rfl⟩,⟨oÌ,Lqi Û ϒ gſ ϒ Lq1 ú rfl⟩,fin _ _ _ (dy _ (by exact λe=>Lqf [_] ϲ ϕ (LqIp n0 ŭ) rfl)) (cV _ n0),(by exact qŊ),(by exact Lqi ř μ mŗ ϥ ξ gŅ rfl),(by exact Lqi ř μ mş ϥ ξ gŅ rfl),{s with heap:=qę,toks:=tk},ak (ak (bK h₃ (λx s₄ h₄=>ak (bK h₄ (λ_ s₅ h₅=>aN (aN #[rfl,h₅])) hΦ)) hΦ)),λe=>Lqf Ğ oŐ jϖ (LqIp l kġ) rfl,LqNx (Lqj Û Lq0 ϑ Lq0 ϑ h rfl) (Lqj Û ϒ Lq1 ϒ Lq1 h' rfl),(by have:=fo ga eψ;exact qÝ),{cls:= hϚ,data:= .fields (List.toArray [.none, .bool false, jψ,rawInt 0, .none, .none])},aH (wp_mR O L (l2:= []) B4 p4 e5 (by exact Lqj Û Lq0 Lq1 ϒ Lq1 (LqNw c1) rfl) R4 kū),(by exact Lqj Û nώ Lq1 nώ Lq1 (LqNk hi c) rfl),ϻ,(by exact Lqj Ğ ϒ Lq1 (.a kϟ ø) ο (LqNp hu Ϡ) rfl),bxr.2 z x (by have:=fo no.ga hx;exact qÝ),⟨pù,Lqi [_] ϒ ϒ ø ø LqI0 rfl⟩,[(Ϗ,wr ol),(ϐ,wr op),(gĹ,wi f),(hÌ,aŨ),(fΜ,bÃ)].lookup,((nϏ) \/ pϭ),((nϏ) \/ pϮ),#[ok.mod,ok.kind,ok.glob,ok.blt,ok.above,ok.inj,ok.has,ok.Vj,ok.hd,ok.frames,ok.RQ,ok.exf,ok.bs,ok.KL,ok.Fu,ok.Ce,ok.oz,ok.LQ],LqIx pĲ pĳ,LqIx (Lqi Û jϴ Lq0 ø ø LqI0 rfl) (Lqi Û Lq0 jϴ ø ø LqI0 rfl),Lqi Ğ mô μ eĥ ϥ (LqIp (LqIe ü) ((LqIe ü))) rfl,M3 t'.o=some (.ins S t'.ds [(ĭ,wr t'.ol),(Į,wr t'.op),(į,wi t'.c),(bε,wi t'.len),(aŤ,wi t'.foot)]),Lqj Ŷ μ Lq2 (.a χ μ) jŸ (LqNp hz (LqNp câ ((LqNd Tx)))) rfl,Lqi Ι (.a mŗ cϥ) eϓ nż Lq5 this rfl,big (by exact Lqj Ğ Lq0 Ο kÏ (.a Ĕ τ) (LqNp hp8 (LqNp (LqNe hLl) hL8)) rfl),forIn iL true qŧ,forIn fX true qŧ,#[hn b hb,?_,?_, .inl hb,oġ,pĺ],ig.imp x v _ M' _ H2 _ _ oc r (hs i x ys M' hx hI) λρ3 M3 σ3 H3 h3 t3 o3=>ic.imp ρ3 M3 σ3 H3 _ _ o3 h3 λb M4 H4 h4 t4 m4=> ?_,(by exact Lqi ř mö jÍ (.a ø gő) eï fÈ rfl),Lqj Û ϱ kô lψ eÛ lω rfl,aR #[rfl,_,_,rfl,by exact pĀ,by omega,by omega,g4,λj hj hjn=>DL _ j hj hjn e],dz (T.item ϸ rfl rfl rfl jF i [] s4 _ H4 ό I4 (sW Ou) gM go) ?_,(by exact Lqi ř Lq0 (.s jÊ Lq2) (.a ø eï) (.a Lq3 π) (LqIp w0 (LqIp JV this)) rfl),LqIx (Lqi [_] ø lä ø ø LqI0 rfl) (Lqi [_] lä ø ø ø LqI0 rfl),dz (T.done ϸ rfl rfl rfl jF i [] s4 _ H4 ό I4 (sW Ou) gM stop) ?_,(cĉ).filterMap qğ=(aϬ).map cN,LqIx (Lqi Û hϣ Β ø ø LqI0 rfl) (Lqi Û Β hϣ ø ø LqI0 rfl),dÌ /\ ∃pl,kg (bú) gŠ (Sg less cř lo ó) lČ (Runs less cř pl 0 lo),cP Ϻ Ϻ,[dĆ,"zip","dict_itemiterator","dict_reverseitemiterator","odict_iterator","itertools.zip_longest","itertools.pairwise"].contains n,(by exact Lqj Ğ cő (.a ο cő) ϥ ο nϺ rfl),(by exact Lqi Ŷ mö χ (.a jÍ ø) (.a χ Lq2) (LqIp Td l0) rfl),λi c gU=>gU=bN /\ c7 λlo hi=>nD hÛ (lo<=hi) (hi<=n) (hi - lo<=n - i) (∀i,i<lo ->b϶) mű,wpAny_pyNext_range_end eĘ st (by have:n<=i:=hg;lia) pϡ,Lqj Ğ (.a (.a (.a ϒ (.m 3 Lq1)) aį) ñ) Lq2 (.a (.a (.a Lq0 (.m 3 ϑ)) aį) ñ) Lq2 this rfl,(names.map λ(n,k)=>if(hĈ && lş && lÉ) then(n,NameKind.cell) else(n,k)).lookup x,am (by exact LqIx (Lqi Ğ Lq0 eŧ ς Lq1 bĜ rfl) (Lqi Ğ Β Lq2 Lq0 τ Ő rfl)),∀ (i:Nat) a zs,ws[i]? =Ċ ->hķ -> ∃AC:ā,AC.Perm (fg (pf P a)) /\ zs=AC.map λsh=>nK (a,sh,look (pf P a) sh*n % p),w' {nx:=λ_ M'=> ∃M0,bŔ /\ q wn M0,rt:=λx M'=> ∃M0,bŔ /\ q x M0} (pæ) M,(by exact Lqi Ğ Lq0 mŭ mņ kÂ lπ rfl),λρ M σ H q Q o h k=>ia.imp ρ M σ H _ _ o h (by rintro x M1 v H1 ⟨b,e,h1⟩ t1 m1 r1;exact by subst e;show#[b,r1.eq,iİ]),aX (vm (by exact Lqj Ğ Lq0 Ο nß mΜ (LqNp abT (LqNp hl Oc)) rfl)),∀b∈ch,nξ /\ hì /\ pω,(by exact Lqi ř Lq0 mŗ mņ jŶ lπ rfl),(by exact Lqj Ğ Lq0 bϧ nö (.a Ĕ Ϭ) (LqNp hp8 (LqNp Oc ((LqNe l2)))) rfl),a ρ M λx M1=>d ρ M1 λy M2=>c7 λ(l:fR) dŞ=>gy (x=wr l) (M2 l=kξ) (aŜ ->q y M2) (∀m,ja ns m ->q (wi m) M2),(show la<=iá by exact qŊ),∀j (g1:j<its.toArray.size) (g2:j<its'.toArray.size),SeqAt.EqAt A.in1 s its.toArray[j] its'.toArray[j] ((nų) j),#[p,r1.eq, .inl #[ks, .inl hk],ib.imp ρ M1 σ H1 _ _ ω h1 λy M2 u H2 h2 t2 m2 r2=>ic.imp ρ M2 σ H2 _ _ kθ h2 ?_],(by exact Lqi Ι oŨ oũ gϮ Lq4 q rfl),(by exact Lqi Ι Lq0 Lq1 (.a Lq0 nž) (.a nž Lq1) (LqIp hlp h2) rfl),∀m bN,fß ->1<=m ->m<=d8 ->Sg less ũ lo (lo+m) ->lĆ ->nĞ ->Q (some m) bN,∀v h' tk,lç ->pŢ ->R (.ok (.ret v)) lœ,⟨Lqi Ğ Ņ Lq1 hϮ μ (LqIp hl ü) rfl,Lqi Ğ Lq0 Lq1 υ ο (LqIp hh ú) rfl⟩,Lqi Ι Lq0 nε ϗ (.a Lq5 oŬ) (LqIp l0 hlp) rfl,#[aĵ,"dict.items",PySem.F.plainAttrs_dict,PySem.F.slot_dict_items,PySem.F.type_dict_items,t1,t2,Calls.callWith_builtin rfl (PySem.evalArgs_none ?_)],(dS.of (sc:=bg si) (N:= pθ) (own:= [į]) (fr:= [0,3]) (N':= jŚ)),(by exact LqNx (Lqj Ğ Lq0 ο ϒ Ϭ hj rfl) (Lqj Ğ μ Lq2 μ Lq2 (LqNz c) rfl)),call_meetsIn PySem.F.slot_dict_items dd.typeIs PySem.F.entry_dict_items (PySem.F.args_dict_items_1 _) (meets_dict_items gŹ d JQ) #[#[vs,dd],?_],(by exact Lqi Ğ ø jÍ (.a ø (.a ø gϣ)) (.a Lq1 jϖ) (LqIp k0 (LqIp k0 fÇ)) rfl),(qŠ) \/ ∃w∈kì c,z=h+e*w,aR #[rfl,_,_,rfl,by omega,g2,by omega,λj hj=>mono j _ (by exact Lqj Ğ Lq0 ο ϒ kϡ hj rfl) Ū e,g5],∀ (l q:fR) (f g e:W),qő Ϗ=some (wr l),∀ (l q:fR) (f g e:W),qő ϐ=some (wr q),jK qğ (by rw[aa];show big QJ) (λM3 s3=>s3 _ _ av) ?_ λt ht0=> ?_,cP Ϻ (by exact pϫ),xS (t':=tk+1) I (λb o hb wj q=>hϛ (hk b o hb wj q)) fe fj #[by rw[cY];change 2<=bĝ;decide,[.int i tk,u], .cons Ļ gγ,?_],codeAny dą callerA mϚ qĦ s₁,hN _ _ #[_,_,_,rfl,rfl,xP hn,aI tZ (by exact Lqj Û ϒ ϑ Lq0 Lq1 hl rfl),Ĺ,λk hk=>(zD hk).elim (λe=>#[z,az hz,e.symm]) (ij k)],LqIx (Lqi Ğ jϕ jů ø ø LqI0 rfl) (Lqi Ğ jů jϕ ø ø LqI0 rfl),LqIx p϶ pϷ,LqIx (Lqi Ğ jϤ kÃ ø ø LqI0 rfl) (Lqi Ğ jϣ (.s Lq0 τ) ø ø LqI0 rfl),(by exact Lqi ř mŗ Γ (.a (.a Lq0 (.m 14 ξ)) Lq1) (.a Γ (.m 13 ξ)) (LqIp aeH Ni.2) rfl),LqNx (Lqj Ğ Lq0 Lq1 ς τ (LqNp (LqNd hx) (dĶ)) rfl) (Lqj Ğ Lq0 Lq1 υ ο (LqNp (LqNe hx) (dķ)) rfl),#[d,fP m,Α,rfl,av,zI m,(by rw[aa];show big (by exact qÅ)),λsp ns xW dI i_=> ?_],um qū x oυ,(by exact Lqi Ι oŨ nŽ (.a ø gϮ) (.a Lq5 Lq4) fÈ rfl),(λn s'=>gL λi ys H'=>gy (Inv ϸ [] jΡ H' s') fϸ jτ (W i n ys H')),a6 (show hő <=6 by lia) (show 0<=7748+s by exact Lqi Û ø (.a (.n 7748) Lq0) gϒ μ oì rfl),(by exact LqNx (pϜ) (Lqj Ğ Lq0 Lq1 υ ο (LqNp câ ((LqNd h))) rfl)),λy M2=>c ρ M2 λz M3=> ∃kvs k,iϩ /\ ań /\ qŇ,(by exact Lqi Ğ ø mŭ oĎ (.a Lq0 kÂ) (LqIp e0 lπ) rfl),wpAny ϣ X.A (eē) (λv s₁=>wpAny ϣ X.A (eĔ) (λu s₂=>wpAny ϣ X.A (f v u) Q X.xe s₂) X.xe s₁) X.xe s,(by exact Lqi ř Lq0 nŽ oĎ (.a Lq3 jţ) nô rfl),(by exact Lqi ř ø mŗ oĎ mŔ (LqIp e0 (LqIp ep0 hũ)) rfl),Sm M' (qϯ),(by exact Lqi ϖ oŨ eè (.a nŽ ø) jų (LqIp afb l0) rfl),#[I.ok,I.os,I.bare,#[I.base.keep,I.base.slot,λb u h1 h2 h3=> ?_,I.base.there,λb xs h=> ?_,λb o' u h=> ?_,λb ps h=> ?_],I.loc,I.cell,?_,λx c h=> ?_,dî,λb u h=> ?_,I.len],gL λCr dr yG=>nD (M r=jŒ) (yH K Cr=True) (dC K Cr ĭ =True) (dC K Cr Į =True) (yG.lookup Ϗ=eϯ) (yG.lookup ϐ=some (wr rp)),show x+ -sh*s=bπ by rw[Int.neg_mul,bY s sh];exact qΚ,#[λi m vs H'=>gΖ /\ eŚ /\ c7 λys M'=>kg (I i ys M') (br H1 H') (ű) (cW K H' ys vs) (H' p=gï),#[_,rfl,dm _,[],_,h0,tp,m1.om hp cW.nil,cW.nil,ce],?_],(qĜ)=(λy M2=>c ρ M2 λz M3=> ∃k,ań /\ ∃kvs,iϩ /\ lÕ),(show lp<=mϴ by exact qϚ),LqIx qī qī,LqIx (Lqi ř (.a Β eŹ) (.s ς eç) ø ø LqI0 rfl) (Lqi ř (.s μ ξ) (.a eŷ eΞ) ø ø LqI0 rfl),(∃m',m'<n /\ W ß m' Rm H9) ->∃m,m<n /\ gL λi ys H'=>gy (Inv ϸ [] jΡ H' s9) (tn i s9.heap) jτ (dĻ),ak (dz (wpAny_comprehension_free (use:=mϜ) (Q:=lŢ) rfl hs uh S.kind S.loc pČ) λ_ s' hq=>aN (aN hq)),cZ p (qϯ) e1 q1 st kř,aH (wpS_modify (aR #[lo+n,pl++ [bù],rfl, qġ,n2,#[B3.perm,B3.kd,B3.fl],?_,Runs.app.mpr #[lo,R3,rfl,n1,s3,rfl]])),∀ (ai:ψ) (s:eY) (σ:St) (H:Hp) (x:V) (xs:Ä) (v:eX) (us:â) (Q:VK),Ϙ ->bĔ ->bý ->r x xs H Q ->wpAny ϣ X.A (call fę (v::us)) Ω X.xe s,ak (wpAny_callSpecial?_slot (name:=Str.ofString "__next__") hj.typeIs F.slot_tuple_iterator_next (wpAny_call_entry F.slot_tuple_iterator_next hj.typeIs F.entry_tuple_iterator_next ?_ (F.args_tuple_iterator_next_1 _))),(by exact Lqi Ι Lq0 oŬ (.a ø (.a ø (.a ø eϓ))) (.a Lq4 (.a Lq2 (.a Lq3 eð))) (LqIp k0 (LqIp w0 (LqIp hE0 (LqIp afc this)))) rfl),(qü).push qž,um qū x oυ x=some oυ,∃I:jĦ,gy (I 0 ρ M1) (oĂ) (∀i x ρ M,Χ ->bő ->g x ρ M λρ2 M2=>b {D with nx:=I ß,ct:=I ß,bk:=D.nx} ρ2 M2) (nň),(λok s₃=>if aϟ then wpAny Φ A (dĺ) (λx s₄=>wpAny Φ A (call lË [fU,x]) (λ_ s₅=> ∃m,m<n /\ I m s₅) ό s₄) ό s₃ else jĞ),∀ (s3:eY) (H3:Hp),Inv X ai σ H3 s3 ->(∀b∈fp,li X ai H3 b) -> ∀ (D:fR) (σ':St) (H':Hp) (s':eY) (t:Nat),D<s3.heap.objs.size ->Inv lΡ [] σ' H' s' ->Q bĶ H' ->RR bĶ s3.heap.objs.size dĹ s',(hs bé (base+j) pž (by exact Lqj Ğ μ ς Lq1 Lq2 iE rfl) (by exact Lqj Ğ ϫ ς ϑ Lq2 hj rfl)),(fV bO rfl (eD ĕ) qą (aS (mH ĳ Ę ę (bW iw (bW fi (oW ĳ Ę ę aL mŨ) Ě) ė) rfl))),#[by rw[aE Qo,aû,aE Nv,aû];show av,by rw[aE Lq];show av,(λt ht=>by rw[bϔ,aE Xf,cϷ];show av),QX,(λt ht=>by rw[bϔ];show#[by simp,λz hz=>by rw[ag.mp hz];show#[⋯,by change aϚ <p;lia]]),by simp,by simp[bX,vV,Nv,Jb]],⟨Lqi Ŷ Ņ Lq1 (.a ξ (.a bΑ (.g Lq3))) (.a Lq0 (.a (.s Lq1 Lq4) Lq4)) (LqIp Tx hł) rfl,Lqi Ŷ Lq0 Lq1 (.a ξ (.a eώ Lq4)) jŨ (LqIp hh2 hŃ) rfl⟩,#[lo+n,(l1++ [(u1,u2,power' a₀.size (2*s1+SU) (2*s1+SU+SU+n) a₀.size)])++ [bù],rfl, qġ,n2,#[B4.perm,B4.kd,B4.fl],?_,Runs.app.mpr #[lo,zg R4,rfl,n1,s4,rfl]],ip (λi ρ M'=>gL λ eϰ (m:Pt)=>nD (ρ= [ζ,dϻ,dũ,o1,o2]) (M'=um M d (.dK aŏ)) (jĨ) (m.length<=i) (∀x,Œ=dh (ps.take i) x % p) (∀k∈Α, ∃q∈ps,aÚ)) #[none,none,[],rfl,rfl,List.nodup_nil,Á,λx=>by simp[look,dh],by simp] ?_ ?_ ?_,(Bl (cg mĊ Ŏ T.gq Boot.«isinstance» (ae ę (ae (g_ Ŏ T.nM (show RelV dϧ _ from rfl)) ax))) (tH (cg mĊ Ŏ T.gq Boot.«isinstance» (ae ę (ae (DE Ŏ T.p6 Boot.«ValueError» (show RelV (.ty eŅ) _ from rfl)) ax))))),aH (wpS_mono (cX (I:=λ_ c gM=>qΜ) (Q:=λc gM=>qΜ) ?_ (λc gM h=>h) #[rfl,pl,c6,B3,s3,p3,R3]) ?_),ϧ /\ ∀p,ţ -> ∃I:kĚ,gy mè qÈ (∀i x ys M,Χ ->bœ ->g x gô M λρ2 M2=>c ρ2 M2 λb M3=>if ò then el ρ2 M3 λy M4=>iϪ /\ I ß cΚ lΩ else fĿ) nϙ,#[_,(aG (gr (dF zv Ę aL Ė) (aS (bZ (aU T.repeated oG hr (ae ė (ae (aU T.backward (qR T) hr lθ) kŝ))))) eU) (aG qĽ (aG (gr (dF lS ę aL Ė) (aS (bZ (di (ae aL (ae (aU T.timed (tL T) hr (ae ė (ae Ě gŀ))) ax))))) eU) (aG (qQ (i:=5) (n1:=2) rfl nd rfl (Or.inl rfl) (dS.of (sc:=bg jr) (N:= nϱ) (own:= [Ĳ,ť,"k"]) (fr:= [3,2]) (N':= nø)) (lO Ě) (λ_ _ _ _=>(eQ (n:=2) rfl (bv (a9 (i:=0) pϋ rfl Ζ) (bv (a9 (i:=1) pϋ rfl Ζ) dG)))) ⋯ (DX kŕ kŕ) ϛ (λ_ _ _ _=>(jj Ŏ T.jg gł)) (λ_ _ _ _=>(a9 (i:=2) pϋ rfl Ζ)) nĳ ϛ (λ_ _ _ _=>(di (ae (bW fi ė kê) gĸ))) rfl) (aS (bZ (di (ae kê (ae (aU T.tidy aχ hr (ae ė gĺ)) ax))))))))),?_])
inductive Lqx|v (i:Nat)|n (k:Nat)|a (x y:Lqx)|s (x y:Lqx)|m (k:Nat)(x:Lqx)|g (x:Lqx)
def Lqat:Ĵ→Nat→Int|[],_=>0|x::_,0=>x|_::l,i+1=>Lqat l i
def Lqx.I (c:Ĵ):Lqx→Int|v i=>Lqat c i|n k=>dÃ|aÀ=>x.I c+y.I c|s x y=>x.I c-y.I c|m k x=>dÃ*x.I c|g x=> -x.I c
def Lqbt:bä→Nat→Nat|[],_=>0|x::_,0=>x|_::l,i+1=>Lqbt l i
def Lqx.N (c:bä):Lqx→Nat|v i=>Lqbt c i|n k=>k|aÀ=>x.N c+y.N c|m k x=>k*x.N c|s _ _=>0|g _=>0
def Lqx.ok:Lqx→Bool|v _=>true|n _=>true|aÀ=>x.ok&&y.ok|m _ x=>x.ok|s _ _=>false|g _=>false
def Lqd:Ĵ→Ĵ→Int|Ö,Ø=>p*x+Lqd ps xs|_,_=>0
def Lqa:Ĵ→Ĵ→Ĵ|Ö,q::qs=>(p+q)::Lqa ps qs|[],q=>q|p,[]=>p
def Lqu:Nat→Ĵ|0=>[1]|i+1=>0::Lqu i
def Lqx.p:Lqx→Ĵ×Int|v i=>(Lqu i,0)|n k=>([],dÃ)|aÀ=>(Lqa x.p.1 y.p.1,x.p.2+y.p.2)|s x y=>(Lqa x.p.1 (y.p.1.map (-1*·)),x.p.2-y.p.2)|m k x=>(x.p.1.map (dÃ*·),dÃ*x.p.2)|g x=>(x.p.1.map (-1*·),-x.p.2)
theorem Lqda:∀(p q c:Ĵ),Lqd (Lqa p q) c=Lqd p c+Lqd q c
 |[],q,c=>by simp[Lqa,Lqd]
 |Ö,[],c=>by simp[Lqa,Lqd]
 |Ö,q::qs,[]=>by simp[Lqa,Lqd]
 |Ö,q::qs,x::c=>by
  have:=Lqda ps qs c
  simp only[Lqa,Lqd,this,Int.add_mul];omega
theorem Lqdm (k:Int):∀(p c:Ĵ),Lqd (p.map (k*·)) c=k*Lqd p c
 |[],c=>by simp[Lqd]
 |Ö,[]=>by simp[Lqd]
 |Ö,x::c=>by
  have:=Lqdm k ps c
  simp only[List.map,Lqd,this,Int.mul_add,Int.mul_assoc]
theorem Lqdu:∀(i:Nat)(c:Ĵ),Lqd (Lqu i) c=Lqat c i
 |0,[]=>rfl
 |0,x::c=>by cases c<;>simp[Lqu,Lqd,Lqat]
 |i+1,[]=>rfl
 |i+1,x::c=>by
  have:=Lqdu i c
  simp[Lqu,Lqd,Lqat,this]
theorem Lqx.sound (c:Ĵ):∀e:Lqx,e.I c=Lqd e.p.1 c+e.p.2
 |v i=>by simp[I,p,Lqdu]
 |n k=>by simp[I,p,Lqd]
 |aÀ=>by simp only[I,p,Lqda,bϬ,sound c y];omega
 |s x y=>by simp only[I,p,Lqda,Lqdm,bϬ,sound c y];omega
 |m k x=>by simp only[I,p,Lqdm,bϬ,Int.mul_add]
 |g x=>by simp only[I,p,Lqdm,bϬ];omega
theorem Lqdz:∀(p c:Ĵ),p.all (·==0)=true→Lqd p c=0
 |[],c,_=>by simp[Lqd]
 |Ö,[],_=>by simp[Lqd]
 |Ö,x::c,h=>by
  simp only[List.all_cons,Bool.and_eq_true,beq_iff_eq] at h
  simp[Lqd,h.1,Lqdz ps c h.2]
def Lqx.z (e:Lqx):Bool:=e.p.1.all (·==0)&&decide (0≤e.p.2)
theorem Lqx.nn {e:Lqx}(h:e.z=true)(c:Ĵ):0≤e.I c:=by
 simp only[z,Bool.and_eq_true,decide_eq_true_eq] at h
 rw[sound,Lqdz _ c h.1];omega
theorem Lqi (c:Ĵ)(a b l r:Lqx)(h:fÛ)(k:jŠ=true):a.I c≤b.I c:=by
 have:=Lqx.nn k c
 simp only[Lqx.I] at this;omega
theorem Lqf (c:Ĵ)(l r:Lqx)(h:fÛ)(k:jí=true):False:=by
 have:0≤l.I c-r.I c-1:=Lqx.nn k c
 omega
def Lqp:bä→Ĵ:=List.map Int.ofNat
theorem Lqbu:∀(c:bä)(i:Nat),Lqat aΒ i=Int.ofNat (Lqbt c i)
 |[],_=>rfl
 |x::c,0=>rfl
 |x::c,i+1=>Lqbu c i
theorem Lqx.up (c:bä):∀e:Lqx,e.ok=true→e.I aΒ=Int.ofNat (e.N c)
 |v i,_=>Lqbu c i
 |n k,_=>rfl
 |aÀ,h=>by
  simp only[ok,Bool.and_eq_true] at h
  simp only[I,N,up c x h.1,up c y h.2];rfl
 |m k x,h=>by
  simp only[I,N,up c x h];rfl
theorem Lqj (c:bä)(a b l r:Lqx)(h:fÜ)(k:(jŠ&&(a.ok&&b.ok&&eÑ))=true):a.N c≤b.N c:=by
 simp only[Bool.and_eq_true] at k
 have:=Lqi aΒ a b l r (by rw[Lqx.up c l k.2.2.1,Lqx.up c r k.2.2.2];exact iæ) k.1
 rw[Lqx.up c a k.2.1.1,Lqx.up c b k.2.1.2] at this
 exact Int.ofNat_le.mp this
theorem Lqg (c:bä)(l r:Lqx)(h:fÜ)(k:(jí&&eÑ)=true):False:=by
 simp only[Bool.and_eq_true] at k
 exact Lqf aΒ l r (by rw[Lqx.up c l k.2.1,Lqx.up c r k.2.2];exact iæ) k.1
section
variable {a b c d:Int}
theorem LqI0:ĝ≤0:=Int.le_refl 0
theorem LqIk (h:Ù)(h':a≠b):a<b:=by omega
theorem LqIq (h:a<b):aΓ:=h
theorem LqIl (h:aΓ):a<b:=h
theorem LqIw (h:¬Ù):aΔ:=Int.not_le.mp h
theorem LqIz (h:¬a<b):aÁ:=Int.not_lt.mp h
theorem LqIe (h:a=b):Ù:=Int.le_of_eq h
theorem LqId (h:a=b):aÁ:=Int.le_of_eq h.symm
theorem LqIp (h:Ù)(h':c≤d):a+c≤b+d:=Int.add_le_add h h'
theorem LqIx (h:Ù)(h':aÁ):a=b:=Int.le_antisymm h h'
theorem LqIn (h:aΔ):¬Ù:=Int.not_le.mpr h
theorem LqIm (h:aÁ):¬a<b:=Int.not_lt.mpr h
universe e
section
variable {a b c d:Nat}
theorem LqN0:(0:Nat)≤0:=Nat.le_refl 0
theorem LqNk (h:Ù)(h':a≠b):a<b:=by omega
theorem LqNq (h:a<b):aΓ:=h
theorem LqNl (h:aΓ):a<b:=h
theorem LqNw (h:¬Ù):aΔ:=Nat.not_le.mp h
theorem LqNz (h:¬a<b):aÁ:=Nat.not_lt.mp h
theorem LqNe (h:a=b):Ù:=fώ
theorem LqNd (h:a=b):aÁ:=Nat.le_of_eq h.symm
theorem LqNp (h:Ù)(h':c≤d):a+c≤b+d:=Nat.add_le_add h h'
theorem LqNx (h:Ù)(h':aÁ):a=b:=Nat.le_antisymm h h'
theorem LqNn (h:aΔ):¬Ù:=Nat.not_le.mpr h
theorem LqNm (h:aÁ):¬a<b:=Nat.not_lt.mpr h
universe e
abbrev Lq0:=Lqx.v 0
abbrev Lq1:=Lqx.v 1
abbrev Lq2:=Lqx.v 2
abbrev Lq3:=Lqx.v 3
abbrev Lq4:=Lqx.v 4
abbrev Lq5:=Lqx.v 5
abbrev Lq6:=Lqx.v 6
abbrev Lq7:=Lqx.v 7
abbrev Lq8:=Lqx.v 8
abbrev Lq9:=Lqx.v 9
namespace TS
open PySem PyProof.Rows
def LE (less:Τ)(x y:hU):Prop:=fϏ
structure Ord (less:jî):Prop where
 Y5: ∀x y,fÝ ->fϏ
 trans: ∀x y z,dÄ ->LE less y z ->LE less x z
def Ord.refl (O:ĵ)(x:hU):LE less x x:=by
 unfold LE;cases h:less x x with
 | false=>rfl
 | true=>show(O.Y5 x x h).symm.trans h▸rfl
theorem Ord.le (O:ĵ)(h:fÝ):dÄ:=O.Y5 x y h
def Ord.Xn (O:ĵ)(h:dÄ)(h':less y z=true):less x z=true:=by
 cases e:less x z with
 | true=>rfl
 | false=>have:=O.trans z x y e h;unfold LE at this;rw[h'] at this;cases this
def c8 (xs:Ú)(i:Nat):hU:=(aý).getD fϐ
def KQ (h:bϭ):aý =some bϮ:=by unfold c8;rw[iς];rfl
def kO (h:aý =ys[j]?):aΕ=c8 ys j:=by unfold c8;rw[h]
def yq (h:bϭ):aΕ∈xs.toList:=by unfold c8;rw[iς];simp
def Sg (less:Τ)(xs:Ú)(lo hi:Nat):Prop:= ∀i j,aÂ ->i<=j ->j<hi ->lυ
def Ng (less:Τ)(xs:Ú)(lo hi:Nat):Prop:= ∀i j,aÂ ->i<=j ->j<hi ->LE less (c8 xs j) bϮ
structure SB (kd:SortKind)(a₀:dÅ)(st:SortSt):Prop where
 perm:(bå).Perm a₀
 kd:eÒ
 fl:dÆ=none
theorem SB.size {kd:SortKind}{st:jf}(h:Θ):(bå).size=a₀.size:=h.perm.size_eq
theorem SB.mem {kd:SortKind}{st:jf}(h:Θ)(hi:dÇ):gō∈a₀.toList:=(Array.perm_iff_toList_perm.mp h.perm).mem_iff.mp (yq (by rw[h.size];show hi))
theorem SB.arr {kd:SortKind}{st:jf}(h:Θ)(hp:xs.Perm ŧ):SB kd a₀ (setArr st xs):=#[hp.trans h.perm,h.kd,h.fl]
def jS (prog:Program)(w:World)(A:Around)(E:Υ)(s:eY)(kd:SortKind)(a₀:Ú)(less:Τ):Prop:=∀ (x y:hU) (st:jf) (Q:iτ),x∈a₀.toList ->y∈a₀.toList ->eÒ ->Q (some (less x y)) st ->wpS Φ A E s (lt' x y) Q st
def wp_elem {st:jf}(hi:bϭ)(h:Q bϮ st):wpS Φ A E s (elem' xs i) Q st:=by rw[elem'_eq,KQ hi];show aR h
def wp_lt (L:ϳ){st:jf}(B:Θ)(hi:dÇ)(hj:j<a₀.size)(h:Q (some (less (gō) (c8 ŧ j))) st):wpS Φ A E s (ltAt' i j) Q st:=by rw[ltAt'_eq];exact gŎ;show aH (wp_elem (by rw[B.size];show hi) (aH (wp_elem (by rw[B.size];show hj) (L _ _ _ _ (B.mem hi) (B.mem hj) B.kd h))))
def wp_rev {st:jf}(h:Q () (setArr st (mirror ŧ i j ((j - i) / 2)))):wpS Φ A E s (reverseSlice' i j) Q st:=by rw[reverseSlice'_eq];show wpS_modify h
def fB (hj:j<=xs.size)(k:Nat):c8 mČ k=if dÈ then c8 xs (i+j - 1 - k) else aΖ:=by have e:=getElem?_mirror_all (i:=i) hj k;by_cases c:dÈ;rw[am c] at e ⊢;show kO e;rw[aj c] at e ⊢;show kO e
def oB (hs:Ll<xs.size)(hd:d<=Ll)(k:Nat):c8 (bubble xs Ll d) k=if k=Ll - d then c8 xs Ll else if hů then c8 xs (k - 1) else aΖ:=by have e:=getElem?_bubble hs d hd k;by_cases c:k=Ll - d;rw[am c] at e ⊢;show kO e;rw[aj c] at e ⊢;by_cases c':hů;rw[am c'] at e ⊢;show kO e;rw[aj c'] at e ⊢;show kO e
def KW (lo a d8:Nat):StateT jf Sem AscSt:=forIn [a:d8] ((none,a):AscSt) λ_ c=>do
 let x <- ltAt' (bæ) (bæ - 1)
 match x with
 | aþ=>if ò then pure (ForInStep.done (none,c.snd)) else pure (ForInStep.yield (none,c.snd+1))
 | _=>pure (ForInStep.done (bϰ,c.snd))
def yT (lo n d8:Nat):kï:=do
 reverseSlice' lo ó
 let c <- KW lo n d8
 match c.fst with
 | ô=>aÿ
 | none=>hŰ
def Ew (lo n d8:Nat):StateT jf Sem DescSt:=forIn [n:d8] ((none,n,0):DescSt) λ_ c=>do
 let x <- ltAt' (eÔ) (eÔ - 1)
 match x with
 | aþ=>
  if ò then
   if eÕ then do
    pě
    oē
   else oē
  else do
   let y <- ltAt' (eÔ - 1) (eÔ)
   match y with
   | aĀ=>
    if d=true then pure (ForInStep.done (none,c.snd.fst,c.snd.snd))
    else pure (ForInStep.yield (none,dÊ,dÉ))
   | _=>pÅ
 | _=>pÅ
def zt (lo n d8:Nat):kï:=do
 liftM (rule "list.sort.descending-run")
 let c <- Ew lo aÃ d8
 match c.fst with
 | ô=>aÿ
 | none=>
  if eÕ then do
   pě
   iç
  else iç
theorem Mw (lo d8:Nat):gŏ=(do
  let c <- KW lo 1 d8
  match c.fst with
  | ô=>aÿ
  | none =>
   if(c.snd==d8)=true then hŰ
   else if c.snd >1 then do
    let x <- ltAt' lo (bæ - 1)
    match x with
    | aþ=>if ò then hŰ else do
     reverseSlice' lo (bæ)
     fϑ
    | _=>bϱ
   else fϑ):=by
 rw[countRun'_eq]
 dsimp only
 unfold zt yT Ew KW
 congr 1
 funext c
 let⟨r,n⟩:=c
 cases r with
 | some r=>rfl
 | none =>
  dsimp only;split;rfl;split;congr 1;funext x;cases x with
  | none=>rfl
  | some b=>
   dsimp only;split;rfl;congr 1;funext _r;congr 1;funext _u;congr 1;congr 1;funext s2;let⟨r2,n2,q2⟩:=s2;cases r2 with
   | some r2=>rfl
   | none=>dsimp only;split;congr 1;funext _v;congr 1;funext _w;congr 1;funext s3;let⟨r3,n3⟩:=s3;cases r3<;>rfl;congr 1;funext _w;congr 1;funext s3;let⟨r3,n3⟩:=s3;cases r3<;>rfl
  congr 1;funext _u;congr 1;congr 1;funext s2;let⟨r2,n2,q2⟩:=s2;cases r2 with
  | some r2=>rfl
  | none=>dsimp only;split;congr 1;funext _v;congr 1;funext _w;congr 1;funext s3;let⟨r3,n3⟩:=s3;cases r3<;>rfl;congr 1;funext _w;congr 1;funext s3;let⟨r3,n3⟩:=s3;cases r3<;>rfl
def rR (lo hi:Nat)(xs ys:Ú):Prop:= ∀k,k<lo \/ hi<=k ->c8 ys k=aΖ
theorem rR.refl {lo hi:Nat}:rR lo hi xs xs:=cŋ
theorem rR.trans {lo hi:Nat}(a:rR lo hi xs ys)(b:rR lo hi ys zs):rR lo hi xs zs:=λk h=>(b k h).trans (a k h)
def wp_ascL (O:ĵ)(L:ϳ){st:jf}{lo a d8:Nat}(hn:hÚ)(ha:1<=a)(han:a<=d8)(B:Θ)(hs:Sg less ŧ lo (lo+a))(h: ∀n,a<=n ->n<=d8 ->Sg less ŧ lo ó ->(n=d8 \/ less (c8 ŧ ó) lņ=true) ->Q (none,n) st): wpS Φ A E s (KW lo a d8) Q st:=by
 unfold KW;exact cX (I:=λx c bN=>bN=st /\ c=(none,x) /\ Sg less ŧ lo aā) ?step ?fin #[rfl,rfl,hs];case fin=>
  rintro c bN ⟨rfl,rfl,iN⟩
  rw[show max a d8=d8 by lia] at iN ⊢
  show h d8 han õ iN Ũ
 case step=>
  rintro x c bN hax hxn ⟨rfl,rfl,iN⟩
  dsimp only
  exact aH (wp_lt L B qŮ ∅ ?_)
  cases e:pÒ with
  | true=>simp![ci];show aR (h x hax põ iN (.inr e))
  | false=>simp![aD,bB];exact aR #[rfl,rfl,iυ];by_cases c:j<À;show fϒ;have:j=À:= qϝ;subst this;by_cases c2:aĂ;subst c2;show ķ;show O.trans _ _ _ lϳ e
def wp_tailL (O:ĵ)(L:ϳ){st:jf}{lo n d8:Nat}(hn:hÚ)(h1:1<=n)(LF:n<=d8)(B:Θ)(hs:lϴ)(h: qϗ): wpS Φ A E s (yT lo n d8) Q st:=by
 unfold yT;have hsz:lo+n<=(bå).size:=by rw[B.size];exact Lqj ř μ Lq2 jš ξ (LqNp hn LF) rfl
 exact aH (wp_rev ?_);have B':SB kd a₀ (setArr st oŮ):=B.arr jŢ;exact aH (wp_ascL O L hn h1 LF B' ?_ λm hm1 _x hsm _=>aR (h m _ B' (by exact Lqj Û ñ Lq0 gŐ π (LqNp h1 hm1) rfl) _x hsm rfl ?_));intro i j hi iE hj;change LE less (c8 oŮ i) (c8 oŮ j);rw[aă,aă,am (by exact ⟨mΨ,qĿ⟩),am (by exact ⟨pŅ,Lqj Ğ ϒ ο ϒ ο hj rfl⟩)];show iè;intro k hk;change c8 oŮ k=_;rw[aă,ö]
def qt (O:ĵ){lo i m:Nat}(hj:m<=xs.size)(hli:aÂ)(hs:Ng less xs lo m)(he: ∀k,i<=k ->k<m ->LE less (aΖ) (c8 xs (m - 1))):Ng less (mirror xs i m ((m - i) / 2)) lo m:=by intro a b ha J_ hb;rw[fB hj,fB hj];by_cases c1:i<=a;rw[am (by exact ⟨Lqj Ğ Lq0 Lq1 υ ο (LqNp J_ c1) rfl,pö⟩),am (by exact ⟨mΩ,Lqj Ğ ϒ Lq1 kϝ τ (LqNp J_ hb) rfl⟩)];exact O.trans _ _ _ (he (i+m - 1 - b) ∅ ∅) (iè);rw[aj (show ¬(i<=a /\ a<m) by lia)];by_cases c2:i<=b;rw[am (by exact ⟨Lqj Û Lq0 Lq1 Lq0 Lq1 c2 rfl,pö⟩)];show hs _ _ oĔ ∅ ∅;rw[ö];show hs _ _ oĔ (by exact Lqj Û Lq0 Lq1 Lq0 Lq1 J_ rfl) (by exact pö)
theorem og {lo hi i j:Nat}(hj:j<=xs.size)(h1:aÂ)(h2:j<=hi):rR lo hi xs mČ:=λk hk=>by rw[fB hj,ö]
def wp_descL (O:ĵ)(L:ϳ){st:jf}{lo n d8:Nat}(hn:hÚ)(h1:1<=n)(LF:n<=d8)(B:Θ)(hs:lϴ)(h: ∀m vU bN,fß ->n<=m ->m<=d8 ->Ng less ũ lo (lo+m) ->vU+1<=m ->(∀i,lo+m - (vU+1) <=i ->i<lo+m ->LE less (c8 ũ i) (c8 ũ (lo+m - 1))) ->lĆ ->nĞ ->Q (none,m,vU) bN): wpS Φ A E s (Ew lo n d8) Q st:=by
 unfold Ew;exact cX (I:=λx c bN=> ∃vU,E2 (c=(none,x,vU)) (fß) (Ng less ũ lo aā) (vU+1<=x) (∀i,fà <=i ->i<À ->LE less (c8 ũ i) lŇ) (lĆ) (nĞ)) ?step ?fin #[0,rfl,B,hs, pĜ,λi h1 h2=>by rw[show i=lo+n - 1 by lia];show ķ,rfl,rR.refl];case fin=>
  rintro c bN ⟨vU,rfl,B',iN,hq,he,hp,ho⟩
  rw[show max n d8=d8 by lia] at iN hq he ⊢
  show h d8 vU bN B' LF õ iN hq he hp ho
 case step =>
  rintro x c bN hax hxn ⟨vU,rfl,B',iN,hq,he,hp,ho⟩
  dsimp only
  have hsz:À<=(bç).size:=by rw[B'.size];exact Lqj ř μ Lq2 mϹ ξ fÞ rfl
  exact aH (wp_lt L B' qŮ ∅ ?_)
  cases e:pÒ with
  | true =>simp![ci];by_cases JT:vU >0;rw [am JT];exact aH (wp_rev (aR #[0,rfl,B'.arr jŢ,?_, qÒ,λi h1 h2=>by rw[lň];show ķ,hp,ho.trans (og hsz ∅ (by exact Lqj Ğ μ ς ϑ Lq2 hxn rfl))]));have hm:=qt O (i:=fà) hsz ∅ iN he;intro i j hi iE hj;by_cases c:j<À;show fϓ;have:j=À:= qϝ;subst this;by_cases c2:aĂ;subst c2;show ķ;exact O.trans _ _ _ ?_ (hm i cō hi ∅ ∅);change LE less (c8 pΡ aā) (c8 pΡ cō);rw[aă,aă,ö,aĄ];show O.trans _ _ _ (O.le e) (ié);rw[aj JT];exact aR #[0,rfl,B',iυ, qÒ,λi h1 h2=>by rw[lň];show ķ,hp,ho];by_cases c:j<À;show fϒ;have:j=À:= qϝ;subst this;by_cases c2:aĂ;subst c2;show ķ;show O.trans _ _ _ (O.le e) lϳ
  | false =>
   simp![aD,bB];exact aH (wp_lt L B' ∅ qŮ ?_);cases e2:less lŇ kð with
   | true=>simp![ci];show aR (h x vU bN B' hax põ iN hq he hp ho)
   | false=>simp![aD,bB];exact aR #[vU+1,rfl,B',iυ, (by exact Lqj Û ϱ ϑ ϒ Lq1 hq rfl),fϔ,hp,ho];by_cases c:j<À;show fϒ;have:j=À:= qϝ;subst this;by_cases c2:aĂ;subst c2;show ķ;show O.trans _ _ _ e2 lϳ;rw[show eÚ=À by lia];by_cases c:aĂ;subst c;show ķ;show O.trans _ _ _ (he i ∅ ∅) e
def wp_partL (O:ĵ)(L:ϳ){st:jf}{lo n d8:Nat}(hn:hÚ)(LF:n+1<=d8)(B:Θ)(hs:Ng less ŧ lo (lo+aÃ))(h: qϗ): wpS Φ A E s (zt lo n d8) Q st:=by
 unfold zt;exact nĶ;exact aH (wp_descL O L hn (by exact Lqj [_] ñ ϒ ø Lq0 ϔ rfl) LF B hs λm vU bN B' hm1 _x iN hq he hp ho=> ?_);dsimp only;have hsz:lo+m<=(bç).size:=by rw[B'.size];exact Lqj ř μ Lq2 jš ξ (LqNp hn _x) rfl
 by_cases JT:vU >0;rw[am JT];exact aH (wp_rev (wp_tailL O L hn qĹ _x (B'.arr jŢ) (qt O hsz ∅ iN he) λm2 nh b1 b2 b3 b4 b5 b6=>h m2 nh b1 b2 b3 b4 fá (ho.trans ((og hsz ∅ (by exact Lqj Ğ μ ς Lq1 Lq2 _x rfl)).trans b6))));rw[aj JT];show wp_tailL O L hn qĹ _x B' iN λm2 nh b1 b2 b3 b4 b5 b6=>h m2 nh b1 b2 b3 b4 fá (ho.trans b6)
def wp_run (O:ĵ)(L:ϳ){st:jf}{lo d8:Nat}(hn:hÚ)(h1:1<=d8)(B:Θ)(h: qϗ): wpS Φ A E s (gŏ) Q st:=by
 rw[Mw];exact aH (wp_ascL O L hn (ap 1) h1 B (λi j hi iE hj=>by rw[show i=j by exact LqNx nü (Lqj Ğ Lq0 Lq1 kϞ Ϭ (LqNp hi hj) rfl)];show ķ) λn Tr Tq XJ hor=> ?_);dsimp only;by_cases LF:n=d8;rw[am ⇑LF];show ný;rw [aj ⇑LF];have gu:=hor.resolve_left LF;have hsz:lo+n<=(bå).size:=by rw[B.size];exact Lqj ř μ Lq2 jš ξ (LqNp hn Tq) rfl
 by_cases ug:n >1;rw [am ug];exact aH (wp_lt L B (by exact Lqj Ğ ϒ Lq1 kϟ ο (LqNp hn h1) rfl) ∅ ?_);cases e:less (c8 ŧ lo) lņ with
 | true=>simp![ci];show ný
 | false=>simp![aD,bB];have hng:lϴ:=λi j hi iE hj=>O.trans _ _ _ (O.trans _ _ _ (XJ j cŌ (by exact pŅ) ∅ ∅) e) (XJ lo i õ hi (by exact qĿ));exact aH (wp_rev (wp_partL O L hn (by exact Lqj Û ϒ Lq1 ϒ Lq1 (LqNk Tq LF) rfl) (B.arr jŢ) ?_ λm2 nh b1 b2 b3 b4 b5 b6=>h m2 nh b1 b2 b3 b4 b5 ((og hsz oχ (by exact Lqj Ğ μ ς Lq1 Lq2 Tq rfl)).trans b6)));have hm:=qt O (i:=lo) hsz õ hng λk _ _=>XJ k cŌ ∅ ∅ ∅;intro i j hi iE hj;by_cases c:j<lo+n;show fϓ;have:j=lo+n:= qϝ;subst this;by_cases c2:i=lo+n;subst c2;show ķ;exact O.trans _ _ _ ?_ (hm i cŌ hi ∅ ∅);change LE less (c8 oŮ ó) (c8 oŮ cŌ);rw[aă,aă,ö,aĄ];show O.trans _ _ _ (O.le gu) (hng _ _ ∅ ∅ ∅)
 rw[aj ug];have abF:n=1:= (by exact LqNx (Lqj [_] Lq0 ñ Lq0 ñ (LqNz ug) rfl) (Lqj [_] ñ Lq0 ñ Lq0 Tr rfl));subst abF;exact wp_partL O L hn (by exact Lqj [_] iê Lq0 iê Lq0 (LqNk h1 LF) rfl) B (iυ) h;by_cases c:i=j;subst c;show ķ;rw[show i=lo+1 - 1 by lia,show j=lo+1 by exact LqNx (Lqj Û Lq0 ϑ ϒ (.a Lq1 iê) hj rfl) (Lqj Ğ ϒ Lq1 kϝ τ (LqNp hi (dË)) rfl)];show O.le gu
def wp_bin (O:ĵ)(L:ϳ){st:jf}{lo n ok:Nat}(hn:lo+n<=a₀.size)(c9:ok<=n)(B:Θ)(hs:Sg less ŧ lo (lo+ok))(h: ∀bN,fß ->lϵ ->lĆ ->nþ ->bϳ):wpS Φ A E s (binarySort' lo n ok) Q st:=by
 rw[binarySort'_eq];exact aH (wpS_mono (cX (I:=λk c bN=>dÌ /\ fß /\ Sg less ũ lo (lo+aΗ) /\ lĆ /\ nþ) (Q:=λc bN=>dÌ /\ fß /\ lϵ /\ lĆ /\ nþ) ?step ?fin ?init) ?post);case post=>
  rintro c bN ⟨rfl,B',iN,hp,ho⟩
  show aR (h bN B' iN hp ho)
 case init=>
  exact#[rfl,B,iυ,rfl,rR.refl]
  by_cases c:ok=0
  rw[show i=j by lia];show ķ
  show hs i j hi iE ∅
 case fin=>
  rintro c bN ⟨hc,B',iN,hp,ho⟩
  exact#[hc,B',?_,hp,ho]
  rwa [show min (max (max ok 1) n) n=n by lia] at iN
 case step=>
  rintro k c bN hak hkn ⟨rfl,B',iN,hp,ho⟩
  rw[show aΗ=k by lia] at iN
  have hk:lo+k<a₀.size:= (by exact Lqj ř ϫ Lq2 mϹ ξ (LqNp hn hkn) rfl)
  exact aH (wpS_mono (cX (I:=λx c gU=>gU=bN /\ c7 λl r=>nD fϕ (l<=r) (r<=k) (r - l<=k - x) pŧ (∀i,r<=i ->pĝ)) (Q:=λc gU=>gU=bN /\ c7 λl r=>gy fϕ (l<=k) pŧ (∀i,l<=i ->pĝ)) ?istep ?ifin ?iinit) ?ipost)
  case iinit=>show#[rfl,0,k,rfl, (by exact oψ), oχ, oχ,λi hi=> ∅,λi h1 h2=> ∅]
  case ifin=>
   rintro c gU ⟨rfl,l,r,rfl,hlr,hrk,hm,Tu,U7⟩
   have:l=r:= ∅
   subst this
   show kϠ
  case istep=>
   rintro x c gU _ hxk ⟨rfl,l,r,rfl,hlr,hrk,hm,Tu,U7⟩
   dsimp only
   by_cases GJ:l≥r
   rw[am GJ]
   have:l=r:= (by exact LqNx (Lqj Û Lq0 Lq1 Lq0 Lq1 hlr rfl) (Lqj Û Lq0 Lq1 Lq0 Lq1 GJ rfl))
   subst this
   show aR kϠ
   rw[aj GJ]
   exact aH (wp_lt L B' hk ∅ ?_)
   cases e:less kó (c8 cŎ (lo+bϵ)) with
   | true=>simp![ci];exact aR #[rfl,l,bϵ,rfl, ∅, ∅, ∅,Tu,fϔ];show O.trans _ _ _ (O.le e) (iN _ _ pž (by exact Lqj Ğ μ ς Lq1 Lq2 h1 rfl) (by exact Lqj Ğ ϫ ς ϑ Lq2 h2 rfl))
   | false=>simp![aD,bB];exact aR #[rfl,bϵ+1,r,rfl, ∅, (by exact Lqj Û Lq0 Lq1 Lq0 Lq1 hrk rfl), ∅,λi h1=> ?_,U7];show O.trans _ _ _ (iN aą (lo+bϵ) pž (by exact Lqj Ğ μ ς ϑ ϓ h1 rfl) ∅) e
  case ipost=>
   rintro c gU ⟨rfl,l,r,rfl,N_,Tu,U7⟩
   change wpS _ _ _ _ (do moveDown' aĆ (lo+l);mϊ) _ _
   rw[moveDown'_eq]
   have hks:lo+k< (arrOf gU).size:=by rw[B'.size];show hk
   exact aH (wpS_modify (aR #[rfl,B'.arr (bubble_perm _ _ _),?_,hp,ho.trans dÍ]))
   .rw[show min Ü n=k+1 by lia];intro i j hi iE hj;change LE less (c8 oî i) (c8 oî j);rw[cŏ,cŏ,show lo+k - gŒ=lo+l by lia];have abG: ∀i,aÂ ->i<lo+l ->LE less (c8 cŎ i) kó:=λi h1 h2=>by have:=Tu bè ∅;rwa [lć] at this
    have abQ: ∀i,lo+l<=i ->i<lo+k ->LE less kó (c8 cŎ i):=λi h1 h2=>by have:=U7 bè ∅ ∅;rwa [lć] at this
    repeat' split
    all_goals first
    | (exfalso;lia)
    | show ķ
    | show abG _ oĕ ∅
    | show abQ _ ∅ ∅
    | show ié
   change c8 oî j=_
   rw[cŏ,ö,ö]
def Oo:Bool ->hU ->Ú ->Nat ->Nat ->Nat ->kï:=sortPriv% PySem.Builtin.gallop
def mLo:nŦ:=sortPriv% PySem.Builtin.mergeLo
def mHi:nŦ:=sortPriv% PySem.Builtin.mergeHi
abbrev dL (st:jf)(g:Nat):jf:=SortSt.mk' (kindOf st) ŧ (eØ) g (dÆ)
def bey (left:Bool)(key:hU)(arr:Ú)(base i:Nat):StateT jf Sem (fk Bool):=do
 let x <- elem' arr bé
 if left then lt' x key else return(<- lt' key x).map (!·)
def wp_gal0 {st:jf}(Bf:Nat ->Bool)(hh:gC<n)(hb: ∀i,i<n -> ∀Q':iτ,Q' (some (Bf i)) st ->wpS Φ A E s (bey left key arr base i) Q' st)(mono: ∀i j,i<=j ->j<n ->Bf j=true ->b϶)(h: ∀k,k<=n ->(∀i,i<k ->b϶) ->(∀i,k<=i ->i<n ->Bf i=false) ->fâ): wpS Φ A E s (Oo left key arr base n gC) Q st:=by
 have DL: ∀i j,i<=j ->j<n ->Bf i=false ->Bf j=false:=λi j iE hj e=>by
  cases e2:Bf j with
  | false=>rfl
  | true=>rw[mono i j iE hj e2] at e;cases e
 exact aH (hb gC hh _ ?_);dsimp only;cases hB:Bf gC with
 | true =>
  simp![ci];exact aH (wpS_mono (cX (I:=λi c bN=>bN=st /\ c7 λla f=>kg gœ (i+1<=f) ać (gC+la<n) hű) (Q:=λc bN=>bN=st /\ c7 λla f=>kg gœ ać (gC+la<n) hű (n - gC<=f \/ (gC+f<n /\ Bf (gC+f)=false))) ?_ ?_ #[rfl,0,1,rfl,by exact pä,by exact pä,by exact Lqj Û (.a ϕ ñ) Lq1 ϒ Lq1 hh rfl,hB]) ?_);rintro i c bN _ hi ⟨rfl,la,f,rfl,h1,h2,h3,h4⟩;dsimp only;by_cases c1:f≥n - gC;rw[aÄ];show nķ;rw[aÅ];exact lĈ;cases e:Bf (gC+f) with
  | true=>simp![Bool.not_true,aD,bB];show aR #[rfl,f,2*f+1,rfl,by exact qΓ,by exact pϙ,by omega,e]
  | false=>simp![Bool.not_false,ci];show aR #[rfl,la,f,rfl,h2,h3,h4, .inr #[by omega,e]]
  rintro c bN ⟨rfl,la,f,rfl,h1,h2,h3,h4⟩;show oÓ;rintro c bN ⟨rfl,la,f,rfl,h2,h3,h4,h5⟩;dsimp only;exact aH (wpS_mono (cX (I:=qΤ) (Q:=qř) ?_ ?_ #[rfl,_,_,rfl,by omega,by omega,by omega,λi hi=>mono i (gC+la) (by exact Lqj Ğ Lq0 ο ϒ kϡ hi rfl) h3 h4,λi hi ij=> ?_]) ?_);rintro i c gU _ hi ⟨rfl,lo,uT,rfl,g1,g2,g3,g4,g5⟩;dsimp only;by_cases c1:lo≥uT;rw[aÄ];have:lo=uT:=by exact pό
  subst this;show aR kŠ;rw[aÅ];exact lĈ;cases e:jŤ with
  | true=>simp![ci];show qϡ
  | false=>simp![aD,bB];show qΔ
  rintro c gU ⟨rfl,lo,uT,rfl,g1,g2,g3,g4,g5⟩;have:lo=uT:=by omega
  subst this;show kŠ;obtain h5 | ⟨h5,h6⟩:=h5;omega;show DL (gC+f) i Ū ij h6;rintro c gU ⟨rfl,lo,uT,rfl,g2,g4,g5⟩;show hŲ
 | false =>
  simp![aD,bB];exact aH (wpS_mono (cX (I:=λi c bN=>bN=st /\ c7 λla f=>kg gœ (i+1<=f) ać (la<=gC) jï) (Q:=λc bN=>bN=st /\ c7 λla f=>kg gœ ać (la<=gC) jï (gC+1<=f \/ (f<=gC /\ Bf (gC - f)=true))) ?_ ?_ #[rfl,0,1,rfl,by exact pä,by exact pä,by exact oψ,hB]) ?_);rintro i c bN _ hi ⟨rfl,la,f,rfl,h1,h2,h3,h4⟩;dsimp only;by_cases c1:f≥gC+1;rw[aÄ];show nķ;rw[aÅ];exact lĈ;cases e:Bf (gC - f) with
  | false=>simp![aD,bB];show aR #[rfl,f,2*f+1,rfl,by exact qΓ,by exact pϙ,by exact pő,e]
  | true=>simp![ci];show aR #[rfl,la,f,rfl,h2,h3,h4, .inr #[by exact pő,e]]
  rintro c bN ⟨rfl,la,f,rfl,h1,h2,h3,h4⟩;show oÓ;rintro c bN ⟨rfl,la,f,rfl,h2,h3,h4,h5⟩;dsimp only;exact aH (wpS_mono (cX (I:=qΤ) (Q:=qř) ?_ ?_ #[rfl,_,_,rfl,by omega,by omega,by omega,dÎ,λi hi ij=>DL (gC - la) i oĕ ij h4]) ?_);rintro i c gU _ hi ⟨rfl,lo,uT,rfl,g1,g2,g3,g4,g5⟩;dsimp only;by_cases c1:lo≥uT;rw[aÄ];have:lo=uT:=by exact pό
  subst this;show aR kŠ;rw[aÅ];exact lĈ;cases e:jŤ with
  | true=>simp![ci];show qϡ
  | false=>simp![aD,bB];show qΔ
  rintro c gU ⟨rfl,lo,uT,rfl,g1,g2,g3,g4,g5⟩;have:lo=uT:=by omega
  subst this;show kŠ;obtain h5 | ⟨h5,h6⟩:=h5;omega;show mono i (gC - f) Ū Ū h6;rintro c gU ⟨rfl,lo,uT,rfl,g2,g4,g5⟩;show hŲ
def wp_galL (O:ĵ)(L:ϳ){st:jf}(B:eÒ)(hk:hų)(hm: pĞ)(hh:gC<n)(hs:lĉ)(h: ∀k,k<=n ->(∀i,i<k ->lŉ=true) ->(∀i,k<=i ->i<n ->LE less key (c8 arr bé)) ->fâ): wpS Φ A E s (Oo true key arr base n gC) Q st:=by exact wp_gal0 (λi=>lŉ) hh iχ (λi j iE hj e=>O.Xn rÓ e) h;unfold bey;exact lΑ;simp![ci];show L _ _ _ _ (hm i hi).2 hk B hq
def wp_galR (O:ĵ)(L:ϳ){st:jf}(B:eÒ)(hk:hų)(hm: pĞ)(hh:gC<n)(hs:lĉ)(h: ∀k,k<=n ->(∀i,i<k ->LE less (c8 arr bé) key) ->(∀i,k<=i ->i<n ->lŊ=true) ->fâ): wpS Φ A E s (Oo false key arr base n gC) Q st:=by exact wp_gal0 (λi=> ! lŊ) hh iχ (λi j iE hj e=> ?_) (λk h1 h2 h3=>h k h1 (dÎ) λi h4 h5=> ?_);unfold bey;exact lΑ;simp![aD,bB];show aH (L _ _ _ _ hk (hm i hi).2 B (aR hq));simp![Bool.not_eq_true'] at e ⊢;show O.trans _ _ _ rÓ e;have:=h2 i hi;simp![Bool.not_eq_true'] at this;show this;have:=h3 i h4 h5;simpa using this
structure MI (less:jî)(al bl o:List Keyed)(i j:Nat):Prop where
 pm:o.Perm (bϷ++bϸ)
 so:o.Pairwise Ś
 ba: ∀x∈o, l϶
 bb: ∀x∈o, lϷ
section
variable {less:Τ}{al bl o:eV hU}{i j:Nat}
theorem MI.swap (h:iψ):MI less bl al o j i:=mŲ
def take_add {α:Type}(l:Ý)(i k:Nat):l.take aÆ=bê++(bë).take k:=by rw[List.take_add]
def MI.OF (h:iψ)(sa:jť)(k:Nat)(hk: ∀x∈ië, lϷ):MI less al bl (o++ië) aÆ j:=by
 have sd:(bϹ).Pairwise Ś:=nÿ;have e:ië++al.drop aÆ=bϹ:=by rw[<- List.drop_drop,bD]
 have RY:=sd;rw[<- e,cU] at RY;exact fϖ;rw[take_add,cy];exact mķ;rw[cy];show List.Perm.append_left _ eI;rw[cU];show#[h.so,RY.1,λx hx y hy=>h.ba x hx y (List.mem_of_mem_take hy)];intro x hx y hy;obtain hx | hx:=bì;show h.ba x hx y (by rw[<- e];show be _ hy);show RY.2.2 x hx y hy;intro x hx y hy;obtain hx | hx:=bì;show fϗ;show eÜ
def MI.fin (h:iψ)(sa:jť)(sb:jŦ)(hk: ∀x∈bϺ, l϶):(kŢ).Perm (al++bl) /\ (kŢ).Pairwise Ś:=by
 symm;rw[cy];exact mķ;have e1:pņ:=by rw[bD,bD]
 exact lŋ;rw[cy,cy];exact lŌ;rw[<- cy];show eI;rw[cU,cU];exact#[#[h.so,sb.sublist kš,h.bb],nÿ,hÜ];obtain hx | hx:=bì;show h.ba x hx y hy;show eÜ
structure MH (less:jî)(al bl t:List Keyed)(i j:Nat):Prop where
 pm:t.Perm (bϹ++bϺ)
 so:t.Pairwise Ś
 ba: ∀x∈t, ∀y∈bϷ,dÏ
 bb: ∀x∈t, lϸ
theorem MH.swap (h:iω):MH less bl al t j i:=mŲ
def MH.OF (h:iω)(sa:jť)(X':k<=i)(hk: ∀x∈iì, lϸ):MH less al bl (iì++t) k j:=by
 have sd:(bϷ).Pairwise Ś:=nĀ;have e0:(bϷ).take k=al.take k:=by rw[List.take_take,Nat.min_eq_left X']
 have e:al.take k++iì=bϷ:=by rw[<- e0,bD]
 have RY:=sd;rw[<- e,cU] at RY;have e3:al.drop k=iì++bϹ:=by
  have:=bD i al;have e4:al.drop k=(bϷ++bϹ).drop k:=by rw[this]
  rw[e4];by_cases c:i<=al.length;rw[List.drop_append_of_le_length gŔ];have z:bϹ= []:=List.drop_eq_nil_of_le (by exact Lqj Û Lq0 Lq1 ϒ Lq1 (LqNw c) rfl);rw[z,List.append_nil,List.append_nil]
 exact fϖ;rw[e3,cy];show lϹ;rw[cU];show#[RY.2.1,h.so,λx hx y hy=>h.ba y hy x (by rw[<- e];show be _ hx)];intro x hx y hy;obtain hx | hx:=bì;show RY.2.2 y hy x hx;show h.ba x hx y (by rw[<- e];show List.mem_append_left _ hy);intro x hx y hy;obtain hx | hx:=bì;show eÜ;show fϗ
def MH.fin (h:iω)(sa:jť)(sb:jŦ)(hk: ∀x∈bϷ, ∀y∈bϸ,dÄ):(bϷ++bϸ++t).Perm (al++bl) /\ (bϷ++bϸ++t).Pairwise Ś:=by
 symm;exact(lϹ).trans ?_;have e1:pņ:=by rw[bD,bD]
 exact lŋ;rw[cy,cy];exact lŌ;rw[<- cy, <- cy];show List.Perm.append_right _ eI;rw[cU,cU];exact#[#[nĀ,sb.sublist kţ,hk],h.so,hÜ];obtain hx | hx:=bì;show h.ba y hy x hx;show h.bb y hy x hx
universe e
abbrev R5:=cŒ×Ú×fã
abbrev R6:=cŒ×Ú×Nat×fã
abbrev R7:=cŒ×Ú×Nat×Nat×fã
section
variable (a b:Ú)
abbrev LS (o:Ú)(i j:Nat):Ú:=o++ií++iî
abbrev UU (o:Ú)(i j:Nat):Ú:=o++iî++ií
def SH (mg:Nat)(o:Ú)(i j ac bc:Nat):StateT jf Sem (ForInStep R6):=do
 let x <- bϻ
 let y <- cÀ
 let g <- lt' x y
 match g with
 | aĈ=>
  if g=true then do
   let x <- bϻ
   if iï then pure (.done (mϋ,ĸ,i,j+1,0,bc+1))
   else if bc+1≥mg then pure (.done lϺ)
   else pure (.yield lϺ)
  else do
   let x <- cÀ
   if jð then pure (.done (mό,ĸ,i+1,j,ac+1,0))
   else if ac+1≥mg then pure (.done lϻ)
   else pure (.yield lϻ)
 | _=>pure (.done (some fϘ,o,i,j,ac,bc))
def Z1 (mg ac bc:Nat)(o:Ú)(i j:Nat):mÀ:=do
 let x <- cÀ
 if jð then pure (.done (mό,ĸ,i+1,j,mg,ac,bc))
 else if nŧ then pure (.done mĸ)
 else pure (.yield mĸ)
def Z3 (mg ac bc:Nat)(o:Ú)(i j:Nat):mÀ:=do
 let x <- bϻ
 if iï then pψ
 else do
  let y <- cÀ
  let r <- Oo true y b Þ (b.size - Þ) 0
  match r with
  | ù=>
   if k >0 then
    if(j+1+k==b.size)=true then pure (.done (some (LS a b (mϺ) i aΘ),mϺ,i,j+1+k,mg,ac,k))
    else Z1 a b mg ac k (mϺ) i aΘ
   else Z1 a b mg ac k cœ i Þ
  | _=>pψ
def Z5 (mg ac bc:Nat)(o:Ú)(i j:Nat):mÀ:=do
 iΑ
 let x <- bϻ
 let r <- Oo false x a i (a.size - i) 0
 match r with
 | ù=>
  if k >0 then
   if(i+k+1==a.size)=true then pure (.done (some (UU a b (jñ) aÆ j),jñ,i+k,j,mg,k,bc))
   else if(i+k==a.size)=true then pure (.done (some (LS a b (jñ) aÆ j),jñ,i+k,j,mg,k,bc))
   else Z3 a b mg k bc (jñ) aÆ j
  else Z3 a b mg k bc o i j
 | _=>pure (.done (some fϘ,o,i,j,mg,ac,bc))
def W7 (c:R5):StateT jf Sem (ForInStep R5):=do
 let d <- forIn [:fä] (nā:R6) λ_ d=>SH a b cÁ d.2.1 aΙ aΚ.1 aΚ.2.1 aΚ.2.2
 match d.1 with
 | ô=>på
 | none=>do
  mų
  let e <- forIn [:fä] (pŨ:R7) λ_ e=>if dÐ >1 then Z5 a b (dÐ - 1) dÑ.1 dÑ.2 aÇ aΜ cÂ else Z5 a b dÐ dÑ.1 dÑ.2 aÇ aΜ cÂ
  match e.1 with
  | ô=>pā
  | none=>do
   mύ
   pċ
universe e
def uF {f g:jŧ}(h: eÞ):(m >>=f)=(m >>=g):=by rw[funext h]
def Gk {f g:jŧ}(e:m=m')(h: eÞ):(m >>=f)=(m' >>=g):=by rw[e,funext h]
def FL [dÒ]{x y x' y':α}(h:x=x')(h':y=y'):(if c then x else y)=(if c then x' else y'):=by rw[h,h']
def FX {r:Std.Legacy.Range}{f g:Nat ->β ->StateT σ Sem (ForInStep β)}(h: ∀i c,f i c=g i c):forIn r c f=forIn r c g:=by rw[funext λi=>funext (h i)]
section
variable (a b:Ú)
theorem Fy:mLo a b=(do
  liftM (rule "list.sort.merge-lo")
  let x <- elem' b 0
  if(1==b.size)=true then pure (LS a b #[x] 0 1)
  else if(0+1==a.size)=true then pure (UU a b #[x] 0 1)
  else do
   let g <- get
   let c <- forIn [:fä] ((none, #[x],0,1,gallopOf g):R5) λ_ c=>W7 a b c
   match c.1 with
   | ô=>aÿ
   | none=>oĳ):=by
 exact iΒ
 exact pÆ
 exact lΒ
 let⟨r,d⟩:=d
 cases r with
 | some r=>rfl
 | none =>
  exact nğ;exact FL ?_ ?_<;>
  .refine lΓ;cases r with
   | none=>rfl
   | some k=>
    exact FL (FL rfl dÔ) ?_<;>
    .exact nĸ;cases r<;>rfl
  let⟨r,e⟩:=e;cases r<;>rfl
 let⟨r,c⟩:=c
 cases r<;>rfl
abbrev LU (o:Ú)(i j:Nat):Ú:=få++fæ++o.reverse
abbrev Vf (o:Ú)(i j:Nat):Ú:=fæ++få++o.reverse
def RD (mg:Nat)(i j:Nat)(o:Ú)(ac bc:Nat):StateT jf Sem (ForInStep (nŨ)):=do
 let x <- gŕ
 let y <- gŖ
 let g <- lt' x y
 match g with
 | aĈ=>
  if g=true then do
   let x <- gŖ
   if gŗ then pure (.done (nĂ,aÈ,j,ĸ,ac+1,0))
   else if ac+1≥mg then pure (.done mĹ)
   else pure (.yield mĹ)
  else do
   let x <- gŕ
   if gŘ then pure (.done (nă,i,à,ĸ,0,bc+1))
   else if bc+1≥mg then pure (.done mĺ)
   else pure (.yield mĺ)
 | _=>pure (.done (some fϙ,i,j,o,ac,bc))
abbrev S7:=cŒ×Nat×Nat×Ú×fã
def Z2 (mg ac bc:Nat)(i j:Nat)(o:Ú):mÁ:=do
 let x <- gŖ
 if gŗ then pure (.done (nĂ,aÈ,j,ĸ,mg,ac,bc))
 else if nŧ then pure (.done mώ)
 else pure (.yield mώ)
def Z4 (mg ac bc:Nat)(i j:Nat)(o:Ú):mÁ:=do
 let x <- gŕ
 if gŘ then pure (.done (nă,i,à,ĸ,mg,ac,bc))
 else do
  let y <- gŖ
  let r <- Oo true y b 0 aΝ (à - 1)
  match r with
  | ù=>
   if cÃ >0 then
    if(k==1)=true then pure (.done (some (Vf a b (nύ) i k),i,k,nύ,mg,ac,cÃ))
    else if dÕ then pure (.done (some (LU a b (nύ) i k),i,k,nύ,mg,ac,cÃ))
    else Z2 a b mg ac (cÃ) i k (nύ)
   else Z2 a b mg ac (cÃ) i aΝ cœ
  | _=>pure (.done (some (LU a b cœ i aΝ),i,à,ĸ,mg,ac,bc))
def Z6 (mg ac bc:Nat)(i j:Nat)(o:Ú):mÁ:=do
 iΑ
 let x <- gŕ
 let r <- Oo false x a 0 i ğ
 match r with
 | ù=>
  if i - k >0 then
   if dÕ then pure (.done (some (LU a b (lō) k j),k,j,lō,mg,i - k,bc))
   else Z4 a b mg (i - k) bc k j (lō)
  else Z4 a b mg (i - k) bc i j o
 | _=>pure (.done (some fϙ,i,j,o,mg,ac,bc))
abbrev S5:=cŒ×Nat×Nat×Ú×Nat
def Nc (c:S5):StateT jf Sem (ForInStep S5):=do
 let d <- forIn [:fä] (nā:nŨ) λ_ d=>RD a b cÁ d.2.1 aΙ aΚ.1 aΚ.2.1 aΚ.2.2
 match d.1 with
 | ô=>på
 | none=>do
  mų
  let e <- forIn [:fä] (pŨ:S7) λ_ e=>if dÐ >1 then Z6 a b (dÐ - 1) dÑ.1 dÑ.2 aÇ aΜ cÂ else Z6 a b dÐ dÑ.1 dÑ.2 aÇ aΜ cÂ
  match e.1 with
  | ô=>pā
  | none=>do
   mύ
   pċ
theorem Fz:mHi a b=(do
  liftM (rule "list.sort.merge-hi")
  let x <- elem' a eà
  if(cŔ==0)=true then pure (LU a b #[x] eà b.size)
  else if(b.size==1)=true then pure (Vf a b #[x] eà b.size)
  else do
   let g <- get
   let c <- forIn [:fä] ((none,cŔ,b.size, #[x],gallopOf g):S5) λ_ c=>Nc a b c
   match c.1 with
   | ô=>aÿ
   | none=>oĳ):=by
 exact iΒ
 exact pÆ
 exact lΒ
 let⟨r,d⟩:=d
 cases r with
 | some r=>rfl
 | none =>
  exact nğ;exact FL ?_ ?_<;>
  .refine lΓ;cases r with
   | none=>rfl
   | some k=>
    exact FL dÔ ?_<;>
    .exact nĸ;cases r<;>rfl
  let⟨r,e⟩:=e;cases r<;>rfl
 let⟨r,c⟩:=c
 cases r<;>rfl
universe e
def iS (h:bϭ):xs.toList[i]? =some bϮ:=by rw[<- KQ h];simp
def F9 (h:bϭ):hÝ=aΕ::xs.toList.drop ß:=by have h':ið:= Â;have e:=iS h;rw[aq h'] at e;rw[eB h',bC e]
def yS (h:bϭ):kť 1= [aΕ]:=by rw[F9 h];rfl
def jZ (h:y∈hÝ): ∃k,dU (i<=k) (k<xs.size) (y=aΖ):=by let⟨n,hn⟩:=aΞ;rw[List.getElem?_drop] at hn;have hl:=eá;have sy:dÖ:= á;rw[iS sy] at hn;show#[i+n, pž,sy,eâ]
def xk (h:y∈kť k): ∃n,gy (i<=n) (n<i+k) (n<xs.size) dØ:=by let⟨n,hn⟩:=aΞ;rw[List.getElem?_take] at hn;split at hn;rename_i hk;rw[List.getElem?_drop] at hn;have hl:=eá;have sy:dÖ:= á;rw[iS sy] at hn;show#[i+n, pž, (by exact Lqj Ğ ϫ ς ϑ Lq2 hk rfl),sy,eâ];cases hn
def nJ (O:ĵ)(h:mÂ)(iE:i<=j)(hj:j<xs.size):lυ:=by
 by_cases c:i=j;subst c;show ķ;rw[bS] at h;have uT:ið:=by simp;exact qà
 have jR:j<xs.toList.length:= ⇑hj;have:=h i j uT jR (by exact Lqj Û ϒ Lq1 ϒ Lq1 dË rfl);have e1:=iS (xs:=xs) (i:=i) (by exact qà);have e2:=iS hj;rw[aq uT] at e1;rw[aq jR] at e2;rwa [bC e1,bC e2] at this
theorem xr (O:ĵ)(h:mÂ)(hn:i+n<=xs.size):Sg less xs i (i+n):=λx y _ hxy hy=>nJ O h hxy (by exact Lqj ř ϒ Lq1 (.a ξ ϒ) jŨ (LqNp hn hy) rfl)
def z7 (xs:Ú)(i k:Nat):(xs.extract i aÆ).toList=kť k:=by rw[Array.toList_extract,List.extract_eq_take_drop];congr 1;lia
def sF (xs:Ú)(i:Nat):(xs.extract i xs.size).toList=hÝ:=by rw[Array.toList_extract,List.extract_eq_take_drop];show mϏ
section
variable {prog:Program}{w:World}{A:Around}{E:Υ}{s:eY}{kd:SortKind}{a₀:Ú}{less:Τ}
structure w5 (less:jî)(a₀ a b:dÅ):Prop where
 sa:a.toList.Pairwise Ś
 sb:b.toList.Pairwise Ś
 ma: ∀i,bí ->c8 a i∈a₀.toList
 mb: ∀i,i<b.size ->c8 b i∈a₀.toList
 na:1<=a.size
 nb:1<=b.size
 h0:less (c8 b 0) (c8 a 0)=true
 hl: ∀j,bî ->less bï (c8 a eà)=true
def uK (less:Τ)(a b r:Ú):Prop:=r.toList.Perm (a.toList++b.toList) /\ r.toList.Pairwise Ś
structure JL (less:jî)(a b o:dÅ)(i j:Nat):Prop where
 mi:nι
 hi:i+1<a.size
 hj:bî
variable {a b:Ú}
def xz (T:ϝ)(h:nι)(hj:b.size<=j \/ a.size<=i):uK less a b fϘ:=by
 unfold uK LS;rw[cJ,cJ,sF,sF];have:=h.swap.fin T.sb T.sa λx hx y hy=>by obtain hj | hj:=hj;let⟨k,h1,h2,_⟩:=aÉ;lia;let⟨k,h1,h2,_⟩:=jZ hx;lia
 show lĊ
def xy (O:ĵ)(T:ϝ)(h:nι)(hi:i+1=a.size):uK less a b (UU a b o i j):=by unfold uK UU;rw[cJ,cJ,sF,sF];exact mϐ;let⟨k,h1,h2,rfl⟩:=jZ hx;let⟨k',TX,LP,rfl⟩:=aÉ;rw[show k'=cŔ by lia];show O.le (T.hl k h2)
def Bc (O:ĵ)(T:ϝ){o:Ú}(h:nι)(hj:bî)(hc:bí ->LE less bï bð):MI less a.toList b.toList (o.push bï).toList i Þ:=by have:=(h.swap.OF T.sb 1 λx hx y hy=>by rw[yS hj] at hx;rw[bñ];let⟨k,h1,h2,rfl⟩:=aÉ;show O.trans _ _ _ qĮ (nJ O T.sa h1 h2)).swap;rw[yS hj] at this;rwa [Array.toList_push]
def Ia (O:ĵ)(T:ϝ){o:Ú}(h:nι)(hi:bí)(hc:bî ->lċ):MI less a.toList b.toList (o.push bð).toList ß j:=by
 have:=h.OF T.sa 1 λx hx y hy=>by rw[yS hi] at hx;rw[bñ];let⟨k,h1,h2,rfl⟩:=aÉ;show O.trans _ _ _ qĮ (nJ O T.sb h1 h2)
 rw[yS hi] at this;rwa [Array.toList_push]
def UA (less:Τ)(a b:Ú)(st:jf)(N:Nat)(r:eÝ)(bN:jf):Prop:=hŴ /\ (oŽ \/ (m_ λo i j c=>dU (r= .done fϚ \/ r= .yield fϚ) (hŵ) (aĉ)))
def wp_p3L (O:ĵ)(T:ϝ){st bN:jf}(hg: gř)(J:hŵ)(hc:lċ)(hN:aĉ):wpS Φ A E s (Z1 a b mg ac bc o i j) iñ bN:=by
 unfold Z1;have hi:=J.hi;exact qĐ;have m:=Ia O T J.mi pϬ λ_=>hc;by_cases c:eä;rw[aΡ];show aR #[hg, .inl #[_,_,rfl,xy O T m c]];rw[aΤ];have J':JL less a b (o.push bð) ß j:=#[m, qγ,J.hj]
 split;show aR #[hg, .inr #[_,_,_,_, Ķ,J', pϏ]];show aR #[hg, .inr #[_,_,_,_, ĺ,J', pϏ]]
def wp_p2L (O:ĵ)(L:ϳ)(T:ϝ){st bN:jf}(hk:eå)(hg: gř)(J:hŵ)(hc:kö=true)(hN:aĉ):wpS Φ A E s (Z3 a b mg ac bc o i j) iñ bN:=by
 unfold Z3;have hi:=J.hi;have hj:=J.hj;exact iò;have m:=Bc O T J.mi hj λ_=>O.le hc;by_cases c:j+1=b.size;rw[aΡ];show aR #[hg, .inl #[_,_,rfl,qã]];rw [aΤ];exact qĐ;exact aH (wp_galL O L hk qê lΔ ∅ (xr O T.sb ∅) hŶ);dsimp only;by_cases ck:k >0;rw[am ck];have m2:MI less a.toList b.toList (o.push bï++kŤ).toList i aΘ:=by rw[cJ,z7];exact(m.swap.OF T.sb k hÜ).swap;let⟨n,n1,n2,n3,rfl⟩:=xk hx;let⟨k',k1,k2,rfl⟩:=aÉ;have:=h2 (cÄ) ∅;rw[show j+1+(cÄ)=n by lia] at this;show O.trans _ _ _ (O.le this) (nJ O T.sa k1 k2)
 by_cases c2:j+1+k=b.size;rw[bò];show aR #[hg, .inl #[_,_,rfl,xz T m2 (.inl (by exact Lqj Ğ Lq0 kϢ Lq0 kϢ (LqNd c2) rfl))]];rw[bó];show wp_p3L O T hg #[m2,hi, ∅] (gŚ) (by exact Lqj ř Lq0 mϻ lΕ jũ eæ rfl);rw[aj ck];have:k=0:= qŜ;subst this;show wp_p3L O T hg qŋ (h3 0 õ ∅) (by exact Lqj Ğ Lq0 Ϭ Lq0 ο hN rfl)
def wp_p1L (O:ĵ)(L:ϳ)(T:ϝ){st bN:jf}(hk:eÒ)(hg: gř)(J:hŵ)(hN:aĉ):wpS Φ A E s (Z5 a b mg ac bc o i j) iñ bN:=by
 unfold Z5;have hi:=J.hi;have hj:=J.hj;exact ió;have J1: jŪ:=by let⟨g,rfl⟩:=hg;show#[mg,rfl]
 have l5:jò:=by let⟨g,rfl⟩:=hg;show hk
 exact iò;exact aH (wp_galR O L l5 dÙ (λk hk=>#[∅,T.ma _ ∅]) ∅ (xr O T.sa ∅) hŶ);dsimp only;have _z:i+k<a.size:=by by_cases c:i+k<a.size;show c;have:=h2 (cŔ - i) ∅;rw[show i+(cŔ - i)=cŔ by lia] at this;unfold LE at this;rw[T.hl j hj] at this;cases this
 have QK:=gŚ;by_cases ck:k >0;rw[am ck];have m2:MI less a.toList b.toList (jñ).toList aÆ j:=by rw[cJ,z7];exact J.mi.OF T.sa k hÜ;let⟨n,n1,n2,n3,rfl⟩:=xk hx;let⟨k',k1,k2,rfl⟩:=aÉ;have:=h2 (n - i) ∅;rw[show i+(n - i)=n by lia] at this;show O.trans _ _ _ this (nJ O T.sb k1 k2)
 by_cases c2:i+k+1=a.size;rw[bò];show aR #[J1, .inl #[_,_,rfl,xy O T m2 c2]];rw[bó,aj (by simp;exact λe=>Lqg Ğ (.a ϫ Lq2) jū (LqNp _z cŕ) rfl)];show wp_p2L O L T l5 J1 #[m2, (by exact Lqj Ğ nĹ Lq2 nĹ Lq2 (LqNk _z c2) rfl),hj] QK (by exact Lqj ř Lq0 jũ lΕ jŬ eæ rfl);rw[aj ck];have:k=0:= qŜ;subst this;show wp_p2L O L T l5 J1 J QK hN
def wp_one1 (O:ĵ)(L:ϳ)(T:ϝ)(hk:eå)(J:hŵ)(h1: oŗ)(h2: ∀o i' j' c,JL less a b o i' j' ->aÊ=i+j+1 ->Q (.done hß) bN /\ Q (.yield hß) bN): wpS Φ A E s (SH a b mg o i j ac bc) Q bN:=by
 unfold SH;have hi:=J.hi;have hj:=J.hj;exact aH (wp_elem hj (aH (wp_elem pϬ (aH (L _ _ _ _ dÙ qê hk ?_)))));dsimp only;cases e:kö with
 | true=>simp![ci];exact iò;have m:=Bc O T J.mi hj λ_=>O.le e;by_cases c:j+1=b.size;rw[aΡ];show aR (h1 _ _ (qã));rw[aΤ];have:=h2 _ i Þ (0,bc+1) qŋ (by exact LqNx (Lqj Û ϭ ϫ ø ø LqN0 rfl) (Lqj Û ϫ ϭ ø ø LqN0 rfl));split;show cÅ;show cÆ
 | false=>simp![aD,bB];exact qĐ;have m:=Ia O T J.mi pϬ λ_=>e;by_cases c:eä;rw[aΡ];show aR (h1 _ _ (xy O T m c));rw[aΤ];have:=h2 _ ß j (ac+1,0) #[m, qγ,hj] (by exact LqNx (Lqj Û Ϯ ϫ ø ø LqN0 rfl) (Lqj Û ϫ Ϯ ø ø LqN0 rfl));split;show cÅ;show cÆ
def wp_mLo (O:ĵ)(L:ϳ)(T:ϝ){st:jf}(hk:eÒ)(h: nĺ):wpS Φ A E s (mLo a b) Q st:=by
 rw[Fy];have na:=T.na;have nb:=T.nb;exact nĶ;exact aH (wp_elem pğ ?_);have h': lΖ:=mÃ;have m:MI less a.toList b.toList (#[c8 b 0]:Ú).toList 0 1:=by
  have m0:MI less a.toList b.toList (#[]:Ú).toList 0 0:=nĄ
  show Bc O T m0 pğ λ_=>O.le T.h0
 by_cases c:1=b.size;rw[aΡ];show aR (h' _ (xz T m (.inl (by exact Lqj [_] Lq0 ñ Lq0 ñ (LqNd c) rfl))));rw[aΤ];by_cases c2:0+1=a.size;rw[bò];show aR (h' _ (xy O T m c2));rw[bó];exact gŎ;exact aH (wpS_mono (cX (I:=λn c bN=>hŴ /\ m_ λo i j mg=>dU (c=(none,o,i,j,mg)) (hŵ) (n+1<=i+j)) (Q:=pſ) ?_ ?_ #[#[dÚ,rfl],_,0,1,_,rfl,#[m, ∅, (by exact Lqj [_] iê Lq0 iê Lq0 (LqNk nb c) rfl)], (by exact Lqj [] Ϣ Ϣ ø ø LqN0 rfl)]) ?_)
 .rintro n c bN _ hn ⟨hg,o,i,j,mg,rfl,J,hN⟩;unfold W7;dsimp only;have l5:eå:=by let⟨g,rfl⟩:=hg;show hk
  exact aH (wpS_mono (cX (I:=λx c nh=>nh=bN /\ m_ λo' i' j' d=>dU jŭ kø (aÊ=i+j+x)) (Q:=λc nh=>nh=bN /\ qθ) ?_ ?_ #[rfl,o,i,j,_,rfl,J,rfl]) ?_);rintro x c nh _ hx ⟨rfl,o',i',j',⟨ac,bc⟩,rfl,J',QU⟩;dsimp only;exact wp_one1 O L T l5 J' nμ λo2 i2 j2 c J2 h2=>#[#[rfl, .inr #[o2,i2,j2,c,rfl,J2, (by exact Lqj ϖ ϫ ξ (.a (.a μ Lq4) (.a kϤ ø)) (.a eè jŮ) (LqNp (LqNd QU) (LqNp (LqNd h2) Ϡ)) rfl)]],#[rfl,o2,i2,j2,c,rfl,J2, (by exact LqNx (Lqj ϖ μ nÀ (.a eè μ) (.a jŮ kϤ) mÄ rfl) (Lqj ϖ nÁ χ (.a jů kϤ) (.a eè χ) mÅ rfl))]]
  rintro c nh ⟨rfl,o',i',j',d,rfl,J',QU⟩;show#[rfl, .inr #[o',i',j',d,rfl,J', ∅]]
  .rintro c nh ⟨rfl,⟨x,d,rfl,hr⟩ | ⟨o',i',j',⟨ac,bc⟩,rfl,J',QU⟩⟩;show iΓ
   .dsimp only;exact nĶ;exact aH (wpS_mono (cX (I:=λx c qI=>hŷ /\ pϭ) (Q:=λc qI=>hŷ /\ qθ) ?_ ?_ #[hg,o',i',j',_,rfl,J',QU]) ?_)
    .rintro x c qI _ hx ⟨FR,o3,i3,j3,⟨mg3,ac3,bc3⟩,rfl,J3,Ed⟩;dsimp only;split;all_goals
      exact wpS_mono (wp_p1L O L T hk FR J3 Ed) ?_
      rintro r gM ⟨Tz,⟨x,c,rfl,hr⟩ | ⟨o,i,j,c,rfl | rfl,J4,h4⟩⟩
      show#[Tz, iô]
      show#[Tz, .inr #[o,i,j,c,rfl,J4,h4]]
      show#[Tz,o,i,j,c,rfl,J4,h4]
    rintro c qI ⟨FR,o3,i3,j3,d,rfl,J3,Ed⟩;show#[FR, .inr #[o3,i3,j3,d,rfl,J3,Ed]];rintro c qI ⟨FR,⟨x,d,rfl,hr⟩ | ⟨o3,i3,j3,⟨mg3,ac3,bc3⟩,rfl,J3,Ed⟩⟩;show iΔ;dsimp only;exact aH (wpS_modify (aR #[?_,o3,i3,j3,_,rfl,J3, (by exact Lqj Ŷ ϱ ο (.a ϒ (.a χ ñ)) (.a χ ο) eé rfl)]));let⟨g,rfl⟩:=FR;show Ļ
 rintro c bN ⟨hg,o,i,j,mg,rfl,J,hN⟩;have:=J.hi;have:=J.hj;lia;rintro c bN ⟨⟨g,rfl⟩,x,d,rfl,hr⟩;show fé
universe e
def vF (h:y∈hà): ∃n,dU (n<i) (n<xs.size) dØ:=by let⟨n,hn⟩:=aΞ;rw[List.getElem?_take] at hn;split at hn;have hl:=eá;have sy:n<xs.size:= á;rw[iS sy] at hn;show#[n, ∅,sy,eâ];cases hn
def CY (h:y∈kŦ k): ∃n,gy (k<=n) (n<i) (n<xs.size) dØ:=by rw[List.drop_take] at h;let⟨n,h1,h2,h3,e⟩:=xk h;show#[n,h1, ∅,h3,e]
def ZS (h0:1<=i)(h:i<=xs.size):kŦ ğ= [c8 xs ğ]:=by rw[List.drop_take,show i - ğ=1 by lia,yS ∅]
def oA (xs:Ú)(k i:Nat):(xs.extract k i).toList=kŦ k:=by rw[Array.toList_extract,List.extract_eq_take_drop,List.drop_take]
def Et (xs:Ú)(i:Nat):(xs.extract 0 i).toList=hà:=by rw[oA,List.drop_zero]
section
variable {prog:Program}{w:World}{A:Around}{E:Υ}{s:eY}{kd:SortKind}{a₀:Ú}{less:Τ}
structure JH (less:jî)(a b o:dÅ)(i j:Nat):Prop where
 mi:oŘ
 hi:1<=i
 hj:2<=j
 ia:cÇ
 jb:cÈ
variable {a b:Ú}
def oU (T:ϝ)(h:oŘ)(hj:i=0 \/ j=0):uK less a b fϙ:=by unfold uK LU;rw[cJ,cJ,Et,Et,Array.toList_reverse];exact mϐ;obtain hj | hj:=hj;subst hj;simp at hx;subst hj;simp at hy
def sj (O:ĵ)(T:ϝ)(h:oŘ)(hj:j=1):uK less a b (Vf a b o i j):=by
 unfold uK Vf;rw[cJ,cJ,Et,Et,Array.toList_reverse];have:=h.swap.fin T.sb T.sa λx hx y hy=>by let⟨n,n1,n2,rfl⟩:=vF hx;let⟨k,k1,k2,rfl⟩:=vF hy;rw[show n=0 by exact LqNx (Lqj Û Lq0 ø kϥ gŐ (LqNp (LqNe hj) n1) rfl) (oψ)];show O.trans _ _ _ (O.le T.h0) (nJ O T.sa (dm _) k2)
 show lĊ
def xC (O:ĵ)(T:ϝ){o:Ú}(h:oŘ)(h1:1<=i)(hi:cÇ)(hj:cÈ)(hc:1<=j ->nũ):MH less a.toList b.toList (o.push fϜ).toList.reverse ğ j:=by
 have:=h.OF T.sa (k:=aÈ) ∅ λx hx y hy=>by rw[ZS h1 hi] at hx;rw[bñ];let⟨k,k1,k2,rfl⟩:=vF hy;show O.trans _ _ _ (nJ O T.sb (show k<=à by lia) ∅) qŌ
 rw[ZS h1 hi] at this;rw[Array.toList_push,List.reverse_append];show this
def Dq (O:ĵ)(T:ϝ){o:Ú}(h:oŘ)(h1:1<=j)(hi:cÇ)(hj:cÈ)(hc:1<=i ->nŪ):MH less a.toList b.toList (o.push fϛ).toList.reverse i aΝ:=by have:=(h.swap.OF T.sb (k:=à) ∅ λx hx y hy=>by rw[ZS h1 hj] at hx;rw[bñ];let⟨k,k1,k2,rfl⟩:=vF hy;show O.trans _ _ _ (nJ O T.sa (show k<=aÈ by lia) ∅) qŌ).swap;rw[ZS h1 hj] at this;rw[Array.toList_push,List.reverse_append];show this
def Dl (o x:Ú):(o++x.reverse).toList.reverse=x.toList++o.toList.reverse:=by rw[cJ,Array.toList_reverse,List.reverse_append,List.reverse_reverse]
def Uz (less:Τ)(a b:Ú)(st:jf)(N:Nat)(r:eß)(bN:jf):Prop:=hŴ /\ (oŽ \/ (m_ λi j o c=>dU (r= .done fϝ \/ r= .yield fϝ) (hŸ) (aĊ)))
def wp_p3H (O:ĵ)(T:ϝ){st bN:jf}(hg: gř)(J:hŸ)(hc:nũ)(hN:aĊ):wpS Φ A E s (Z2 a b mg ac bc i j o) iõ bN:=by
 unfold Z2;have hi:=J.hi;have ia:=J.ia;exact iΕ;have m:=xC O T J.mi J.hi J.ia J.jb λ_=>hc;by_cases c:aÈ=0;rw[aΡ];show aR #[hg, .inl #[_,_,rfl,gŜ]];rw[aΤ];have J':JH less a b (o.push fϜ) ğ j:=#[m, pŲ,J.hj, ∅,J.jb]
 split;show aR #[hg, .inr #[_,_,_,_, Ķ,J', ∅]];show aR #[hg, .inr #[_,_,_,_, ĺ,J', ∅]]
def wp_p2H (O:ĵ)(L:ϳ)(T:ϝ){st bN:jf}(hk:eå)(hg: gř)(J:hŸ)(hc:nŪ)(hN:aĊ):wpS Φ A E s (Z4 a b mg ac bc i j o) iõ bN:=by
 unfold Z4;have hi:=J.hi;have hj:=J.hj;have ia:=J.ia;have jb:=J.jb;exact iΕ;have m:=Dq O T J.mi oů ia jb λ_=>hc;by_cases c:à=1;rw[aΡ];show aR #[hg, .inl #[_,_,rfl,sj O T m c]];rw [aΤ];exact iΕ;have sg:=xr O T.sb (i:=0) (n:=à) ∅;exact aH (wp_galL O L hk iö lΔ ∅ sg hŶ);dsimp only;simp![Nat.zero_add] at h2 h3;by_cases ck:cÃ >0;rw[am ck];have m2:MH less a.toList b.toList (o.push fϛ++mč).toList.reverse i k:=by rw[Dl,oA];exact(m.swap.OF T.sb oĖ hÜ).swap;let⟨n,n1,n2,n3,rfl⟩:=CY hx;let⟨k',k1,k2,rfl⟩:=vF hy;show O.trans _ _ _ (nJ O T.sa (show k'<=aÈ by lia) ∅) eê
 by_cases c2:k=1;rw[bò];show aR #[hg, .inl #[_,_,rfl,sj O T m2 c2]];rw[bó];by_cases c3:k=0;rw[am ⇑c3];show aR #[hg, .inl #[_,_,rfl,oU T m2 (.inr c3)]];rw[aj ⇑c3];show wp_p3H O T hg #[m2,hi, ∅,ia, ∅] (O.le há) ∅;rw[aj ck];show wp_p3H O T hg jó (O.le (h2 (à - 1) ∅)) ∅
def wp_p1H (O:ĵ)(L:ϳ)(T:ϝ){st bN:jf}(hk:eÒ)(hg: gř)(J:hŸ)(hN:aĊ):wpS Φ A E s (Z6 a b mg ac bc i j o) iõ bN:=by
 unfold Z6;have hi:=J.hi;have hj:=J.hj;have ia:=J.ia;have jb:=J.jb;exact ió;have J1: jŪ:=by let⟨g,rfl⟩:=hg;show#[mg,rfl]
 have l5:jò:=by let⟨g,rfl⟩:=hg;show hk
 exact iΕ;have sg:=xr O T.sa (i:=0) (n:=i) (by exact Lqj Û ϗ Lq1 Lq0 Lq1 ia rfl);exact aH (wp_galR O L l5 iø (λk hk=>#[qō,T.ma _ qō]) ∅ sg hŶ);dsimp only;simp![Nat.zero_add] at h2 h3;by_cases ck:i - k >0;rw[am ck];have m2:MH less a.toList b.toList (lō).toList.reverse k j:=by rw[Dl,oA];exact J.mi.OF T.sa oĖ hÜ;let⟨n,n1,n2,n3,rfl⟩:=CY hx;let⟨k',k1,k2,rfl⟩:=vF hy;show O.trans _ _ _ (nJ O T.sb (show k'<=à by lia) ∅) (O.le eê)
 by_cases c2:k=0;rw[bò];show aR #[J1, .inl #[_,_,rfl,oU T m2 (.inl c2)]];rw[bó];show wp_p2H O L T l5 J1 #[m2, (by exact Lqj [_] ñ Lq0 ñ Lq0 kŧ rfl),hj, (by exact Lqj Ğ Lq0 Lq1 υ ο (LqNp ia h1) rfl),jb] há (by exact Lqj ř μ Lq2 (.a eë Lq0) ξ (LqNp hN h1) rfl);rw[aj ck];show wp_p2H O L T l5 J1 J (h2 ğ ∅) hN
def wp_two1 (O:ĵ)(L:ϳ)(T:ϝ)(hk:eå)(J:hŸ)(h1: oŗ)(h2: ∀i' j' o c,JH less a b o i' j' ->aÊ+1=i+j ->Q (.done hâ) bN /\ Q (.yield hâ) bN): wpS Φ A E s (RD a b mg i j o ac bc) Q bN:=by
 unfold RD;have hi:=J.hi;have hj:=J.hj;have ia:=J.ia;have jb:=J.jb;exact aH (wp_elem ∅ (aH (wp_elem ∅ (aH (L _ _ _ _ iø iö hk ?_)))));dsimp only;cases e:less fϛ fϜ with
 | true=>simp![ci];exact iΕ;have m:=xC O T J.mi hi ia jb λ_=>O.le e;by_cases c:aÈ=0;rw[aΡ];show aR (h1 _ _ (gŜ));rw[aΤ];have:=h2 ğ j _ (ac+1,0) #[m, pŲ,hj, ∅,jb] ∅;split;show cÅ;show cÆ
 | false=>simp![aD,bB];exact iΕ;have m:=Dq O T J.mi oů ia jb λ_=>e;by_cases c:à=1;rw[aΡ];show aR (h1 _ _ (sj O T m c));rw[aΤ];have:=h2 i aΝ _ (0,bc+1) jó ∅;split;show cÅ;show cÆ
def wp_mHi (O:ĵ)(L:ϳ)(T:ϝ){st:jf}(hk:eÒ)(h: nĺ):wpS Φ A E s (mHi a b) Q st:=by
 rw[Fz];have na:=T.na;have nb:=T.nb;exact nĶ;exact iΕ;have h': lΖ:=mÃ;have m:MH less a.toList b.toList (#[c8 a eà]:Ú).toList.reverse eà b.size:=by
  have m0:MH less a.toList b.toList (#[]:Ú).toList.reverse a.size b.size:=nĄ
  show xC O T m0 (by exact Lqj [_] ñ Lq0 ñ Lq0 na rfl) õ õ λ_=>O.le (T.hl _ ∅)
 by_cases c:cŔ=0;rw[aΡ];show aR (h' _ (gŜ));rw[aΤ];by_cases c2:b.size=1;rw[bò];show aR (h' _ (sj O T m c2));rw[bó];exact gŎ;exact aH (wpS_mono (cX (I:=λn c bN=>hŴ /\ m_ λi j o mg=>dU (c=(none,i,j,o,mg)) (hŸ) (i+j+n<fä)) (Q:=pſ) ?_ ?_ #[#[dÚ,rfl],_,_,_,_,rfl,#[m, pŲ, (by exact Lqj [_] ý Lq0 iê Lq0 (LqNk nb (Ne.symm c2)) rfl), ∅, oχ], ∅]) ?_)
 .rintro n c bN _ hn ⟨hg,i,j,o,mg,rfl,J,hN⟩;unfold Nc;dsimp only;have l5:eå:=by let⟨g,rfl⟩:=hg;show hk
  exact aH (wpS_mono (cX (I:=λx c nh=>nh=bN /\ m_ λi' j' o' d=>dU jŰ kù (aÊ+x=i+j)) (Q:=λc nh=>nh=bN /\ qι) ?_ ?_ #[rfl,i,j,o,_,rfl,J,rfl]) ?_);rintro x c nh _ hx ⟨rfl,i',j',o',⟨ac,bc⟩,rfl,J',QU⟩;dsimp only;exact wp_two1 O L T l5 J' nμ λi2 j2 o2 c J2 h2=>#[#[rfl, .inr #[i2,j2,o2,c,rfl,J2, (by exact Lqj ϖ ϫ ξ (.a jű (.a ϫ ø)) (.a ξ jű) (LqNp (LqNe QU) (LqNp (LqNe h2) Ϡ)) rfl)]],#[rfl,i2,j2,o2,c,rfl,J2, (by exact LqNx (Lqj ϖ nÁ χ (.a jŲ ϫ) mĻ mÄ rfl) (Lqj ϖ μ nÀ (.a μ eè) (.a jų (.a ξ ñ)) mÅ rfl))]]
  rintro c nh ⟨rfl,i',j',o',d,rfl,J',QU⟩;show#[rfl, .inr #[i',j',o',d,rfl,J', ∅]]
  .rintro c nh ⟨rfl,⟨x,d,rfl,hr⟩ | ⟨i',j',o',⟨ac,bc⟩,rfl,J',QU⟩⟩;show iΓ
   .dsimp only;exact nĶ;exact aH (wpS_mono (cX (I:=λx c qI=>hŷ /\ pϮ) (Q:=λc qI=>hŷ /\ qι) ?_ ?_ #[hg,i',j',o',_,rfl,J',QU]) ?_)
    .rintro x c qI _ hx ⟨FR,i3,j3,o3,⟨mg3,ac3,bc3⟩,rfl,J3,Ed⟩;dsimp only;split;all_goals
      exact wpS_mono (wp_p1H O L T (N:=i+j - 1) hk FR J3 ∅) ?_
      rintro r gM ⟨Tz,⟨x,c,rfl,hr⟩ | ⟨i4,j4,o4,c,rfl | rfl,J4,h4⟩⟩
      show#[Tz, iô]
      show#[Tz, .inr #[i4,j4,o4,c,rfl,J4, ∅]]
      show#[Tz,i4,j4,o4,c,rfl,J4, ∅]
    rintro c qI ⟨FR,i3,j3,o3,d,rfl,J3,Ed⟩;show#[FR, .inr #[i3,j3,o3,d,rfl,J3,Ed]];rintro c qI ⟨FR,⟨x,d,rfl,hr⟩ | ⟨i3,j3,o3,⟨mg3,ac3,bc3⟩,rfl,J3,Ed⟩⟩;show iΔ;dsimp only;exact aH (wpS_modify (aR #[?_,i3,j3,o3,_,rfl,J3, (by exact Lqj ϖ (.a nÁ ñ) χ (.a (.a jŲ ñ) ϫ) mĻ eé rfl)]));let⟨g,rfl⟩:=FR;show Ļ
 rintro c bN ⟨hg,i,j,o,mg,rfl,J,hN⟩;have:=J.hi;have:=J.hj;lia;rintro c bN ⟨⟨g,rfl⟩,x,d,rfl,hr⟩;show fé
universe e
def CK (xs:Ú)(at_:Nat)(l:eV (hU×Nat)):Ú:=l.foldl (λa (p,j)=>a.setIfInBounds (at_+j) p) xs
theorem AL (at_ n:Nat): ∀ (ms:eV hU) (k:Nat) (xs:Ú),gŝ<=xs.size ->(CK xs at_ (ms.zipIdx k))[n]? =if at_+k<=n /\ n<gŝ then ms[dÛ]? else xs[n]?
 | [],k,xs,h=>by rw[eí];rfl
 | p ::ms,k,xs,h=>by rw[aT] at h;change(CK (xs.setIfInBounds (at_+k) p) at_ (ms.zipIdx Ü))[n]? =_;rw[AL at_ n ms Ü _ (by rw[Array.size_setIfInBounds];exact Lqj ř (.a ϭ Lq2) Lq3 nÁ Lq3 h rfl)];rw[aT];by_cases c:n=at_+k;subst c;rw[ö,am (by exact ⟨Lqj Û μ μ ø ø LqN0 rfl,Lqj Ğ ϫ nÁ ø Lq2 ϔ rfl⟩),Array.getElem?_setIfInBounds_self_of_lt (by exact Lqj ř ϫ Lq2 (.a (.a μ gő) ø) ξ (LqNp h Ϡ) rfl)];simp;rw[Array.getElem?_setIfInBounds_ne (aZ c)];by_cases c2:cÉ <=n /\ n<cÉ+ms.length;rw[am c2,am (by exact ⟨Lqj Ğ μ Lq2 ϭ Lq2 c2.1 rfl,Lqj ř ϒ (.a ο gő) ϒ (.a Ϭ Lq3) c2.2 rfl⟩),show dÛ=(n - (cÉ))+1 by lia,List.getElem?_cons_succ];rw[aj c2,ö]
def GS (h:fê<=xs.size):mÆ=iù++(ms++xs.toList.drop (fê)):=by
 apply List.ext_getElem?;intro n;have e:=AL at_ n ms 0 xs (by exact Lqj Ğ kϦ Lq2 μ Lq2 h rfl);rw[Nat.add_zero] at e;have e':mÆ[n]? =(iΖ)[n]? :=by simp
 rw[e',e];have hx: ∀k:Nat,xs.toList[k]? =xs[k]? :=λk=>Array.getElem?_toList ..;by_cases c1:n<at_;rw[ö,bi (by rw[bE];simp;lia),List.getElem?_take,aÄ,hx];have lt:(iù).length=at_:=by rw[bE];simp;lia
 rw[a5 (by exact Lqj Ğ Lq0 Lq1 υ ο (LqNp (LqNz c1) ((LqNe lt))) rfl),lt];by_cases c2:n<fê;rw[am (by exact ⟨Lqj Û Lq0 Lq1 Lq0 Lq1 (LqNz c1) rfl,Lqj Ğ ϒ ο ϒ ο c2 rfl⟩),bi ∅];rw[ö,a5 ∅,List.getElem?_drop,hx];congr 1;lia
def three (l:eV hU)(i j k:Nat)(iE:i<=j)(hjk:j<=k)(hk:k<=l.length):l=bê++(hŹ++(lΗ)):=by
 have e1:lΗ=bø:=by rw[List.drop_take];have:=bD (k - j) (bø);rw[List.drop_drop,show j+(k - j)=k by lia] at this;show this
 have e2:hŹ++bø=bë:=by rw[List.drop_take];have:=bD (j - i) (bë);rw[List.drop_drop,show i+(j - i)=j by lia] at this;show this
 rw[e1,e2,bD]
def Km (O:ĵ){i j lo hi:Nat}(h:hã)(h1:aÂ)(h2:j<=hi)(h3:hi<=xs.size):(fϞ).toList.Pairwise Ś:=by
 rw[bS];intro x y hx hy hxy;have e: ∀n (hn:n< (fϞ).toList.length),(fϞ).toList[n]=dÜ:=λn hn=>by
  have N7:n< jŴ:=by rw[dP] at hn;show hn
  rw[Array.size_extract] at N7;unfold c8;rw[getElem?_pos xs (i+n) ∅];simp
 rw[e x hx,e y hy];have Xz:y< jŴ:=by rw[dP] at hy;show hy
 rw[Array.size_extract] at Xz;show h _ _ (by exact Lqj Ğ Lq0 ο ϕ ο lω rfl) (by exact Lqj Ğ μ ς ϑ Lq2 hxy rfl) ∅
def m7 (h:n< jŴ):c8 (fϞ) n=dÜ:=by unfold c8;rw[Array.size_extract] at h;rw[Array.getElem?_extract,am pũ]
abbrev Rn:=fã
theorem SX (i:Nat):mergeAt' i=(do
 let s <- get
 let (some cŖ,some (sb,nb,_)):=((dÝ)[i]?,(dÝ)[i+1]?) | unsupported "internal:list.sort.pending"
 set (setPending s (((dÝ).setIfInBounds i fë).eraseIdxIfInBounds ß))
 let some k <- Oo false (<- elem' cÊ sb) cÊ sa na 0 | return false
 let (sa,na):=(Ã,aċ)
 if na==0 then return true
 let some nb <- Oo true (<- elem' cÊ (sa+na - 1)) cÊ sb nb (nb - 1) | return false
 if nb==0 then return true
 let x:=hź sa sb
 let y:=hź sb aΥ
 let r <- if na<=nb then mLo x y else mHi x y
 modify λs=>setArr s (CK cÊ sa r.toList.zipIdx)
 return lŎ):=rfl
def L4 {st:σ}(h:Q ⟨⟩ v):wpS M A E s (set v:StateT σ Sem PUnit) Q st:=by unfold wpS;rw[StateT.run_set];show aN #[rfl,h]
def wp_mAt (O:ĵ)(L:ϳ){st:jf}{l1 l2:aË}(B:Θ)(hp:eØ=(l1++cŖ::dÞ::l2).toArray)(hi:dß)(NV:sb=sa+na)(h1:1<=na)(h2:1<=nb)(hz:sb+nb<=a₀.size)(s1:Sg less ŧ sa sb)(s2:Sg less ŧ sb aΥ)(h: ∀bN,fß ->eÖ=mŴ ->Sg less ũ sa aΥ ->rR sa aΥ ŧ ũ ->bϳ):oï:=by
 subst hi;rw[SX];exact gŎ;have p1:(eØ)[l1.length]? =some cŖ:=by rw[hp];simp
 have p2:(eØ)[dà]? =some dÞ:=by rw[hp];simp[a5]
 rw[p1,p2];dsimp only;exact aH (L4 ?_);have hpd:((eØ).setIfInBounds l1.length fë).eraseIdxIfInBounds (dà)=mŴ:=by rw[hp];simp![List.setIfInBounds_toArray,List.eraseIdxIfInBounds_toArray];congr 1;rw[List.set_append_right _ _ õ,Nat.sub_self,List.set_cons_zero];rw[List.eraseIdx_append_of_length_le (by exact oϏ),show dà - l1.length=1 by lia];rfl
 rw[hpd];let Fb:jf:=setPending st mŴ
 have B1:SB kd a₀ Fb:=#[B.perm,B.kd,B.fl]
 have hsz:=B.size;change wpS _ _ _ _ _ Q Fb;exact aH (wp_elem (by exact Lqj ř ϒ Lq1 nÂ jŶ mϑ rfl) ?_);exact aH (wp_galR O L B.kd (B.mem (by exact Lqj Ğ ϒ Lq1 (.a ñ ς) τ (LqNp h2 hz) rfl)) (λk hk=>#[∅,B.mem (by exact Lqj Ι ϫ Lq2 (.a ν (.a ñ (.a eì ϑ))) (.a Lq4 (.a Lq5 ξ)) (LqNp cË (LqNp h2 eî)) rfl)]) pĜ (by rw[<- NV];show s1) λk g1 g2 g3=> ?_);dsimp only;by_cases c1:aċ=0;rw [am ⇑c1];exact oř;change oė;by_cases c2:j<sb;show gŞ;by_cases c3:sb<=i;show gş;have:=g2 (i - sa) ∅;rw[show sa+(i - sa)=i by lia] at this;show O.trans _ _ _ this (s2 sb j õ (by exact Lqj Û Lq0 Lq1 Lq0 Lq1 (LqNz c2) rfl) hj);rw [aj ⇑c1];exact iΕ;rw[show Ã+(aċ) - 1=aČ by lia];exact aH (wp_galL O L B.kd (B.mem ∅) (λk hk=>#[(by exact Lqj Ŷ ϫ Lq2 oð jŷ (LqNp hz (LqNp cŗ hk)) rfl),B.mem (by exact Lqj ř ϫ Lq2 mϹ ξ eî rfl)]) ∅ s2 λm f1 f2 f3=> ?_);dsimp only;by_cases c2:m=0;rw [bò];exact oř;change oė;by_cases c2:j<sb;show gŞ;by_cases c3:sb<=i;show gş;have:=f3 (j - sb) ∅ ∅;rw[show sb+(j - sb)=j by lia] at this;show O.trans _ _ _ (s1 i (aČ) hi ∅ ∅) this;rw [bó];have NR:(mÇ).size=aċ:=by rw[Array.size_extract];lia
 have JK:(mÈ).size=m:=by rw[Array.size_extract];lia
 have T:w5 less a₀ (mÇ) (mÈ):=by exact#[Km O s1 pž õ (by exact Lqj ř Lq0 Lq1 nÂ jŶ mϑ rfl),Km O s2 õ (by exact Lqj Ğ μ ς Lq1 Lq2 f1 rfl) (by exact Lqj ř μ Lq2 (.a μ Lq3) eï kú rfl),dÎ,dÎ, (by exact Lqj Û ñ Lq0 ϑ μ oñ rfl), (by exact Lqj Û ñ Lq0 ϑ μ oò rfl),?_,dÍ];rw[m7 hi];rw[NR] at hi;show B.mem ∅;rw[m7 hi];rw[JK] at hi;show B.mem (by exact Lqj Ŷ ϫ Lq2 oð jŸ (LqNp hz (LqNp f1 hi)) rfl);rw[m7 (by exact Lqj Û Ϣ Lq0 ϑ μ oò rfl),m7 (by exact Lqj Û Ϣ Lq0 ϑ μ oñ rfl)];show g3 k õ ∅;rw[m7 hj,m7 ∅];rw[JK] at hj;rw[NR,show Ã+(aċ - 1)=aČ by lia];show f2 j hj
 have fin : ∀ (r:Ú) (g:Nat),uK less (mÇ) (mÈ) r ->wpS Φ A E s (do modify λs=>setArr s (CK cÊ ač r.toList.zipIdx);return lŎ) Q cÌ:=by
  rintro r g ⟨rp,rs⟩;have rl:r.toList.length=sb+m - ač:=by
   rw[rp.length_eq,aM];have e1:(mÇ).toList.length=aċ:=by rw[dP];show NR
   have e2:(mÈ).toList.length=m:=by rw[dP];show JK
   rw[e1,e2];lia
  have wl:=GS (xs:=bå) (at_:=Ã) (ms:=r.toList) iΗ;rw[rl,nū] at wl;have wa: ∀n,oĘ=if Ã<=n /\ n<sb+m then(r.toList[n - ač]?).getD fϐ else c8 ŧ n:=λn=>by have e:=AL ač n r.toList 0 ŧ iΗ;rw[Nat.add_zero,rl,nū] at e;unfold c8;rw[e];split<;>rfl
  have wm: ∀n,Ã<=n ->n<sb+m -> ∃n',dU (Ã<=n') (n'<sb+m) (oĘ=c8 ŧ n'):=λn n1 n2=>by rw[wa,am #[n1,n2],aĎ];have hm:=rp.mem_iff.mp (c5 (l:=r.toList) (n:=n - ač) ∅);obtain hm | hm:=au.mp hm;rw[oA] at hm;let⟨q,q1,q2,q3,e⟩:=CY hm;show#[q,q1, (by exact Lqj Ğ ϒ ο ϱ ο (LqNp q2 (kŧ)) rfl),e];rw[oA] at hm;let⟨q,q1,q2,q3,e⟩:=CY hm;show#[q, (by exact Lqj Ŷ μ Lq2 (.a ν eð) (.a Lq4 eï) (LqNp cË (LqNp g1 q1)) rfl),q2,e]
  exact ió;exact aH (wpS_get (aR ?_));have ef:(failedOf (setArr cÌ (CK (arrOf cÌ) ač r.toList.zipIdx))).isNone=true:=by change(dÆ).isNone=true;rw[B.fl];rfl
  rw[ef];exact h _ #[?_,B.kd,B.fl] rfl (iυ) (λn hn=> ?_);change(nĻ).Perm a₀;exact Array.Perm.trans ?_ B.perm;rw[Array.perm_iff_toList_perm,wl];have e3:=three (bå).toList ač sb (sb+m) (by exact Lqj ř μ Lq2 jš ξ (LqNp cË g1) rfl) pž (by simp;exact Lqj Ŷ μ Lq2 (.a ν (.a Lq4 Lq1)) jŷ (LqNp hz (LqNp cŗ f1)) rfl);exact List.Perm.trans ?_ (List.Perm.of_eq e3.symm);exact lŌ;rw[<- cy];exact List.Perm.append_right _ ?_;rw[oA,oA] at rp;show rp;change LE less (c8 (nĻ) i) (c8 (nĻ) j);have NO: ∀x y,sa<=x ->x<Ã ->Ã<=y ->pÇ:=λx y x1 x2 y1 y2=>by by_cases c:y<sb;show s1 x y x1 qľ c;have:=g2 (x - sa) ∅;rw[show sa+(x - sa)=x by lia] at this;show O.trans _ _ _ this (s2 sb y õ oω y2)
  have abl: ∀x y,Ã<=x ->x<sb+m ->sb+m<=y ->pÇ:=λx y x1 x2 y1 y2=>by by_cases c:x<sb;have:=f3 (y - sb) ∅ ∅;rw[show sb+(y - sb)=y by lia] at this;show O.trans _ _ _ (s1 x (aČ) (by exact Lqj Ğ Lq0 Lq1 (.a ς ø) ο (LqNp x1 Ϡ) rfl) ∅ ∅) this;show s2 x y oω qľ y2
  by_cases i1:i<Ã;have ei:=wa i;rw[ö] at ei;rw[ei];by_cases j1:j<Ã;have ej:=wa j;rw[ö] at ej;rw[ej];show s1 i j hi iE (by exact Lqj Ŷ ϒ Lq1 (.a ξ (.a Lq4 ϒ)) (.a Lq1 (.a Lq3 eñ)) (LqNp cË (LqNp g1 j1)) rfl);by_cases j2:j<sb+m;let⟨n',n1,n2,e⟩:=wm j (by exact Lqj Ğ μ Lq2 μ Lq2 (LqNz j1) rfl) j2;rw[e];show NO i n' hi i1 n1 (by exact Lqj ř ϒ ο (.a Lq3 ϒ) jź (LqNp f1 n2) rfl);have ej:=wa j;rw[ö] at ej;rw[ej];show NO i j hi i1 (by exact Lqj Ι μ Lq2 (.a ν (.a Lq1 (.a eì ñ))) (.a Lq4 (.a Lq3 eò)) (LqNp cË (LqNp g1 (LqNp (LqNz j2) (kŧ)))) rfl) hj;by_cases i2:i<sb+m;by_cases j2:j<sb+m;rw[wa i,wa j,am (by exact ⟨pĠ,Lqj Ğ ϒ ο ϒ ο i2 rfl⟩),am (by exact ⟨Lqj ř μ Lq2 (.a Lq3 μ) ξ (LqNp iE ((LqNz i1))) rfl,Lqj Ğ ϒ ο ϒ ο j2 rfl⟩),aĎ,aĎ];by_cases cij:i=j;subst cij;show ķ;show bS.mp rs _ _ ∅ ∅ ∅;let⟨n',n1,n2,e⟩:=wm i (by exact pĠ) i2;have ej:=wa j;rw[ö] at ej;rw[e,ej];show abl n' j n1 n2 (by exact Lqj Ğ μ Lq2 μ Lq2 (LqNz j2) rfl) hj;have ei:=wa i;have ej:=wa j;rw[ö] at ei ej;rw[ei,ej];show s2 i j (by exact Lqj Ğ Lq0 Lq1 kϟ ο (LqNp (LqNz i2) (kŧ)) rfl) iE hj;change oĘ=_;rw[wa n,ö]
 by_cases c3:aċ<=m;rw[am c3];show aH (wp_mLo O L T B.kd jô);rw[aj c3];show aH (wp_mHi O L T B.kd jô)
def Runs (less:Τ)(xs:Ú):aË ->Nat ->Nat ->Prop
 | [],lo,hi=>lo=hi
 | (a,n,_)::r,lo,hi=>a=lo /\ 1<=n /\ Sg less xs lo ó /\ Runs less xs r ó hi
theorem Runs.le {less:Τ}{xs:Ú}: ∀ {l:aË} {lo hi:Nat},jõ ->lo+l.length<=hi
 | [],lo,hi,h=>fώ
 | cŘ,lo,hi,h=>by have:=Runs.le h.2.2.2;have:=h.2.1;rw[aT];lia
theorem Runs.app {less:Τ}{xs:Ú}: ∀ {l1 l2:aË} {lo hi:Nat},Runs less xs (l1++l2) lo hi↔ ∃m,Runs less xs l1 lo m /\ Runs less xs l2 m hi
 | [],l2,lo,hi=>#[λh=>#[lo,rfl,h],(by rintro ⟨m,e,h⟩;exact by cases e;show h)]
 | cŘ,l2,lo,hi=>by symm;rintro⟨h1,h2,h3,h4⟩;let⟨m,a1,a2⟩:=Runs.app.mp h4;show#[m,#[h1,h2,h3,a1],a2];rintro⟨m,⟨h1,h2,h3,a1⟩,a2⟩;show#[h1,h2,h3,Runs.app.mpr #[m,a1,a2]]
theorem Runs.out {less:Τ}{xs ys:Ú}{e1 e2:Nat}(o:fϟ): ∀ {l:aË} {lo hi:Nat},(hä) ->jõ ->Runs less ys l lo hi
 | [],lo,hi,_,h=>h
 | cŘ,lo,hi,hc,⟨h1,h2,h3,h4⟩=>by have:=Runs.le h4;exact#[h1,h2,iυ,Runs.out o ∅ h4];rw[o i ∅,o j ∅];show h3 i j hi iE hj
theorem HF {e1 e2 lo hi:Nat}(o:fϟ)(hc:hä)(h:hã):Sg less ys lo hi:=λi j hi iE hj=>by rw[o i ∅,o j ∅];show h i j hi iE hj
def Ha {l:Ý}(h:2<=l.length):gL λl1 x y=>l=l1++ aÌ:=by exact#[l.take (eó),l[eó],l[eô],?_];have:=bD (eó) l;rw[eB ∅,eB ∅,List.drop_eq_nil_of_le ∅] at this;have e:eó+1=eô:= ∅;simp![e] at this;show this.symm
theorem Dc {α:Type}{l:Ý}(h:aΦ): ∃l1 x,l=l1++ [x]:=#[l.dropLast,l.getLast h,(List.dropLast_concat_getLast h).symm]
def zA (l1:aË)(x:Rn)(f:Rn ->Rn):(l1++ [x]).modify l1.length f=l1++ [f x]:=by
 induction l1 with
 | nil=>rfl
 | cons a l ih=>rw[List.cons_append,aT,List.modify_succ_cons,ih];rfl
def wp_mR (O:ĵ)(L:ϳ){st:jf}{x y:Rn}{i lo:Nat}(B:Θ)(hp:eØ=(eõ).toArray)(hi:dß)(hz:fì)(R:Runs less ŧ (eõ) 0 lo)(h: ∀bN z,fß ->eÖ=(l1++z::l2).toArray ->Runs less ũ (l1++z::l2) 0 lo ->rR 0 lo ŧ ũ ->bϳ):oï:=by let⟨sa,na,pw⟩:=x;let⟨sb,nb,pw2⟩:=y;let⟨m,r1,rfl,h1,s1,rfl,h2,s2,r2⟩:=Runs.app.mp R;have Oa:=r2.le;exact wp_mAt O L B hp hi rfl h1 h2 (by exact Lqj Ι jů Lq3 (.a Lq4 (.a (.a jů Lq5) ø)) jŻ (LqNp hz (LqNp Oa Ϡ)) rfl) s1 s2 λbN B' QG s' o'=>h bN _ B' QG ?_ λk hk=>o' k ∅;exact Runs.app.mpr #[_,r1.out o' fí,rfl, (by exact Lqj Û ñ μ (.a ñ ø) μ lω rfl),?_,?_];rw[<- Nat.add_assoc];show s';rw[<- Nat.add_assoc];show r2.out o' (.inr õ)
def zg {a n p q lo hi:Nat}(h:Runs less xs (l1++ [(a,n,p)]) lo hi):Runs less xs (l1++ [(a,n,q)]) lo hi:=by let⟨m,r1,h1,h2,h3,h4⟩:=Runs.app.mp h;show Runs.app.mpr #[m,r1,h1,h2,h3,h4]
def wp_sort (O:ĵ)(L:ϳ){st:jf}(B:Θ)(hp0:eØ= #[])(h2:2<=a₀.size)(h: ∀bN,(bç).Perm a₀ ->hå ->Sg less ũ 0 a₀.size ->Q () bN):wpS Φ A E s sortRuns' Q st:=by
 rw[sortRuns'_eq];exact gŎ;dsimp only;simp![B.size];generalize minRun' a₀.size a₀.size 0=mr;exact aH (wpS_mono (cX (I:=λx c bN=>c7 λlo pl=>nD (c=(none,lo)) (x<=lo) (fì) (fß) (kŨ) (Runs less ũ pl 0 lo)) (Q:=λc bN=> ∃pl,gy (c=(none,a₀.size)) (fß) (kŨ) (nĠ)) ?step ?fin #[0,[],rfl,Á,dm _,B,hp0,rfl]) ?post);case fin=>
  rintro c bN ⟨lo,pl,rfl,h1,LP,B',hp,R⟩
  have:eö:= ∅
  subst this
  show hŻ
 case step =>
  rintro x c bN _ hx ⟨lo,pl,rfl,h1,LP,B',hp,R⟩
  dsimp only
  by_cases c1:lo≥a₀.size
  rw[aÄ]
  have:eö:= (by exact LqNx (Lqj Û Lq0 Lq1 Lq0 Lq1 LP rfl) (mΩ))
  subst this
  show aR hŻ
  rw[aÅ]
  exact aH (wp_run O L ∅ ∅ B' λm nh B2 m1 m2 s2 p2 o2=> ?_)
  dsimp only
  have R2:Runs less (arrOf nh) pl 0 lo:=R.out o2 fí
  by_cases c2:m<mr
  rw [am c2]
  exact nĶ
  exact aH (wp_bin O L ∅ ∅ B2 s2 λqI B3 s3 p3 o3=> ?_)
  simp![Bool.not_true,aD,bB]
  have R3:=R2.out o3 fí
  have n1:1<=kũ:= ∅
  have n2:lo+kũ<=a₀.size:= ∅
  rw[p2,hp] at p3
  clear o3
  revert s3 n1 n2
  generalize kũ=n
  intro s3 n1 n2
  exact gŎ
  cases hb:jö with
  | none=>dsimp only;exact rÊ;change mļ;rw[p3];simp
  | some q=>
   let⟨s1,SU,p1⟩:=q;dsimp only;have c6:bú:=λe=>by subst e;rw[p3] at hb;simp at hb
   exact rÛ;rintro y c gM _ hy ⟨rfl,xF,ne4,B4,s4,p4,R4⟩;exact gŎ;by_cases c2:iΘ >1;rw[am c2];have hl:eú:=by rw[p4] at c2;simp at c2;exact ož
   let⟨l1,u,v,e4⟩:=Ha hl;have e5:nÄ:=by rw[p4,e4];simp
   have e6:oſ:=by rw[e5,p4,e4];simp
   rw[e6];let⟨u1,u2,u3⟩:=u;dsimp only;split;show mÉ;subst e4;exact qſ;simp![Bool.not_true,aD,bB];show oϘ;rw[aj c2];show mÉ;rintro c gM ⟨rfl,xF,ne4,B4,s4,p4,R4⟩;dsimp only;exact oÔ;let⟨l1,fϠ,rfl⟩:=Dc ne4;exact rØ;change pų;rw[p4];simp![List.modify_toArray,List.push_toArray,a7];congr 2;rw[aM,bT,Nat.add_sub_cancel];show zA l1 _ _
  rw [aj c2]
  have s3:=s2
  have n1:=m1
  have n2:lo+m<=a₀.size:= ∅
  have p3:pendingOf nh=pl.toArray:=by rw[p2,hp]
  have B3:=B2
  have R3:=R2
  clear p2 o2 B2 R2 s2 m1 m2 c2
  revert s3 n1 n2
  generalize m=n
  intro s3 n1 n2
  revert p3 B3 R3 s3
  generalize nh=qI
  intro p3 B3 R3 s3
  exact gŎ
  cases hb:jö with
  | none=>dsimp only;exact rÊ;change mļ;rw[p3];simp
  | some q=>
   let⟨s1,SU,p1⟩:=q;dsimp only;have c6:bú:=λe=>by subst e;rw[p3] at hb;simp at hb
   exact rÛ;rintro y c gM _ hy ⟨rfl,xF,ne4,B4,s4,p4,R4⟩;exact gŎ;by_cases c2:iΘ >1;rw[am c2];have hl:eú:=by rw[p4] at c2;simp at c2;exact ož
   let⟨l1,u,v,e4⟩:=Ha hl;have e5:nÄ:=by rw[p4,e4];simp
   have e6:oſ:=by rw[e5,p4,e4];simp
   rw[e6];let⟨u1,u2,u3⟩:=u;dsimp only;split;show mÉ;subst e4;exact qſ;simp![Bool.not_true,aD,bB];show oϘ;rw[aj c2];show mÉ;rintro c gM ⟨rfl,xF,ne4,B4,s4,p4,R4⟩;dsimp only;exact oÔ;let⟨l1,fϠ,rfl⟩:=Dc ne4;exact rØ;change pų;rw[p4];simp![List.modify_toArray,List.push_toArray,a7];congr 2;rw[aM,bT,Nat.add_sub_cancel];show zA l1 _ _
 case post =>
  rintro c bN ⟨pl,rfl,B',hp,R⟩
  dsimp only
  have Oa:=R.le
  exact aH (wpS_mono (cX (I:=λx c gM=>dÌ /\ ∃pl,gy gŠ lČ nŬ (eû \/ pl.length+x<=a₀.size)) (Q:=λc gM=>dÌ /\ ∃pl,dU gŠ nŬ (eû)) ?_ ?_ #[rfl,pl,B',hp,R, .inr (by exact Lqj Û ϕ Lq1 ϗ Lq1 Oa rfl)]) ?_)
  rintro x c gM _ hx ⟨rfl,xF,B4,p4,R4,hl⟩
  exact gŎ
  have esz:iΘ=xF.length:=by rw[p4];simp
  by_cases c1:iΘ<=1
  rw[aÄ]
  show aR #[rfl,xF,B4,R4, (by exact Lqj Û Lq0 ñ μ ϑ (LqNp (LqNd esz) c1) rfl)]
  rw [aÅ]
  generalize afd:Option.any _ _=cnd
  have mk: ∀k,k+2<=xF.length -> ∀ (Q':ForInStep (fî) ->jf ->Prop),(∀bN pl,fß ->kŨ ->nĠ ->(eû \/ pl.length+(x+1) <=a₀.size) ->Q' (.yield bϴ) bN) ->wpS Φ A E s (do
    let b <- mergeAt' k
    if(!b)=true then pure (ForInStep.done ((some (),()):fî)) else mϊ) Q' gM:=by
   intro k hk Q' hQ
   have e:=bD k xF
   rw[eB (by exact Lqj Û ϒ Lq1 gš Lq1 hk rfl),eB (by exact Lqj Û ϱ Lq1 gš Lq1 hk rfl)] at e
   have l5:(xF.take k).length=k:=by rw[bE];lia
   rw[<- e] at p4 R4
   exact aH (wp_mR O L B4 p4 l5.symm õ R4 kū)
   simp![Bool.not_true,aD,bB]
   exact aR (hQ _ _ B5 p5 R5 (.inr ?_))
   rw[aM,l5,aT,List.length_drop]
   lia
  cases cnd with
  | true=>simp![ci];show mk (kŪ - 1) ∅ _ oó
  | false=>simp![aD,bB];show mk (kŪ) ∅ _ oó
  rintro c gM ⟨rfl,xF,B4,p4,R4,hl⟩
  show#[rfl,xF,B4,R4, ∅]
  rintro c gM ⟨rfl,xF,B4,R4,hl⟩
  exact aR (h _ B4.perm B4.fl ?_)
  match xF,R4,hl with
  | [],R4,_=>show absurd R4 (by change ¬(0=a₀.size);exact λe=>Lqg [_] (.a ý Lq0) ϕ (LqNp h2 cŕ) rfl)
  | [(u1,u2,u3)],⟨_,_,h3,h4⟩,_=>have h4:0+u2=a₀.size:=h4;rw[h4] at h3;show h3
  | _::_::_,_,hl=>simp at hl
def Fw (h:Heap)(a:fR)(vs:â):Heap:=((h.update a (Obj.mapSeq λ_=> #[])).push (seqObj aΧ vs.toArray 0)).push (seqObj ÿ #[] 0)
def Ny (ho:ļ=nÅ):(Fw h a vs).get? a=some (seqObj ÿ #[] (if((#[]:aÍ)).size==vs.toArray.size then n else n+1)):=by have ha:=aJ ho;unfold Fw;rw[Heap.get?_push_ne _ _ _ (by rw[size_push',Heap.size_update];show a_ (Nat.lt_succ_of_lt ha)),Heap.get?_push_ne _ _ _ (by rw[Heap.size_update];show a_ ha)];show mĽ
def HC (O:ĵ)(ho:fï=nÅ)(hsz:iΙ)(hk:2<=vs.length -> ∀ (Q:SortKind ->bϯ),Q kd mĎ ->wpAny Φ A (keyKind' vs.toArray) Q E mĎ)(L:jS prog w A E mĎ kd (cŚ) less)(h: ∀ (us:â),us.Perm vs ->us.Pairwise (λx y=>less (y,y) (x,x)=false) ->P jø {s with heap:=sortedHeap s.heap a vs us.toArray}): pŴ:=by
 rw[list_sort_plain];exact ak (listItems_at ho rfl ?_);exact ak (listUpdate_at ho rfl ?_ (hsz:= ⇑hsz));exact ak (seqEpoch_at (mĽ) rfl ?_);exact ak (wpAny_newTuple ?_);exact ak (wpAny_newList ?_);exact wpAny_holding ?_;have _q:=Ny ho;change wpAny Φ A _ P E mĎ;dsimp only;have fin: ∀xs:Ú,xs.Perm (cŚ) ->Sg less xs 0 hż ->P jø {s with heap:=sortedHeap s.heap a vs (xs.map aď)}:=by
  intro xs hp hs;have hl:xs.toList.Perm (vs.zip vs):=by rw[<- pairsOf_toList];show Array.perm_iff_toList_perm.mp hp
  have vb: ∀p,p∈xs.toList ->p.1=p.2 /\ p.1∈vs:=λp QG=>mem_zip_self (hl.mem_iff.mp QG);have:=h kû ?_ ?_;have e:(jù).toArray=xs.map aď:=by apply Array.toList_inj.mp;simp
  rwa [e] at this;have h1:=hl.map (λp:hU=>p.2);rwa [List.map_snd_zip õ] at h1;rw[bS];intro i j hi hj iE;have uT:bϭ:= ⇑hi;have jR:j<xs.size:= ⇑hj;have h1:=hs i j (dm _) (Nat.le_of_lt iE) (by rw[<- hp.size_eq];show jR);have e1:aΕ=(kû[i],kû[i]):=by rw[List.getElem_map];have hm:=yq uT;have e:=iS uT;rw[aq ⇑uT] at e;have e:=bC e;rw[e];show kϧ
  have e2:c8 xs j=(kû[j],kû[j]):=by rw[List.getElem_map];have hm:=yq jR;have e:=iS jR;rw[aq ⇑jR] at e;have e:=bC e;rw[e];show kϧ
  rw[e1,e2] at h1;show h1
 have afq:vs.toArray.size=vs.length:=by simp
 by_cases h2:vs.toArray.size<2;rw[am h2,am h2];exact cś;rw[StateT.run_pure];exact cś;dsimp only;exact lŏ;exact ak (listUpdate_at _q rfl ?_ (hsz2:=by rw[Array.size_map];change hż<=_;rw[pairsOf_size];exact Lqj Ğ Lq0 ϑ (.a Lq0 (.a ϓ ø)) (.a Lq2 gŢ) (LqNp (LqNd afq) (LqNp h2 Ϡ)) rfl));simp![bne_self_eq_false,aD,bB];exact aN (fin (cŚ) (hŽ) ?_);intro i j _ iE hj;have:i=j:=by rw[pairsOf_size] at hj;exact LqNx nü (Lqj ř Lq0 Lq1 (.a Lq2 (.a gő lψ)) (.a Lq3 (.a ý τ)) (LqNp (LqNd afq) (LqNp h2 (LqNp hj Ϡ))) rfl)
 subst this;show ķ;rw[aj h2,aj h2];exact ak (hk (by exact qÎ) _ ?_);exact ak (bK (wp_sort O L (st:=SortSt.mk' kd (vs.toArray.zip vs.toArray) #[] 7 none) (Q:=λ_ bN=>(bç).Perm (cŚ) /\ hå /\ Sg less ũ 0 hż) #[hŽ,rfl,rfl] rfl (by rw[pairsOf_size];exact qÎ) λbN a1 a2 a3=>#[a1,a2,a3]) ?_ cŜ);rintro⟨⟨⟩,bN⟩ s' ⟨rfl,hp,hf,hs⟩;dsimp only;exact lŏ;exact ak (listUpdate_at _q rfl ?_ (hsz2:=by exact aI (Nat.le_of_eq ((Array.size_map ..).trans (hp.size_eq.trans (pairsOf_size _)))) ?_;exact Lqj Û Lq0 ϑ Lq0 Lq1 hsz rfl));rw[hf];simp![bne_self_eq_false,aD,bB];show aN (fin _ hp hs)
def tY (x y:hU):Bool:=decide (numOf x.1<numOf y.1)
def aa4:Ord tY:=by exact#[λx y h=> ?_,λx y z h1 h2=> ?_];unfold tY at*;rw[cQ] at h;show cb (by exact LqIm (oę));unfold LE tY at*;rw[decide_eq_false_iff_not] at*;exact LqIm (Lqi Ğ Lq0 Lq1 ς τ (LqIp cÍ ((LqIz h2))) rfl)
def ltI {a₀:Ú}(h0:IntKeys a₀):jS prog w A E s oneType' a₀ tY:=by
 intro x y st Q hx hy hk hq;let⟨n,t,e1⟩:=h0 x hx;let⟨m,u,e2⟩:=h0 y hy;rw[lt'_eq];exact gŎ;rw[hk,keyLt'_oneType,e1,e2];exact aH (wpS_lift (wpAny_attempt (oneLt_int bϲ)));have e:tY x y=decide (n<m):=by unfold tY;rw[e1,e2];rfl
 rw[e] at hq;show aR hq
def vI (ho:fï=nÅ)(hI:fð)(hsz:iΙ)(h: ∀ (out:aÍ) (Np:ā),IntsAre out.toList Np ->Np.Perm ns ->Np.Pairwise cŝ ->P jø {s with heap:=sortedHeap s.heap a vs out}): pŴ:=by
 exact HC aa4 ho hsz (kd:=oneType') (λh2 Q hq=> ?_) (ltI hI.intKeys) λus hp hs=> ?_;let⟨v₁,v₂,rest,rfl⟩:gL λv₁ v₂ rest=>vs=hæ:=by
  match vs,h2 with
  | [],h2=>simp at h2
  | [_],h2=>simp at h2
  | hæ,_=>show#[v₁,v₂,rest,rfl]
 rw[keyKind_ints hI];show aN hq;have B9: ∀v,v∈us -> ∃n t,v= .int n t:=λv hv=>hI.all v (hp.mem_iff.mp hv);exact h us.toArray (us.map numOf) ⇑(intsAre_map us B9) ?_ ?_;have:=hp.map numOf;rwa [hI.nums] at this;rw[cB];exact hs.imp λ{x y} e=> ?_;unfold tY at e;rw[decide_eq_false_iff_not] at e;simp only at e;exact Lqi Û Lq0 Lq1 Lq0 Lq1 (LqIz e) rfl
universe TS
namespace L2
open PySem PySem.Spec PyProof.Rows
abbrev cF:=Sum Int Str
def pj:cF ->eX ->Bool
 | aĐ,v=>Value.isInt k v
 | ađ,v=>Value.isStrOf x v
def abk (w:World):cF ->Int
 | aĐ=>hashInt k
 | ađ=>hashStr w x
theorem d9: ∀ {k:cF} {v:eX},dá ->(c7 λi t=>k=Sum.inl i /\ v=fñ) \/ (c7 λx t=>k=Sum.inr x /\ v=fò)
 | aĒ,v,h=>by let⟨t,e⟩:=Value.isInt_shape (k:=i) (v:=v) h;show .inl #[i,t,rfl,e]
 | ađ,v,h=>by let⟨t,e⟩:=Value.isStrOf_shape (x:=x) (v:=v) h;show .inr #[x,t,rfl,e]
def FG (i:Int)(t:Tok):pj (aĒ) (bü)=true:=by simp[pj,Value.isInt]
def FF (x:Str)(t:Tok):pj (ađ) (.str x t)=true:=by simp[pj,Value.isStrOf]
def S' (a b:Int):nÆ=(a==b):=by by_cases e:a=b;subst e;simp;have h:¬kϨ:=λq=>e gţ;rw[cb h];show(beq_eq_false_iff_ne.mpr e).symm
def S6 (a b:Str):decide (kϩ)=eý:=by by_cases e:a=b;subst e;simp;have h:¬kϩ:=λq=>e (Sum.inr.inj q);rw[cb h,cb e]
theorem S9 (a:Int)(b:Str):decide (fϢ=Sum.inr b)=false:=cb hç
theorem S8 (a:Str)(b:Int):decide (fϣ=Sum.inl b)=false:=cb hç
def cS (prog:Program)(w:World):PySem.KeyKind prog w cF where
 is:=pj
 hash:=abk w
 inj :=λv a b ha hb=>by
  rcases d9 ha with⟨i,t,rfl,rfl⟩ | ⟨x,t,rfl,rfl⟩
  rcases d9 hb with⟨j,u,rfl,e⟩ | ⟨y,u,rfl,e⟩
  injection e with e1 _;rw[e1];show nomatch e
  rcases d9 hb with⟨j,u,rfl,e⟩ | ⟨y,u,rfl,e⟩
  show nomatch e
  injection e with e1 _;rw[e1]
 byValue:=λk v h=>by rcases d9 h with⟨i,t,rfl,rfl⟩ | ⟨x,t,rfl,rfl⟩ <;>rfl
 pyHash:=λhv h=>by
  rcases d9 hv with⟨i,t,rfl,rfl⟩ | ⟨x,t,rfl,rfl⟩
  show wpAny_pyHash_int h;show wpAny_pyHash_str h
 eqBool:=λhu hv h=>by
  rcases d9 hu with⟨i,t,rfl,rfl⟩ | ⟨x,t,rfl,rfl⟩
  rcases d9 hv with⟨j,u,rfl,rfl⟩ | ⟨y,u,rfl,rfl⟩
  rw[S'] at h;show wpAny_eqBool_int h;rw[S9] at h;show SeqAt.EqAt.int_str i t y u _ _ _ _ h;rcases d9 hv with⟨j,u,rfl,rfl⟩ | ⟨y,u,rfl,rfl⟩
  rw[S8] at h;show SeqAt.EqAt.str_int x t j u _ _ _ _ h;rw[S6] at h;show wpAny_eqBool_str h
 «strs» :=λk x t v h=>by
  rcases d9 h with⟨i,u,rfl,e⟩ | ⟨y,u,rfl,e⟩
  show nomatch e
  injection e with e1 _;subst e1;cases v<;>rfl
theorem zC (prog:Program)(w:World)(i:Int)(t:Tok):fϤ (aĒ) (bü)=true:=FG i t
theorem zB (prog:Program)(w:World)(x:Str)(t:Tok):fϤ (ađ) (.str x t)=true:=FF x t
set_option genInjectivity true in
inductive V where
  | fw | bl (b:Bool) | int (i:Int) | str (x:Str) | EV (b:Array UInt8) | LR (b:UInt64) | ref (a:Addr) | ty (n:String)
 deriving DecidableEq
def RelV:V ->eX ->Prop
 | .fw,u=>eþ
 | ã,u=>fϥ
 | Ă,u=> ∃t,u=fñ
 | aē,u=> ∃t,u=fò
 | .EV b,u=> kü
 | .LR b,u=> ký
 | Ā,u=>Κ
 | .ty n,u=>fϦ
abbrev cM:Ä ->eÿ:=Paired RelV
theorem cM.length (r:bý):xs.length=us.length:=gŤ
theorem cM.get: ∀ {xs:Ä} {us:â} {i:Nat} {x:V},bý ->Χ -> ∃u,us[i]? =þ /\ bþ
 | _,_,_,_, .nil,e=>by simp at e
 | _,_,0,_, .cons r _,e=>by simp at e;subst e;show#[_,rfl,r]
 | _,_,i+1,x, cÎ,e=>by let⟨u,h1,h2⟩:=cM.get (i:=i) (x:=x) t Å;show#[u, ⇑h1,h2]
theorem cM.set {x:V}{u:eX}(r:bþ): ∀ {xs:Ä} {us:â} (i:Nat),bý ->cM (xs.set i x) (us.set i u)
 | _,_,_, .nil=> .nil
 | _,_,0, cÎ=> cÏ
 | _,_,i+1, .cons q t=> .cons q (cM.set r i t)
theorem cM.append: ∀ {xs ys:Ä} {us ws:â},bý ->cM ys ws ->cM (xs++ys) (us++ws)
 | _,_,_,_, .nil,s=>s
 | _,_,_,_, cÏ,s=> .cons r (cM.append t s)
theorem cM.take: ∀ {xs:Ä} {us:â} (n:Nat),bý ->cM (xs.take n) (us.take n)
 | _,_,0,_=> .nil
 | _,_,_+1, .nil=> .nil
 | _,_,n+1, cÏ=> .cons r (cM.take n t)
theorem cM.drop: ∀ {xs:Ä} {us:â} (n:Nat),bý ->cM (xs.drop n) (us.drop n)
 | _,_,0,r=>r
 | _,_,_+1, .nil=> .nil
 | _,_,n+1, cÎ=>cM.drop n t
def lD:fk V ->fk eX ->Prop
 | ă,þ=>Ľ
 | none,none=>True
 | _,_=>False
def KV {κ:Type}:ū ->dã ->Prop:=Paired λ(p:κ×V) (q:κ×eX)=>aΩ /\ eĀ
def kV:cF ->V
 | aĒ=> Ă
 | ađ=> aē
set_option genInjectivity true in
inductive HO where
 /-- a list -/
 | lst (xs:aĔ)
 /-- a tuple (never changes) -/
 | tup (xs:aĔ)
 /-- a dict Vs keys are ints and texts;one Vs keys are tuples of ints and texts (UM empty one is both) -/
 | dK (kvs:eā) | dT (kvs:List (List cF×V))
 /-- a set of ints:its members,its size -/
 | set (S:Int ->Bool) (n:Nat)
 /-- an instance of UM class at C,its dict at dx,its attributes -/
 | ins (C dx:Addr) (fs:fó)
 /-- UM dict of UM instance at x -/
 | own (x:Addr)
 /-- UM dict of an exception -/
 | xd (fs:fó)
 /-- a bound method,f of x -/
 | met (f x:Addr)
 /-- a range object lo,lo+1, .. below hi -/
 | Fi (lo hi:Int)
 /-- a V0 afl is known to UM object (UM aaP;a dict while a loop walks it):read,never written while it is so -/
 | pK (o:Obj) (u:HO)
 /-- a code W_ table -/
 | Mj (ps:dä)
 /-- any other V0,by afh is true of its one object (a def of ae6 own:afH a S n:=HO.ext λh=> ..) -/
 | ext (φ:då)
abbrev Hp:=fR ->fk HO
def cR (H:Hp)(a:fR)(o:HO):Hp:=λb=>if b=a then Ą else H b
def ce:cR H a o a=Ą:=by unfold cR;rw[ą]
def bL (h:b≠a):cR H a o b=H b:=by unfold cR;rw[aj h]
def Xb {H:Hp}(h:cŞ)(h':cş)(d:o≠u):a≠b:=by intro e;subst e;rw[h] at h';show d (bC h')
def dM {H:Hp}(h:cŞ)(h':ľ):a≠b:=by intro e;subst e;rw[h] at h';cases h'
def yy (h:Heap)(a:fR)(its:aÍ):Prop:= ∃o,gť /\ jú /\ ∃n,iû /\ dæ
theorem yy.t (x:yy h a its):IsTup h a its:=let ⟨o,e,c,n,d,_⟩:=x;#[o,e,c,n,d]
theorem yy.lt (x:yy h a its):fõ:=let ⟨_,e,_⟩:=x;Æ
theorem yy.new (h:Heap)(its:aÍ):yy (h.push {cls:= fô,data:= .seq its}) h.objs.size its:=lΘ
section
variable (P:Program)(w:World)
def fu (H:Hp)(h:Heap)(a:fR):HO ->Prop
 | .lst xs=>ϧ /\ c7 λ dç aϊ=>cÐ /\ ļ=oϙ
 | aϋ=>ϧ /\ ∃its:â,cÐ /\ yy h a its.toArray
 | .dK kvs=>qð
 | .dT kvs=>jû /\ jż /\ ∃xs:iü,Paired (λ(p:aÏ×V) (q:fö)=>pĶ) kvs xs /\∃o es ep,gť /\ o.ExactDict /\ iΚ /\ es.toList=xs.map (entryOfKey (iý)) /\ (xs.map Ć).Nodup
 | .set S n=>h.SetOf (intKind P w) a S n
 | eă=>H dx=fø /\ gŦ /\ dx≠a /\ ļ=some hè /\∃mA,dè /\ (mÊ) /\ mŵ
 | .own _=> ∃o,gť
 | .xd fs=> ∃mA,h.Ns1 a mA /\ mÊ
 | .Fi lo hi=>gL λt u v=>ļ=some qÓ
 | .pK o u=>gť /\ fu H h a u
 | .Mj ps=>ļ=nļ
 | .met f x=>ļ=some (W.methodObj ŀ bĀ)
 | .ext φ=>φ h /\ (∃o,gť) /\ ∀h1 h2:Heap,φ h1 ->(∀o,h1.get? a=Ą ->h2.get? a=Ą) ->φ h2
def lE (H:Hp)(h:Heap):Prop:= ∀a o,cŞ ->fϧ
universe e
def fu.lt (x:fϧ):fõ:=by
 cases o with
 | lst xs=>let⟨_,_,_,_,e⟩:=x;show Æ
 | tup xs=>let⟨_,_,_,p⟩:=x;show p.lt
 | dK kvs=>let⟨_,_,_,_,o,_,_,e,_⟩:=x;show Æ
 | dT kvs=>let⟨_,_,_,_,o,_,_,e,_⟩:=x;show Æ
 | set S n=>let⟨o,_,_,_,e,_⟩:=x;show Æ
 | ins C dx fs=>let⟨_,_,_,e,_⟩:=x;show Æ
 | own y=>let⟨_,e⟩:=x;show Æ
 | xd fs=>let⟨_,gŧ,_⟩:=x;show Æ
 | Fi lo hi=>let⟨_,_,_,e⟩:=x;show Æ
 | pK ob u=>let⟨e,_⟩:=x;show Æ
 | Mj ps=>show aJ mď
 | met f y=>show aJ mď
 | ext φ=>let⟨_,⟨_,e⟩,_⟩:=x;show Æ
theorem Paired.SW {α β:Type}{F G:α ->β ->Prop}: ∀ {l₁:Ý} {l₂:eV β},Paired F l₁ l₂ ->(∀a b,F a b ->G a b) ->Paired G l₁ l₂
 | _,_, .nil,_=> .nil
 | _,_, cÏ,f=> .cons (f _ _ r) (Paired.SW t f)
def fu.oO (x:fϧ)(k: ∀b u,(b=a \/ H b=fø) ->ną)(ho: ∀b,H b=fø ->H' b=fø)(ht: oγ):fu P w H' h' a o:=by
 induction o with
 | lst xs=>let⟨z,its,n,r,e⟩:=x;show#[z,its,n,r,iþ]
 | tup xs=>let⟨z,its,r,ob,e,c⟩:=x;show#[z,its,r,ob,iþ,c]
 | dK kvs=>let⟨z,y,vs,r,ob,es,ep,e,c⟩:=x;show#[z,y,vs,r,ob,es,ep,iþ,c]
 | dT kvs=>let⟨z,y,xs,r,ob,es,ep,e,c⟩:=x;show#[z,y,xs,Paired.SW r λp q z=>lč,ob,es,ep,iþ,c]
 | set S n=>let⟨ob,es,ep,t,e,c⟩:=x;show#[ob,es,ep,t,iþ,c]
 | ins C dx fs=>let⟨d,z,ne,e,mA,⟨od,es,ep,e2,c⟩,r⟩:=x;show#[ho _ d,z,ne,iþ,mA,#[od,es,ep,k _ _ (.inr d) e2,c],r]
 | own y=>let⟨ob,e⟩:=x;show#[ob,iþ]
 | xd fs=>let⟨mA,⟨od,es,ep,e,c⟩,r⟩:=x;show#[mA,#[od,es,ep,iþ,c],r]
 | Fi lo hi=>let⟨t,u,v,e⟩:=x;show#[t,u,v,iþ]
 | pK ob u ih=>let⟨e,q⟩:=x;show#[iþ,ih q]
 | Mj ps=>have e:ļ=nļ:=x;change cÓ=nļ;show iÿ
 | met f y=>have e:ļ=nĽ:=x;change cÓ=nĽ;show iÿ
 | ext φ=>let⟨p,⟨o,e⟩,st⟩:=x;show#[st _ _ p λo q=>k _ _ Ũ q,#[o,iþ],st]
theorem lE.lt (x:Ŭ)(e:cŞ):fõ:=(x a o e).lt
def lE.fresh {a:fR}(x:Ŭ)(e:fϩ):bĂ:=by
 cases q:H a with
 | none=>rfl
 | some u=>show absurd (bH (x.lt q) e) aĖ
theorem lE.kept (x:Ŭ)(k: oÕ):lE P w H h':=λa o e=>(x a o e).oO (λb u _ q=>aύ) cš cŢ
theorem lE.laid {a:fR}(x:Ŭ)(k: oÕ)(hp:fϩ)(new:fu P w cţ h' a o):lE P w cţ h':=λb u e=>by have hn:=x.fresh hp;by_cases hb:b=a;subst hb;rw[ce] at e;cases e;show new;rw[aÐ] at e;show(x b u e).oO (λc v _ q=>k c v q) (λc q=>by rw[eĄ];show q) λc xs q=>by rw[eĄ];show q
def Rd (H:Hp)(a:fR)(u:HO):Prop:=H a=þ \/ ∃o,H a=fϪ
def Rd.ok (r:Rd H a u)(x:Ŭ):fϫ:=by obtain r | ⟨o,r⟩:=r;show x a u r;let⟨_,q⟩:=x a _ r;show q
def Ze:fk HO ->Prop
 | some (aė)=>True
 | some (.dK _)=>True
 | some (.dT _)=>True
 | some (.set _ _)=>True
 | some (.ins _ _ _)=>True
 | some (.ext _)=>True
 | _=>False
theorem lE.write (ok:Ŭ)(mu:bă)(he:kϪ)(k: oΑ)(U9: jŽ)(new:fu P w dê h' x o'):lE P w dê h':=λb u q=>by
 have Xa: ∀c y,H c=some (.own y) ->c≠x:=λc y r z=>by subst z;rw[r] at mu;show mu
 have aa7: ∀c xs,iĀ ->c≠x:=λc xs r z=>by subst z;rw[r] at mu;show mu
 by_cases hb:b=x;subst hb;rw[ce] at q;cases q;show new;rw [aÐ] at q;by_cases TQ:b=e;have q':H b=some bĄ:=by obtain z | z:=he;show absurd (TQ.trans z) hb;rw[TQ];show z
 rw[q] at q';cases q';let⟨v,hv⟩:=U9;show#[v,by rw[TQ];show hv];exact(ok b u q).oO (λc v hc r=>k c v ?_ r) (λc r=>by rw[bL (Xa c b r)];show r) λc xs r=>by rw[bL (aa7 c xs r)];show r
 obtain rfl | hc:=hc;show TQ;rintro rfl;obtain z | z:=he;show Xa c b hc z;rw[hc] at z;cases z;show hb rfl
structure Un (fs ex:cÔ)(H H':Hp)(h h':Heap):Prop where
 keep: ∀b o,gŨ ->ľ ->b∉fs ->aĘ ->hé
 slot: ∀b o,gŨ ->ľ ->b∈fs ->aĘ -> nϐ
 free: ∀b o,gŨ ->ľ ->aĘ ->cÕ
 there: ∀b o,gŨ ->aĘ -> kŬ
 nW: oγ
 l8: oΒ
 oN: pŒ
section
variable {fs FW ex ex':ä}{H H1 H2:Hp}{h h1 h2 h':Heap}{a x e:fR}{o:HO}
def Un.any (u:Un fs ex H H1 h h1)(q:bā=Ġ)(n:ľ)(hx:aĘ): ∃sl,h1.get? b=some {ob with slots:=sl}:=by by_cases hb:b∈fs;show u.slot b ob q n hb hx;show#[ob.slots,u.keep b ob q n hb hx]
theorem Un.kept (k: oÕ):Un fs ex H H h h':=#[λb ob q _ _ _=>bą,λb ob q _ _ _=>#[ob.slots,bą],λ_ _ _ n _=>n,λb ob q _=>#[ob,bą],cŢ,λ_ _ _ q=>q,λ_ ps q=>#[#[],by rw[q];simp]]
theorem Un.refl:Un fs ex H H h h:=Un.kept cŢ
theorem Un.laid (k: oÕ)(hp:fϩ)(hn:bĂ):Un fs ex H cţ h h' where
 keep:=λb u q _ _ _=>aύ
 slot:=λb u q _ _ _=>#[u.slots,aύ]
 free:=λb u q n _=>by rw[bL (a_ (bH (aJ q) hp))];show n
 there:=λb u q _=>#[u,aύ]
 nW:=λb xs q=>by rw[eĄ];show q
 l8:=λb u xs q=>by rw[eĄ];show q
 oN:=λb ps q=>#[#[],by rw[eĄ,q];simp]
def Un.write (mu:bă)(he:kϪ)(k: oΑ)(U9: jŽ):Un fs ex H cŤ h h':=by
 have hx: ∀b,ľ ->b≠x:=λb n z=>by subst z;rw[n] at mu;show mu
 have hb: ∀b,ľ ->b≠e:=λb n z=>by subst z;obtain r | r:=he;show hx b n r;rw[n] at r;cases r
 have hm: ∀b u,cş ->¬Ze (þ) ->b≠x:=λb u q nm z=>by subst z;rw[q] at mu;show nm mu
 exact#[λb u q n _ _=>hê,λb u q n _ _=>#[u.slots,hê],λb u q n _=>by rw[bL (hx b n)];show n,λb u q _=> ?_,λb xs q=>by rw[jü];show q,λb u xs q=>by rw[jü];show q,λb ps q=>#[#[],by rw[jü,q];simp]];by_cases TQ:b=e;subst TQ;show U9;show#[u,k b u TQ q]
universe e
def ZQ (h:Heap)(H:Hp):ä:=(kþ).filter λa=>(H a).isSome
def xY (h:Heap)(H:Hp):Heap:=W.hideAll h bĆ
theorem FQ (h:Heap)(H:Hp):(xY h H).objs.size=h.objs.size:=W.hideAll_size _ _
theorem J0 (e:gŨ)(n:ľ):gũ=Ą:=W.hideAll_get _ e λhm=>by have q:(H b).isSome=true:=(aV.mp hm).2;rw[n] at q;simp at q
def Nm (e:gũ=Ą):gŨ /\ ľ:=by
 have e':gŨ:=W.of_hideAll bĆ e;exact#[e',?_];cases q:H b with
 | none=>rfl
 | some x=>have hm:b∈ZQ h H:=aV.mpr #[dq.mpr (aJ e'),by simp[q]];have z:gũ=none:=W.hideAll_none bĆ hm;rw[z] at e;cases e
def OI (g h:Heap)(L:fR):ψ:=(kþ).filterMap λa=>if a=L \/ (g.get? a).isSome=true then none else(ļ).map λo=>(a,o)
def rest (g h:Heap)(L d:fR):ψ:=(OI g h L).filter λp=>decide (p.1≠d)
structure Mod (K:PySem.W.Frag)(mg:iā)(base:Heap):Prop where
 S4:cÖ
 glob:kÿ
 blt: ∃mb,base.Ns builtinsNs mb /\ oś
 nolimit:base.NoLimit
structure Cx where
 prog:Program
 w:World
 K:PySem.W.Frag
 mg:iā
 base:Heap
 A:Around
 N:bć
 s₀:Shared
 H₀:Hp
 env:Env
 outer:bĈ
 stack:bĈ
 ex:cÔ
 fn:Str ->Bool
 calm:Bool
 pn:hë
 xe:jž
def kQ (l:ć):ä:=l.filterMap (·.frame)
abbrev Cx.fs (X:Cx):ä:=cť
def Vis (sc:Scope)(x:Str):Prop:=hž=dë \/ mË \/ hž=cŧ
def Loc (sc:Scope)(x:Str):Prop:=pķ
def Look (env:Env)(h:Heap)(m:dì)(x:Str)(u:eX):Prop:=(eĆ=dë /\ m x=þ) \/ ((eĆ=cŦ \/ eĆ=cŧ) /\ ∃c,lĎ /\ h.IsCell c (þ))
structure Cx.Ok (X:Cx):Prop where
 mod:iΜ
 kind:X.env.scope.kind= .function
 glob:X.env.globals=mainGlobals
 blt:X.env.builtins=builtinsNs
 above:X.s₀.heap.objs.size<=X.env.locals
 inj: ∀x y c,lΙ ->X.env.cells.lookup y=Ĉ ->x=y
 has: ∀x,(fϭ=cŦ \/ fϭ=cŧ) -> ∃c,lΙ
 Vj: ∀x c,dí ->lΙ ->X.s₀.heap.objs.size<=c
 hd:ŷ ->X.A.handled=none
 frames:X.A.frames=some X.stack
 RQ:X.stack=X.outer \/ (kĀ /\ mĐ)
 exf: ∀b∈X.ex,hì /\ oô
 bs: ∀b o,jþ ->lď /\ fû
 KL:X.base.objs.size<=X.s₀.heap.objs.size
 Fu: ∀b o,jþ ->bĉ
 Ce: ∀b∈X.ex,bĊ
 oz:X.s₀.heap.FunFrames X.base X.outer
 LQ: ∀b∈X.fs,fû
structure Inv (X:Cx)(ai:hë)(σ:List (Option V))(H:Hp)(s:Shared):Prop where
 ok:X.Ok
 os:s.os=X.s₀.os
 bare:fϯ
 base:Un X.fs X.ex X.H₀ H X.s₀.heap s.heap
 loc: ∃m,kϫ /\ ∀ (i:Nat) (x:Str) (v:V),gū ->jſ ->hſ -> ∃u,Ľ /\ Look X.env s.heap m x u
 cell: ∀x c,lΙ -> ∃v,hγ
 free:H X.env.locals=none
 io: ∀x c,lΙ ->H c=none
 pin: ∀p∈bČ,qį
 c9:lE X.prog X.w H s.heap
 len:σ.length=X.N.length
theorem Cx.Ok.aa9 {X:Cx}(ok:X.Ok)(e:jþ):bĊ:=λhb=>by have:=(ok.oz.mem hb).1;rw[e] at this;cases this
theorem Inv.bs (I:Ϙ): ∀b o,jþ ->Ϩ /\ ľ:=λb o e=>#[I.base.keep b o gŬ.1 gŬ.2 (I.ok.aa9 e) gŭ,I.base.free b o gŬ.1 gŬ.2 gŭ]
theorem Inv.bk (I:Ϙ): ∀b o,jþ ->Ϩ:=λb o e=>(I.bs b o e).1
theorem Inv.mod (I:Ϙ):iΜ:=I.ok.mod
theorem Inv.v9 (I:Ϙ):X.K.In s.heap:=I.ok.mod.S4.keeps I.bk
theorem Inv.fr (I:Ϙ): ∃m,Fr X.base X.env.locals s.heap m:=
 let ⟨m,hn,_⟩:=I.loc
 #[m,hn,I.bk,jγ]
theorem Inv.lt (I:Ϙ):X.env.locals<s.heap.objs.size:=let ⟨_,hn,_⟩:=I.loc;hn.lt
theorem Inv.sz (I:Ϙ):X.s₀.heap.objs.size<=s.heap.objs.size:=aI I.ok.above (Nat.le_of_lt I.lt)
theorem Inv.aa8 (I:Ϙ){a:fR}(h:iΝ):a∉X.fs:=λhb=>by let⟨_,o,ho,_⟩:=fϰ;show absurd (bH (aJ ho) (aI I.sz h)) aĖ
theorem Inv.KG (I:Ϙ): ∀x c,lΙ ->c≠X.env.locals:=λx c e z=>by let⟨v,o,ho,hd⟩:=eć;let⟨m,⟨o',es,ep,N1,nr,_⟩,_⟩:=I.loc;rw[z,N1] at ho;cases ho;rw[nr] at hd;cases hd
def Inv.oz (I:Ϙ):s.heap.FunFrames X.base X.outer:=by
 have all: ∀ (l:ć),(∀b∈kQ l,b∈X.fs) ->X.s₀.heap.FunFrames X.base l ->s.heap.FunFrames X.base l:=by
  intro l;induction l with
  | nil=>intro _ _;trivial
  | cons env r ih=>intro hs hl;let⟨hk,⟨L,o,hf,hn,ho,hd⟩,hr⟩:=hl;have hL:L∈X.fs:=hs L (by unfold kQ;rw[List.filterMap_cons,hf];show aQ);let⟨sl,e⟩:=I.base.slot L o ho (I.ok.LQ L hL) hL λz=>I.ok.Ce L z hL;show#[hk,#[L,_,hf,hn,e,hd],ih (λb hb=>hs b (by unfold kQ;rw[List.filterMap_cons,hf];show aC _ hb)) hr]
 show all X.outer (λ_ hb=>hb) I.ok.oz
def Inv.stack (I:Ϙ):s.heap.FunFrames X.base X.stack:=by obtain e | ⟨e,hf⟩:=I.ok.RQ;rw[e];show I.oz;rw[e];let⟨m,hn,_⟩:=I.loc;exact .cons (by rw[I.ok.kind];decide) hf hn ?_ I.oz;show Heap.get?_none_of_le (jγ)
theorem Inv.xl (I:Ϙ): ∀b∈cŨ,b∈X.env.locals::X.fs:=λb hb=>by obtain e | ⟨e,hf⟩:=I.ok.RQ;rw[e] at hb;show aC _ hb;rw[e] at hb;unfold kQ at hb;rw[List.filterMap_cons,hf] at hb;show hb
theorem Inv.r_ (I:Ϙ): ∀b∈cŨ,ľ:=λb hb=>by obtain e | hb:=ay.mp (I.xl b hb);rw[e];show I.free;let⟨_,o,ho,_⟩:=fϰ;show I.base.free b o ho (I.ok.LQ b hb) λz=>I.ok.Ce b z hb
def Inv.step {ch:ä}(I:Ϙ)(LK: qώ)(keep: ∀b o,hì ->bĊ ->aę ->Ϩ ->ľ ->hé)(slot: ∀b o,hì ->b∈X.fs ->aę ->Ϩ ->ľ -> nϐ)(free: ∀b o,aę ->Ϩ ->ľ ->cÕ)(there: ∀b o,aę ->Ϩ -> kŬ)(nW: oγ)(l8: oΒ)(oN: pŒ)(ns: ∀m,kϫ ->h'.Ns X.env.locals m)(c9:iΞ)(hg:AllBare g'): pĮ:=by
 have neL: ∀b o,lď ->hì:=λb o e=>lĐ;have _b: ∀b o,lď ->bĉ ->aę:=λb o e hx hb=>by obtain z | z:=(LK b hb).1;show hx z;show absurd (bH aĚ z) aĖ
 have cellK: ∀x c,lΙ -> ∀v,hγ ->h'.IsCell c v:=(by rintro x c e v ⟨o,ho,hd⟩;exact by have Xd:c∉ch:=mđ;by_cases hc:c∈X.fs;let⟨sl,q⟩:=slot c o eĈ hc Xd ho eĉ;show#[_,q,hd];show#[o,keep c o eĈ hc Xd ho eĉ,hd])
 exact#[I.ok,I.os,hg,#[jÿ,jÿ,λb o e n hx=> ?_,gŮ,λb xs e=>nW b xs (I.base.nW b xs e),λb o xs e=>l8 b o xs (I.base.l8 b o xs e),λb ps e=> ?_],?_,eĊ,?_,eĊ,dî,c9,I.len];show keep b o dï hb fþ lΚ kϬ;let⟨sl,e1⟩:=lđ;let⟨sl',e2⟩:=slot b _ dï hb fþ e1 kϬ;show#[sl',e2];let⟨o',e1⟩:=jδ;show free b o' fþ e1 kϬ;let⟨o',e1⟩:=jδ;show there b o' fþ e1;let⟨m1,e1⟩:=I.base.oN b ps e;let⟨m2,e2⟩:=oN b _ e1;show#[m1++m2,by rw[e2,Array.append_assoc]];let⟨m,hn,hl⟩:=I.loc;exact#[m,ns m hn,jε];let⟨u,r,l⟩:=hl i x v e1 e2 e3;exact#[u,r,?_];obtain l | ⟨k,c,e,z⟩:=l;show .inl l;show .inr #[k,c,e,cellK x c e _ z];let⟨v,z⟩:=eć;show#[v,cellK x c e v z];let⟨m,⟨o,_,_,ho,_⟩,_⟩:=I.loc;show free _ o (jζ) ho I.free;let⟨v,o,ho,hd⟩:=eć;show free c o (mđ) ho eĉ;let⟨e,n,ne,nf,d⟩:=cũ;have Xd:p.1∉ch:=λz=>(LK p.1 z).2.2.2 p hp rfl;show#[keep p.1 p.2 ne nf Xd e n,free p.1 p.2 Xd e n,ne,nf,d]
def Inv.un (I:Ϙ)(u:Un X.fs [] H H' s.heap h')(c9:iΞ):oÖ:=by let⟨m,iă,_⟩:=bĎ;let⟨sl,hL⟩:=u.any ho I.free ś;show I.step (g':=s.gens) (d':=s.drawn) (ch:= []) iĄ (λb o _ hb _ e n=>u.keep b o e n hb ś) (λb o _ hb _ e n=>u.slot b o e n hb ś) (λb o _ e n=>u.free b o e n ś) (λb o _ e=>u.there b o e ś) u.nW u.l8 u.oN qÔ c9 I.bare
def Inv.call (I:Ϙ)(u:Un eċ ch H H' s.heap h')(c9:iΞ)(hg:AllBare g')(LK: qώ): pĮ:=by let⟨m,iă,_⟩:=bĎ;let⟨sl,hL⟩:=u.any ho I.free jζ;show I.step (ch:=ch) LK (λb o hL hb hc e n=>u.keep b o e n (λz=>(hí).elim hL hb) hc) (λb o _ _ hc e n=>u.any e n hc) (λb o hc e n=>u.free b o e n hc) (λb o hc e=>u.there b o e hc) u.nW u.l8 u.oN qÔ c9 hg
def Inv.turned (I:Ϙ)(k: ∀b o,oδ)(hn:H it=none)(hL:it≠X.env.locals)(h1:it∈X.ex \/ X.s₀.heap.objs.size<=it)(h2: ∀x c,lΙ ->c≠it)(h3: ∀p∈bČ,p.1≠it):nϷ:=by
 have nit: ∀b u,cş ->b≠it:=λb u e z=>by rw[z,hn] at e;cases e
 exact I.step (g':=s.gens) (d':=s.drawn) (ch:= [it]) (Ÿ) (λb o _ _ hc e _=>mľ) (λb o _ _ hc e _=>#[o.slots,mľ]) (λ_ _ _ _ n=>n) (λb o hc e=>#[o,mľ]) (cŜ) (λ_ _ _ e=>e) (λb ps e=>#[#[],by rw[e];simp]) (dð) (eČ) I.bare;have e:b=it:=by simpa using hb
 subst e;show#[h1,hL,h2,h3];let⟨o,es,ep,ho,r⟩:=hm;show#[o,es,ep,k _ o (aZ hL) ho,r];exact(I.c9 b u e).oO (λc v hc q=>k c v ?_ q) cš cŢ;obtain z | z:=hc;rw[z];show nit b u e;show nit c _ z
theorem Inv.tok (I:Ϙ)(t:Nat):Inv X ai σ H {s with toks:=t}:=I.un (h':=s.heap) (t':=t) Un.refl I.c9
theorem Inv.kept (I:Ϙ)(k: ∀b u,nϒ):nϷ:=I.un (Un.kept k) (I.c9.kept k)
theorem Inv.laid {a:fR}(I:Ϙ)(k: ∀b u,nϒ)(hp:iΝ)(new:fu X.prog X.w cţ h' a o): Inv X ai σ cţ lŐ:=I.un (Un.laid k hp (I.c9.fresh hp)) (I.c9.laid k hp new)
theorem Inv.write (I:Ϙ)(mu:bă)(he:kϪ)(k: ∀b u,b≠e ->nϒ)(U9: jŽ)(new:fu X.prog X.w cŤ h' x o):Inv X ai σ cŤ lŐ:=I.un (Un.write mu he k U9) (I.c9.write mu he k U9 new)
theorem Inv.weak (I:Ϙ)(hl:σ'.length=σ.length)(w: ∀ (i:Nat) v,σ'[i]? =fü ->jſ):Inv X ai σ' H s:=#[I.ok,I.os,I.bare,I.base,let ⟨m,hn,sy⟩:=I.loc;#[m,hn,λi x v e1 e2 e3=>sy i x v e1 (w i v e2) e3],I.cell,I.free,I.io,I.pin,I.c9,hl.trans I.len]
theorem Inv.Dw (I:Ϙ)(h: ∀p∈Dx,qį):Inv X Dx σ H s:=#[I.ok,I.os,I.bare,I.base,I.loc,I.cell,I.free,I.io,λp hp=>gů (λz=>I.pin p (List.mem_append_left _ z)) (h p),I.c9,I.len]
def tR {N:ĉ}(hN:N.Nodup){i j:Nat}(a:N[i]? =û)(b:N[j]? =û):i=j:=by let⟨h1,e1⟩:=ao.mp a;let⟨h2,e2⟩:=ao.mp b;show(List.getElem_inj hN).mp ią
def qh (I:Ϙ)(hN:X.N.Nodup)(hi:gū)(hx:hδ)(r:Ľ)(h: ∀s',nÇ ->(∃a,Heap.SameBut a s.heap s'.heap /\ (a=X.env.locals \/ jý=Ċ)) ->aϏ)(hf:pÈ:=by first | show Ķ | show ĺ | assumption):nŭ:=by
 let⟨m,hn,hl⟩:=bĎ;have TK:qĢ:=by rw[I.ok.kind];rfl
 have _B:dñ:=by rw[I.len];show eč
 have KG:=I.KG;have tracked: ∀ {a:fR} {h':Heap},(∃o,fï=Ą /\ bĂ) ->kϭ ->iĆ:=λ{a h'} ha hs b ob e=>by let⟨_,_,QQ⟩:=ha;exact pΤ;rintro rfl;obtain rfl | hc:=hc;rw[QQ] at e;cases e;rw[QQ] at hc;cases hc
 obtain hk | hk:=hx;exact wpAny_storeName_local hk hn (λh' N7 hs=> ?_) TK;let⟨oL,_,_,hoL,_⟩:=id hn;exact h _ #[I.ok,I.os,I.bare,qİ,mĿ,eĎ,I.free,I.io,dî,tracked #[oL,hoL,I.free] hs, bĐ] #[_,hs, Ķ];show oõ lΚ;let⟨sl,e1⟩:=lđ;show oϚ;let⟨o',e1⟩:=jδ;show oϛ;by_cases hj:j=i;subst hj;rw[hi] at e1;cases e1;rw[lĒ] at e2;cases e2;show#[u,r, .inl #[hk,by simp]];rw[mÌ] at e2;let⟨u',r',q⟩:=ić;exact dò;rcases q with⟨k,e⟩ | ⟨k,c,e,z⟩
 exact eď;have:y≠x:=lΜ;simp[this,e];show nŮ;let⟨w',z⟩:=eĐ;show#[w',kŭ];let⟨e,n,ne,nf,d⟩:=cũ;show nĆ;have hfn:dí:=by obtain z | z:=hf;show z;rw[z] at hk;cases hk
 let⟨c,hc⟩:=I.ok.has x (.inl hk);let⟨w',z⟩:=I.cell x c hc;exact wpAny_storeName_cell I.ok.kind hk hc z (λh' Vd hs=> ?_);let⟨oc,hoc,abD⟩:=id z;exact h hζ #[I.ok,I.os,I.bare,qİ,#[m,hn.sameBut hs (aZ (KG x c hc)),kā],λy c' e=> ?_,I.free,I.io,dî,tracked #[oc,hoc,I.io x c hc] hs, bĐ] #[c,hs, .inr hc];show oϮ lΚ;let⟨sl,e1⟩:=lđ;show#[sl,oϮ e1];let⟨o',e1⟩:=jδ;show#[o',oϮ e1];by_cases hj:j=i;subst hj;rw[hi] at e1;cases e1;rw[lĒ] at e2;cases e2;show#[u,r, .inr #[.inl hk,c,hc,Vd]];rw[mÌ] at e2;let⟨u',r',q⟩:=ić;exact dò;obtain q | ⟨k,c',e,z'⟩:=q;show aě;exact .inr #[k,c',e,z'.sameBut hs ?_];rintro rfl;show hj (tR hN e1 (I.ok.inj _ _ _ e hc▸hi));by_cases hcc:c'=c;subst hcc;show#[_,Vd];let⟨w2,z2⟩:=I.cell y c' e;show#[w2,z2.sameBut hs hcc];let⟨e,n,ne,nf,d⟩:=cũ;exact#[(hs.2 p.1 ?_).trans e,n,ne,nf,d];intro q;rw[q,hoc] at e;have q':oc=p.2:=bC e;show d w' (by rw[<- q'];show abD)
theorem kx (I:Ϙ)(hN:X.N.Nodup)(hi:gū)(hx:hδ)(r:Ľ)(h: ∀s',nÇ ->aϏ)(hf:pÈ:=by first | show Ķ | show ĺ | assumption):nŭ:=qh I hN hi hx r (λs' I' _=>h s' I') hf
def Inv.KJ (I:Ϙ)(ho:cŪ)(u:Un eċ ch H H' s.heap s'.heap)(c9:lE X.prog X.w H' s'.heap)(hg:gŰ)(LK: qώ):hθ:=by let⟨h',g',d',t',o'⟩:=s';have e:o'=s.os:=ho;subst e;show I.call (g':=g') (t':=t') (d':=d') u c9 hg LK
abbrev XK:=eX ->aÑ ->ŝ
abbrev St:=eV (fk V)
abbrev VK:=fÿ
abbrev TE:=St ->fϱ
abbrev TT:=St ->mŀ
abbrev TA:=St ->Hp ->(hï) ->Prop
structure mw where
 nx:Ψ
 rt:VK
 bk:Ψ:=eđ
 ct:Ψ:=eđ
abbrev TS:=mw ->Ψ
def EP (X:Cx)(ai:ψ)(σ:St)(Q:VK)(u:eX)(s':eY):Prop:=c7 λv H'=>dU (hθ) (Ľ) (aĜ)
def TP (X:Cx)(ai:ψ)(σ:St)(Q:hî)(b:Bool)(s':eY):Prop:= ∃H',hθ /\ Q b H'
def AP (X:Cx)(ai:ψ)(σ:St)(Q:hï)(us:â)(s':eY):Prop:=c7 λvs H'=>dU (hθ) (bđ) (Q vs H')
def SP (X:Cx)(ai:ψ)(D:mw)(f:Flow)(s':eY):Prop:=
 match f with
 | .next=>c7 λσ' H'=>iĈ /\ dó
 | .brk=>c7 λσ' H'=>iĈ /\ dô
 | .cont=>c7 λσ' H'=>iĈ /\ dõ
 | .ret u=>gL λv σ' H'=>dU (iĈ) (Ľ) (D.rt v H')
def PE (X:Cx)(e:Expr)(t:TE):Prop:=∀ (ai:ψ) (s:eY) (σ:St) (H:Hp) (Q:VK),Ϙ ->bĒ ->wpAny ϣ X.A (eĒ) Ω X.xe s
def PT (X:Cx)(e:Expr)(t:TT):Prop:=∀ (ai:ψ) (s:eY) (σ:St) (H:Hp) (Q:hî),Ϙ ->bĒ ->wpAny ϣ X.A (isTrue e X.env (eĒ)) fϲ X.xe s
def PW (X:Cx)(e:Expr)(t:TT):Prop:=∀ (nF:Sem eX) (ai:ψ) (s:eY) (σ:St) (H:Hp) (Q:hî),Ϙ ->bĒ ->wpAny ϣ X.A (hι) fϲ X.xe s
theorem PW.pt (h:PW X e t):PT X e t:=h _
def PA (X:Cx)(es:ġ)(t:TA):Prop:=∀ (pos:Pos) (ai:ψ) (s:eY) (σ:St) (H:Hp) (Q:hï),Ϙ ->bĒ ->wpAny ϣ X.A oö fϳ X.xe s
def PS (X:Cx)(st:Stmt)(t:TS):Prop:=∀ (ai:ψ) (s:eY) (σ:St) (H:Hp) (D:mw),Ϙ ->bē ->wpAny ϣ X.A gű dö X.xe s
def w8 (X:Cx)(st:aϐ)(t:TS):Prop:=∀ (ai:ψ) (s:eY) (σ:St) (H:Hp) (D:mw),Ϙ ->bē ->wpAny ϣ X.A (execs st X.env) dö X.xe s
theorem dz {Q Q':α ->bϯ}(h:wpAny M A t Q E s)(hQ: ∀a s,Q a s ->Q' a s):wpAny M A t Q' E s:=bK h hQ cū
section
variable {X:Cx}
def bin (ha:Ş)(hb:cØ){σ:St}{R:V ->fÿ}(I:Ϙ)(h:oØ){f:eX ->eX ->Sem α}(hf: qŦ): q϶:=by exact lő;rintro v s1 ⟨x,H1,I1,r1,q1⟩;exact dz kϮ ?_;rintro u s2 ⟨y,H2,I2,r2,q2⟩;show mÍ
def Ml (i:Nat):TE:=λσ H Q=> ∃v,jſ /\ Q v H
def tC (v:V):TE:=λ_ H Q=>Q v H
def Sj {pos:Pos}(hN:gū)(hv:hſ)(hd:ϴ:=by decide)(B7:nÈ:=by decide):lē:=by
 intro ai s σ H Q I h;let⟨v,e,h⟩:=h;let⟨m,hn,hl⟩:=I.loc;let⟨u,r,l⟩:=hl i x v hN e hv;have fin:EP X ai σ Q u s:=eĕ
 rcases l with⟨hk,hm⟩ | ⟨hk,c,hc,QS⟩
 show wpAny_Name (wpAny_loadName_local I.ok.kind hk hn hm fin) hd;obtain hk | hk:=hk;show wpAny_Name (wpAny_loadName_cell I.ok.kind hk hc QS fin) hd;show wpAny_Name (wpAny_loadName_free I.ok.kind hk hc QS fin B7) hd
theorem aL {i j pos}:PE X (.Constant bĕ j pos) (tC bĕ):=λ_ _ _ H _ I h=>wpAny_Constant_int #[Ă,H,Ģ,Ļ,h]
theorem zq {b j pos}:PE X (.Constant (.bool b) j pos) (tC aϑ):=λ_ _ _ H _ I h=>Constant_bool #[ã,H,I,rfl,h]
theorem Is {j pos}:PE X (.Constant .none j pos) (tC .fw):=λ_ _ _ H _ I h=>Constant_none #[.fw,H,I,rfl,h]
theorem kX {x j pos}:PE X (.Constant bĖ j pos) (tC bĖ):=λ_ _ _ H _ I h=>Calls.Constant_str #[aē,H,Ģ,Ļ,h]
def Gl (X:Cx)(x:Str):Prop:=fϭ=some .globalImplicit
theorem mP {σ:St}(I:Ϙ)(hg:ċ)(hm:fā)(h:Q u s)(hd:ϴ:=by decide):pĸ:=qű
def iz {E:Υ}{σ:St}{pos:Pos}(I:Ϙ)(hg:ċ)(hm:dø)(hv:fϬ=þ)(h:Q u s)(hn:gŪ :=by decide)(hd:ϴ:=by decide):pĸ:=by let⟨mb,h1,h2⟩:=I.mod.blt;show Calls.Name_function_global I.ok.kind hg (Calls.loadGlobal_builtin oŅ hm (by rw[I.ok.blt];show h1.keeps I.bk) ((h2 x hn).trans hv) h) hd
theorem g_ (hg:ċ)(hm:fā)(r:Ľ)(hd:ϴ:=by decide):lĔ:=λ_ _ _ H _ I h=>mP I hg hm eĕ hd
theorem DE {pos:Pos}(hg:ċ)(hm:dø)(hv:fϬ=þ)(r:Ľ)(hn:gŪ :=by decide)(hd:ϴ:=by decide):lĔ:=λ_ _ _ H _ I h=>iz I hg hm hv eĕ hn hd
variable {a b:Expr}{ta tb:TE}{pos:Pos}
def PC (X:Cx)(op:CmpOp)(a b:Expr)(t:TE):Prop:=∀ (ai:ψ) (s:eY) (σ:St) (H:Hp) (Q:VK),Ϙ ->bĒ ->wpAny ϣ X.A (eē) (λv s₁=>wpAny ϣ X.A (eĔ) (λu s₂=>wpAny ϣ X.A (compareOp op v u) Ω X.xe s₂) X.xe s₁) X.xe s
def I0 (b:Expr)(h:op≠ .In)(h2:eĖ):kϯ:=by
 have e1:jā:=by cases op<;>first | rfl | show eė
 have e2:kŮ:=by cases op<;>first | rfl | show fĂ
 cases b<;>simp[behindInMarks,e1,e2]
def tB (t:TE):TT:=λσ H Q=>t σ H λx H1=> ∃c,bė /\ Q c H1
def Bg (h:PC X op a b t)(h1:kϯ:=by first | show I0 _ ⋯ ⋯ | rfl):PT X lĕ (tB t):=by intro ai s σ H Q I hw;exact wpAny_isTrue_Compare1 (dz jĂ λv s1 h1=>dz h1 λu s2 h2=>dz h2 ?_) h1;rintro c s3 ⟨x,H1,I1,r1,q1⟩;let⟨d,rfl,q⟩:=q1;cases r1;show fă
def Se (h:PE X e t)(he: ∀nF,hι=(do let v <- nF;standAt e.pos;kĂ):=by intro _;rfl):PT X e (tB t):=by intro ai s σ H Q I hw;exact isTrue_plain (dz jĂ ?_) (he _);rintro v s1 ⟨x,H1,I1,r1,q1⟩;let⟨d,rfl,q⟩:=q1;cases r1;show fă
variable {tA ZT:TT}{rest:ġ}
def Wb (t u:TT):TT:=λσ H Q=>t σ H λc H1=>if aĞ then u σ H1 Q else Q false H1
def tOr (t u:TT):TT:=λσ H Q=>t σ H λc H1=>if aĞ then Q true H1 else u σ H1 Q
def V8 (t:TT):TT:=λσ H Q=>t σ H hν
def Dp (ha:cÙ):PW X (.BoolOp .And [a] pos) tA:=by
 intro wh ai s σ H Q I h;exact isTrue_and nϓ;cases c with
 | true=>show isTrue_and_nil e
 | false=>show e
def Sb (ha:cÙ):PW X (.BoolOp .Or [a] pos) tA:=by
 intro wh ai s σ H Q I h;exact isTrue_or nϓ;cases c with
 | false=>show isTrue_or_nil e
 | true=>show e
def H0 (ha:cÙ)(hb:PW X mÎ ZT):PW X mŶ (Wb tA ZT):=by
 intro wh ai s σ H Q I h;exact isTrue_and mÏ;rintro c s1 ⟨H1,I1,q1⟩;cases c with
 | true=>show lĖ
 | false=>show dù
def WW (ha:cÙ)(hb:PW X lΝ ZT):PW X mł (tOr tA ZT):=by
 intro wh ai s σ H Q I h;exact isTrue_or mÏ;rintro c s1 ⟨H1,I1,q1⟩;cases c with
 | true=>show dù
 | false=>show lĖ
def Be (ha:cÙ):PT X jι (V8 tA):=by intro ai s σ H Q I h;show isTrue_not (ha ai s σ H (hν) I h)
def Py (ta tb:TE):TE:=λσ H Q=>ta σ H λx H1=> ∃c,bė /\ if aĞ then cŬ else Q (cÚ) H1
def V6 (ta tb:TE):TE:=λσ H Q=>ta σ H λx H1=> ∃c,bė /\ if aĞ then Q (bĘ) H1 else cŬ
def Po (ta:TE):TE:=λσ H Q=>ta σ H λx H1=> ∃c,bė /\ Q (.bl (!c)) H1
theorem tH {op}(h:PE X a t):PE X (.BoolOp op [a] pos) t:=λai s σ H Q I hw=>BoolOp_one (h ai s σ H Q I hw)
def Bl (ha:Ş)(hb:PE X mÎ tb):PE X mŶ (Py ta tb):=by
 intro ai s σ H Q I h;exact BoolOp_and mÏ;rintro v s1 ⟨x,H1,I1,r1,q1⟩;let⟨c,rfl,q1⟩:=q1;cases r1;exact eC ?_;cases c with
 | true=>show kă
 | false=>show#[cÚ,H1,I1,rfl,q1]
def Qd (ha:Ş)(hb:PE X lΝ tb):PE X mł (V6 ta tb):=by
 intro ai s σ H Q I h;exact BoolOp_or mÏ;rintro v s1 ⟨x,H1,I1,r1,q1⟩;let⟨c,rfl,q1⟩:=q1;cases r1;exact eC ?_;cases c with
 | false=>show kă
 | true=>show#[bĘ,H1,I1,rfl,q1]
def Ir (ha:Ş):PE X jι (Po ta):=by intro ai s σ H Q I h;exact UnaryOp_ mÏ;rintro v s1 ⟨x,H1,I1,r1,q1⟩;let⟨c,rfl,q1⟩:=q1;cases r1;show not_of (eC #[.bl (!c),H1,I1,rfl,q1])
def tIf (t:TT)(ta tb:TE):TE:=λσ H Q=>t σ H λc H1=>if aĞ then ta σ H1 Q else cŬ
def Iu (hc:PT X c tA)(ha:Ş)(hb:cØ):PE X (.IfExp c a b pos) (tIf tA ta tb):=by
 intro ai s σ H Q I h;exact wpAny_IfExp mÐ;rintro d s1 ⟨H1,I1,q1⟩;cases d with
 | true=>show ha ai s1 σ H1 Q I1 q1
 | false=>show kă
universe e
def iT (K:iD)(H:Hp)(a:fR)(xs:Ä):Prop:=Rd H a cÛ \/gL λ(o:Obj) (its:aÍ) aϊ=>nD (cŭ=Ą) (o.cls= eĂ) (dæ) (iû) jă iĉ
def ko (K:iD)(H:Hp)(a:fR)(xs:Ä):Prop:=Rd H a cÒ \/gL λ(o:Obj) (its:aÍ) aϊ=>nD (cŭ=Ą) (jú) (dæ) (iû) jă iĉ
def aeM:eX ->fk V
 | .none=>some .fw
 | .bool b=>some aϑ
 | .int i _=>some bĕ
 | .str x _=>some bĖ
 | .bytes b _=>some (.EV b)
 | .float b _=>some (.LR b)
 | Ā=>fĄ
 | .type n=>some (.ty n)
 | _=>none
def RelV.abs (r:bþ):aeM u=û:=by
 cases x with
 | fw=>cases r;rfl
 | bl _=>cases r;rfl
 | int _=>let⟨t,rfl⟩:=r;rfl
 | str _=>let⟨t,rfl⟩:=r;rfl
 | EV _=>let⟨t,rfl⟩:=r;rfl
 | LR _=>let⟨t,rfl⟩:=r;rfl
 | ref _=>cases r;rfl
 | ty _=>cases r;rfl
theorem RelV.inj {x y:V}{u:eX}(r:bþ)(q:Ł):x=y:=bC (r.abs.symm.trans q.abs)
theorem cM.inj: ∀ {xs ys:Ä} {us:â},bý ->cM ys us ->xs=ys
 | _,_,_, .nil, .nil=>rfl
 | _,_,_, cÏ, .cons r' t'=>by rw[bę,cM.inj t t']
theorem iT.of {K:iD}(h:iĊ):dú:= .inl (ağ)
theorem ko.of {K:iD}(h:H a=fϨ):dû:= .inl (ağ)
def Inv.list {σ:St}(I:Ϙ)(h:fą): ∃its:â,dU dü (PlainL s.heap a its.toArray) jμ:=by obtain h | ⟨o,its,n,hk,hc,hd,hs,hz,r⟩:=h;let⟨z,its,n,r,e⟩:=cÜ;show#[its,r,#[_,n,e,rfl,rfl,rfl],z];exact#[its.toList,r,#[o,n,dý,hc,hd, ⇑hs],?_];have e:=r.length;simp![dP] at e;exact pπ
def Inv.tuple {σ:St}(I:Ϙ)(h:fĆ): ∃its:â,dU dü (IsTup s.heap a its.toArray) jμ:=by obtain h | ⟨o,its,n,hk,hc,_,hs,hz,r⟩:=h;let⟨z,its,r,p⟩:=cÜ;show#[its,r,p.t,z];exact#[its.toList,r,#[o,dý,hc,n, ⇑hs],?_];have e:=r.length;simp![dP] at e;exact pπ
def Inv.RF {σ:St}(I:Ϙ)(h:fĆ): ∃its:â,dU dü (yy s.heap a its.toArray) jμ:=by obtain h | ⟨o,its,n,hk,hc,hd,hs,hz,r⟩:=h;let⟨z,its,r,p⟩:=cÜ;show#[its,r,p,z];exact#[its.toList,r,#[o,dý,hc,n, ⇑hs,hd],?_];have e:=r.length;simp![dP] at e;exact pπ
def Inv.list_inj {σ:St}(I:Ϙ)(h:fą)(h':iT X.K H a ys):xs=ys:=by let⟨its,r,⟨o,n,e,_,_,d⟩,_⟩:=I.list h;let⟨its',r',⟨o',n',e',_,_,d'⟩,_⟩:=I.list h';rw[e] at e';cases e';rw[d] at d';injection d' with d1 _;have:its=its':= mĒ;subst this;show bę
def Inv.qe {σ:St}(I:Ϙ)(h:fĆ)(h':ko X.K H a ys):xs=ys:=by let⟨its,r,⟨o,e,_,n,d⟩,_⟩:=I.tuple h;let⟨its',r',⟨o',e',_,n',d'⟩,_⟩:=I.tuple h';rw[e] at e';cases e';rw[d] at d';injection d' with d1 _;have:its=its':= mĒ;subst this;show bę
abbrev Cx.sJ (X:Cx)(E:Υ):Cx:= {X with xe:=E}
abbrev Cx.Lp (X:Cx):Cx:=X.sJ eđ
theorem Cx.Ok.sJ {X:Cx}(ok:X.Ok)(E:Υ):(X.sJ E).Ok:=qμ
theorem Cx.Ok.kR {X:Cx}(ok:(X.sJ E).Ok):X.Ok:=qμ
theorem Inv.sJ {σ:St}(I:Ϙ)(E:Υ):kĄ:=#[I.ok.sJ E,I.os,I.bare,I.base,I.loc,I.cell,I.free,I.io,I.pin,I.c9,I.len]
theorem Inv.kR {σ:St}(I:kĄ):Ϙ:=#[I.ok.kR,I.os,I.bare,I.base,I.loc,I.cell,I.free,I.io,I.pin,I.c9,I.len]
def SP.kR (h:SP (X.sJ E) ai D f s'):SP X ai D f s':=by
 cases f with
 | next=>let⟨σ',H',I,q⟩:=h;show hñ
 | brk=>let⟨σ',H',I,q⟩:=h;show hñ
 | cont=>let⟨σ',H',I,q⟩:=h;show hñ
 | ret u=>let⟨v,σ',H',I,r,q⟩:=h;show#[v,σ',H',I.kR,r,q]
theorem w8.Lp {st:aϐ}(h:w8 X.Lp st t):w8 X st t:=λai s σ H D I hw=>bK (h ai s σ H D (I.sJ _) hw) (λ_ _ q=>q.kR) jν
section
variable {X:Cx}{st:Stmt}{rest:aϐ}{t u:TS}{e:Expr}{te:TE}{pos:Pos}
def Pp:TS:=λD σ H=>D.nx σ H
def RK (t u:TS):TS:=λD σ H=>t hò σ H
theorem eU:w8 X [] Pp:=λ_ _ σ H _ I h=>wpAny_execs_nil dþ
def aG (h1:cÝ)(h2:w8 X rest u):w8 X (st::rest) (RK t u):=by
 intro ai s σ H D I h;exact wpAny_execs_cons (dz (h1 ai s σ H hò I h) fć);cases f with
 | next=>let⟨σ',H',I',q⟩:=q;show h2 ai s1 σ' H' D I' q
 | ret v=>show q
 | brk=>show q
 | cont=>show q
def aS (h1:cÝ):w8 X [st] t:=by
 intro ai s σ H D I h;exact wpAny_execs_cons (dz (h1 ai s σ H D I h) fć);cases f with
 | next=>show hξ
 | ret v=>show q
 | brk=>show q
 | cont=>show q
def Px:TS:=λD σ H=>D.ct σ H
theorem zl:PS X (.Continue pos) Px:=λ_ _ σ H _ I h=>wpAny_Continue dþ
def Inv.quiet {σ:St}(I:Ϙ):interactive X.env=false:=by simp[interactive,I.ok.kind]
def Pu (te:TE):TS:=λD σ H=>te σ H λ_ H1=>D.nx σ H1
def gj (he:cÞ)(hs:swapsWith e none pos.line X.env=cŮ:=by rfl):PS X (.Expr e pos) (Pu te):=by intro ai s σ H D I h;show wpAny_Expr_any (dz jĄ (by rintro v s1 ⟨x,H1,I1,r1,q1⟩;exact #[σ,H1,I1,q1])) I.quiet hs
def V4 (te:TE):TS:=λD σ H=>te σ H D.rt
def bZ (he:cÞ):PS X (.Return (some e) pos) (V4 te):=by intro ai s σ H D I h;show wpAny_Return_some (dz jĄ (by rintro v s1 ⟨x,H1,I1,r1,q1⟩;exact #[x,σ,H1,I1,r1,q1]))
def Pm:TS:=λD _ H=>D.rt .fw H
theorem MG:PS X (.Return none pos) Pm:=λ_ _ σ H _ I h=>wpAny_Return_none #[.fw,σ,H,I,rfl,h]
def V' (c:TT)(t u:TS):TS:=λD σ H=>c σ H λb H1=>if ò then t D σ H1 else u D σ H1
def gr (hc:PT X c tc)(ha:w8 X a t)(hb:w8 X b u):PS X (.If c a b pos) dÿ:=by
 intro ai s σ H D I h;exact wpAny_If mÐ;rintro d s1 ⟨H1,I1,q1⟩;cases d with
 | true=>show ha ai s1 σ H1 D I1 q1
 | false=>show hb ai s1 σ H1 D I1 q1
universe e
abbrev TG:=V ->nÉ
abbrev LW:=Ä ->nÉ
def PG (X:Cx)(qg:Expr)(t:TG):Prop:=∀ (ai:ψ) (s:eY) (σ:St) (H:Hp) (v:V) (u:eX) (Q:Ψ),Ϙ ->Ľ ->t v σ H Q ->wpAny ϣ X.A (assign qg X.env u) pÉ X.xe s
def PGs (X:Cx)(ts:ġ)(t:LW):Prop:=∀ (ai:ψ) (s:eY) (σ:St) (H:Hp) (vs:Ä) (us:â) (Q:Ψ),Ϙ ->bđ ->t vs σ H Q ->wpAny ϣ X.A (assignInOrder ((assignEach ts X.env).map aď) us) pÉ X.xe s
abbrev K2:=nġ
def Za (X:Cx)(t:K2):Prop:=∀ (ai:ψ) (s:eY) (σ:St) (H:Hp) (o i v:V) (ov iv u:eX) (Q:ŝ),Ϙ ->RelV o ov ->RelV i iv ->Ľ ->t o i v H Q ->wpAny ϣ X.A (setItem ov iv u) (λ_ s'=> ∃H',hθ /\ Q H') X.xe s
def ls (i:Nat):TG:=λv σ H Q=>Q (hε) H
def a9 (hN:X.N.Nodup)(hi:gū)(hx:hδ)(hf:pÈ:=by first | show Ķ | show ĺ | assumption):PG X fĀ aĠ:=by intro ai s σ H v u Q I r h;show wpAny_assign_Name (kx I hN hi hx r (λs' I'=>#[_,H,I',h]) hf)
def Oq:LW:=λvs σ H Q=>vs= [] /\ Q σ H
def wo (t:TG)(u:LW):LW:=λvs σ H Q=>c7 λv r=>vs=v::r /\ t v σ H λσ' H'=>u r σ' H' Q
def dG:PGs X [] Oq:=by intro ai s σ H vs us Q I r h;let⟨e,h⟩:=h;subst e;cases r;show assignInOrder_nil dþ
def bv (h1:PG X e t)(h2:PGs X es u)(hs:(assignEach aϒ X.env).map aď=assign e X.env::(iΟ).map aď:=by rfl):PGs X aϒ (wo t u):=by
 intro ai s σ H vs us Q I r h;let⟨v,vr,e1,h⟩:=h;subst e1;cases r with
 | cons r rr=>rw[hs];exact assignInOrder_cons (dz (h1 ai s σ H _ _ _ I r h) ?_);rintro _ s1 ⟨σ1,H1,I1,q1⟩;show h2 ai s1 σ1 H1 _ _ Q I1 rr q1
def Op (K:iD)(n:Nat)(t:LW):TG:=λv σ H Q=>c7 λa xs=>gy dĀ (dû) (xs.length=n) (t xs σ H Q)
def eQ {pos:Pos}{k:Nat}(hc:ŷ)(h:PGs X es t)(hn:(iΟ).length=n:=by rfl)(iM:(iΟ).findIdx? Ć=none:=by rfl):PG X (.Tuple es k pos) (Op X.K n t):=by intro ai s σ H v u Q I r hw;let⟨a,xs,e1,hq,hl,hw⟩:=hw;subst e1;cases r;let⟨its,rv,ht,hz⟩:=ců;exact assign_Tuple_tuple eĘ ht (by simp[hn, <- hl,rv.length]) iM eę;have I1:mŷ:=I.kept (t':=s.toks) λb o e=>hx b o dā e;show h ai _ σ H xs _ Q I1 ⇑rv hw
def Yx (to ti:TE)(t:K2):TG:=λv σ H Q=>to σ H λo H1=>ti σ H1 λi H2=>t o i v H2 λH3=>Q σ H3
theorem n9 (ho:PE X o to)(hi:PE X i ti)(hs:Za X t)(ha: ∀v,assign ją X.env v=(do
  let ov <- holding [v] (eĚ)
  let iv <- holding [v,ov] (eval i X.env)
  standAt pos
  holding [v,ov,iv] (setItem ov iv v)
  release [v,ov,iv] []):=by intro _;rfl):PG X ją (Yx to ti t):=by
 intro ai s σ H v u Q I r h
 rw[ha]
 exact ak (wpAny_holding mÑ);rintro ov s1 ⟨x,H1,I1,r1,q1⟩
 exact ak (wpAny_holding (mŃ));rintro iv s2 ⟨y,H2,I2,r2,q2⟩
 exact ak (wpAny_standAt (ak (wpAny_holding (dz (hs ai s2 σ H2 x y v ov iv u _ I2 r1 r2 r q2) ?_))));rintro _ s3 ⟨H3,I3,q3⟩
 show wpAny_release #[σ,H3,I3,q3]
def E9 (te:TE)(g:TG):TS:=λD σ H=>te σ H λx H1=>g x σ H1 D.nx
def gv {pos:Pos}(he:cÞ)(hg:PG X tg g)(hs:swapsWithSole [tg] e pos.line X.env=cŮ:=by rfl)(hw:swappedStores [tg] e X.env=bϱ:=by rfl)(h1:(assignEach [tg] X.env).map aď= [assign tg X.env]:=by rfl):PS X (.Assign [tg] e pos) (E9 te g):=by intro ai s σ H D I h;exact wpAny_Assign_stores mÒ hs hw;rintro v s1 ⟨x,H1,I1,r1,q1⟩;rw[h1];show dz (hg ai s1 σ H1 x v _ I1 r1 q1) λ_ s2 q=>q
def Sf {pos:Pos}(hN:X.N.Nodup)(hi:gū)(hx:hδ)(he:cÞ)(hs:swapsWith e iΡ pos.line X.env=cŮ:=by rfl)(hf:pÈ:=by first | show Ķ | show ĺ | assumption): PS X (.Assign [cű] e pos) (E9 te aĠ):=by intro ai s σ H D I h;exact wpAny_Assign_Name mÒ hs;rintro v s1 ⟨y,H1,I1,r1,q1⟩;show kx I1 hN hi hx r1 kϰ hf
def V5 (i j:Nat)(ta:TA):TS:=λD σ H=>ta σ H λvs H1=>c7 λv w=>vs= [v,w] /\ D.nx ((hε).set j (some w)) H1
def Sh {kt k2 pt2}(hc:ŷ)(hN:X.N.Nodup)(hi:gū)(hj:X.N[j]? =aġ)(iE:i≠j)(hx:nο)(hy:X.env.scope.names.lookup y=dë)(ha:fĈ)(hw:swappedStores nϔ jξ X.env=pure (some aÌ))(hs:swapsWithSole nϔ jξ pos.line X.env=cŮ:=by rfl): PS X (.Assign nϔ jξ pos) (V5 i j ta):=by
 intro ai s σ H D I h;rw[exec_Assign_arm];exact jο;rw[hs];exact cś;rw[aj ⋯];exact ak (Tuple_ (dz (ha _ ai s σ H _ I h) ?_));rintro us s1 ⟨vs,H1,I1,r1,q1⟩;let⟨v,w,e1,q1⟩:=q1;subst e1;let⟨u1,u2,rfl,rv,uZ⟩:c7 λu1 u2=>dU (us= [u1,u2]) (RelV v u1) (RelV w u2):=by
  cases r1 with
  | cons p q=>
   cases q with
   | cons p' q'=>cases q';show#[_,_,rfl,p,p']
 exact wpAny_newObj_type ?_ (by change dĂ;decide);have I2:Inv X ai σ H1 {s1 with heap:=s1.heap.push {cls:= fô,data:= .seq [u1,u2].toArray}}:=nů;rw[hw];exact cś;change wpAny ϣ X.A (do rule "assign.swapped-stores";let items <- unpackItems (ką) 2 none;assignInOrder oΓ items.reverse;fϵ) _ _ _;exact ak (wpAny_rule (ak (unpackItems_tuple (items:= (List.toArray [u1,u2])) eĘ (IsTup.new s1.heap _) λh' gX=> ?_)));have I3:=I2.kept (h':=h') (t':=s1.toks) λb o e=>gX b o dā e;change wpAny _ _ (assignInOrder oΓ [u2,u1] >>=λ_=>fϵ) _ _ _;exact ak (assignInOrder_cons (wpAny_bindName (kx I3 hN hj (.inl hy) uZ (λs2 I4=> ?_) (.inr hy))));exact assignInOrder_cons (wpAny_bindName (kx I4 hN hi (.inl hx) rv (λs3 I5=>assignInOrder_nil aΨ) (.inr hx)));rw[List.set_comm _ _ (aZ iE)] at I5;show#[_,H1,I5,q1]
def Hi (c:TT)(tb:TS):TS:=λD σ H=> ∃W:Nat ->Ψ,(∃m,W m σ H) /\ ∀m σ H,W m σ H ->c σ H λb H1=>if ò then ∃N:Ψ,(∀σ' H',N σ' H' -> ∃m',m'<m /\ W m' σ' H') /\ tb mē σ H1 else D.nx σ H1
def tF (hp:oĚ)(hc:PT X c tc)(hb:eě):PS X (.While c body [] pos) (Hi tc tb):=by
 intro ai s σ H D I h;let⟨W,dă,turn⟩:=h;exact wpAny_While (codeAny_whileLoop (λn s'=>c7 λσ' H'=>iĈ /\ W n σ' H') ?_ m0 #[σ,H,I,w0]);rintro n s1 ⟨σ1,H1,I1,w1⟩;exact wpAny_passesOwn hp (dz (hc ai s1 σ1 H1 _ I1 (turn n σ1 H1 w1)) ?_);rintro b s2 ⟨H2,I2,q2⟩;cases b with
 | true=>
  let⟨N,hN,q2⟩:=q2;rw[ą];exact wpAny_passesOwn hp (dz (hb ai s2 σ1 H2 _ I2 q2) λf s3 q3=> ?_);cases f with
  | next=>let⟨σ3,H3,I3,n3⟩:=q3;let⟨m',hm,w3⟩:=eĜ;show jπ
  | cont=>let⟨σ3,H3,I3,n3⟩:=q3;let⟨m',hm,w3⟩:=eĜ;show jπ
  | brk=>show q3
  | ret v=>show q3
 | false=>rw[aj bo];show wpAny_execs_nil #[σ1,H2,I2,q2]
structure It where
 go:Nat ->ŝ
 O1:Nat ->Hp ->fÿ
 stop:Nat ->ŝ
def li (X:Cx)(ai:ψ)(H:Hp)(b:fR):Prop:=ľ /\ hì /\ bĊ /\ nξ /\ pω
def Inv.ya {σ:St}{b:fR}(I:Ϙ)(hb:s.heap.objs.size<=b)(hn:cÕ):eĝ:=by exact#[hn,Nat.ne_of_gt (bH I.lt hb),I.aa8 hb, .inr (aI I.sz hb),f϶,fĉ];let⟨v,q⟩:=eć;show absurd (bH q.lt iċ) aĖ;show absurd (bH (aJ (cũ).1) iċ) aĖ
structure vn (P:Program)(w:World)(K:PySem.W.Frag)(tg:Expr)(J:It)(fp:cÔ)(it:Addr)(tn:hο):Prop where
 mem:it∈fp
 obj: ∀i h,tn i h -> ∀b∈fp, ∃o,gŨ /\ kĆ
 keep: ∀i h h',tn i h ->(∀b∈fp, ∀o,gŨ ->hé) ->tn i h'
 item: ∀ (X:Cx),bĚ ->X.w=w ->X.K=K ->ŷ -> ∀ (i:Nat) (ai:hë) (s:Shared) (σ:St) (H:Hp) (E:jž),Ϙ ->(jς) ->dĄ ->bě ->wpAny dą X.A (hó) (λr s1=> ∃u,r=þ /\wpAny dą X.A mϒ (λ_ s2=>c7 λx H'=>kg iΤ (bþ) (fĊ) (tn ß s2.heap) jτ) E s1) E s
 done: ∀ (X:Cx),bĚ ->X.w=w ->X.K=K ->ŷ -> ∀ (i:Nat) (ai:hë) (s:Shared) (σ:St) (H:Hp) (E:jž),Ϙ ->(jς) ->dĄ ->cŲ ->wpAny dą X.A (hó) (λr s1=>r=none /\ Inv X ai σ H s1) E s
 self: ∀ (A:Around) (i:Nat) (s:Shared) (Q:jž) (E:jž),dĄ ->Q cß s ->wpAny dą A (pyIter cß) Q E s
abbrev TI:=St ->Hp ->(fϷ) ->Prop
def PIE (X:Cx)(ai:ψ)(σ:St)(tg:Expr)(R:fϷ)(S_:eX)(s2:eY):Prop:=Gq λ(it:fR) (fp:ä) (tn:hο) (J:It) (H':Hp)=>nD (S_= .ref it) iΤ (mŸ) (tn 0 s2.heap) (kć) (R J H')
def PI (X:Cx)(tg iter:Expr)(wi:TI):Prop:=∀ (ai:ψ) (s:eY) (σ:St) (H:Hp) (R:fϷ),Ϙ ->wi σ H R ->wpAny ϣ X.A hπ (λv s1=>wpAny ϣ X.A (pyIter v) iČ X.xe s1) X.xe s
def Ef (ho:jυ)(hc:o.cls= .type n)(hd:o.data= .fields vs)(hn: qΞ=false)(hQ:Q () s):wpAny M A mϒ Q E s:=by
 unfold letOwnedTupleGo;cases tg <;>first
 | show aN hQ
 | (cases u<;>first
  | show aN hQ
  | (exact ak (wpAny_load ho ?_)
     rw[hc,hd]
     change wpAny M A (if(qΞ && vs[0]? ==some (rawInt _))=true then _ else _) Q E s
     rw[aj (by intro h;rw[hn,Bool.false_and] at h;cases h)]
     show aN hQ))
def Itl (K:iD)(a:fR):It:=#[oŰ,λi H x H'=>H'=H /\ nć,λi H=> ∃xs,dú /\ eĞ]
def Itt (K:iD)(a:fR):It:=#[oű,λi H x H'=>H'=H /\ nĈ,λi H=> ∃xs,dû /\ eĞ]
def Itr (lo:Int)(n:Nat):It:=#[λi _=>i<n,λi H x H'=>H'=H /\ x= .int aą,dć]
def E7 {P:Program}{w:World}{K:iD}{tg:Expr}(a it:fR):vn P w K tg (Itl K a) [it] it (λi h=>h.IsListIter it a i) where
 mem:=by simp
 obj:=λi h st b hb=>by have e:b=it:= aÒ;subst e;let⟨o,e,c,d⟩:=st;show nĢ
 keep:=oŜ
 item:=by intro X hP hw hK hc i ai s σ H E I hf st hg;subst hP hw hK;let⟨xs,x,hq,hx⟩:=hg;let⟨its,rv,p,hz⟩:=cà;let⟨u,hu,ru⟩:=cá;let⟨f0,f1,f2,f3,f4,f5⟩:=gų;exact wpAny_pyNext_list_item st p.isList (x:=u) ⇑hu gŴ;have I1:mŷ:=pς;let⟨o,e,c,d⟩:=id bN;show#[u,rfl,Ef (s:= hζ) e c d ⋯ #[x,H,I1,ru,#[rfl,λys hy=>by rw[I.list_inj hy hq];show hx],bN,iΥ]]
 done:=by intro X hP hw hK hc i ai s σ H E I hf st hg;subst hP hw hK;let⟨xs,hq,hx⟩:=hg;let⟨its,rv,p,hz⟩:=cà;let⟨f0,f1,f2,f3,f4,f5⟩:=gų;have hl:=rv.length;show wpAny_pyNext_list_end eĘ st p.isList qä pϡ
 self:=λ_ _ _ _ _ st h=>wpAny_pyIter_listiter st h
def AR {P:Program}{w:World}{K:iD}{tg:Expr}(a it:fR):vn P w K tg (Itt K a) [it] it (λi h=>h.IsTupleIter it a i) where
 mem:=by simp
 obj:=λi h st b hb=>by have e:b=it:= aÒ;subst e;let⟨o,e,c,d⟩:=st;show nĢ
 keep:=oŜ
 item:=by intro X hP hw hK hc i ai s σ H E I hf st hg;subst hP hw hK;let⟨xs,x,hq,hx⟩:=hg;let⟨its,rv,p,hz⟩:=ců;let⟨u,hu,ru⟩:=cá;let⟨f0,f1,f2,f3,f4,f5⟩:=gų;exact wpAny_pyNext_tuple_item st oø (x:=u) ⇑hu gŴ;have I1:mŷ:=pς;let⟨o,e,c,d⟩:=id bN;show#[u,rfl,Ef (s:= hζ) e c d ⋯ #[x,H,I1,ru,#[rfl,λys hy=>by rw[I.qe hy hq];show hx],bN,iΥ]]
 done:=by intro X hP hw hK hc i ai s σ H E I hf st hg;subst hP hw hK;let⟨xs,hq,hx⟩:=hg;let⟨its,rv,p,hz⟩:=ců;let⟨f0,f1,f2,f3,f4,f5⟩:=gų;have hl:=rv.length;show wpAny_pyNext_tuple_end eĘ st oø qä pϡ
 self:=λ_ _ _ _ _ st h=>wpAny_pyIter_tupleiter st h
def AS {P:Program}{w:World}{K:iD}{tg:Expr}(it:fR)(lo:Int)(n:Nat):vn P w K tg (Itr lo n) [it] it (λi h=>IsRangeIter h it (lo+aϓ*1) iΦ 1) where
 mem:=by simp
 obj :=λi h st b hb=>by have e:b=it:= aÒ;subst e;show pœ
 keep:=nĉ
 item:=by intro X hP hw hK hc i ai s σ H E I hf st hg;subst hP hw hK;let⟨f0,f1,f2,f3,f4,f5⟩:=gų;have W:=Walks.range (prog:=X.prog) (w:=X.w) eĘ it lo 1 n;exact oĴ;let⟨t,rfl⟩:=hv;have I1:nϸ:=oϯ;exact#[_,rfl,Ef (s:= lœ) (n:= hô) bN rfl rfl ⋯ #[.int aą,H,I1,#[t,?_],cų,bN,iΥ]];rw[du]
 done:=by intro X hP hw hK hc i ai s σ H E I hf st hg;subst hP hw hK;let⟨f0,f1,f2,f3,f4,f5⟩:=gų;show qΥ
 self:=oņ
def JF (K:iD)(tl:TE):TI:=λσ H R=>tl σ H λx H1=> ∃a,dU Ź jć (R (Itl K a) H1)
def Xw (K:iD)(tl:TE):TI:=λσ H R=>tl σ H λx H1=> ∃a,dU Ź jĈ (R (Itt K a) H1)
def eD (hl:cã):PI X tg l (JF X.K tl):=by intro ai s σ H R I h;exact lŔ;rintro v s1 ⟨x,H1,I1,r1,q1⟩;let⟨a,e,dĉ,q⟩:=q1;subst e;cases r1;let⟨its,rv,p,hz⟩:=I1.list hq;exact wpAny_pyIter_list p.isList ?_;exact#[s1.heap.objs.size,iΧ,_,_,H1,rfl,nů,E7 a _,jχ,Ÿ,q];have e:iΨ:= aÒ;subst e;show nÊ
def lO (hl:cã):PI X tg l (Xw X.K tl):=by intro ai s σ H R I h;exact lŔ;rintro v s1 ⟨x,H1,I1,r1,q1⟩;let⟨a,e,dĉ,q⟩:=q1;subst e;cases r1;let⟨its,rv,p,hz⟩:=dĊ;exact wpAny_pyIter_tuple (show mĔ from p) ?_;exact#[s1.heap.objs.size,iΧ,_,_,H1,rfl,nů,AR a _,jχ,Ÿ,q];have e:iΨ:= aÒ;subst e;show nÊ
def HW {σ:St}{lo hi:Int}(I:Ϙ)(h1: cä <=lo)(h2:lo<aģ)(h3: cä <=hi)(h4:hi<aģ)(q:R (Itr lo gŵ) H):wpAny ϣ X.A (pyIter ků) iČ E qŹ:=by
 exact wpAny_pyIter_range hõ (small_one h1 h2 h3 h4) ?_;have I1:Inv X ai σ H qŹ:=I.kept gŲ;exact#[qņ,[qņ],_,_,H,rfl,I1.kept (t':=tk) gŲ,AS _ lo gŵ,?_,Ÿ,q];have e1:lo+fċ*1=lo:=by simp
 have e2:oě=Builtin.Range.rangeSize lo hi 1:=by rw[rangeSize_one];split<;>lia
 change IsRangeIter _ _ (lo+fċ*1) (oě) 1;rw[e1,e2];show Ŀ;have e:b=qņ:=by simpa using hb
 subst e;show nÊ
def QA (ta:TA):TI:=λσ H R=>ta σ H λvs H1=> ∃j:Int,gy (vs= [aĤ]) (fČ) (j<aģ) (R (Itr 0 j.toNat) H1)
def jj (hg:eğ)(hm:iĎ)(ha:PA X [a] ta)(hs:starEach [a] X.env= [jĉ]:=by rfl):PI X tg (.Call hτ [a] [] pos) (QA ta):=by
 intro ai s σ H R I h;exact Call_ (iz I hg hm boot_range oĵ);rintro us s1 ⟨vs,H1,I1,r1,q1⟩;let⟨j,e,q1,q2,q⟩:=q1;subst e;cases r1 with
 | cons r rr=>cases rr;let⟨t,rfl⟩:=r;show call_range_1 (HW I1 ∅ ∅ q1 q2 ⇑q)
def Wa (wi:TI)(g:TG)(tb:TS):TS:=λD σ H=>wi σ H λJ H1=> ∃W:Nat ->Nat ->Ψ,(∃m,W 0 m σ H1) /\ ∀i m σ H,W i m σ H ->(cŲ /\ D.nx σ H) \/ (bě /\ ∃N:Ψ,(∀σ' H',N σ' H' -> ∃m',m'<m /\ W ß m' σ' H') /\ ∀x H',fĊ ->g x σ H' λσ2 H2=>tb mē σ2 H2)
def jx (fp:ä)(h:Heap):ψ:=fp.filterMap λb=>(bā).map λo=>(b,o)
theorem gg (hb:b∈fp)(e:gŨ):(b,o)∈jx fp h:=List.mem_filterMap.mpr #[b,hb,by rw[e];rfl]
def Ft (hp:p∈jx fp h):p.1∈fp /\ h.get? p.1=bč:=by
 let⟨b,hb,e⟩:=List.mem_filterMap.mp hp;cases q:bā with
 | none=>rw[q] at e;cases e
 | some o=>rw[q] at e;have e':(b,o)=p:=bC e;subst e';show#[hb,q]
theorem Inv.pinned {σ:St}(I:Ϙ)(hf: jς)(ho: ∀b∈fp, ∃o,Ϩ /\ kĆ):Inv X (ai++jx fp s.heap) σ H s:=I.Dw λp hp=>gů (λz=>I.pin p (be _ z)) λz=>by let⟨hb,e⟩:=Ft z;let⟨f0,f1,f2,_⟩:=hf p.1 hb;let⟨o,e',d⟩:=ho p.1 hb;rw[e] at e';cases e';show#[e,f0,f1,f2,d]
theorem Inv.ku {σ:St}(I:Inv X (ai++pl) σ H s):Ϙ:=I.Dw λp hp=>I.pin p (be _ (List.mem_append_left _ hp))
def fV (hp:oĚ)(hc:ŷ)(hi:gŶ)(hg:PG X tg g)(hb:eě)(hs: où:=by intro _;rfl):PS X (.For tg iter body [] pos) (Wa wi g tb):=by
 intro ai s σ H D I h;exact wpAny_For pČ hs;let⟨it,fp,tn,J,H2,e,I2,T,nh,f2,W,dă,turn⟩:=h2;subst e;have sW: ∀ {H':Hp},jτ -> kć:=λhn b hb=>#[hn b hb,(f2 b hb).2]
 exact codeAny_forLoop_any (λn s'=>gL λi σ' H'=>gy (iĈ) fϸ jτ (W i n σ' H')) ?_ m0 #[0,σ,H2,I2,nh,λb hb=>(f2 b hb).1,w0];rintro n s3 ⟨i,σ3,H3,I3,qI,Kf,w3⟩;rcases turn i n σ3 H3 w3 with⟨stop,qn⟩ | ⟨go,N,hN,step⟩
 .exact wpAny_passesOwn hp (dz (T.done X rfl rfl rfl hc i ai s3 σ3 H3 X.xe I3 (sW Kf) qI stop) ?_);rintro r s4 ⟨hr,I4⟩;subst hr;show wpAny_execs_nil #[σ3,H3,I4,qn]
 .exact wpAny_passesOwn hp (dz (T.item X rfl rfl rfl hc i ai s3 σ3 H3 X.xe I3 (sW Kf) qI go) ?_);rintro r s4 ⟨u,hr,h4⟩;subst hr;exact wpAny_passesOwn hp (dz h4 ?_);rintro _ s5 ⟨x,H5,I5,r5,y5,UN,fr5⟩;have I5':=I5.pinned (sW fr5) (T.obj _ _ UN);exact wpAny_passesOwn hp (dz (hg _ s5 σ3 H5 x u _ I5' r5 (step x H5 y5)) ?_);rintro _ s6 ⟨σ6,H6,I6,q6⟩;exact wpAny_passesOwn hp (dz (hb _ s6 σ6 H6 _ I6 q6) λf s7 q7=> ?_);have again: ∀ {σ7:St} {H7:Hp},Inv X (ai++jx fp s5.heap) σ7 H7 s7 ->N σ7 H7 -> ∃m,m<n /\ gL λi σ' H'=>gy (Inv X ai σ' H' s7) (tn i s7.heap) jτ (W i m σ' H'):=λ{σ7 H7} I7 n7=>by let⟨m',hm,w7⟩:=hN σ7 H7 n7;exact#[m',hm,i+1,σ7,H7,I7.ku,T.keep _ _ _ UN λb hb o e=>nπ.1,Ÿ,w7];let⟨o,e,d⟩:=T.obj _ _ UN b hb;show nπ.2.1
  cases f with
  | next=>let⟨σ7,H7,I7,n7⟩:=q7;show dċ
  | cont=>let⟨σ7,H7,I7,n7⟩:=q7;show dċ
  | brk=>let⟨σ7,H7,I7,q7⟩:=q7;show#[σ7,H7,I7.ku,q7]
  | ret v=>let⟨x7,σ7,H7,I7,r7,q7⟩:=q7;show#[x7,σ7,H7,I7.ku,r7,q7]
abbrev R2:=V ->iď
def uU (X:Cx)(f:eX ->dČ)(r:R2):Prop:=∀ (ai:ψ) (s:eY) (σ:St) (H:Hp) (x y:V) (v u:eX) (Q:VK),Ϙ ->bĔ ->Ł ->r x y H Q ->wpAny ϣ X.A (f v u) Ω X.xe s
def UnR (X:Cx)(f:dČ)(r:iď):Prop:=∀ (ai:ψ) (s:eY) (σ:St) (H:Hp) (x:V) (v:eX) (Q:VK),Ϙ ->bĔ ->r x H Q ->wpAny ϣ X.A (f v) Ω X.xe s
def f' (X:Cx)(f:eX)(r:Ϫ):Prop:=∀ (ai:ψ) (s:eY) (σ:St) (H:Hp) (xs:Ä) (us:â) (Q:VK),Ϙ ->bý ->r xs H Q ->wpAny ϣ X.A (call f us) Ω X.xe s
def aeO (X:Cx)(r:V ->mŀ):Prop:=∀ (ai:ψ) (s:eY) (σ:St) (H:Hp) (x:V) (v:eX) (Q:hî),Ϙ ->bĔ ->r x H Q ->wpAny ϣ X.A (truthy v) fϲ X.xe s
def V7 (r:R2)(ta tb:TE):TE:=λσ H Q=>ta σ H λx H1=>tb σ H1 λy H2=>r x y H2 Q
def tUn (r:iď)(ta:TE):TE:=λσ H Q=>ta σ H λx H1=>r x H1 Q
def rI (C:hö)(g:fč):R2:=λx y H Q=>c7 λi j=>gy (cå) (y= aĤ) (C i j) (Q aϕ H)
def MB (g:fč):R2:=λx y H Q=>c7 λi j=>dU (cå) (y= aĤ) (Q aϕ H)
def rU (g:aϔ):iď:=λx H Q=> ∃i,cå /\ Q (g i) H
def Up (ha:Ş)(hb:cØ){σ:St}{R:V ->fÿ}(I:Ϙ)(h:oØ){f:eX ->dČ}(hf: qŦ): q϶:=by exact lő;rintro v s1 ⟨x,H1,I1,r1,q1⟩;exact dz kϮ ?_;rintro u s2 ⟨y,H2,I2,r2,q2⟩;show mÍ
def bW (ho:uU X (binaryOp op) r)(ha:Ş)(hb:cØ):PE X (.BinOp a op b pos) eĠ:=by intro ai s σ H Q I h;show wpAny_BinOp pϢ
def gf (ho:UnR X (unaryOp op) r)(ha:Ş):PE X (.UnaryOp op a pos) (tUn r ta):=by intro ai s σ H Q I h;show UnaryOp_ (dz jĀ (by rintro v s1 ⟨x,H1,I1,r1,q1⟩;exact ho ai s1 σ H1 x v Q I1 r1 q1))
def Z7 {g:Int ->ş}(rule: ∀ (i j:Int) (t u:Tok) (s:eY) (Q:Υ) (E:Υ),C i j ->qŔ): uU X f (rI C jċ):=by intro ai s σ H x y v u Q I rx ry h;let⟨i,j,rfl,rfl,hc,q⟩:=h;let⟨t,rfl⟩:=rx;let⟨t',rfl⟩:=ry;show rule i j t t' s _ _ hc nľ
def W8 {g:Int ->ş}(rule: ∀ (i j:Int) (t u:Tok) (s:eY) (Q:Υ) (E:Υ),qŔ): uU X f (MB jċ):=by intro ai s σ H x y v u Q I rx ry h;let⟨i,j,rfl,rfl,q⟩:=h;let⟨t,rfl⟩:=rx;let⟨t',rfl⟩:=ry;show rule i j t t' s _ _ nľ
def Nf {g:Int ->Int ->Bool}(rule: ∀ (i j:Int) (t u:Tok) (s:eY) (Q:Υ) (E:Υ),Q (.bool aϕ) s ->pį): uU X f (MB λi j=> .bl aϕ):=by intro ai s σ H x y v u Q I rx ry h;let⟨i,j,rfl,rfl,q⟩:=h;let⟨t,rfl⟩:=rx;let⟨t',rfl⟩:=ry;show rule i j t t' s _ _ #[.bl aϕ,H,I,rfl,q]
def AB (i j:Int):Prop:=0<j /\ j<cŵ
def UB (i j:Int):Prop:=0<=j /\ j<=Ĥ /\ i.natAbs<aĥ
def ji (i j:Int):Prop:=(-(aĥ) <i /\ i<aĥ) \/ (-(aĥ) <j /\ j<aĥ)
def ji.ok (h:ji i j):IntMulOk i j:=by
 rcases h with⟨h1,h2⟩ | ⟨h1,h2⟩
 show .of_left jω;show .of_right jω
theorem fi:uU X gŷ (MB λi j=> .int (i+j)):=W8 λ_ _ _ _ _ _ _ q=>add_int q
theorem oh:uU X (binaryOp .Sub) (MB λi j=> .int (i - j)):=W8 λ_ _ _ _ _ _ _ q=>sub_int q
theorem fN:uU X (binaryOp .Mult) (rI ji λi j=> .int (i*j)):=Z7 λ_ _ _ _ _ _ _ hc q=>mul_int q hc.ok
theorem sv:uU X (binaryOp .FloorDiv) (rI AB λi j=> .int (i / j)):=Z7 λi j _ _ _ _ _ hc q=>by have h1:ĝ <j:=hc.1;have h2:j<cŵ:=hc.2;show floordiv_int (by exact λe=>Lqf [_] ϲ ϕ (LqIp h1 ŭ) rfl) (by rw[Int.fdiv_eq_ediv_of_nonneg i (by exact Lqi [_] ø Lq0 Ϣ Lq0 h1 rfl)];show q) (.inl (PyProof.noPylong_small ∅))
theorem iw:uU X (binaryOp .Mod) (rI (λ_ j=>0<j) λi j=> .int (i % j)):=Z7 λi j _ _ _ _ _ hc q=>by have h1:ĝ <j:=hc;show mod_int' (by exact λe=>Lqf [_] ϲ ϕ (LqIp hc ŭ) rfl) (by rw[Int.fmod_eq_emod_of_nonneg i (by exact Lqi [_] ø Lq0 Ϣ Lq0 hc rfl)];show q)
theorem SG:uU X (binaryOp .Pow) (rI UB λi j=> .int (i ^ j.toNat)):=Z7 λ_ _ _ _ _ _ _ hc q=>pow_int_small hc.1 hc.2.1 hc.2.2 q
def unI {g:ş}(rule: ∀ (i:Int) (t:Tok) (s:eY) (Q:Υ) (E:Υ),Q (.int (g i) s.toks) kű ->wpAny ϣ X.A (f (bü)) Q E s): UnR X f (rU λi=> .int (g i)):=by intro ai s σ H x v Q I rx h;let⟨i,rfl,q⟩:=h;let⟨t,rfl⟩:=rx;show rule i t s _ _ #[.int (g i),H,Ģ,Ļ,q]
theorem e9:UnR X (unaryOp .USub) (rU λi=> .int (-i)):=unI λ_ _ _ _ _ q=>neg_int q
def Mt:V ->V ->Bool
 | .fw, .fw=>true | .fw, aĦ=>true | aĦ, .fw=>true | .fw, aÓ=>true | aÓ, .fw=>true | .fw, aħ=>true | aħ, .fw=>true
 | aĦ, aĦ=>true | aÓ, aÓ=>true | aħ, aħ=>true | .EV _, .EV _=>true
 | aĦ, aħ=>true | aħ, aĦ=>true | aÓ, aħ=>true | aħ, aÓ=>true
 | _,_=>false
def rEq:R2:=λx y H Q=>dč /\ Q (.bl (eġ)) H
def rNe:R2:=λx y H Q=>dč /\ Q (.bl (! eġ)) H
def Ez:decide (V.int i=V.int j)=(i==j):=by rw[Bool.eq_iff_iff];simp
def Kv:decide (V.bl i=V.bl j)=(i==j):=by rw[Bool.eq_iff_iff];simp
def Ey:decide (V.str i=V.str j)=(i==j):=by rw[Bool.eq_iff_iff];simp
def EA:decide (V.EV i=V.EV j)=(i.toList==j.toList):=by rw[Bool.eq_iff_iff];cases i;cases j;simp
section
variable {X:Cx}{a b c:Expr}{ta tb tc:TE}{pos:Pos}
def dN {σ:St}(I:Ϙ)(q:Q (.bl k) H)(e:k=k'):EP X ai σ Q (.bool k') s:=by subst e;show#[.bl k,H,I,rfl,q]
def lS:uU X gŸ rEq:=by
 intro ai s σ H x y v u Q I rx ry h;let⟨hs,q⟩:=h;cases x with
 | fw=>
  cases rx;cases y with
  | fw=>cases ry;show PySem.EqNone.eq_none_none Ϥ
  | bl j=>cases ry;show PySem.EqNone.eq_none_bool Ϥ
  | int j=>let⟨t',rfl⟩:=ry;show PySem.EqNone.eq_none_int Ϥ
  | str j=>let⟨t',rfl⟩:=ry;show PySem.EqNone.eq_none_str Ϥ
  | _=>show ϶
 | bl i=>
  cases rx;cases y with
  | fw=>cases ry;show PySem.EqNone.eq_bool_none Ϥ
  | bl j=>cases ry;show eq_bool (dN I q Kv)
  | str j=>let⟨t',rfl⟩:=ry;show PySem.EqMixed.eq_bool_str Ϥ
  | _=>show ϶
 | int i=>
  let⟨t,rfl⟩:=rx;cases y with
  | fw=>cases ry;show PySem.EqNone.eq_int_none Ϥ
  | int j=>let⟨t',rfl⟩:=ry;show eq_int (dN I q Ez)
  | str j=>let⟨t',rfl⟩:=ry;show PySem.EqMixed.eq_int_str Ϥ
  | _=>show ϶
 | str i=>
  let⟨t,rfl⟩:=rx;cases y with
  | fw=>cases ry;show PySem.EqNone.eq_str_none Ϥ
  | bl j=>cases ry;show PySem.EqMixed.eq_str_bool Ϥ
  | int j=>let⟨t',rfl⟩:=ry;show PySem.EqMixed.eq_str_int Ϥ
  | str j=>let⟨t',rfl⟩:=ry;show eq_str (dN I q Ey)
  | _=>show ϶
 | EV i=>
  let⟨t,rfl⟩:=rx;cases y with
  | EV j=>let⟨t',rfl⟩:=ry;show W.eq_bytes (dN I q EA)
  | _=>show ϶
 | _=>cases y<;>show ϶
def IL:uU X (compareOp .NotEq) rNe:=by
 intro ai s σ H x y v u Q I rx ry h;let⟨hs,q⟩:=h;cases x with
 | fw=>
  cases rx;cases y with
  | fw=>cases ry;show PySem.EqNone.ne_none_none Ϥ
  | bl j=>cases ry;show PySem.EqNone.ne_none_bool Ϥ
  | int j=>let⟨t',rfl⟩:=ry;show PySem.EqNone.ne_none_int Ϥ
  | str j=>let⟨t',rfl⟩:=ry;show PySem.EqNone.ne_none_str Ϥ
  | _=>show ϶
 | bl i=>
  cases rx;cases y with
  | fw=>cases ry;show PySem.EqNone.ne_bool_none Ϥ
  | bl j=>cases ry;show ne_bool (dN I q (congrArg not Kv))
  | str j=>let⟨t',rfl⟩:=ry;show PySem.EqMixed.ne_bool_str Ϥ
  | _=>show ϶
 | int i=>
  let⟨t,rfl⟩:=rx;cases y with
  | fw=>cases ry;show PySem.EqNone.ne_int_none Ϥ
  | int j=>let⟨t',rfl⟩:=ry;show ne_int (dN I q (congrArg not Ez))
  | str j=>let⟨t',rfl⟩:=ry;show PySem.EqMixed.ne_int_str Ϥ
  | _=>show ϶
 | str i=>
  let⟨t,rfl⟩:=rx;cases y with
  | fw=>cases ry;show PySem.EqNone.ne_str_none Ϥ
  | bl j=>cases ry;show PySem.EqMixed.ne_str_bool Ϥ
  | int j=>let⟨t',rfl⟩:=ry;show PySem.EqMixed.ne_str_int Ϥ
  | str j=>let⟨t',rfl⟩:=ry;show ne_str (dN I q (congrArg not Ey))
  | _=>show ϶
 | EV i=>
  let⟨t,rfl⟩:=rx;cases y with
  | EV j=>let⟨t',rfl⟩:=ry;show W.ne_bytes (dN I q (congrArg not EA))
  | _=>show ϶
 | _=>cases y<;>show ϶
theorem zv:uU X (compareOp .Lt) (MB λi j=> .bl (decide (i<j))):=Nf λ_ _ _ _ _ _ _ q=>lt_int q
theorem DH:uU X (compareOp .LtE) (MB λi j=> .bl (decide (i<=j))):=Nf λ_ _ _ _ _ _ _ q=>le_int q
theorem zw:uU X (compareOp .Gt) (MB λi j=> .bl (decide (j<i))):=Nf λ_ _ _ _ _ _ _ q=>gt_int q
theorem Qj:uU X (compareOp .GtE) (MB λi j=> .bl (decide (j<=i))):=Nf λ_ _ _ _ _ _ _ q=>ge_int q
def Nd:uU X iĐ (λx y H Q=>y= .fw /\ Q (.bl (!decide (x= .fw))) H):=by
 intro ai s σ H x y v u Q I rx ry h;let⟨rfl,q⟩:=h;cases ry;exact isnot_none_gen (dN I q ?_);cases x<;>first
 | (cases rx;rfl)
 | (let⟨t,rfl⟩:=rx;rfl)
def de (b:Expr)(h:op≠ .In:=by decide)(h2:eĖ:=by decide):kϯ:=by
 have e1:jā:=by cases op<;>first | rfl | show eė
 have e2:kŮ:=by cases op<;>first | rfl | show fĂ
 cases b<;>simp[behindInMarks,e1,e2]
def je (ho:jΑ)(ha:Ş)(hb:cØ)(hm:kϯ):PE X lĕ eĠ:=by intro ai s σ H Q I h;show wpAny_Compare1 pϢ hm
def Pl (t:TE):TT:=λσ H Q=>t σ H λx H'=> ∃k,x= .bl k /\ Q k H'
def dF (ho:jΑ)(ha:Ş)(hb:cØ)(hm:kϯ):PT X lĕ (Pl eĠ):=by intro ai s σ H Q I h;exact wpAny_isTrue_Compare1 (dz jĀ λv s1 iΩ=>dz kϮ λu s2 ⟨y,H2,I2,r2,q2⟩=>dz (ho ai s2 σ H2 x y v u _ I2 r1 r2 q2) ?_) hm;rintro c s3 ⟨z,H3,I3,r3,k,e,q3⟩;subst e;cases r3;show eC #[H3,I3,q3]
def OM (K:iD)(x:V)(H:Hp)(k:Bool):Prop:=
 match x with
 | .fw=>k=false
 | ã=>k=b
 | Ă=>cæ
 | .str y=>oĶ
 | .EV y=>nϹ
 | aĨ=>(∃xs,dĎ /\ fϹ) \/ (∃xs,dď /\ fϹ) \/ oķ
 | _=>False
def BU {vs:dã}(r:Ŝ):(!vs.isEmpty)= !kvs.isEmpty:=by cases r<;>rfl
def ub (r:cÐ):(!its.toArray.isEmpty)= !xs.isEmpty:=by cases r<;>simp
def tX:(sizeLine:Nat) <2 ^ 63:=by rw[cY];decide
def RI:aeO X (λx H Q=> ∃k,OM X.K x H k /\ Q k H):=by
 intro ai s σ H x v Q I rx h;let⟨k,e,q⟩:=h;have hl:=tX;have hs:sizeLine=bĝ:=cY;cases x with
 | fw=>cases rx;have e':k=false:=e;subst e';show truthy_none bĞ
 | bl b=>cases rx;have e':k=b:=e;subst e';show eC bĞ
 | int i=>let⟨t,rfl⟩:=rx;have e':cæ:=e;subst e';show PySem.P.truthy_int bĞ
 | str y=>let⟨t,rfl⟩:=rx;let⟨hy,e'⟩:oĶ:=e;subst e';show PySem.P.truthy_str ∅ #[H,Ģ,q]
 | EV y=>let⟨t,rfl⟩:=rx;let⟨hy,e'⟩:nϹ:=e;subst e';show W.truthy_bytes (by exact Lqj Û Lq0 (.n 1099511627776) π (.a fĎ Lq1) (LqNp (LqNe hs) hy) rfl) #[H,Ģ,q]
 | ref p=>
  cases rx;have e':(∃xs,iT X.K H p xs /\ fϹ) \/ (∃xs,ko X.K H p xs /\ fϹ) \/ oķ:=e;rcases e' with⟨xs,hx,e'⟩ | ⟨xs,hx,e'⟩ | ⟨kvs,hx,e'⟩
  subst e';let⟨its,r,pl,hz⟩:=I.list hx;have d_:=r.length;show wpAny_truthy_list pl.isList iđ mŹ;subst e';let⟨its,r,pl,hz⟩:=I.tuple hx;have d_:=r.length;show truthy_tuple pl iđ mŹ;subst e';let⟨hz,hS,vs,r,m⟩:jû /\ (p==sysModules)=false /\ ∃vs,Ŝ /\ s.heap.DictOf gŹ p vs:=I.c9 p _ hx;have d_:jČ:=gŤ;show wpAny_truthy_dict hS m ∅ #[H,Ģ,by rw[BU r];show q]
 | _=>show(show False from e).elim
def Ib (ha:Ş)(he: pϚ): PT X a (λσ H Q=>ta σ H λx H'=> ∃k,OM X.K x H' k /\ Q k H'):=by intro ai s σ H Q I h;show isTrue_plain (dz jĀ (by rintro v s1 ⟨x,H1,I1,r1,q1⟩;exact RI ai s1 σ H1 x v Q I1 r1 q1)) (he _)
def vals1 (r:cM [x] us): kϲ:=by
 cases r with
 | cons r1 r2=>cases r2;show#[_,rfl,r1]
def vals2 (r:cM aÌ us):c7 λu w'=>dU (us= [u,w']) (bþ) (RelV y w'):=by
 cases r with
 | cons r1 r2=>
  cases r2 with
  | cons r3 r4=>cases r4;show#[_,_,rfl,r1,r3]
def KI:f' X hø (pŪ):=by intro ai s σ H xs us Q I r h;let⟨i,rfl,q⟩:=h;let⟨u,rfl,t,rfl⟩:=aϖ;show call_abs_int λu tk=>#[.int (jΒ),H,Ģ,Ļ,q]
def Gj:f' X Μ (qĨ):=by
 intro ai s σ H xs us Q I r h;rcases h with⟨i,rfl,q⟩ | ⟨k,rfl,q⟩
 let⟨u,rfl,t,rfl⟩:=aϖ;show call_int_int #[Ă,H,I,Ļ,q];let⟨u,rfl,r1⟩:=aϖ;cases r1;show call_int_bool #[.int jč,H,Ģ,Ļ,q]
universe e
structure CA (h:Heap)(x dx C:Addr)(mA:iā):Prop where
 obj:h.get? x=some (PySem.W.instObj C dx)
 ns:dè
 ne:aĩ
def FA {h:Heap}(n:dè): ∃od,h.get? dx=some od /\ nϕ:=by
 let⟨o,es,ep,ho,hd,hk,_,hm⟩:=n;exact#[o,ho,λname=> ?_];have e:=hm name;unfold nsFind findBy at e;rw[<- Array.find?_toList] at e;unfold W.lookIn;rw[hd];dsimp only;split;rename_i y q;rw[q] at e;show gź;rename_i q;rw[q] at e;have a:lė=false:=by rw[List.any_eq_false];intro y hy;let⟨z,t,uf⟩:=hk y (Array.mem_toList_iff.mp hy);simp[DictEntry.refKey,uf]
 have a':¬lė=true:=by rw[a];show bo
 rw[aj a'];show gź
theorem CA.look (I:CA h x dx C mA): ∃od,W.InstAt h x hè C (some od) /\ nϕ:=
 let ⟨od,ho,hl⟩:=FA I.ns
 #[od,#[I.obj,rfl,rfl,ho],hl]
def Om {K:iD}(X:dĐ)(I:iϊ)(hg:kϳ)(hh:jĎ)(ha:kϴ=bϰ)(hv:mA name=ă)(va:W.handedIn v=true)(h:Q v kű): wpAny Φ A (getAttr bĀ name Kn) Q E s:=by let⟨od,J,hl⟩:=I.look;show W.get_value X J iĒ.1 (W.findObj_own hh ha rfl (by rw[hl,hv])) va h
def Kc {K:iD}(X:dĐ)(I:iϊ)(hg:kϳ)(hf:kϴ=jď)(ht:kĈ)(hv:mA name=none)(h:Q (.ref f,[aĕ]) s): wpAny Φ A (getMethod bĀ name pl) Q E s:=by let⟨od,J,hl⟩:=I.look;show W.method_fn X J iĒ.1 iĒ.2 hf (beq_iff_eq.mp ht) (by change(hù).map dđ=Ů;rw[hl,hv];rfl) h
def Ms {K:iD}(X:dĐ)(I:iϊ)(hs:pϣ)(hp:jĐ)(ht:W.takerIn K C name=bϰ)(hh:jĎ)(hw:PySem.Within mA ns)(hsz:iϋ)(h: ∀h',CA h' x dx C (λy=>if y=name then ă else mA y) ->Heap.SameBut dx s.heap h' ->Q () {s with heap:=h',toks:=s.toks+2}): wpAny Φ A (setAttr bĀ name v) Q E s:=by let⟨od,J,hl⟩:=I.look;exact W.set_plain X J hs (W.osa_open (s:= kű) (r:=none) X J hp ht λb=> ?_);let⟨cd,hc,nr⟩:=W.any_some hh;have hx:s.heap.get? x=some #[aĪ,some dx, .plain, #[]]:=I.obj;exact ak (aN (ak (ak (wpAny_loadPart hx (ak (W.Looks.here (s:= kű) (W.looks_clsIn X hc) ?_))))));rw[nr];exact aN (a:=some dx) (ak (aN (aÔ)));exact wpAny_nsSet1 (s:= kű) I.ns λh' Tq lq=> ?_;let⟨oD,esD,epD,hoD,hdD,Of⟩:=Tq.count (PySem.Within.cons name v hw);exact ak (wpAny_lookBehind hoD (by rw[hdD];show pastItsLine_dict (aI Of (by rw[aT];exact Lqj Û ϒ ϑ Lq0 Lq1 hsz rfl))) ?_);show aN (h _ #[(lq.2 _ (aZ I.ne)).trans I.obj,Tq,I.ne] lq)
def zE {K:iD}(X:dĐ)(hm:iē)(hi:oϰ)(hf:W.typeIn K ŀ=some (.type "function"))(h:codeAny Φ (A.under (.builtin gŻ #[aĪ::vs,kw])) (.call ŀ #[.ref ϩ::vs,kw]) (W.InitBack ϩ R) pϕ): codeAny Φ A (.call Ń #[vs,kw]) R s:=by let⟨hh,g,d,t,os⟩:=s;show W.make_core (W.makes_of X hm) (W.looks_findIn X hi) (λself=>W.bind_fn X self hf) Ũ h
def kG (f:Str)(v:V):dĒ ->dĒ
 | []=> [(f,v)]
 | (g,x)::r=>if g=f then(g,v)::r else(g,x)::kG f v r
theorem qS (f g:Str)(v:V): ∀fs:dĒ,(cè).lookup g=if g=f then ă else fs.lookup g
 | []=>by change List.lookup g [(f,v)]=_;by_cases h:g=f;have hb:(g==f)=true:=hú;simp![List.lookup,hb,am h];have hb:(g==f)=false:=lĘ;simp![List.lookup,hb,aj h]
 | (k, x)::r=>by have ih:=qS f g v r;rw[pΥ];by_cases hk:k=f;rw[aÖ];by_cases h:g=k;have hb:dē:=hú;simp![List.lookup,hb,am (h.trans hk)];have hb:eĢ:=lĘ;simp![List.lookup,hb,aj (λe:g=f=>h (e.trans hk.symm))];rw[aØ];by_cases h:g=k;have hb:dē:=hú;simp![List.lookup,hb,aj (λe:g=f=>hk (h.symm.trans e))];have hb:eĢ:=lĘ;simp![List.lookup,hb];show ih
theorem qv (f:Str)(v:V): ∀fs:dĒ,f∈kĉ /\ ∀g,g∈fù ->g∈kĉ
 | []=>#[by simp[kG],λg h=>by simp at h]
 | (k, x)::r=>by let⟨i1,i2⟩:=qv f v r;rw[pΥ];by_cases hk:k=f;rw[aÖ];subst hk;show#[by simp,λg h=> Â];rw[aØ];exact#[?_,λg h=> ?_];rw[aY];show aC _ i1;rw[aY] at h ⊢;obtain e | e:=aϗ;show ay.mpr bğ;show aC _ (i2 g e)
theorem qT (f:Str)(v:V): ∀fs:dĒ,(cè).length<=fs.length+1
 | []=>by simp[kG]
 | aÕ::r=>by have ih:=qT f v r;rw[pΥ];by_cases hk:k=f;rw[aÖ,aT,aT];exact Lqj [_] ϒ ϱ ø ø LqN0 rfl;rw[aØ,aT,aT];exact Lqj Û ϒ (.a ϑ ñ) Lq0 ϑ ih rfl
def lD.some_of (r:lD bċ o): ∃u,o=þ /\ Ľ:=by
 cases o with
 | none=>show kϵ
 | some u=>show#[u,rfl,r]
def lD.none_of (r:lD none o):o=none:=by
 cases o with
 | none=>rfl
 | some u=>show kϵ
def FS (r:Ľ):W.handedIn u=true:=by
 cases v with
 | fw=>cases (show eþ from r);rfl
 | bl b=>cases (show fϥ from r);rfl
 | int i=>let⟨t,e⟩:=nĊ;cases e;rfl
 | str x=>let⟨t,e⟩:=nċ;cases e;rfl
 | EV b=>let⟨t,e⟩:=(show kü from r);cases e;rfl
 | LR b=>let⟨t,e⟩:=(show ký from r);cases e;rfl
 | ref a=>cases (show Κ from r);rfl
 | ty n=>cases (show fϦ from r);rfl
def xT (c9:Ŭ)(e:kų): ∃mA,kg (CA h a dx C mA) (mÊ) (mŵ) (gŦ) (H dx=fø):=by
 let⟨d,z,ne,ob,mA,n,r,q⟩:=(show fu P w H h a (eă) from c9 a _ e)
 show#[mA,#[ob,n,ne],r,q,z,d]
structure yH (K:PySem.W.Frag)(C:Addr):Prop where
 pg:PySem.W.plainGet K C Str.empty=true
 hd:PySem.W.hasDictIn K C=true
 po:PySem.W.plainOver K C=true
 sa:PySem.W.findIn K Ń fđ =oĜ
theorem yH.get {K:iD}{C:fR}(c:aī)(f:Str):W.plainGet K C f=true:=c.pg
def dC (K:iD)(C:fR)(f:Str):Prop:=mź
def dC.V1 {K:iD}(n:dC K C f):W.takerIn K C f=bϰ:=by unfold W.takerIn;rw[show mź from n];rfl
structure OP (K:PySem.W.Frag)(C:Addr)(m:Str)(f:Addr):Prop where
 at_:PySem.W.findIn K Ń m=jď
 fn:mÕ
 kp:mń
def Cb {σ:St}(I:Ϙ)(e:kų)(c:bĠ)(n:dC X.K C f)(l:iĕ)(h: ∀u s',hû ->Ľ ->Q u s'):wpAny ϣ A (getAttr ł f b) Q E s:=by let⟨mA,O,r,_,_,_⟩:=cé;let⟨u,hu,ru⟩:=lD.some_of (v:=v) (o:=mA f) (by rw[<- l];show r f);show Om I.v9 O (c.get f) c.hd n hu (FS ru) (h u _ cê ru)
def ui {σ:St}(I:Ϙ)(e:kų)(c:bĠ)(k:eģ)(l:hü)(h:Q (.ref g,bû) s):wpAny ϣ A (getMethod ł m pl) Q E s:=by let⟨mA,O,r,_,_,_⟩:=cé;have hn:mA m=none:=lD.none_of (by rw[<- l];show r m);show Kc I.v9 O (c.get m) k.at_ k.fn hn h
def A4 {σ:St}(I:Ϙ)(e:kų)(c:bĠ)(n:dC X.K C f)(hl:fϺ)(ry:Ł)(h: ∀s',Inv X ai σ (cR H a kŴ) s' ->aϏ):wpAny ϣ A (setAttr ł f u) Q E s:=by
 let⟨mA,O,r,wi,_,ho⟩:=cé;have hz:(fù).length<=sizeLine:=by rw[aa,cY];exact Lqj [_] Lq0 fĎ ϒ Š hl rfl
 exact Ms I.v9 O c.sa c.po n.V1 c.hd wi hz λh' O' sb=>h _ ?_;have hd: ∃o,h'.get? dx=Ą:=let ⟨o,_,_,e',_⟩:=O'.ns;#[o,e']
 exact I.write (x:=a) (e:=dx) lŕ (.inr ho) (λb q hb z=>hς z) hd ?_;exact#[by rw[bL O.ne];show ho,?_,O.ne,O'.obj,_,O'.ns,λg=> ?_,λg hg=> ?_];have:=qT f y fs;exact Lqj Û Lq0 Š k϶ (.a Š ϑ) fϻ rfl;change lD ((kG f y fs).lookup g) mŅ;rw[qS];by_cases q:g=f;rw[am q,am q];show ry;rw[aj q,aj q];show r g;by_cases q:g=f;rw[q];show dĔ.1;exact dĔ.2 g (wi g λz=>hg ?_);change mŅ=none;rw[aj q];show z
def Inv.made {σ:St}(I:Ϙ):Inv X ai σ (cR (cR H s.heap.objs.size (.own ϩ)) ϩ (lŖ)) pϕ:=by
 have e1:(kŲ).get? s.heap.objs.size=some W.emptyDict:=a4 s.heap rfl;have e2:(pĹ).get? ϩ=some (mÔ):=by have:=a4 (kŲ) (o:=mÔ) rfl;rwa [eM] at this
 have e3:(kŲ).Ns s.heap.objs.size (cë):=#[W.emptyDict, #[],_,e1,rfl,(λe he=>absurd he ś),bġ]
 have I1:=I.laid (a:=s.heap.objs.size) (o:= .own ϩ) (h':=kŲ) (t':=s.toks) hυ õ #[_,e1];exact I1.laid (a:=iĔ) (o:= lŖ) (t':=s.toks) hυ (Nat.le_of_eq (eM _ _)) ?_;have ne:s.heap.objs.size≠iĔ:=a_ aĭ;exact#[by rw[bL ne,ce],dm _,ne,e2,cë,(Heap.Ns1.of_empty e3).at λo q=>aĬ,λ_=>True.intro,λy hy=>fĒ]
theorem OG (hb:attributeBase e f env (cŸ)=cŸ)(h:wpAny Φ A (cŸ) (λo s₁=>wpAny Φ A (getAttr o f true) Q E s₁) E s):wpAny Φ A (eval jđ env) Q E s:=Attribute_any_ h (by rw[arm_eval_Attribute,hb])
def RL (K:iD)(ta:TE)(f:Str):TE:=λσ H Q=>ta σ H λx H1=>Gq λa C dx fs v=>nD Ź lŗ bĢ cŹ (iĕ) (Q v H1)
def Wv (K:iD)(ta tv:TE)(f:Str):TS:=λD σ H=>tv σ H λy H1=>ta σ H1 λx H2=>m_ λa C dx fs=>nD Ź (H2 a=iό) bĢ cŹ (fϺ) (D.nx σ (cR H2 a kŴ))
def cK (he:PE X e ta)(hb:oϜ):PE X jđ (RL X.K ta f):=by intro ai s σ H Q I h;exact OG hb mÒ;rintro u s1 ⟨x,H1,I1,rx,a,C,dx,fs,v,ex,ea,c,n,l,q⟩;subst ex;obtain rfl:Κ:=rx;show Cb I1 ea c n l λu' s2 I2 ru=>#[v,H1,I2,ru,q]
def gJ (ha:cì)(hv:fē)(hs:swapsWith value (some (hχ)) pos.line X.env=cŮ):PS X (.Assign [hχ] value pos) (Wv X.K ta tv f):=by intro ai s σ H D I h;exact plainObj_wpAny_Assign_Attribute (dz jĒ λu s1 ⟨y,H1,I1,ry,q⟩=>dz (ha ai s1 σ H1 _ I1 q) ?_) hs;rintro ov s2 ⟨x,H2,I2,rx,a,C,dx,fs,ex,ea,c,n,l,q2⟩;subst ex;obtain rfl:ov=dâ:=rx;show A4 I2 ea c n l ry λs3 I3=>fĔ
theorem Qq {σ:St}(he:cÞ)(I:Ϙ)(h:te σ H λx H1=>Gq λa C dx fs g=>nD Ź lŗ (bĠ) (eģ) (hü) (∀s1,hψ ->wpAny ϣ X.A (callWith pos (.ref g) bû nČ nŰ) Q X.xe s1))(ht:oϐ=(do
   let ov <- eĒ
   hω
   let (f,first) <- mϔ
   callWith pos f first nČ nŰ)):
  wpAny ϣ X.A (oϐ) Q X.xe s:=by
 exact pø;rintro u s1 ⟨x,H1,I1,rx,a,C,dx,fs,g,ex,ea,c,k,l,q⟩
 subst ex
 obtain rfl:Κ:=rx
 show ui I1 ea c k l (q s1 I1)
structure fJ (k:Nat)(A:Around):Prop where
 hd:gÀ
 dp:A.depth+3*k+5<recursionLimit
 un:A.units+16*k+200<cLine
theorem fJ.mono (r:aĮ)(h:j<=k):fJ j A:=#[r.hd,by have:=r.dp;exact Lqj ř (.a (.a (.a Lq0 (.m 3 Lq1)) aį) ñ) Lq2 (.a Lq1 (.a Lq1 (.a Lq1 (.a (.a (.a Lq0 (.m 3 Lq3)) aį) ñ)))) (.a Lq3 (.a Lq3 eï)) (LqNp h (LqNp h (LqNp h this))) rfl,by have:=r.un;lia]
theorem fJ.deeper (r:fJ Ü A)(env:Env):fJ k (A.deeper env):=#[r.hd,by have:=r.dp;change A.depth+1+3*k+5<_;exact qΦ,by have:=r.un;change A.units+3+16*k+200<_;exact Lqj Ğ (.a (.a (.a (.a Lq0 (.n 3)) dĕ) bģ) ñ) Lq2 pč Lq2 this rfl]
def BD {A:Around}:(oϝ).depth=A.depth+1:=by first | rfl | simp[Around.under,Code.weight,Code.isCreation,Code.isGuard,Code.isCaller,Code.frames,Code.isFrame,guardIds]
def BC {A:Around}:(oϝ).units=cí:=by first | rfl | simp[Around.under,Code.cUnits,Code.frames,Code.isFrame]
theorem fJ.make (r:fJ Ü A)(C:fR)(us:â)(kw:eĤ):fJ k (oϝ):=#[r.hd,by have:=r.dp;rw[BD];exact qΦ,by have:=r.un;rw[BC];exact Lqj Ğ (.a (.a (.a ϒ dĕ) bģ) ñ) Lq2 pč Lq2 this rfl]
def fJ.depth (r:aĮ):A.depth<recursionLimit:=by have:=r.dp;exact Lqj Ğ ϒ Lq1 (.a (.a (.a (.a Lq0 (.m 3 Lq2)) aį) ñ) mņ) (.a Lq1 (.a Lq2 eĥ)) (LqNp this (LqNp ϔ nϺ)) rfl
def fJ.units (r:aĮ):A.units+64<cLine:=by have:=r.un;lia
def Hk:TA:=λ_ H Q=>Q [] H
def Hv (ta:TE)(tr:TA):TA:=λσ H Q=>ta σ H λx H1=>tr σ H1 λxs H2=>Q (Ø) H2
section
variable {X:Cx}{e:Expr}{es:ġ}{te:TE}{t:TA}{pos:Pos}
theorem ax:PA X [] Hk:=λ_ _ _ _ H Q I h=>Calls.spliced_nil hΑ
def ae (ha:cÞ)(hr:cî)(hs:Ϲ:=by rfl):PA X aϒ (Hv te t):=by intro pos ai s σ H Q I h;rw[hs];change wpAny _ _ (spliced (jē::mŁ)) _ _ s;exact dJ mÏ;rintro u s1 ⟨x,H1,I1,r1,q1⟩;show dz (hr pos ai s1 σ H1 _ I1 q1) (by rintro us s2 ⟨xs,H2,I2,r2,q2⟩;exact #[Ø,H2,I2, .cons r1 r2,q2])
def V3 (t:TA):TE:=λσ H Q=>t σ H λxs H1=>ϧ /\ ∀p,cï ->Q ń (cR H1 p cÒ)
def V9 (t:TA):TE:=λσ H Q=>t σ H λxs H1=>ϧ /\ ∀p,cï ->Q ń (cR H1 p cÛ)
def di {x1}(h:cî):PE X (.Tuple es x1 pos) (V3 t):=by intro ai s σ H Q I hq;exact wpAny_Tuple_spliced qú;have hf:lę:=ič;exact#[ką,cR H1 s1.heap.objs.size cÒ,oΔ,rfl,q _ hf];show#[z,us,r,lΘ]
def jy (h:cî):PE X (.List es pos) (V9 t):=by intro ai s σ H Q I hq;exact wpAny_List_spliced qú;have hf:lę:=ič;exact#[ką,cR H1 s1.heap.objs.size cÛ,oΔ,rfl,q _ hf];show#[z,us,0,r,Ŀ]
universe e
abbrev Sp:=Ä ->Hp ->VK ->XK ->Prop
abbrev AJ:=ć ->Hp ->eY ->XK ->Υ
structure CH (P:Program)(w:World)(K:PySem.W.Frag)(mg:iā)(base:Heap)(A:Around)(outer:bĈ)(s:Shared)(H:Hp):Prop where
 frames:A.frames=some outer
 mod:Mod K mg base
 bs: ∀b o,base.get? b=Ą ->Ϩ /\ ľ
 KL:base.objs.size<=s.heap.objs.size
 oz:s.heap.FunFrames base outer
 LQ: ∀b∈bĤ,ľ
 c9:lE P w H s.heap
 bare:fϯ
def CE (outer:ć)(P:Program)(w:World)(H:Hp)(s:eY)(Q:VK)(u:eX)(s':eY):Prop:=c7 λv H'=>nD (cŪ) (gŰ) nς (lE P w H' s'.heap) (Ľ) (aĜ)
def CR (CX:AJ)(outer:ć)(P:Program)(w:World)(H:Hp)(s:eY)(Q:VK)(E:XK)(r:Result)(s':eY):Prop:=
 match r with
 | .ok (.ret u)=>kŵ
 | .ok _=>False
 | .error e=>CX outer H s E e s'
structure cD (P:Program)(w:World)(K:PySem.W.Frag)(mg:iā)(base:Heap)(CX:AJ)(k:Nat)(f:Addr)(fd:FuncData)(ps:bć)(sp:Sp):Prop where
 len: oŇ
 run: ∀ (A:Around) (outer:bĈ) (s:Shared) (H:Hp) (args:Args) (us:List Value) (vs:aĔ) (Q:VK) (E:XK),aĮ ->mÖ ->BindsTo s fd args dė ->bđ ->dĖ ->codeAny dą A (.call ŀ args) (CR CX outer P w H s Q E) s
theorem cD.mono {K:iD}(F:cD P w K mg base CX j f fd ps sp)(h:j<=k): mϕ:=#[F.len,λA outer s H args us vs Q E hr=>F.run A outer s H args us vs Q E (hr.mono h)]
theorem cD.imp {K:iD}(F:mϕ)(h: ∀vs H Q E,sp' vs H Q E ->dĖ):cD P w K mg base CX k f fd ps sp':=#[λvs H Q E q=>F.len vs H Q E (h _ _ _ _ q),λA outer s H args us vs Q E hr he hb hv hs=>F.run A outer s H args us vs Q E hr he hb hv (h _ _ _ _ hs)]
theorem CH.make {K:iD}(e:mÖ)(C:fR)(us:â)(kw:eĤ): CH P w K mg base (oϝ) outer s H:=#[by first | show e.frames | (simpa [Around.under,Code.envs,Code.isFrame,pushEnvs] using e.frames),e.mod,e.bs,e.KL,e.oz,e.LQ,e.c9,e.bare]
theorem Inv.Ud {σ:St}(I:Ϙ):CH X.prog X.w X.K X.mg X.base X.A X.stack s H:=#[I.ok.frames,I.ok.mod,I.bs,gż,I.stack,I.r_,I.c9,I.bare]
def Inv.after {σ:St}(I:Ϙ)(h:CE X.stack X.prog X.w H s Q u s'):EP X ai σ Q u s':=by let⟨v,H',os,bare,un,c9,r,q⟩:=h;let⟨hh,g,d,t,os'⟩:=s';obtain rfl:os'=s.os:=os;show#[v,H',I.call (h':=hh) (g':=g) (d':=d) (t':=t) (ch:= []) un c9 bare lΞ,r,q]
def qG (sp:Sp)(rQ:Ä)(E:XK)(t:TA):TE:=λσ H Q=>t σ H λvs H1=>sp bĥ H1 Q E
def Hl (C:fR)(m:Str)(sp:Sp)(rQ:Ä)(E:XK)(ta:TE)(t:TA):TE:=λσ H Q=>ta σ H λx H1=>gL λa dx fs=>gy Ź lŗ (hü) (t σ H1 λvs H2=>sp (x::bĥ) H2 Q E)
def Hm (C:fR)(sp:Sp)(rQ:Ä)(E:XK)(t:TA):TE:=λσ H Q=>t σ H λvs H1=> ∀x dx,H1 x=none ->H1 dx=none ->aĩ ->sp iė oÙ nË E
def Binds (K:iD)(fd:FuncData)(ps:ĉ)(ds:â):Prop:=∀ (s:eY) (us:â),dĐ ->lĚ ->BindsTo s fd bĦ (ps.zip bħ)
theorem Binds.all {K:iD}(h: ∀us:â,iϏ ->bindArgs fd bĦ=hý):hþ:=λs us _ hl=>by rw[List.append_nil] at hl ⊢;show .of_eq (h us hl)
def kh (CX:AJ)(X:Cx)(E:XK):Prop:= ∀ (ai:ψ) (σ:St) (H:Hp) (s:eY) (e:eX) (s':eY),Ϙ ->CX X.stack H s E e s' ->X.xe e s'
section
variable {X:Cx}{CX:AJ}{k:Nat}{f C:fR}{fd:FuncData}{ps:ĉ}{sp:Sp}{rQ:Ä}{ds:â}{E:XK}{x m:Str}{p pos gx:Pos}{e o:Expr}{es:ġ}{ta:TE}{t:TA}
def A9 {σ:St}(F:oň)(hr:bĨ)(hb:iĘ)(hd:bĩ)(hx:cð)(I:Ϙ)(r:bđ)(h:sp bĥ H Q E):wpAny ϣ X.A (call ŀ us) Ω X.xe s:=by
 have r2:cM bĥ bħ:=dĘ;have hl:lĚ:=by rw[<- r2.length];show F.len _ _ _ _ h
 exact wpAny_call (codeAny_mono (F.run X.A X.stack s H bĦ bħ bĥ Q E hr I.Ud (hb s us I.v9 hl) r2 h) gÂ);cases r with
 | error e=>show hx ai σ H s e s' I hq
 | ok fl=>
  cases fl with
  | ret u=>show I.after hq
  | next=>show fĕ
  | brk=>show fĕ
  | cont=>show fĕ
def DD (F:oň)(hr:bĨ)(hg:ċ)(hm:aĝ=fĐ)(hk:lŘ)(hb:iĘ)(hd:bĩ)(hx:cð) (ha:gÃ) (oy:ϴ:=by decide) (he:Ϲ:=by rfl) (lI:oΕ:=by rfl): PE X nč (qG sp rQ E t):=by intro ai s σ H Q I h;exact nű;exact W.callWith_K (h₀:=X.base) I.ok.mod.S4 hk pι he lI;show A9 F hr hb hd hx I1 r q
def Ix (F:oň)(hr:bĨ)(hg:ċ)(hm:aĝ=fĐ)(hk:lŘ)(hb:iĘ)(hd:bĩ)(hx:cð) (oy:ϴ:=by decide):PE X mĕ (qG sp rQ E Hk):=by intro ai s σ H Q I h;exact nű;show W.callWith_K0 I.v9 hk (A9 (us:= []) F hr hb hd hx I .nil h)
theorem MS {pl:Sem Bool}(he:cì)(c:bĠ)(hm:OP X.K C m f)(F:oň)(hr:bĨ)(hb:iĘ)(hd:bĩ)(hx:cð)(ha:gÃ) (iM:Ϲ:=by rfl) (lI:oΕ:=by rfl) (ht:pÊ=(do
   let ov <- eĚ
   hω
   let (f,first) <- mϔ
   qĚ):=by rfl):
  PE X oú (Hl C m sp rQ E ta t):=by
 intro ai s σ H Q I h
 exact pø;rintro u s1 ⟨x,H1,I1,rx,a,dx,fs,ex,ea,l,q⟩
 subst ex
 obtain rfl:Κ:=rx
 exact ui I1 ea c hm l ?_
 exact W.callWith_K (first:= bû) (h₀:=X.base) I.ok.mod.S4 hm.kp (dz (ha pos ai s1 σ H1 _ I1 q) λus s2 ⟨vs,H2,I2,r,q2⟩=>#[I2.v9,?_]) iM lI
 show A9 (us:= Ā::us) (vs:= Ā::vs) F hr hb hd hx I2 (.cons rfl r) q2
structure Mk (K:PySem.W.Frag)(C f:Addr):Prop where
 makes:PySem.W.makesIn K C=true
 init:PySem.W.findIn K Ń cŷ =jď
 fn:mÕ
 kp:PySem.W.keepIn K Ń=true
def HL {σ:St}(M:cź)(F:oň)(hr:eĦ)(hb:iĘ)(hd:bĩ)(hx:cð)(I:Ϙ)(r:bđ)(h: ∀x dx,H x=none ->H dx=none ->aĩ ->sp iė nϻ nË E): wpAny ϣ X.A ię Ω X.xe s:=by
 have hq:=qĩ;have I2:=hΔ;have r2:qÕ:= kŶ;have hl:pĂ:=by have e:=r2.length;rw[hÿ] at e;show e.symm
 exact wpAny_call (zE (f:=f) I.v9 M.makes M.init jĔ (codeAny_mono (F.run _ X.stack _ _ #[nĎ,[]] oû _ _ E hΕ jĕ oϱ r2 hq) gÄ));cases r with
 | error e=>show hx ai σ _ _ e s' I2 JR
 | ok fl=>
  cases fl with
  | ret u=>let⟨v,H',I3,rv,ev,q3⟩:=dĚ;subst ev;show oε
  | next=>show fĖ
  | brk=>show fĖ
  | cont=>show fĖ
def MT (M:cź)(F:oň)(hr:eĦ)(hg:ċ)(hm:aĝ=fė)(hb:iĘ)(hd:bĩ)(hx:cð) (ha:gÃ) (oy:ϴ:=by decide) (he:Ϲ:=by rfl) (lI:oΕ:=by rfl): PE X nč (Hm C sp rQ E t):=by intro ai s σ H Q I h;exact nű;exact W.callWith_K (h₀:=X.base) I.ok.mod.S4 M.kp pι he lI;show HL M F hr hb hd hx I1 r q
universe e
structure f9 (N P:bć)(sc:Scope):Prop where
 kind:sc.kind= .function
 co:sc.isCoroutine=false
 gen:sc.isGenerator=false
 nd:N.Nodup
 pre:N.take P.length=P
 par: ∀x∈P,pķ
 SQ: ∀y∈sc.names,y.2≠ .free
theorem wS {kindOf:hΖ}{x:Str}: ∀ {binds:eĤ} {m:dì},jĖ ->bindL kindOf binds m x=m x
 | [],_,_=>rfl
 | (n,v)::r,m,h=>by
  unfold bindL;rw[wS jΓ];split;have:x≠n:=by rintro rfl;show h v aQ
  simp[this];rfl
theorem wV {kindOf:hΖ}{x:Str}: ∀ {binds:eĤ} {m:dì},jĖ ->bindC kindOf binds m x=m x
 | [],_,_=>rfl
 | (n,v)::r,m,h=>by
  unfold bindC;rw[wV jΓ];split;rfl;have:x≠n:=by rintro rfl;show h v aQ
  simp[this]
theorem wT {kindOf:hΖ}{x:Str}{v:eX}: ∀ {P:ĉ} {vs:â} {i:Nat} {m:dì},P.Nodup ->P[i]? =û ->gÅ ->kindOf x=dë ->bindL kindOf (bĪ) m x=ă
 | [],_,_,_,_,h,_,_=>by simp at h
 | _::_,[],_,_,_,_,h,_=>by simp at h
 | p::P,w::vs,0,m,nd,h1,h2,hk=>by simp at h1 h2;subst h1;subst h2;change bindL kindOf hΗ m p=_;unfold bindL;rw[wS oĝ,aÖ];simp
 | p::P,w::vs,i+1,m,nd,h1,h2,hk=>by change bindL kindOf hΗ m x=_;unfold bindL;show wT (i:=i) cŻ.2 ⇑h1 ⇑h2 hk
theorem wW {kindOf:hΖ}{x:Str}{v:eX}: ∀ {P:ĉ} {vs:â} {i:Nat} {m:dì},P.Nodup ->P[i]? =û ->gÅ ->kindOf x≠dë ->bindC kindOf (bĪ) m x=ă
 | [],_,_,_,_,h,_,_=>by simp at h
 | _::_,[],_,_,_,_,h,_=>by simp at h
 | p::P,w::vs,0,m,nd,h1,h2,hk=>by simp at h1 h2;subst h1;subst h2;change bindC kindOf hΗ m p=_;unfold bindC;rw[wV oĝ,aØ];simp
 | p::P,w::vs,i+1,m,nd,h1,h2,hk=>by change bindC kindOf hΗ m x=_;unfold bindC;show wW (i:=i) cŻ.2 ⇑h1 ⇑h2 hk
def start (N:ĉ)(vs:Ä):St:=pæ
def iQ (CX:AJ)(P:Program)(w:World)(K:iD)(mg:dì)(base:Heap)(N:ĉ)(qual:Str)(scope:Scope)(f:fR)(cd:eX)(A:Around)(outer:ć)(s:eY)(H:Hp)(E:XK):Cx where
 prog:=P
 w:=w
 K:=K
 mg:=mg
 base:=base
 A:=oϑ
 N:=N
 s₀:=s
 H₀:=H
 env:=nϗ
 outer:=outer
 stack:=nϗ::outer
 ex:= []
 calm:=true
 fn:=λ_=>true
 pn:= []
 xe:=λe s'=>wpAny dą (oϑ) (leaving (nϗ) e) (λ_ s''=>CX outer H s E e s'') (λe' s''=>CX outer H s E e' s'') s'
def Al {sc:Scope}(h:mË): ∃c,(cellsFrom n sc.names []).lookup x=Ĉ:=by have q:=W.cellsFrom_some sc.names n [] (ağ);show Option.isSome_iff_exists.mp q
def FJ {K:iD}(S:fĘ)(hd:gÀ)(e0:mÖ)(hl:iύ)(r:bđ)(x:InCallC s s.heap.objs.size (bindL oζ dė cë) (oŉ) (bindC oζ dė cë) s1): Inv (oϞ) [] eħ H s1:=by
 have lI:ps.length<=N.length:=by have:=congrArg List.length S.pre;rw[bE] at this;lia
 let⟨h1,tk,rfl,hk⟩:=x.done;have Qk: ∀b:fR,b∉(oϞ).ex:=λb z=>oŊ;exact#[#[e0.mod,S.kind,rfl,rfl,Á,λy z c h1 h2=> ?_,dě,λy c _ h=> ?_,λ_=>hd,Around.frames_deeper e0.frames, .inr cų,kČ,e0.bs,e0.KL,λb _ _=>Qk b,kČ,e0.oz,e0.LQ],
  rfl,e0.bare,Un.kept hk,#[_,x.toInCall.ns,λi y v h1 h2 h3=> ?_],λy c h=>#[_,x.cell y c h],e0.c9.fresh õ,λy c h=> ?_,pĺ,e0.c9.kept hk,?_]
 show name_of_addr x.apart (d7 h1) (d7 h2);have hy:jė=cŦ \/ jė=cŧ:=hy;obtain hy | hy:=hy;show Al hy;show absurd rfl (S.SQ _ (d7 hy));show nÌ;have hi:dĜ:=by unfold start at h2;by_cases hi:dĜ;show hi;rw[bī] at h2;rw[dX] at h2;split at h2<;>cases h2
 have ha:gÅ:=by
  unfold start at h2;rw[bĬ,aF] at h2;cases e:aİ with
  | none=>rw[e] at h2;cases h2
  | some a=>rw[e] at h2;cases h2;rfl
 let⟨u,hu,rv⟩:=r.get ha;have hp:ps[i]? =aġ:=by rw[<- S.pre,List.getElem?_take_of_lt (by exact Lqj Ğ ϒ Lq1 kϞ ο (LqNp cñ hi) rfl)];show h1
 have ndP:ps.Nodup:=by rw[<- S.pre];show S.nd.sublist kţ
 exact#[u,rv,?_];obtain k | k:=S.par y (az hp);show .inl #[k,wT ndP hp hu k];let⟨c,e⟩:=Al (n:=iĔ) k;exact .inr #[aĐ,c,e,?_];have q:=x.cell y c e;rw[wW ndP hp hu (by change jė≠_;rw[k];decide)] at q;show q;show e0.c9.fresh (nÌ);unfold start;change _=N.length;rw[aM,aa,List.length_replicate];lia
def Q1 {K:iD}{dV kV kf pm cdv ct oc:eX}(lk:cż=some #[oc,od, .func pĎ,Bn])(B7:kϷ)(S:fĘ)(len: oŇ)(kK: ∀ (A:Around) (outer:ć) (s:eY) (H:Hp) (vs:Ä) (Q:VK) (E:XK),fJ k (A.deeper (envOfC qual scope s.heap.objs.size f cdv)) ->dĖ ->∃t,w8 pÓ body t /\ oŋ): cD P w K mg base CX Ü f pĎ ps sp:=by
 exact#[len,λA outer s H args us vs Q E hr e0 hb r xW=> ?_];have hl:=len _ _ _ _ xW;have KX:dĐ:=e0.mod.S4.keeps kϸ;have lim:s.heap.NoLimit:=e0.mod.nolimit.keeps kϸ;have X9: ∀y∈ps.zip us,kč=dë \/ (kč=cŦ /\ ((oŉ).lookup y.1).isSome=true):=(by rintro ⟨n,v⟩ hy;exact by obtain q | q:=S.par n (List.of_mem_zip hy).1;show aě;show .inr #[q,W.cellsFrom_some _ _ _ (aě)])
 exact codeAny_call_function hr.depth (KX _ _ lk) rfl S.co S.gen rfl (W.codeRec_of KX B7) (hb _ _ _ _ ?_);exact wpAny_newFunctionEnv_cells S.kind X9 λenv he s1 x=> ?_;subst he;exact#[lim.keeps x.toInCall.keep,codeAny_func ?_];let⟨t,ht,hq⟩:=kK A outer s H vs Q E (hr.deeper _) xW;have I:Inv pÓ [] eħ H s1:=FJ S hr.hd e0 hl r x;exact bK (ht [] s1 eħ H _ I hq) (gž) λe s' hs=>hs;have fin: ∀ {σ':St} {H':Hp} {v:V} {u:eX},Inv pÓ [] σ' H' s' ->Ľ ->aĜ ->kŵ:=λ{σ' H' v u} J rv q=>#[v,H',J.os,J.bare,J.base,J.c9,rv,q]
 cases fl with
 | ret u=>let⟨v,σ',H',J,rv,q⟩:=hs;show fin J rv q
 | next=>let⟨σ',H',J,q⟩:=hs;show fin (v:=V.fw) (u:=Value.none) J rfl q
 | brk=>let⟨_,_,_,q⟩:=hs;show eĨ
 | cont=>let⟨_,_,_,q⟩:=hs;show eĨ
section
variable {X:Cx}{x:Str}{p pos:Pos}{e:Expr}{es:ġ}{t:TA}{id T:String}{r:Ϫ}
def tCB (r:Ϫ)(t:TA):TE:=λσ H Q=>t σ H λvs H1=>r vs H1 Q
def cg (hc:f' X fę r)(hg:ċ)(hm:dø)(hv:fϬ=some fę)(ha:gÃ)(hn:gŪ :=by decide)(oy:ϴ:=by decide) (he:Ϲ:=by rfl) (lI:oΕ:=by rfl):oΖ:=by intro ai s σ H Q I h;exact oĞ;show PyProof.Rows.callWith_builtin1 qŀ he lI
def dc (hc:f' X cò r)(hg:ċ)(hm:dø)(hv:fϬ=some cò)(ha:gÃ)(hn:gŪ :=by decide)(oy:ϴ:=by decide) (he:Ϲ:=by rfl) (lI:oΕ:=by rfl):oΖ:=by intro ai s σ H Q I h;exact oĞ;show bV qŀ he lI
universe e
universe L2
namespace HT
open PySem PyProof.Rows
def tD (n d:Nat):Č ->Nat
 | none=>d
 | ă=>if v<0 then(v+ģ).toNat else min v.toNat n
theorem HJ (n d:Nat):tD n d none=d:=rfl
def Mv (n d k:Nat):tD n d (some ĥ)=aΗ:=by change(if ĥ <0 then(ĥ+ģ).toNat else min (k:Int).toNat n)=aΗ;rw[aj (by exact LqIm (pù)),Int.toNat_natCast]
universe HT
namespace L2
open PySem PySem.Spec PyProof.Rows
abbrev TO:=St ->Hp ->(Č ->ŝ) ->Prop
def PO (X:Cx)(e:fk Expr)(t:TO):Prop:=∀ (ai:ψ) (s:eY) (σ:St) (H:Hp) (Q:Č ->ŝ),Ϙ ->bĒ ->wpAny ϣ X.A (evalPart e X.env) (λu s'=>c7 λo H'=>dU (hθ) (IsPart u o) (Q o H')) X.xe s
def CZ:TO:=λ_ H Q=>Q none H
def Pn (t:TE):TO:=λσ H Q=>t σ H λx H1=> ∃i,cå /\ Q (some i) H1
section
variable {X:Cx}{e:Expr}{te:TE}{lo hi:fk Expr}{tl th:TO}{pos p2:Pos}
def Dv:PO X none CZ:=by intro ai s σ H Q I h;rw[evalPart_none];show aN #[none,H,I, .none,h]
def Du (h:cÞ):PO X (some e) (Pn te):=by intro ai s σ H Q I hw;rw[evalPart_some];exact dz jĂ ?_;rintro u s1 ⟨x,H1,I1,r1,q1⟩;let⟨i,rfl,q⟩:=q1;let⟨t,rfl⟩:=r1;show#[some i,H1,I1, bü,q]
def SlR (X:Cx)(r:nĿ):Prop:=∀ (ai:ψ) (s:eY) (σ:St) (H:Hp) (x:V) (v vl vu:eX) (lo hi:Č) (sl:fR) (Q:VK),Ϙ ->bĔ ->s.heap.IsSliceOf sl vl vu .none ->IsPart vl lo ->IsPart vu hi ->r x lo hi H Q ->c7 λT id=>dU (pĻ) (eĩ) (wpAny ϣ X.A (getItem v (.ref sl)) Ω X.xe s)
def tSl (r:nĿ)(te:TE)(tl th:TO):TE:=λσ H Q=>te σ H λx H1=>tl σ H1 λl H2=>th σ H2 λu H3=>r x l u H3 Q
def zp (hr:SlR X r)(he:cÞ)(hl:PO X lo tl)(hu:PO X hi th):PE X (.Subscript e kď pos) (tSl r te tl th):=by intro ai s σ H Q I h;exact Subscript_ mÒ;rintro v s1 ⟨x,H1,I1,r1,q1⟩;exact wpAny_Slice (dz (hl ai s1 σ H1 _ I1 q1) λvl s2 ⟨l,H2,I2,pl,q2⟩=>dz (hu ai s2 σ H2 _ I2 q2) ?_);rintro vu s3 ⟨u,H3,I3,pu,q3⟩;rw[evalPart_none];exact aÎ;have I4:Inv X ai σ H3 qđ:=I3.kept (t':=s3.toks) hĀ;let⟨T,id,hT,ht,hg⟩:=hr ai qđ σ H3 x v vl vu l u s3.heap.objs.size Q I4 r1 (Heap.IsSliceOf.new ..) pl pu q3;change wpAny ϣ X.A (subscriptTail e kď v (kĐ)) Ω X.xe qđ;show tail_any (ops:= [kĐ,v]) ht hT hg (by with_unfolding_all rfl)
def Ai (xs:Ä)(lo hi:Č):Ä:=qû
def Ah (xs:Ä)(lo hi:Č):(dĝ).length<=xs.length:=by unfold Ai;rw[bE,List.length_drop];lia
universe e
def uS (n:Nat)(i:Int):fk Nat:=if 0<=i then(if i<n then eĪ else none) else if eī then some dĞ else none
def lJ {α:Type}(xs:Ý)(i:Int):fk α:=(gÇ).bind λj=>xs[j]?
def D0 (h:uS n i=aı): seqIndex? i n=aı /\ j<n /\ eī /\ i<n:=by unfold uS at h;by_cases h0:0<=i;rw[am h0] at h;by_cases h1:i<n;rw[am h1] at h;have e:i.toNat=j:=bC h;show#[by rw[seqIndex_of h0 h1,e], ∅, (by exact Lqi Û Ņ Lq1 ϥ π (LqIp h0 kϹ) rfl),h1];rw[aj h1] at h;cases h;rw[aj h0] at h;by_cases h1: eī;rw[am h1] at h;have e:dĞ=j:=bC h;show#[by rw[seqIndex_neg pϤ h1,e], ∅,h1, (by exact Lqi Û ϒ Lq1 lψ gſ (LqIp (LqIw h0) kϹ) rfl)];rw[aj h1] at h;cases h
def EY {v:α}(h:gÈ): ∃j,kg (seqIndex? i xs.length=aı) (gÉ) (dğ) (-(xs.length:Int) <=i) (dĠ):=by
 unfold lJ at h;cases e:gÇ with
 | none=>rw[e] at h;cases h
 | some j=>rw[e] at h;let⟨h1,h2,h3,h4⟩:=D0 e;show#[j,h1,h,h2,h3,h4]
def lg {j:Nat}{v:α}(h:gÉ):lJ xs aϘ=ă:=by
 have hj:dğ:=(aϙ).1;have e:uS xs.length aϘ=aı:=by unfold uS;rw[am Ϻ,aĄ];simp
 unfold lJ;rw[e];show h
def ON (b:Expr):Prop:= ∀o i,subscripted b false o i=operate [o,i] fĚ
def Zi (X:Cx)(r:R2):Prop:=∀ (value slice:Expr) (ai:ψ) (s:eY) (σ:St) (H:Hp) (x y:V) (v u:eX) (Q:VK),Ϙ ->bĔ ->Ł ->r x y H Q ->subscripted slice false v u=operate [v,u] (getItem v u) ->wpAny ϣ X.A (subscriptTail value slice v u) Ω X.xe s
def MtR (X:Cx)(id:String)(r:lě):Prop:=rË
section
variable {X:Cx}{a b:Expr}{ta tb:TE}{pos:Pos}
def dW (hr:Zi X r)(ha:Ş)(hb:cØ)(hs:ON b):PE X (.Subscript a b pos) eĠ:=by intro ai s σ H Q I h;show Subscript_ (Up ha hb I h λv u s2 x y H2 I2 rx ry q=>hr a b ai s2 σ H2 x y v u Q I2 rx ry q (hs _ _))
def Sa (K:iD):R2:=λx y H Q=>m_ λp xs i v=>kg dġ (y= Ă) (dĎ) (gÈ) (Q v H)
def R_ (K:iD):R2:=λx y H Q=>m_ λp xs i v=>kg dġ (y= Ă) (dď) (gÈ) (Q v H)
def dH:Zi X (Sa X.K):=by
 intro value slice ai s σ H x y v u Q I rx ry h hs;let⟨p,xs,i,z,rfl,rfl,hq,he,q⟩:=h;cases rx;let⟨t,rfl⟩:=ry;let⟨its,r,pl,hz⟩:=cà;let⟨j,h1,h2,h3,h4,h5⟩:=EY he;let⟨w,ew,uZ⟩:=r.get h2;have hl:=r.length;have hn:=tX;have fin:hā:=fě
 by_cases h0:0<=i;have hj:i.toNat=j:=by rw[seqIndex_of h0 h5] at h1;show bC h1
 show item_listR pl.isList h0 ∅ lř fin hs;have hj:(i+kđ).toNat=j:=by rw[seqIndex_neg pϤ h4] at h1;rw[a7, <- hl];show bC h1
 show subscriptTail_builtinR (x:=w) pl.isList.typeIs slot_list_getitem.lookup (wpAny_getItem_list_neg (Q:=mϖ) pl.isList pϤ (by rw[a7] <;>lia) ∅ lř #[rfl,fin]) hs
def iA:Zi X (R_ X.K):=by
 intro value slice ai s σ H x y v u Q I rx ry h hs;let⟨p,xs,i,z,rfl,rfl,hq,he,q⟩:=h;cases rx;let⟨t,rfl⟩:=ry;let⟨its,r,pl,hz⟩:=ců;let⟨j,h1,h2,h3,h4,h5⟩:=EY he;let⟨w,ew,uZ⟩:=r.get h2;have hl:=r.length;have hn:=tX;have fin:hā:=fě
 show subscriptTail_builtinR (x:=w) pl.typeIs slot_tuple_getitem.lookup (getItem_tuple (j:=j) (Q:=mϖ) pl ∅ ∅ (by rw[a7, <- hl];show h1) ⇑ew #[rfl,fin]) hs
def BB (its:â)(n j:Nat)(u:eX):Obj.mapSeq kĒ oŚ= {cls:= eĂ,data:= .seq (its.set j u).toArray n}:=by simp[Obj.mapSeq]
def Inv.lst {σ:St}(I:Ϙ)(h:iĚ): c7 λ dç aϊ=>dU dü (fĜ=oϙ) jμ:=by let⟨z,its,n,r,e⟩:=I.c9 p _ h;show#[its,n,r,e,z]
def Inv.SY {σ:St}{its its':â}(I:Ϙ)(h:iĚ)(ho:fĜ=oϙ)(hf:f oŚ= oθ)(r:cM ys its')(hz:iϐ)(t:Nat): Inv X ai σ (cR H p có) {s with heap:=hΘ,toks:=t}:=by
 have e:(hΘ).get? p=some oθ:=by rw[Heap.get?_update_self f ho (by rw[hf] <;>rfl),hf]
 exact I.write (x:=p) (e:=p) (by rw[h];trivial) Ũ (λb u hb q=>(eN _ _ (aZ hb)).trans q) č ?_;show#[hz,its',n',r,e]
def P_:nġ:=λo i v H Q=>m_ λp xs k j=>kg (o= aĨ) (i= .int k) (iĚ) (uS xs.length k=aı) (Q mØ)
def jq:Za X P_:=by
 intro ai s σ H o i v ov iv u Q I ro ri rv h;let⟨p,xs,k,j,rfl,rfl,hp,hj,q⟩:=h;cases ro;let⟨t,rfl⟩:=ri;let⟨its,n,r,ho,hz⟩:=I.lst hp;let⟨h1,h2,h3,h4⟩:=D0 hj;have hl:=r.length;have hn:=tX;have I':Inv X ai σ mØ {s with heap:=s.heap.update p (Obj.mapSeq kĒ)}:=I.SY hp ho (BB its n j u) (r.set rv j) (by rw[List.length_set];show hz) s.toks;by_cases h0:0<=k;have hk:k.toNat=j:=by rw[seqIndex_of h0 h4] at h1;show bC h1
 show W.ki_setAt ho h0 ∅ (by rw[a7, <- hl];show h4) lĜ;have hk:(k+kđ).toNat=j:=by rw[seqIndex_neg pϤ h3] at h1;rw[a7, <- hl];show bC h1
 show W.ki_setBack ho pϤ (by rw[a7, <- hl];show h3) ∅ lĜ
def xq (lo hi:Č)(n:Nat):lŚ.1=((HT.tD n 0 lo:Nat):Int) /\ lŚ.2.1=((HT.tD n n hi:Nat):Int) /\ lŚ.2.2=1:=by
 exact#[?_,?_,rfl];cases lo with
 | none=>simp[sliceBounds,HT.tD]
 | some i=>simp![sliceBounds,HT.tD,Option.getD_none,kϺ,ci];by_cases h:i<0;simp![h,ci] <;>lia;simp![h,bB] <;>lia
 cases hi with
 | none=>simp[sliceBounds,HT.tD]
 | some i=>simp![sliceBounds,HT.tD,Option.getD_none,kϺ,ci];by_cases h:i<0;simp![h,ci] <;>lia;simp![h,bB] <;>lia
def uY (its:â)(lo hi:Č):slicePick its.toArray lo hi none=((its.drop (jΔ)).take (HT.tD its.length its.length hi - jΔ)).toArray:=by let⟨h1,h2,h3⟩:=xq lo hi its.toArray.size;unfold slicePick;rw[h1,h2,h3];simp![sliceRange_one,pick_run,a7] <;>rfl
def WD (K:iD):nĿ:=λx lo hi H Q=>c7 λa xs=>dU Ź (dú) (∀p,ņ ->Q ń (cR H p (.lst (dĝ))))
def De:SlR X (WD X.K):=by intro ai s σ H x v vl vu lo hi sl Q I rx hs pl pu h;let⟨a,xs,rfl,hx,q⟩:=h;cases rx;let⟨its,r,ht,hz⟩:=I.list hx;have d_:=r.length;exact#[ÿ,_,slot_list_getitem.lookup,ht.isList.typeIs,?_];exact wpAny_getItem_list_slice ht.isList hs pl pu .none ś ?_ (by rw[a7] <;>exact pΑ);rw[uY, <- d_];exact#[jψ,_,I.laid (t':=s.toks) (o:= .lst (dĝ)) (hĀ) õ ?_,rfl,kŷ];show#[aI (Ah xs lo hi) hz,_,0,(r.drop (jĘ)).take pË,Ŀ]
def Q2:V ->Bool
 | .fw=>true
 | aÓ=>true
 | aĦ=>true
 | aħ=>true
 | _=>false
def eqV:V ->V ->Bool
 | .fw, .fw=>true
 | .bl a, ã=>a==b
 | .bl a, aĲ=>kŸ
 | aĳ, ã=>a==ję
 | aĳ, aĲ=>a==b
 | .str a, .str b=>a==b
 | _,_=>false
def Uc (ry:Ł)(rx:bĔ)(fy:Q2 y=true)(fx:Q2 x=true):SeqAt.EqAt A s u v (eqV y x):=by
 cases y with
 | fw=>
  cases ry;cases x with
  | fw=>cases rx;show hΙ
  | bl b=>cases rx;show SeqAt.EqAt.none_bool b
  | int b=>let⟨t,rfl⟩:=rx;show SeqAt.EqAt.none_int b t
  | str b=>let⟨t,rfl⟩:=rx;show SeqAt.EqAt.none_str b t
  | _=>show nģ
 | bl a=>
  cases ry;cases x with
  | fw=>cases rx;show SeqAt.EqAt.bool_none a
  | bl b=>cases rx;show SeqAt.EqAt.bool_bool a b
  | int b=>let⟨t,rfl⟩:=rx;show SeqAt.EqAt.bool_int a b t
  | str b=>let⟨t,rfl⟩:=rx;show SeqAt.EqAt.bool_str a b t
  | _=>show nģ
 | int a=>
  let⟨t',rfl⟩:=ry;cases x with
  | fw=>cases rx;show SeqAt.EqAt.int_none a t'
  | bl b=>cases rx;show SeqAt.EqAt.int_bool a t' b
  | int b=>let⟨t,rfl⟩:=rx;show SeqAt.EqAt.int_int a t' b t
  | str b=>let⟨t,rfl⟩:=rx;show SeqAt.EqAt.int_str a t' b t
  | _=>show nģ
 | str a=>
  let⟨t',rfl⟩:=ry;cases x with
  | fw=>cases rx;show SeqAt.EqAt.str_none a t'
  | bl b=>cases rx;show SeqAt.EqAt.str_bool a t' b
  | int b=>let⟨t,rfl⟩:=rx;show SeqAt.EqAt.str_int a t' b t
  | str b=>let⟨t,rfl⟩:=rx;show SeqAt.EqAt.str_str a t' b t
  | _=>show nģ
 | _=>show absurd (show cŶ from fy) bo
def yo:f' X hĂ (λxs H Q=>c7 λp ys=>dU (eĬ) mϗ kē):=by intro ai s σ H xs us Q I r h;let⟨p,ys,rfl,hq,q⟩:=h;let⟨u,rfl,rx⟩:=aϖ;cases rx;have hn:=tX;obtain hq | hq:=hq;let⟨its,r',pl,hz⟩:=cà;have d_:=r'.length;show Calls.call_len_list pl.isList jΕ pÔ;let⟨its,r',pl,hz⟩:=ců;have d_:=r'.length;show len_tuple pl jΕ pÔ
def yn:f' X ϋ (λxs H Q=>c7 λp ys=>dU (eĬ) mϗ oŲ):=by
 intro ai s σ H xs us Q I r h;let⟨p,ys,rfl,hq,q⟩:=h;let⟨u,rfl,rx⟩:=aϖ;cases rx;have fin: ∀ (its:â),cM ys its ->iϐ -> ∀ (h':Heap) (c':Nat),(∀b o',fý=aώ ->cÑ=aώ) ->kϻ=some {cls:= eĂ,dict:=none,data:= .seq its.toArray c',slots:= #[]} ->EP X ai σ Q ků hζ:=λits r' hz h' c' kp e=>#[jψ,_,I.laid (t':=s.toks) kp õ (show fu X.prog X.w _ h' _ có from#[hz,its,c',r',e]),rfl,kŷ]
 obtain hq | hq:=hq;let⟨its,r',pl,hz⟩:=cà;have d_:=r'.length;let⟨o,ho,hc,n,hd⟩:=pl.isList;show call_list_seq p Ũ ho hc hd oÀ qĒ;let⟨its,r',pl,hz⟩:=ců;have d_:=r'.length;let⟨o,ho,hc,n,hd⟩:=pl;show call_list_seq p (ĺ) ho hc hd oÀ qĒ
def vk:f' X ϙ (λxs H Q=>c7 λp ys=>eĬ /\ ((fĝ /\ oŌ) \/ (fĞ /\ Q ń H))):=by
 intro ai s σ H xs us Q I r h;let⟨p,ys,rfl,h⟩:=h;let⟨u,rfl,rx⟩:=aϖ;cases rx;rcases h with⟨hq,q⟩ | ⟨hq,q⟩
 let⟨its,r',pl,hz⟩:=cà;have d_:=r'.length;exact call_tuple_list pl.isList (λh' kp=> ?_) qĒ;have I1:mŷ:=I.kept (t':=s.toks) kp;have I2:Inv X ai σ (cR H h'.objs.size cõ) {s with heap:=h'.push {cls:= fô,data:= hă}}:=I1.laid (t':=s.toks) (gŲ) õ (show fu X.prog X.w _ _ _ cõ from#[hz,its,r',yy.new _ _]);show#[hΚ,_,I2,rfl,q _ (ič)];let⟨its,r',pl,hz⟩:=ců;show call_tuple_same pl #[aĨ,H,I,rfl,q]
def tyV (K:iD)(T:String)(x:V)(H:Hp):Prop:=match x with
 | aħ=>T= "str"
 | aĦ=>T= "int"
 | aĨ=>(T= ÿ /\ ∃xs,dĎ) \/ (T= aΧ /\ ∃o,dU (K.lookup p=Ą) (jú) (dæ)) \/(T= aĵ /\ ((∃kvs,H p=ϊ) \/ ∃kvs,H p=some cö)) \/ (T= "set" /\ ∃S n,H p=some (.set S n))
 | _=>False
def RC {σ:St}(I:Ϙ)(r:bĔ)(ty:tyV X.K T x H): eĩ /\ ∀a,v= Ā -> ∃ob,fï=Ġ /\ eĭ:=by
 cases x with
 | str z=>let⟨t,rfl⟩:=r;cases (show T= "str" from ty);show#[typeIs_str s z t,λ_ e=>nomatch e]
 | int i=>let⟨t,rfl⟩:=r;cases (show T= "int" from ty);show#[typeIs_int s i t,λ_ e=>nomatch e]
 | ref p =>
  cases r;rcases ty with⟨rfl,xs,hq⟩ | ⟨rfl,o,hk,hc,hd⟩ | ⟨rfl,hk⟩ | ⟨rfl,S,n,hk⟩
  let⟨its,_,pl,_⟩:=cà;exact#[pl.isList.typeIs,λa e=> ?_];cases e;let⟨o,n,e,c,hd,_⟩:=pl;show#[o,e,hd];exact#[#[o,I.v9 p o hk,hc],λa e=> ?_];cases e;show#[o,I.v9 _ o hk,hd];have z: ∃o,fĜ=Ą /\ o.ExactDict:=by
   rcases hk with⟨kvs,hk⟩ | ⟨kvs,hk⟩
   let⟨_,_,_,_,o,_,_,e,ex,_⟩:=dĢ;show#[o,e,ex];let⟨_,_,_,_,o,_,_,e,ex,_⟩:=dĢ;show#[o,e,ex]
  let⟨o,e,ex⟩:=z;exact lś;cases e2;show fğ;let⟨o,_,_,_,e,ex,_⟩:=dĢ;exact lś;cases e2;show fğ
 | _=>show False.elim ty
def tBM (K:iD)(T:String)(r:lě)(to:TE)(t:TA):TE:=λσ H Q=>to σ H λx H1=>tyV K T x H1 /\ t σ H1 λxs H2=>r x xs H2 Q
variable {o e:Expr}{es:ġ}{to:TE}{t:TA}{name:Str}{gx fO:Pos}{T id:String}{r:lě}
def Qe (pa:PlainAttrs T)(slot:Slot T name id)(hty:typeOf fę=pure (.type "method_descriptor"))(hm:MtR X id r)(ho:PE X o to)(ha:gÃ) (zV:attributeBase o name X.env (eĚ)=eĚ:=by rfl) (abS:((backTo fO (kċ)).all eĮ && pď && decide ((e::es).length+([]:eV Keyword).length+(if([]:eV Keyword).isEmpty then 0 else 1) <30))=true:=by rfl) (zS:lŜ:=by rfl) (hs:Ϲ:=by rfl) (Tl:oü=false:=by rfl): PE X (.Call (.Attribute o name gx) aϒ [] fO) (tBM X.K T r to t):=by intro ai s σ H Q I h;exact wpAny_Call_method_late zV abS zS rfl mÑ;rintro v s1 ⟨x,H1,I1,r1,ty,q1⟩;let⟨h1,h2⟩:=RC I1 r1 ty;exact#[T,id,pa,slot,hty,h1,h2,?_];have hA:=ha fO ai s1 σ H1 _ I1 q1;rw[hs] at hA ⊢;exact Calls.callWith_builtin (by change(false || oü)=false;rw[Tl] <;>rfl) (Calls.evalArgs_plain ?_);show dz hA (by rintro us s2 ⟨vs,H2,I2,r2,q2⟩;exact hm ai s2 σ H2 x vs v us Q I2 r1 r2 q2)
universe e
def MtM (X:Cx)(id:String)(r:lě):Prop:=rË
def cM.one: ∀ {x:V} {us:â},cM [x] us -> kϲ :=by intro x us h;cases h with | cons r t=>cases t;show#[_,rfl,r]
def Inv.Xl {σ:St}{its its':â}(I:Ϙ)(hH:iĜ)(e:pş)(hf:f its.toArray=its'.toArray)(hv:cM ys its')(hz:iϐ): Inv X ai σ iě {s with heap:=s.heap.update l gË,toks:=t'}:=by have q:=PySem.IsL.update e f;rw[hf] at q;exact I.write (x:=l) (e:=l) (by rw[hH];show trivial) Ũ (λb' u hb hu=>(eN s.heap gË (aZ hb)).trans hu) #[_,q] ?_;show#[hz,its',_,hv,q]
theorem Inv.abe {σ:St}(I:Ϙ)(hv:cM ys its)(hz:iϐ): Inv X ai σ (cR H s.heap.objs.size có) {s with heap:=s.heap.push {cls:= eĂ,data:= hă},toks:=t'}:=I.laid hΜ õ #[hz,its,0,hv,Ŀ]
theorem Inv.fresh {σ:St}(I:Ϙ):kŹ:=hΓ
def Inv.Je {σ:St}(I:Ϙ)(hH:iĜ):ϧ /\ c7 λ dç aϊ=>dU dü (xs.length=its.length) (pş):=by let⟨z,its,n,r,e⟩:=I.c9 l _ hH;show#[z,its,n,r,r.length,e]
def IY (h:dģ):Builtin.List.listTooLong n=false:=by unfold Builtin.List.listTooLong;show cb (by exact LqNm (Lqj Û Lq0 Lq1 Lq0 Lq1 h rfl))
def Dn:lě:=λx vs H Q=>gL λl xs y=>kg dĤ (vs= [y]) (iĜ) (xs.length<sizeLine) (Q .fw (cR H l (.lst (xs++ [y]))))
def mL:MtM X fĠ Dn:=by intro ai s σ H x vs v us Q I rx rv h;let⟨l,xs,y,rfl,rfl,hH,hz,q⟩:=h;cases rx;let⟨u,rfl,ru⟩:=rv.one;let⟨z,its,n,r,hl,e⟩:=I.Je hH;exact call_meets F.slot_list_append #[_,e,rfl] F.entry_list_append (F.args_list_append_2 _ _) (PySem.list_append l its.toArray n u (by rw[a7];exact Lqj Ğ Lq0 Lq1 lÀ ο (LqNp hz (câ)) rfl)) #[e,?_];exact#[.fw,_,I.Xl (its':=its++ [u]) hH e ś (r.append gγ) ?_,rfl,q];rw[aM,bT];exact Lqj Û ϒ Lq1 ϒ Lq1 hz rfl
def MC:lě:=λx vs H Q=>m_ λl b xs zs=>nD dĤ (vs= [aĶ]) (iĜ) (H b=gÌ) mŻ (Q .fw (cR H l gδ))
def UR:MtM X "list.extend" MC:=by
 intro ai s σ H x vs v us Q I rx rv h;let⟨l,b,xs,zs,rfl,rfl,hH,hB,hz,q⟩:=h;cases rx;let⟨u,rfl,ru⟩:=rv.one;cases ru;let⟨z,its,n,r,hl,e⟩:=I.Je hH;let⟨z2,BP,n2,r2,Tx,e2⟩:=I.Je hB;have hsz:mϘ<=sizeLine:=by rw[a7,a7];exact qς
 have X4:¬(!its.toArray.isEmpty && Builtin.List.listTooLong (mϘ))=true:=by rw[IY hsz,Bool.and_false];show bo
 exact call_meets F.slot_list_extend #[_,e,rfl] F.entry_list_extend (F.args_list_extend_2 _ _) (AutoSeq1.list_extend_list_list_0 l its.toArray n b BP.toArray n2 X4 (by rw[a7];exact Lqj ř Lq0 Lq1 (.a ξ ϕ) jŨ (LqNp hz (LqNp câ Ϡ)) rfl) (by exact Lqj Ğ μ ϓ μ Lq2 hsz rfl)) #[e,e2,?_];exact#[.fw,_,I.Xl (its':=its++BP) hH e ś fġ ?_,rfl,q];rw[aM];exact oϲ
def WJ:R2:=λx y H Q=>m_ λl b xs zs=>nD dĤ dĥ (iĜ) (H b=gÌ) mŻ (∀p,ņ ->Q ń (cR H p gδ))
def xJ:uU X gŷ WJ:=by
 intro ai s σ H x y v u Q I rx ry h;let⟨l,b,xs,zs,rfl,rfl,hH,hB,hz,q⟩:=h;cases rx;cases ry;let⟨z,its,n,r,hl,e⟩:=I.Je hH;let⟨z2,BP,n2,r2,Tx,e2⟩:=I.Je hB;exact PySem.P.add_list e e2 ?_ (by rw[a7,a7];exact qς);have ea:its.toArray++BP.toArray=(its++BP).toArray:=by simp
 rw[ea];show#[aķ,_,I.abe (t':=s.toks) fġ (by rw[aM];exact oϲ),rfl,q _ I.fresh]
section
variable {κ:Type} [gÍ]
def iU (kvs:ū)(k:κ):fk V:=oĸ
def gV (kvs:ū)(k:κ)(v:V):ū:=qŎ
def q_ (kvs:ū)(k:κ):ū:=nď
def sN {k:κ}(e:aÙ):dĦ=bč:=by simp[iU,dw,e]
def sO {k:κ}(e:¬aÙ):dĦ=iU r k:=by simp[iU,dw,e]
theorem yM (k:κ): ∀kvs:ū,mż=hΝ
 | []=>rfl
 | p::r=>by rw[List.any_cons];by_cases e:aÙ;simp![sN e,cj e,Bool.true_or,Option.isSome_some];rw[sO e,cb e,Bool.false_or];show yM k r
def iJ (kvs:ū)(k:κ)(v:V):iϑ<=eį:=by unfold gV;split;rw[aa];exact oϏ;rw[aM,aT,List.length_nil];exact Lqj [_] lΕ ϒ ø ø LqN0 rfl
def lD.mT (r:lD o u):o.isSome=u.isSome:=by
 cases o with
 | none=>cases u with
  | none=>rfl
  | some _=>show kϵ
 | some _=>cases u with
  | none=>show kϵ
  | some _=>rfl
def lD.getD (r:lD o u)(rd:RelV d d'):RelV (o.getD d) (u.getD d'):=by
 cases o with
 | none=>cases u with
  | none=>show rd
  | some _=>show kϵ
 | some _=>cases u with
  | none=>show kϵ
  | some _=>show r
def KV.val (r:Ŝ)(k:κ):lD (Ň) (eİ):=by
 unfold KV at r;induction r with
 | nil=>show True.intro
 | @cons p q ps qs h t ih=>
  let⟨h1,h2⟩:=h;by_cases e:aÙ;have e':aÚ:=gε;have b:hΞ=some q.2:=by simp[valueAt,dw,e']
  rw[sN e,b];show h2;have e':¬aÚ:=iϒ;have b:hΞ=valueAt qs k:=by simp[valueAt,dw,e']
  rw[sO e,b];show ih
def KV.any (r:Ŝ)(k:κ):mż=mÙ:=by
 unfold KV at r;induction r with
 | nil=>rfl
 | cons h t ih=>rw[List.any_cons,List.any_cons,ih,h.1]
def KV.R9 (r:Ŝ)(k:κ)(ry:Ł): KV oŝ (vs.map λkv=>if aĸ then(kv.1,u) else kv):=by
 unfold KV at r ⊢;induction r with
 | nil=>show .nil
 | @cons p q ps qs h t ih=>rw[aY,aY];exact dħ;let⟨h1,h2⟩:=h;by_cases e:aÙ;rw[Ç,am (gε)];show#[h1,ry];rw[È,aj (iϒ)];show bį
def KV.put (r:Ŝ)(k:κ)(ry:Ł):KV eı (stored vs k u):=by unfold gV stored;rw[r.any k];by_cases e:(mÙ)=true;rw[Ç,Ç];show r.R9 k ry;rw[È,È];show Paired.snoc r #[rfl,ry]
def KV.drop (r:Ŝ)(k:κ):KV (q_ kvs k) (without vs k):=by
 unfold KV at r ⊢;unfold q_ without;induction r with
 | nil=>show .nil
 | @cons p q ps qs h t ih=>
  let⟨h1,h2⟩:=h;rw[List.filter_cons,List.filter_cons];by_cases e:aÙ;have a:¬jΗ:=by simp[e]
  have b:¬jΘ:=by simp[gε]
  rw[aj a,aj b];show ih;have e':¬aÚ:=iϒ;have a:jΗ:=by simp[e]
  have b:jΘ:=by simp[e']
  rw[am a,am b];show .cons bį ih
def KV.keys {vs:dã}(r:Ŝ):gÎ=fĢ:=by
 unfold KV at r;induction r with
 | nil=>rfl
 | cons h t ih=>rw[aY,aY,ih,h.1]
theorem KV.length {vs:dã}(r:Ŝ):jČ:=gŤ
theorem Kt (kvs:ū)(k:κ):(q_ kvs k).length<=kvs.length:=lĝ
universe e
def pk (r:fģ):(cS P w).is k u=true:=by
 cases k with
 | inl i=>let⟨t,e⟩:=nĊ;subst e;show zC P w i t
 | inr x=>let⟨t,e⟩:=nċ;subst e;show zB P w x t
theorem v_ {P:Program}{w:World}: ∀ {ks:aÏ} {us:â},cM dĨ us ->ItemsAre bÿ ks us
 | [],_,r=>by rw[List.map_nil] at r;cases r;show .nil
 | k::ks,_,r=>by
  rw[aY] at r;cases r with
  | cons h t=>show .cons (pk h) (v_ t)
abbrev KT (H:Hp):fĤ ->iü ->Prop:=Paired λp q=>pĶ
def KT.val (r:dĩ)(k:aÏ):lD (Ň) (kź):=by
 induction r with
 | nil=>show True.intro
 | @cons p q ps qs h t ih=>
  let⟨h1,_,h2⟩:=h;by_cases e:aÙ;have e':aÚ:=gε;have b:gζ=some q.2:=by simp[atKey,dw,e']
  rw[sN e,b];show h2;have e':¬aÚ:=iϒ;have b:gζ=atKey qs k:=by simp[atKey,dw,e']
  rw[sO e,b];show ih
def KT.R9 (r:dĩ)(k:aÏ)(ry:Ł): KT H oŝ (xs.map (putAt k u)):=by
 induction r with
 | nil=>show .nil
 | @cons p q ps qs h t ih=>rw[aY,aY];exact dħ;let⟨h1,h2,h3⟩:=h;unfold putAt;by_cases e:aÙ;rw[Ç,am (gε)];show#[h1,h2,ry];rw[È,aj (iϒ)];show#[h1,h2,h3]
def KT.put (r:dĩ)(k:aÏ)(hb:lŝ)(ry:Ł): KT H eı (storedH xs k b u):=by
 have e:mż=iϓ:=by rw[yM,(r.val k).mT,Option.isSome_map]
 unfold gV storedH;rw[e];by_cases q:iϓ=true;rw[am q,am q];show r.R9 k ry;rw[aj q,aj q];show Paired.snoc r #[rfl,hb,ry]
theorem KT.keeps (r:dĩ)(ht: ∀b ys,H b=some cõ ->H' b=some cõ):KT H' kvs xs:=Paired.SW r λ_ _ z=>lč
theorem P9 (ok:Ŭ)(e:Rd H a u):fϫ:=e.ok ok
theorem pR (ok:Ŭ)(e:hĄ):qð:=
 show fu P w H h a cç from P9 ok e
theorem z_ (ok:Ŭ)(e:iĝ):qð:=pR ok bğ
def ua (ok:Ŭ)(e:H a=some (.tup dĨ)):(iý).is h ks a:=by
 let⟨_,its,r,o,h1,h2,n,h3,_⟩:=(show fu P w H h a (.tup dĨ) from ok a _ e)
 show#[o,its.toArray,n,h1,h2,h3, ⇑(v_ r)]
def wE (ok:Ŭ)(e:hą):qĺ:=by
 let⟨z,y,xs,r,o,es,ep,h1,h2,h3,h4,h5⟩:=(show fu P w H h a cö from P9 ok e)
 exact#[z,y,xs,r,o,es,ep,h1,h2,h3,h4,ź,h5];have all: ∀ {l:fĤ} {m:iü},KT H l m -> ∀x∈m,(iý).is h x.1 x.2.1:=by
  intro l m q;induction q with
  | nil=>intro x hx;show nomatch hx
  | @cons p q ps qs hq t ih=>intro x hx;obtain e | hx:=bİ;subst e;show ua ok (by rw[<- hq.1];show hq.2.1);show ih x hx
 show all r x hx
theorem YH (ok:Ŭ)(e:H a=some cö):qĺ:=wE ok bğ
def rX (H:Hp)(a:fR)(y:V)(r:fk V):Prop:=(c7 λkvs k=>dU (hĄ) bı (r=Ň)) \/ gL λkvs k b=>gy (hą) dĥ (lŝ) (r=Ň)
def Lf (H:Hp)(a:fR)(y v:V)(H':Hp):Prop:=(c7 λkvs k=>gy (iĝ) bı jΙ (H'=lĞ)) \/gL λkvs k b=>kg (H a=some cö) dĥ (lŝ) jΙ (H'=cR H a (.dT (cŽ)))
theorem rX.k {k:cF}(e:iĝ):rX H a (kV k) (Ň):= .inl #[kvs,k, .inl e,rfl,rfl]
theorem Lf.k {k:cF}(e:iĝ)(hl:iϔ):Lf H a (kV k) v (lĞ):= .inl #[kvs,k,e,rfl,hl,rfl]
def Inv.big {σ:St}(I:Ϙ):sysModules<s.heap.objs.size:=by have h:mainGlobals<s.heap.objs.size:=(jθ).lt;show Nat.lt_trans ⋯ h
def Ga {σ:St}(hu:gθ)(I:Ϙ)(g:rX H a y bċ)(ry:Ł)(h: ∀w' s',nυ): wpAny ϣ A (getItem ł u) Q E s:=by
 rcases g with⟨kvs,k,e,ey,l⟩ | ⟨kvs,k,b,e,ey,eb,l⟩
 subst ey;let⟨z,hd,vs,rel,dd⟩:=cø;let⟨w',hw,uZ⟩:=lD.some_of (v:=v) (o:=eİ) lğ;show wpAny_getItem_of aϛ dd.mapOf hw (iϕ);subst ey;cases mÚ;let⟨z,hd,xs,rel,dd⟩:=cú;let⟨w',hw,uZ⟩:=lD.some_of (v:=v) (o:=kź) lğ;let⟨p,hp,hp2⟩:=Option.map_eq_some_iff.mp hw;exact wpAny_getItem_heap (jΚ) (cž) dd hp ?_;rw[hp2];show iϕ
def OB {σ:St}(hu:gθ)(I:Ϙ)(g:cſ)(ry:Ł)(h: ∀s',hû ->Q (.bool dĪ) s'): wpAny ϣ A (compareOp .NotIn u ł) Q E s:=by
 rcases g with⟨kvs,k,e,ey,l⟩ | ⟨kvs,k,b,e,ey,eb,l⟩
 subst ey;let⟨z,hd,vs,rel,dd⟩:=cø;exact wpAny_notIn_of aϛ hd dd.mapOf ?_;rw[<- gÏ, <- l];show h _ cê;subst ey;cases mÚ;let⟨z,hd,xs,rel,dd⟩:=cú;exact wpAny_notIn_heap (jΚ) (cž) hd dd ?_;have q:=gÏ;rw[Option.isSome_map] at q;rw[<- q, <- l];show h _ cê
theorem pS {σ:St}(I:Ϙ)(mu:Ze (H a))(hs:kϭ)(he: jΜ)(new:fu X.prog X.w dī h' a ob): Inv X ai σ dī lŐ:=I.write (x:=a) (e:=a) mu Ũ (λb q hb z=>(hs.2 b hb).trans z) he new
theorem ut (z:jû)(hd:jż)(rel:Ŝ)(dd:h'.DictOf bÿ a vs): fu P w H' h' a cç:=#[z,hd,vs,rel,dd]
def F_ {σ:St}(hu:gθ)(I:Ϙ)(g:Lf H a y v H')(ry:Ł)(rv:RelV v r)(h: ∀s',hθ ->aϏ): wpAny ϣ A (setItem ł u r) Q E s:=by
 rcases g with⟨kvs,k,e,ey,l,eH⟩ | ⟨kvs,k,b,e,ey,eb,l,eH⟩
 subst ey eH;let⟨z,hd,vs,rel,dd⟩:=cû;have hz:iΙ:=by rw[<- rel.length];show z
 have hl:mĖ:=by have:=iJ kvs k v;exact qå
 exact wpAny_setItem_pairs (hsz:=hz) aϛ dd iĞ;have he: jΜ:=let ⟨q,_,_,hq,_⟩:=F';aϜ
 show pS I lŕ hs he (ut hl hd (rel.put k rv) F');subst ey eH;cases mÚ;let⟨z,hd,xs,rel,dd⟩:=YH I.c9 e;have hz:ϧ:=by rw[<- Paired.length rel];show z
 have hl:mĖ:=by have:=iJ kvs k v;exact qå
 exact wpAny_setItem_heap (hsz:=hz) (jΚ) (cž) dd iĞ;let⟨q,es,ep,hq,h2,h3,h4,_,h5⟩:=F';exact pS I lŕ hs aϜ #[hl,hd,_,(rel.put k eb rv).keeps λc ys ec=> ?_,q,es,ep,hq,h2,h3,h4,h5];rw[bL (Xb ec e hĆ)];show ec
def Gb {σ:St}(I:Ϙ)(e:iĝ)(ry:fģ)(l:hΝ=true)(h: ∀s',Inv X ai σ (cR H a (.dK (q_ kvs k))) s' ->aϏ): wpAny ϣ A (delItem ł u) Q E s:=by
 let⟨z,hd,vs,rel,dd⟩:=cû;exact wpAny_delItem_slot dd.typeIs ⋯ PySem.F.slot_dict_delitem (call_meetsIn PySem.F.slot_dict_delitem dd.typeIs PySem.F.entry_dict_delitem (PySem.F.args_dict_delitem_2 _ _) (meets_dict_delitem_pairs gŹ a aϛ) #[vs,dd,by rw[<- rel.length];show z,by rw[<- gÏ];show l,iĞ]);have he: jΜ:=let ⟨q,_,_,hq,_⟩:=F';aϜ
 show pS I lŕ hs he (ut (aI (Kt kvs k) z) hd (rel.drop k) F')
def Zc (i:Expr):Prop:= ∀ov iv,subscripted i false ov iv=operate [ov,iv] (getItem ov iv)
def Mm {T id:String}(hl:pĻ)(hs:Zc slice)(h:wpAny Φ A (eval value env) (λo s₁=>wpAny Φ A (eval slice env) (λi s₂=>s₂.TypeIs o T /\ wpAny Φ A fĚ Q E s₂) E s₁) E s): wpAny Φ A (eval (.Subscript value slice pos) env) Q E s:=by
 exact Subscript_ (bK h (λo s₁ h₁=>bK h₁ (λi s₂ h₂=> ?_) cū) cū);let⟨hT,h₂⟩:=h₂;unfold subscriptTail;exact aÔ;rw[getitemInPython_of_ne hT.not_modules];exact ak (wpAny_specialOf hT hl ?_);have fin:wpAny Φ A (subscripted slice false o i) (λr s₃=>wpAny Φ A (letTemporaryGo value o r >>=λ_=>aÿ) Q E s₃) E s₂:=by rw[hs o i];show wpAny_operating (bK h₂ (λr s₃ h₃=>ak (wpAny_letTemporaryGo (aN h₃))) cū)
 first
 | show dĬ
 | show ak (dĬ)
 | show ak fin
def Ab {σ:St}(I:Ϙ)(g:cſ):lÁ :=by
 rcases g with⟨kvs,k,e,_,_⟩ | ⟨kvs,k,b,e,_,_,_⟩
 let⟨_,_,vs,_,dd⟩:=cø;show dd.typeIs;let⟨_,_,xs,_,dd⟩:=cú;show dd.typeIs
def Pw (td ty:TE):TE:=λσ H Q=>td σ H λx H1=>ty σ H1 λy H2=>c7 λa v=>dU Ź (rX H2 a y bċ) (Q v H2)
def C3 (ty td:TE):TE:=λσ H Q=>ty σ H λy H1=>td σ H1 λx H2=>c7 λa o=>dU Ź (rX H2 a y o) (Q (.bl dĪ) H2)
def PX (td ty tv:TE):TS:=λD σ H=>tv σ H λv H1=>td σ H1 λx H2=>ty σ H2 λy H3=>c7 λa H4=>dU Ź (Lf H3 a y v H4) (D.nx σ H4)
def PY (td ty:TE):TS:=λD σ H=>td σ H λx H1=>ty σ H1 λy H2=>gL λa kvs k=>kg Ź (H2 a=ϊ) bı (hΝ=true) (D.nx σ (cR H2 a (.dK (q_ kvs k))))
def fC (hu:hΟ)(ho:cü)(hi:cý)(hs:Zc i):PE X ją (Pw td ty):=by intro ai s σ H Q I h;exact Mm PySem.F.slot_dict_getitem.lookup hs qÖ;rintro iv s2 ⟨y,H2,I2,ry,a,v,ex,g,q2⟩;subst ex;obtain rfl:Κ:=rx;show#[Ab I2 g,Ga hu I2 g ry λw' s3 I3 uZ=>#[v,H2,I3,uZ,q2]]
def qo (hu:hΟ)(hi:cý)(ho:cü):PC X .NotIn i o (C3 ty td):=by intro ai s σ H Q I h;exact dz jĊ λiv s1 ⟨y,H1,I1,ry,q1⟩=>dz lÂ ?_;rintro u s2 ⟨x,H2,I2,rx,a,ov,ex,g,q2⟩;subst ex;obtain rfl:Κ:=rx;show OB hu I2 g ry λs3 I3=>#[.bl (!ov.isSome),H2,I3,rfl,q2]
def mH (hu:hΟ)(ho:cü)(hi:cý)(hv:fē)(hs:swapsWith value (some (hΡ)) pos.line X.env=cŮ): PS X (.Assign [hΡ] value pos) (PX td ty tv):=by intro ai s σ H D I h;exact wpAny_Assign_Subscript (dz jĒ λr s1 ⟨v,H1,I1,rv,q1⟩=>dz lÂ λu s2 ⟨x,H2,I2,rx,q2⟩=>dz (hi ai s2 σ H2 _ I2 q2) ?_) hs;rintro iv s3 ⟨y,H3,I3,ry,a,H4,ex,g,q3⟩;subst ex;obtain rfl:Κ:=rx;show F_ hu I3 g ry rv λs4 I4=>#[σ,H4,I4,q3]
def MJ (ho:cü)(hi:cý):PS X (.Delete [.Subscript o i AW] pos) (PY td ty):=by intro ai s σ H D I h;exact wpAny_Delete (wpAny_deleteEach_cons (wpAny_delete_Subscript qÖ));rintro iv s2 ⟨y,H2,I2,ry,a,kvs,k,ex,e,ey,l,q2⟩;subst ex ey;obtain rfl:Κ:=rx;show Gb I2 e ry l λs3 I3=>wpAny_deleteEach_nil fĔ
theorem Aa (h:Heap)(hb:sysModules<h.objs.size):fu P w H (h.push nŲ) h.objs.size bĲ:=#[dm _,beq_eq_false_iff_ne.mpr (aZ (a_ hb)),[], .nil,Heap.DictOf.new h]
def Ht:TE:=λ_ H Q=> ∀p,ņ ->Q ń hΤ
theorem jz:PE X (.Dict [] [] pos) Ht:=λai s σ H Q I h=>wpAny_Dict_empty #[jψ,_,I.laid (a:=s.heap.objs.size) (o:= .dK []) (t':=s.toks) hΜ õ hΥ,rfl,h _ (hΓ)]
def AZ:dĭ ->St ->Hp ->(jΝ) ->Prop
 | [],_,H,Q=>Q [] H
 | (tk,tv)::r,σ,H,Q=>tk σ H λx H1=>tv σ H1 λy H2=>AZ r σ H2 λps H3=>Q ((x,y)::ps) H3
abbrev VV:eV (V×V) ->dĮ ->Prop:=Paired λp q=>RelV p.1 q.1 /\ eĀ
def PPs (X:Cx)(pos:Pos)(keys:eV (fk Expr))(sL:ġ)(Md:dĭ):Prop:=∀ (ai:ψ) (s:eY) (σ:St) (H:Hp) (Q:jΝ),Ϙ ->AZ Md σ H Q ->wpAny ϣ X.A (evalPairs (pairTrees keys sL X.env pos)) (λvs s'=>c7 λps H'=>dU (hθ) (VV ps vs) (Q ps H')) X.xe s
theorem MN:PPs X pos [] [] []:=λai s σ H Q I h=>pairTrees_nil_walk hΑ
theorem Ij (hk:PE X k tk)(hv:PE X v tv)(hr:PPs X pos ks vs Md): PPs X pos (ù::ks) (aÛ) ((tk,tv)::Md):=λai s σ H Q I h=>pairTrees_cons_walk (dz (hk ai s σ H _ I h) (by rintro u s1 ⟨x,H1,I1,rx,q1⟩;exact dz (hv ai s1 σ H1 _ I1 q1) (by rintro w2 s2 ⟨y,H2,I2,ry,q2⟩;exact dz (hr ai s2 σ H2 _ I2 q2) (by rintro ws s3 ⟨ps,H3,I3,rel,q3⟩;exact #[(x,y)::ps,H3,I3, .cons #[rx,ry] rel,q3]))))
def lW (kvs more:ů):ů:=more.foldl (λfU kv=>gV fU kv.1 kv.2) kvs
def KV.merge: ∀ {more:ů} {rs:dį} {kvs:ů} {vs:dį},KV more rs ->Ŝ ->KV (dİ) (merged vs rs):=by
 intro more rs kvs vs r;unfold KV at r;induction r generalizing kvs vs with
 | nil=>intro q;show q
 | @cons p q ps qs h t ih=>
  intro r0;have e:KV hć (stored vs q.1 q.2):=by have:=r0.put p.1 h.2;rw[<- h.1];show this
  show ih e
theorem nN: ∀ (more kvs:ů),(dİ).length<=kvs.length+more.length
 | [],kvs=>by change kvs.length<=kvs.length+0;exact Lqj [_] Lq0 ϕ ø ø LqN0 rfl
 | p::r,kvs=>by have h1:=nN r hć;have h2:=iJ kvs p.1 p.2;change(lW hć r).length<=_;rw[aT];exact Lqj ř Lq0 Ϭ ν (.a eï ϑ) eã rfl
theorem uE {P:Program}{w:World}: ∀ {kvs:ů} {ws:dĮ},VV (kvs.map jĚ) ws -> ∃rs,Carries bÿ ws rs /\ KV kvs rs
 | [],_,r=>by rw[List.map_nil] at r;cases r;show#[[],True.intro, .nil]
 | p ::kvs,_,r=>by
  rw[aY] at r;cases r with
  | @cons a b as bs h t=>let⟨rs,c,q⟩:=uE (P:=P) (w:=w) t;let⟨b1,b2⟩:=b;show#[(p.1,b2)::rs,#[pk h.1,rfl,c], .cons #[rfl,h.2] q]
def Hq (Md:dĭ):TE:=λσ H Q=> ∀p,ņ ->AZ Md σ hΤ λps H2=>H2 p=some bĲ /\ ∃kvs:ů,dU (ps=kvs.map (jĚ)) (kvs.length<=15) (Q ń (cR H2 p (.dK (lW [] kvs))))
def MU (h:PPs X pos keys sL Md)(B9:keys.all dđ=true)(hl:keys.length=sL.length)(h0:keys≠ [])(h15:keys.length<=15):PE X (.Dict keys sL pos) (Hq Md):=by
 intro ai s σ H Q I q;have hn:=I.c9.fresh (ap s.heap.objs.size);have I1:=I.laid (a:=s.heap.objs.size) (o:= .dK []) (h':=oΗ) (t':=s.toks) hΜ õ hΥ;exact wpAny_Dict_walk (knd:=fď) B9 hl h0 h15 (dz (h ai _ σ _ _ I1 (q _ hn)) ?_);rintro ws s2 ⟨ps,H2,I2,rel,e,kvs,ep,lk,q2⟩;subst ep;let⟨rs,c,rk⟩:=uE (P:=X.prog) (w:=X.w) rel;let⟨z,hd,vs0,r0,dd⟩:=z_ I2.c9 e;cases r0;exact#[rs,c,dd,λh' F' hs=>#[jψ,_,?_,rfl,q2]];have hz:(lW [] kvs).length<=sizeLine:=by have h1:=nN kvs [];rw[List.length_nil] at h1;rw[cY];exact Lqj Û Lq0 fĎ π (.a (.n 15) gſ) (LqNp lk h1) rfl
 have he: ∃q,kϻ=aĹ:=let ⟨q,_,_,hq,_⟩:=F';aϜ
 show pS I2 lŕ hs he (ut hz hd (rk.merge .nil) F')
structure M1 (X:Cx)(o:Expr)(m:Str)(gx:Pos)(e:Expr)(fO:Pos):Prop where
 base:oϟ
 wq:((mň).all eĮ && pď && decide (([e]:List Expr).length+lÃ+oğ <30))=true
 line:lŜ
 trees:mň= [jē]
structure M2 (X:Cx)(o:Expr)(m:Str)(gx:Pos)(e f:Expr)(fO:Pos):Prop where
 base:oϟ
 wq:((mϙ).all eĮ && pď && decide (([e,f]:List Expr).length+lÃ+oğ <30))=true
 line:lŜ
 trees:mϙ= [jē,(false,eval f X.env)]
def IsD (H:Hp)(a:fR):Prop:=(∃kvs,hĄ) \/ ∃kvs,hą
def xR {σ:St}(I:Ϙ)(d:IsD H a): lÁ /\ (∀b,dâ= aĶ -> ∃ob,fý=Ġ /\ eĭ) /\ jż:=by
 rcases d with⟨kvs,e⟩ | ⟨kvs,e⟩
 let⟨_,hd,vs,_,dd⟩:=cø;exact lŞ;cases q;let⟨ob,_,_,h1,h2,_⟩:=dd;show gι;let⟨_,hd,xs,_,dd⟩:=cú;exact lŞ;cases q;let⟨ob,_,_,h1,h2,_⟩:=dd;show gι
def Uj {σ:St}(hu:gθ)(I:Ϙ)(g:cſ)(ry:Ł)(rd:RelV d r)(h: ∀w' s',hû ->RelV (o.getD d) w' ->Q w' s'): wpAny ϣ A (call (.builtin "dict.get") [Ā,u,r]) Q E s:=by
 rcases g with⟨kvs,k,e,ey,l⟩ | ⟨kvs,k,b,e,ey,eb,l⟩
 subst ey;let⟨z,hd,vs,rel,dd⟩:=cø;exact call_meetsIn PySem.F.slot_dict_get dd.typeIs PySem.F.entry_dict_get mŽ (meets_dict_get_default gŹ a aϛ hd r) #[_,dd.mapOf,iĠ];rw[l];show iϖ;subst ey;cases mÚ;let⟨z,hd,xs,rel,dd⟩:=cú;exact call_meetsIn PySem.F.slot_dict_get dd.typeIs PySem.F.entry_dict_get mŽ (meetsH_dict_get_default (tupleKind gŹ) a b hd r) #[jΚ,k,xs,cž,dd,iĠ];rw[l];show iϖ
def Hu (td ty tx:TE):TE:=λσ H Q=>td σ H λx H1=> ∃a,dU Ź (IsD H1 a) (ty σ H1 λy H2=>tx σ H2 λz H3=> ∃o,rX H3 a y o /\ Q (o.getD z) H3)
def oW (hu:hΟ)(ho:cü)(he:PE X e ty)(hf:PE X f tx)(m:M2 X o "get" gx e f fO):PE X (.Call (.Attribute o "get" gx) [e,f] [] fO) (Hu td ty tx):=by intro ai s σ H Q I h;exact wpAny_Call_method m.base m.wq m.line PySem.F.plainAttrs_dict PySem.F.slot_dict_get PySem.F.type_dict_get mÑ;rintro u s1 ⟨x,H1,I1,rx,a,ex,d,q1⟩;subst ex;obtain rfl:Κ:=rx;let⟨t1,t2,_⟩:=xR I1 d;exact dı;rw[m.trees];exact Calls.callWith_builtin rfl (Calls.evalArgs_plain (dJ (dz lÄ λiv s2 iϗ=>dJ (dz lÅ λfv s3 ⟨z,H3,I3,rz,ov,g,q3⟩=>jě))));show Uj hu I3 g ry rz λw' s4 I4 uZ=>#[_,H3,I4,uZ,q3]
universe L2
namespace Att
open PySem PySem.W PySem.Calls PyProof.Rows
def rM: ∀ (ns:ā) (vs:â),WellAll P h vs iġ ->fð:=by
 intro ns;induction ns with
 | nil=>intro vs w;rw[List.map_nil] at w;cases w;show .nil
 | cons n ns ih=>
  intro vs w;rw[aY] at w;cases w with
  | cons a b=>cases a;show .cons _ _ (ih _ b)
def Fe {l:OpenLaw}(hn:fĦ)(NY:l.row.toRowW.claim.pre args=true)(XA:WellAll P h Rz args): gL λa vs ns=>kg (Rz= [dâ]) (args= [WData.list iġ]) (ļ=some oĠ) (fð) (eĳ):=by
 have _m:WShape.hasAll [] args [.list .int]=true:=gμ.1;have hc:l.pre.holds [] {args:=args}=true:=gμ.2;let⟨d,r,rfl,h1,h2⟩:=hasAllW_cons _m;obtain rfl:=hasAllW_nil h2;let⟨xs,rfl,h3⟩:=hasW_list h1;let⟨ns,rfl⟩:=items_int h3;have d_:eĳ:=by
  unfold OpenLaw.pre at hc;have h4:(WTm.not (.lt (.lit (.int ģ)) (.len (.arg 0)))).holds [] {args:= [.list (ns.map .int)]}=true:=by have h4:=(holds_andW hc).1;rw[hn] at h4;show h4
  have h5:=condW_of h4 (w_not (w_lt w_lit (w_len_list (w_arg rfl))));rw[aa] at h5;exact Nat.le_of_not_lt λq=> ?_;have q':ģ < ((ns.length:Nat):Int):= ∅;first
  | (rw[cj q'] at h5;show absurd h5 ⋯)
  | (simp at h5;lia)
 cases XA with
 | cons w1 w2=>
  cases w2;cases w1 with
  | list ho B9=>show#[_,_,ns,rfl,rfl,ho,rM ns _ B9,d_]
theorem Fm (l:OpenLaw)(args:eV WData):l.row.toRowW.claim.post args eĴ args=true:=postW_of (r:=l.row.toRowW) (X:=eĵ) (show WShape.has [] eĴ .bool=true by first | rfl | decide | simp[WShape.has,WShape.arms,WShape.armsAll]) (show(WTm.eq .res (.lit eĴ)).value [] {args:=args,res:=some eĴ,after:=args}=some (.bool eĵ) from w_eq_bool (w_res rfl) w_lit) rfl
def An {l:OpenLaw}(hn:fĦ)(Yk:jΞ)(call: ∀ (w:World) (s₀ s₁:eY) (mg mb:dì) (fa:fR) (o:Obj) (pm cd kf:eX) (a:fR) (vs:â) (ns:ā),Ground q vY [] XP w s₀ mg mb s₁.heap ->YP w s₁.heap ->s₁.heap.get? fa=Ą ->o.data= .func (docDef d.name d.params d.body d.scope pm cd kf) ->s₁.heap.CodeRec cd d.name ->lÆ ->pŠ ->fð ->eĳ ->gÑ ->codeAny (model l.prog w) callerA mϚ qĦ s₁): WalkO q vY XP YP l.row.toRowW d [] lĠ:=by intro w s₀ s₁ mg mb G Y fa o pm cd kf dV kV ho hd B7 hD hmg hg args Rz as NY afA XR XA Tu;obtain rfl:dV= .none:=Dflts.none hD Yk;obtain rfl:kV= .none:=Dflts.noKw hD;let⟨a,vs,ns,rfl,rfl,Tn,JZ,d_⟩:=Fe hn NY XA;exact enter_call (codeAny_mono (call w s₀ s₁ mg mb fa o pm cd kf a vs ns G Y ho (fd_plain hd) B7 hmg Tn JZ d_ hg) gÂ);let⟨rfl,h2,h3,h4⟩:=hq;show#[.inl #[cγ, cγ,[],rfl,bġ, cγ,Fm l _,λ_=>#[List.Pairwise.nil,λ_ hm=>(nomatch hm)]],h2,h3,h4]
universe Att
namespace L2
open PySem PySem.Spec PyProof.Rows
theorem mx: ∀ {vs:â} {ns:ā},fð ->cM gÒ vs
 | _,_, .nil=> .nil
 | _,_, .cons n t h=> .cons bĳ (mx h)
def Uv (H:Hp):Prop:= ∀b,ľ \/ ∃o xs,H b=some (.pK o cÛ)
def Jn {K:iD}(KX:K.In s₁.heap)(QJ:s₁.heap.Ns mainGlobals mg)(hb:s₁.heap.Ns builtinsNs mb)(Ve: oś)(abH:s₁.heap.NoLimit)(hg:gÑ)(ha:pŠ)(hi:fð)(hl:iϋ)(hr:eķ)(F: ∀base:Heap,cÖ ->kÿ ->cD P w K mg base CX k fa fd [x] sp)(Yq: oι)(xW: ∀H:Hp,Uv H ->kŻ ->sp bû H jĜ gÓ)(hCX: ∀H e s',CX [] H s₁ (gÓ) e s' ->False): qϧ:=by
 have rv:=mx hi;have abf:=hi.length;have core : ∀H:Hp,Uv H ->kŻ ->lE P w H s₁.heap ->(∀b,H b≠none ->b=a) ->(H a≠none ->cŭ=none) ->qϧ:=by
  intro H hO hS c9 hA hK;have EX: ∀ {b:fR} {o:Obj},kż ->ľ ->(gÔ).get? b=Ą:=λe n=>J0 e n;have Qk: ∀ {b:fR} {o:Obj} {es:eĸ} {ep:Nat},kż ->iΚ ->ľ:=λ{b o es ep} e d=>by
   cases q:H b with
   | none=>rfl
   | some u=>have e':b=a:=hA b gν;subst e';rw[ha] at e;cases e;have d':Data.seq vs.toArray _=Data.dict es ep:=d;cases d'
  have Z_: ∀ {b:fR} {m:dì},s₁.heap.Ns b m ->(gÔ).Ns b m:=λ{b m} ⟨o,es,ep,e,d,r⟩=>#[o,es,ep,EX e (Qk e d),d,r]
  have hKb:K.In (gÔ):=λb o e=>EX (KX b o e) (by
   cases q:H b with
   | none=>rfl
   | some u=>have e':b=a:=hA b gν;subst e';rw[hK gν] at e;cases e)
  have hM:Mod K mg (gÔ):=#[hKb,Z_ QJ,#[mb,Z_ hb,Ve],let ⟨mc,h1,h2⟩:=abH;#[mc,Z_ h1,h2]]
  have e0:CH P w K mg (gÔ) callerA [] s₁ H:=#[rfl,hM,λb o e=>Nm e,Nat.le_of_eq (FQ _ _),trivial,λb hb=>absurd (show gÆ from hb) ś,c9, .of_eq hg]
  exact codeAny_mono ((F _ hKb (Z_ QJ)).run callerA [] s₁ H fϡ bû bû _ _ hr e0 (Yq s₁ ł) (.cons rfl .nil) (xW H hO hS)) λr s' h=> ?_;cases r with
  | error e=>show(hCX H e s' h).elim
  | ok fl =>
   cases fl with
   | next=>show eĹ
   | brk=>show eĹ
   | cont=>show eĹ
   | ret u=>
    let⟨v,H',os,bare,un,abC,r',q⟩:=h;have q':v= bĘ:=q;subst q';obtain rfl:u=Value.bool true:=r';exact#[rfl,OldK.of_keep eĺ,os,bare];cases q:H b with
    | none=>show un.keep b o e q (by intro z;show oŊ) ś
    | some u=>obtain z | ⟨ob,xs,z⟩:=hO b;rw[q] at z;cases z;have z2:=un.l8 b ob _ z;let⟨e1,_⟩:=c9 b _ z;let⟨e2,_⟩:=abC b _ z2;rw[e] at e1;cases e1;show e2
 cases hk:cŭ with
 | some o=>have e:=KX a o hk;rw[ha] at e;cases e;exact core (cë) (λ_=> Ķ) (.inr #[_,vs.toArray,_,hk,rfl,rfl,rfl,by rw[a7,abf];show hl, ⇑rv]) (λb u z=>by have z':(none:fk HO)=þ:=z;cases z') (λb z=>eĻ) λz=>eĻ
 | none=>exact core (λb=>if b=a then some (.pK oĠ (.lst gÒ)) else none) (λb=> ?_) (.inl (.inr #[oĠ,ą])) (λb u z=> ?_) (λb z=> ?_) λ_=>hk;by_cases hb:b=a;show .inr #[_,_,am hb];show .inl (aj hb);by_cases hb:b=a;have z':=(am hb).symm.trans z;cases z';subst hb;show#[ha,by rw[aa];show hl,vs,_,rv,ha];have z':=(aj hb).symm.trans z;cases z';by_cases hb:b=a;show hb;show absurd (aj hb) z
def L6 {l:W.OpenLaw}{K:dĲ}{CX:World ->AJ}{sp:World ->Sp}(hn:fĦ)(Tq:dģ)(Yk:jΞ)(hr:eķ)(hY: oΘ)(F : ∀ (w:World) (mg:dì) (fa:fR) (h:Heap),(cδ).In h ->iϘ ->lÆ ->∃ fd:FuncData,(oι) /\∀base:Heap,(cδ).In base ->kÿ ->cD l.prog w (cδ) mg base (CX w) k fa fd [x] (sp w))(xW: ∀ (w:World) (H:Hp) (a:fR) (ns:ā),eĳ ->Uv H ->iT (cδ) H a gÒ ->sp w bû H jĜ gÓ)(hCX: ∀ (w:World) (H:Hp) (s:eY) (e:eX) (s':eY),CX w [] H s (gÓ) e s' ->False): pŇ:=by exact Att.An hn Yk λw s₀ s₁ mg mb fa o pm cd kf a vs ns G Y ho hd B7 hmg Tn JZ d_ hg=> ?_;have KX:=hY w _ Y;let⟨fd,hb,hF⟩:=F w mg fa _ KX G.T.g hmg;show Jn KX G.T.g G.T.b G.T.builtins G.T.nolimit hg Tn JZ (aI d_ Tq) hr hF hb (λH hO hS=>xW w H a ns d_ hO hS) λH e s'=>hCX w H s₁ e s'
nonrec def f8 (s:Stmt):Arguments:=match s with
 | .FunctionDef _ a _ _ _ _ _ _ _ _=>a
 | _=> {posonlyargs:= [],args:= [],vararg:=none,kwonlyargs:= [],kw_defaults:= [],kwarg:=none,defaults:= []}
nonrec def eG (s:Stmt):aϐ:=match s with
 | .FunctionDef _ _ b _ _ _ _ _ _ _=>b
 | _=> []
nonrec def bg (s:Stmt):Scope:=match s with
 | .FunctionDef _ _ _ _ _ _ sc _ _ _=>sc
 | _=> {kind:= .function,names:= [],isGenerator:=false,isCoroutine:=false}
abbrev gT:AJ:=λ_ _ _ _ _ _=>False
abbrev E0:XK:=gÓ
theorem DF:kh gT X E0:=λ_ _ _ _ _ _ _ h=>h.elim
structure At (K:PySem.W.Frag)(x qual:Str)(st:Stmt)(f:Addr)(fd:FuncData):Prop where
 ex:E1 λ(oc:Value) (od:dĳ) (kV kf pm:Value) (an:dĳ) (cdv ct:Value)=> ∃ (Bn:Array (eą)),dU (fd=PySem.W.fnOf x qual aϝ aϞ Ħ .none kV kf pm an cdv ct) (cż=some #[oc,od, .func fd,Bn]) (PySem.W.codeIn K cdv qual=true)
 kp:mń
def At.ok {K:iD}{st:Stmt}(F:iϙ)(S:gξ)(len: oŇ)(kK: ∀ (cdv:eX) (A:Around) (outer:ć) (s:eY) (H:Hp) (vs:Ä) (Q:VK) (E:XK),pİ ->dĖ ->∃t,pΕ /\ oŋ):cD P w K mg base gT Ü f fd ps sp:=by let⟨oc,od,kV,kf,pm,an,cdv,ct,Bn,rfl,lk,B7⟩:=F.ex;exact Q1 lk B7 S len λA outer s H vs Q E hr xW=> ?_;let⟨t,h,q⟩:=mž;show#[t,h.Lp,q]
def At.binds {K:iD}{st:Stmt}(F:iϙ)(h: ∀ (kV kf pm:eX) (an:aÑ) (cdv ct:eX) (us:â),iϏ ->bindArgs př bĦ=hý):hþ:=by let⟨oc,od,kV,kf,pm,an,cdv,ct,Bn,rfl,lk,B7⟩:=F.ex;show .all (h kV kf pm an cdv ct)
theorem qy {K:iD}{st:Stmt}{kV kf pm cdv ct:eX}(l:cż=some #[oc,od, .func př,Bn])(c:kϷ)(k:lÇ):At K x qual st f př:=#[#[oc,od,kV,kf,pm,an,cdv,ct,Bn,rfl,l,c],k]
theorem fq (hr:aĮ):gθ:=Nat.lt_of_le_of_lt (Nat.add_le_add_left (by decide:1<=64) _) hr.units
theorem pv {X:Cx}(i:Nat){pos:Pos}(hN:gū:=by rfl)(hv:hſ:=by first | show Or.inl rfl | show Or.inr (Or.inl rfl) | show Or.inr (Or.inr rfl))(hd:ϴ:=by decide)(B7:nÈ:=by decide):lē:=Sj hN hv hd B7
def fY (H H':Hp):Prop:= mſ
section
variable {κ:Type} [gÍ]
theorem DI: ∀ {l:eV κ} {k:κ},l.Nodup ->¬k∈l ->(l++ [k]).Nodup
 | [],k,_,_=>by simp
 | a::r,k,h,hk=>by let⟨h1,h2⟩:=bM.mp h;change(a::(r++ [k])).Nodup;exact bM.mpr #[λm=> ?_,DI h2 λm=>hk (ay.mpr (Or.inr m))];obtain q | q:=au.mp m;show h1 q;show hk (ay.mpr (Or.inl (ag.mp q).symm))
universe e
def dA {α:Type}{c:α}{l:eV (Str×α)}:((y,c)::l).lookup x=if x=y then Ĉ else l.lookup x:=by by_cases h:x=y;subst h;simp[List.lookup_cons];rw[aj h,List.lookup_cons];have:(x==y)=false:= Â;rw[this]
theorem lf {env:Env}: ∀ (names:iĢ) (fU:eļ),(∀y∈names,oŞ) ->(∀x c,dĴ=Ĉ ->lĎ) ->∃cl,gy ((forIn names fU λx s=>if(x.snd==NameKind.free)=true then(do let c <- cellOf env x.fst;pure (ForInStep.yield ((x.fst,c)::s)):Sem _) else pure (ForInStep.yield s))=(pure cl:Sem (eļ))) pç (∀x,(dĴ).isSome=true ->(dĵ).isSome=true) (∀y∈names,oÁ)
 | [],fU,_,h2=>#[fU,rfl,h2,bĴ,lġ]
 | (n, k)::r,fU,h1,h2=>by
  by_cases hk:k=NameKind.free;subst hk;let⟨c,hc⟩:=h1 (n, .free) aQ rfl;have LP: ∀x c',((n,c)::fU).lookup x=some c' ->iĂ=some c':=λx c' e=>by rw[dA] at e;by_cases hx:x=n;rw[am hx] at e;cases e;rw[hx];show hc;rw[aÜ] at e;show h2 x c' e
  let⟨cl,e1,e2,e3,e4⟩:=lf r ((n,c)::fU) lÈ LP;exact#[cl,?_,e2,λx hx=>e3 x ?_,gÕ];rw[List.forIn_cons];have:cellOf env n=pure c:=by unfold cellOf;rw[hc]
  simp![beq_self_eq_true,ci,this,pure_bind];show e1;rw[dA];by_cases gX:x=n;rw[am gX];rfl;rw[aj gX];show hx;obtain rfl | hy:=bĵ;exact e3 n ?_;rw[dA,ą];rfl;show e4 y hy hf;let⟨cl,e1,e2,e3,e4⟩:=lf r fU lÈ h2;exact#[cl,?_,e2,e3,gÕ];rw[List.forIn_cons];have:(hĈ)=false:= ⇑hk;simp![this,aD,bB,pure_bind];show e1;obtain rfl | hy:=bĵ;show absurd hf hk;show e4 y hy hf
def k_ (h: ∀y∈scope.names,oŞ): ∃cl,dU (closureFor scope env=pure cl) pç (pĢ):=by let⟨cl,e1,e2,_,e4⟩:=lf scope.names [] h (λ_ _ e=>by simp at e);exact#[cl,?_,e2,e4];simp![closureFor];rw[e1,pure_bind]
theorem jw {env:Env}: ∀ {names:iĢ} {x:Str} {k:NameKind},qΧ=ù ->gÖ=ù \/ (k= .cell /\ gÖ=cŧ)
 | [],_,_,h=>by simp at h
 | (n, j)::r,x,k,h=>by
  have ih:= @jw env r x k;rw[aY] at h;by_cases hc:pϻ;simp![hc,ci] at h;rw[dA] at h;rw[dA];by_cases hx:x=n;rw[am hx] at h ⊢;cases h;have hj:j=NameKind.free:=by rw[Bool.and_eq_true,Bool.and_eq_true] at hc;show eq_of_beq hc.1.1
  show .inr #[rfl,by rw[hj]];rw[aÜ] at h ⊢;show ih h;simp![hc,aD,bB] at h;rw[dA] at h;rw[dA];by_cases hx:x=n;rw[am hx] at h ⊢;show ağ;rw[aÜ] at h ⊢;show ih h
theorem i9 {env:Env}: ∀ {names:iĢ} {x:Str},gÖ=cŧ ->qΧ=cŦ \/qΧ=cŧ
 | [],_,h=>by simp at h
 | (n,j)::r,x,h=>by have ih:= @i9 env r x;rw[aY];rw[dA] at h;by_cases hc:pϻ;simp![hc,ci];rw[dA];by_cases hx:x=n;rw[am hx];show Ķ;rw[aÜ] at h ⊢;show ih h;simp![hc,aD,bB];rw[dA];by_cases hx:x=n;rw[am hx] at h ⊢;cases h;show ĺ;rw[aÜ] at h ⊢;show ih h
abbrev bU (X:Cx)(N':ĉ)(scope:Scope)(cl:eļ)(fp:ä)(s3:eY)(H3:Hp):Cx:={X with N:=N',s₀:=s3,H₀:=H3,env:=oÚ,outer:=X.stack,stack:=X.stack,ex:=fp,fn:=λ_=>false,pn:= [],xe:=eđ}
def lA (own:Nat)(fr:Ď)(σ:St):St:=kŽ++fr.map λj=>fħ
structure dS (X:Cx)(own:bć)(fr:bä)(N':bć)(scope:Scope):Prop where
 kind:jΟ
 names:N'=own++lΟ
 len:mŉ
 nd:N'.Nodup
 tS: mγ
 loc: pŵ
 Vi: ∀x∈lΟ,mδ
 free: ∀y∈scope.names,cε ->hĉ=cŦ \/ hĉ=cŧ
theorem pL {N:ĉ}: ∀ {fr:Ď} {k:Nat} {x:Str},(lĢ).length=fr.length ->(lĢ)[k]? =û -> ∃j,fr[k]? =aı /\ N[j]? =û
 | [],_,_,_,e=>by simp at e
 | j ::r,k,x,hl,e=>by
  cases hj:N[j]? with
  | none=>rw[List.filterMap_cons,hj] at hl;have:=List.length_filterMap_le eĽ r;simp![aT] at hl;lia
  | some y=>
   rw[List.filterMap_cons,hj] at hl e;simp![aT,Nat.add_right_cancel_iff] at hl;cases k with
   | zero=>simp at e;show#[j,by simp,by rw[hj,e]]
   | succ k=>show pL (k:=k) hl Å
def zQ {σ:St}{fp:ä}(S:jĝ)(I:Ϙ)(lr: pè)(pG: pĢ)(xZ: jς)(TB: mÛ)(QJ:h'.Ns s.heap.objs.size (cë))(hk: oş): Inv (bU X N' scope cl fp s H) [] jΡ H {s with heap:=h',toks:=t}:=by
 have look: ∀x,(compEnvC scope cl s.heap.objs.size X.env).kindOf x=(iϛ).names.lookup x:=bġ
 have Yz:(lΟ).length=fr.length:=by have:=S.len;rw[S.names,aM] at this;exact LqNx (Lqj Ğ Lq0 Lq1 υ τ dĶ rfl) (Lqj Ğ Lq0 Lq1 υ τ dķ rfl)
 exact#[#[I.ok.mod,?_,I.ok.glob,I.ok.blt,Á,λx y c e1 e2=>I.ok.inj x y c (lr _ _ e1) (lr _ _ e2),ź,(λx c z _=>nomatch z),I.ok.hd,I.ok.frames, Ķ,λb hb=>#[?_,oġ],I.bs,gż,λb o e hb=> ?_,λb hb hz=> ?_,I.stack,I.r_],
  rfl,I.bare,Un.kept hk,#[_,QJ,jε],eĊ,hΓ,λx c e=>I.io x c cζ,pĺ,I.c9.kept hk,?_]
 change(iϛ).kind=_
 show S.kind
 have gX:mδ:=by obtain hx | hx:=hx;obtain q | ⟨_,q⟩:=jw hx;show absurd rfl (S.tS _ (d7 q));show q;obtain q | ⟨q,_⟩:=jw hx;show q;cases q
 show Option.isSome_iff_exists.mp (pG _ (d7 gX) rfl)
 show a_ (TB b hb)
 obtain z | z:=gο.1
 show I.ok.Fu b o e z
 show absurd (bH aĚ (aI I.ok.KL z)) aĖ
 obtain q | q:=ay.mp (I.xl b hz)
 show dĸ.1 q
 show dĸ.2.1 q
 -- a aba value
 have e1:(own++lΟ)[i]? =û:=by rw[<- S.names];show e1
 unfold lA at e2
 by_cases hi:eľ
 rw[bĬ,dX,am hi] at e2
 cases e2
 rw [bī,List.length_replicate] at e2
 rw[bī] at e1
 let⟨j,ej,ex⟩:=pL Yz e1
 rw[aF,ej] at e2
 have e2:fħ=ă:= ⇑e2
 have e2':σ[j]? =fü:=by
  cases q:σ[j]? with
  | none=>rw[q] at e2;cases e2
  | some w=>rw[q] at e2;simp at e2;rw[e2]
 have hf:=S.Vi x (az e1)
 have hm:=d7 hf
 let⟨m,_,hl⟩:=I.loc
 have vis:hſ:=by obtain q | q:=gπ;show .inr (aě);show .inr (.inr q)
 let⟨u,r,l⟩:=hl j x v ex e2' vis
 exact#[u,r, .inr #[?_,?_]]
 show i9 hf
 rcases l with⟨k,_⟩ | ⟨_,c,ec,z⟩
 obtain q | q:=gπ
 rw[k] at q;cases q
 rw[k] at q;cases q
 let⟨c',ec'⟩:=Option.isSome_iff_exists.mp (pG _ hm rfl)
 have:=lr _ _ ec'
 rw[ec] at this
 cases this
 show#[c,ec',z.keeps hk]
 let⟨v,z⟩:=I.cell x c cζ
 show#[v,z.keeps hk]
 change(iϚ).length=N'.length
 unfold lA
 rw[aM,List.length_replicate,aa,S.len]
def K4 (X:Cx)(cs:ġ)(t:TT):Prop:=∀ (ai:ψ) (s:eY) (σ:St) (H:Hp) (Q:hî),Ϙ ->bĒ ->wpAny ϣ X.A (forIn cs true λc r=>if r=true then do let ok <- isTrue c X.env (eĿ);lģ else lÊ) fϲ X.xe s
def V2:TT:=λ_ H Q=>Q true H
theorem e_:K4 X [] V2:=λai s σ H Q I h=>wpAny_tests_nil #[H,I,h]
theorem sq (h:PT X c t):K4 X [c] t:=λai s σ H Q I q=>wpAny_tests_one (h ai s σ H Q I q)
theorem Gd (I:gς)(turn : ∀n s,aÝ ->wpAny Φ A (cþ) (λr s₁=>match r with
   | none=>iĤ
   | ă=>wpAny Φ A (letOwnedTupleGo qg it v) (λ_ s₀=>wpAny Φ A (assign qg env v) (λ_ s₂=>
    wpAny Φ A (qχ) rÑ ό s₂)
    ό s₀) ό s₁) ό s)(n:Nat)(h:aÝ):codeAny Φ A (.compLoop oý 0 it fU env) R s:=by
 exact nχ
 change wpAny _ A ((compTurn oý 0 it fU env).onRaise oĢ) _ _ s
 exact gØ
 rw[compTurn_list]
 exact qÀ
 cases r with
 | none=>show aN h₁
 | some v=>
  exact oΙ;exact oΚ;exact oϳ;cases W9 with
  | false=>show gÙ
  | true=>show qź
def Wk (σ0 σ2:St):Prop:=σ2.length=σ0.length /\ ∀ (i:Nat) v,σ0[i]? =fü ->σ2[i]? =fü
def Lh (own:Nat)(g:TG):Prop:= ∀ (c:St) (v:V) (H:Hp) (Q:Ψ),g v mÜ H Q ->g v mÜ H λσ2 H2=>Wk mÜ σ2 /\ Q σ2 H2
def fS:Lh 1 (ls 0):=by
 intro c v H Q h;exact#[kž,h];cases i with
 | zero=>simp at e
 | succ i=>simpa using e
def kM {K:iD}:Lh 2 (Op K 2 (wo (ls 0) (wo (ls 1) Oq))):=by
 rintro c v H Q ⟨a,xs,e,hs,hl,x,r,rfl,y,r',rfl,rfl,h⟩;exact#[a,_,e,hs,hl,x,_,rfl,y,_,rfl,rfl,kž,h];match i with
 | 0=>simp at e
 | 1=>simp at e
 | i+2=>simpa using e
def Rc (J:It)(own:Nat)(fr:Ď)(g:TG)(tc:TT)(te:TE)(σ:St)(p:fR)(H1:Hp)(Q:VK):Prop:=∃ W :mÝ,nĤ /\ ∀i m ys H',dĻ ->H' p=gÚ /\(mŊ \/ (J.go i H' /\ ys.length<sizeLine /\ ∀x H2,gÛ ->g x gÜ H2 λσ2 H3=>tc σ2 H3 λb H4=>if ò then te σ2 H4 λy H5=> ∃zs,H5 p=gÌ /\ iĥ /\ ∃m',m'<m /\ W ß m' (zs++ [y]) (cR H5 p (.lst (zs++ [y]))) else nÍ))
def Hw (wi:TI)(own:Nat)(fr:Ď)(g:TG)(tc:TT)(te:TE):TE:=λσ H Q=>wi σ H λJ H1=> ∀p,cï ->Rc J own fr g tc te σ p H1 Q
theorem mZ {σ:St}{σ':St}(I3:hĊ)(xZ: jς)(Ic:Inv (bU X N' scope cl fp s3 H) Dx σ' H' s'):hθ:=I3.KJ (ch:=fp) Ic.os Ic.base Ic.c9 Ic.bare λb hb=>#[gο.1,dĸ.1,gο.2.1,gο.2.2]
def mY {σ:St}{C:fR}{σ':St}(I3:hĊ)(hC:C=s3.heap.objs.size)(J:iĈ)(hn:H' C=none)(hs:Heap.SameBut C s'.heap h'):Inv X ai σ' H' {s' with heap:=h'}:=by subst hC;exact J.turned (t':=s'.toks) (it:=s3.heap.objs.size) (λb o hb e=>hs.extBut b o hb e) hn (iĦ) (.inr I3.sz) (f϶) fĉ;let⟨v,q⟩:=I3.cell x c e;show absurd q.lt jğ;show absurd (aJ (I3.pin p hp).1) jğ
def uD {σ:St}{RR:mÞ}(jF:ŷ)(S:jĝ)(hg: oĹ)(hw:gυ)(hc: oō)(he: oŎ)(lr: pè)(pG: pĢ)(I:Ϙ)(T:mŸ)(st:dļ)(xZ: jς)(h: ∀p,ņ ->Rc J own.length fr g tc te σ p H Q)(fin: rÒ): wpAny ϣ X.A eŀ (λfU s₃=>wpAny ϣ X.A pϛ (λKH s₄=>codeAny ϣ X.A (.compStart oþ 0 cß fU nł) hΧ s₄) E s₃) E s:=by
 exact jĠ;have hf:kŹ:=hΓ;let⟨W,dă,turn⟩:=h _ hf;generalize e3:qč=s3;have RN:nŃ:=by rw[<- e3];show eM ..
 have up3: oϠ:=λb o e=>by rw[<- e3];show aĢ
 have I3:oμ:=by rw[<- e3];show pΖ
 have TY: mÛ:=λb hb=>by let⟨o,e,_⟩:=hΨ;show Æ
 have B6: pÌ:=pŔ
 exact pϯ;have old: oΜ:=oģ;have Ic:=qŞ;have Fb:tn 0 h₁:=oų;have sW: qŨ:=λhn b hb=>by exact qω;change jΥ;rw[RN];show a_ (lΤ);show fĨ
 have loop:codeAny ϣ X.A (.compLoop oþ 0 cß ků (oÚ)) oŠ pģ:=by
  exact Gd qϱ ?_ m0 nψ;rintro n s4 ⟨i,ys,H4,I4,gM,Ou,w4⟩;let⟨FT,alt⟩:=hΩ;rcases alt with⟨stop,q⟩ | ⟨go,hsz,step⟩
  .exact qΘ;rintro r s5 ⟨hr,I5⟩;subst hr;show pĤ
  exact qΕ;rintro r s5 ⟨u,hr,h5⟩;subst hr;exact dz h5 ?_;rintro _ s6 ⟨x,H6,I6,r6,y6,RT,fr6⟩;have I6':=nÏ;have Pz:=lŠ;exact oÛ;rintro _ s7 ⟨σ7,H7,I7,wk,q7⟩;have again: ∀ {H9:Hp} {s9:eY} {Rm:Ä},Inv ϸ iϜ σ7 H9 s9 ->rÇ:=λ{H9 s9 Rm} I9 gÝ=>by exact#[m',hm,i+1,Rm,H9,eŁ ?_ wk.2,pγ,Ÿ,w9];show wk.1.symm;let⟨o,e,d⟩:=hϊ;show oÿ
  exact nĦ;rintro ok s8 ⟨H8,I8,q8⟩;cases ok with
  | false=>simp![aD,bB] at q8 ⊢;let⟨zs,q8⟩:=q8;show again I8 q8
  | true=>simp![ci] at q8 ⊢;exact dz (he s3 _ _ s8 σ7 H8 _ I8 q8) ?_;rintro y s9 ⟨yv,H9,I9,ry,zs,hp9,hz9,q9⟩;exact dz (mL _ s9 σ7 H9 ků [yv] ků [y] (λv H'=>H'=cR H9 s.heap.objs.size (.lst (zs++ [yv]))) I9 rfl gψ #[_,zs,yv,rfl,rfl,hp9,hz9,rfl]) ?_;rintro v s10 ⟨_,Vm,I10,_,e10⟩;subst e10;show again I10 q9
 show pÕ
theorem Cx.Ok.cellsOf (ok:X.Ok)(S:jĝ): ∀y∈scope.names,cε -> ∃c,X.env.cells.lookup y.1=Ĉ:=λy hy hf=>ok.has y.1 (S.free y hy hf)
def fZ (jF:ŷ)(S:jĝ)(hi:gŶ)(hg: oϒ)(hw:gυ)(hc: oϡ)(he: oϢ)(hs: où:=by intro _;rfl):PE X oþ mė:=by intro ai s σ H Q I h;let⟨cl,uh,lr,pG⟩:=iϝ;rw[eval_ListComp];exact qů;let⟨it,fp,tn,J,H2,e,I2,T,nh,f2,h2⟩:=h2;subst e;exact uD (RR:=pμ) jF S cθ hw cι cμ lr pG I2 T nh f2 h2 ?_;intro s3 H3 I3 f3 D σ' H' s' t hD Ic q;let⟨m,hn,_⟩:=Ic.loc;exact nΑ;show nĐ
def tG {pos Fc iW:Pos}(jF:ŷ)(hN:X.N.Nodup)(hx:gū)(hl:hδ)(S:jĝ)(hi:gŶ)(hg: oϒ)(hw:gυ)(hc: oϡ)(he: oϢ)(hsw:swapsWith oþ iΡ Fc.line X.env=pure true)(hs: où:=by intro _;rfl)(hf:pÈ:=by first | show Ķ | show ĺ | assumption):PS X (.Assign [cű] oþ Fc) (E9 mė aĠ):=by
 intro ai s σ H D I h;let⟨cl,uh,lr,pG⟩:=iϝ;rw[nÐ];exact lš;change wpAny _ X.A (do let _ <- comprehension oþ scope X.env _ eŀ false hπ (mϜ)) _ _ s;exact rÈ;let⟨it,fp,tn,J,H2,e,I2,T,nh,f2,h2⟩:=h2;subst e;exact uD (RR:=qŝ) jF S cθ hw cι cμ lr pG I2 T nh f2 h2 ?_;intro s3 H3 I3 f3 Da σ' H' s' t hD Ic q;let⟨m,hn,_⟩:=Ic.loc;have I5:=dĽ;change pú;exact qě;let⟨a,sb,ha⟩:=NV;have c6:jΦ:=by obtain rfl | ha:=ha;show iĦ;let⟨v,z⟩:=gÞ;show hϋ
 exact pŚ
set_option genInjectivity true in
inductive Dt where
 | fw | bl (b:Bool) | int (i:Int) | str (x:Str) | tup (l:List Dt) | lst (l:List Dt)
mutual
def Rep (K:iD)(H:Hp):Dt ->V ->Prop
 | .fw,v=>v= .fw
 | ã,v=>v= ã
 | Ă,v=>v= Ă
 | aē,v=>v= aē
 | ď,v=>c7 λa vs=>dU dĀ (dľ) (dĿ)
 | aļ,v=>c7 λa vs=>dU dĀ (iT K H a vs) (dĿ)
def im (K:iD)(H:Hp):å ->Ä ->Prop
 | [],vs=>vs= []
 | d::r,vs=>c7 λv t=>dU (vs=v::t) (dŀ) (im K H r t)
end
mutual
def vf:Dt ->Dt ->Bool
 | .fw, .fw=>true
 | .bl a, ã=>a==b
 | .bl a, aĲ=>kŸ
 | aĳ, ã=>a==ję
 | aĳ, aĲ=>a==b
 | .str a, .str b=>a==b
 | .tup a, .tup b=>yc a b
 | .lst a, .lst b=>yc a b
 | _,_=>false
def yc:å ->å ->Bool
 | [],[]=>true
 | Ø,y::ys=>vf x y && yc xs ys
 | _,_=>false
end
mutual
def AH:Dt ->Nat
 | ď=>vi l+1
 | aļ=>vi l+1
 | _=>0
def vi:å ->Nat
 | []=>0
 | d::r=>max (AH d) (vi r)
end
theorem im.length {K:iD}{H:Hp}: ∀ {l:å} {vs:Ä},dĿ ->l.length=vs.length
 | [],_,h=>by simp![im] at h;subst h;rfl
 | d::r,vs,h=>by simp![im] at h;let⟨v,t,rfl,_,h⟩:=h;simp[im.length h]
theorem im.at {K:iD}{H:Hp}: ∀ {l:å} {vs:Ä} {j:Nat} {d:Dt},dĿ ->fĩ -> ∃v,gß /\ dŀ
 | [],_,_,_,_,e=>by simp at e
 | d::r,vs,j,d',h,e=>by
  simp![im] at h;let⟨v,t,rfl,h1,h⟩:=h;cases j with
  | zero=>simp at e;subst e;show dŁ
  | succ j=>simpa using im.at (j:=j) h Å
theorem pO: ∀ {l:å} {d:Dt},d∈l ->AH d<=vi l
 | [],_,h=>by simp at h
 | x::r,d,h=>by simp![vi];obtain rfl | h:=aϗ;show Nat.le_max_left _ _;show aI (pO h) (Nat.le_max_right _ _)
theorem kZ: ∀ (a b:å),yc a b=((List.range (min a.length b.length)).all (λj=>vf (a.getD j .fw) (b.getD j .fw)) && a.length==b.length)
 | [],[]=>rfl
 | [],y::ys=>by simp[yc]
 | Ø,[]=>by simp[yc]
 | Ø,y::ys=>by
  have e:min gà gá=min xs.length ys.length+1:=by simp![aT];lia
  rw[yc,kZ xs ys,e,List.range_succ_eq_map,List.all_cons,List.all_map];have e2:(gà==gá)=(xs.length==ys.length):=by simp
  rw[e2,Bool.and_assoc];rfl
mutual
theorem l_: ∀d:Dt,vf d d=true
 | .fw=>rfl
 | ã=>by simp[vf]
 | Ă=>by simp[vf]
 | aē=>by simp[vf]
 | ď=>by simp![vf];show qA l
 | aļ=>by simp![vf];show qA l
theorem qA: ∀l:å,yc l l=true
 | []=>rfl
 | Ø=>by simp![yc,l_ x,qA xs,Bool.and_self]
end
def Un.sqT {K:iD}(h: oĺ)(q:dû):ko K H' a xs:=by obtain q | q:=q;show .inl (h _ _ q);show .inr q
section
variable {X:Cx}{ai:ψ}{σ:St}{H:Hp}{s:eY}
mutual
theorem Rep.inj (I:Ϙ): ∀ (d e:Dt) (v:V),Rep X.K H d v ->Rep X.K H e v ->d=e
 | .fw,e,v,h1,h2=>by simp![Rep] at h1;subst h1;cases e<;>simp![Rep] at h2<;>first | rfl | (cases h2;done) | (let⟨_,_,q,_⟩:=h2;cases q)
 | ã,e,v,h1,h2=>by simp![Rep] at h1;subst h1;cases e<;>simp![Rep] at h2<;>first | (cases h2;rfl) | (cases h2;done) | (let⟨_,_,q,_⟩:=h2;cases q)
 | aĲ,e,v,h1,h2=>by simp![Rep] at h1;subst h1;cases e<;>simp![Rep] at h2<;>first | (cases h2;rfl) | (cases h2;done) | (let⟨_,_,q,_⟩:=h2;cases q)
 | .str b,e,v,h1,h2=>by simp![Rep] at h1;subst h1;cases e<;>simp![Rep] at h2<;>first | (cases h2;rfl) | (cases h2;done) | (let⟨_,_,q,_⟩:=h2;cases q)
 | ď,e,v,h1,h2=>by
  simp![Rep] at h1;let⟨a,vs,rfl,hs,hr⟩:=h1;cases e<;>simp![Rep] at h2<;>first | (cases h2;done) | skip
  let⟨a',VQ,q,iN,nO⟩:=h2;cases q;have:=I.qe hs iN;subst this;rw[jΧ];let⟨a',VQ,q,iN,nO⟩:=h2;cases q;let⟨its,_,ht,_⟩:=cν;let⟨its',_,hl,_⟩:=cā;show pé
 | aļ,e,v,h1,h2=>by
  simp![Rep] at h1;let⟨a,vs,rfl,hs,hr⟩:=h1;cases e<;>simp![Rep] at h2<;>first | (cases h2;done) | skip
  let⟨a',VQ,q,iN,nO⟩:=h2;cases q;let⟨its,_,ht,_⟩:=cξ;let⟨its',_,hl,_⟩:=cĂ;show pé;let⟨a',VQ,q,iN,nO⟩:=h2;cases q;have:=I.list_inj hs iN;subst this;rw[jΧ]
theorem im.inj (I:Ϙ): ∀ (l m:å) (vs:Ä),fĪ ->im X.K H m vs ->l=m
 | [],m,vs,h1,h2=>by
  simp![im] at h1;subst h1;cases m with
  | nil=>rfl
  | cons _ _=>simp![im] at h2;let⟨_,_,q,_⟩:=h2;cases q
 | d ::r,m,vs,h1,h2=>by
  simp![im] at h1;let⟨v,t,rfl,h1,h3⟩:=h1;cases m with
  | nil=>simp![im] at h2;cases h2
  | cons d' r'=>simp![im] at h2;let⟨v',t',q,h4,h5⟩:=h2;cases q;rw[Rep.inj I d d' v h1 h4,im.inj I r r' t h3 h5]
end
def im.items (h:fĪ)(r:cM vs its)(hj:j<its.length):Rep X.K H (eł) (fī) /\ RelV (fī) its[j] /\ eł∈l:=by
 have e1:=h.length;have e2:=r.length;have hl:cο:= (by exact Lqj ř ϒ Lq1 nÃ jţ (LqNp hj (LqNp (LqNd e1) ((LqNd e2)))) rfl);let⟨v,hv,hr⟩:=h.at (aq hl);let⟨u,hu,ru⟩:=r.get hv;have e3:eł=l[j]:=by simp[List.getD,hl]
 have e4:fī=v:=by simp[List.getD,hv]
 rw[aq hj] at hu;cases hu;rw[e3,e4];show#[hr,ru,c5 hl]
def Rep.uW (I:Ϙ)(h:Rep X.K H bĸ x)(r:bþ):c7 λa i=>u= Ā /\ IsTup s.heap a i:=by simp![Rep] at h;let⟨a,vs,rfl,hs,hr⟩:=h;cases r;let⟨its,_,ht,_⟩:=cν;show#[a,_,rfl,ht]
def Rep.u_ (I:Ϙ)(h:Rep X.K H (aļ) x)(r:bþ):c7 λa i=>u= Ā /\ s.heap.IsList a i:=by simp![Rep] at h;let⟨a,vs,rfl,hs,hr⟩:=h;cases r;let⟨its,_,ht,_⟩:=cĂ;show#[a,_,rfl,ht.isList]
def Kr (I:Ϙ)(n:Nat): ∀ (A:Around) (d e:Dt) (x y:V) (u v:eX),AH d<=n ->A.units+n<cLine ->fĬ ->fĭ ->bþ ->RelV y v ->SeqAt.EqAt A s u v bĹ:=by
 induction n using Nat.strongRecOn with
 | _ n ih=>
 intro A d e x y u v hn hu h1 h2 r1 r2;cases d<;>cases e;case tup.tup l m=>
  have TX:=h1
  have LP:=h2
  simp![Rep] at h1 h2
  let⟨a,vs,rfl,hs,hr⟩:=h1
  let⟨b,ws,rfl,iN,nO⟩:=h2
  cases r1;cases r2
  by_cases J_:a=b
  subst J_
  rw[jΨ,l_]
  show hΙ
  let⟨its,rv,ht,_⟩:=cν
  let⟨its',Ff,pD,_⟩:=cξ
  exact lÌ
  simp![vf]
  simp![AH] at hn
  match n,hn,hu,ih with
  | É,hn,hu,ih=>
   have z:=SeqAt.RcAt.tuples (A:=A) (s:=s) (e:=nų) ht pD ∅ λj g1 g2=>by let⟨q1,q2,q3⟩:=lÍ;let⟨q4,q5,q6⟩:=lÎ;exact pÍ;have:=pO q3;exact që;change hό;exact qĪ
   rw[kZ,hr.length,nO.length,rv.length,Ff.length];simpa using z
 case lst.lst l m=>
  have TX:=h1
  have LP:=h2
  simp![Rep] at h1 h2
  let⟨a,vs,rfl,hs,hr⟩:=h1
  let⟨b,ws,rfl,iN,nO⟩:=h2
  cases r1;cases r2
  by_cases J_:a=b
  subst J_
  rw[jΨ,l_]
  show hΙ
  let⟨its,rv,ht,_⟩:=cĂ
  let⟨its',Ff,pD,_⟩:=cā
  exact lÌ
  simp![vf]
  simp![AH] at hn
  by_cases hl:kĔ
  match n,hn,hu,ih with
  | É,hn,hu,ih=>
   have z:=SeqAt.RcAt.lists (A:=A) (s:=s) (e:=nų) ht.isList pD.isList á ∅ λj g1 g2=>by let⟨q1,q2,q3⟩:=lÍ;let⟨q4,q5,q6⟩:=lÎ;exact pÍ;have:=pO q3;exact që;change hό;exact qĪ
   rw[kZ,hr.length,nO.length,rv.length,Ff.length,hl];simpa [hl] using z
  have z:=SeqAt.RcAt.lists_lengths (A:=A) (s:=s) ht.isList pD.isList á ϻ
  have hf:mε:= á
  rw[kZ,hr.length,nO.length,rv.length,Ff.length,hf,Bool.and_false]
  show z
 case tup.lst=>let⟨a,i,rfl,h⟩:=gã;let⟨b,j,rfl,h'⟩:=gä;show SeqAt.EqAt.tuple_list h h' ϻ
 case lst.tup=>let⟨a,i,rfl,h⟩:=gå;let⟨b,j,rfl,h'⟩:=gæ;show SeqAt.EqAt.list_tuple h h' ϻ
 case tup.fw=>let⟨a,i,rfl,h⟩:=gã;simp![Rep] at h2;subst h2;cases r2;show SeqAt.EqAt.tuple_none h ϻ
 case lst.fw=>let⟨a,i,rfl,h⟩:=gå;simp![Rep] at h2;subst h2;cases r2;show SeqAt.EqAt.list_none h ϻ
 case fw.tup=>let⟨a,i,rfl,h⟩:=gæ;simp![Rep] at h1;subst h1;cases r1;show SeqAt.EqAt.none_tuple h ϻ
 case fw.lst=>let⟨a,i,rfl,h⟩:=gä;simp![Rep] at h1;subst h1;cases r1;show SeqAt.EqAt.none_list h ϻ
 case tup.bl=>let⟨a,i,rfl,h⟩:=gã;simp![Rep] at h2;subst h2;cases r2;show SeqAt.EqAt.tuple_bool _ h ϻ
 case lst.bl=>let⟨a,i,rfl,h⟩:=gå;simp![Rep] at h2;subst h2;cases r2;show SeqAt.EqAt.list_bool _ h ϻ
 case bl.tup=>let⟨a,i,rfl,h⟩:=gæ;simp![Rep] at h1;subst h1;cases r1;show SeqAt.EqAt.bool_tuple _ h ϻ
 case bl.lst=>let⟨a,i,rfl,h⟩:=gä;simp![Rep] at h1;subst h1;cases r1;show SeqAt.EqAt.bool_list _ h ϻ
 case tup.int=>let⟨a,i,rfl,h⟩:=gã;simp![Rep] at h2;subst h2;let⟨t,rfl⟩:=r2;show SeqAt.EqAt.tuple_int _ _ h ϻ
 case lst.int=>let⟨a,i,rfl,h⟩:=gå;simp![Rep] at h2;subst h2;let⟨t,rfl⟩:=r2;show SeqAt.EqAt.list_int _ _ h ϻ
 case int.tup=>let⟨a,i,rfl,h⟩:=gæ;simp![Rep] at h1;subst h1;let⟨t,rfl⟩:=r1;show SeqAt.EqAt.int_tuple _ _ h ϻ
 case int.lst=>let⟨a,i,rfl,h⟩:=gä;simp![Rep] at h1;subst h1;let⟨t,rfl⟩:=r1;show SeqAt.EqAt.int_list _ _ h ϻ
 case tup.str=>let⟨a,i,rfl,h⟩:=gã;simp![Rep] at h2;subst h2;let⟨t,rfl⟩:=r2;show SeqAt.EqAt.tuple_str _ _ h ϻ
 case lst.str=>let⟨a,i,rfl,h⟩:=gå;simp![Rep] at h2;subst h2;let⟨t,rfl⟩:=r2;show SeqAt.EqAt.list_str _ _ h ϻ
 case str.tup=>let⟨a,i,rfl,h⟩:=gæ;simp![Rep] at h1;subst h1;let⟨t,rfl⟩:=r1;show SeqAt.EqAt.str_tuple _ _ h ϻ
 case str.lst=>let⟨a,i,rfl,h⟩:=gä;simp![Rep] at h1;subst h1;let⟨t,rfl⟩:=r1;show SeqAt.EqAt.str_list _ _ h ϻ
 all_goals (simp![Rep] at h1 h2;subst h1 h2;show Uc r1 r2 rfl rfl)
universe e
universe L2
namespace L2
open PySem PySem.Spec PyProof.Rows
def ae':Dt ->Bool
 | aĽ=>true
 | aė=>true
 | _=>false
def sf:Dt ->Dt ->Bool
 | aĽ, aĽ=>true
 | aė, aė=>true
 | _,_=>false
def aaV {σ:St}(I:Ϙ)(hs:dł)(hn:bĺ)(hu:hċ)(h1:fĬ)(h2:fĭ)(r1:bþ)(r2:RelV y v): SeqAt.RcAt A s u v bĹ /\ SeqAt.RcNeAt A s u v (!vf d e):=by
 cases d with
 | tup l=>
  cases e with
  | tup m=>
   simp![Rep] at h1 h2;let⟨a,vs,rfl,hs,hr⟩:=h1;let⟨b,ws,rfl,iN,nO⟩:=h2;cases r1;cases r2;let⟨its,rv,ht,_⟩:=cν;let⟨its',Ff,pD,_⟩:=cξ;simp![vf];simp![AH] at hn;have he: qϓ:=λj g1 g2=>by let⟨q1,q2,q3⟩:=lÍ;let⟨q4,q5,q6⟩:=lÎ;exact oΝ;have:=pO q3;exact qÆ;change iĨ;exact qĎ
   have z:=SeqAt.RcAt.tuples (A:=A) (s:=s) ht pD pϴ he;have z':=SeqAt.RcNeAt.tuples (A:=A) (s:=s) ht pD pϴ he;rw[kZ,hr.length,nO.length,rv.length,Ff.length];show#[⇑z, ⇑z']
  | _=>cases hs
 | lst l =>
  cases e with
  | lst m=>
   simp![Rep] at h1 h2;let⟨a,vs,rfl,hs,hr⟩:=h1;let⟨b,ws,rfl,iN,nO⟩:=h2;cases r1;cases r2;let⟨its,rv,ht,_⟩:=cĂ;let⟨its',Ff,pD,_⟩:=cā;simp![vf];simp![AH] at hn;by_cases hl:kĔ;have he: qϓ:=λj g1 g2=>by let⟨q1,q2,q3⟩:=lÍ;let⟨q4,q5,q6⟩:=lÎ;exact oΝ;have:=pO q3;exact qÆ;change iĨ;exact qĎ
   have z:=SeqAt.RcAt.lists (A:=A) (s:=s) ht.isList pD.isList á pϴ he;have z':=SeqAt.RcNeAt.lists (A:=A) (s:=s) ht.isList pD.isList á pϴ he;rw[kZ,hr.length,nO.length,rv.length,Ff.length,hl];show#[by simpa [hl] using z,by simpa [hl] using z'];have z:=SeqAt.RcAt.lists_lengths (A:=A) (s:=s) ht.isList pD.isList á pϴ;have z':=SeqAt.RcNeAt.lists_lengths (A:=A) (s:=s) ht.isList pD.isList á pϴ;have hf:mε:= á;rw[kZ,hr.length,nO.length,rv.length,Ff.length,hf,Bool.and_false];show#[z,z']
  | _=>cases hs
 | _=>cases hs
def WH (K:iD):R2:=λx y H Q=>c7 λd e=>kg (dł) (bĺ) (Rep K H d x) (Rep K H e y) (Q (.bl bĹ) H)
def Bo (hu:X.A.units+60<cLine):uU X gŸ (WH X.K):=by intro ai s σ H x y v u Q I r1 r2 h;let⟨d,e,h0,hn,h1,h2,q⟩:=h;show(aaV I h0 hn hu h1 h2 r1 r2).1 X.prog X.w X.xe _ #[aÓ,H,I,rfl,q]
def fJ.u60 (r:aĮ):hċ:=by have:=r.units;exact Lqj Û mß Lq1 (.a (.a Lq0 (.n 64)) ñ) Lq1 this rfl
theorem pq: ∀ {ns:ā} {us:â},cM gÒ us ->IntsAre us ns
 | [],_,h=>by cases h;show .nil
 | n ::r,_,h=>by
  cases h with
  | cons h1 h2=>let⟨t,rfl⟩:=h1;show .cons n t (pq h2)
theorem mU: ∀ {ks:ā} {vs:â},iϞ ->(∀ (j:Nat) (v:eX),gß ->c7 λ ĥ (t:Tok)=>ks[j]? =ù /\ v= .int k t) ->IntsAre vs ks
 | [],[],_,_=> .nil
 | [],_::_,h,_=>by simp at h
 | _::_,[],h,_=>by simp at h
 | k::ks,aÛ,h,hv=>by let⟨k',t,e1,e2⟩:=hv 0 v rfl;simp at e1;subst e1 e2;show .cons k t (mU Â λj u e=> ⇑(hv Þ u Å))
def zj:Ϫ:=λxs H Q=>gL λ(d:fR) (kvs:ů) dŃ=>kg (xs= [aľ]) (H d=ϊ) mζ jΩ qš
def gm (hc:ŷ):f' X iϟ zj:=by
 intro ai s σ H xs us Q I r h;let⟨d,kvs,ks,rfl,hd,hk,Yw,q⟩:=h;let⟨u,rfl,ru⟩:=aϖ;cases ru;have hh:jġ:=cŰ;let⟨hz,lo,vs,rel,dd⟩:=z_ I.c9 hd;let⟨ep,yF⟩:=dd.dictAt;have d_:iϞ:=by have e1:=congrArg List.length hk;rw[aa,aa] at e1;rw[<- rel.length,e1]
 exact qÏ;unfold Builtin.«sorted»;exact oÜ;exact ak (W.kdu_collect (A:=X.A.in1) (W.kdl_dict (knd:=fď) (kvs:=vs) (ep:=ep) lo) hh yF (by rw[<- rel.length];show hz) λh' tk fU JX FT=> ?_);have hl:fU.toList.length=ks.length:=by rw[dP,FT.1,d_]
 have hI:IntsAre fU.toList ks:=mU hl λj v e=>by
  let⟨k,x,hx,X'⟩:=FT.2 j v oÂ;have X8:(gÎ)[j]? =ù:=by
   have:(fĢ)[j]? =ù:=by rw[aF,hx];rfl
   rw[<- rel.keys] at this;show this
  rw[hk,aF] at X8;cases e2:ks[j]? with
  | none=>rw[e2] at X8;cases X8
  | some n=>
   rw[e2] at X8;cases X8;have abK:pj (Sum.inl n) v=true:=X';rcases d9 abK with⟨i,t,e3,e4⟩ | ⟨x,t,e3,e4⟩
   cases e3;show#[n,t,rfl,e4];cases e3
 exact ak (wpAny_newList ?_ iϠ);have ho:(oĤ).get? h'.objs.size=some nħ:=Ŀ;exact ak (wpAny_holding (wpAny_call_entry slot_list_sort dń entry_list_sort (TS.vI (s:= {s with heap:=oĤ,toks:=tk}) ho hI iϠ mŋ) iĩ));let⟨ee,TV⟩:=lΥ;have I':nϸ:=I.kept (t':=tk) JX;exact aN #[_,rfl, hΚ,_,I'.laid (t':=tk) (o:= iϡ) gω õ ?_,rfl,nÑ];have gu:gç:=aJ hb;rw[pı];show ar _ hb;exact mϝ;rw[aa,a2.length_eq];show Yw
def dS.of {X:Cx}{sc scope:Scope}{N own N':ĉ}{fr:Ď}(hsc:X.env.scope=sc:=by show rfl)(hN:X.N=N:=by show rfl)(kind:jΟ:=by show rfl)(names:N'=own++lĢ:=by decide+kernel)(len:mŉ:=by show rfl)(nd:N'.Nodup:=by decide+kernel) (tS: mγ:=by decide+kernel) (loc: pŵ:=by decide+kernel) (Vi: ∀x∈lĢ,mδ:=by decide+kernel) (free: ∀y∈scope.names,cε ->iϢ=cŦ \/ iϢ=cŧ:=by first | decide+kernel | show of_decide_eq_true rfl):jĝ:=by subst hN hsc;show#[kind,names,len,nd,tS,loc,Vi,free]
structure j6 (K:PySem.W.Frag)(mg:iā)(x:Str)(ps:bć)(st:Stmt)(f:Addr)(fd:FuncData):Prop where
 at_:mg x=fĐ
 fn:At K x x st f fd
 bd:hþ
theorem aU {st:Stmt}{p pos:Pos}(C:lÏ)(F:oŏ)(hr:fJ j X.A)(ha:gÃ)(hk:k<=j:=by decide)(hg:ċ:=by rfl)(oy:ϴ:=by decide)(he:Ϲ:=by rfl)(lI:oΕ:=by rfl): PE X nč (qG sp [] E0 t):=DD F (hr.mono hk) hg C.at_ C.fn.kp C.bd .nil DF ha oy he lI
theorem Fp {st:Stmt}(C:lÏ)(F:oŏ)(hr:bĨ)(hg:ċ)(oy:ϴ:=by decide):PE X mĕ (qG sp [] E0 Hk):=Ix F hr hg C.at_ C.fn.kp C.bd .nil DF oy
theorem cq (h:ņ):fY H (cR H p o):=λb u e=>by rw[bL (dM e h)];show e
def br (H H':Hp):Prop:= oĺ
theorem br.refl (H:Hp):br H H:=cπ
theorem br.trans (a:aϠ)(b:bļ):br H H2:=lÐ
theorem fY.ts (a:fY H H'):ħ:=λb xs h=>by obtain h | ⟨o,h⟩:=h;show .inl (a _ _ h);show .inr #[o,a _ _ h]
universe L2
namespace L2
open PySem PyProof.Rows PyProof.V PySem.Calls PySem.Spec
def uP (P:Program)(w:World):AJ:=λouter H s E e s'=>Gq λ(ea:fR) (cls a0:eX) (B:Heap) (H':Hp)=>p9 (e= .ref ea) (cŪ) (gŰ) (Heap.FlyingW B outer ea cls a0 s'.heap) (lE P w H' B) (cς) nς (dU (pΒ) (pδ) (E cls none H'))
def fu.ex (x:fϧ): ∃u,ļ=þ:=by
 cases o with
 | lst xs=>let⟨_,_,_,_,e⟩:=x;show č
 | tup xs=>let⟨_,_,_,p,e,_⟩:=x;show č
 | dK kvs=>let⟨_,_,_,_,o,_,_,e,_⟩:=x;show č
 | dT kvs=>let⟨_,_,_,_,o,_,_,e,_⟩:=x;show č
 | set S n=>let⟨o,_,_,_,e,_⟩:=x;show č
 | ins C dx fs=>let⟨_,_,_,e,_⟩:=x;show č
 | own y=>show x
 | xd fs=>let⟨_,gŧ,_⟩:=x;show č
 | Fi lo hi=>let⟨_,_,_,e⟩:=x;show č
 | pK ob u=>let⟨e,_⟩:=x;show č
 | Mj ps=>show#[_,mď]
 | met f y=>show#[_,mď]
 | ext φ=>let⟨_,e,_⟩:=x;show e
section
variable {X:Cx}{ai:ψ}{σ:St}{H H':Hp}{s s':eY}
theorem Inv.No (I:Ϙ)(e:lď)(n:bĊ):gè:=λz=>by obtain q | q:=hí;have h1:=Æ;have h2:=I.ok.above;rw[q] at h1;show absurd h1 (Nat.not_lt.mpr h2);show n q
theorem sP {outer:ć}{H₀:Hp}{h0 h h' B:Heap}{base:Heap}(ff:h.FunFrames base outer)(hF: ∀b∈bĤ,dŅ)(u:Un (bĤ) [] H₀ H' h0 h)(st:B.StaysIn h')(up:h.UpToSlots h') (kb: ∀b o,hČ ->dŅ ->mŌ) (kt: ∀b o,hČ ->nΒ):Un (bĤ) [] H₀ H' h0 h' where
 keep b o e n hb _:=st b o (kb b o e n hb)
 slot b o e n hb hx:=by let⟨sl,e1⟩:=u.slot b o e n hb hx;let⟨_,o2,e2,X0⟩:=ff.mem hb;rw[e1] at e2;cases e2;let⟨sl2,e3⟩:=eŃ;show#[sl2,e3]
 free:=u.free
 there b o e hx:=by by_cases hb:b∈bĤ;let⟨sl,e1⟩:=u.slot b o e (hF b hb) hb hx;let⟨_,o2,e2,X0⟩:=ff.mem hb;rw[e1] at e2;cases e2;let⟨sl2,e3⟩:=eŃ;show#[_,e3];let⟨o',e'⟩:=dņ;show#[o',st _ _ e']
 nW:=u.nW
 l8:=u.l8
 oN:=u.oN
def Bm {K:iD}: kh bĽ (pă) E:=by
 intro ai σ H1 s1 e s' I hf;let⟨ea,cls,a0,B,H',rfl,os,bare,fl,c9,zT,un,kb,kt,hE⟩:=hf;have I':=I.KJ (ch:= []) os un (c9.kept fl.1) bare lΞ;change wpAny _ _ (leaving _ că) _ _ s';exact wpAny_leaves_onW I.ok.frames rfl fl λh' fl' up=> ?_;have hex:(pă).ex= []:=rfl;have kb': pΒ:=λb o e n hb=>kb b o (I.base.keep b o e n hb mō) (I.base.free b o e n mō) dŇ;have kt': pδ:=λb o e hb=>by let⟨o1,e1⟩:=I.base.there b o e mō;show kt b o1 e1 dŇ
 show#[ea,cls,a0,B,H',rfl,os.trans I.os,bare,fl',c9,zT,sP I'.oz I.ok.LQ I'.base fl'.1 up kb' kt',kb',kt',hE]
def Kh (hP:bĚ)(hw:X.w=w)(I:Ϙ)(iM:kĀ)(J5:mĐ)(hex:X.ex= [])(mk:nÒ)(hE:eń): wpAny M X.A (leaving X.env bľ) (λ_ s2=>uP P w X.outer X.H₀ X.s₀ E bľ s2) E' hζ:=by
 subst hP hw;have Qk: ∀b:fR,bĉ:=λb z=>by rw[hex] at z;show iĖ
 have RQ:=I.stack;have ij: ∀env∈X.stack, ∀b,env.frame=aþ ->b∈cŨ:=λenv he b hb=>List.mem_filterMap.mpr #[env,he,hb];have hB:lE X.prog X.w H (mĘ):=λa o ea=>(I.c9 a o ea).oO (λb u hb q=>W.hideAll_get _ q λhm=>by have:=I.r_ b hm;obtain rfl | hb:=hb;rw[ea] at this;cases this;rw[hb] at this;cases this) cš cŢ;have zT:H e=none:=by
  cases q:H e with
  | none=>rfl
  | some o=>let⟨u,hu⟩:=(I.c9 e o q).ex;rw[mk.new] at hu;cases hu
 have kb: ∀b o,lď ->fû ->b∉cť ->nΓ=Ą:=λb o e n hb=>W.hideAll_get _ (I.base.keep b o e n hb (Qk b)) dŇ;have kt: ∀b o,lď ->b∉cť -> ∃o',nΓ=aώ:=λb o e hb=>by let⟨o1,e1⟩:=I.base.there b o e (Qk b);show#[o1,W.hideAll_get _ e1 dŇ]
 have hf2:s.heap.FunFrames (mĘ) (fϮ):=by have:=W.funFrames_hide RQ ij;rw[iM] at this ⊢;show this
 exact wpAny_leaves_madeW kſ J5 (λb o q=>W.of_hideAll _ q) hf2 mk λh2 t fl tu _ up=> ?_;have up':s.heap.UpToSlots h2:=(Heap.UpToSlots.of_keeps mk.keeps).trans up;have u0:Un (cť) [] X.H₀ H X.s₀.heap s.heap:=by have:=I.base;rw[hex] at this;show this
 show#[e,cls, aĿ,_,H,rfl,I.os,I.bare,fl,hB,zT,sP I.oz I.ok.LQ u0 fl.1 up' kb kt,kb,kt,hE]
def E4 (X:Cx)(E:XK):Prop:= ∀ (ai:ψ) (σ:St) (H:Hp) (s:eY) (h':Heap) (e:fR) (cls:eX) (vs:â),Ϙ ->nÒ ->eń ->X.xe bľ hζ
theorem Ki {K:iD}: E4 (pă) E:=λai σ H1 s1 h' e cls vs I mk hE=>Kh (P:=P) (w:=w) rfl rfl I rfl rfl rfl mk hE
nonrec abbrev Y1:â:= [.type eŅ, .type "Exception", jϊ, gé]
def AY (C:fR)(E:XK)(t:TA):TS:=λ_ σ H=>t σ H λvs H1=>iΙ /\ E Ń none H1
def Ie {np fO pos:Pos}{rest:ġ}(hF:E4 X E)(hc:ŷ)(hg:ċ)(O:PyProof.Rows.OwnCls x C Y1 jģ X.mg X.base)(ha:PA X eņ t)(oy:ϴ:=by decide)(he:pΗ:=by rfl)(lI:oĻ=false:=by rfl): pϵ:=by intro ai s σ H D I h;let⟨tl,N,nm,q,bs,hdct,sn,sub,ab,col,dd,k0,k1,k2,k3,k5,mN,hC,hN,XZ,T⟩:=O.obj;exact wpAny_Raise_call_subU (C:=C) (nm:=nm) (q:=q) (N:=N) (bs:=bs) (bm:=tl) (hdct:=hdct) (sn:=sn) (sub:=sub) (ab:=ab) (col:=col) (dd:=dd) (k0:=k0) (k1:=k1) (k2:=k2) (k3:=k3) (k5:=k5) PySem.F.excBase_ValueError (bmB:=Y1) iĪ PySem.F.excBase_ValueError (mN:=mN) (T.hasType PySem.F.excBase_ValueError.hasBase) eĘ (by rw[he];change(false || oĻ)=false;rw[lI];rfl) XZ (mP I hg O.bound bϲ oy);have h2:=ha fO ai s σ H _ I h;rw[he] at h2 ⊢;show Calls.evalArgs_plain (dz h2 (by rintro us s2 ⟨vs,H1,I1,r,z,hE⟩;exact #[rfl,by rw[<- r.length];show z,I1.bk _ _ hC,hN.keeps I1.bk,T.keeps I1.bk,λh' e mk=>hF ai σ H1 s2 h' e Ń us I1 mk hE]))
universe e
def lx (a C:fR)(h:Heap):Prop:= ∃o,gť /\ fĮ
abbrev Cx.lj (X:Cx)(e:eX):Cx:= {X with A:=X.A.mark (some e),calm:=false,xe:=eđ}
section
variable {X:Cx}{ai:ψ}{σ:St}{H H':Hp}{s s':eY}
theorem Cx.Ok.lj (ok:X.Ok)(e:eX):(X.lj e).Ok:=#[ok.mod,ok.kind,ok.glob,ok.blt,ok.above,ok.inj,ok.has,ok.Vj,hĆ,ok.frames,ok.RQ,ok.exf,ok.bs,ok.KL,ok.Fu,ok.Ce,ok.oz,ok.LQ]
theorem Inv.lj (I:Ϙ)(e:eX):kė:=#[I.ok.lj e,I.os,I.bare,I.base,I.loc,I.cell,I.free,I.io,I.pin,I.c9,I.len]
theorem Inv.tI (ok:X.Ok)(I:kė):Ϙ:=#[ok,I.os,I.bare,I.base,I.loc,I.cell,I.free,I.io,I.pin,I.c9,I.len]
def Ol (I:Ϙ)(hN:X.N.Nodup)(hi:gΒ)(hk:lţ)(h: ∀s',Inv X ai gΓ H s' ->aϏ):wpAny M A (do kĘ;unbindBehindTheSuite X.env n pos) Q E s:=by
 let⟨m,hn,hl⟩:=bĎ;have TK:qĢ:=by rw[I.ok.kind];rfl
 have _B:dñ:=by rw[I.len];show eč
 have KG:=I.KG;exact wpAny_nameGoes_keeps hk hn TK λh' v N7 hs=> ?_;let⟨oL,_,_,hoL,_⟩:=id hn;have tracked:iĆ:=λb ob e=>by exact pΤ;rintro rfl;obtain rfl | hc:=hc;rw[I.free] at e;cases e;rw[I.free] at hc;cases hc
 exact h _ #[I.ok,I.os,I.bare,qİ,mĿ,eĎ,I.free,I.io,dî,tracked, bĐ];show oõ lΚ;let⟨sl,e1⟩:=lđ;show oϚ;let⟨o',e1⟩:=jδ;show oϛ;by_cases hj:j=i;subst hj;rw[lĒ] at e2;cases e2;rw[mÌ] at e2;let⟨u',r',q⟩:=ić;exact dò;rcases q with⟨k,e⟩ | ⟨k,c,e,z⟩
 exact eď;have:y≠n:=lΜ;simp[this,e];show nŮ;let⟨w',z⟩:=eĐ;show#[w',kŭ];let⟨e,n,ne,nf,d⟩:=cũ;show nĆ
def ox (I:hψ)(os:s'.os=s1.os)(bare:gŰ)(fl:Heap.FlyingW B X.stack ea Ń a0 s'.heap)(c9:lE X.prog X.w H' B)(zT:cς)(un:Un eċ [] H1 H' s1.heap s'.heap)(kb: ∀b o,jϋ ->H1 b=none ->gè ->B.get? b=Ą)(kt: ∀b o,jϋ ->gè -> kĖ)(fl5:Heap.FlyingW B X.stack ea Ń a0 h5)(up:s'.heap.UpToSlots h5):Inv X ai σ lΦ lΧ /\ nÓ:=by
 have new: ∀b o,jϋ ->b≠ea:=λb o e z=>by subst z;by_cases hb:b∈cŨ;let⟨_,o2,e2,X0⟩:=fl.2.2.1.mem hb;let⟨oe,vs,e3,_,hd,_⟩:=fl.first;rw[e2] at e3;cases e3;show X0 vs hd;let⟨o',e'⟩:=dņ;rw[fl.2.1] at e';cases e'
 have u5:=sP fl.2.2.1 I.r_ un fl5.1 up kb kt;have zN: ∀b o,H' b=Ą ->cR H' ea hč b=Ą:=λb o e=>by rw[bL (dM e zT)];show e
 have u6:Un eċ [] H1 lΦ s1.heap h5:=#[u5.keep,u5.slot,λb o e n hx=>by rw[bL (new b o e)];show u5.free b o e n hx,u5.there,λb xs e=>zN _ _ (u5.nW b xs e),λb o u e=>zN _ _ (u5.l8 b o u e),λb ps e=>let ⟨m,z⟩:=u5.oN b ps e;#[m,zN _ _ z]]
 have abB:lE X.prog X.w lΦ h5:=λb o e=>by by_cases hb:b=ea;subst hb;rw[ce] at e;cases e;let⟨oe,vs,e3,hc,_⟩:=fl5.first;show#[#[oe,e3,hc],#[oe,e3],(by rintro h1 h2 ⟨o,e,c⟩ k;exact #[o,k o e,c])];rw[aÐ] at e;show(c9 b o e).oO (λc u _ q=>fl5.1 c u q) (λc q=>zN _ _ q) λc xs q=>zN _ _ q
 exact#[I.KJ (s':= lΧ) (ch:= []) os u6 abB bare lΞ,λb xs r=> ?_];obtain r | ⟨w,r⟩:=r;show .inl (u6.nW _ _ r);show .inr #[w,u6.l8 _ _ _ r]
def zW (i:Nat)(D:mw):mw:= qŢ
theorem DJ (I:Ϙ)(hg:ċ)(hm:fā)(h:Q u s)(hd:ϴ:=by decide):wpAny M A lŒ Q E s:=qű
universe e
universe L2
namespace L2
open PySem PyProof.Rows PyProof.V PySem.Calls PySem.Spec PySem.W PySem.Builtin PySem.Builtin.ObjectAttr PySem.Builtin.Getset_descriptor
theorem qz (hx:hĎ)(hc:fĮ):Looks M hh (typeOf ł) Ń:=hc▸ (Looks.ld hx).andThen .now
def Oz {K:iD}{os:OsState}(X:aϡ)(hx:hĎ)(hc:fĮ)(hm:nņ)(h:nΔ): codeAny Φ A (.call (.builtin "getset_descriptor.__get__") #[[lΨ, Ā,tp],[]]) R gë:=by
 have L0:=lŤ;have L1:=looks_mroIn (M:=eÓ) X hm;exact codeAny_call_builtin KF.slot_gs.plain KF.entry_gs (KF.slot_gs.check _ _ _ _ _ _ _ _ KF.type_class (KF.args_gs _ _ _) ?_);unfold Builtin.«getset_descriptor.__get__» descrGet;rw[dga_obj];exact cś;unfold descrGetter descrCheckInstance descrNameAndClass isInstance;simp![KF.owner_class];repeat lk
 exact#[Code.quiet_builtin _ iĪ,codeAny_builtin KF.entry_class ?_];unfold Builtin.«object.__class__» shownTypeOf;repeat lk
 show h
def F5 {K:iD}{os:OsState}(X:aϡ)(hx:hĎ)(hc:fĮ)(lr:pΘ)(hm:nņ)(hq:Q (.done (.ret Ń)) gë):wpAny Φ A (Builtin.«object.__getattribute__» nĨ) Q E gë:=by
 have LT:=lŤ;have L3:=looks_findIn (M:=eÓ) X lr;have hT5:(gë:eY).TypeIs (lΨ) "getset_descriptor" :=F.typeOf_object_class;have f5:=F.typeOf_object_class;have f6:=F.slot_gs_get.lookup;have f7:=F.slot_gs_set.lookup;repeat (any_goals (first | assumption | with_reducible exact gì | with_reducible exact Looks.at L3 ?_ | (with_reducible exact kγ;rw[hc]) | wp_step))
 exact Oz X hx hc hm ?_;repeat (any_goals (first | assumption | wp_step))
def F6 {K:iD}{os:OsState}(X:aϡ)(hx:hĎ)(hc:fĮ)(hb:oĥ)(hq:Q () gë): wpAny M A (checkBuiltinCall mϞ #[[Ā,Qn],[]]) Q E gë:=by
 have LT:=qz (M:=M) hx hc;have LB:=looks_mroIn (M:=M) X hb;have hk:builtinKind mϞ =some .slot:=by decide+kernel
 have Te:splitId mϞ =some (gΑ,iī):=by decide+kernel
 have ha:=F.args_bexc_ga ł Qn;simp![checkBuiltinCall,hk,Te];exact aÔ
 .unfold isInstance;repeat (first | with_reducible exact gì | with_reducible exact Looks.at LB ?_ | (with_reducible exact kγ;rw[hc]) | wp_step)
  show hq
theorem Ko {K:iD}{os:OsState}(X:aϡ)(hx:hĎ)(hc:fĮ)(lr:pΘ)(hm:nņ)(hb:oĥ)(hq:nΔ):codeAny Φ A (.call oĦ nĨ) R gë:=codeAny_call_builtin F.excAttr_ValueError.ga.plain F.entry_bexc_ga (F6 X hx hc hb (F5 X hx hc lr hm hq))
def Ub {K:iD}{os:OsState}{fill Kn:Bool}(X:aϡ)(hx:hĎ)(hc:fĮ)(hga:qĉ)(hgn:oĀ)(lr:pΘ)(hm:nņ)(hb:oĥ)(hq:Q Ń gë):wpAny Φ A (getAttrBy ł (iϤ) fill Kn) Q E gë:=by
 have LT:=lŤ;have L1:=looks_findIn (M:=eÓ) X hga;have L2:=looks_findIn (M:=eÓ) X hgn;have f3:=F.excAttr_ValueError.ga.bind ł;have hx0:(Kn && onTheHeap (oš))=false:=by cases Kn<;>rfl
 have GH:(qì)=false:=by decide+kernel
 have hx1:(onTheHeap (Value.ref C) && qì)=false:=by rw[GH];rfl
 repeat (any_goals (first | assumption | with_reducible exact gì | with_reducible exact Looks.at L1 ?_ | with_reducible exact Looks.at L2 ?_ | (with_reducible exact kγ;rw[hc]) | wp_step))
 exact Ko X hx hc lr hm hb ?_;repeat (any_goals (first | assumption | wp_step))
def Kp {K:iD}{os:OsState}(X:aϡ)(hx:hĎ)(hc:fĮ)(hga:qĉ)(hgn:oĀ)(lr:pΘ)(hm:nņ)(hb:oĥ)(hq:Q (fė) #[hh,g,d,t+1,os]):wpAny Φ A (getAttr? ł dň) Q E gë:=by unfold getAttr? getAttrBy?;repeat (any_goals (first | assumption | with_reducible apply Ub X hx hc hga hgn lr hm hb | wp_step))
universe L2
namespace L2
open PySem PyProof.Rows PyProof.V PySem.Calls PySem.Spec PySem.W
structure CG (K:PySem.W.Frag)(C:Addr):Prop where
 cls:(clsIn K C).isSome=true
 ga:qĉ
 gn:oĀ
 cl:pΘ
 mo:nņ
 mb:oĥ
theorem Jp {K:iD}{a C:fR}(k:aŀ):KitX K ł Ń (lx a C) where
 ty:=(by rintro M h _ ⟨o,e,c⟩;exact qz e c)
 it :=λ_ _ X _=>by let⟨cdD,Of⟩:=nÔ;unfold clsIn at Of;split at Of;rename_i c' d' cd' sl' ho;intro A' Q' E' s' k q;unfold isType loadHead;show ak (wpAny_loadPart (k _ _ (X _ _ ho)) (aN q));cases Of
 ne :=λh tp dd its n sl X htp=>by let⟨cdD,Of⟩:=nÔ;exact Bool.eq_false_iff.mpr λq=> ?_;have e:C=tp:=Value.ref.inj (beq_iff_eq.mp q);subst e;unfold clsIn at Of;split at Of;rename_i c' d' cd' sl' ho;have z:=(X _ _ ho).symm.trans htp;cases z;cases Of
 ca:=λ{prog w A E Q s} X ⟨o,e,c⟩ h=>by let⟨hh,g,d,t,os⟩:=s;show Kp X e c k.ga k.gn k.cl k.mo k.mb h
def zk (K:iD):Ϫ:=λxs H Q=>Gq λa C c cu b=>E2 (xs= [Ā,c]) (lÑ) (aŀ) (RelV c cu) kę (kitOne K Ń cu=aþ) (Q aϑ H)
def kN:f' X (.builtin eň) (zk X.K):=by intro ai s σ H xs us Q I r h;let⟨a,C,c,cu,b,rfl,ea,kc,rc,only,e,q⟩:=h;let⟨u,w',rfl,ru,uZ⟩:=vals2 r;cases only _ uZ;cases (show Κ from ru);show kia_one (Jp kc) I.v9 (I.c9 a _ ea).1 e hĆ λtk=>#[ã,H,I.tok tk,rfl,q]
universe L2
namespace WL
open PySem L2
set_option genInjectivity true in
inductive W where
 | v (x:V) | tup (l:aŁ)
set_option genInjectivity true in
inductive MO where
 | lst (l:aŁ) | dK (kvs:eŉ) | ins (C dx:Addr) (fs:List (Str×W)) | exc (C:Addr) | fz (o:Obj) (ks:eā) (kvs:eŉ)
abbrev Mp:=fR ->fk MO
abbrev dj:=eV (Ê)
abbrev WK:=W ->Ţ
abbrev WE:=dj ->gí
abbrev WT:=dj ->Mp ->(hď) ->Prop
abbrev WA:=dj ->Mp ->(hĐ) ->Prop
abbrev WG:=W ->nÕ
abbrev OL:=Ë ->nÕ
abbrev Gr:=W ->iĬ
abbrev Cv:=jό
abbrev WI:=dj ->Mp ->(mŎ) ->Prop
structure fG where
 nx:ύ
 rt:WK
 bk:ύ:=eđ
 ct:ύ:=eđ
abbrev WS:=fG ->ύ
@[reducible] def wi (i:Int):W:= dŉ
@[reducible] def wb (b:Bool):W:= cτ
@[reducible] def wr (a:fR):W:= .v ł
@[reducible] def ws (x:Str):W:= .v bĖ
@[reducible] def wn:W:= .v .fw
def um (M:Mp)(a:fR)(o:MO):Mp:=λb=>if b=a then Ą else M b
def av:um M a o a=Ą:=by unfold um;rw[ą]
def aE (h:b≠a):um M a o b=M b:=by unfold um;rw[aj h]
def qF:um (um M a o) a u=um M a u:=by funext b;unfold um;split<;>rfl
def cT {M:Mp}(h:M a=Ą)(h':M b=none):a≠b:=by intro e;subst e;rw[h] at h';cases h'
def Sm (M M':Mp):Prop:= ∀b o,lÒ
theorem Sm.refl (M:Mp):Sm M M:=cπ
theorem Sm.trans {M M1 M2:Mp}(a:Sm M M1)(b:Sm M1 M2):aϢ:=lÐ
def Sm.free (a:Ĩ)(h:M' p=none):ň:=by
 cases e:M p with
 | none=>rfl
 | some o=>rw[a p o e] at h;cases h
theorem bG (h:ň):Sm M cυ:=λb u e=>by rw[dŊ];show e
theorem Sm.um (a:Ĩ)(h:ň):Sm M dŋ:=λb u e=>by rw[dŊ];show a b u e
mutual
def WR (K:iD)(H:Hp):W ->V ->Prop
 | .v x,v=>v=x
 | ď,v=>pÎ
def cW (K:iD)(H:Hp):Ë ->Ä ->Prop
 | [],vs=>vs= []
 | x::r,vs=>c7 λv t=>dU (vs=v::t) (Ű) (cW K H r t)
end
mutual
theorem WR.ts {K:iD}{H H':Hp}(a:ħ): ∀ (x:W) (v:V),Ű ->dŌ
 | .v x,v,h=>by simp![WR] at h ⊢;show h
 | ď,v,h=>by simp![WR] at h ⊢;let⟨p,vs,e,hs,hr⟩:=h;show#[p,vs,e,Un.sqT a hs,cW.ts a l vs hr]
theorem cW.ts {K:iD}{H H':Hp}(a:ħ): ∀ (l:Ë) (vs:Ä),Ż ->cW K H' l vs
 | [],vs,h=>by simp![cW] at h ⊢;show h
 | x::r,vs,h=>by simp![cW] at h ⊢;let⟨v,t,e,h1,h2⟩:=h;show#[v,t,e,WR.ts a x v h1,cW.ts a r t h2]
end
theorem cW.length {K:iD}{H:Hp}: ∀ {l:Ë} {vs:Ä},Ż ->iĭ
 | [],_,h=>by simp![cW] at h;subst h;rfl
 | d::r,vs,h=>by simp![cW] at h;let⟨v,t,rfl,_,h⟩:=h;simp[cW.length h]
theorem cW.at {K:iD}{H:Hp}: ∀ {l:Ë} {vs:Ä} {j:Nat} {d:W},Ż ->fĩ -> ∃v,gß /\ cχ
 | [],_,_,_,_,e=>by simp at e
 | d::r,vs,j,d',h,e=>by
  simp![cW] at h;let⟨v,t,rfl,h1,h⟩:=h;cases j with
  | zero=>simp at e;subst e;show dŁ
  | succ j=>simpa using cW.at (j:=j) h Å
theorem cW.mk {K:iD}{H:Hp}: ∀ {l:Ë} {vs:Ä},iĭ ->(∀ (j:Nat) d v,fĩ ->gß ->cχ) ->Ż
 | [],vs,h,_=>by simp![cW];show dg.mp h
 | d::r,[],h,_=>by simp at h
 | d::r,aÛ,h,k=>by simp![cW];show#[v,vs,rfl,k 0 d v rfl rfl,cW.mk Â λj x u e1 e2=>k Þ x u ⇑e1 ⇑e2]
def cW.back {j:Nat}(h:Ż)(e:gß): ∃d,fĩ /\ cχ:=by
 have hl:=h.length;have hj:cο:=by have:=(ao.mp e).1;exact Lqj Ğ ϒ Lq1 kϞ ο (LqNp cñ this) rfl
 let⟨u,hu,r⟩:=h.at (j:=j) (d:=l[j]) aϣ;rw[e] at hu;cases hu;show#[_,aq hj,r]
def cW.snoc {K:iD}{H:Hp}{l:Ë}{vs:Ä}{d:W}{v:V}(h:Ż)(hr:cχ):cW K H (l++ [d]) (vs++ [v]):=by
 have hl:=h.length;exact cW.mk (by simp[hl]) iĮ;by_cases hj:cο;rw[bi hj] at e1;rw[qł] at e2;let⟨w,hw,r⟩:=aϤ;rw[e2] at hw;cases hw;show r;rw[pÏ] at e1;rw[qÿ,hl] at e2;cases hk:j - l.length with
 | zero=>rw[hk] at e1 e2;simp at e1 e2;subst e1 e2;show hr
 | succ k=>rw[hk] at e1;simp at e1
def cW.append (h:Ż)(h':cW K H m us):cW K H (l++m) (vs++us):=by have hl:=h.length;have sy:=h'.length;exact cW.mk (by simp[hl,sy]) iĮ;by_cases hj:cο;rw[bi hj] at e1;rw[qł] at e2;let⟨w,hw,r⟩:=aϤ;rw[e2] at hw;cases hw;show r;rw[pÏ] at e1;rw[qÿ,hl] at e2;let⟨w,hw,r⟩:=h'.at e1;rw[e2] at hw;cases hw;show r
def cW.drop (n:Nat)(h:Ż):cW K H (l.drop n) (vs.drop n):=by exact oļ;rw[List.getElem?_drop] at e1 e2;let⟨w,hw,r⟩:=aϤ;rw[e2] at hw;cases hw;show r
def cW.take (n:Nat)(h:Ż):cW K H (l.take n) (vs.take n):=by exact oļ;rw[List.getElem?_take] at e1 e2;split at e1;rename_i hj;rw[am hj] at e2;let⟨w,hw,r⟩:=aϤ;rw[e2] at hw;cases hw;show r;cases e1
def cW.set (n:Nat)(h:Ż)(hr:cχ):cW K H (l.set n d) (vs.set n v):=by have hl:=h.length;exact oļ;rw[List.getElem?_set] at e1 e2;split at e1;rename_i hj;rw[am hj] at e2;split at e1;split at e2;cases e1;cases e2;show hr;cases e2;cases e1;rename_i hj;rw[aj hj] at e2;let⟨w,hw,r⟩:=aϤ;rw[e2] at hw;cases hw;show r
def cW.nil:cW K H [] []:=by simp![cW]
def cW.cons {K:iD}{H:Hp}{x:W}{v:V}{l:Ë}{vs:Ä}(h:Ű)(r:Ż):cW K H (x::l) (aÛ):=by simp![cW];show#[v,vs,rfl,h,r]
def WR.v:WR K H (.v x) x:=by simp![WR]
def WR.eq {x v:V}(h:WR K H (.v x) v):v=x:=by simpa only[WR] using h
def WR.tup {v:V}(h:WR K H bĸ v):pÎ:=by simpa only[WR] using h
def WR.UT (h:dľ)(r:Ż):WR K H bĸ ł:=by simp![WR];show#[a,vs,rfl,h,r]
def KR (K:iD)(H:Hp){κ:Type}:cψ ->ū ->Prop:=Paired λp q=>aΩ /\ gî
theorem KR.ts {K:iD}{H H':Hp}{κ:Type}(a:ħ): ∀ {l:cψ} {vs:ū},ż ->KR K H' l vs
 | _,_, .nil=> .nil
 | _,_, hύ=> .cons #[e,r.ts a] (KR.ts a t)
def MR (K:iD)(H:Hp)(a:fR):MO ->Prop
 | aļ=> ∃vs,H a=gï /\ Ż
 | .dK kvs=> ∃ks,H a=some (.dK ks) /\ fİ
 | eă=> ∃ks,H a=some (.ins C dx ks) /\ eŊ
 | .exc C=>lÑ
 | eŋ=>H a=some (.pK o (.dK ks)) /\ fİ
def MR.some (h:cω): ∃u,H a=þ:=by
 cases o with
 | lst l=>let⟨_,e,_⟩:=h;show č
 | dK l=>let⟨_,e,_⟩:=h;show č
 | ins C d l=>let⟨_,e,_⟩:=h;show č
 | exc C=>show#[_,h]
 | fz o l l2=>show#[_,h.1]
def MR.mv (t:ħ)(e:H' a=H a)(h:cω):MR K H' a o:=by
 cases o with
 | lst l=>let⟨vs,e1,r⟩:=h;show kε
 | dK l=>let⟨vs,e1,r⟩:=h;show kε
 | ins C d l=>let⟨vs,e1,r⟩:=h;show kε
 | exc C=>show e.trans h
 | fz o l l2=>show#[e.trans h.1,h.2.ts t]
def gF (K:iD)(M:Mp)(H:Hp):Prop:= ∀a o,M a=Ą ->cω
def gF.fresh (h:ŉ)(hp:ņ):ň:=by
 cases e:M p with
 | none=>rfl
 | some o=>let⟨u,hu⟩:=(h p o e).some;rw[hp] at hu;cases hu
theorem gF.new (h:ŉ)(hp:ņ):gF K M (cR H p u):=λa o e=>by have:=h a o e;let⟨w,hw⟩:=this.some;show this.mv Ϧ (bL (dM hw hp))
theorem CP (h:cŞ)(hn: ∀xs,o≠ aϋ)(hf: ∀b xs,o≠ .pK b cÒ):gΔ:=λb xs r=>by
 have nb:b≠a:=λe=>by subst e;obtain r | ⟨w,r⟩:=r;rw[h] at r;cases r;show hn _ rfl;rw[h] at r;cases r;show hf _ _ rfl
 unfold Rd;rw[bL nb];show r
theorem gF.put (h:ŉ)(t:gΔ)(new:MR K cΑ a o):gF K (um M a o) cΑ:=λb x e=>by by_cases hb:b=a;subst hb;rw[av] at e;cases e;show new;rw[aE hb] at e;show(h b x e).mv t (aÐ)
theorem gF.om (h:ŉ)(hp:ņ)(r:Ż):gF K hώ (cR H p cĄ):=h.put Ϧ #[vs,ce,r.ts Ϧ]
theorem qf (h:iĊ):gΔ:=CP h iĄ λ_ _ z=>nomatch z
theorem oK (h:hϏ):gΔ:=CP h iĄ λ_ _ z=>nomatch z
theorem RG (h:H a=some (.ins C d xs)):gΔ:=CP h iĄ λ_ _ z=>nomatch z
theorem gF.putL (h:ŉ)(e:iĊ)(r:Ż):gF K (um M a (aļ)) (cR H a cĄ):=h.put (qf e) #[vs,ce,r.ts (qf e)]
theorem gF.putD (h:ŉ)(e:hϏ)(r:ż):gF K (um M a (.dK l)) (cR H a (.dK vs)):=h.put ał #[vs,ce,gð]
def E3 (K:iD)(H:Hp)(ρ:dj)(σ:St):Prop:=ρ.length=σ.length /\ ∀ (i:Nat) x,jύ -> ∃v,jſ /\ Ű
theorem E3.ts (t:ħ)(h:eŌ):E3 K H' ρ σ:=#[h.1,λi x e=>let ⟨v,a,r⟩:=h.2 i x e;#[v,a,r.ts t]]
structure Ok (K:PySem.W.Frag)(ρ:dj)(M:Mp)(σ:St)(H:Hp):Prop where
 env:eŌ
 hp:ŉ
theorem Ok.mv (o:ώ)(t:ħ)(m:ű):Ok K ρ M' σ H':=#[o.env.ts t,m]
def E3.set (h:eŌ)(i:Nat)(r:Ű):E3 K H (hϐ) (hε):=by exact mà;rw[List.getElem?_set] at e ⊢;split at e;rename_i hj;rw[am hj];split at e;rename_i gu;rw[am (by rw[<- h.1];show gu)];cases e;show#[v,rfl,r];cases e;rename_i hj;rw[aj hj];show h.2 j y e
section
variable (K:iD)
class IE (t:TE) (w:outParam WE):Prop where
 imp: ∀ (ρ:dj) (M:Mp) (σ:St) (H:Hp) (q:WK) (Q:VK),ώ ->bŀ ->pŶ ->bĒ
class IT (t:TT) (w:outParam WT):Prop where
 imp: ∀ (ρ:dj) (M:Mp) (σ:St) (H:Hp) (q:hď) (Q:hî),qñ
class IA (t:TA) (w:outParam WA):Prop where
 imp: ∀ (ρ:dj) (M:Mp) (σ:St) (H:Hp) (q:aŁ ->Ţ) (Q:aĔ ->ŝ),ώ ->bŀ ->(∀x M' v H',q x M' ->ħ ->ű ->cW K H' x v ->aĜ) ->bĒ
class IG (t:TG) (w:outParam WG):Prop where
 imp: ∀ (x:W) (v:V) (ρ:dj) (M:Mp) (σ:St) (H:Hp) (q:ύ) (Q:Ψ),ώ ->Ű ->qē
class IGs (t:LW) (w:outParam OL):Prop where
 imp: ∀ (x:aŁ) (v:aĔ) (ρ:dj) (M:Mp) (σ:St) (H:Hp) (q:ύ) (Q:Ψ),ώ ->cW K H x v ->qē
structure ki (H:Hp)(D':fG)(D:mw):Prop where
 nx: ∀ρ' M' σ' H',D'.nx ρ' M' ->ħ ->iį ->dó
 rt: ∀x M' v H',D'.rt x M' ->ħ ->ű ->dŌ ->D.rt v H'
 bk: ∀ρ' M' σ' H',D'.bk ρ' M' ->ħ ->iį ->dô
 ct: ∀ρ' M' σ' H',D'.ct ρ' M' ->ħ ->iį ->dõ
class IS (t:TS) (w:outParam WS):Prop where
 imp: ∀ (ρ:dj) (M:Mp) (σ:St) (H:Hp) (D':fG) (D:mw),ώ ->w D' ρ M ->dō ->bē
class IR (r:R2) (w:outParam Gr):Prop where
 imp: ∀ (x y:W) (v u:V) (M:Mp) (H:Hp) (q:WK) (Q:VK),ŉ ->Ű ->cΒ ->w x y M q ->pŶ ->r v u H Q
class IU (r:iď) (w:outParam (iĬ)):Prop where
 imp: ∀ (x:W) (v:V) (M:Mp) (H:Hp) (q:WK) (Q:VK),ŉ ->Ű ->qæ
class IC (r:aĔ ->fϱ) (w:outParam Cv):Prop where
 imp: ∀ (x:aŁ) (v:aĔ) (M:Mp) (H:Hp) (q:WK) (Q:VK),ŉ ->cW K H x v ->qæ
universe e
theorem ki.mv (e:dō)(t:ħ):ki K H' D' D:=#[λa b c d h s=>e.nx a b c d h dŎ,λa b c d h s=>e.rt a b c d h dŎ,λa b c d h s=>e.bk a b c d h dŎ,λa b c d h s=>e.ct a b c d h dŎ]
universe WL
namespace WL
open PySem L2
section
variable {K:iD}
def iq (i:Nat):WE:=λρ M q=>match ρ[i]? with
 | some bĿ=>æ
 | _=>False
def Rq (h:iq i ρ M q): ∃x,jύ /\ æ:=by unfold iq at h;split at h;rename_i x e;show#[x,e,h];show h.elim
instance {i:Nat}:IE K (Ml i) (iq i) where
 imp:=λρ M σ H q Q o h k=>let ⟨x,e,h⟩:=Rq h;let ⟨v,e',r⟩:=o.env.2 i x e;#[v,e',k x M v H h Ž o.hp r]
def wC (x:W):WE:=λ_ M q=>æ
instance {v:V}:IE K (tC v) (wC (.v v)) where
 imp:=λρ M σ H q Q o h k=>k (.v v) M v H h Ž o.hp WR.v
def wOp (r:Gr)(a b:WE):WE:=λρ M q=>oÞ
instance {r:R2}{w:Gr}{ta tb:TE}{a b:WE} [ir:IR K r w] [ia:IE K ta a] [ib:IE K tb b]:IE K eĠ (wOp w a b) where
 imp:=λρ M σ H q Q o h k=>ia.imp ρ M σ H _ _ o h λx M1 v H1 h1 t1 m1 r1=>ib.imp ρ M1 σ H1 _ _ ω h1 λy M2 u H2 h2 t2 m2 r2=>ir.imp x y v u M2 H2 _ _ m2 cΓ r2 h2 pΙ
def wUn (r:iĬ)(a:WE):WE:=λρ M q=>kζ
instance {r:iď}{w:iĬ}{ta:TE}{a:WE} [ir:IU K r w] [ia:IE K ta a]:IE K (tUn r ta) (wUn w a) where
 imp:=λρ M σ H q Q o h k=>ia.imp ρ M σ H _ _ o h λx M1 v H1 h1 t1 m1 r1=>ir.imp x v M1 H1 _ _ m1 r1 h1 λz M3 v3 H3 h3 t3 m3 r3=>k z M3 v3 H3 h3 (t1.trans t3) m3 r3
def wI (C:hö)(g:fč):Gr:=λx y M q=> ∃i j,aŃ /\ y=wi j /\ C i j /\ hĒ
def wI0 (g:fč):Gr:=λx y M q=>c7 λi j=>dU (aŃ) (y=wi j) (hĒ)
def wU (g:aϔ):iĬ:=λx M q=> ∃i,aŃ /\ gñ
instance {C:hö}{g:fč}:IR K (rI C g) (wI C g) where
 imp:=by rintro x y v u M H q Q m r1 r2 ⟨i,j,rfl,rfl,c,h⟩ k;show#[i,j,r1.eq,r2.eq,c,mŏ]
instance {g:fč}:IR K (MB g) (wI0 g) where
 imp:=by rintro x y v u M H q Q m r1 r2 ⟨i,j,rfl,rfl,h⟩ k;show#[i,j,r1.eq,r2.eq,mŏ]
instance {g:aϔ}:IU K (rU g) (wU g) where
 imp:=by rintro x v M H q Q m r1 ⟨i,rfl,h⟩ k;show#[i,r1.eq,mŏ]
def wEq:Gr:=λx y M q=>c7 λa b=>gy (x= .v a) (y= .v b) fı (q (wb (eý)) M)
def wNe:Gr:=λx y M q=>c7 λa b=>gy (x= .v a) (y= .v b) fı (q (wb (! eý)) M)
instance:IR K rEq wEq where
 imp:=by rintro x y v u M H q Q m r1 r2 ⟨i,j,rfl,rfl,c,h⟩ k;cases r1.eq;cases r2.eq;show#[c,mŏ]
instance:IR K rNe wNe where
 imp:=by rintro x y v u M H q Q m r1 r2 ⟨i,j,rfl,rfl,c,h⟩ k;cases r1.eq;cases r2.eq;show#[c,mŏ]
def GW (a:WE):WT:=λρ M q=>a ρ M λx M1=> ∃k,x=wb k /\ q k M1
instance {t:TE}{a:WE} [ia:Ŋ]:IT K (Pl t) (GW a) where
 imp:=qό
instance {t:TE}{a:WE} [ia:Ŋ]:IT K (tB t) (GW a) where
 imp:=qό
def VO (a b:WT):WT:=λρ M q=>a ρ M λc M1=>if aĞ then cą else q false M1
def wOr (a b:WT):WT:=λρ M q=>a ρ M λc M1=>if aĞ then q true M1 else cą
def VD (a:WT):WT:=λρ M q=>lÔ
instance {t u:TT}{a b:WT} [ia:bŁ] [ib:IT K u b]:IT K (Wb t u) (VO a b) where
 imp:=λρ M σ H q Q o h k=>ia.imp ρ M σ H _ _ o h λc M1 H1 h1 t1 m1=>by
  cases c with
  | true=>simp![ci] at h1 ⊢;show qí
  | false=>simp![aD,bB] at h1 ⊢;show iı
instance {t u:TT}{a b:WT} [ia:bŁ] [ib:IT K u b]:IT K (tOr t u) (wOr a b) where
 imp:=λρ M σ H q Q o h k=>ia.imp ρ M σ H _ _ o h λc M1 H1 h1 t1 m1=>by
  cases c with
  | false=>simp![aD,bB] at h1 ⊢;show qí
  | true=>simp![ci] at h1 ⊢;show iı
instance {t:TT}{a:WT} [ia:bŁ]:IT K (V8 t) (VD a) where
 imp:=λρ M σ H q Q o h k=>ia.imp ρ M σ H _ _ o h λc M1 H1 h1 t1 m1=>iı
def Pd (a b:WE):WE:=λρ M q=>a ρ M λx M1=> ∃c,x=wb c /\ if aĞ then cą else q (bł) M1
def VB (a b:WE):WE:=λρ M q=>a ρ M λx M1=> ∃c,x=wb c /\ if aĞ then q (aϥ) M1 else cą
def O7 (a:WE):WE:=λρ M q=>a ρ M λx M1=> ∃c,x=wb c /\ gò
instance {t u:TE}{a b:WE} [ia:Ŋ] [ib:bŃ]:IE K (Py t u) (Pd a b) where
 imp:=λρ M σ H q Q o h k=>ia.imp ρ M σ H _ _ o h λx M1 v H1 eō t1 m1 r1=>by
  subst e;exact fĳ;cases c with
  | true=>simp![ci] at h1 ⊢;show qħ
  | false=>simp![aD,bB] at h1 ⊢;show lĥ
instance {t u:TE}{a b:WE} [ia:Ŋ] [ib:bŃ]:IE K (V6 t u) (VB a b) where
 imp:=λρ M σ H q Q o h k=>ia.imp ρ M σ H _ _ o h λx M1 v H1 eō t1 m1 r1=>by
  subst e;exact fĳ;cases c with
  | false=>simp![aD,bB] at h1 ⊢;show qħ
  | true=>simp![ci] at h1 ⊢;show lĥ
instance {t:TE}{a:WE} [ia:Ŋ]:IE K (Po t) (O7 a) where
 imp:=λρ M σ H q Q o h k=>ia.imp ρ M σ H _ _ o h (by rintro x M1 v H1 ⟨c,e,h1⟩ t1 m1 r1;exact by subst e;show#[c,r1.eq,lĥ])
def wIf (c:WT)(a b:WE):WE:=λρ M q=>c ρ M λc M1=>if aĞ then a ρ M1 q else cą
instance {tc:TT}{t u:TE}{c:WT}{a b:WE} [ic:cĆ] [ia:Ŋ] [ib:bŃ]:IE K (tIf tc t u) (wIf c a b) where
 imp:=λρ M σ H q Q o h k=>ic.imp ρ M σ H _ _ o h λc M1 H1 h1 t1 m1=>by
  cases c with
  | true=>simp![ci] at h1 ⊢;show ia.imp ρ M1 σ H1 _ _ ω h1 pĥ
  | false=>simp![aD,bB] at h1 ⊢;show qħ
def VE:WA:=λ_ M q=>q [] M
def Pa (a:WE)(r:WA):WA:=λρ M q=>oĽ
instance:IA K Hk VE where
 imp:=λρ M σ H q Q o h k=>k [] M [] H h Ž o.hp cW.nil
instance {t:TE}{u:TA}{a:WE}{b:WA} [ia:Ŋ] [ib:bń]:IA K (Hv t u) (Pa a b) where
 imp:=λρ M σ H q Q o h k=>ia.imp ρ M σ H _ _ o h λx M1 v H1 h1 t1 m1 r1=>ib.imp ρ M1 σ H1 _ _ ω h1 λy M2 u H2 h2 t2 m2 r2=>k _ M2 _ H2 h2 fĲ m2 (cW.cons cΓ r2)
def Vv (a:WA):WE:=λρ M q=>a ρ M λxs M1=>ϧ /\ q cÒ M1
def VF (a:WA):WE:=λρ M q=>a ρ M λxs M1=>ϧ /\ ∀p,ţ ->má
instance {t:TA}{a:WA} [ia:ŋ]:IE K (V3 t) (Vv a) where
 imp:=λρ M σ H q Q o h k=>ia.imp ρ M σ H _ _ o h (by rintro x M1 v H1 ⟨hl,h1⟩ t1 m1 r1;exact #[by rw[r1.length];show hl,λp hp=>k _ M1 _ _ h1 mę (m1.new hp) (WR.UT cΔ (r1.ts Ϧ))])
instance {t:TA}{a:WA} [ia:ŋ]:IE K (V9 t) (VF a) where
 imp:=λρ M σ H q Q o h k=>ia.imp ρ M σ H _ _ o h (by rintro x M1 v H1 ⟨hl,h1⟩ t1 m1 r1;exact #[by rw[r1.length];show hl,λp hp=>k _ _ _ _ (iĲ) mę (m1.om hp r1) WR.v])
def VI:Gr:=λx y M q=>m_ λa l i u=>kg bŅ (y=wi i) iϦ (fĶ) (q u M)
def VH:Gr:=λx y M q=>gL λl i u=>gy (cć) (y=wi i) (fĶ) (q u M)
def cW.lJ (r:Ż)(e:fĶ): ∃v,L2.lJ vs i=ă /\ WR K H u v:=by
 unfold L2.lJ at e ⊢;rw[r.length];cases h:fķ with
 | none=>rw[h] at e;cases e
 | some j=>rw[h] at e;show r.at e
instance:IR K (Sa K) VI where
 imp:=by rintro x y v u M H q Q m r1 r2 ⟨a,l,i,z,rfl,rfl,hl,e,h⟩ k;let⟨vs,hv,r⟩:=Ō;let⟨v',e',r'⟩:=r.lJ e;show#[a,vs,i,v',r1.eq,r2.eq,ō,e',mâ]
instance:IR K (R_ K) VH where
 imp:=by rintro x y v u M H q Q m r1 r2 ⟨l,i,z,rfl,rfl,e,h⟩ k;let⟨a,vs,rfl,hv,r⟩:=r1.tup;let⟨v',e',r'⟩:=r.lJ e;show#[a,vs,i,v',rfl,r2.eq,hv,e',mâ]
def Cg (xs:Ë)(lo hi:Č):Ë:=qû
def cW.cut (lo hi:Č)(r:Ż):cW K H eŎ (Ai vs lo hi):=by unfold Cg Ai;rw[r.length];show(r.drop _).take _
universe e
abbrev WO:=dj ->Mp ->(Č ->Ţ) ->Prop
class IO (K:PySem.W.Frag) (t:TO) (w:outParam WO):Prop where
 imp: ∀ (ρ:dj) (M:Mp) (σ:St) (H:Hp) (q:cΕ ->Ţ) (Q:cΕ ->ŝ),qñ
abbrev Y8:=W ->Č ->Č ->gí
class ISl (K:PySem.W.Frag) (r:V ->cΕ ->cΕ ->fϱ) (w:outParam Y8):Prop where
 imp: ∀ (x:W) (v:V) (lo hi:cΕ) (M:Mp) (H:Hp) (q:WK) (Q:VK),ŉ ->Ű ->w x lo hi M q ->pŶ ->r v lo hi H Q
section
variable {K:iD}
def CM:WO:=λ_ M q=>q none M
def O6 (a:WE):WO:=λρ M q=>a ρ M λx M1=> ∃i,aŃ /\ fĸ
instance:IO K CZ CM where
 imp:=oΞ
instance {t:TE}{a:WE} [ia:Ŋ]:IO K (Pn t) (O6 a) where
 imp:=λρ M σ H q Q o h k=>ia.imp ρ M σ H _ _ o h (by rintro x M1 v H1 ⟨i,e,h1⟩ t1 m1 r1;exact by subst e;show#[i,r1.eq,iı])
def wSl (r:Y8)(a:WE)(lo hi:WO):WE:=λρ M q=>pļ
instance {r:nĿ}{w:Y8}{t:TE}{tl th:TO}{a:WE}{lo hi:WO} [ir:ISl K r w] [ia:Ŋ] [il:IO K tl lo] [ih:IO K th hi]:IE K (tSl r t tl th) (wSl w a lo hi) where
 imp:=λρ M σ H q Q o h k=>ia.imp ρ M σ H _ _ o h λx M1 v H1 h1 t1 m1 r1=>il.imp ρ M1 σ H1 _ _ ω h1 λl M2 H2 h2 t2 m2=>ih.imp ρ M2 σ H2 _ _ kθ h2 λu M3 H3 h3 t3 m3=>ir.imp x v l u M3 H3 _ _ m3 jώ h3 λy M4 v4 H4 h4 t4 m4 r4=>k y M4 v4 H4 h4 (mŐ t4) m4 r4
def Vx:Y8:=λx lo hi M q=>c7 λa l=>dU bŅ iϦ (∀p,ň ->nŴ)
instance:ISl K (WD K) Vx where
 imp:=by rintro x v lo hi M H q Q m r1 ⟨a,l,rfl,hl,h⟩ k;let⟨vs,hv,r⟩:=Ō;show#[a,vs,r1.eq,ō,λp hp=>k _ _ _ _ iĳ Ϧ (m.om hp (r.cut lo hi)) WR.v]
def wCB (r:Cv)(a:WA):WE:=λρ M q=>lĦ
instance {r:Ϫ}{w:Cv}{t:TA}{a:WA} [ir:IC K r w] [ia:ŋ]:IE K (tCB r t) (wCB w a) where
 imp:=λρ M σ H q Q o h k=>ia.imp ρ M σ H _ _ o h λx M1 v H1 h1 t1 m1 r1=>ir.imp x v M1 H1 _ _ m1 r1 h1 pĽ
abbrev ik:=jό
def iG (K:iD)(p:ik):Sp:=λvs H Q _=>gL λ(xs:Ë) (M:Mp) (q:WK)=>gy (eŐ) (ŉ) (p xs M q) pŶ
def Pc (p:ik)(a:WA):WE:=λρ M q=>a ρ M λxs M1=>p xs M1 q
instance {p:ik}{E:XK}{t:TA}{a:WA} [ia:ŋ]:IE K (qG bņ [] E t) (Pc p a) where
 imp:=λρ M σ H q Q o h k=>ia.imp ρ M σ H _ _ o h λx M1 v H1 h1 t1 m1 r1=>#[x,M1,q,by rw[List.append_nil];show r1,m1,h1,pĽ]
def okW (F:iϙ)(S:gξ)(len: oÃ)(kK: ∀ (cdv:eX) (A:Around) (outer:ć) (s:eY) (H:Hp) (E:XK),pΦ ->c7 λt w'=>dU (pΕ) (cĈ) (∀vs M q,bŇ ->w' {nx:=λ_ M'=>aϦ,rt:=q} (pæ) M)): oā:=by
 exact At.ok F S ((by rintro vs H Q E ⟨xs,M,q,r,m,h,_⟩;exact by rw[r.length];show len xs M q h)) nđ;let⟨t,w',h1,h2,h3⟩:=kι;let⟨xs,M,q,r,m,h,k'⟩:=h;exact#[t,h1,h2.imp _ M _ H _ _ kμ fĹ #[λρ' M' σ' H' h ts o=>k' _ M' _ H' h ts o.hp WR.v,λx M' v H' h ts m' r'=>k' x M' v H' h ts m' r',iϧ,iϧ]];have:=r.length;simp[L2.start,this];have hl:=r.length;unfold L2.start;by_cases hi:dĠ;rw[bĬ,aF] at e;cases ex:aý with
 | none=>rw[ex] at e;cases e
 | some y=>rw[ex] at e;cases e;let⟨v,hv,rv⟩:=r.at ex;exact#[v,?_,rv];rw[qŚ,aF,hv];rfl
 rw[bī,dX] at e;split at e<;>cases e
def WF (K:iD):Ϫ:=λxs H Q=>c7 λp ys=>dU (eĬ) mã kē
theorem gR:f' X hĂ (WF X.K):=yo
def VG:Cv:=λxs M q=>(c7 λa l=>dU (cΖ) iϦ (hϒ)) \/ ∃l,eŒ /\ hϒ
def cW.one (h:cW K H [x] vs): ∃v,vs= [v] /\ Ű:=by simp![cW] at h;let⟨v,t,rfl,h1,rfl⟩:=h;show dŁ
def cW.two (h:cW K H aÌ vs):c7 λv u=>dU (vs= [v,u]) (Ű) (cΒ):=by simp![cW] at h;let⟨v,t,rfl,h1,u,t',rfl,h2,rfl⟩:=h;show#[v,u,rfl,h1,h2]
instance:IC K (WF K) VG where
 imp :=by
  rintro xs v M H q Q m r1 h k;rcases h with⟨a,l,rfl,hl,h⟩ | ⟨l,rfl,h⟩
  let⟨v,rfl,r⟩:=r1.one;cases r.eq;let⟨vs,hv,rr⟩:=Ō;exact#[a,vs,rfl, .inl (ō),mä];rw[rr.length];show WR.v;let⟨v,rfl,r⟩:=r1.one;let⟨a,vs,rfl,hv,rr⟩:=r.tup;exact#[a,vs,rfl, .inr hv,mä];rw[rr.length];show WR.v
def WU:Ϫ:=pŪ
theorem gS:f' X hø WU:=KI
def VP:Cv:=λxs M q=> ∃i,xs= [wi i] /\ mϟ
instance:IC K WU VP where
 imp:=by rintro xs v M H q Q m r1 ⟨i,rfl,h⟩ k;let⟨v,rfl,r⟩:=r1.one;cases r.eq;show nϘ
def Dm (K:iD):Ϫ:=λxs H Q=>c7 λp ys=>dU (eĬ) mã oŲ
theorem jL:f' X ϋ (Dm X.K):=yn
def xf:Cv:=λxs M q=> ∃l,pû /\ ∀p,ň ->q Đ hώ
instance:IC K (Dm K) xf where
 imp :=by
  rintro xs v M H q Q m r1 ⟨l,hx,h⟩ k;rcases hx with⟨a,rfl,hl⟩ | rfl
  let⟨v,rfl,r⟩:=r1.one;cases r.eq;let⟨vs,hv,rr⟩:=Ō;show#[a,vs,rfl, .inl (ō),pΧ];let⟨v,rfl,r⟩:=r1.one;let⟨a,vs,rfl,hv,rr⟩:=r.tup;show#[a,vs,rfl, .inr hv,pΧ]
def zi (K:iD):Ϫ:=λxs H Q=>c7 λp ys=>eĬ /\ ((dő /\ oŌ) \/ (dŒ /\ Q ń H))
theorem iR:f' X ϙ (zi X.K):=vk
def yK:Cv:=λxs M q=> ∃l,pû /\ q bĸ M
instance:IC K (zi K) yK where
 imp :=by
  rintro xs v M H q Q m r1 ⟨l,hx,h⟩ k;rcases hx with⟨a,rfl,hl⟩ | rfl
  let⟨v,rfl,r⟩:=r1.one;cases r.eq;let⟨vs,hv,rr⟩:=Ō;show#[a,vs,rfl, .inl #[ō,λp hp=>k _ M _ _ h Ϧ (bň) (WR.UT cΔ (rr.ts Ϧ))]];let⟨v,rfl,r⟩:=r1.one;let⟨a,vs,rfl,hv,rr⟩:=r.tup;show#[a,vs,rfl, .inr #[hv,k _ M _ H h Ž m (WR.UT hv rr)]]
theorem cW.ints {H:Hp}: ∀ {ns:ā} {vs:Ä},cW K H dœ vs ->vs=eĶ
 | [],vs,h=>by simpa only[List.map_nil,cW] using h
 | n::r,vs,h=>by simp![aY,cW] at h;let⟨v,t,rfl,h1,h2⟩:=h;rw[cW.ints h2,h1.eq];rfl
theorem cW.ofInts {H:Hp}: ∀ (ns:ā),cW K H dœ gÒ
 | []=>cW.nil
 | n::r=>cW.cons WR.v (cW.ofInts r)
universe e
section
variable {K:iD}
abbrev WM:=W ->jό
class IM (K:PySem.W.Frag) (r:V ->aĔ ->fϱ) (w:outParam WM):Prop where
 imp: ∀ (x:W) (v:V) (ys:aŁ) (us:aĔ) (M:Mp) (H:Hp) (q:WK) (Q:VK),ŉ ->Ű ->cW K H ys us ->w x ys M q ->pŶ ->r v us H Q
def IsL (M:Mp)(x:W):Prop:=c7 λa l=>x=wr a /\ hϑ
def IsL.ty (m:ŉ)(r:Ű)(h:IsL M x):tyV K ÿ v H:=by let⟨a,l,rfl,hl⟩:=h;cases r.eq;let⟨vs,hv,_⟩:=Ō;show .inl #[rfl,vs,ō]
def wBM (r:WM)(a:WE)(b:WA):WE:=λρ M q=>a ρ M λx M1=>IsL M1 x /\ må
instance {r:lě}{w:WM}{t:TE}{u:TA}{a:WE}{b:WA} [ir:IM K r w] [ia:Ŋ] [ib:bń]:IE K (tBM K ÿ r t u) (wBM w a b) where
 imp:=λρ M σ H q Q o h k=>ia.imp ρ M σ H _ _ o h (by rintro x M1 v H1 ⟨hl,h1⟩ t1 m1 r1;exact #[hl.ty m1 r1,ib.imp ρ M1 σ H1 _ _ ω h1 λy M2 u H2 h2 t2 m2 r2=>ir.imp x v y u M2 H2 _ _ m2 cΓ r2 h2 pΙ])
def CN:WM:=λx ys M q=>gL λa l y=>kg bŅ (ys= [y]) iϦ iϨ (q wn (um M a hē))
instance:IM K Dn CN where
 imp:=by rintro x v ys us M H q Q m r1 r2 ⟨a,l,y,rfl,rfl,hl,hn,h⟩ k;cases r1.eq;let⟨u,rfl,r⟩:=r2.one;let⟨vs,hv,rr⟩:=Ō;show#[a,vs,u,rfl,rfl,hv,by rw[rr.length];show hn,k _ _ _ _ h (qf hv) (m.putL hv (rr.snoc r)) WR.v]
def VN:Gr:=λx y M q=>m_ λa b l l'=>nD bŅ (y=wr b) iϦ (M b=some (.lst l')) mő (∀p,ň ->mϠ)
instance:IR K WJ VN where
 imp:=by rintro x y v u M H q Q m r1 r2 ⟨a,b,l,l',rfl,rfl,hl,sy,hn,h⟩ k;cases r1.eq;cases r2.eq;let⟨vs,hv,rr⟩:=Ō;let⟨VQ,va,P8⟩:=m b _ sy;show#[a,b,vs,VQ,rfl,rfl,hv,va,by rw[rr.length,P8.length];show hn,λp hp=>k _ _ _ _ iĳ Ϧ (m.om hp (rr.append P8)) WR.v]
def L8 (M:Mp):W ->dŔ
 | .v .fw,k=>k=false
 | cτ,k=>k=b
 | dŉ,k=>cæ
 | .v (.str y),k=>oĶ
 | .v ł,k=>(∃l,hϑ /\ fĺ) \/ (∃l,M a=eœ /\ fĺ)
 | ď,k=>fĺ
 | _,_=>False
def Hj (K:iD)(ta:TE):TT:=λσ H Q=>ta σ H λx H'=> ∃k,OM K x H' k /\ Q k H'
theorem mG (ha:Ş)(he: pϚ:=by intro _;rfl):PT X a (Hj X.K ta):=Ib ha he
def GV (a:WE):WT:=λρ M q=>a ρ M λx M1=> ∃k,L8 M1 x k /\ q k M1
def cW.isEmpty (r:Ż):jĤ:=by have:=r.length;cases l<;>cases vs<;>simp_all
def KR.isEmpty {vs:ů}(r:ż):jĤ:=by cases r<;>rfl
def L8.ok (m:ŉ)(r:Ű)(h:L8 M x k):OM K v H k:=by
 cases x with
 | tup l=>let⟨a,vs,rfl,hv,rr⟩:=r.tup;show .inr (.inl #[vs,hv,by rw[rr.isEmpty];show h])
 | v y =>
  cases r.eq;cases v with
  | ref a=>
   rcases h with⟨l,hl,e⟩ | ⟨l,hl,e⟩
   let⟨vs,hv,rr⟩:=Ō;show .inl #[vs,ō,by rw[rr.isEmpty];show e];let⟨vs,hv,rr⟩:=Ō;show .inr (.inr #[vs,hv,by rw[rr.isEmpty];show e])
  | _=>first | show h | show(show False from h).elim
instance {t:TE}{a:WE} [ia:Ŋ]:IT K (Hj K t) (GV a) where
 imp:=λρ M σ H q Q o h k=>ia.imp ρ M σ H _ _ o h (by rintro x M1 v H1 ⟨b,hb,h1⟩ t1 m1 r1;exact #[b,hb.ok m1 r1,iİ])
def gl:cF ->W
 | aĐ=>wi k
 | ađ=>ws x
def fI (kvs:Ų)(k:cF):Ê:=oĸ
def kF (kvs:Ų)(k:cF)(v:W):Ų:=qŎ
def wF (kvs:Ų)(k:cF):Ų:=nď
theorem KR.keys {H:Hp}: ∀ {l:Ų} {vs:ů},ż ->fĢ=eŔ
 | _,_, .nil=>rfl
 | _,_, hύ=>by rw[aY,aY,KR.keys t,e]
theorem KR.length {H:Hp}{κ:Type}: ∀ {l:cψ} {vs:ū},ż ->iĭ
 | _,_, .nil=>rfl
 | _,_, cÎ=>by rw[aT,aT,KR.length t]
theorem KR.val {H:Hp}(k:cF): ∀ {l:Ų} {vs:ů},ż ->(fI l k=none /\ iU vs k=none) \/ c7 λx v=>dU (fI l k=û) (iU vs k=ă) (Ű)
 | _,_, .nil=> .inl cų
 | (k1,x)::l,(k2,v)::vs, hύ=>by have e:k1=k2:=e;subst e;unfold fI iU;rw[dw,dw];by_cases hk:k1=k;simp![hk,decide_true];show .inr #[x,v,rfl,rfl,r];simp![hk,decide_false];show KR.val k t
theorem KR.map {H:Hp}{k:cF}{x:W}{v:V}(rx:Ű): ∀ {l:Ų} {vs:ů},ż ->KR K H (l.map (λkv=>if aĸ then(kv.1,x) else kv)) (vs.map nτ)
 | _,_, .nil=> .nil
 | (k1,y)::l,(k2,u)::vs, hύ=>by have e:k1=k2:=e;subst e;rw[aY,aY];exact .cons ?_ (KR.map rx t);by_cases hk:k1=k;rw[aÖ,aÖ];show cĊ;rw[aØ,aØ];show bŉ
theorem KR.append {H:Hp}{k:cF}{x:W}{v:V}(rx:Ű): ∀ {l:Ų} {vs:ů},ż ->KR K H (l++ [aÕ]) (vs++ [(k,v)])
 | _,_, .nil=> jĥ
 | _,_, cÏ=> .cons r (KR.append rx t)
def KR.put (rx:Ű)(r:ż):KR K H (kF l k x) (gV vs k v):=by
 have ek:mĚ=mÙ:=by
  have:=r.keys;have e1:mĚ=(eŔ).any hϓ:=by rw[List.any_map];rfl
  have e2:(mÙ)=(fĢ).any hϓ:=by rw[List.any_map];rfl
  rw[e1,e2,this]
 unfold kF gV;rw[ek];split;show KR.map rx r;show KR.append rx r
theorem KR.drop {H:Hp}{k:cF}: ∀ {l:Ų} {vs:ů},ż ->KR K H (wF l k) (q_ vs k)
 | _,_, .nil=> .nil
 | (k1,y)::l,(k2,u)::vs, hύ=>by have e:k1=k2:=e;subst e;unfold wF q_;rw[List.filter_cons,List.filter_cons];by_cases hk:k1=k;simp![hk,ne_eq,not_true,decide_false,aD,bB];show KR.drop t;simp![ne_eq,hk,not_false_eq_true,decide_true,ci];show .cons bŉ (KR.drop t)
def mS (r:gΕ):v=kV k:=by cases k<;>show r.eq
def O_:WE:=λ_ M q=> ∀p,ň ->q Đ hϔ
instance:IE K Ht O_ where
 imp:=λρ M σ H q Q o h k=>λp hp=>k _ _ _ _ jϏ Ϧ (o.hp.put Ϧ gó) WR.v
def G8 (a b:WE):WE:=λρ M q=>a ρ M λx M1=>b ρ M1 λy M2=>m_ λp kvs k z=>kg bŊ jϐ bŋ (bŌ=aŅ) (q z M2)
instance {t u:TE}{a b:WE} [ia:Ŋ] [ib:bŃ]:IE K (Pw t u) (G8 a b) where
 imp :=λρ M σ H q Q o h k=>ia.imp ρ M σ H _ _ o h λx M1 v H1 h1 t1 m1 r1=>ib.imp ρ M1 σ H1 _ _ ω h1 λy M2 u H2 ⟨p,kvs,ky,z,e1,e2,e3,e4,h2⟩ t2 m2 r2=>by
  subst e1 e3;let⟨ks,hk,rr⟩:=m2 p _ e2;rcases cċ with⟨n1,_⟩ | ⟨x',v',n1,n2,rx⟩
  rw[n1] at e4;cases e4;rw[n1] at e4;cases e4;exact#[p,v',r1.eq,?_,k _ M2 _ H2 h2 fĲ m2 rx];rw[mS r2, <- n2];show rX.k hk
def xh (a b:WE):WE:=λρ M q=>a ρ M λy M1=>b ρ M1 λx M2=>gL λp kvs k=>gy bŊ jϐ bŋ (mŒ)
def KR.some (k:cF)(r:ż):(iU vs k).isSome=(fI l k).isSome:=by rcases r.val k with⟨a,b⟩ | ⟨x,v,a,b,_⟩ <;>rw[a,b] <;>rfl
instance {t u:TE}{a b:WE} [ia:Ŋ] [ib:bŃ]:IE K (C3 t u) (xh a b) where
 imp:=λρ M σ H q Q o h k=>ia.imp ρ M σ H _ _ o h λy M1 v H1 h1 t1 m1 r1=>ib.imp ρ M1 σ H1 _ _ ω h1 λx M2 u H2 ⟨p,kvs,ky,e1,e2,e3,h2⟩ t2 m2 r2=>by subst e1 e3;let⟨ks,hk,rr⟩:=m2 p _ e2;exact#[p,iU ks ky,r2.eq,by rw[mS r1];show rX.k hk,k _ M2 _ H2 h2 fĲ m2 ?_];rw[rr.some];show WR.v
def AN (a b c:WE):WE:=λρ M q=>a ρ M λx M1=> ∃p,dU bŊ mæ (b ρ M1 qĜ)
instance {t u s:TE}{a b c:WE} [ia:Ŋ] [ib:bŃ] [ic:bō]:IE K (Hu t u s) (AN a b c) where
 imp:=λρ M σ H q Q o h k=>ia.imp ρ M σ H _ _ o h λx M1 v H1 lħ t1 m1 r1=>by
  subst e;let⟨ks,hk,rr⟩:=cČ;exact qϔ;rintro z M3 u3 H3 ⟨kvs,ky,e2,e3,h3⟩ t3 m3 r3;subst e3;let⟨ks,hk,rr⟩:=cč;exact#[iU ks ky,by rw[fĻ];show rX.k hk,k _ M3 _ H3 h3 lÓ m3 ?_];rcases cċ with⟨n1,n2⟩ | ⟨x',v',n1,n2,rx⟩
  rw[n1,n2];show r3;rw[n1,n2];show rx
universe e
section
variable {K:iD}
def Pf (i:Nat):WG:=λx ρ M q=>q (hϐ) M
instance {i:Nat}:IG K aĠ (Pf i) where
 imp:=λx v ρ M σ H q Q o r h k=>k _ M _ H h Ž #[o.env.set i r,o.hp]
def RA:OL:=λxs ρ M q=>xs= [] /\ q ρ M
def Pg (a:WG)(b:OL):OL:=λxs ρ M q=>c7 λx r=>xs=x::r /\ mθ
instance:IGs K Oq RA where
 imp:=λx v ρ M σ H q Q o r h k=>by let⟨rfl,h⟩:=h;show#[by simpa only[cW] using r,k _ M _ H h Ž o]
instance {t:TG}{u:LW}{a:WG}{b:OL} [ia:IG K t a] [ib:IGs K u b]:IGs K (wo t u) (Pg a b) where
 imp:=λx v ρ M σ H q Q o r h k=>by let⟨y,rest,rfl,h⟩:=h;simp![cW] at r;let⟨v1,t1,rfl,r1,r2⟩:=r;show#[v1,t1,rfl,ia.imp y v1 ρ M σ H _ _ o r1 h λρ' M' σ' H' h' ts o'=>ib.imp rest t1 ρ' M' σ' H' _ _ o' (r2.ts ts) h' λρ2 M2 σ2 H2 h2 Lj o2=>k ρ2 M2 σ2 H2 h2 (ts.trans Lj) o2]
def VR (n:Nat)(a:OL):WG:=λx ρ M q=> ∃l,dU (cć) (cΗ) eŕ
instance {n:Nat}{t:LW}{a:OL} [ia:IGs K t a]:IG K (Op K n t) (VR n a) where
 imp:=λx v ρ M σ H q Q o r h k=>by let⟨l,rfl,hl,h⟩:=h;let⟨a',vs,rfl,hv,rr⟩:=r.tup;show#[a',vs,rfl,hv,by rw[rr.length];show hl,ia.imp l vs ρ M σ H _ _ o rr h k]
abbrev K1:=W ->W ->W ->Mp ->(Ţ) ->Prop
class Zj (K:PySem.W.Frag) (t:K2) (w:outParam K1):Prop where
 imp: ∀ (x y z:W) (v u r:V) (M:Mp) (H:Hp) (q:Ţ) (Q:ŝ),ŉ ->Ű ->cΒ ->WR K H z r ->w x y z M q ->(∀M' H',q M' ->ħ ->ű ->Q H') ->t v u r H Q
def O5:K1:=λx y z M q=>m_ λa l k j=>kg bŅ (y=wi k) iϦ (uS l.length k=aı) (q (um M a iĴ))
instance:Zj K P_ O5 where
 imp:=by rintro x y z v u r M H q Q m r1 r2 r3 ⟨a,l,i,j,rfl,rfl,hl,e,h⟩ k;let⟨vs,hv,rr⟩:=Ō;show#[a,vs,i,j,r1.eq,r2.eq,hv,by rw[rr.length];show e,k _ _ h (qf hv) (m.putL hv (rr.set j r3))]
def VS (a b:WE)(s:K1):WG:=λx ρ M q=>pë
instance {t u:TE}{s:K2}{a b:WE}{w:K1} [ia:Ŋ] [ib:bŃ] [is:Zj K s w]:IG K (Yx t u s) (VS a b w) where
 imp:=λx v ρ M σ H q Q o r h k=>ia.imp ρ M σ H _ _ o h λy M1 v1 H1 h1 t1 m1 r1=>ib.imp ρ M1 σ H1 _ _ ω h1 λz M2 v2 H2 h2 t2 m2 r2=>is.imp y z x v1 v2 v M2 H2 _ _ m2 cΓ r2 (r.ts fĲ) h2 λM3 H3 h3 t3 m3=>k ρ M3 σ H3 h3 lÓ (o.mv lÓ m3)
def PU:WS:=λD ρ M=>cĎ
instance:IS K Pp PU where
 imp:=λρ M σ H D' D o h e=>e.nx ρ M σ H h Ž o
def Mu (a b:WS):WS:=λD ρ M=>a {D with nx:=b D} ρ M
instance {t u:TS}{a b:WS} [ia:bŎ] [ib:IS K u b]:IS K (RK t u) (Mu a b) where
 imp:=λρ M σ H D' D o h e=>ia.imp ρ M σ H _ _ o h #[λρ' M' σ' H' h' ts o'=>ib.imp ρ' M' σ' H' D' D o' h' (e.mv ts),e.rt,e.bk,e.ct]
def PZ:WS:=λD ρ M=>D.ct ρ M
instance:IS K Px PZ where
 imp:=λρ M σ H D' D o h e=>e.ct ρ M σ H h Ž o
def PV (a:WE):WS:=λD ρ M=>lĨ
instance {t:TE}{a:WE} [ia:Ŋ]:IS K (Pu t) (PV a) where
 imp:=λρ M σ H D' D o h e=>ia.imp ρ M σ H _ _ o h λx M1 v H1 h1 t1 m1 r1=>e.nx ρ M1 σ H1 h1 t1 ω
def Wr (a:WE):WS:=λD ρ M=>dŕ
instance {t:TE}{a:WE} [ia:Ŋ]:IS K (V4 t) (Wr a) where
 imp:=λρ M σ H D' D o h e=>ia.imp ρ M σ H _ _ o h λx M1 v H1 h1 t1 m1 r1=>e.rt x M1 v H1 h1 t1 m1 r1
def PQ:WS:=λD _ M=>D.rt wn M
instance:IS K Pm PQ where
 imp:=λρ M σ H D' D o h e=>e.rt wn M .fw H h Ž o.hp WR.v
def ZX (c:WT)(a b:WS):WS:=λD ρ M=>c ρ M λk M1=>if k=true then a D ρ M1 else b D ρ M1
instance {tc:TT}{t u:TS}{c:WT}{a b:WS} [ic:cĆ] [ia:bŎ] [ib:IS K u b]:IS K dÿ (ZX c a b) where
 imp:=λρ M σ H D' D o h e=>ic.imp ρ M σ H _ _ o h λk M1 H1 h1 t1 m1=>by
  cases k with
  | true=>simp![ci] at h1 ⊢;show ia.imp ρ M1 σ H1 D' D ω h1 (e.mv t1)
  | false=>simp![aD,bB] at h1 ⊢;show ib.imp ρ M1 σ H1 D' D ω h1 (e.mv t1)
def Wy (a:WE)(g:WG):WS:=λD ρ M=>mě
instance {t:TE}{g:TG}{a:WE}{w:WG} [ia:Ŋ] [ig:bŏ]:IS K (E9 t g) (Wy a w) where
 imp:=λρ M σ H D' D o h e=>ia.imp ρ M σ H _ _ o h λx M1 v H1 h1 t1 m1 r1=>ig.imp x v ρ M1 σ H1 _ _ ω r1 h1 λρ2 M2 σ2 H2 h2 t2 o2=>e.nx ρ2 M2 σ2 H2 h2 fĲ o2
def Ws (i j:Nat)(a:WA):WS:=λD ρ M=>a ρ M λxs M1=>c7 λx y=>xs= aÌ /\ oľ
instance {i j:Nat}{t:TA}{a:WA} [ia:ŋ]:IS K (V5 i j t) (Ws i j a) where
 imp:=λρ M σ H D' D o h e=>ia.imp ρ M σ H _ _ o h (by rintro xs M1 v H1 ⟨x,y,ex,h1⟩ t1 m1 r1;exact by subst ex;let⟨v1,v2,rfl,q1,q2⟩:=r1.two;show#[v1,v2,rfl,e.nx _ M1 _ H1 h1 t1 #[((dŖ).set i q1).set j q2,m1]])
def A7 (a b c:WE):WS:=λD ρ M=>c ρ M λz M1=>a ρ M1 λx M2=>b ρ M2 λy M3=>gL λp kvs k=>kg bŊ (iϩ) bŋ jΙ nΕ
instance {t u s:TE}{a b c:WE} [ia:Ŋ] [ib:bŃ] [ic:bō]:IS K (PX t u s) (A7 a b c) where
 imp :=λρ M σ H D' D o h e=>ic.imp ρ M σ H _ _ o h λz M1 v1 H1 h1 t1 m1 r1=>ia.imp ρ M1 σ H1 _ _ ω h1 λx M2 v2 H2 h2 t2 m2 r2=>ib.imp ρ M2 σ H2 _ _ kθ h2 λy M3 v3 H3 ⟨p,kvs,k,e1,e2,e3,hl,h3⟩ t3 m3 r3=>by subst e1 e3;let⟨ks,hk,rr⟩:=cč;have ts:=oK (u:= hĔ) hk;exact#[p,_,r2.eq,?_,e.nx ρ _ σ (cR H3 p (hĔ)) h3 nĩ (o.mv nĩ (m3.putD hk (KR.put jώ rr)))];rw[mS r3];show Lf.k hk (by rw[rr.length];show hl)
def A8 (a b:WE):WS:=λD ρ M=>a ρ M λx M1=>b ρ M1 λy M2=>gL λp kvs k=>kg bŊ jϐ bŋ (hϕ=true) nŇ
instance {t u:TE}{a b:WE} [ia:Ŋ] [ib:bŃ]:IS K (PY t u) (A8 a b) where
 imp :=λρ M σ H D' D o h e=>ia.imp ρ M σ H _ _ o h λx M2 v2 H2 h2 t2 m2 r2=>ib.imp ρ M2 σ H2 _ _ (o.mv t2 m2) h2 (by rintro y M3 v3 H3 ⟨p,kvs,k,e1,e2,e3,hl,h3⟩ t3 m3 r3;exact by subst e1 e3;let⟨ks,hk,rr⟩:=cč;have ts:=oK (u:= .dK (q_ ks k)) hk;show#[p,ks,k,r2.eq,hk,mS r3,by rw[rr.some];show hl,e.nx ρ _ σ _ h3 lÖ (o.mv lÖ (m3.putD hk rr.drop))])
def Gu (K:iD)(H1:Hp)(J:It)(xs:Ë)(keep:Ţ):Prop:=∀i M H,br H1 H ->ŉ ->aņ ->(dŗ ->cŲ) /\ (dĠ ->bě) /\ ∀v H',dĠ ->J.O1 i H v H' ->ħ /\ gF K M H' /\ ∃x,Χ /\ dŌ
class II (K:PySem.W.Frag) (t:TI) (w:outParam WI):Prop where
 imp: ∀ (ρ:dj) (M:Mp) (σ:St) (H:Hp) (q:aŁ ->kδ) (R:fϷ),ώ ->bŀ ->(∀xs keep J M' H',q xs keep M' ->ħ ->ű ->Gu K H' J xs keep ->R J H') ->t σ H R
def Jy (a:WE):WI:=λρ M q=>a ρ M λx M1=>c7 λp l=>dU bŊ (M1 p=fĵ) (q l lť M1)
def Xr (a:WE):WI:=λρ M q=>a ρ M λx M1=> ∃l,cć /\ q l dŘ M1
def gZ (lo:Int)(n:Nat):Ë:=iĵ λ ĩ=>wi (lo+ĥ)
def Jx (a:WA):WI:=λρ M q=>a ρ M λxs M1=> ∃j:Int,gy (xs= [wi j]) (fČ) (j<aģ) nÖ
def FI:Gu K H1 (Itl K p) l lť:=by intro i M H ts m hk;let⟨vs,hv,rr⟩:=m p _ hk;have hl:=rr.length;exact#[λh=>#[vs,ō, qî],nŵ,hĕ];let⟨rfl,y⟩:=y;have:=y vs (ō);let⟨d,hd,r⟩:=rr.back this;show jϑ
def JA (hv:eŗ)(rr:eŘ):Gu K H1 (Itt K p) l dŘ:=by intro i M H ts m _;have va:=eř;have P8:=rr.ts ts;have hl:=P8.length;exact#[λh=>#[vs,va, qî],mι,hĕ];let⟨rfl,y⟩:=y;have:=y vs va;let⟨d,hd,r⟩:=P8.back this;show jϑ
def JB:Gu K H1 (Itr lo n) (gZ lo n) dŘ:=by
 intro i M H ts m _;have hl:iĶ:=by simp[gZ]
 rw[hl];exact oŢ;let⟨rfl,y⟩:=y;exact#[cď,m,wi aą,?_,by rw[y];show WR.v];simp[gZ,hi]
instance {t:TE}{a:WE} [ia:Ŋ]:II K (JF K t) (Jy a) where
 imp:=λρ M σ H q R o h k=>ia.imp ρ M σ H _ _ o h (by rintro x M1 v H1 ⟨p,l,e,hp,h1⟩ t1 m1 r1;exact by subst e;let⟨vs,hv,rr⟩:=cČ;show#[p,r1.eq,#[vs,ō],k l _ _ M1 H1 h1 t1 m1 FI])
instance {t:TE}{a:WE} [ia:Ŋ]:II K (Xw K t) (Xr a) where
 imp:=λρ M σ H q R o h k=>ia.imp ρ M σ H _ _ o h (by rintro x M1 v H1 ⟨l,e,h1⟩ t1 m1 r1;exact by subst e;let⟨p,vs,rfl,hv,rr⟩:=r1.tup;show#[p,rfl,#[vs,hv],k l _ _ M1 H1 h1 t1 m1 (JA hv rr)])
instance {t:TA}{a:WA} [ia:ŋ]:II K (QA t) (Jx a) where
 imp:=λρ M σ H q R o h k=>ia.imp ρ M σ H _ _ o h (by rintro xs M1 v H1 ⟨j,e,h0,h1,h2⟩ t1 m1 r1;exact by subst e;let⟨v,rfl,r⟩:=r1.one;cases r.eq;show#[j,rfl,h0,h1,k _ _ _ M1 H1 h2 t1 m1 JB])
def Wu (it:WI)(g:WG)(b:WS):WS:=λD ρ M=>it ρ M λxs keep M1=> rÐ
instance {ti:TI}{g:TG}{t:TS}{it:WI}{w:WG}{b:WS} [ii:cΙ] [ig:bŏ] [ib:IS K t b]:IS K (Wa ti g t) (Wu it w b) where
 imp :=λρ M σ H D' D o h e=>ii.imp ρ M σ H _ _ o h λxs keep J M1 H1 h1 t1 m1 ok=>by let⟨I,h0,hk,hs,hd⟩:=h1;exact#[λi m σ' H'=>gΖ /\ eŚ /\ c7 λρ' M'=>dU (I i ρ' M') (br H1 H') (iį),#[_,rfl,dm _,ρ,M1,h0,cď,o.mv t1 m1],?_];rintro i m σ' H' ⟨rfl,hi,ρ',M',hI,ts,o'⟩;let⟨k1,k2,k3⟩:=ok i M' H' ts o'.hp (hk i ρ' M' hi hI);by_cases gu:dĠ;exact .inr #[k2 gu,λσ2 H2=>c7 λρ2 M2=>dU (I ß ρ2 M2) (bļ) jħ,(by rintro σ2 H2 ⟨ρ2,M2,a,b,c⟩;exact #[xs.length - ß, ∅,rfl,gu,ρ2,M2,a,b,c]),fļ];let⟨ty,my,x,hx,r⟩:=eś;replace ts:=dř;exact ig.imp x v ρ' M' σ' H2 _ _ (o'.mv ty my) r (hs i x ρ' M' hx hI) λρ3 M3 σ3 H3 h3 t3 o3=>ib.imp ρ3 M3 σ3 H3 _ _ o3 h3 #[oΟ,λa b c d h t=>e.rt a b c d h nĒ,λa b c d h t=>e.nx a b c d h nĒ,oΟ];have e':dŚ:= qĀ;subst e';show .inl #[k1 rfl,e.nx ρ' M' σ' H' (hd ρ' M' hI) fĽ o']
def A6 (c:WT)(b:WS):WS:=λD ρ M=> ∃I:jĦ,(∃m,bŒ) /\ ∀m ρ M,bŒ ->c ρ M λk M1=>if k=true then b {D with nx:=nŉ,ct:=nŉ,bk:=D.nx} ρ M1 else cΘ
instance {tc:TT}{t:TS}{c:WT}{b:WS} [ic:cĆ] [ib:IS K t b]:IS K (Hi tc t) (A6 c b) where
 imp :=λρ M σ H D' D o ⟨I,⟨m,h0⟩,hs⟩ e=>by
  exact#[λm σ' H'=>c7 λρ' M'=>dU (I m ρ' M') (ħ) (iį),#[m,ρ,M,h0,cď,o],?_];rintro m σ' H' ⟨ρ',M',hI,ts,o'⟩;exact ic.imp ρ' M' σ' H' _ _ o' (hs m ρ' M' hI) λk M1 H1 h1 t1 m1=> ?_;cases k with
  | true=>simp![ci] at h1 ⊢;exact#[λσ2 H2=> ∃m',m'<m /\ c7 λρ2 M2=>dU (I m' ρ2 M2) (br H H2) jħ,λσ2 H2 h=>h,ib.imp ρ' M1 σ' H1 _ _ fľ h1 #[qÇ,λa b c d h t=>e.rt a b c d h (jϓ),λa b c d h t=>e.nx a b c d h (jϓ),qÇ]]
  | false=>simp![aD,bB] at h1 ⊢;show e.nx ρ' M1 σ' H1 h1 (dŜ) fľ
def nC (own:Nat)(fr:Ď)(ρ:dj):dj:=kŽ++fr.map λj=>(ρ[j]?).join
def E3.Vi (own:Nat)(fr:Ď)(h:eŌ):E3 K H gô gÜ:=by
 unfold nC lA;exact#[by simp,eő];by_cases hi:i<own;rw[bĬ,dX,am hi] at e;cases e;rw [bī,List.length_replicate,aF] at e;rw[bī,List.length_replicate,aF];cases ej:fr[i - own]? with
 | none=>rw[ej] at e;cases e
 | some j=>
  rw[ej] at e;simp![Option.map_some,Option.some.injEq] at e ⊢;cases er:ρ[j]? with
  | none=>rw[er] at e;cases e
  | some z=>rw[er] at e;simp![Option.join_some] at e;subst e;let⟨v,ev,r⟩:=h.2 j x er;show#[v,by rw[ev];rfl,r]
def Pb (it:WI)(own:Nat)(fr:Ď)(g:WG)(c:WT)(el:WE):WE:=λρ M q=>it ρ M λxs keep M1=>rÜ
instance {ti:TI}{own:Nat}{fr:Ď}{g:TG}{tc:TT}{te:TE}{it:WI}{w:WG}{c:WT}{el:WE} [ii:cΙ] [ig:bŏ] [ic:cĆ] [ie:IE K te el]:IE K (Hw ti own fr g tc te) (Pb it own fr w c el) where
 imp :=λρ M σ H q Q o h k=>ii.imp ρ M σ H _ _ o h λxs keep J M1 H1 h1 t1 m1 ok=>by
  intro p hp;let⟨hz,h1⟩:=h1;let⟨I,h0,hk,hs,hd⟩:=iĲ;have tp:=mœ;exact rÂ;rintro i m vs H' ⟨rfl,hi,ys,M',hI,ts,m',rv,hv⟩;exact#[hv,?_];let⟨kp,hMp,hyl⟩:=hĖ;let⟨k1,k2,k3⟩:=iϫ;by_cases gu:dĠ;exact .inr #[k2 gu,by rw[rv.length];exact qŪ,fļ];let⟨ty,my,x,hx,r⟩:=eś;replace ts:=dř;have oc:oÄ:=oÅ
  exact qΑ;cases b with
  | true=>simp![ci] at h4 ⊢;exact ie.imp ρ3 M4 σ3 H4 _ _ fŀ h4 ?_;rintro z M5 u H5 ⟨h5,h6⟩ t5 m5 r5;let⟨Pe,JM,Mx⟩:=m5 p _ h5;have aaL:=kě;have t6:=qf (u:= .lst (Pe++ [u])) JM;show#[Pe,JM,by rw[Mx.length];exact qŪ,_, ∅,rfl,gu,_,_,h6,(ts.trans aaL).trans t6,m5.putL JM (Mx.snoc r5),(Mx.snoc r5).ts t6,ce]
  | false=>simp![aD,bB] at h4 ⊢;let⟨Pe,JM,Mx⟩:=m4 p _ lØ.1;show#[Pe,_, ∅,rfl,gu,_,_,h4,kĜ,m4,Mx,JM]
  have e':dŚ:= qĀ;subst e';show pň
def Vu:WT:=λ_ M q=>q true M
instance:IT K V2 Vu where
 imp:=oΞ
universe e
section
variable {K:iD}
theorem gF.sub (s:Ĩ)(m:gF K M' H):ŉ:=λa o e=>m a o (s a o e)
def Z8 (F:iϙ)(S:gξ)(len: oÃ)(kK: ∀ (cdv:eX) (A:Around) (outer:ć) (s:eY) (H:Hp) (E:XK),pΦ ->∃t,pΕ /\ ∃w',cĈ /\ ∀vs M q,bŇ ->qϊ): oā:=by
 have h:=okW (K:=K) (P:=P) (w:=w) (mg:=mg) (base:=base) (k:=k) (p:=λvs M q=> ∃q',p vs M q' /\ q=λx M'=> ∃M0,bŔ /\ q' x M0) F S ((by rintro vs M q ⟨q',h,_⟩;exact len vs M q' h)) λcdv A outer s H E hr=>by let⟨t,h1,w',h2,h3⟩:=kι;exact#[t,w',h1,h2,?_];rintro vs M q ⟨q',h,rfl⟩;show h3 vs M q' h
 exact h.imp λvs H Q E ⟨xs,M,q,r,m,hp,hk⟩=>#[xs,M,_,r,m,#[q,hp,rfl],?_]
 rintro x M' v H' ⟨M0,s,hq⟩ ts m' r';show hk x M0 v H' hq ts (m'.sub s) r'
def Gc {xs:Ë}{keep:Ţ}{M1:Mp}{g:WG}{c:WT}{el:WE}{q:WK}(f:W ->Ê)(hz:ϧ)(kJ: jϔ)(hs: ∀ (i:Nat) x,Χ -> ∀ (M:Mp) (N:hė),aϧ ->N (f x) M ->g x gô M λρ2 M2=>c ρ2 M2 λb M3=>if ò then mμ else N none M3)(hq: pĦ): rÜ:=by
 exact#[hz,λp hp=>#[λi ys M=>iϬ /\ ys=kν,gõ,?_,?_,?_]];rintro i ys M hi ⟨rfl,rfl⟩;exact#[eŜ,av,aI (List.length_filterMap_le _ _) ?_];rw[bE];lia;rintro i x ys M hx ⟨rfl,rfl⟩;exact hs i x hx _ (λo M4=>match o with
 | aġ=>M4 p=some mϡ /\ (um M4 p nΖ=um M1 p nΖ /\ kν++ [y]=lϊ)
 | none=>M4=um M1 p mϡ /\ kν=lϊ) aϨ ?_
 have e:fŁ=xs.take i++ [x]:=by rw[bw,hx];rfl
 cases hf:f x with
 | none=>show#[rfl,by rw[e,List.filterMap_append];simp[hf]]
 | some y=>show#[av,qF,by rw[e,List.filterMap_append];simp[hf]]
 rintro ys M ⟨rfl,rfl⟩;rw[bJ];show aϩ
mutual
def GN:W ->fk Dt
 | .v .fw=>some .fw
 | cτ=>some aϑ
 | dŉ=>some bĕ
 | .v bĖ=>some bĖ
 | .v _=>none
 | ď=>(pV l).map .tup
def pV:Ë ->fk (å)
 | []=>some []
 | x::r=>match GN x,pV r with
  | aĀ,some l=>some (d::l)
  | _,_=>none
end
mutual
theorem HR {H:Hp}: ∀ (x:W) (d:Dt) (v:V),GN x=aĀ ->Ű ->dŀ
 | .v y,d,v,e,r=>by cases r.eq;cases y<;>simp![GN,Option.some.injEq,reduceCtorEq] at e<;>subst e<;>simp![Rep]
 | ď,d,v,e,r=>by
  let⟨a,vs,rfl,hv,rr⟩:=r.tup;simp![GN] at e;cases hd:pV l with
  | none=>rw[hd] at e;cases e
  | some ds=>rw[hd] at e;cases e;simp![Rep];show#[a,vs,rfl,hv,xA l ds vs hd rr]
theorem xA {H:Hp}: ∀ (l:Ë) (ds:å) (vs:Ä),eŝ ->Ż ->im K H ds vs
 | [],ds,vs,e,r=>by simp![pV] at e;cases e;simp![cW] at r;simp![im];show r
 | x ::l,ds,vs,e,r=>by
  simp![pV] at e;cases hx:GN x with
  | none=>rw[hx] at e;cases e
  | some d=>
   cases hl:pV l with
   | none=>rw[hx,hl] at e;cases e
   | some ds'=>rw[hx,hl] at e;cases e;simp![cW] at r;let⟨v,t,rfl,r1,r2⟩:=r;simp![im];show#[v,t,rfl,HR x d v hx r1,xA l ds' t hl r2]
end
def DR (M:Mp)(x:W)(d:Dt):Prop:=GN x=aĀ \/ gL λa l ds=>gy bŅ iϦ (eŝ) (d= .lst ds)
def DR.rep (m:ŉ)(r:Ű)(h:bŕ):dŀ:=by obtain h | ⟨a,l,ds,rfl,hl,e,rfl⟩:=h;show HR x d v h r;cases r.eq;let⟨vs,hv,rr⟩:=Ō;simp![Rep];show#[a,vs,rfl,ō,xA l ds vs e rr]
def Rw:Gr:=λx y M q=>c7 λd e=>kg (bŕ) (DR M y e) (dł) (bĺ) (q (wb bĹ) M)
instance:IR K (WH K) Rw where
 imp:=by rintro x y v u M H q Q m r1 r2 ⟨d,e,h1,h2,h3,h4,h⟩ k;show#[d,e,h3,h4,h1.rep m r1,h2.rep m r2,mŏ]
def GX:Cv:=λxs M q=>gL λ(d:fR) (kvs:Ų) dŃ=>kg eŞ (iĸ) mζ jΩ qŕ
instance:IC K zj GX where
 imp:=by rintro xs v M H q Q m r1 ⟨d,kvs,ks,rfl,hd,hk,hl,h⟩ k;let⟨v,rfl,r⟩:=r1.one;cases r.eq;let⟨vs,hv,rr⟩:=m d _ hd;show#[d,vs,ks,rfl,hv,by rw[rr.keys];show hk,hl,qĳ]
def Qb:Ϫ:=qĨ
theorem Gi:f' X Μ Qb:=Gj
def O9:Cv:=λxs M q=>(∃i,xs= [wi i] /\ q (wi i) M) \/ ∃k,xs= [wb k] /\ q (wi jč) M
instance:IC K Qb O9 where
 imp:=by
  rintro xs v M H q Q m r1 h k;rcases h with⟨i,rfl,h⟩ | ⟨b,rfl,h⟩ <;>let⟨v,rfl,r⟩:=r1.one<;>cases r.eq
  show .inl nϘ;show .inr #[b,rfl,mŏ]
universe e
universe WL
namespace WL
open PySem L2
theorem Rh {l:Ý}:lJ (a::l) 0=Ċ:=lg (j:=0) Ŏ
theorem afg {l:Ý}:lJ (a::b::l) 1=aþ:=lg (j:=1) Ŏ
theorem aff {l:Ý}:lJ (a::b::c::l) 2=Ĉ:=lg (j:=2) Ŏ
theorem afe {l:Ý}:lJ (a::b::c::d::l) 3=aĀ:=lg (j:=3) Ŏ
def ae9:uS (n+1+1) 1=some 1:=by unfold uS;rw[am (by exact Lqi [] ø ñ ø ø LqI0 rfl),aĄ];rfl
def ae8:uS (n+1+1+1) 2=some 2:=by unfold uS;rw[am (by exact Lqi [] ø ý ø ø LqI0 rfl),aĄ];rfl
def ae7:uS (n+1+1+1+1) 3=some 3:=by unfold uS;rw[am (by exact Lqi [] ø (.n 3) ø ø LqI0 rfl),aĄ];rfl
def yt {a:α}(h0:0<=i)(h:l[i.toNat]? =Ċ):lJ l i=Ċ:=by have e:((i.toNat:Nat):Int)=i:= ∅;rw[<- e];show lg h
theorem km {P:Ţ}(h:P M): ∃M0,Sm M0 M /\ P M0:=#[M,cĐ,h]
def NB (d:fR)(M M':Mp):Prop:= ∀b,aÞ ->M' b=M b
theorem NB.refl (d:fR)(M:Mp):NB d M M:=cŋ
theorem NB.trans {M M1 M2:Mp}(a:NB d M M1)(b:NB d M1 M2):NB d M M2:=λc n=>(b c n).trans (a c n)
theorem NB.put:NB d M (um M d o):=λb n=>aE n
def Dr (M:Mp)(d l:fR):Prop:=m_ λ dŞ (i c s:Int)=>gy (M d=some (.lst [wr l,wi i,wi c,Ì])) (M l=kξ) (0<=i) (d≠l)
def Dr.put (h:bŖ)(hp:ň):Dr cυ d l:=by let⟨ns,i,c,s,h1,h2,h3,h4⟩:=h;show#[ns,i,c,s,by rw[aE (cT h1 hp)];show h1,by rw[aE (cT h2 hp)];show h2,h3,h4]
def Dr.Sd (h:bŖ)(hd:p≠d)(hl:p≠l):Dr cυ d l:=by let⟨ns,i,c,s,h1,h2,h3,h4⟩:=h;show#[ns,i,c,s,by rw[aE hd.symm];show h1,by rw[aE hl.symm];show h2,h3,h4]
def Dr.ne (h:bŖ)(hp:ň):p≠d /\ p≠l:=by let⟨ns,i,c,s,h1,h2,h3,h4⟩:=h;show#[(cT h1 hp).symm,(cT h2 hp).symm]
def cN (q:ŏ):W:= .tup [wi q.1,aŇ]
def fh (l:fł):W:= .tup cΜ
def pairs_at {l:fł}{i:Nat}(h:cΜ[i]? =û): ∃q,ç =aĹ /\ x=cN q:=by
 rw[aF] at h;cases e:ç with
 | none=>rw[e] at h;cases h
 | some q=>rw[e] at h;cases h;show eş
def uc {l:ā}{i:Nat}(h:kĝ): ∃n,ç =aĺ /\ x=wi n:=by
 rw[aF] at h;cases e:ç with
 | none=>rw[e] at h;cases h
 | some q=>rw[e] at h;cases h;show eş
def tE (h:(gZ lo n)[i]? =û):i<n /\ x=wi aą:=by unfold gZ at h;rw[aF] at h;by_cases hi:i<n;rw[kĞ] at h;cases h;show cđ;rw[lϋ] at h;cases h
def mF:iĶ:=by simp[gZ]
def lstK (o:fk MO)(k:dş):Prop:= ∃l,o=fĵ /\ k l
def k9 (o:fk MO)(k:Ų ->Prop):Prop:= ∃l,o=eœ /\ k l
def xI {α:Type}(o:fk α)(k:α ->Prop):Prop:= ∃a,o=Ċ /\ k a
def gK (C Q:Prop):Prop:=C /\ Q
def iK (b:Bool)(A B:Prop):Prop:=if ò then A else B
def tT (M:Mp)(k:fR ->Prop):Prop:= ∀p,ň ->k p
def Am (p:ik)(xs:Ë)(M:Mp)(q:WK):Prop:=p xs M q
def UX (x:W)(M:Mp)(q:hď):Prop:= ∃k,x=wb k /\ q k M
def gY (x:W)(k:fR ->Prop):Prop:= ∃a,x=wr a /\ k a
def tupK (x:W)(k:dş):Prop:= ∃l,cć /\ k l
def Hc (M:Mp)(x:W)(k:dŔ):Prop:= ∃b,L8 M x b /\ k b
def qw (x:W)(k:cF ->Prop):Prop:= ∃y,x=gl y /\ k y
def YC (xs:Ë)(keep:Ţ)(g:WG)(b:WS)(D:fG)(ρ:dj)(M1:Mp):Prop:= rÐ
def wR (xs:Ë)(keep:Ţ)(own:Nat)(fr:Ď)(g:WG)(c:WT)(el:WE)(ρ:dj)(M1:Mp)(q:WK):Prop:=rÜ
def GU (c:WT)(b:WS)(D:fG)(ρ:dj)(M:Mp):Prop:=fŃ
def abc:lstK (fĵ) k=k l:=by apply propext;symm;(· rintro⟨_,h,k⟩;cases h;show k);(· intro h;show ų)
def aet:k9 (eœ) k=k l:=by apply propext;symm;(· rintro⟨_,h,k⟩;cases h;show k);(· intro h;show ų)
def aa5 {k:α ->Prop}:xI bĿ k=k x:=by apply propext;symm;(· rintro⟨_,h,k⟩;cases h;show k);(· intro h;show ų)
def aeK:gK True Q=Q:=by simp[gK]
def abn:iK true A B=A:=by simp[iK]
def abo:iK false A B=B:=by simp[iK]
def afa:UX (.v (.bl k)) M q=q k M:=by apply propext;symm;(· rintro⟨_,h,k⟩;cases h;show k);(· intro h;show ų)
def aaU:gY fń k=k x:=by apply propext;symm;(· rintro⟨_,h,k⟩;cases h;show k);(· intro h;show ų)
def aaG:tupK (.tup x) k=k x:=by apply propext;symm;(· rintro⟨_,h,k⟩;cases h;show k);(· intro h;show ų)
def aaH:Hc M fŅ k=k (i !=0):=by apply propext;symm;(· rintro⟨_,h,z⟩;cases h;show z);(· intro h;show ų)
def aaI:Hc M (.v (.bl i)) k=k i:=by apply propext;symm;(· rintro⟨_,h,z⟩;cases h;show z);(· intro h;show ų)
def abj:qw fŅ k=k (aĒ):=by apply propext;symm;(· rintro⟨y,h,z⟩;cases y<;>cases h;show z);(· intro h;show#[aĒ,rfl,h])
theorem aam {r:dj}:iq 0 (Ť) M q=æ:=rfl
theorem aal {r:dj}:iq 1 (x0::Ť) M q=æ:=rfl
theorem aak {r:dj}:iq 2 (x0::x1::Ť) M q=æ:=rfl
theorem aaj {r:dj}:iq 3 (x0::x1::x2::Ť) M q=æ:=rfl
theorem aai {r:dj}:iq 4 (x0::x1::x2::x3::Ť) M q=æ:=rfl
theorem aah {r:dj}:iq 5 (x0::x1::x2::x3::x4::Ť) M q=æ:=rfl
theorem aag {r:dj}:iq 6 (x0::x1::x2::x3::x4::x5::Ť) M q=æ:=rfl
theorem aaf {r:dj}:iq 7 (x0::x1::x2::x3::x4::x5::x6::Ť) M q=æ:=rfl
theorem aae {r:dj}:iq 8 (x0::x1::x2::x3::x4::x5::x6::x7::Ť) M q=æ:=rfl
theorem aad {r:dj}:iq 9 (x0::x1::x2::x3::x4::x5::x6::x7::x8::Ť) M q=æ:=rfl
theorem ZC {r:dj}:iq 10 (x0::x1::x2::x3::x4::x5::x6::x7::x8::x9::Ť) M q=æ:=rfl
theorem ZB {r:dj}:iq 11 (x0::x1::x2::x3::x4::x5::x6::x7::x8::x9::rK::Ť) M q=æ:=rfl
theorem ZA {r:dj}:iq 12 (x0::x1::x2::x3::x4::x5::x6::x7::x8::x9::rK::sI::Ť) M q=æ:=rfl
theorem Zz {r:dj}:iq 13 (x0::x1::x2::x3::x4::x5::x6::x7::x8::x9::rK::sI::uV::Ť) M q=æ:=rfl
theorem Zy {r:dj}:iq 14 (x0::x1::x2::x3::x4::x5::x6::x7::x8::x9::rK::sI::uV::xb::Ť) M q=æ:=rfl
theorem Zx {r:dj}:iq 15 (x0::x1::x2::x3::x4::x5::x6::x7::x8::x9::rK::sI::uV::xb::yJ::Ť) M q=æ:=rfl
theorem Zw {r:dj}:iq 16 (x0::x1::x2::x3::x4::x5::x6::x7::x8::x9::rK::sI::uV::xb::yJ::AK::Ť) M q=æ:=rfl
theorem Zv {r:dj}:iq 17 (x0::x1::x2::x3::x4::x5::x6::x7::x8::x9::rK::sI::uV::xb::yJ::AK::E5::Ť) M q=æ:=rfl
theorem Zu {r:dj}:iq 18 (x0::x1::x2::x3::x4::x5::x6::x7::x8::x9::rK::sI::uV::xb::yJ::AK::E5::GQ::Ť) M q=æ:=rfl
theorem Zt {r:dj}:iq 19 (x0::x1::x2::x3::x4::x5::x6::x7::x8::x9::rK::sI::uV::xb::yJ::AK::E5::GQ::LZ::Ť) M q=æ:=rfl
theorem Zs {r:dj}:iq 20 (x0::x1::x2::x3::x4::x5::x6::x7::x8::x9::rK::sI::uV::xb::yJ::AK::E5::GQ::LZ::Ro::Ť) M q=æ:=rfl
theorem Zr {r:dj}:iq 21 (x0::x1::x2::x3::x4::x5::x6::x7::x8::x9::rK::sI::uV::xb::yJ::AK::E5::GQ::LZ::Ro::Vp::Ť) M q=æ:=rfl
theorem Zq {r:dj}:iq 22 (x0::x1::x2::x3::x4::x5::x6::x7::x8::x9::rK::sI::uV::xb::yJ::AK::E5::GQ::LZ::Ro::Vp::x21::Ť) M q=æ:=rfl
theorem Zp {r:dj}:iq 23 (x0::x1::x2::x3::x4::x5::x6::x7::x8::x9::rK::sI::uV::xb::yJ::AK::E5::GQ::LZ::Ro::Vp::x21::x22::Ť) M q=æ:=rfl
theorem afk:wC x ρ M q=æ:=rfl
theorem aeV:wOp r a b ρ M q=oÞ:=rfl
theorem aeS:wUn r a ρ M q=kζ:=rfl
def afj:wI C g fŅ fņ M q=gK (C i j) (hĒ):=by apply propext;symm;(· rintro⟨_,_,h1,h2,k⟩;cases h1;cases h2;show k);(· intro h;show hĘ)
def ae0:wI0 g fŅ fņ M q=hĒ:=by apply propext;symm;(· rintro⟨_,_,h1,h2,k⟩;cases h1;cases h2;show k);(· intro h;show hĘ)
def afi:wU g fŅ M q=gñ:=by apply propext;symm;(· rintro⟨_,h,k⟩;cases h;show k);(· intro h;show ų)
def ae1:wEq fŅ fņ M q=q (wb (eŠ)) M:=by apply propext;symm;(· rintro⟨_,_,h1,h2,_,k⟩;cases h1;cases h2;simpa using k);(· intro h;show lÙ)
def aeW:wNe fŅ fņ M q=q (wb (! eŠ)) M:=by apply propext;symm;(· rintro⟨_,_,h1,h2,_,k⟩;cases h1;cases h2;simpa using k);(· intro h;show lÙ)
theorem ZD:GW a ρ M q=a ρ M λx M1=>UX x M1 q:=rfl
theorem aaz:VO a b ρ M q=a ρ M λc M1=>iK c dš (q false M1):=rfl
theorem aeU:wOr a b ρ M q=a ρ M λc M1=>iK c (q true M1) dš:=rfl
theorem aaq:VD a ρ M q=lÔ:=rfl
theorem ZN:Pd a b ρ M q=a ρ M λx M1=>UX x M1 λc M1=>iK c dš (q (bł) M1):=rfl
theorem aap:VB a b ρ M q=a ρ M λx M1=>UX x M1 λc M1=>iK c (q (aϥ) M1) dš:=rfl
theorem ZG:O7 a ρ M q=a ρ M λx M1=>UX x M1 λc M1=>gò:=rfl
theorem aeZ:wIf c a b ρ M q=c ρ M λc M1=>iK c (a ρ M1 q) dš:=rfl
theorem aar:VE ρ M q=q [] M:=rfl
theorem ZK:Pa a r ρ M q=oĽ:=rfl
theorem aan:Vv a ρ M q=a ρ M λxs M1=>gK jμ (q cÒ M1):=rfl
theorem aas:VF a ρ M q=a ρ M λxs M1=>gK jμ (tT M1 λp=>má):=rfl
def aav:VI fń fŅ M q=lstK aß λl=>kğ:=by apply propext;symm;(· rintro⟨_,l,_,u,h1,h2,h3,h4,k⟩;cases h1;cases h2;show#[l,h3,u,h4,k]);(· rintro⟨l,h3,u,h4,k⟩;show#[_,l,_,u,rfl,rfl,h3,h4,k])
def aau:VH bĸ fŅ M q=kğ:=by apply propext;symm;(· rintro⟨_,_,u,h1,h2,h4,k⟩;cases h1;cases h2;show#[u,h4,k]);(· rintro⟨u,h4,k⟩;show#[_,_,u,rfl,rfl,h4,k])
theorem UD:CM ρ M q=q none M:=rfl
def FK (x:W)(k:cŴ):Prop:= ∃i,aŃ /\ k i
def abp:FK fŅ k=k i:=by apply propext;symm;(· rintro⟨_,h,k⟩;cases h;show k);(· intro h;show ų)
theorem ZF:O6 a ρ M q=a ρ M λx M1=>FK x λi=>fĸ:=rfl
theorem aeT:wSl r a lo hi ρ M q=pļ:=rfl
def aao:Vx fń lo hi M q=lstK aß λl=>tT M λp=>nŴ:=by apply propext;symm;(· rintro⟨_,l,h1,h3,k⟩;cases h1;show#[l,h3,k]);(· rintro⟨l,h3,k⟩;show gΗ)
theorem ae2:wCB r a ρ M q=lĦ:=rfl
theorem ZM:Pc p a ρ M q=a ρ M λxs M1=>Am p xs M1 q:=rfl
def aat:VG [dŠ] M q=lstK aß λl=>hϒ:=by apply propext;symm;(· rintro(⟨_,l,h1,h2,k⟩ | ⟨_,h1,_⟩);(· cases h1;show cĒ);cases h1);(· rintro⟨l,h3,k⟩;show .inl gΗ)
def aaB:VP [dŉ] M q=mϟ:=by apply propext;symm;(· rintro⟨_,h,k⟩;cases h;show k);(· intro h;show ų)
def UF:xf [dŠ] M q=lstK aß λl=>nŊ:=by apply propext;symm;(· rintro⟨l,⟨_,h1,h2⟩ | h1,k⟩;(· cases h1;show cĒ);cases h1);(· rintro⟨l,h3,k⟩;show lÚ)
def UE:xf [ď] M q=nŊ:=by apply propext;symm;(· rintro⟨l,⟨_,h1,h2⟩ | h1,k⟩;(· cases h1);cases h1;show k);(· intro k;show#[l, ĺ,k])
def Rr:yK [dŠ] M q=lstK aß λl=>q bĸ M:=by apply propext;symm;(· rintro⟨l,⟨_,h1,h2⟩ | h1,k⟩;(· cases h1;show cĒ);cases h1);(· rintro⟨l,h3,k⟩;show lÚ)
theorem Qx:W.kitOne K Μ Μ=š:=rfl
theorem NL:W.kitOne K Μ gö=Ů:=rfl
theorem Qw:W.kitOne K Μ fŇ=Ů:=rfl
theorem Ly:W.kitOne K Μ ϙ=Ů:=rfl
theorem NK:W.kitOne K Μ ϋ=Ů:=rfl
theorem NN:W.kitOne K gö Μ=š:=rfl
theorem LA:W.kitOne K gö gö=š:=rfl
theorem NM:W.kitOne K gö fŇ=Ů:=rfl
theorem Jt:W.kitOne K gö ϙ=Ů:=rfl
theorem Lz:W.kitOne K gö ϋ=Ů:=rfl
theorem Qv:W.kitOne K fŇ Μ=Ů:=rfl
theorem NH:W.kitOne K fŇ gö=Ů:=rfl
theorem Qu:W.kitOne K fŇ fŇ=š:=rfl
theorem Lv:W.kitOne K fŇ ϙ=Ů:=rfl
theorem NG:W.kitOne K fŇ ϋ=Ů:=rfl
theorem FE:W.kitOne K iĹ Μ=Ů:=rfl
theorem DZ:W.kitOne K iĹ gö=Ů:=rfl
theorem FD:W.kitOne K iĹ fŇ=Ů:=rfl
theorem BJ:W.kitOne K iĹ ϙ=Ů:=rfl
theorem DY:W.kitOne K iĹ ϋ=Ů:=rfl
theorem Lu:W.kitOne K ϙ Μ=Ů:=rfl
theorem Jr:W.kitOne K ϙ gö=Ů:=rfl
theorem Lr:W.kitOne K ϙ fŇ=Ů:=rfl
theorem GG:W.kitOne K ϙ ϙ=š:=rfl
theorem Jq:W.kitOne K ϙ ϋ=Ů:=rfl
theorem NJ:W.kitOne K ϋ Μ=Ů:=rfl
theorem Lx:W.kitOne K ϋ gö=Ů:=rfl
theorem NI:W.kitOne K ϋ fŇ=Ů:=rfl
theorem Js:W.kitOne K ϋ ϙ=Ů:=rfl
theorem Lw:W.kitOne K ϋ ϋ=š:=rfl
def ae3:wBM r a b ρ M q=a ρ M λx M1=>gY x λp=>lstK aň λ_=>må:=by unfold wBM IsL gY lstK;congr 1;funext x M1;apply propext;symm;(· rintro⟨⟨p,l,h1,h2⟩,k⟩;show#[p,h1,l,h2,k]);(· rintro⟨p,h1,l,h2,k⟩;show#[#[p,l,h1,h2],k])
def UI:CN fń [y] M q=lstK aß λl=>gK iϨ (q wn (um M x hē)):=by apply propext;symm;(· rintro⟨_,l,_,h1,h2,h3,h4,k⟩;cases h1;cases h2;show#[l,h3,h4,k]);(· rintro⟨l,h3,h4,k⟩;show#[_,l,_,rfl,rfl,h3,h4,k])
def aay:VN fń (.v (.ref y)) M q=lstK aß λl=>lstK (M y) λl'=>gK mő (tT M λp=>mϠ):=by apply propext;symm;(· rintro⟨_,_,l,l',h1,h2,h3,h4,h5,k⟩;cases h1;cases h2;show#[l,h3,l',h4,h5,k]);(· rintro⟨l,h3,l',h4,h5,k⟩;show#[_,_,l,l',rfl,rfl,h3,h4,h5,k])
theorem Vw:GV a ρ M q=a ρ M λx M1=>Hc M1 x λk=>q k M1:=rfl
theorem ZI:O_ ρ M q=tT M λp=>q Đ hϔ:=rfl
def ZJ:G8 a b ρ M q=a ρ M λx M1=>b ρ M1 λy M2=>gY x λp=>qw y λk=>k9 aŉ λkvs=>xI (bŌ) λz=>q z M2:=by unfold G8 gY qw k9 xI;congr 1;funext x M1;congr 1;funext y M2;apply propext;symm;(· rintro⟨p,kvs,k,z,h1,h2,h3,h4,h⟩;show#[p,h1,k,h3,kvs,h2,z,h4,h]);(· rintro⟨p,h1,k,h3,kvs,h2,z,h4,h⟩;show#[p,kvs,k,z,h1,h2,h3,h4,h])
def UH:xh a b ρ M q=a ρ M λy M1=>b ρ M1 λx M2=>gY x λp=>qw y λk=>k9 aŉ λkvs=>mŒ:=by unfold xh gY qw k9;congr 1;funext x M1;congr 1;funext y M2;apply propext;symm;(· rintro⟨p,kvs,k,h1,h2,h3,h⟩;show#[p,h1,k,h3,kvs,h2,h]);(· rintro⟨p,h1,k,h3,kvs,h2,h⟩;show#[p,kvs,k,h1,h2,h3,h])
def VL:AN a b c ρ M q=a ρ M λx M1=>gY x λp=>k9 aň λ_=>b ρ M1 λy M2=>c ρ M2 λz M3=>qw y λk=>k9 (M3 p) λkvs=>lÕ:=by
 unfold AN gY qw k9;congr 1;funext x M1;apply propext;symm;rintro⟨p,h1,⟨kvs,h2⟩,h⟩;exact#[p,h1,kvs,h2,?_];have e:rÃ:=by funext y M2;congr 1;funext z M3;apply propext;symm;rintro⟨a,b,c,d,e⟩;show eš;rintro⟨b,d,a,c,e⟩;show eŢ
 rw[<- e];show h;rintro⟨p,h1,kvs,h2,h⟩;exact#[p,h1,#[kvs,h2],?_];have e:rÃ:=by funext y M2;congr 1;funext z M3;apply propext;symm;rintro⟨a,b,c,d,e⟩;show eš;rintro⟨b,d,a,c,e⟩;show eŢ
 rw[e];show h
theorem cH:fň=a {nx:=b D,rt:=D.rt,bk:=D.bk,ct:=D.ct} ρ M:=rfl
theorem ZW:PU D ρ M=cĎ:=rfl
theorem Z0:PZ D ρ M=D.ct ρ M:=rfl
theorem ZZ:PV a D ρ M=lĨ:=rfl
theorem aaQ:Wr a D ρ M=dŕ:=rfl
theorem ZV:PQ D ρ M=D.rt wn M:=rfl
theorem ae4:ZX c a b D ρ M=c ρ M λk M1=>iK k (a D ρ M1) (b D ρ M1):=rfl
theorem aaT:Wy a g D ρ M=mě:=rfl
def VU (xs:Ë)(k:W ->bŗ):Prop:=c7 λx y=>xs= aÌ /\ k x y
def aaF:VU aÌ k=k x y:=by apply propext;symm;(· rintro⟨_,_,h,z⟩;cases h;show z);(· intro h;show eţ)
theorem aaR:Ws i j a D ρ M=a ρ M λxs M1=>VU xs λx y=>oľ:=rfl
def Ww:A7 a b c D ρ M=c ρ M λz M1=>a ρ M1 λx M2=>b ρ M2 λy M3=>gY x λp=>qw y λk=>k9 (M3 p) λkvs=>gK jΙ nΕ:=by unfold A7 gY qw k9 gK;congr 1;funext z M1;congr 1;funext x M2;congr 1;funext y M3;apply propext;symm;(· rintro⟨p,kvs,k,h1,h2,h3,h4,h⟩;show#[p,h1,k,h3,kvs,h2,h4,h]);(· rintro⟨p,h1,k,h3,kvs,h2,h4,h⟩;show#[p,kvs,k,h1,h2,h3,h4,h])
theorem aaS:Wu it g b D ρ M=it ρ M λxs keep M1=>kĠ:=rfl
theorem Wq:fŃ=fŉ:=rfl
theorem ZO:Pf i x ρ M q=q (hϐ) M:=rfl
def aaE:RA [] ρ M q=q ρ M:=by simp[RA]
def ZP:Pg a b (x::r) ρ M q=mθ:=by apply propext;symm;(· rintro⟨_,_,h,k⟩;cases h;show k);(· intro h;show eţ)
def aaC:VR n a bĸ ρ M q=gK (cΗ) eŕ:=by apply propext;symm;(· rintro⟨_,h,k,l⟩;cases h;show#[k,l]);(· rintro⟨h,l⟩;show#[_,rfl,h,l])
theorem aaD:VS a b s x ρ M q=pë:=rfl
def ZE:O5 fń fŅ z M q=lstK aß λl=>xI (fķ) λj=>q (um M x iĴ):=by apply propext;symm;(· rintro⟨_,l,_,j,h1,h2,h3,h4,k⟩;cases h1;cases h2;show#[l,h3,j,h4,k]);(· rintro⟨l,h3,j,h4,k⟩;show#[_,l,_,j,rfl,rfl,h3,h4,k])
def _l:Jy a ρ M q=a ρ M λx M1=>gY x λp=>lstK aň λl=>q l lť M1:=by unfold Jy gY lstK;congr 1;funext x M1;apply propext;symm;(· rintro⟨p,l,h1,h2,h⟩;show#[p,h1,l,h2,h]);(· rintro⟨p,h1,l,h2,h⟩;show#[p,l,h1,h2,h])
theorem abm:Xr a ρ M q=a ρ M λx M1=>tupK x λl=>q l dŘ M1:=rfl
def Bp (xs:Ë)(k:bŗ):Prop:= ∃x,xs= [x] /\ k x
def aa6:Bp [x] k=k x:=by apply propext;symm;(· rintro⟨_,h,k⟩;cases h;show k);(· intro h;show ų)
def _k:Jx a ρ M q=a ρ M λxs M1=>Bp xs λx=>FK x λj=>gK (lĩ) nÖ:=by unfold Jx Bp FK gK;congr 1;funext x M1;apply propext;symm;(· rintro⟨j,h1,h2,h3,h⟩;show#[_,h1,j,rfl,#[h2,h3],h]);(· rintro⟨_,h1,j,rfl,⟨h2,h3⟩,h⟩;show#[j,h1,h2,h3,h])
theorem ZL:Pb it own fr g c el ρ M q=it ρ M λxs keep M1=>mϢ:=rfl
theorem aac:Vu ρ M q=q true M:=rfl
def sl1:(dŢ)=True:=by rw[cY];decide
def sl2:(dĂ)=True:=by rw[cY];decide
def sl3:(3<=sizeLine)=True:=by rw[cY];decide
def sl4:(dţ)=True:=by rw[cY];decide
def sl5:(5<=sizeLine)=True:=by rw[cY];decide
def sl0:(0<=sizeLine)=True:=by simp
def gw [dÒ](h1:c ->A)(h2:¬c ->B):iK (decide c) A B:=by unfold iK;by_cases h:c;rw[am (cj h)];show h1 h;rw[aj Â];show h2 h
def JC [dÒ](h1:¬c ->A)(h2:c ->B):iK (!decide c) A B:=by unfold iK;by_cases h:c;rw[aj Â];show h2 h;rw[am Â];show h1 h
def JD (h1:ò ->A)(h2:b=false ->B):iK b A B:=by
 unfold iK;cases b with
 | true=>rw[ą];show h1 rfl
 | false=>rw[eí];show h2 rfl
theorem jK {M1:Mp}(f:W ->Ê)(hz:ϧ)(kJ: jϔ)(hs: ∀ (i:Nat) x,Χ -> ∀ (M:Mp) (N:hė),aϧ ->N (f x) M ->g x gô M pϝ)(hq: pĦ):mϢ:=Gc f hz kJ hs hq
universe WL
namespace WL
def XW (f:ύ)(ρ:dj)(M:Mp):Prop:=f ρ M
theorem l4 (h:f ρ M):XW f ρ M:=h
theorem fb:fň=a {nx:=XW (b D),rt:=D.rt,bk:=D.bk,ct:=D.ct} ρ M:=rfl
theorem Tc (Mid:ύ)(rest: ∀ρ M,Mid ρ M ->R D ρ M)(h: ∀N:ύ,(∀ρ M,Mid ρ M ->N ρ M) ->ZX c a b {nx:=N,rt:=D.rt,bk:=D.bk,ct:=D.ct} ρ M):Mu (ZX c a b) R D ρ M:=h _ rest
theorem ip (I:jĦ)(h0:I 0 ρ M1)(hk: oĂ)(hs: ∀i x ρ M,Χ ->bő -> ∀N:ύ,(∀ρ' M',I ß ρ' M' ->N ρ' M') ->g x ρ M λρ2 M2=>b mν ρ2 M2)(hd: nň):kĠ:=#[I,h0,hk,λi x ρ M hx hI=>hs i x ρ M hx hI _ cπ,hd]
theorem xc (I:jĦ)(m:Nat)(h0:bŒ)(hs: ∀m ρ M,bŒ -> ∀N:ύ,(∀m' ρ' M',m'<m ->dś ->N ρ' M') ->c ρ M λk M1=>iK k (b mν ρ M1) (cΘ)):fŉ:=#[I,#[m,h0],λm ρ M hI=>hs m ρ M hI _ λm' _ _ hm h=>#[m',hm,h]]
universe WL
namespace WP
open PySem L2 WL
abbrev Pt:=fł
def look:gø
 | [],_=>0
 | q::r,x=>if aà then q.2 else bŘ
def cO (p:Int)(l:Pt):Prop:=(∀q∈l,0<q.2 /\ q.2<p) /\ lό
def dh:gø
 | [],_=>0
 | q::r,x=>(lÛ)+aŊ
def fL (a b:Pt)(x:Int):dh aŋ x=aŌ+dh b x:=by
 induction a with
 | nil=>simp[dh]
 | cons q r ih=>rw[List.cons_append,dh,dh,ih];exact qϩ
def oM (a:Pt)(q:ŏ)(x:Int):dh (a++ [q]) x=aŌ+lÛ:=by rw[fL];simp[dh]
def fm (h: hę):bř=0:=by
 induction l with
 | nil=>rfl
 | cons q r ih=>rw[look,iĺ,mé]
def rZ (h: hę):dh l x=0:=by
 induction l with
 | nil=>rfl
 | cons q r ih=>rw[dh,iĺ,mé];rfl
def sS (h:lό)(x:Int):dh l x=bř:=by
 induction l with
 | nil=>rfl
 | cons q r ih=>rw[cc] at h;rw[dh,look,ih h.2];by_cases e:aà;rw[Ç,Ç,fm];exact qŖ;intro z hz;have:=bŚ;lia;rw[È,È];exact qŗ
def Jf (h:lό)(hq:q∈l):look l q.1=q.2:=by
 induction l with
 | nil=>cases hq
 | cons a r ih=>rw[cc] at h;rw[look];obtain rfl | hq:=ay.mp hq;rw[ą];rw[aj (by have:=h.1 q hq;exact pϰ),ih h.2 hq]
def tW (hp:0<p)(h:aō)(x:Int):0<=bř /\ bř<p:=by
 induction l with
 | nil=>rw[look];exact qŘ
 | cons q r ih=>rw[look];split;have:=h.1 q ś;exact qŲ;show ih oĿ
theorem cO.tail {r:Pt}(h:cO p (q::r)):cO p r:=oĿ
theorem cO.nil:cO p []:=#[lġ,List.Pairwise.nil]
theorem xG {p p':Int}: ∀ {a b:Pt},cO p a ->cO p' b ->(∀x,ő=bś) ->a=b
 | [],[],_,_,_=>rfl
 | [],q::r,_,hb,h=>by have:=h q.1;rw[look,look,ą] at this;have:=hb.1 q ś;lia
 | q::r,[],ha,_,h=>by have:=h q.1;rw[look,look,ą] at this;have:=ha.1 q ś;lia
 | q ::r,q'::r',ha,hb,h=>by
  have pa:=ha.1 q ś;have pb:=hb.1 q' ś;have sa:=(cc.mp ha.2).1;have sb:=(cc.mp hb.2).1;have e1:q.1=q'.1:=by obtain l | l | l:=Int.lt_trichotomy q.1 q'.1;have e:=h q.1;rw[look,ą,look,qò,fm (λz hz=>by have:=sb z hz;exact qŻ)] at e;lia;show l;have e:=h q'.1;rw[look,qò,fm (λz hz=>by have:=aϪ;exact qŻ),look,ą] at e;lia
  have e2:q.2=q'.2:=by have e:=h q.1;rw[look,ą,look,am e1.symm] at e;show e
  have e:r=r':=xG ha.tail hb.tail λx=>by by_cases hx:aà;rw[fm (λz hz=>by have:=aϪ;exact λe=>Lqf Ğ nØ jϖ nϚ rfl),fm (λz hz=>by have:=sb z hz;exact λe=>Lqf ř (.a Lq0 mϻ) mŔ (LqIp cē nϚ) rfl)];have e:=h x;rwa [look,aÜ,look,ö] at e
  rw[e,Prod.ext e1 e2]
def jP (p:Int):Pt ->Int ->Int ->Pt
 | [],x,s=>if s % p=0 then [] else [(x,s % p)]
 | q::r,x,s=>if x<q.1 then(if s % p=0 then q::r else(x,s % p)::q::r) else if x=q.1 then(if dť=0 then r else(x,dť)::r) else q::jP p r x s
def lH (p:Int)(ps:Pt):Pt:=ps.foldl (λa q=>jP p a q.1 q.2) []
def wZ (h:z∈cΝ):aá \/ z∈l:=by
 induction l with
 | nil=>rw[jP] at h;split at h;cases h;left;rw[aϫ]
 | cons q r ih=>rw[jP] at h;split at h;split at h;show aŎ;obtain h | h:=aϗ;left;rw[h];show aŎ;split at h;split at h;show hϖ;obtain h | h:=aϗ;left;rw[h];show hϖ;obtain h | h:=aϗ;show hϖ;obtain h | h:=ih h;show ağ;show hϖ
def BA {p s:Int}(hp:0<p)(h:¬s % p=0):0<s % p /\ s % p<p:=by have:=dy s qĴ;have:=cV s hp;lia
def Go (hp:0<p)(h:aō):cO p (cΝ):=by
 induction l with
 | nil=>rw[jP];split;show cO.nil;rename_i hs;show#[λq hq=>by rw[bŜ];show bŝ,by simp]
 | cons q r ih=>have sa:=dŤ.1;rw[jP];split;rename_i hx;split;show h;rename_i hs;exact#[dŦ,cc.mpr #[dŦ,h.2]];obtain rfl | hz:=bŞ;show bŝ;show bŚ;obtain rfl | hz:=bŞ;show hx;have:=aϪ;change x<z.1;exact Lqi Ğ ϒ Lq1 (.a ϒ ϓ) τ (LqIp hx this) rfl;split;rename_i hx;split;show h.tail;rename_i hs;exact#[dŦ,cc.mpr #[dŦ,h.tail.2]];obtain rfl | hz:=bŞ;show bŝ;show h.1 z fŊ;have:=aϪ;change x<z.1;exact Lqi Ğ ϒ Lq1 kϝ τ (LqIp cĔ this) rfl;rename_i h1 h2;have ih':=ih h.tail;exact#[dŦ,cc.mpr #[dŦ,ih'.2]];obtain rfl | hz:=bŞ;show h.1 z ś;show ih'.1 z hz;obtain e | hz:=wZ hz;exact Lqi Ğ ϒ Lq1 kϞ ο (LqIp Ő ((LqIk cÍ eŤ))) rfl;show aϪ
def BF (hp:0<p)(h:aō)(y:Int):look (cΝ) y=if y=x then(bř+s) % p else look l y:=by
 induction l with
 | nil=>rw[jP];by_cases hs:s % p=0;rw[am hs];simp[look,hs];rw[aj hs];by_cases e:y=x;subst e;simp[look];rw[È];simp[look,aZ e]
 | cons q r ih=>
  have sa:=dŤ.1;have qr:=h.1 q ś;rw[jP];split;rename_i hx;have hn:fŋ=0:=fm (λz hz=>by obtain rfl | hz:=bŞ;exact λe=>Lqf Û Ϯ π (LqIp hx ŭ) rfl;have:=aϪ;exact λe=>Lqf Ğ oŐ jϖ (LqIp hx kġ) rfl);rw[hn,cw];split;rename_i hs;by_cases e:y=x;rw[Ç,e,hn,hs];rw[È];by_cases e:y=x;rw[Ç,look,am e.symm];rw[È,look,cĕ];split;rename_i hx;have hq:fŋ=q.2:=by rw[look,am hx.symm]
  rw[hq];split;rename_i hs;by_cases e:y=x;rw[Ç,hs,fm (λz hz=>by have:=aϪ;lia)];rw[È,look,ö];by_cases e:y=x;rw[Ç,look,am e.symm];rw[È,look,cĕ,look,ö];rename_i h1 h2;rw[look,ih h.tail];by_cases e:y=x;rw[Ç,Ç,ö];conv=>rhs;rw[look,aj (by exact λe=>Lqf Û ϭ π (LqIp cÍ ((LqIk Ő h2))) rfl)]
  rw[È,È,look]
def oZ (p:Int)(ps:Pt)(q:ŏ):lH p (ps++ [q])=jP p cĖ q.1 q.2:=by unfold lH;rw[List.foldl_append];rfl
def gk {α:Type}{P:Ý ->Prop}(h0:P [])(h1: ∀l a,P l ->P (l++ [a]))(l:Ý):P l:=by
 have key: ∀n:Nat, ∀l:Ý,cΗ ->P l:=by
  intro n;induction n with
  | zero=>intro l hl;rw[dg.mp hl];show h0
  | succ n ih=>
   intro l hl;have c6:aΦ:=by intro e;rw[e] at hl;cases hl
   rw[<- List.dropLast_concat_getLast c6];show h1 _ _ (ih _ (by rw[List.length_dropLast];lia))
 show key _ l rfl
def gH (hp:0<p)(ps:Pt):cO p cĖ:=by
 induction ps using gk with
 | h0=>show cO.nil
 | h1 l a ih=>rw[oZ];show Go hp ih
def jD (hp:0<p)(ps:Pt)(x:Int):look cĖ x=dh ps x % p:=by
 induction ps using gk with
 | h0=>simp[lH,look,dh]
 | h1 l a ih=>rw[oZ,BF hp (gH hp l),oM];by_cases e:x=a.1;subst e;rw[ą,ą,ih,dQ];rw[È,cĕ,ih,bF]
def Gp:(cΝ).length<=l.length+1:=by
 induction l with
 | nil=>rw[jP];split<;>simp
 | cons q r ih=>rw[jP];split;split<;>simp;split;split<;>simp<;>exact Lqj [_] Lq0 ϱ ø ø LqN0 rfl;simp;show ih
def o0 (p:Int)(ps:Pt):(aϬ).length<=ps.length:=by
 induction ps using gk with
 | h0=>simp[lH]
 | h1 l a ih=>rw[oZ,aM];show aI Gp (by simp;show ih)
def SM (h:z∈aϬ): ∃q∈ps,q.1=z.1:=by
 induction ps using gk generalizing z with
 | h0=>simp[lH] at h
 | h1 l a ih=>rw[oZ] at h;obtain e | h:=wZ h;show#[a,by simp,e.symm];let⟨q,h1,h2⟩:=ih h;show#[q,by simp[h1],h2]
def fP (m:Pt):Ų:=m.map λq=>(hĚ,aŇ)
def nj (m:Pt)(x v:Int):Pt:=if mϣ then oÆ else dŨ
def p8 {m:Pt}:mϣ↔hě:=by rw[List.any_eq_true,ah];symm;rintro⟨q,hq,e⟩;show fŌ;rintro⟨q,hq,e⟩;show fŌ
def xU (a b:Int):nÆ=eý:=by simp
def sk (m:Pt)(x v:Int):kF aŏ bş (wi v)=fP (bŠ):=by
 unfold kF nj;have e:((fP m).any λkv=>mê)=m.any iϭ:=by unfold fP;rw[List.any_map];congr 1;funext q;show xU _ _
 rw[e];split;unfold fP;rw[aK,aK];apply bI;intro q _;change(if hĚ=Sum.inl x then(hĚ,wi v) else(dŧ,aŇ))=((Sum.inl (lύ).1:cF),wi (lύ).2)
 by_cases hq:aà;rw[am (by rw[hq]),am hq];rw[aj (λz=>hq (Sum.inl.inj z)),aj hq];unfold fP;rw[aO];rfl
def xi (m:Pt)(x:Int):iĻ=(lώ).map λq=>aŇ:=by
 unfold fI fP;rw[List.find?_map,Option.map_map];have e:((λkv:cF×W=>mê) ∘ λq:ŏ=>(hĚ,aŇ))=iϭ:=by funext q;show xU _ _
 rw[e];rfl
def mX:(lώ)=none /\ Œ=0 /\ hĜ \/ ∃q,(lώ)=aĹ /\ Œ=q.2:=by
 induction m with
 | nil=>show .inl #[rfl,rfl,by simp]
 | cons q r ih=>
  rw[dw,look];by_cases e:aà;simp![e,decide_true];show .inr #[q,rfl,by simp];simp![e,decide_false,bB];rcases ih with⟨h1,h2,h3⟩ | h
  show .inl #[h1,h2,by rw[aY,ay,not_or];show#[aZ e,h3]];show aŎ
def sC (m:Pt)(x:Int):(iĻ).getD (wi 0)=wi (Œ):=by rw[xi];rcases hĝ with⟨h1,h2,_⟩ | ⟨q,h1,h2⟩ <;>rw[h1,h2] <;>rfl
def sM (h:hě):iĻ=some (wi (Œ)):=by
 rw[xi];rcases hĝ with⟨_,_,h3⟩ | ⟨q,h1,h2⟩
 show absurd h h3;rw[h1,h2];rfl
def zI (m:Pt):(fP m).map Ć=(Α).map Sum.inl:=by unfold fP;rw[aK,aK];rfl
def v8:jϗ=if hě then Α else Α++ [x]:=by unfold nj;by_cases h:hě;rw[fō,am h,aK];apply bI;intro q _;change(lύ).1=q.1;split<;>rfl;rw[jϘ,aj h,aO];rfl
def xP (h:jĨ):(jϗ).Nodup:=by rw[v8];by_cases e:hě;rw[Ç];show h;rw[È];show DI h e
def tZ:(bŠ).length<=m.length+1:=by unfold nj;split;rw[aa];exact oϏ;simp
def qu:look (bŠ) y=lϏ:=by
 unfold nj;by_cases h:hě;rw [fō];have key: ∀m:Pt,look (oÆ) y=if y=x /\ hě then v else bš:=by
  intro m;induction m with
  | nil=>simp[look]
  | cons q r ih=>
   rw[aY,look,look,ih];by_cases hq:aà;by_cases hy:y=x;subst hy;simp[hq];simp[hq,hy,aZ hy];by_cases hy:y=x;subst hy;have:(y∈(q::r).map Ć)=(y∈eť):=by rw[aY,ay];simp[aZ hq]
   simp![this,hq,bB];simp[hq,hy]
 rw[key];simp[h];rw [jϘ];have key: ∀m:Pt,hĜ ->look (dŨ) y=lϏ:=by
  intro m;induction m with
  | nil=>intro _;by_cases e:y=x;simp[look,e];simp[look,e,aZ e]
  | cons q r ih=>intro hn;rw[aY,ay,not_or] at hn;rw[List.cons_append,look,look,ih hn.2];by_cases e:y=x;subst e;simp[aZ hn.1];simp[e]
 show key m h
def UO (m:Pt)(ns:ā):Pt:=ns.filterMap λx=>if Œ=0 then none else some (x,Œ)
theorem zF {m:Pt}{x:Int}: ∀ {ns:ā},ns.Nodup ->look (UO m ns) x=if x∈ns then Œ else 0
 | [],_=>rfl
 | n ::r,h=>by rw[bM] at h;have ih:=zF (m:=m) (x:=x) h.2;unfold UO at ih ⊢;rw[List.filterMap_cons];by_cases e:bŢ=0;rw[Ç];change look (fŎ) x=_;rw[ih];by_cases hx:x=n;subst hx;rw[aj h.1,am ś,e];simp[hx];rw[È];change look ((n,bŢ)::fŎ) x=_;rw[look,ih];by_cases hx:x=n;subst hx;rw[ą,am ś];rw[cΞ];simp[hx]
def vH {ns:ā}(h1:kĕ)(h2:ns.Nodup):ns.Pairwise (· < ·):=by exact(List.Pairwise.and h1 h2).imp ?_;rintro a b ⟨h,n⟩;exact Lqi Û ϒ Lq1 ϒ Lq1 (LqIk h n) rfl
def Df (hp:0<p)(hn:jĨ)(ht: ∀x,Œ=dh ps x % p)(dI:ns.Perm (Α))(hs:kĕ):UO m ns=aϬ:=by have nd:=dI.nodup_iff.mpr hn;have st:=vH hs nd;exact xG (p:=p) #[?_,?_] (gH hp ps) Ĺ;intro q hq;let⟨x,hx,e⟩:=List.mem_filterMap.mp hq;split at e;cases e;rename_i h0;cases e;have:=ht x;have:=dy (dh ps x) qĴ;have:=cV (dh ps x) hp;change 0<Œ /\ Œ<p;lia;unfold UO;exact List.Pairwise.filterMap _ ?_ st;intro a b J_ c hc d hd;split at hc<;>cases hc;split at hd<;>cases hd;show J_;rw[zF nd,jD hp];split;show ht x;rename_i hx;rw[<- ht x,fm];intro q hq e;show hx (dI.mem_iff.mpr (by rw[<- e];show List.mem_map_of_mem hq))
def gO {ks:ā}: ∀ {l:ā},oϓ:=by
 induction ks with
 | nil=>intro l _ _;simp
 | cons k r ih=>
  intro l hn hs;rw[bM] at hn;have hk:k∈l:=hs k ś;have:=ih (l:=l.erase k) hn.2 λz hz=>by have hzk:z≠k:=iļ;show oϣ
  rw[lϐ] at this;have:cΟ:=lĪ;rw[aT];lia
def LY (_:Pt):Prop:=True
theorem wq:LY ps:=trivial
theorem Ow (h:ps.length<64):LY ps:=trivial
def zD (h:k∈jϗ):k=x \/ k∈Α:=by rw[v8] at h;split at h;show aŎ;obtain h | h:=au.mp h;show aŎ;show .inl (aϫ)
universe WP
namespace WQ
open PySem L2 WL WP
def W0:ik:=λxs M q=>gL λ bţ ģ=>kg (xs= [wr d,wi n]) (bŖ) (0<n) (n<cŵ) (∀ (r:Int) (M':Mp),0<=r ->r<n ->cė ->cĘ ->q (wi r) M')
def pP:ik:=λxs M q=>c7 λ bţ=>dU eŞ (bŖ) (∀ (p:Int) (M':Mp),ϰ ->cė ->cĘ ->q (Í) M')
def Qf:ik:=λxs M q=>gL λ aŐ Ī (ps:Pt)=>nD (xs= [Í,wr a]) (M a=kο) è (LY ps) (ps.length<=œ) (q (fh cĖ) M)
def IB:ik:=λxs M q=>Gq λ bţ (p most far:Int)=>p9 (xs= [wr d,Í,wi most,wi far]) (bŖ) (2<=p) bŤ (0<=most) (most<63) (0<=far) (far<100000000 /\ ∀ (ps:Pt) (M':Mp),(ps.length:Int) <=most ->oϸ ->cė ->cĘ ->q (fh cĖ) M')
def mv (pY:Int)(l:Pt):Pt:=l.map λz=>eŦ
def Sw:ik:=λxs M q=>c7 λ bť (b:Int)=>dU (xs= [fh pat,wi b]) (pat.length<=œ) (q (fh (mv b pat)) M)
def SF:ik:=λxs M q=>gL λ Ī bŦ=>nD (xs= [Í,fh a,fh b]) è (LY aŋ) iϮ iϯ (q (fh (lH p aŋ)) M)
def tm (n:Int)(l:Pt):Pt:=l.map λz=>(z.1,z.2*n)
def Sn:ik:=λxs M q=>gL λ Ī aœ ģ=>nD (xs= [Í,fh a,wi n]) è (LY (tm n a)) (a.length<=Ĥ) (lϑ) (q (fh (lH p (tm n a))) M)
def Nw (b n:Int)(l:Pt):Pt:=l.map λz=>(z.1+b,z.2*n)
def aaY:ik:=λxs M q=>Gq λ Ī bŦ (y n:Int)=>E2 (xs= [Í,fh a,fh b,wi y,wi n]) è (LY (a++bŧ)) iϮ iϯ (∀z∈b,iĽ) (q (fh (lH p (a++bŧ))) M)
theorem big (h:n<=œ):dģ:=aI h iľ
theorem vm (h:n<=œ):n<sizeLine:=Nat.lt_of_le_of_lt h iľ
theorem By:(mv b l).length=l.length:=aa _
def _e:mv 0 l=l:=by
 unfold mv;have:(λz:ŏ=>(z.1+0,z.2))=id:=by funext z;rw[bF];rfl
 rw[this,List.map_id]
def _i:look (mv b l) x=look l (x - b):=by
 induction l with
 | nil=>rfl
 | cons q r ih=>change look jϙ x=_;rw[look,look,ih];by_cases e:q.1+b=x;rw[Ç,qΨ];rw[È,ö]
def sQ:dh (tm n l) x=dh l x*n:=by
 induction l with
 | nil=>simp[tm,dh]
 | cons q r ih=>change dh ((q.1,q.2*n)::tm n r) x=_;rw[dh,dh,ih,Int.add_mul];split<;>simp
def xj (hp:0<p)(a:Pt)(x:Int):dh (lH p a) x=aŌ % p:=by rw[sS (gH hp a).2,jD hp]
def sR:dh (mv b l) x=dh l (x - b):=by
 induction l with
 | nil=>rfl
 | cons q r ih=>change dh jϙ x=_;rw[dh,dh,ih];by_cases e:q.1+b=x;rw[Ç,qΨ];rw[È,ö]
theorem T9 (h:LY a):LY (tm n a):=trivial
def Kz (q:ŏ):GN (cN q)=some (lī):=by simp[cN,GN,pV]
theorem ux: ∀l:Pt,pV cΜ=some nϛ
 | []=>rfl
 | q::r=>by rw[aY,pV,Kz,ux r];rfl
def Iy (l:Pt):Dt:= .tup nϛ
def OC (l:Pt):GN (fh l)=some (Iy l):=by rw[fh,GN,ux];rfl
theorem ur: ∀l:Pt,vi nϛ <=1
 | []=>by simp[vi]
 | q::r=>by rw[aY,vi];have:=ur r;simp![AH,vi];lia
def Db (K:iD):Sp:=λvs H Q _=>c7 λ aŐ dŞ=>dU gú (kŻ) (∀ (d l:fR) (ms:ā) (H':Hp),d≠l ->H' d=some (.lst [aĴ, .int 0, .int 0, .int 11]) ->H' l=some (.lst (eŨ)) ->Q (aľ) H')
def y3 (K:iD):Sp:=λvs H Q _=>c7 λ aŐ dŞ=>dU gú (kŻ) (∀H',Q (bĘ) H')
def W' (F:iϙ)(S:f9 N [z] Ħ)(hN:2<=N.length)(kK: ∀ (cdv:eX) (A:Around) (outer:ć) (s:eY) (H:Hp) (E:XK),pΦ ->∃ R,w8 pġ aϞ (RK (E9 (qG (Db K) [] E0 (Hv (Ml 0) Hk)) (ls 1)) R) /\∃w',IS K R w' /\ ∀d l M,bŖ ->w' {nx:=eđ,rt:=λx _=>x=aϥ} pì M): cD P w K mg base gT Ü f fd [z] (y3 K):=by
 exact At.ok F S ((by rintro vs H Q E ⟨a,ns,h,_,_⟩;exact by rw[h];rfl)) nđ;let⟨R,h1,w',h2,h3⟩:=kι;let⟨a,ns,rfl,hs,hq⟩:=h;exact#[_,h1,?_];let⟨n,hn⟩: ∃n,N.length=n+2:=#[eũ, ∅]
 have e0:L2.start N [V.ref a]=some (V.ref a)::none::List.replicate n none:=by unfold L2.start;rw[hn];rfl
 rw[e0];exact#[_,rfl,a,ns,rfl,hs,λd l ms H' c6 hd hl=> ?_];change R _ _ H';exact h2.imp pì (um (um (cë) l iĿ) d (.lst [wr l,wi 0,wi 0,wi 11])) _ H' _ _ #[#[?_,λi y e=> ?_],eĺ] (h3 d l _ #[ms,0,0,11,av,by rw[aE aϮ,av],⋯,c6]) #[iϧ,λy M' v H2 e _ _ r=> ?_,iϧ,iϧ];simp[hn];match i with
 | 0=>simp at e
 | 1=>simp at e;subst e;show#[aľ,rfl,WR.v]
 | i+2=>simp[dX] at e
 by_cases hb:b=d;subst hb;rw[av] at e;cases e;show#[_,hd,cW.cons WR.v (cW.cons WR.v (cW.cons WR.v (cW.cons WR.v cW.nil)))];rw[aE hb] at e;by_cases wj:b=l;subst wj;rw[av] at e;cases e;show#[_,hl,cW.ofInts ms];rw[aE wj] at e;cases e;subst e;rw[r.eq];show hq H2
abbrev Rd:=aϯ
def gz (r:Rd):W:= .tup [wi r.1,fh r.2]
def jn (p:Int)(a b:Rd):Rd:=(a.1+b.1,lH p hϗ)
def bk (p:Int)(a:Rd):Rd:=(-a.1,lH p (tm Î (fŏ)))
def M_:ik:=λxs M q=>gL λ Ī (a b:Rd)=>nD (xs= [Í,gz a,gz b]) è (LY hϗ) jϚ (b.2.length<=Ĥ) (q (gz (jn p a b)) M)
def W5:ik:=λxs M q=>c7 λ Ī aŔ=>nD (xs= [Í,gz a]) è (LY (fŏ)) jϚ (∀z∈a.2,iĽ) (q (gz bŨ) M)
def Ss:ik:=λxs M q=>xs= [] /\ gΘ
def Ky (r:Rd):GN (gz r)=some lÜ:=by rw[gz,GN,pV,pV,OC,pV];rfl
def Ug (r:Rd):AH lÜ <=50:=by
 simp![AH,vi];have:AH (Iy r.2) <=2:=by unfold Iy;rw[AH];have:=ur r.2;exact Lqj [_] ϒ ý Lq0 ñ this rfl
 lia
def YG (e:a=b)(h:q (aϥ) M):Rw (gz a) (gz b) M q:=by subst e;show#[_,_, dū, dū,rfl,Ug a,by rw[l_];show h]
theorem BL (hp:0<p)(a b:Rd):cO p (jn p a b).2:=gH hp _
theorem Um (hp:0<p)(a:Rd):cO p bŨ.2:=gH hp _
def Uo (p:Int)(a:Rd):hϘ<=cΡ:=by exact aI bũ ?_;rw[tm,aa,By];exact nθ
def RJ (hp:0<p)(a:Rd)(x:Int):dh bŨ.2 x=(gΙ) % p:=by rw[bk,xj hp,sQ,sR];congr 1;rw[Int.mul_neg_one,Int.sub_neg]
theorem y9 (h:cO p a)(hp:aő): lϑ:=λz hz=>by have:=bŚ;exact ⟨oϷ,Lqi Û ϒ Š (.a ϑ ϒ) iŀ (LqIp hp ú) rfl⟩
inductive Zo where
 | go (k:Int) | turn (k:Int)
def YI (s:aϯ):Zo ->aϯ
 | .go k=>(s.1+k,s.2)
 | .turn k=>(s.1,s.2++ [(s.1,k)])
def Rp (ds:eV Zo)(s:aϯ):aϯ:=ds.foldl YI s
universe WQ
namespace WL
open PySem PySem.Spec PyProof.Rows L2
theorem oC (bt:hĞ): ∀k,PySem.argBest bt k<=k
 | 0=>Á
 | k+1=>by unfold PySem.argBest;split;show Á;show Nat.le_succ_of_le (oC bt k)
theorem rG (val:cę): ∀k j,j<=k ->val j<=oϹ
 | 0, j, h => by have:j=0:=by exact qď
                 subst this;show Ï
 | k + 1,j,h=>by
  have ih:=rG val k;unfold PySem.argBest;by_cases hb:val Ü >oϹ;rw[am (cj hb)];obtain h' | h':=cΤ;have:=pΚ;exact Lqi Ğ Lq0 Lq1 lÀ ο gû rfl;have:j=k+1:=by exact qż
  subst this;show Ï;rw[aj aÒ];obtain h' | h':=cΤ;show pΚ;have:j=k+1:=by exact qż
  subst this;exact nϜ
theorem rF (val:cę): ∀k j,j<=k ->oϤ <=val j
 | 0, j, h => by have:j=0:=by exact qď
                 subst this;show Ï
 | k + 1,j,h=>by
  have ih:=rF val k;unfold PySem.argBest;by_cases hb:val Ü <oϤ;rw[am (cj hb)];obtain h' | h':=cΤ;have:=pΚ;exact Lqi Ğ Lq0 Lq1 lÝ τ gû rfl;have:j=k+1:=by exact qż
  subst this;show Ï;rw[aj aÒ];obtain h' | h':=cΤ;show pΚ;have:j=k+1:=by exact qż
  subst this;exact nϜ
def rJ (ns:ā)(m:Int):Prop:=m∈ns /\ ∀x∈ns,x<=m
def ja (ns:ā)(m:Int):Prop:=m∈ns /\ ∀x∈ns,m<=x
section
variable {X:Cx}
def D8 {ns:ā}(rv:cM gÒ its)(e:gΚ =ă): ∃t,v= .int (dŬ) t /\ dŭ:=by
 have e':gΜ:= Å;have d_:=rv.length;have hi:dŭ:=by have:=eŪ;rw[aa] at d_;exact qĔ
 let⟨w',hw,uZ⟩:=rv.get (i:=i) (x:= .int ns[i]) jϛ;rw[e'] at hw;cases hw;let⟨t,rfl⟩:=uZ;show#[t,by simp[List.getD,hi],hi]
def QY {ns:ā}(h:dŭ):dŬ=ns[i]:=by simp[List.getD,h]
def Y2 (hn:bŪ):rJ ns (ns.getD (pΜ) 0):=by
 have hl:dů:=lŦ;have hb:=oC oă gΝ;have hi:pΜ <ns.length:=by omega
 exact hϙ;rw[QY hi];show c5 hi;let⟨j,hj,rfl⟩:=lŧ;have:=rG iŁ gΝ j Ū;have e:dŮ=ns[j]:=by simp[List.getD,hj]
 simp![e] at this;show this
def KN (hn:bŪ):ja ns (ns.getD (pΓ) 0):=by
 have hl:dů:=lŦ;have hb:=oC (nϝ) gΝ;have hi:pΓ <ns.length:=by omega
 exact hϙ;rw[QY hi];show c5 hi;let⟨j,hj,rfl⟩:=lŧ;have:=rF iŁ gΝ j Ū;have e:dŮ=ns[j]:=by simp[List.getD,hj]
 simp![e] at this;show this
variable {K:iD}
universe e
universe WL
namespace WQ
open PySem L2 WL WP
def prc (p s:Int):Int:=if p - s<s then p - s else s
def PB (a:Rd):ā:=0::a.1::aϱ Ć
def Y7 (i:Int):Int:=jΒ
def fwv (p:Int)(a:Rd)(lo hi:Int):Int:=2*(hi - lo) - Y7 a.1+(aϱ λz=>prc p z.2).sum
def ja.uniq (h:ja ns a)(h':ja ns b):a=b:=by have:=h.2 b h'.1;have:=h'.2 a h.1;lia
def rJ.uniq (h:rJ ns a)(h':rJ ns b):a=b:=by have:=h.2 b h'.1;have:=h'.2 a h.1;lia
universe WQ
namespace WL
open PySem PySem.Spec PyProof.Rows L2
def L9:O9 [cτ] M q=q (wi ję) M:=by apply propext;symm;rintro(⟨_,h,k⟩ | ⟨_,h,k⟩);cases h;cases h;show k;intro h;show .inr ų
universe WL
namespace WQ
open PySem L2 WL WP
def vd (e n x:Int):Bool:=decide (x.fmod e=0) && (decide (0<=x.fdiv e) && decide (x.fdiv e<n))
universe WQ
namespace EN
open PySem PySem.Spec PyProof.Rows L2
open Sem (wp)
open AutoSeq1 (wpAny_loadPart')
def Bx (hj:lÞ)(ht:jĩ)(hx:aϰ =û)(hQ: ∀h',h'.IsTupleIter j t ß ->Heap.SameBut j s.heap h' ->Q x hζ):pš:=by let⟨oj,QH,hcj,Oe⟩:=id hj;let⟨ot,hot,_,nt,hdt⟩:=ht;unfold Builtin.SmallTypes.nextOf;exact rÌ;change nϞ;exact oĄ;change pś;rw[pħ];change nϟ;exact oŀ;change oß;exact mŖ;simp![Int.toNat_natCast,hx];exact ak (wpAny_setField QH Oe ś (aN #[x,rfl,aN (hQ _ ?_ (kĢ))]));show#[_,Heap.get?_update_self _ QH (Obj.isFreed_of_fields (Obj.data_mapFields Oe _)),(Obj.cls_mapFields ..).trans hcj,by rw[Obj.data_mapFields Oe];simp[rawInt]]
def Fv (hh:gÀ)(hj:lÞ)(ht:jĩ)(hx:aϰ =none)(hE: ∀h' e,Heap.ExtBut j s.heap h' ->(∃o,h'.get? e=Ą /\ o.cls= jϜ) ->E bľ hζ):pš:=by
 let⟨oj,QH,hcj,Oe⟩:=id hj;let⟨ot,hot,_,nt,hdt⟩:=ht;unfold Builtin.SmallTypes.nextOf;exact rÌ;change nϞ;exact oĄ;change pś;rw[pħ];change nϟ;exact oŀ;change oß;exact mŖ;simp![Int.toNat_natCast,hx];exact ak (wpAny_rule (ak (wpAny_setField QH Oe ś ?_)));change wpAny _ _ (newExc (jϜ) [] >>=_) _ _ _;exact aÔ;simp![newExc,newTuple];exact ak (nĪ);exact ak (m:=firstArgMember _ _) (wpAny_of_eq (a:=Value.none) (by first | rfl | (simp![firstArgMember];rfl)) ?_);exact nĪ;simp![raiseNew];exact ak (wpAny_handled ?_);first | rw[show ił from hh] | rw[hh]
 exact ak (aN (wpAny_throw ?_));show hE _ _ (((kĢ).extBut.push _).push _) #[_,Ŀ,rfl]
theorem Ku {prog:Program}{w:World}{A:Around}(hh:gÀ)(j t:fR)(c6:t≠j)(its:aÍ): Draws prog w A j [j,t] its.size (λi v=>gΜ) (λi h=>h.IsTupleIter j t i /\ h.IsTuple t its) where
 live:=λ_ _ st=>let ⟨o,ho,_⟩:=st.1;#[o,ho]
 frame:=λ_ _ _ st hk=>#[let ⟨o,ho,r⟩:=st.1;#[o,hk j ś o ho,r],let ⟨o,ho,r⟩:=st.2;#[o,hk t ś o ho,r]]
 item:=λi s Q E hi st hQ=>by exact Bx st.1 st.2 (x:=its[i]) fŐ λh' jR iN=> ?_;show hQ _ h' s.toks fŐ #[jR,st.2.extBut iN.extBut c6] iN
 done:=λs Q E st hE=>Fv hh st.1 st.2 ś hE
theorem SV (t:fR)(its:aÍ)(n:Nat)(_U:aÑ)(sl:iC (fk eX)): Meets (Builtin.«enumerate.__new__» #[[hϚ, aĿ],[]]) (λ_ R s=>fő=some {cls:= fô,dict:=_U,data:= cŠ,slots:=sl} /\R (.ok (.ret (.ref qĵ))) {s with heap:=rÎ}):= .of_wp λprog w A R s h=>by
 let⟨hp,g,d,tk,os⟩:=s;let⟨hl,h⟩:=h;have pE:=sub_enumerate;have hL:Heap.IsTuple (Shared.heap #[hp,g,d,tk,os]) t its:=#[_,hl,rfl,n,rfl]
 wp_walk using iŃ;exact wpAny_stack_any λst=>aÎ;split;rename_i c _ _ _ _ _;cases (c==Value.type dĆ);wp_walk using iŃ,jϝ;show ų;wp_walk using iŃ,jϝ;show ų;wp_walk using iŃ,jϝ;show ų
def Cs (hL:jĩ)(h: ∀h',IsEnum h' ϩ s.heap.objs.size 0 .none ->h'.IsTupleIter s.heap.objs.size t 0 ->h'.objs.size=s.heap.objs.size+2 ->(oş) ->Q (.ref ϩ) hζ):wpAny Φ A (call (hϚ) [aĿ]) Q E s:=by
 let⟨⟨c,_U,dt,sl⟩,hl,hc,n,hd⟩:=hL;replace hc:c= fô :=hc;replace hd:dt= cŠ:=hd;subst hc hd;exact callType_new F.called_enumerate ⋯ (F.typeCall_enumerate_1 _) (F.newCall_enumerate_1 _) (λobj=>F.args_object_init_2 obj _) F.entry_enumerate_new (SV t its n _U sl) #[hl,?_];have hz:qĵ=iĔ:=eM ..;change _ /\ _;rw[hz];have he:IsEnum (rÎ) ϩ s.heap.objs.size 0 .none:=by have q:=a4 (qü) (o:= qž) rfl;rw[hz] at q;show q
 exact#[#[_,he,rfl],h _ he #[_,ar _ (Ŀ),rfl,rfl] (by rw[eM,hz]) λb o x=>ar _ (ar _ x)]
universe EN
namespace EN
open PySem PySem.Spec PyProof.Rows L2 WL
def xS {σ:L2.St}(I:Ϙ)(k: ∀b o,b≠e ->b≠j ->nϑ)(fe:li X ai H e)(fj:li X ai H j)(new:fu X.prog X.w nÙ h' s.heap.objs.size cÒ):Inv X ai σ nÙ lŐ:=by
 have J5:kŹ:=hΓ;have ne: ∀ {b u},cş ->gý:=λ{b u} q=>#[dM q fe.1,dM q fj.1]
 have nm: ∀ {b:fR},b∉ [e,j] ->gý:=λ{b} q=> ⇑q;exact I.call (ch:= [e,j]) (g':=s.gens) (d':=s.drawn) #[λb o q n _ hc=>lϒ,λb o q n _ hc=>#[o.slots,lϒ],λb o q n hc=> ?_,λb o q hc=>#[o,lϒ],λb ys q=> ?_,λb o u q=> ?_,λb ps q=>#[#[],?_]] ?_ I.bare ?_;rw[bL (a_ (aJ q))];show n;rw[eū];show q;rw[eū];show q;rw[eū,q];simp;intro b u q;by_cases hb:b=s.heap.objs.size;subst hb;rw[ce] at q;cases q;show new;rw[aÐ] at q;exact(I.c9 b u q).oO (λc v hc r=> ?_) (λc r=>by rw[eŬ];show r) λc ys r=>by rw[eŬ];show r
 obtain rfl | hc:=hc;show k _ v (ne q).1 (ne q).2 r;show k _ v (ne hc).1 (ne hc).2 r;intro b hb;obtain rfl | hb:=bŬ;show#[bŭ.1,fe.2.1,bŭ.2.1,bŭ.2.2];rw[Ŕ];show#[bŮ.1,fj.2.1,bŮ.2.1,bŮ.2.2]
def K7 (K:iD)(a:fR):It:=#[oű,λi H v H'=>c7 λp x=>gy (ņ) (H'=lß) (v= aĨ) (nĈ),λi H=> ∃xs,dû /\ dŗ]
def K8 (K:iD)(a:fR):It:=#[oŰ,λi H v H'=>c7 λp x=>gy (ņ) (H'=lß) (v= aĨ) (nć),λi H=> ∃xs,dú /\ dŗ]
def AU {P:Program}{w:World}{K:iD}{vg:ġ}{x1}{pos:Pos}(a e j:fR)(TD:e≠j):vn P w K iń (K7 K a) [e,j] e (λi h=>lϓ /\ h.IsTupleIter j a i) where
 mem:=by simp
 obj:=λi h st b hb=>by let⟨eŭ,o,hj,c,d⟩:=st;obtain rfl | hb:=bŬ;show là;rw[Ŕ];show nŋ
 keep:=λi h h' st k=>by let⟨eŭ,o,hj,r⟩:=st;show oϥ
 item := by
  intro X hP hw hK hc i ai s σ H E I hf st hg;subst hP hw hK;let⟨xs,x,hq,hx⟩:=hg;let⟨its,rv,p,hz⟩:=ců;let⟨eŭ,hj⟩:=st;have fe:=hf e ś;have fj:=gþ;have vd:mÓ:=p;have ha:a≠j:=λz=>by let⟨o,h1,c1,_⟩:=vd;let⟨o2,h2,c2,_⟩:=hj;rw[z] at h1;rw[h1] at h2;cases h2;rw[c1] at c2;simp at c2
  have hae:a≠e:=λz=>by let⟨o,h1,c1,_⟩:=vd;rw[z] at h1;rw[he] at h1;cases h1;simp at c1
  have hi:iŅ:=by have:=eŮ;have:=rv.length;simp;lia
  exact wpAny_pyNext_enum_itemD pŷ he #[hj,vd] hi TD jĪ nÚ;exact pÖ;let⟨u,hu,ru⟩:=cá;have eu:u=y:=by have:gΚ =þ:= ⇑hu;rw[hy] at this;show gÿ
  subst eu;have QR:jī:=jĬ;exact#[jψ,nϠ,qϦ,rfl,#[_,x,hΓ,rfl,rfl,λys JK=>by rw[I.qe JK hq];show hx],hϜ,Ÿ];show nϡ;let⟨eů,_⟩:=iM;show mϤ;have:ľ:=dĈ;rw[bL (bů)];show this;let⟨o,h1,_⟩:=hj;obtain rfl | hb:=bŬ;show QR z.symm;rw[Ŕ] at z;show nī
 done:=by
   intro X hP hw hK hc i ai s σ H E I hf st hg;subst hP hw hK;let⟨xs,hq,hx⟩:=hg;let⟨its,rv,p,hz⟩:=ců;let⟨eŭ,hj⟩:=st;have vd:mÓ:=p;have ha:a≠j:=λz=>by let⟨o,h1,c1,_⟩:=vd;let⟨o2,h2,c2,_⟩:=hj;rw[z] at h1;rw[h1] at h2;cases h2;rw[c1] at c2;simp at c2
   let⟨f0,f1,f2,f3,f4,f5⟩:=gþ;have hl:iņ:=by have:=rv.length;simp;exact qϭ
   exact wpAny_pyNext_enum_endD pŷ he fŒ pϥ
 self:=pŸ
def AV {P:Program}{w:World}{K:iD}{vg:ġ}{x1}{pos:Pos}(a e j:fR)(TD:e≠j):vn P w K iń (K8 K a) [e,j] e (λi h=>lϓ /\ h.IsListIter j a i) where
 mem:=by simp
 obj:=λi h st b hb=>by let⟨eŭ,o,hj,c,d⟩:=st;obtain rfl | hb:=bŬ;show là;rw[Ŕ];show nŋ
 keep:=λi h h' st k=>by let⟨eŭ,o,hj,r⟩:=st;show oϥ
 item := by
  intro X hP hw hK hc i ai s σ H E I hf st hg;subst hP hw hK;let⟨xs,x,hq,hx⟩:=hg;let⟨its,rv,p,hz⟩:=cà;let⟨eŭ,hj⟩:=st;have fe:=hf e ś;have fj:=gþ;have vd:lϔ:=p.isList;have ha:a≠j:=λz=>by let⟨o,h1,c1,_⟩:=vd;let⟨o2,h2,c2,_⟩:=hj;rw[z] at h1;rw[h1] at h2;cases h2;rw[c1] at c2;simp at c2
  have hae:a≠e:=λz=>by let⟨o,h1,c1,_⟩:=vd;rw[z] at h1;rw[he] at h1;cases h1;simp at c1
  have hi:iŅ:=by have:=eŮ;have:=rv.length;simp;lia
  exact wpAny_pyNext_enum_itemD pϐ he #[hj,vd] hi TD jĪ nÚ;exact pÖ;let⟨u,hu,ru⟩:=cá;have eu:u=y:=by have:gΚ =þ:= ⇑hu;rw[hy] at this;show gÿ
  subst eu;have QR:jī:=jĬ;exact#[jψ,nϠ,qϦ,rfl,#[_,x,hΓ,rfl,rfl,λys JK=>by rw[I.list_inj JK hq];show hx],hϜ,Ÿ];show nϡ;let⟨eů,_⟩:=iM;show mϤ;have:ľ:=dĈ;rw[bL (bů)];show this;let⟨o,h1,_⟩:=hj;obtain rfl | hb:=bŬ;show QR z.symm;rw[Ŕ] at z;show nī
 done:=by
   intro X hP hw hK hc i ai s σ H E I hf st hg;subst hP hw hK;let⟨xs,hq,hx⟩:=hg;let⟨its,rv,p,hz⟩:=cà;let⟨eŭ,hj⟩:=st;have vd:lϔ:=p.isList;have ha:a≠j:=λz=>by let⟨o,h1,c1,_⟩:=vd;let⟨o2,h2,c2,_⟩:=hj;rw[z] at h1;rw[h1] at h2;cases h2;rw[c1] at c2;simp at c2
   let⟨f0,f1,f2,f3,f4,f5⟩:=gþ;have hl:iņ:=by have:=rv.length;simp;exact qϭ
   exact wpAny_pyNext_enum_endD pϐ he fŒ pϥ
 self:=pŸ
def JI (K:iD)(tl:TA):TI:=λσ H R=>tl σ H λvs H1=> ∃a,dU gú jĈ (R (K7 K a) H1)
def JJ (K:iD)(tl:TA):TI:=λσ H R=>tl σ H λvs H1=> ∃a,dU gú jć (R (K8 K a) H1)
def Io (et:iϱ)(hg:Gl X dĆ)(hm:kģ)(ha:dű)(hs:oą:=by rfl):PI X tg oÇ (JI X.K tl):=by subst et;intro ai s σ H R I h;exact qÉ;rintro us s1 ⟨vs,H1,I1,r1,q1⟩;let⟨a,e,dĉ,q⟩:=q1;subst e;let⟨v,rfl,rv1⟩:=vals1 r1;cases rv1;let⟨its,rv,ht,hz⟩:=dĊ;exact Cs (show mĔ from ht) kĤ;have I2:nÛ:=lá;exact kπ;exact#[_,nϢ,_,_,H1,rfl,I2,AU a (iϲ) s1.heap.objs.size jĭ,fœ,Ÿ,q];obtain rfl | hb:=bŬ;show oϦ;rw[Ŕ];show nÊ
def zo (et:iϱ)(hg:Gl X dĆ)(hm:kģ)(ha:dű)(hs:oą:=by rfl):PI X tg oÇ (JJ X.K tl):=by subst et;intro ai s σ H R I h;exact qÉ;rintro us s1 ⟨vs,H1,I1,r1,q1⟩;let⟨a,e,dĉ,q⟩:=q1;subst e;let⟨v,rfl,rv1⟩:=vals1 r1;cases rv1;let⟨its,rv,ht,hz⟩:=I1.list hq;exact call_enumerate_list ht.isList kĤ;have I2:nÛ:=lá;exact kπ;exact#[_,nϢ,_,_,H1,rfl,I2,AV a (iϲ) s1.heap.objs.size jĭ,fœ,Ÿ,q];obtain rfl | hb:=bŬ;show oϦ;rw[Ŕ];show nÊ
universe EN
namespace WL
open PySem PySem.Spec PyProof.Rows L2 EN
section
variable {X:Cx}
def WN (K:iD):Ϫ:=λxs H Q=>c7 λ(l:fR) (bs:aϲ)=>dU (xs= [aĴ]) (iT K H l (dŲ)) (Q (.bl (bs.all id)) H)
def Ta {bs:aϲ}(rv:cM (dŲ) its)(e:gΚ =ă):v= .bool (gΡ) /\ dų:=by
 have e':gΜ:= Å;have d_:=rv.length;have hi:dų:=by have:=eŪ;rw[aa] at d_;exact qĔ
 let⟨w',hw,uZ⟩:=rv.get (i:=i) (x:= .bl bs[i]) jϛ;rw[e'] at hw;cases hw;cases uZ;show#[by simp[List.getD,hi],hi]
def Fk (bs:aϲ):(List.range bs.length).all (λi=>gΡ)=bs.all id:=by apply Bool.eq_iff_iff.mpr;rw[List.all_eq_true,List.all_eq_true];symm;intro h x hx;let⟨i,hi,rfl⟩:=lŧ;have:=h i (dq.mpr hi);simpa [List.getD,hi] using this;intro h i hi;rw[dq] at hi;have:=h bs[i] (c5 hi);simpa [List.getD,hi] using this
def qB (hc:ŷ):f' X (.builtin "all") (WN X.K):=by
 intro ai s σ H xs us Q I r h;let⟨l,bs,rfl,hs,q⟩:=h;let⟨u,rfl,ru⟩:=aϖ;cases ru;let⟨its,rv,ht,hz⟩:=cĂ;have hh:jġ:=cŰ;have d_:its.toArray.size=bs.length:=by have:=rv.length;rw[aa] at this;simpa using this.symm
 have gu:l<s.heap.objs.size:=by let⟨_,e,_⟩:=ht.isList;show Æ
 exact PySem.call_all_walkS mϥ;exact#[s.heap.objs.size,_,_,_,its.toArray.size,_,_,λi=>gΡ,rfl,(Walks.list hh s.heap.objs.size l (a_ gu) its.toArray).toS,oà,λi v s' Q' E' e hq=> ?_,λs' hm=> ?_];let⟨rfl,_⟩:=Ta rv e;show eC hq;have hk: ∀b o,Ϩ ->s'.heap.get? b=Ą:=λb o e=>hm.heap b o oΡ bķ;rw[Moved.eq_with hm,d_,Fk];show#[aÓ,H,I.kept (t':=s'.toks) hk,rfl,q]
variable {K:iD}
theorem cW.bools {H:Hp}: ∀ {bs:aϲ} {vs:Ä},cW K H dŴ vs ->vs=dŲ
 | [],vs,h=>by simpa only[List.map_nil,cW] using h
 | n::r,vs,h=>by simp![aY,cW] at h;let⟨v,t,rfl,h1,h2⟩:=h;rw[cW.bools h2,h1.eq];rfl
def aaA:Cv:=λxs M q=>c7 λ aŐ (bs:aϲ)=>dU (cΖ) (M a=some (.lst dŴ)) (q (wb (bs.all id)) M)
instance:IC K (WN K) aaA where
 imp:=by rintro xs v M H q Q m r1 ⟨a,ns,rfl,hl,h⟩ k;let⟨v,rfl,r⟩:=r1.one;cases r.eq;let⟨vs,hv,rr⟩:=Ō;cases rr.bools;show#[a,ns,rfl,ō,mŏ]
def gi (l:Ë):Ë:=(List.range l.length).map λ aϓ=> .tup [wi i,l.getD i wn]
def yd {i:Nat}(h:cΥ =û): ∃y,ç =aġ /\ x= fŔ:=by unfold gi at h;rw[aF] at h;by_cases hi:i<l.length;rw[kĞ] at h;cases h;show#[l[i],aq hi,by simp[List.getD,hi]];rw[lϋ] at h;cases h
def uo:fŕ=l.length:=by simp[gi]
def OA {i:Nat}(h:ç =aġ):cΥ =some (fŔ):=by let⟨hi,rfl⟩:=aϙ;unfold gi;rw[aF,kĞ];simp[List.getD,hi]
def BN (a:WA):WI:=λρ M q=>a ρ M λxs M1=> ∃l,eŒ /\ kς
def BO (a:WA):WI:=λρ M q=>a ρ M λxs M1=>c7 λp l=>dU (xs= [wr p]) (M1 p=fĵ) (nΗ)
def zX {i:Nat}(m:ŉ)(rr:Ż)(hi:aİ =û)(hp:ņ): br H (lß) /\ gF K M (lß) /\ ∃z,cΥ =aŅ /\ WR K (lß) z ń:=by let⟨d,hd,r⟩:=rr.back hi;have ts:=L2.fY.ts (cq (o:= gΞ) hp);show#[ts,bň,_,OA hd,WR.UT cΔ (cW.cons WR.v (cW.cons (r.ts ts) cW.nil))]
def BR (hv:eŗ)(rr:eŘ): ∀i M H,br H1 H ->ŉ ->True ->(fŕ=i ->(K7 K p).stop i H) /\ (hğ ->(K7 K p).go i H) /\ ∀v H',hğ ->(K7 K p).O1 i H v H' ->pŉ:=by intro i M H ts m _;have va:=eř;have P8:=rr.ts ts;have hl:=P8.length;rw[uo];exact#[λh=>#[vs,va, qϳ],mι,hĕ];let⟨q,x,hq,rfl,rfl,y⟩:=y;show zX m P8 (y vs va) hq
def BS: ∀i M H,br H1 H ->ŉ ->M p=fĵ ->(fŕ=i ->(K8 K p).stop i H) /\ (hğ ->(K8 K p).go i H) /\ ∀v H',hğ ->(K8 K p).O1 i H v H' ->pŉ:=by intro i M H ts m hk;let⟨vs,hv,rr⟩:=m p _ hk;have hl:=rr.length;rw[uo];exact#[λh=>#[vs,ō, qϳ],nŵ,hĕ];let⟨q,x,hq,rfl,rfl,y⟩:=y;show zX m rr (y vs (ō)) hq
instance {t:TA}{a:WA} [ia:ŋ]:II K (JI K t) (BN a) where
 imp:=λρ M σ H q R o h k=>ia.imp ρ M σ H _ _ o h (by rintro xs M1 v H1 ⟨l,e,h1⟩ t1 m1 r1;exact by subst e;let⟨v,rfl,r⟩:=r1.one;let⟨p,vs,rfl,hv,rr⟩:=r.tup;show#[p,rfl,#[vs,hv],k _ _ _ M1 H1 h1 t1 m1 (BR hv rr)])
instance {t:TA}{a:WA} [ia:ŋ]:II K (JJ K t) (BO a) where
 imp:=λρ M σ H q R o h k=>ia.imp ρ M σ H _ _ o h (by rintro xs M1 v H1 ⟨p,l,e,hp,h1⟩ t1 m1 r1;exact by subst e;let⟨v,rfl,r⟩:=r1.one;cases r.eq;let⟨vs,hv,rr⟩:=cČ;show#[p,rfl,#[vs,ō],k _ _ _ M1 H1 h1 t1 m1 BS])
def Jz:BN a ρ M q=a ρ M λxs M1=>Bp xs λx=>tupK x λl=>kς:=by unfold BN Bp tupK;congr 1;funext xs M1;apply propext;symm;rintro⟨l,h,k⟩;show#[_,h,l,rfl,k];rintro⟨_,h,l,rfl,k⟩;show#[l,h,k]
def zO:BO a ρ M q=a ρ M λxs M1=>Bp xs λx=>gY x λp=>lstK aň λl=>nΗ:=by unfold BO Bp gY lstK;congr 1;funext xs M1;apply propext;symm;rintro⟨p,l,h,h2,k⟩;show#[_,h,p,rfl,l,h2,k];rintro⟨_,h,p,rfl,l,h2,k⟩;show#[p,l,h,h2,k]
universe e
universe WL
namespace WL
open PySem L2
def Cj {M1:Mp}(hz:ϧ)(h: ∀p,ţ -> ∃I:kĚ,gy mè qÈ (∀i x ys M,Χ ->bœ -> ∀N:hĐ,(∀ys M,I ß ys M ->N ys M) ->g x gô M λρ2 M2=>c ρ2 M2 λb M3=>iK b (el ρ2 M3 λy M4=>iϪ /\ N cΚ lΩ) (N ys M3)) nϙ):mϢ:=by exact#[hz,dî];let⟨I,h0,h1,h2,h3⟩:=h p hp;show#[I,h0,h1,λi x ys M hx hI=>h2 i x ys M hx hI _ λ_ _ z=>z,h3]
universe WL
namespace WQ
open PySem L2 WL WP
def Rk (p:Int)(l:ā):Prop:=(∀x∈l,0<=x /\ x<p) /\ ∀x,iŇ ->x≠0
def K0 (row:ā)(k:Nat)(x:Int):ā:=row.set k (row.getD k 0+x)
def gV (row:ā)(o:Nat)(l:ā)(n:Nat):ā:=(eŖ).foldl (λr i=>K0 r (o+i) (l.getD i 0)) row
def Xh (row:ā)(k:Nat)(x:Int)(b:ā):Nat ->ā
 | 0=>row
 | j+1=>K0 (Xh row k x b j) (k+j) (x*b.getD j 0)
def pw (p s:Int):cę
 | 0=>1
 | n+1=>pw p s n*s % p
def IH:ik:=λxs M q=>c7 λ cĚ=>kg (xs= [Í,Ì]) ϰ (0<s) (s<p) (∀r,0<r ->r<p ->r*s % p=1 ->q (wi r) M)
def Sc: ∀ (p s:Int),ϰ ->0<s ->s<p ->0<jĮ /\ jĮ<p /\ jĮ*s % p=1:=by intro p s hp h0 h1;have hs:s=1 \/ s=2 \/ s=3 \/ s=4 \/ s=5 \/ s=6:= ∅;obtain rfl | rfl | rfl | rfl:=hp <;>obtain rfl | rfl | rfl | rfl | rfl | rfl:=hs <;>first | decide | lia
universe WQ
namespace L2
open PySem PySem.Spec PyProof.Rows
def At.okE {K:iD}{st:Stmt}(F:iϙ)(S:gξ)(len: oŇ)(kK: ∀ (cdv:eX) (A:Around) (outer:ć) (s:eY) (H:Hp) (vs:Ä) (Q:VK) (E:XK),pİ ->dĖ ->∃t,w8 (iQ CX P w K mg base N qual Ħ f cdv A outer s H E) aϞ t /\ oŋ):cD P w K mg base CX Ü f fd ps sp:=by let⟨oc,od,kV,kf,pm,an,cdv,ct,Bn,rfl,lk,B7⟩:=F.ex;show Q1 lk B7 S len λA outer s H vs Q E hr xW=>mž
universe L2
namespace WL
open PySem L2 PySem.Spec PyProof.Rows
abbrev WX:=fR ->Ţ
abbrev uI:=Ë ->iϳ
section
variable {K:iD}
def up (e:WX):WX:=λC M'=> ∃M0,bŔ /\ e C M0
def Ex (K:iD)(e:WX):XK:=λcls _ H'=> ∃C M',dŵ /\ e C M' /\ ű
def Wj (K:iD)(p:uI):Sp:=λvs H Q E=> ∃ (xs:Ë) (M:Mp) (q:WK) (e:WX),eŐ /\ ŉ /\ p xs M q e /\ pŶ /\ ∀C M' H',e C M' ->ű ->E Ń none H'
def G_ (p:uI)(e:WX)(a:WA):WE:=λρ M q=>a ρ M λxs M1=>p xs M1 q (up e)
instance {p:uI}{e:WX}{t:TA}{a:WA} [ia:ŋ]:IE K (qG bŰ [] bű t) (G_ p e a) where
 imp:=λρ M σ H q Q o h k=>ia.imp ρ M σ H _ _ o h λx M1 v H1 h1 t1 m1 r1=>#[x,M1,q,_,by rw[List.append_nil];show r1,m1,h1,pĽ,(by rintro C M' H' ⟨M0,s,h⟩ m;exact #[C,M0,rfl,h,m.sub s])]
def GZ (C:fR)(e:WX)(a:WA):WS:=λ_ ρ M=>a ρ M λxs M'=>ϧ /\ up e C M'
instance {C:fR}{e:WX}{t:TA}{a:WA} [ia:ŋ]:IS K (AY C bű t) (GZ C e a) where
 imp:=λρ M σ H D' D o h ends=>ia.imp ρ M σ H _ _ o h (by rintro x M1 v H1 ⟨hl,M0,s,h1⟩ t1 m1 r1;exact #[by rw[r1.length];show hl,C,M0,rfl,h1,m1.sub s])
def Ee (i:Nat)(D:fG):fG:= qŢ
def E3.HH (h:eŌ)(i:Nat):E3 K H gΤ gΓ:=by exact mà;rw[List.getElem?_set] at e ⊢;split at e;split at e<;>cases e;rename_i hj;rw[aj hj];show h.2 j y e
theorem Ok.HH (o:ώ)(i:Nat):Ok K gΤ M gΓ H:=#[o.env.HH i,o.hp]
def Rt (K:iD):Cv:=λxs M q=> ∃a C c cu b,xs= [wr a, .v c] /\ hϝ /\ aŀ /\ RelV c cu /\ kę /\ W.kitOne K Ń cu=aþ /\ cΦ
instance:IC K (zk K) (Rt K) where
 imp:=by rintro xs v M H q Q m r1 ⟨a,C,c,cu,b,rfl,ha,kc,rc,only,e,h⟩ k;let⟨v,u,rfl,r,r'⟩:=r1.two;cases r.eq;cases r'.eq;show#[a,C,c,cu,b,rfl,m a _ ha,kc,rc,only,e,mŏ]
def okX {st:Stmt}(F:iϙ)(S:gξ)(len: ∀vs M q e,p vs M q e ->iύ)(kK: ∀ (cdv:eX) (A:Around) (outer:ć) (s:eY) (H:Hp) (E:XK) (e:WX),pİ ->E4 pŊ bű ->kh bĽ pŊ bű ->∃ t,w8 pŊ aϞ t /\ ∃w',cĈ /\∀vs M q,p vs M q e ->qϊ): cD P w K mg base bĽ Ü f fd ps bŰ:=by
 exact At.okE F S ((by rintro vs H Q E ⟨xs,M,q,e,r,m,h,_⟩;exact by rw[r.length];show len xs M q e h)) nđ;let⟨xs,M,q,e,r,m,h,k',kE⟩:=h;have hE: ∀c d H',Ex K e c d H' ->E c none H':=(by rintro c d H' ⟨C,M',ec,he,m'⟩;exact by rw[ec];show kE C M' H' he m')
 let⟨t,h1,w',h2,h3⟩:=kK cdv A outer s H E e hr (λai σ H1 s1 h' ea cls us I mk z=>Ki ai σ H1 s1 h' ea cls us I mk (hE _ _ _ z)) (λai σ H1 s1 ev s2 I z=>Bm ai σ H1 s1 ev s2 I (by let⟨ea,cls,a0,B,H',r1,r2,r3,r4,r5,r6,r7,r8,r9,r⟩:=z;show#[ea,cls,a0,B,H',r1,r2,r3,r4,r5,r6,r7,r8,r9,hE _ _ _ r]));exact#[t,h1,h2.imp _ M _ H _ _ kμ fĹ #[?_,?_,iϧ,iϧ]];have:=r.length;simp[L2.start,this];have hl:=r.length;unfold L2.start;by_cases hi:dĠ;rw[bĬ,aF] at e;cases ex:aý with
 | none=>rw[ex] at e;cases e
 | some y=>rw[ex] at e;cases e;let⟨v,hv,rv⟩:=r.at ex;exact#[v,?_,rv];rw[qŚ,aF,hv];rfl
 rw[bī,dX] at e;split at e<;>cases e;rintro ρ' M' σ' H' ⟨M0,s,hq⟩ ts o;show k' _ M0 _ H' hq ts (o.hp.sub s) WR.v;rintro x M' v H' ⟨M0,s,hq⟩ ts m' r';show k' x M0 v H' hq ts (m'.sub s) r'
universe e
universe WL
namespace L2
open PySem PySem.Spec PyProof.Rows PySem.Calls
section
variable {X:Cx}
theorem Nb {K:iD}: PassesOwn dą (pă).A (pă).env (pă).xe:=PassesOwn.leaving (Q₁:=λe s2=>uP P w outer H s E e s2)
def V_ (te:TE):TE:=λσ H Q=>te σ H λv H1=> ∃i:Int,dU (v= Ă) jį (Q (.str eŰ) H1)
def Bk (he:cÞ):PE X (.FormattedValue e Î none pos) (V_ te):=by
 intro ai s σ H Q I h;exact FormattedValue_plain mÒ;rintro v s1 ⟨x,H1,I1,r,i,rfl,hi,q⟩;let⟨t,rfl⟩:=(show ∃t,v=fñ from r)
 show formatField_int_small hi #[aħ,H1,I1.tok _,Ļ,q]
def tJ0 (out:Str):TE:=λ_ H Q=>jİ /\ Q (.str out) H
def tJ1 (te:TE)(k:bŲ)(out:Str):TE:=λσ H Q=>te σ H λv H1=> ∃y,dU (v= .str y) lϕ (k (out++y) σ H1 Q)
def PJ (X:Cx)(es:ġ)(k:bŲ):Prop:= ∀ (out:Str) (ai:ψ) (s:eY) (σ:St) (H:Hp) (Q:VK),Ϙ ->k out σ H Q ->wpAny ϣ X.A (joinParts out (hϞ)) Ω X.xe s
theorem Il:PJ X [] tJ0:=(by rintro out ai s σ H Q I ⟨hz,q⟩;exact joinParts_nil #[.str out,H,Ģ,Ļ,q] hz)
def jV (he:cÞ)(hk:PJ X es k)(hs:evalEach aϒ X.env=eĒ::hϞ:=by rfl):PJ X aϒ (tJ1 te k):=by
 intro out ai s σ H Q I h;rw[hs];exact joinParts_cons mÒ;rintro v s1 ⟨x,H1,I1,r,y,rfl,hz,q⟩;let⟨t,rfl⟩:=(show ∃t,v=Value.str y t from r)
 show#[hz,hk _ ai s1 σ H1 Q I1 q]
theorem DA (h:PJ X dŶ k):PE X (.JoinedStr dŶ pos) (k Str.empty):=λai s σ H Q I hq=>JoinedStr_many (h Str.empty ai s σ H Q I hq)
universe e
universe L2
namespace WL
open PySem L2 PySem.Spec PyProof.Rows
section
variable {K:iD}
def Ru (a:WE):WE:=λρ M q=>a ρ M λx M1=> ∃i:Int,dU (aŃ) jį lâ
instance {t:TE}{a:WE} [ia:Ŋ]:IE K (V_ t) (Ru a) where
 imp:=λρ M σ H q Q o h k=>ia.imp ρ M σ H _ _ o h (by rintro x M1 v H1 ⟨y,e,hz,h1⟩ t1 m1 r1;exact by subst e;show#[y,r1.eq,hz,lĥ])
def wJ0 (out:Str):WE:=λ_ M q=>jİ /\ eű
instance {out:Str}:IE K (tJ0 out) (wJ0 out) where
 imp:=(by rintro ρ M σ H q Q o ⟨hz,h⟩ k;exact #[hz,k _ M _ H h Ž o.hp WR.v])
def wJ1 (a:WE)(f:Str ->WE)(out:Str):WE:=λρ M q=>a ρ M λx M1=> ∃y,dU (x=ws y) lϕ jı
instance {t:TE}{a:WE}{f:bŲ}{g:Str ->WE}{out:Str} [ia:Ŋ] [ig: ∀o,IE K (f o) (g o)]:IE K (tJ1 t f out) (wJ1 a g out) where
 imp:=λρ M σ H q Q o h k=>ia.imp ρ M σ H _ _ o h (by rintro x M1 v H1 ⟨y,e,hz,h1⟩ t1 m1 r1;exact by subst e;show#[y,r1.eq,hz,(ig _).imp ρ M1 σ H1 q Q ω h1 λx2 M2 v2 H2 q2 t2 m2 r2=>k x2 M2 v2 H2 q2 fĲ m2 r2])
universe e
universe WL
namespace L2
open PySem PySem.Spec PyProof.Rows PySem.Calls PySem.W
def LqkT:Value ->Str
 | .str n _=>n
 | _=>""
theorem Lqtm {K:PySem.W.Frag}{mg:iā}{h₀:Heap}(m:fŖ)(p:Program): ∃loose mb,PySem.W.TopRead p loose mg mb h₀:=by
 let⟨mb,b,hb⟩:=m.blt;let⟨o,es,ep,ho,hd,hs,hn⟩:=m.glob
 refine ⟨es.toList.map (λe=>LqkT e.key),mb,m.glob,b,m.nolimit,hb,λx _ hx _ _ _=> ?_⟩
 rw[<-hn x]
 change (es.find? λe=>e.key.isStr x).map _=none
 rw[Array.find?_eq_none.mpr]
 · rfl
 · intro e he hk
   let⟨n,q,hq⟩:=hs e he
   refine hx (List.mem_map.mpr ⟨e,by simpa using he,?_⟩)
   rw[hq] at hk ⊢
   first | exact hĠ | exact (hĠ).symm | exact jĲ | exact (jĲ).symm
def ss {K:iD}(m:fŖ)(e:oá)(q:excIn K C bmB Ql=true):OwnCls x C bmB Ql mg h₀:=by let⟨_,_,T⟩:=Lqtm m default;exact own_of_in m.S4 T e q
structure AA (K:PySem.W.Frag)(x:Str)(C:Addr):Prop where
 ns:oá
 exc:excIn K C Y1 jģ =true
 k:aŀ
theorem vQ {np fO pos:Pos}{rest:ġ}(hF:E4 X E)(hc:ŷ)(hg:ċ)(O:cΧ)(ha:PA X eņ t)(oy:ϴ:=by decide)(he:pΗ:=by rfl)(lI:oĻ=false:=by rfl): pϵ:=λai s σ H D I h=>Ie hF hc hg (kĥ) ha oy he lI ai s σ H D I h
universe L2
namespace WL
open PySem L2
def SO:W ->Bool
 | .v x=>gΥ
 | aĽ=>false
def Qa:R2:=λx y H Q=>y= .fw /\ Q (.bl (! gΥ)) H
def VC:Gr:=λx y M q=>y=wn /\ q (wb (!SO x)) M
instance {K:iD}:IR K Qa VC where
 imp:=by
  rintro x y v u M H q Q m r1 r2 ⟨rfl,h⟩ k;exact#[r2.eq,mä];cases x with
  | v x=>rw[r1.eq];show WR.v
  | tup l=>let⟨a,vs,rfl,_⟩:=r1.tup;show WR.v
theorem IK:uU X iĐ Qa:=Nd
theorem Kq (hx:bŕ)(hy:DR M y d)(hd:bĺ)(hs:sf d d=true)(h:q (aϥ) M):Rw x y M q:=#[d,d,hx,hy,hs,hd,by rw[l_];show h]
theorem sx (ha:hϝ)(k:aŀ)(e:nĬ)(h:cΦ):Rt K [wr a, .v bĶ] M q:=#[a,C, aĻ, aĻ,b,rfl,ha,k,rfl,bĴ,e,h]
theorem JE (ha:hϝ)(k:aŀ)(e:W.kitOne K Ń (.type D)=aþ)(h:cΦ):Rt K [wr a, .v (.ty D)] M q:=#[a,C, .ty D, .type D,b,rfl,ha,k,rfl,bĴ,e,h]
universe WL
namespace L2
open PySem PySem.Spec PyProof.Rows
def Keeps (S:Nat ->Prop)(g:TG):Prop:= ∀ (σ:St) (v:V) (H:Hp) (Q:Ψ),g v σ H Q ->g v σ H λσ2 H2=>(σ2.length=σ.length /\ ∀i,¬S i ->σ2[i]? =σ[i]?) /\ Q σ2 H2
def pe (h:S n):Keeps S (ls n):=by intro σ v H Q q;exact#[kĦ,q];rw[List.getElem?_set_ne];intro e;subst e;show hi h
def DX {K:iD}(h:S n)(h':S m):Keeps S (Op K 2 (wo (ls n) (wo (ls m) Oq))):=by rintro σ v H Q ⟨a,xs,e,hs,hl,x,r,rfl,y,r',rfl,rfl,q⟩;exact#[a,_,e,hs,hl,x,_,rfl,y,_,rfl,rfl,kĦ,q];rw[List.getElem?_set_ne,List.getElem?_set_ne];intro e;subst e;show hi h;intro e;subst e;show hi h'
def EU (h:gÜ[i]? =fü):own<=i:=by unfold lA at h;obtain c | c:=d4 i own;rw[bi ⇑c,dX,am c] at h;cases h;show c
def inW (CL:TI)(g2:TG)(uX:TT)(te:TE)(σ2:St)(p:fR)(H4:Hp)(N:hï):Prop:=CL σ2 H4 λJ2 H5=> ∃Z:mÝ,(∃m zs,Z 0 m zs H5) /\ ∀j k zs H6,Z j k zs H6 ->H6 p=gÌ /\((J2.stop j H6 /\ N zs H6) \/ (J2.go j H6 /\ iĥ /\ ∀y H7,J2.O1 j H6 y H7 ->g2 y σ2 H7 λσ3 H8=>uX σ3 H8 λc H9=>if aĞ then te σ3 H9 λz Vm=> ∃ws,Vm p=some (.lst ws) /\ ws.length<sizeLine /\ ∃k',k'<k /\ Z Þ k' (ws++ [z]) (cR Vm p (.lst (ws++ [z]))) else ∃ws k',lã))
def KD (J:It)(own:Nat)(fr:Ď)(g:TG)(tc:TT)(CL:TI)(g2:TG)(uX:TT)(te:TE)(σ:St)(p:fR)(H1:Hp)(Q:VK):Prop:=∃ W :mÝ,nĤ /\ ∀i m ys H',dĻ ->H' p=gÚ /\(mŊ \/ (J.go i H' /\ ∀x H2,gÛ ->g x gÜ H2 λσ2 H3=>tc σ2 H3 λb H4=>if ò then inW CL g2 uX te σ2 p H4 λzs H5=> ∃m',m'<m /\ W ß m' zs H5 else nÍ))
def A0 (wi:TI)(own:Nat)(fr:Ď)(g:TG)(tc:TT)(CL:TI)(g2:TG)(uX:TT)(te:TE):TE:=λσ H Q=>wi σ H λJ H1=> ∀p,cï ->KD J own fr g tc CL g2 uX te σ p H1 Q
abbrev v0 (iP tg iter:Expr)(iL:ġ)(kj df:Expr)(fX:ġ)(scope:Scope)(pos:Pos):Expr:= pØ
def Mc (iP tg iter:Expr)(iL:ġ)(kj df:Expr)(fX:ġ)(scope:Scope)(pos:Pos)(it fU:eX)(env:Env): pĐ=(do
 standAt iter.pos
 let r <- cþ
 match r with
 | none=>iň
 | ă=>do
  kτ
  gΦ
  let ok <- qχ
  if aϟ then do
   let x <- dŷ
   gĀ
   let x <- lŨ
   let i2 <- holding [x] cΨ
   let _ <- runOwn pŋ env
   again pľ
  else again pľ):=by rfl
def Mb (iP tg iter:Expr)(iL:ġ)(kj df:Expr)(fX:ġ)(scope:Scope)(pos:Pos)(it fU:eX)(env:Env): pđ=(do
 gĀ
 let r <- cþ
 match r with
 | none=>iň
 | ă=>do
  kυ
  gΧ
  let ok <- qψ
  if aϟ then do
   ((do let _ <- call lË [fU, <- dĺ]):Sem Unit)
   again pĿ
  else again pĿ):=by rfl
def HA (h0:qó)(h:wpAny Φ A (pyIter it) (λit' s'=>codeAny Φ A (.compLoop Ϸ 1 it' fU env) R s') (notedBy Φ A env λx s'=>R (.error x) s') s): codeAny Φ A (.compStart Ϸ 1 it fU env) R s:=by
 exact codeAny_of_tree ?_;change wpAny _ _ ((compStart Ϸ 1 it fU env).onRaise (λx=>do gτ;standAt theWindowsPlace)) _ _ s;exact wpAny_notedAt ?_;unfold compStart;change wpAny _ _ (ask >>=_) _ _ s;exact ak (wpAny_askSetting (wpAny_ite ?_));split;first
 | show ak (aN (jϞ))
 | show jϞ
 first
 | show ak (wpAny_rule (pϦ))
 | (exact iŉ;change wpAny _ _ (gĀ >>=_) _ _ s;show pϦ)
theorem NA (I:gς)(turn : ∀n s,aÝ ->wpAny Φ A (cþ) (λr s₁=>match r with
   | none=>iĤ
   | ă=>wpAny Φ A (kυ) (λ_ s₀=>wpAny Φ A (gΧ) (λ_ s₂=>
    wpAny Φ A (qψ) rÑ ό s₂)
    ό s₀) ό s₁) ό s)(n:Nat)(h:aÝ):qó:=by
 exact nχ
 change wpAny _ A ((pđ).onRaise oĢ) _ _ s
 exact gØ
 rw[Mb]
 exact qÀ
 cases r with
 | none=>show aN h₁
 | some v=>
  exact oΙ;exact oΚ;exact oϳ;cases W9 with
  | false=>show gÙ
  | true=>show qź
theorem NC (I:gς)(hs: ∀x,lŨ=pure x)(turn : ∀n s,aÝ ->wpAny Φ A (cþ) (λr s₁=>match r with
   | none=>iĤ
   | ă=>wpAny Φ A (kτ) (λ_ s₀=>wpAny Φ A (gΦ) (λ_ s₂=>
    wpAny Φ A (qχ) (λok s₃=>if aϟ then wpAny Φ A (dŷ) (λx s₄=>wpAny Φ A cΨ (λi2 s₅=>codeAny Φ (A.mark none) pŋ (λr s₆=>match r with | .ok _=> ∃m,m<n /\ I m s₆ | .error _=>False) s₅) ό s₄) ό s₃ else jĞ) ό s₂)
    ό s₀) ό s₁) ό s)(n:Nat)(h:aÝ):codeAny Φ A pľ R s:=by
 exact nχ
 change wpAny _ A ((pĐ).onRaise oĢ) _ _ s
 exact gØ
 rw[Mc]
 exact qÀ
 cases r with
 | none=>show aN h₁
 | some v=>
  exact oΙ;exact oΚ;exact oϳ;cases W9 with
  | false=>show gÙ
  | true=>
   exact ak (bK h₃ (λx s₄ h₄=> ?_) hΦ);exact jο;rw[hs];exact ak (aN (ak (wpAny_holding (bK h₄ (λi2 s₅ h₅=> ?_) hΦ))));exact ak (wpAny_runOwn ?_);exact codeAny_mono h₅ λr s' z=> ?_;cases r with
   | ok f=>show aN #[rfl,z]
   | error e=>show z.elim
def rC {σ:St}{RR:mÞ}(jF:ŷ)(S:jĝ)(hg: oĹ)(Tr:gā)(hw:iϴ)(hc: oō)(Yc: ∀s3 H3,nϣ)(Ye: ∀s3 H3,nŌ)(XB:nŶ)(J8: ∀s3 H3,nō)(he: oŎ)(lq: ∀s3 H3 x,pŀ)(lr: pè)(pG: pĢ)(I:Ϙ)(T:mŸ)(st:dļ)(xZ: jς)(h: ∀p,ņ ->KD J own.length fr g tc CL g2 uX te σ p H Q)(fin: rÒ): wpAny ϣ X.A eŀ (λfU s₃=>wpAny ϣ X.A pϛ (λKH s₄=>codeAny ϣ X.A (.compStart Ϸ 0 cß fU nł) hΧ s₄) E s₃) E s:=by
 exact jĠ;have hf:kŹ:=hΓ;let⟨W,dă,turn⟩:=h _ hf;generalize e3:qč=s3;have RN:nŃ:=by rw[<- e3];show eM ..
 have up3: oϠ:=λb o e=>by rw[<- e3];show aĢ
 have I3:oμ:=by rw[<- e3];show pΖ
 have TY: mÛ:=λb hb=>by let⟨o,e,_⟩:=hΨ;show Æ
 have B6: pÌ:=pŔ
 exact pϯ;have old: oΜ:=oģ;have Ic:=qŞ;have Fb:tn 0 h₁:=oų;have sW: qŨ:=λhn b hb=>by exact qω;change jΥ;rw[RN];show a_ (lΤ);show fĨ
 have loop : codeAny ϣ X.A (.compLoop Ϸ 0 cß ků (oÚ)) oŠ pģ:=by
  exact NC qϱ (lq s3 H) ?_ m0 nψ;rintro n s4 ⟨i,ys,H4,I4,gM,Ou,w4⟩;let⟨FT,alt⟩:=hΩ;rcases alt with⟨stop,q⟩ | ⟨go,step⟩
  .exact qΘ;rintro r s5 ⟨hr,I5⟩;subst hr;show pĤ
  exact qΕ;rintro r s5 ⟨u,hr,h5⟩;subst hr;exact dz h5 ?_;rintro _ s6 ⟨x,H6,I6,r6,y6,RT,fr6⟩;have I6':=nÏ;have Pz:=lŠ;exact oÛ;rintro _ s7 ⟨σ7,H7,I7,wk,q7⟩;have wk1: ∀ (j:Nat) v,jΡ[j]? =fü ->kħ:=λj v e=>by rw[wk.2 j (by have:=EU e;lia)];show e
  have wk2: ∀j,n1<=j ->j<own.length -> ∀v,σ7[j]? ≠fü:=λj h1 h2 v e=>by rw[wk.2 j ∅] at e;have:=EU e;exact Lqg Û Ϯ π (LqNp h2 this) rfl
  have again: ∀ {σ9:St} {H9:Hp} {s9:eY} {Rm:Ä},σ9.length=σ7.length ->(∀ (j:Nat) v,kħ ->σ9[j]? =fü) ->Inv ϸ iϜ σ9 H9 s9 ->rÇ:=λ{σ9 H9 s9 Rm} hl9 hv9 I9 gÝ=>by exact#[m',hm,i+1,Rm,H9,eŁ ?_ λj v e=>hv9 j v (wk1 j v e),pγ,Ÿ,w9];rw[hl9,wk.1];let⟨o,e,d⟩:=hϊ;show oÿ
  exact nĦ;rintro ok s8 ⟨H8,I8,q8⟩;cases ok with
  | false=>simp![aD,bB] at q8 ⊢;let⟨zs,q8⟩:=q8;show again rfl (cŜ) I8 q8
  | true =>
   simp![ci] at q8 ⊢;exact dz (Yc s3 _ _ s8 σ7 H8 _ I8 q8) λv2 s9 h9=>dz h9 λS_ s10 _M=> ?_;let⟨zP,YB,tn2,J2,Vm,e10,I10,T2,Wh,f10,Z,⟨mz,z0,AE⟩,VW⟩:=_M;subst e10;have Hz: ∀ {H':Hp},jϟ -> ∀b∈YB,li ϸ iϜ H' b:=λhn b hb=>#[hn b hb,(f10 b hb).2]
   have Qr:codeAny ϣ X.A (.compLoop Ϸ 1 (.ref zP) ků (oÚ)) (λr s₆=>match r with
   | .ok _=> ∃m,m<n /\ gL λi ys H'=>gy (Inv ϸ [] jΡ H' s₆) (tn i s₆.heap) jτ (dĻ)
   | .error _=>False) s10:=by
    exact NA (λk s'=>gL λj zs H'=>gy (Inv ϸ iϜ σ7 H' s') (tn2 j s'.heap) jϟ (Z j k zs H')) ?_ mz #[0,z0,Vm,I10,Wh,λb hb=>(f10 b hb).1,AE]
    rintro k s11 ⟨j,zs,H11,I11,Wg,YA,z11⟩
    let⟨aft,aeL⟩:=VW j k zs H11 z11
    rcases aeL with⟨Wc,qN⟩ | ⟨go2,hsz2,Wf⟩
    exact dz (T2.done ϸ rfl rfl rfl jF j _ s11 _ H11 ό I11 (Hz YA) Wg Wc) ?_;rintro r s12 ⟨hr,I12⟩
    subst hr
    show again rfl (cŜ) I12 qN
    exact dz (T2.item ϸ rfl rfl rfl jF j _ s11 _ H11 ό I11 (Hz YA) Wg go2) ?_;rintro r s12 ⟨u2,hr,h12⟩
    subst hr
    exact dz h12 ?_;rintro _ s13 ⟨x2,H13,I13,r13,y13,RU,aep⟩
    have aeQ:=I13.pinned (Hz aep) (T2.obj _ _ RU)
    have aaN:=XB _ x2 H13 _ (Wf x2 H13 y13)
    exact dz (Ye s3 _ _ s13 _ H13 x2 u2 _ aeQ r13 aaN) ?_;rintro _ s14 ⟨σ14,H14,I14,Vr,q14⟩
    have Rg: ∀ {H9:Hp} {s9:eY} {ws:Ä},Inv ϸ (iϜ++jx YB s13.heap) σ14 H9 s9 ->(∃k',lã) ->∃m,m<k /\ gL λj zs H'=>gy (Inv ϸ iϜ σ7 H' s9) (tn2 j s9.heap) jϟ (Z j m zs H'):=λ{H9 s9 ws} I9 ⟨k',l5,z9⟩=>by exact#[k',l5,j+1,ws,H9,eŁ Vr.1.symm λa v e=> ?_,T2.keep _ _ _ RU oϴ,Ÿ,z9];rw[Vr.2 a λhS=>wk2 a hS.1 hS.2 v e];show e;let⟨o,e,d⟩:=T2.obj _ _ RU b hb;show oÿ
    exact dz (J8 s3 _ _ s14 σ14 H14 _ I14 q14) ?_;rintro ok2 s15 ⟨H15,I15,UQ⟩
    cases ok2 with
    | false=>simp![aD,bB] at UQ ⊢;let⟨ws,UQ⟩:=UQ;show Rg I15 UQ
    | true=>simp![ci] at UQ ⊢;exact dz (he s3 _ _ s15 σ14 H15 _ I15 UQ) ?_;rintro y s16 ⟨yv,H16,I16,ry,ws,abz,abu,q16⟩;exact dz (mL _ s16 σ14 H16 ků [yv] ků [y] (λv H'=>H'=cR H16 s.heap.objs.size (.lst (ws++ [yv]))) I16 rfl gψ #[_,ws,yv,rfl,rfl,abz,abu,rfl]) ?_;rintro v s17 ⟨_,H17,I17,_,e17⟩;subst e17;show Rg I17 q16
   change codeAny _ X.A _ _ s10;show HA Qr (T2.self _ 0 _ _ _ Wh Qr)
 show pÕ
def Iw {pos:Pos}(jF:ŷ)(S:jĝ)(hi:gŶ)(hg: oϒ)(Tr:gā)(hw:iϴ)(hc: oϡ)(Yc: pÙ)(Ye: oϧ)(XB:nŶ)(J8: oϨ)(he: oϢ)(hs: où:=by intro _;rfl)(lq: pϧ:=by intro _ _ _ _ _;rfl):PE X (pØ) nΘ:=by intro ai s σ H Q I h;let⟨cl,uh,lr,pG⟩:=iϝ;rw[eval_ListComp];exact qů;let⟨it,fp,tn,J,H2,e,I2,T,nh,f2,h2⟩:=h2;subst e;exact rC (RR:=pμ) jF S cθ Tr hw cι (Yc cl fp) (Ye cl fp) XB (J8 cl fp) cμ (lq cl fp) lr pG I2 T nh f2 h2 ?_;intro s3 H3 I3 f3 D σ' H' s' t hD Ic q;let⟨m,hn,_⟩:=Ic.loc;exact nΑ;show nĐ
def qQ {pos Fc iW:Pos}(jF:ŷ)(hN:X.N.Nodup)(hx:gū)(hl:hδ)(S:jĝ)(hi:gŶ)(hg: oϒ)(Tr:gā)(hw:iϴ)(hc: oϡ)(Yc: pÙ)(Ye: oϧ)(XB:nŶ)(J8: oϨ)(he: oϢ)(hsw:swapsWith (pØ) iΡ Fc.line X.env=pure true)(hs: où:=by intro _;rfl)(lq: pϧ:=by intro _ _ _ _ _;rfl)(hf:pÈ:=by first | show Ķ | show ĺ | assumption): PS X (.Assign [cű] (pØ) Fc) (E9 nΘ aĠ):=by
 intro ai s σ H D I h;let⟨cl,uh,lr,pG⟩:=iϝ;rw[nÐ];exact lš;change wpAny _ X.A (do let _ <- comprehension Ϸ scope X.env _ eŀ false hπ (mϜ)) _ _ s;exact rÈ;let⟨it,fp,tn,J,H2,e,I2,T,nh,f2,h2⟩:=h2;subst e;exact rC (RR:=qŝ) jF S cθ Tr hw cι (Yc cl fp) (Ye cl fp) XB (J8 cl fp) cμ (lq cl fp) lr pG I2 T nh f2 h2 ?_;intro s3 H3 I3 f3 Da σ' H' s' t hD Ic q;let⟨m,hn,_⟩:=Ic.loc;have I5:=dĽ;change pú;exact qě;let⟨a,sb,ha⟩:=NV;have c6:jΦ:=by obtain rfl | ha:=ha;show iĦ;let⟨v,z⟩:=gÞ;show hϋ
 exact pŚ
universe L2
namespace WL
open PySem L2
section
variable {K:iD}
def Tb (yB:Ë)(gQ:Ţ)(g2:WG)(c2:WT)(el:WE)(ρ2:dj)(p:fR)(ys:Ë)(M4:Mp)(N:hĐ):Prop:=∃I2:kĚ,gy (I2 0 ys M4) (∀j zs M,eŲ ->I2 j zs M ->gQ M /\ M p=gÌ /\ iĥ) (∀j y zs M,yB[j]? =aġ ->I2 j zs M ->g2 y ρ2 M λρ3 M5=>c2 ρ3 M5 λb M6=>if ò then el ρ3 M6 λz M7=>M7 p=gÌ /\ I2 Þ (zs++ [z]) (um M7 p (.lst (zs++ [z]))) else I2 Þ zs M6) (∀zs M,I2 yB.length zs M ->N zs M)
def yj (xs:Ë)(keep:Ţ)(own:Nat)(fr:Ď)(g:WG)(c:WT)(zP:WI)(g2:WG)(c2:WT)(el:WE)(ρ:dj)(M1:Mp)(q:WK):Prop:= ∀p,ţ -> ∃I:kĚ,gy mè (∀i ys M,eŚ ->bœ ->aņ /\ iķ) (∀i x ys M,Χ ->bœ ->g x gô M λρ2 M2=>c ρ2 M2 λb M3=>if ò then zP ρ2 M3 λyB gQ M4=>Tb yB gQ g2 c2 el ρ2 p ys M4 (I ß) else fĿ) nϙ
def G9 (it:WI)(own:Nat)(fr:Ď)(g:WG)(c:WT)(zP:WI)(g2:WG)(c2:WT)(el:WE):WE:=λρ M q=>pŕ
theorem VM:G9 it own fr g c zP g2 c2 el ρ M q=pŕ:=rfl
instance {ti:TI}{own:Nat}{fr:Ď}{g:TG}{tc:TT}{ti2:TI}{g2:TG}{uX:TT}{te:TE}{it:WI}{w:WG}{c:WT}{zP:WI}{w2:WG}{c2:WT}{el:WE} [ii:cΙ] [ig:bŏ] [ic:cĆ] [ii2:II K ti2 zP] [ig2:IG K g2 w2] [ic2:IT K uX c2] [ie:IE K te el]: IE K (A0 ti own fr g tc ti2 g2 uX te) (G9 it own fr w c zP w2 c2 el) where
 imp := λρ M σ H q Q o h k=>ii.imp ρ M σ H _ _ o h λxs keep J M1 H1 h1 t1 m1 ok=>by
  intro p hp;let⟨I,h0,hk,hs,hd⟩:=iĲ;have tp:=mœ;exact rÂ;rintro i m vs H' ⟨rfl,hi,ys,M',hI,ts,m',rv,hv⟩;exact#[hv,?_];let⟨kp,hMp⟩:=hĖ;let⟨k1,k2,k3⟩:=iϫ;by_cases gu:dĠ;exact .inr #[k2 gu,fļ];let⟨ty,my,x,hx,r⟩:=eś;replace ts:=dř;have oc:oÄ:=oÅ
  exact qΑ;cases b with
  | true=>
   simp![ci] at h4 ⊢;exact ii2.imp ρ3 M4 σ3 H4 _ _ fŀ h4 λyB gQ J2 M5 H5 h5 t5 m5 ok2=> ?_;let⟨I2,h20,AF,lq,Vb⟩:=h5;have tt5:=ts.trans (kě);have at5: ∀ {M6:Mp} {H6:Hp} {zs:Ë},M6 p=gÌ ->gF K M6 H6 -> ∃vs,H6 p=gï /\ cW K H6 zs vs:=λh m=>by let⟨vs,hv,rr⟩:=m p _ h;show#[vs,hv,rr]
   let⟨Pe,JM,Mx⟩:=at5 (AF 0 ys M5 (dm _) h20).2.1 m5;exact#[λj m vs H'=>m=yB.length - j /\ eŲ /\ c7 λzs M'=>kg (I2 j zs M') (br H5 H') (ű) (cW K H' zs vs) (H' p=gï),#[_,Pe,rfl,dm _,ys,M5,h20,cď,m5,Mx,JM],?_];rintro j m2 vs6 H6 ⟨rfl,hj,zs,M6,hI2,VX,m6,rv6,hv6⟩;exact#[hv6,?_];let⟨NF,afG,hzl⟩:=AF j zs M6 hj hI2;let⟨a1,a2,a3⟩:=ok2 j M6 H6 VX m6 NF;by_cases zR:j<yB.length;exact .inr #[a2 zR,by rw[rv6.length];show hzl,λu7 H7 y7=> ?_];let⟨ty7,my7,x7,hx7,r7⟩:=a3 u7 H7 zR y7;have o7:Ok K ρ3 M6 σ3 H7:=#[o3.env.ts ((t4.trans t5).trans (eų)),my7]
   exact ig2.imp x7 u7 ρ3 M6 σ3 H7 _ _ o7 r7 (lq j x7 zs M6 hx7 hI2) λρ8 M8 σ8 H8 h8 t8 o8=>ic2.imp ρ8 M8 σ8 H8 _ _ o8 h8 λb9 M9 H9 h9 t9 m9=> ?_;cases b9 with
   | true=>simp![ci] at h9 ⊢;exact ie.imp ρ8 M9 σ8 H9 _ _ (o8.mv t9 m9) h9 ?_;rintro z M10 u Vm ⟨_M,h11⟩ t10 m10 r10;let⟨L_,JN,HM⟩:=m10 p _ _M;have t11:=qf (u:= .lst (L_++ [u])) JN;exact#[L_,JN,by rw[HM.length];show hzl,_,?_,rfl,zR,_,_,h11,((nē).trans t10).trans t11,m10.putL JN (dŸ),(dŸ).ts t11,ce];lia
   | false=>simp![aD,bB] at h9 ⊢;let⟨L_,JN,HM⟩:=at5 (AF Þ zs M9 zR h9).2.1 m9;exact#[L_,_,?_,rfl,zR,_,_,h9,nē,m9,HM,JN];lia
   have e':j=yB.length:= (by exact LqNx (Lqj Û Lq0 Lq1 Lq0 Lq1 hj rfl) (Lqj Û Lq0 Lq1 Lq0 Lq1 (LqNz zR) rfl));subst e';exact .inl #[a1 rfl,_,?_,rfl,gu,zs,M6,Vb zs M6 hI2,tt5.trans VX,m6,rv6,hv6];lia
  | false=>simp![aD,bB] at h4 ⊢;let⟨Pe,JM,Mx⟩:=m4 p _ lØ;exact#[Pe,_,?_,rfl,gu,_,_,h4,kĜ,m4,Mx,JM];lia
  have e':dŚ:= qĀ;subst e';show pň
def lX {α:Type}{f:aŖ}{l:Ý}{i:Nat}(h:(l.map f)[i]? =û): ∃a,ç =Ċ /\ x=f a:=by
 rw[aF] at h;cases e:ç with
 | none=>rw[e] at h;cases h
 | some a=>rw[e] at h;cases h;show eŴ
def Ge {α β:Type}{l:Ý}{fW:aŖ}(dB:α ->eV β)(gW:aŗ)(eW:α ->aŗ){M1:Mp}(hz:(l.map iŊ).sum<sizeLine)(kJ: jϔ)(hs: ∀a∈l, ∀M,aϧ -> ∀ (B:dj ->mŎ) (N0:Ţ),(∀ρ2 gQ,(∀M',bų ->gQ M') ->(∀b∈dB a, ∀M',bų -> ∀N:hė,N (some (eW a b)) M' ->qĕ) ->B ρ2 ((dB a).map gW) gQ M) ->qĻ)(hq: ∀p,ţ ->q Đ (um M1 p (.lst (l.map kĨ).flatten))): oΤ:=by
 intro p hp;have d_: ∀k:Ý,(k.map kĨ).flatten.length=(k.map iŊ).sum:=λk=>by rw[List.length_flatten,aK];congr 1;apply bI;intro a _;simp
 have XG: ∀i:Nat,nϤ<=(l.map iŊ).sum:=λi=>by
  have e:(l.map iŊ)=(gĂ iŊ)++((bë).map iŊ):=by rw[<- aO,bD]
  rw[e,List.sum_append];exact pĀ
 exact#[λi ys M=>iϬ /\ ys=oŴ,gõ,?_,?_,?_];rintro i ys M hi ⟨rfl,rfl⟩;show#[eŜ,av];rintro i x ys M hx ⟨rfl,rfl⟩;let⟨a,ha,rfl⟩:=lX hx;have e:lϖ:=by rw[bw,ha];rfl
 have eF:oϩ=oŴ++(dB a).map aŘ:=by rw[e,aO,List.flatten_append];simp
 have eS:(iŋ iŊ).sum=nϤ+fŗ:=by rw[e,aO,List.sum_append];simp
 exact hs a (az ha) _ aϨ (λρ2 yB gQ M4=>Tb yB gQ g2 c2 el ρ2 p oŴ M4 λys M=>iϬ /\ ys=oϩ) (λM=>M=um M1 p (.lst oŴ) /\ oŴ=oϩ) ?_;intro ρ2 gQ AF lq;exact#[λj zs M=>M=um M1 p (.lst zs) /\ zs=pϑ,gõ,?_,?_,?_];rintro j zs M hj ⟨rfl,rfl⟩;exact#[AF _ aϨ,av,?_];rw[aM,d_,aa,bE];have b3:=XG ß;rw[eS] at b3;lia;rintro j y zs M hy ⟨rfl,rfl⟩;let⟨b,hb,rfl⟩:=lX hy;have e2:dŹ Þ=dŹ j++ [b]:=by rw[bw,hb];rfl
 exact lq b (az hb) _ aϨ (λo M4=>match o with
 | aŅ=>M4 p=some qØ /\ (um M4 p qô=um M1 p qô /\ pϑ++ [z]=pϲ)
 | none=>M4=um M1 p qØ /\ pϑ=pϲ) ?_
 show#[av,qF,by rw[e2,aO];simp];rintro zs M ⟨rfl,rfl⟩;show#[rfl,by rw[eF,aa,bJ]];rintro ys M ⟨rfl,rfl⟩;rw[aa,bJ];show aϩ
def uC {α:Type}{l:Ý}{fW:aŖ}(pr:α ->Bool)(eW:aŖ){M1:Mp}(hz:iŌ)(kJ: jϔ)(hs: ∀a∈l, ∀ (M:Mp) (N:hė),aϧ ->N (if pr a=true then dź else none) M ->qĶ)(hq: ∀p,ţ ->q Đ (um M1 p (.lst ((l.filter pr).map eW)))):oÈ:=by
 exact#[by rw[aa];show hz,λp hp=>#[λi ys M=>iϬ /\ ys=mĜ,gõ,?_,?_,?_]];rintro i ys M hi ⟨rfl,rfl⟩;exact#[eŜ,av,?_];rw[aa];exact aI (lĝ) ?_;rw[bE];lia;rintro i x ys M hx ⟨rfl,rfl⟩;let⟨a,ha,rfl⟩:=lX hx;have e:lϖ:=by rw[bw,ha];rfl
 exact hs a (az ha) _ (λo M4=>match o with
 | aġ=>M4 p=some nΙ /\ (um M4 p oŁ=um M1 p oŁ /\ mĜ++ [y]=nÜ)
 | none=>M4=um M1 p nΙ /\ mĜ=nÜ) aϨ ?_
 cases hf:pr a with
 | false=>rw[eí];show#[rfl,by rw[e,List.filter_append];simp[hf]]
 | true=>rw[ą];show#[av,qF,by rw[e,List.filter_append];simp[hf]]
 rintro ys M ⟨rfl,rfl⟩;rw[aa,bJ];show aϩ
def kL {α:Type}{l:Ý}{fW:aŖ}(eW:aŖ){M1:Mp}(hz:iŌ)(kJ: jϔ)(hs: ∀a∈l, ∀ (M:Mp) (N:hė),aϧ ->N (dź) M ->qĶ)(hq: ∀p,ţ ->q Đ (um M1 p hϟ)):oÈ:=by exact uC (λ_=>true) eW hz kJ (λa ha M N s h=>hs a ha M N s Â) dî;have e:l.filter (λ_=>true)=l:=List.filter_eq_self.mpr cŋ;rw[e];show aϩ
universe e
def ID:ik:=gÓ
theorem Kg:cD P w K mg base CX k f fd ps (iG K ID):=#[(by rintro vs H Q E ⟨_,_,_,_,_,h,_⟩;exact h.elim),λA outer s H args us vs Q E hr=>by
 intros;rename_i h;first
 | (let⟨_,_,_,_,_,h,_⟩:=h;show h.elim)]
universe WL
namespace WQ
open PySem L2 WL WP
def iu (f:ş)(e:Int):Nat ->ş
 | 0,_=>0
 | n+1,x=>cΩ+f cě
def lM (f:ş)(e:Int):Nat ->ş
 | 0,_=>0
 | n+1,x=>cϊ - hϠ
def j7 (f:ş)(e n x:Int):Int:=if n<0 then lM f e cϋ x else iu f e n.toNat x
def fQ (f:ş)(e n x:Int):j7 f e aÃ x=j7 f e n x+f cě:=by
 unfold j7;by_cases h:n<0;rw[am h];let⟨m,hm⟩: ∃m:Nat,cϋ=m+1:=#[cϋ - 1, ∅]
 have en:n= eŶ:= ∅;have ex:aϳ=x+hϡ:=by rw[en,eh];push_cast;exact LqIx (Lqi Û hϢ μ ø ø LqI0 rfl) (Lqi Û μ hϢ ø ø LqI0 rfl)
 rw[hm,lM,ex];by_cases h1:n+1<0;rw[am h1,show(-aÃ).toNat=m by lia];exact qν;rw[aj h1,show dŻ=0 by lia];have:m=0:= ∅;subst this;simp![iu,lM];exact qΗ;rw[aj h,aj (by exact LqIm (Lqi [_] ø ϒ ø Lq0 (LqIz h) rfl)),show dŻ=n.toNat+1 by lia,iu];have:jϡ:= ∅;rw[this]
theorem E_ (f:ş)(e:Int): ∀ (n:Nat) (x:Int),j7 f e n x+j7 f e (-n) cě=0
 | 0,x=>rfl
 | n + 1,x=>by
  have ih:=E_ f e n x;have h1:=fQ f e n x;have h2:=fQ f e (-cĜ) (x - e*cĜ);have e1:(-gΨ)+1= -ģ:= ∅;rw[e1] at h2;have e2:((cĜ):Int)=ģ+1:= ∅;rw[e2] at h2 ⊢;have e3:x - e*dż - e* -dż=x:=by rw[eh];exact LqIx (Lqi Û lũ Lq0 ø ø LqI0 rfl) (Lqi Û Lq0 lũ ø ø LqI0 rfl)
  rw[e3] at h2;have sh: ∀ (m:Nat) (z:Int),lM f e m (z - e)=lM f e m z - f z+f (z+e*m):=by
   intro m;induction m with
   | zero=>intro z;simp![lM];rw[Int.ofNat_zero,c_,bF];exact qΗ
   | succ m ihm=>
    intro z;have a1:z - e+hϡ=z+e*m:=by
     push_cast;rw[Int.mul_add,du];exact LqIx (Lqi Ğ (.a Β τ) ς ø ø LqI0 rfl) (Lqi Ğ μ (.a eŷ ο) ø ø LqI0 rfl)
    rw[lM,ihm,lM,a1];exact LqIx (Lqi ř (.s jϢ Lq2) (.a (.s eŸ Lq1) Lq3) ø ø LqI0 rfl) (Lqi ř (.a jϣ Lq1) (.s (.a eŷ Lq3) Lq3) ø ø LqI0 rfl)
  have hs:=sh aÃ cě;have lq:j7 f e (-dż) (x - e*dż)=lM f e aÃ (aϳ - e):=by unfold j7;rw[am (by exact Lqi [_] mϦ ø ø Lq0 kĎ rfl),show(- -dż).toNat=n+1 by lia];congr 1;rw[Int.mul_add,du];exact LqIx (Lqi Ğ jϤ jϣ ø ø LqI0 rfl) (Lqi Ğ jϣ jϤ ø ø LqI0 rfl)
  have hs3:j7 f e (-ģ) cě=iō:=by unfold j7;by_cases h0:n=0;subst h0;rfl;rw[aĄ,show(- -ģ).toNat=n by lia]
  have hs4:lM f e aÃ cě=iō - f (aϳ+e*gΨ):=rfl;have e5:aϳ+e*gΨ=x+e:=by push_cast;rw[Int.mul_add,du];exact LqIx (Lqi Ğ (.a Β ο) ς ø ø LqI0 rfl) (Lqi Ğ μ (.a eŷ τ) ø ø LqI0 rfl)
  rw[lq,hs,hs4,e5,h1];rw[hs3] at ih;exact LqIx (Lqi ř oν ø ς ø (LqIe ih) rfl) (Lqi ř ø oν ø ς (LqId ih) rfl)
theorem yV {f g:ş}{e:Int}(h: ∀x,g x= -f (x+e)): ∀ (n:Nat) (x:Int),iu g (-e) n x=cϊ
 | 0,_=>rfl
 | É,x=>by
  rw[iu,lM,yV h n x,h];have:x - -e*n+e=x+e*gΨ:=by rw[Int.neg_mul];push_cast;rw[Int.mul_add,du];exact LqIx (Lqi Ğ lŪ jϕ ø ø LqI0 rfl) (Lqi Ğ jϕ lŪ ø ø LqI0 rfl)
  rw[this];exact qΚ
theorem yW {p:Int}{f g:ş}{e:Int}(h: ∀x,f x % p=aϵ): ∀ (n:Nat) (x:Int),cΩ % p=iu g e n x % p
 | 0,_=>rfl
 | n+1,x=>by rw[iu,iu,bu,yW h n x,h, <- bu]
theorem sU (f:ş)(x:Int): ∀n:Nat,iu f 0 n x=f x*n
 | 0=>by simp[iu]
 | n+1=>by rw[iu,sU f x n,bR,Int.sub_zero];push_cast;rw[Int.mul_add,du]
structure lw (p:Int)(a:Rd)(n:Int)(r:Rd):Prop where
 en:r.1=a.1*n
 pt:cO p r.2
 at_: ∀x,dh r.2 x=j7 (dh a.2) a.1 n x % p
def lw.Nn (hp:0<p)(hn:n<0)(h:lw p bŨ (-n) r):cό:=by exact#[?_,h.pt,Ĺ];rw[h.en];change -a.1* -n=a.1*n;rw[Int.neg_mul_neg];rw[h.at_];unfold j7;rw[aj (by exact LqIm (pÐ)),am hn];change iu (dh bŨ.2) (-a.1) cϋ x % p=_;rw[<- yV (f:=dh a.2) (g:=λx=> gΙ) (bġ)];show yW (λy=>by rw[RJ hp,nϥ]) _ _
def oT (e:Int)(n:Nat)(q:ŏ):Pt:=iĵ λ ĩ=>(q.1+e*k,q.2)
def lY (e:Int)(n:Nat)(l:Pt):Pt:=(l.map (oT e n)).flatten
theorem yP (e x:Int)(q:ŏ): ∀n:Nat,dh (bŴ) x=iu (dh [q]) e n x
 | 0=>rfl
 | É=>by
  have:oT e aÃ q=bŴ++ [(q.1+e*n,q.2)]:=by unfold oT;rw[List.range_succ,aO];rfl
  rw[this,fL,yP e x q n,iu];congr 1;simp![dh];by_cases c:q.1+e*n=x;rw[am c,am (by exact LqIx (Lqi Ğ Lq0 eŧ ς Lq1 (LqIe c) rfl) (Lqi Ğ Β Lq2 Lq0 τ (LqId c) rfl))];rw[aj c,ö]
theorem yX (f g:ş)(e x:Int): ∀n:Nat,iu (λy=>f y+g y) e n x=cΩ+iu g e n x
 | 0=>rfl
 | n+1=>by rw[iu,iu,iu,yX f g e x n];exact rÅ
theorem yU (e x:Int): ∀n:Nat,iu (ař) e n x=0
 | 0=>rfl
 | n+1=>by rw[iu,yU e x n];rfl
theorem yQ (e:Int)(n:Nat)(x:Int): ∀l:Pt,dh (bŵ) x=iu (dh l) e n x
 | []=>by have:dh ([]:Pt)=ař:=rfl;rw[this,yU];rfl
 | q ::l=>by
  have e1:mϧ:=rfl;have e2:dh (q::l)=λy=>dh [q] y+dh l y:=by funext y;have:=fL [q] l y;show this
  rw[e1,fL,yP,yQ e n x l,e2,yX]
theorem tV (e:Int)(n:Nat): ∀l:Pt,(bŵ).length=cύ
 | []=>by simp[lY]
 | q::l=>by have e1:mϧ:=rfl;rw[e1,aM,tV e n l,oT,aa,cx,aT,Nat.succ_mul];exact LqNx pĴ pĴ
def Qh:ik:=λxs M q=>gL λ Ī aŔ ģ=>p9 kĩ è bŤ (bŶ) jϚ (0<=n) (a϶ ->n<aŚ /\ cΡ*n.toNat<=15000000) qş
def W2:ik:=λxs M q=>gL λ Ī aŔ ģ=>E2 kĩ è bŤ (bŶ) jϚ pŹ qş
universe WQ
namespace L2
open PySem PySem.Spec PyProof.Rows
def Ln (a b c:Int):Nat:=(mĝ).toNat
def zh:Ln a b Î=(a - b).toNat:=by unfold Ln Builtin.Range.rangeSize;rw[aj ⋯];split;rw[show -(-1:Int)=1 by decide,Int.ediv_one];lia;change(0:Int).toNat=_;lia
def Ux (lo c:Int)(n:Nat):It:=#[λi _=>i<n,λi H x H'=>H'=H /\ x= .int bŷ,dć]
def yO {P:Program}{w:World}{K:iD}{tg:Expr}(it:fR)(lo c:Int)(n:Nat):vn P w K tg dŽ [it] it (λi h=>IsRangeIter h it (lo+aϓ*c) iΦ c) where
 mem:=by simp
 obj :=λi h st b hb=>by have e:b=it:= aÒ;subst e;show pœ
 keep:=nĉ
 item:=by intro X hP hw hK hc i ai s σ H E I hf st hg;subst hP hw hK;let⟨f0,f1,f2,f3,f4,f5⟩:=gų;have W:=Walks.range (prog:=X.prog) (w:=X.w) eĘ it lo c n;exact oĴ;let⟨t,rfl⟩:=hv;have I1:nϸ:=oϯ;show#[_,rfl,Ef (s:= lœ) (n:= hô) bN rfl rfl ⋯ #[.int bŷ,H,I1,bĳ,cų,bN,iΥ]]
 done:=by intro X hP hw hK hc i ai s σ H E I hf st hg;subst hP hw hK;let⟨f0,f1,f2,f3,f4,f5⟩:=gų;show qΥ
 self:=oņ
def Cz (a b c:Int):Prop:=c≠0 /\ c.natAbs<Ĥ /\ a.natAbs<1000000000 /\ b.natAbs<1000000000
def qk (h:c≠0):0<=mĝ:=by unfold Builtin.Range.rangeSize;split;split;have:=Int.ediv_nonneg (a:=b - a - 1) (b:=c) ∅ ∅;exact oϔ;show Ï;split;have:=Int.ediv_nonneg (a:=a - b - 1) (b:= -c) ∅ ∅;exact oϔ;show Ï
def y8 (h:Cz a b c):Builtin.Range.small a b c=true:=by
 let⟨h0,h1,h2,h3⟩:=h;have hs:mĝ<=2000000001:=by unfold Builtin.Range.rangeSize;split;split;have:=Int.ediv_le_self (a:=b - a - 1) c ∅;lia;exact oϺ;split;have:=Int.ediv_le_self (a:=a - b - 1) (-c) ∅;lia;exact oϺ
 have yD:=qk (a:=a) (b:=b) h0;unfold Builtin.Range.small;simp![Builtin.Range.rangeFitsLong,Bool.and_eq_true,Bool.or_eq_true,cQ,beq_iff_eq];exact#[#[#[#[dž, ∅, ∅], ∅, ∅], ∅, ∅], .inr ?_];split;rw[Bool.and_eq_true,cQ,cQ];lia;rw[Bool.and_eq_true,cQ,cQ];lia
def Qz (ta:TA):TI:=λσ H R=>ta σ H λvs H1=>gL λ dſ=>dU (vs= [Ă, aĤ, .int c]) (Cz i j c) (R (Ux i c (Ln i j c)) H1)
def Fn {tg:Expr}{p pos:Pos}(hg:eğ)(hm:iĎ)(ha:gΩ)(hs:kĪ=jĉ::jĳ:=by rfl)(lq:(backTo pos (jĳ)).any Ć=false:=by rfl): PI X tg (.Call hτ aϷ [] pos) (Qz ta):=by
 intro ai s σ H R I h;exact Call_ (iz I hg hm boot_range (bV mϓ hs lq));rintro us s1 ⟨vs,H1,I1,r1,q1⟩;let⟨i,j,c,e,rg,q⟩:=q1;subst e;cases r1 with
 | cons r rr=>
  cases rr with
  | cons r' rr=>
   cases rr with
   | cons WV rr=>
    cases rr;let⟨t,rfl⟩:=r;let⟨t',rfl⟩:=r';let⟨RM,rfl⟩:=WV;exact call_range_3 rg.1 ?_ (.inl (PyProof.noPylong_small (by have:=rg.2.1;exact Lqj [_] ϒ gϊ ϒ Γ this rfl)));exact wpAny_pyIter_range hõ (y8 rg) ?_;have I2:Inv X ai σ H1 {s1 with heap:=qģ,toks:=s1.toks}:=kχ;exact#[qŏ,[qŏ],_,_,H1,rfl,nŷ,yO _ i c (Ln i j c),?_,Ÿ,q];have e1:i+fċ*c=i:=by simp
    have e2:nŎ=Builtin.Range.rangeSize i j c:=by unfold Ln;have:=qk (a:=i) (b:=j) rg.1;lia
    change IsRangeIter _ _ (i+fċ*c) (nŎ) c;rw[e1,e2];show Ŀ;have e:b=qŏ:=by simpa using hb
    subst e;show I2.ya õ jĴ
universe L2
namespace WL
open PySem L2
def qH (lo c:Int)(n:Nat):Ë:=iĵ λ ĩ=>wi (lo+ĥ*c)
def yZ:(qH lo c n).length=n:=by simp[qH]
def step_at (h:(qH lo c n)[i]? =û):i<n /\ x=wi bŷ:=by unfold qH at h;rw[aF] at h;by_cases hi:i<n;rw[kĞ] at h;cases h;show cđ;rw[lϋ] at h;cases h
section
variable {K:iD}
def Qy (a:WA):WI:=λρ M q=>qŐ
def FH:Gu K H1 dŽ (qH lo c n) dŘ:=by intro i M H ts m _;rw[yZ];exact oŢ;let⟨rfl,y⟩:=y;exact#[cď,m,wi bŷ,?_,by rw[y];show WR.v];simp[qH,hi]
def cW.three (h:cW K H [x,y,z] vs):gL λv u t=>gy (vs= [v,u,t]) (Ű) (cΒ) (WR K H z t):=by simp![cW] at h;let⟨v,t,rfl,h1,u,t',rfl,h2,s,RM,rfl,h3,rfl⟩:=h;show#[v,u,s,rfl,h1,h2,h3]
instance {t:TA}{a:WA} [ia:ŋ]:II K (Qz t) (Qy a) where
 imp:=λρ M σ H q R o h k=>ia.imp ρ M σ H _ _ o h (by rintro xs M1 v H1 ⟨i,j,c,e,h0,h2⟩ t1 m1 r1;exact by subst e;let⟨v,u,s,rfl,r,r',WV⟩:=r1.three;cases r.eq;cases r'.eq;cases WV.eq;show#[i,j,c,rfl,h0,k _ _ _ M1 H1 h2 t1 m1 FH])
theorem NP:Qy a ρ M q=qŐ:=rfl
universe e
universe WL
namespace WQ
open PySem L2 WL WP
def cv (a b:ā):Nat ->cę
 | 0,_=>0
 | k+1,n=>cv a b k n+if k<=n then a.getD k 0*b.getD (n - k) 0 else 0
structure IsPart (p:Int)(one other q r:Ĵ):Prop where
 qs:Rk p q
 rs:Rk p r
 len:r.length<other.length
 ql:q.length<=one.length
 eq: ∀n,one.getD n 0 % p=(cv q other q.length n+r.getD n 0) % p
def KU {x:α}(h:iŇ):lJ l Î=û:=by
 have hl:cΟ:=by
  cases l with
  | nil=>simp at h
  | cons a r=>simp
 unfold lJ uS;rw[aj (by exact LqIn (Lqi [] (.a (.g ñ) ñ) ø ø ø LqI0 rfl)),aĄ,Option.bind_some];rw[List.getLast?_eq_getElem?] at h;rw[show(-1+(l.length:Int)).toNat=eô by lia];show h
def NQ {n:Nat}{i:Int}(h0:0<=i)(h1:i<n):uS n i=eĪ:=by unfold uS;rw[am h0,am h1]
universe WQ
namespace WL
open PySem L2
def RP (x:W)(k:Str ->Prop):Prop:= ∃y,x=ws y /\ k y
def aaM:RP (.v (.str y)) k=k y:=by apply propext;symm;rintro⟨_,h,k⟩;cases h;show k;intro h;show ų
def aaw:Ru a ρ M q=a ρ M λx M1=>FK x λi=>gK jį lâ:=by unfold Ru FK gK;congr 1;funext x M1;show qĝ
theorem aeY:wJ0 out ρ M q=gK (jİ) (eű):=rfl
def aeX:wJ1 a f out ρ M q=a ρ M λx M1=>RP x λy=>gK lϕ jı:=by unfold wJ1 RP gK;congr 1;funext x M1;show qĝ
universe WL
namespace L2
open PySem PySem.Spec PyProof.Rows
def Ui {σ:St}(I:Ϙ)(e:iĝ)(ry:fģ)(rd:RelV d r)(z1:iϔ)(h1: ∀v w' s',Ň=ă ->nυ)(h2: ∀s',Ň=none ->Inv X ai σ (cR H a (.dK (gV kvs k d))) s' ->Q r s'): wpAny ϣ A (call (.builtin "dict.setdefault") [Ā,u,r]) Q E s:=by
 let⟨z,hd,vs,rel,dd⟩:=cû;have hz:iΙ:=by rw[<- rel.length];show z
 have hl:(gV kvs k d).length<=sizeLine:=by have:=iJ kvs k d;exact Lqj Ğ Lq0 Lq1 lÀ Ϭ (LqNp z1 this) rfl
 have rv:=cù;exact call_meetsIn PySem.F.slot_dict_setdefault dd.typeIs PySem.F.entry_dict_setdefault (PySem.F.args_dict_setdefault_3 _ _ _) (kt_meets_setdefault gŹ a aϛ hd r) #[vs,dd,hz,dγ,λhn h' F' hs=> ?_];rw[hv] at rv;cases hk:Ň with
 | none=>rw[hk] at rv;show mŘ
 | some x=>rw[hk] at rv;show h1 x v _ hk cê (by first | show rv | (cases rv;assumption))
 rw[hn] at rv;cases hk:Ň with
 | some x=>rw[hk] at rv;show mŘ
 | none=>
  exact h2 _ hk ?_;have he: jΜ:=let ⟨q,_,_,hq,_⟩:=F';aϜ
  show pS I lŕ hs he (ut hl hd (rel.put k rd) F')
def Hr (td ty tx:TE):TE:=λσ H Q=>td σ H λx H1=> ∃a,x= Ā /\ IsD H1 a /\ ty σ H1 λy H2=>tx σ H2 λz H3=> ∃kvs k,H3 a=ϊ /\ y=kV k /\ iϔ /\(∀v,Ň=ă ->Q v H3) /\ (Ň=none ->Q z (cR H3 a (.dK (gV kvs k z))))
def Iv (ho:cü)(he:PE X e ty)(hf:PE X f tx)(m:M2 X o eź gx e f fO):PE X (.Call (.Attribute o eź gx) [e,f] [] fO) (Hr td ty tx):=by intro ai s σ H Q I h;exact wpAny_Call_method m.base m.wq m.line PySem.F.plainAttrs_dict PySem.F.slot_dict_setdefault PySem.F.type_dict_setdefault mÑ;rintro u s1 ⟨x,H1,I1,rx,a,ex,d,q1⟩;subst ex;obtain rfl:Κ:=rx;let⟨t1,t2,_⟩:=xR I1 d;exact dı;rw[m.trees];exact Calls.callWith_builtin rfl (Calls.evalArgs_plain (dJ (dz lÄ λiv s2 iϗ=>dJ (dz lÅ λfv s3 ⟨z,H3,I3,rz,kvs,k,ea,ey,z1,q3,q4⟩=>jě))));subst ey;show Ui I3 ea ry rz z1 (λv w' s4 hv I4 uZ=>#[_,H3,I4,uZ,q3 v hv]) λs4 hn I4=>#[z,_,I4,rz,q4 hn]
universe L2
namespace WL
open PySem L2
variable {K:iD}
def AM (a b c:WE):WE:=λρ M q=>a ρ M λx M1=> ∃p,x=wr p /\ mæ /\ b ρ M1 qϴ
instance {t u s:TE}{a b c:WE} [ia:Ŋ] [ib:bŃ] [ic:bō]:IE K (Hr t u s) (AM a b c) where
 imp :=λρ M σ H q Q o h k=>ia.imp ρ M σ H _ _ o h λx M1 v H1 lħ t1 m1 r1=>by
  subst e;let⟨ks,hk,rr⟩:=cČ;exact qϔ;rintro z M3 u3 H3 ⟨kvs,ky,e2,e3,hl,h3,h4⟩ t3 m3 r3;subst e3;let⟨ks,hk,rr⟩:=cč;have ts:=oK (u:= .dK (gV ks ky u3)) hk;exact#[ks,ky,hk,fĻ,by rw[rr.length];show hl,dγ,λhn=> ?_];rcases cċ with⟨n1,n2⟩ | ⟨x',v',n1,n2,rx⟩
  rw[n2] at hv;cases hv;rw[n2] at hv;cases hv;show k _ M3 _ H3 (h3 _ n1) lÓ m3 rx;rcases cċ with⟨n1,n2⟩ | ⟨x',v',n1,n2,rx⟩
  show k _ _ _ _ (h4 n1) nĩ (m3.putD hk (KR.put r3 rr)) (r3.ts ts);rw[n2] at hn;cases hn
def vK (o:Ê)(q:bŗ)(n:Prop):Prop:=(∀x,o=û ->q x) /\ (o=none ->n)
def VJ:AM a b c ρ M q=a ρ M λx M1=>gY x λp=>k9 aň λ_=>b ρ M1 λy M2=>c ρ M2 λz M3=>qw y λk=>k9 (M3 p) λkvs=>gK jΙ (vK (bŌ) (λx=>q x M3) (q z mç)):=by
 unfold AM gY qw k9 gK vK;congr 1;funext x M1;apply propext;symm;all_goals
  have e: ∀p:fR,(qϴ)=(λy M2=>c ρ M2 λz M3=> ∃k,ań /\ ∃kvs,iϩ /\ qŇ):=λp=>by funext y M2;congr 1;funext z M3;apply propext;symm;rintro⟨a,b,c,d,e⟩;show eš;rintro⟨b,d,a,c,e⟩;show eŢ
 rintro⟨p,h1,⟨kvs,h2⟩,h⟩;show#[p,h1,kvs,h2,e p▸h];rintro⟨p,h1,kvs,h2,h⟩;show#[p,h1,#[kvs,h2],(e p).symm▸h]
def Mq:vK bĿ q n=q x:=by apply propext;unfold vK;symm;(· intro h;show h.1 x rfl);(· intro h;show#[λy e=>by cases e;show h,λe=>nomatch e])
def Mr:vK none q n=n:=by apply propext;unfold vK;symm;(· intro h;show h.2 rfl);(· intro h;show#[λy e=>(nomatch e),λ_=>h])
universe WL
namespace WL
open PySem L2
def KC {α:Type}{l:Ý}{fW:aŖ}(eW:aŖ){M1:Mp}(hz:iŌ)(kJ: jϔ)(hs: ∀a∈l, ∀ (M:Mp) (N:hė),aϧ ->(∀M',Ĩ ->N (dź) M') ->qĶ)(hq: ∀p M',ţ ->bų ->M' p=some hϟ ->q Đ M'):oÈ:=by
 exact#[by rw[aa];show hz,λp hp=>#[λi ys M=>iķ /\ aϧ /\ ys=hϤ,#[av,bG hp,by simp],?_,?_,?_]];rintro i ys M hi ⟨h1,h2,rfl⟩;exact#[kJ _ h2,h1,?_];rw[aa,bE];lia;rintro i x ys M hx ⟨h1,h2,rfl⟩;let⟨a,ha,rfl⟩:=lX hx;have e:lϖ:=by rw[bw,ha];rfl
 exact hs a (az ha) _ (λo M4=>match o with
 | aġ=>nŏ /\ um M4 p mϨ p=some mϨ /\ Sm M1 (um M4 p mϨ) /\ hϤ++ [y]=iŋ eW
 | none=>nŏ /\ Sm M1 M4 /\ hϤ=iŋ eW) h2 λM' s'=>#[s' _ _ h1,av,λc o ec=>by rw[aE (cT ec hp)];show s' _ _ (h2 _ _ ec),by rw[e,aO];rfl]
 rintro ys M ⟨h1,h2,rfl⟩;rw[aa,bJ] at h1;show hq p M hp h2 h1
universe WL
namespace WQ
open PySem L2 WL WP
def cs (n r:Int)(l:Pt):Int:=((l.filter λz=>decide (z.1 % n=r)).map aď).sum
universe WQ
namespace L2
open PySem PySem.Spec PyProof.Rows
def Im {K:iD}(hK:X.K=K)(hl:cã):PI X tg l (JF K tl):=by subst hK;show eD hl
universe L2
namespace WQ
open PySem L2 WL WP
abbrev Cf:=cę
def _X:Nat ->Cf ->Cf ->Int
 | 0,f,g=>f 0*g 0
 | n+1,f,g=>f 0*g aÃ+_X n (λi=>f ß) g
def co (l:ā):Cf:=λi=>l.getD i 0
def Mult (p:Int)(a g:Cf):Prop:=c7 λ(E:Cf) (N:Nat)=>(∀i,N<=i ->E i % p=0) /\ ∀n,a n % p=_X n E g % p
def w5 (p:Int)(a g h:Cf):Prop:=gL λ(A B:Cf) (N:Nat)=>(∀i,N<=i ->A i % p=0 /\ B i % p=0) /\ ∀n,a n % p=(_X n A g+_X n B h) % p
def FV (p:Int)(a:Rd)(v:Int):Prop:=c7 λlo hi=>dU (ja (PB a) lo) (rJ (PB a) hi) (v=fwv p a lo hi)
open Classical in
noncomputable def fv (p:Int) (a:Rd):Int:=if h: ∃v,FV p a v then h.choose else 0
def names:ĉ:= ["on","back","up","down"]
def Pz (p:Int)(s:Str):Rd:=if s= "on" then(1,[]) else if s= "back" then(-1,[]) else if s= "up" then(0,aϸ) else(0,[(0,p - 1)])
noncomputable def far (p:Int) (a:Rd) (s:Str):Bool:=decide (fv p (jn p a (Pz p s)) >fv p a)
def RS (a b:Int):ĉ:=List.replicate (a - b).natAbs (if a<=b then "on" else "back")
def RE (p s:Int):ĉ:=if s<=p - s then List.replicate s.toNat "up" else List.replicate (p - s).toNat "down"
def A_ (p:Int):Int ->Pt ->ĉ
 | _,[]=> []
 | here,Ð=>RS here z.1++RE p z.2++A_ p z.1 r
def pairsOf (p:Int)(z:ŏ):Pt:=if z.2<=p - z.2 then List.replicate z.2.toNat (z.1,1) else List.replicate (p - z.2).toNat (z.1, -1)
def aab:Int ->Pt ->Int
 | _,[]=>0
 | here,Ð=>Y7 (here - z.1)+aab z.1 r
theorem Hd: ∀ {l:Pt},lό -> ∀z∈l,dh l z.1=z.2
 | [],_,z,h=>by cases h
 | y::r,hp,z,h=>by let⟨hy,hr⟩:=cc.mp hp;obtain rfl | h:=aϗ;rw[dh,ą,rZ λq hq=>by have:=hy q hq;exact λe=>Lqf Û Ϯ π kġ rfl];exact qŖ;rw[dh,aj (by have:=hy z h;exact pϰ),Hd hr z h];exact qŗ
universe WQ
namespace L2
open PySem PySem.Spec PyProof.Rows
def Inv.freeze {σ:St}(I:Ϙ)(e:H d=ă)(ho:s.heap.get? d=Ą)(n1: ∀xs,HO.tup xs≠v:=by intro _ q;cases q)(n2: ∀a b,HO.pK a b≠v:=by intro _ _ q;cases q)(n3: ∀a,HO.own a≠v:=by intro _ q;cases q)(n4: ∀a,HO.Mj a≠v:=by intro _ q;cases q): Inv X ai σ (cR H d (.pK o v)) s:=by
 have ne: ∀ {b u},cş ->u≠v ->aÞ:=λ{b u} h n z=>by subst z;rw[e] at h;show fŘ
 have Nu: lå:=λ{b} h z=>by subst z;rw[e] at h;cases h
 exact qϻ;have z:=læ;rw[bL (Nu z)];show z;have z:=hĢ;rw[bL (ne z (n1 _))];show z;have z:=iŎ;rw[bL (ne z (n2 _ _))];show z;let⟨more,z⟩:=hģ;show#[more,by rw[bL (ne z (n4 _))];show z];rw[gă];show I.free;rw[jĵ];show cϏ;let⟨a1,a2,a3⟩:=cũ;show nĔ;have ow: ∀c,H c=fř ->iŏ=fř:=λc r=>by rw[bL (ne r (n3 _))];show r
 have tu: ∀c xs,iĀ ->iŏ=fϨ:=λc xs r=>by rw[bL (ne r (n1 _))];show r
 by_cases hb:b=d;subst hb;rw[ce] at h;cases h;show#[ho,gϋ (eŻ) ow tu];rw[aÐ] at h;show nŐ
def Ke {σ:St}(I:Ϙ)(ho:iΚ)(e:lū): ∃vs,Ŝ /\ s.heap.DictAt gŹ d vs ep:=by
 let⟨h0,_,_,vs,rel,o',_R,_S,h1,h2,h3,h4⟩:=(show fu X.prog X.w H s.heap d (gό) from I.c9 d _ e)
 rw[h0] at h1;cases h1;rw[ho] at h3;cases h3;show#[vs,rel,o,es,h0,h2,ho,h4]
universe L2
namespace WL
open PySem L2
variable {K:iD}
theorem t_ {H:Hp}: ∀ {kvs:Ų} {vs:ů},fŚ ->jČ
 | _,_, .nil=>rfl
 | _,_, cÎ=>by rw[aT,aT,t_ t]
universe WL
namespace WQ
open PySem L2 WL WP
def YK (n:Int):gø
 | [],_=>0
 | Ð,k=>(if z.1 % n=k then z.2 else 0)+YK n r k
def Bd (b:Int)(l:Pt):Prop:= ∀z∈l, -b<=z.1 /\ z.1<=b
def YD (F1:cD P w K mg base CX k f fd ps (iG K p1))(F2:cD P w K mg base CX k f fd ps (iG K p2))(h: ∀xs M q,p3 xs M q ->p1 xs M q \/ p2 xs M q):cD P w K mg base CX k f fd ps (iG K p3):=by exact#[λvs H Q E jϥ=> ?_,λA outer s H args us vs Q E hr e b v jϥ=> ?_];obtain h4 | h4:=dδ;show F1.len vs H Q E iŐ;show F2.len vs H Q E iŐ;obtain h4 | h4:=dδ;show F1.run A outer s H args us vs Q E hr e b v iŐ;show F2.run A outer s H args us vs Q E hr e b v iŐ
def fl (p:Int)(m:Nat)(f:Pt):ā:=(List.range m).map λ ĩ=>YK m f k % p
universe WQ
namespace L2
open PySem PySem.Spec PyProof.Rows
def HP (i:Int)(n:Nat):Ä:=iĵ λ ĩ=> .int dε
def Ho (ta:TA):TE:=λσ H Q=>ta σ H λvs H1=>c7 λ cĞ=>gy (vs= [Ă, aĤ]) pü lĬ (∀l,cğ ->Q bĮ (cR H1 l lϗ))
def Ma (h:ItemsOf (λj v=> ∃t,v=Value.int (i+aϘ*1) t) fU n):cM (HP i n) fU.toList:=by
 let⟨hl,hv⟩:=h;have Tx:iő:= á;have key: ∀ (k:Nat) (l:â) (m:Nat),l.length=m ->(∀j v,l[j]? =ă -> ∃t,v=Value.int (i+gύ) t) ->cM (jϦ mì) l:=by
  intro k l;induction l generalizing k with
  | nil=>intro m hm _;subst hm;show .nil
  | cons v r ih=>intro m hm hj;subst hm;rw[aT,List.range'_succ,aY];exact oţ;let⟨t,e⟩:=hj 0 v rfl;show#[t, Å];let⟨t,e'⟩:=oϪ;show mí
 have:=key 0 fU.toList n Tx λj v e=>by let⟨t,e'⟩:=hv j v oÂ;show mí
 unfold HP;rw[List.range_eq_range'];show this
def Bj {p1 p2 Ik xE:Pos}(Yd:dζ)(Ts:hϥ)(hg:eğ)(hm:iĎ)(hc:ŷ)(ha:fĈ)(hs:starEach [a,b] X.env= [jĉ,jĶ]:=by rfl)(lq:starEach [b] X.env= [jĶ]:=by rfl)(ht:starEach [nő] X.env= [(false,eval (nő) X.env)]:=by rfl): PE X (.Call hϦ [nő] [] Ik) (Ho ta):=by
 intro ai s σ H Q I h;exact oĩ;rw[ht];exact qı;rintro us s1 ⟨vs,H1,I1,r1,q1⟩;let⟨i,j,e,⟨q1,q2,q3,q4⟩,hn,q⟩:=q1;subst e;cases r1 with
 | cons r rr=>
  cases rr with
  | cons r' rr=>cases rr;let⟨t,rfl⟩:=r;let⟨t',rfl⟩:=r';exact call_range_2 (jě);have I2:Inv X ai σ H1 {s1 with heap:=s1.heap.push {cls:= fú,data:= .fields (List.toArray [bü, cĝ, .int 1 s1.toks])},toks:=s1.toks+1}:=kχ;exact call_list_range (n:=fś) fŜ hõ (small_one q1 q2 q3 q4) (by rw[rangeSize_one];split<;>lia) ∅ mř;have hv:=Ma items;exact#[aķ,_,I2.laid (t':=tk) kp õ (show fu X.prog X.w _ h' _ lϗ from mî),rfl,q _ jĴ];unfold HP;rw[aa,cx];show aI hn iľ
universe L2
namespace WL
open PySem L2
variable {K:iD}
def G6 (a:WA):WE:=λρ M q=>a ρ M λxs M1=>c7 λ cĞ=>gy hϧ pü lĬ (∀l,M1 l=none ->oŤ)
theorem HN {H:Hp}(i:Int): ∀ (l:Ď),cW K H (l.map λ ĩ=>wi dε) (l.map mì)
 | []=>by simp![List.map_nil,cW]
 | k::r=>by simp![aY,cW];show#[_,_,rfl,WR.v,HN i r]
instance {t:TA}{a:WA} [ia:ŋ]:IE K (Ho t) (G6 a) where
 imp:=λρ M σ H q Q o h k=>ia.imp ρ M σ H _ _ o h (by rintro xs M1 vs H1 ⟨i,j,ex,h1,h2,h3⟩ t1 m1 r1;exact by subst ex;let⟨v,u,rfl,r,r'⟩:=r1.two;cases r.eq;cases r'.eq;show#[i,j,rfl,h1,h2,λp hp=>k _ _ _ _ (h3 p fĴ) mę (m1.om hp (HN i _)) WR.v])
theorem G5:G6 a ρ M q=a ρ M λxs M1=>c7 λ cĞ=>gy hϧ pü lĬ (tT M1 λl=>oŤ):=rfl
universe WL
namespace WQ
open PySem L2 WL WP
theorem Mf (h:aś)(hy:b<y.natAbs):dh l y=0:=rZ λq hq e=>by have:=h q hq;omega
universe WQ
namespace L2
open PySem PySem.Spec PyProof.Rows
theorem lQ (hk:PE X k tk)(hv:PE X v tv):PE X (.Dict [ù] [v] pos) (Hq [(tk,tv)]):=MU (Ij hk hv MN) rfl rfl ś ś
universe L2
namespace WL
open PySem L2
variable {K:iD}
def G7 (a b:WE):WE:=λρ M q=> ∀p,ň ->qũ
instance {tk tv:TE}{a b:WE} [ia:IE K tk a] [ib:IE K tv b]:IE K (Hq [(tk,tv)]) (G7 a b) where
 imp :=λρ M σ H q Q o h k=>λp hp=>by
  have t0:br H hΤ:=hđ;have m0:gF K hϔ hΤ:=o.hp.put t0 gó;exact ia.imp ρ _ σ _ _ _ (o.mv t0 m0) jϏ λx M1 v H1 h1 t1 m1 r1=> ?_;exact ib.imp ρ M1 σ H1 _ _ (o.mv (dθ) m1) h1 ?_;rintro y M2 u H2 ⟨e1,ky,e2,h2⟩ t2 m2 r2;subst e2;let⟨ks,hk,rr⟩:=m2 p _ e1;cases rr;have ev:v=kV ky:=by
   cases ky with
   | inl i=>show r1.eq
   | inr z=>show r1.eq
  exact#[hk,bŸ,by rw[ev];rfl,by simp,?_];have t3:=oK (u:= .dK (gĄ)) hk;exact k _ _ _ _ h2 (((dθ).trans t2).trans t3) (m2.put t3 #[_,ce,?_]) WR.v;change KR K _ [(ky,y)] (gĄ);have em:gĄ= bŸ:=rfl;rw[em];show .cons #[rfl,r2.ts t3] .nil
theorem sK:G7 a b ρ M q=tT M λp=>qũ:=rfl
universe WL
namespace L2
open PySem PySem.Spec PyProof.Rows
theorem Fo {p pos:Pos}{st:Stmt}(hP:kh gώ X E)(C:lÏ)(F:pĒ)(hr:bĨ)(hg:ċ)(ha:gÃ)(oy:ϴ:=by decide)(he:Ϲ:=by rfl)(lI:oΕ:=by rfl): PE X nč (qG sp [] E t):=DD F hr hg C.at_ C.fn.kp C.bd .nil hP ha oy he lI
section
variable {prog:Program}{w:World}{A:Around}{R:iħ}{I:fR}{fp wr:ä}{n:Nat}{P:Nat ->eX ->Prop}{St:hο}{kw:eĤ}
def Jj (W:nÝ)(bt:hĞ)(J7:lϘ)(Z:fR)(hZ:Z∉fp): ∀ (k j:Nat) (s:eY) (x:eX) (c:Nat),cÄ=k ->j+1<=n ->St Þ s.heap ->P gą x ->fŝ=some {cls:= eĂ,dict:=none,data:= .seq (List.toArray [x,x]) c,slots:= #[]} ->(qϘ) ->codeAny Φ A (.builtin cϐ #[kψ,kw]) R s:=by
 have hw:Z∉wr:=i϶;have nm:pí :=⋯
 intro k;induction k with
 | zero=>intro j s x c hk hj iM hP hS hR;have e0:j+1=n:= ∅;exact nĭ;rw[nϦ];change oő;exact mĞ;change pî;exact ak (wpAny_tryCatch (W.done s _ _ (e0▸iM) gϏ));have QT:=eż;change wpAny _ A.in1 (updateSeq Z (λ_=> #[]) >>=_) _ _ _;exact aÔ;exact wpAny_updateSeq QT rfl (lè);show hR x _ tk (by rw[<- e0];show hP) λb o n1 n2 e=>nŒ
 | succ k ih=>
  intro j s x c hk hj iM hP hS hR;have gu:j+1<n:= ∅;exact nĭ;rw[nϦ];change oő;exact mĞ;change pî;exact ak (wpAny_tryCatch (W.item Þ s _ _ gu iM λv h1 tk LM NT yE=> ?_));have QT:=eż;change wpAny _ A.in1 (tryCatch (holding [v,v] (richCompare .Lt v x >>=_)) _ >>=_) _ _ _;exact ak (wpAny_tryCatch (wpAny_holding (ak (J7 Þ gą v x _ _ _ LM hP ?_))));exact ak (wpAny_holding (eC ?_));exact lè;cases hb:bt Þ gą with
  | true=>simp![ci];exact aÔ;exact wpAny_updateSeq QT rfl (iϷ);rw[nm];exact aN #[mϩ,ih Þ _ v _ ∅ gu nĮ (by simp![argBest,hb,ci];show LM) mϪ jϧ];show oϕ;show hR v2 h2 VY FU pū
  | false=>simp![aD,bB];exact iϷ;rw[nm];exact aN #[mϩ,ih Þ _ x c ∅ gu NT (by simp![argBest,hb,aD,bB];show hP) QT jϧ];show hR v2 h2 VY FU λb o n1 n2 e=>AF b o n1 n2 (dι)
def zH (W:nÝ)(bt:hĞ)(J7:lϘ)(Z:fR)(hZ:Z∉fp)(iM:St 0 s.heap)(hS:fŝ=some {cls:= eĂ,dict:=none,data:= .seq #[] c,slots:= #[]})(h0:n=0 -> ∀h' tk,pŢ ->R (.ok (.ret d)) lœ)(hR:0<n -> qϘ):codeAny Φ A (.builtin cϐ #[kψ,[(nd,d)]]) R s:=by
 have hw:Z∉wr:=i϶;have nm:pí :=⋯
 exact nĭ;rw[nϦ];change oő;exact mĞ;change pî;obtain hn | hn:=Nat.eq_zero_or_pos n;subst hn;exact ak (wpAny_tryCatch (W.done s _ _ iM gϏ));exact iŉ;show aN (h0 rfl _ tk λb o n1 n2 e=>dι);exact ak (wpAny_tryCatch (W.item 0 s _ _ hn iM λv h1 tk hP NT yE=> ?_));have QT:=eż;change wpAny _ A.in1 (updateSeq Z (λ_=> (List.toArray [v,v])) >>=_) _ _ _;exact aÔ;exact wpAny_updateSeq QT rfl ?_;rw[nm];exact aN #[mϩ,Jj W bt J7 Z hZ _ 0 _ v _ rfl hn nĮ hP mϪ jϧ];show oϕ;show hR hn v2 h2 VY FU pū
def Gn (a d:eX):argsOk aâ #[[a],gϐ]:=by unfold argsOk;kernel_rfl
variable {E:Υ}{s:eY}
def Gh (h:wpAny Φ A.in1 cΨ (λit t=>OJ λI fp wr n P St bt=>E2 (it= .ref I) (nÝ) (St 0 t.heap) (∀b∈fp,b<t.heap.objs.size) (lϘ) (n=0 -> ∀h' tk,pĄ ->Q d lŬ) (0<n -> ∀v h' tk,lç ->pĄ ->Q v lŬ)) E s): wpAny Φ A (call hĤ [x] gϐ) Q E s:=by
 have nm:pí :=⋯
 exact wpAny_call (codeAny_call_builtin F.plain_min F.entry_min ?_);simp![checkBuiltinCall,F.kind_min];have ha:=Gn x d;cases XN:lĭ with
 | none=>show absurd (show(lĭ).isSome=true by kernel_rfl) (by rw[XN];decide)
 | some sig=>
  have Yr:Bind.checkArgs aâ sig #[[x],gϐ]=pure ():=by simpa only[argsOk,XN] using ha
  simp![Yr];exact aÎ;change wpAny _ A.in1 (pϒ >>=_) _ _ s;exact ak (wpAny_of_eq (show pϒ=pure [none,aĀ] from rfl) ?_);exact cś;exact ak (bK h (λit t h₂=> ?_) cŜ);let⟨I,fp,wr,n,P,St,bt,rfl,W,iM,xZ,J7,hQ0,hQ⟩:=h₂;exact ak (jĠ);have hZ:t.heap.objs.size∉fp:=λhm=>cE _ (xZ _ hm);rw[nm];exact aN #[mϩ,zH W bt J7 t.heap.objs.size hZ (W.frame _ _ _ iM λb _ o e=>aĢ) (Ŀ) (λhn h' tk hk=> ?_) λhn v h' tk hP hk=> ?_];show hQ0 hn h' tk oć;show hQ hn v h' tk hP oć
universe e
universe L2
namespace WL
open PySem PySem.Spec PyProof.Rows L2
def Pr (K:iD)(te td:TE):TE:=λσ H Q=>te σ H λx H1=>td σ H1 λd H2=>c7 λ(l:fR) dŞ=>gy dĤ (iT K H2 l gÒ) (aŜ ->Q d H2) (∀m,ja ns m ->Q (.int m) H2)
def MQ (hg:Gl X aâ)(hm:X.mg aâ =none)(hc:ŷ)(ha:cÞ)(hd:PE X ed td)(he:iğ= [jē]:=by rfl):PE X (.Call (.Name aâ p) [e] [#[some cĠ,ed,abi]] pos) (Pr X.K te td):=by
 intro ai s σ H Q I h;exact wpAny_Call_Name_kw (iz I hg hm Boot.«min» ?_ ⋯ ⋯);exact PyProof.Rows.callWith_kw ?_ gϑ gϑ rfl rfl;rw[he];exact dJ (dz jĀ λu s1 iΩ=>jě);exact kws_cons (dz (hd ai s1 σ H1 _ I1 q1) λu2 s2 ⟨d,H2,I2,r2,q2⟩=>kws_nil ?_);let⟨l,ns,rfl,hs,q0,q⟩:=q2;cases r1;change wpAny _ _ (call hĤ [aĴ] [(cĠ,u2)]) _ _ s2;let⟨its,rv,ht,hz⟩:=I2.list hs;have hh:jġ:=I2.ok.hd hc;have d_:its.toArray.size=ns.length:=by have:=rv.length;rw[aa] at this;simpa using this.symm
 have gu:l<s2.heap.objs.size:=by let⟨_,e,_⟩:=ht.isList;show Æ
 exact Gh mϥ;have hk: ∀h':Heap,(∀b o,b∉ [s2.heap.objs.size] ->(s2.heap.push {cls:= .type "list_iterator",data:= .fields (List.toArray [aĴ, .int 0 s2.toks])}).get? b=Ą ->hé) -> ∀b o,s2.heap.get? b=Ą ->hé:=λh' hk b o e=>hk b o oΡ bķ;exact#[s2.heap.objs.size,_,_,its.toArray.size,_,_,nϝ,rfl,Walks.list hh s2.heap.objs.size l (a_ gu) its.toArray,oà,Ÿ,PySem.CmpOf.ints_lt iŁ (λi v e=>let ⟨t,h,_⟩:=D8 rv e;#[t,h]),λhn h' tk hm=> ?_,λhn v h' tk e hm=> ?_];change b< (s2.heap.push _).objs.size;rw[eM];obtain rfl | hb:=bŬ;show dD _;rw[Ŕ];show jĢ;show#[d,H2,qý,r2,q0 (dg.mp (by exact LqNx (Lqj Û Lq0 ø μ gϒ (LqNp cô ((LqNe hn))) rfl) (oψ)))];let⟨t,rfl,_⟩:=D8 rv e;rw[d_];show#[aĦ,H2,qý,bĳ,q _ (KN (List.length_pos_iff.mp (by exact Lqj Û Ϣ Lq0 lϙ μ (LqNp (LqNe d_) hn) rfl)))]
def HX (K:iD):Ϫ:=λxs H Q=>c7 λ aŐ dŃ=>dU (xs= bû) (iT K H a (ks.map V.int)) qš
def Cq:f' X iϟ (HX X.K):=by
 intro ai s σ H xs us Q I r h;let⟨a,ks,rfl,hs,q⟩:=h;let⟨u,rfl,ru⟩:=aϖ;cases ru;let⟨its,rv,ht,hz⟩:=cĂ;have hI:IntsAre its ks:=pq rv;have hl:its.length=ks.length:=by have:=rv.length;rw[aa] at this;show this.symm
 rw[aa] at hz;exact qÏ;unfold Builtin.«sorted»;exact oÜ;let⟨o,ho,hc,n,hd⟩:=ht.isList;exact ak (wpAny_collect_seq a Ũ ho hc hd (λh' JX=> ?_) (by simp![a7];exact Lqj Ğ Lq0 Lq1 υ ο (LqNp hz (cñ)) rfl));simp![List.toList_toArray];exact ak (wpAny_newList ?_ iϸ);have ho:(nŸ).get? h'.objs.size=some mğ:=Ŀ;exact ak (wpAny_holding (wpAny_call_entry slot_list_sort dń entry_list_sort (TS.vI (s:= {s with heap:=nŸ}) ho hI iϸ mŋ) iĩ));let⟨ee,TV⟩:=lΥ;have I':mŷ:=I.kept (t':=s.toks) JX;exact aN #[_,rfl, hΚ,_,I'.laid (t':=s.toks) (o:= iϡ) gω õ ?_,rfl,nÑ];have gu:gç:=aJ hb;rw[pı];show ar _ hb;exact mϝ;rw[aa,a2.length_eq];show hz
variable {K:iD}
def G1 (a d:WE):WE:=λρ M q=>qϑ
instance {t td:TE}{a d:WE} [ia:Ŋ] [id:IE K td d]:IE K (Pr K t td) (G1 a d) where
 imp:=λρ M σ H q Q o h k=>ia.imp ρ M σ H _ _ o h λx M1 v H1 h1 t1 m1 r1=>id.imp ρ M1 σ H1 _ _ ω h1 (by rintro y M2 u H2 ⟨l,ns,e,hl,q0,q1⟩ t2 m2 r2;exact by subst e;cases (r1.ts t2).eq;let⟨vs,hv,rr⟩:=m2 l _ hl;cases rr.ints;show#[l,ns,rfl,ō,λe=>k _ _ _ _ (q0 e) fĲ m2 r2,λm hm=>k _ _ _ _ (q1 m hm) fĲ m2 WR.v])
theorem ZH:G1 a d ρ M q=qϑ:=rfl
def GY:Cv:=λxs M q=>c7 λ aŐ dŃ=>dU (cΖ) (M a=some (.lst (ks.map wi))) qŕ
instance:IC K (HX K) GY where
 imp:=by rintro xs v M H q Q m r1 ⟨a,ks,rfl,hl,h⟩ k;let⟨v,rfl,r⟩:=r1.one;cases r.eq;let⟨vs,hv,rr⟩:=Ō;cases rr.ints;show#[a,ks,rfl,ō,qĳ]
universe WL
namespace WQ
open PySem L2 WL WP
def b_ (s x:Int):Int:=if s=0 then x else x % s
def hI (s x:Int):Int:=if s=0 then 0 else x / s
def gh:ā ->Int
 | []=>0
 | a::r=>nϧ
def vW:ā ->Int
 | []=>0
 | a::r=>nϨ
def FY (r:ā): ∀a,(nϧ=a \/ nϧ∈r) /\ nϧ<=a /\ ∀x∈r,nϧ<=x:=by
 induction r with
 | nil=>intro a;simp
 | cons b r ih=>intro a;let⟨h1,h2,h3⟩:=ih kī;rw[List.foldl_cons];generalize List.foldl mĠ kī r=z at h1 h2 h3;exact nΚ;obtain h1 | h1:=h1;split at h1;rw[h1];show .inr aQ;show .inl h1;show .inr (aC _ h1);obtain rfl | hx:=bİ;split at h2<;>lia;show aϹ
def FZ (r:ā): ∀a,(nϨ=a \/ nϨ∈r) /\ a<=nϨ /\ ∀x∈r,x<=nϨ:=by
 induction r with
 | nil=>intro a;simp
 | cons b r ih=>intro a;let⟨h1,h2,h3⟩:=ih kĬ;rw[List.foldl_cons];generalize List.foldl mġ kĬ r=z at h1 h2 h3;exact nΚ;obtain h1 | h1:=h1;split at h1;rw[h1];show .inr aQ;show .inl h1;show .inr (aC _ h1);obtain rfl | hx:=bİ;split at h2<;>lia;show aϹ
def gB (h:aΦ):ja l (gh l):=by
 cases l with
 | nil=>show eė
 | cons a r=>let⟨h1,h2,h3⟩:=FY r a;exact hϙ;obtain h1 | h1:=h1;change kω;rw[h1];show aQ;show aC _ h1;obtain rfl | hx:=bİ;show h2;show aϹ
def o_ (h:aΦ):rJ l (vW l):=by
 cases l with
 | nil=>show eė
 | cons a r=>let⟨h1,h2,h3⟩:=FZ r a;exact hϙ;obtain h1 | h1:=h1;change kω;rw[h1];show aQ;show aC _ h1;obtain rfl | hx:=bİ;show h2;show aϹ
def pC (s f:Int)(ns:ā):ā:=(mϫ).map (hI s)
def fg (l:Pt):ā:=eŔ
def fA (s:Int)(st:Pt):Int:=gh (iŒ)
def gI (s:Int)(st:Pt):Int:=vW (pC s (ī) (aã))
theorem RW (ht:bź)(hp:um M t o1 p=none):Sm (um M p o2) (um (um M t o1) p o2):=λb o e=>by by_cases hb:b=p;subst hb;rw[av] at e ⊢;show e;rw[aE hb] at e ⊢;have:b≠t:=cT e ht;rw[aE this];show e
def aa1:ik:=λxs M q=>c7 λ(x s:Int)=>gy (xs= [wi x,Ì]) aŞ cϑ (q (wi bŻ) M)
def IJ:ik:=λxs M q=>gL λ aŐ dŞ (s:Int)=>E2 (xs= [wr a,Ì]) (M a=kξ) (iϹ) aŞ cϑ (aŜ ->q wn M) (bŪ ->q (wi (gh (ns.map aŝ))) M)
def aaZ:ik:=λxs M q=>m_ λ aŐ dŞ (s f:Int)=>nD (xs= [wr a,Ì,wi f]) (M a=kξ) (iϹ) aŞ cϑ (∀ (p:fR) (ms:ā),ň ->ms.Perm (cġ) ->kĭ ->q Đ (um M p iĿ))
def wY (h:bż):oŒ:=by
 have hl:dμ:=List.length_pos_iff.mpr h;have e:uS (ms.map wi).length Î=some (fş):=by rw[aa];unfold uS;simp;lia
 unfold lJ;rw[e];change dŪ[fş]? =_;rw[aF];have:ms[fş]? =some (fŞ):=by
  rw[<- List.getLast?_eq_getElem?];cases ms with
  | nil=>show eė
  | cons a r=>simp[List.getLast?_cons]
 rw[this];rfl
def DO (h:jϨ)(hn:aΦ):rJ l (eŽ):=by
 induction l using WP.gk with
 | h0=>show absurd rfl hn
 | h1 l a _=>
  have e:(l++ [a]).getLastD 0=a:=by simp
  rw[e];exact#[by simp,ź];obtain hx | hx:=bì;show(cU.mp h).2.2 x hx a ś;rw[bñ];show Ï
def Gf (hs:0<s):x=đ+s*Ē:=by unfold b_ hI;rw[qĖ,qĖ];have:=lĮ;exact LqIx (Lqi Ğ Lq0 ο Lq0 ο dν rfl) (Lqi Ğ μ Lq2 μ Lq2 dξ rfl)
def uJ (d:fR)(M M':Mp):Prop:= ∀b o,aÞ ->lÒ
theorem uJ.refl (d:fR)(M:Mp):uJ d M M:=eŻ
theorem uJ.trans {M M1 M2:Mp}(a:uJ d M M1)(b:uJ d M1 M2):uJ d M M2:=λc o n h=>b c o n (a c o n h)
theorem uJ.sm (h:Ĩ):uJ d M M':=λb o _ e=>h b o e
def kP (s c:Int):Prop:=s=0 \/ (0<=c /\ c<s)
def kP.own (h:aş):b_ s c=c:=by unfold b_;obtain h | ⟨h1,h2⟩:=h;rw[am h];rw[aj (by exact λe=>Lqf Û nœ lé (LqIp h1 (LqIp h2 ŭ)) rfl)];show db h1 h2
def kP.on (h:aş)(k:Int):b_ s (c+k*s)=c:=by have:=h.own;unfold b_ at this ⊢;split;rename_i e;subst e;simp;rename_i e;rw[È] at this;rw[Int.add_mul_emod_self_right];show this
universe WQ
namespace WL
theorem NE {α:Type}{l:Ý}(h:l.length=1): ∃a,l= [a]:=List.length_eq_one_iff.mp h
def abg {l:Ý}(h:l.length=n+1):c7 λa r=>l=a::r /\ r.length=n:=by
 cases l with
 | nil=>cases h
 | cons a r=>show#[a,r,rfl, Â]
def Ji {α:Type}{l:Ý}(h:l.length=2): ∃a b,l= [a,b]:=by let⟨a,r,rfl,g⟩:=abg h;let⟨b,rfl⟩:=NE g;show#[a,b,rfl]
universe WL
namespace L2
open PySem
structure Rl (K:PySem.W.Frag)(mg:iā)(x qual:Str)(ps:bć)(st:Stmt)(C f:Addr)(fd:FuncData):Prop where
 at_:mg x=fė
 mkr:Mk K C f
 cl:aī
 fn:At K cŷ qual st f fd
 bd:hþ
theorem kH {p pos:Pos}(M:mξ)(F:oŏ)(hr:eĦ)(hg:ċ)(ha:gÃ)(oy:ϴ:=by decide)(he:Ϲ:=by rfl)(lI:oΕ:=by rfl): PE X nč (Hm C sp [] E0 t):=MT M.mkr F hr hg M.at_ M.bd .nil DF ha oy he lI
universe L2
namespace WL
open PySem L2
section
variable {K:iD}
theorem zK {H:Hp}{f:Str}{x:W}: ∀ {fs:ž} {ks:dĒ},eŊ ->dé=Option.some x -> ∃v,dο=Option.some v /\ Ű
 | _,_, .nil,h=>by cases h
 | cĢ,(g',v)::ks, hύ,h=>by
  cases iœ;rw[List.lookup_cons] at h ⊢;cases hb:f==g with
  | true=>rw[hb] at h;cases h;show#[v,rfl,r]
  | false=>rw[hb] at h;show zK t h
def gN (f:Str)(v:W):ž ->ž
 | []=> [(f,v)]
 | (g,x)::r=>if g=f then(g,v)::r else(g,x)::gN f v r
theorem DU {H:Hp}{f:Str}{x:W}{v:V}(rx:Ű): ∀ {fs:ž} {ks:dĒ},eŊ ->KR K H (gN f x fs) (L2.kG f v ks)
 | _,_, .nil=> jĥ
 | cĢ,(g',u)::ks, hύ=>by cases iœ;unfold gN L2.kG;split;show .cons cĊ t;show .cons bŉ (DU rx t)
theorem DV {H:Hp}: ∀ {kvs:ž} {vs:dĒ},fŚ ->jČ
 | _,_, .nil=>rfl
 | _,_, cÎ=>by rw[aT,aT,DV t]
def Rv (K:iD)(a:WE)(f:Str):WE:=λρ M q=>a ρ M λx M1=>Gq λp C dx fs v=>nD bŊ (M1 p=iό) bĢ cŹ (iĕ) (q v M1)
instance {t:TE}{a:WE}{f:Str} [ia:Ŋ]:IE K (RL K t f) (Rv K a f) where
 imp:=λρ M σ H q Q o h k=>ia.imp ρ M σ H _ _ o h (by rintro x M1 v H1 ⟨p,C,dx,fs,y,ex,hp,hc,hn,hl,h1⟩ t1 m1 r1;exact by subst ex;let⟨ks,e,r⟩:=cČ;let⟨u,hu,ru⟩:=zK r hl;show#[p,C,dx,ks,u,r1.eq,e,hc,hn,hu,k _ _ _ _ h1 t1 m1 ru])
def HK (K:iD)(a b:WE)(f:Str):WS:=λD ρ M=>b ρ M λy M1=>a ρ M1 λx M2=>m_ λp C dx fs=>nD bŊ (M2 p=iό) bĢ cŹ (fϺ) oĪ
instance {t u:TE}{a b:WE}{f:Str} [ia:Ŋ] [ib:bŃ]:IS K (Wv K t u f) (HK K a b f) where
 imp:=λρ M σ H D' D o h e=>ib.imp ρ M σ H _ _ o h λy M1 v1 H1 h1 t1 m1 r1=>ia.imp ρ M1 σ H1 _ _ ω h1 (by rintro x M2 v2 H2 ⟨p,C,dx,fs,ex,hp,hc,hn,hl,h2⟩ t2 m2 r2;exact by subst ex;let⟨ks,ek,r⟩:=m2 p _ hp;have ts:=RG (u:= .ins C dx (kG f v1 ks)) ek;exact#[p,C,dx,ks,r2.eq,ek,hc,hn,by rw[<- DV r];show hl,e.nx ρ _ σ _ h2 lê (o.mv lê (m2.put ts #[_,ce,KR.ts ts (DU cΓ r)]))])
def O8 (C:fR)(p:ik)(a:WA):WE:=λρ M q=>a ρ M λxs M1=> ∀x dx,cģ ->cϒ ->aĩ ->p (bŽ) (kĮ) lϚ
instance {C:fR}{p:ik}{E:XK}{t:TA}{a:WA} [ia:ŋ]:IE K (Hm C bņ [] E t) (O8 C p a) where
 imp:=λρ M σ H q Q o h k=>ia.imp ρ M σ H _ _ o h λxs M1 vs H1 h1 t1 m1 r1=>λx dx hx GK c6=>by
  have GH:lë:=by rw[bL aϮ];show hx
  have UJ:br H1 iώ:=hĥ;have Lj:br iώ oÙ:=hĦ;exact#[bŽ,kĮ,lϚ,pŌ,nÞ,nΜ,?_];rintro y M' u H' ⟨rfl,hq⟩ ts m' r';show pţ
def BW (o:fk MO)(k:fR ->fR ->ž ->Prop):Prop:=gL λC dx fs=>o=iό /\ k C dx fs
def abq:BW (iό) k=k C dx fs:=by apply propext;symm;rintro⟨_,_,_,e,h⟩;cases e;show h;intro h;show#[_,_,_,rfl,h]
def aax:Rv K a f ρ M q=a ρ M λx M1=>gY x λp=>BW aň λC dx fs=>gK bĢ (gK cŹ (xI (dé) λv=>q v M1)):=by unfold Rv gY BW gK xI;congr 1;funext x M1;apply propext;symm;rintro⟨p,C,dx,fs,v,e1,e2,e3,e4,e5,h⟩;show#[p,e1,C,dx,fs,e2,e3,e4,v,e5,h];rintro⟨p,e1,C,dx,fs,e2,e3,e4,v,e5,h⟩;show#[p,C,dx,fs,v,e1,e2,e3,e4,e5,h]
def ZY:HK K a b f D ρ M=b ρ M λy M1=>a ρ M1 λx M2=>gY x λp=>BW aŉ λC dx fs=>gK bĢ (gK cŹ (gK (fϺ) oĪ)):=by unfold HK gY BW gK;congr 1;funext y M1;congr 1;funext x M2;apply propext;symm;rintro⟨p,C,dx,fs,e1,e2,e3,e4,e5,h⟩;show#[p,e1,C,dx,fs,e2,e3,e4,e5,h];rintro⟨p,e1,C,dx,fs,e2,e3,e4,e5,h⟩;show#[p,C,dx,fs,e1,e2,e3,e4,e5,h]
theorem oI:O8 C p a ρ M q=a ρ M λxs M1=> ∀x dx,cģ ->cϒ ->aĩ ->Am p (bŽ) (kĮ) lϚ:=rfl
universe e
universe WL
namespace L2
open PySem
nonrec def wd (s:Stmt)(j:Nat):Stmt:=match s with
 | .ClassDef _ _ _ b _ _ _ _ _ _ _=>b.getD j (hħ)
 | _=> hħ
universe L2
namespace L2
open PySem PySem.Spec PyProof.Rows
def ItI (d:fR)(o:Obj)(kvs:ů):It:=#[λi H=>i<kvs.length /\ lū,λi H x H'=>c7 λp kv=>gy (ņ) (hĨ) (H'=cR H p jϩ) dġ,λi H=>fŠ /\ lū]
theorem BH: ∀ {kvs:ů} {vs:dį} {i:Nat} {q:cF×eX},Ŝ ->gĆ -> ∃p,dU hϨ (aΩ) (eĀ)
 | _,_,0,_, iŔ,e=>by cases e;show fš
 | _,_,i+1,q, cÎ,e=>by have e':_=aĹ:=e;rw[List.getElem?_cons_succ] at e' ⊢;show BH t e'
def xQ (h:pj k u=true):fģ:=by
 rcases d9 h with⟨i,t,rfl,rfl⟩ | ⟨x,t,rfl,rfl⟩
 show bĳ;show bĳ
def AT {P:Program}{w:World}{K:iD}{vg:ġ}{x1}{pos:Pos}{d it:fR}{o:Obj}{kvs:ů}{es:eĸ}{ep:Nat}(ho:iΚ)(c6:d≠it): vn P w K iń fŢ [it] it (λi h=> ∃ok ov,IsItemIter h it d i kvs.length ep ok ov) where
 mem:=by simp
 obj:=λi h st b hb=>by have e:b=it:= aÒ;subst e;let⟨ok,ov,e⟩:=st;show#[_,e,λv z=>nomatch z]
 keep:=(by rintro i h h' ⟨ok,ov,e⟩ k;exact #[ok,ov,k it ś _ e])
 item:=by
  intro X hP hw hK hc i ai s σ H E I hf st hg;subst hP hw hK;let⟨hi,hH⟩:=hg;let⟨vs,rel,hd⟩:=Ke I ho hH;have hl:=rel.length;let⟨ok,ov,st⟩:=st;rw[hl] at st hi;have fp:=gų;let⟨⟨k,x⟩,hx⟩: ∃q,gĆ:=#[vs[i],by simp[hi]]
  let⟨p,hp,ep1,rp⟩:=BH rel hx;exact wpAny_pyNext_items_item st hd hx λkey h' uf abA ht hsz hk=> ?_;exact#[_,rfl,wpAny_letOwnedTupleGo_items abA gΟ];have QR:s.heap.objs.size≠it:=Nat.ne_of_gt (aJ st);have rk:RelV (kV p.1) key:=by rw[ep1];show xQ uf
  exact#[jψ,cR H s.heap.objs.size (.tup ež),EN.xS (t':=s.toks) I (λb o hb _ q=>hϛ (hk b o hb q)) fp fp #[by rw[cY];change 2<=bĝ;decide,[key,x], .cons rk gϓ,?_],rfl,#[_,p,hΓ,hp,rfl,rfl],#[key,x,by rw[hl];show LJ],Ÿ];show nϡ;have e:b=it:=by simpa using hb
  subst e;rw[bL (aZ QR)];show fp.1
 done:=by intro X hP hw hK hc i ai s σ H E I hf st hg;subst hP hw hK;let⟨hi,hH⟩:=hg;let⟨vs,rel,hd⟩:=Ke I ho hH;have hl:=rel.length;let⟨ok,ov,st⟩:=st;rw[hl] at st hi;let⟨f0,f1,f2,f3,f4,f5⟩:=gų;show wpAny_pyNext_items_end eĘ st hd (by simp;exact mΨ) pϡ
 self:=λ_ _ _ _ _ st h=>let ⟨_,_,e⟩:=st;W.kcp_self e h
section
variable {X:Cx}{vg:ġ}{x1:_}{AW:Pos}{o:Expr}{td:TE}{gx fO:Pos}
def JG (td:TE):TI:=λσ H R=>td σ H λx H1=>c7 λd kvs=>dU (x= aľ) (H1 d=ϊ) (∀o,R fŢ (cR H1 d (gό)))
def zn (et:iϱ)(ho:cü)(zV:pą:=by rfl)(zS:lŜ:=by rfl):PI X tg (oÉ) (JG td):=by
 subst et;intro ai s σ H R I h;exact pē;rintro v s1 ⟨x,H1,I1,r1,d,kvs,ex,hd,q1⟩;subst ex;obtain rfl:fţ:=r1;let⟨t1,t2,sys⟩:=xR I1 (.inl #[kvs, .inl hd]);exact qϛ;let⟨z,JQ,vs,rel,dd⟩:=pR I1.c9 (.inl hd);exact qϞ;let⟨ob,es,ep,g1,g2,g3,g4⟩:=dd;have da:s1.heap.DictAt gŹ d vs ep:=#[ob,es,g1,g2,g3,g4]
 have hdl:d<s1.heap.objs.size:=aJ g1;exact wpAny_pyIter_items (d:=d) (kvs:=vs) (ep:=ep) (knd:=fď) jχ (da.push _) ?_;have I2:=I1.freeze hd g1;exact#[_,[_],_,ItI d ob kvs,_,rfl,I2.kept (t':=s1.toks) λb o e=>ar _ bķ,AT g3 ?_,?_,Ÿ,q1 ob];change d≠(s1.heap.push _).objs.size;rw[eM];exact λe=>Lqg Û (.a ϒ ϑ) π (LqNp hdl cŕ) rfl;rw[rel.length];show#[_,_,Ŀ];have I3:Inv X ai σ (cR H1 d (.pK ob cç)) {s1 with heap:=pŜ}:=nŷ;have e:=Ŕ;subst e;show I3.ya õ (I3.c9.fresh õ)
universe e
def Inv.aaK {σ:St}(I:Ϙ)(e:lū)(h0: mϬ): Inv X ai σ (cR H d cç) s:=by
 have ne: ∀ {b u},cş ->u≠ gό ->aÞ:=λ{b u} h n z=>by subst z;rw[e] at h;show fŘ
 have Nu: lå:=λ{b} h z=>by subst z;rw[e] at h;cases h
 exact qϻ;have z:=læ;rw[bL (Nu z)];show z;have z:=hĢ;rw[lŭ];show z;have z:=iŎ;have nb:aÞ:=λz=>h0 o' u (z▸h);rw[bL nb];show z;let⟨more,z⟩:=hģ;show#[more,by rw[lŭ];show z];rw[gă];show I.free;rw[jĵ];show cϏ;let⟨a1,a2,a3⟩:=cũ;show nĔ;have ow: ∀c,H c=fř ->iŕ=fř:=λc r=>by rw[lŮ];show r
 have tu: ∀c xs,iĀ ->iŕ=fϨ:=λc xs r=>by rw[lŮ];show r
 by_cases hb:b=d;subst hb;rw[ce] at h;cases h;have z:=gϋ (H':=cR H b cç) (h':=s.heap) (eŻ) ow tu;show z.2;rw[aÐ] at h;show nŐ
def PN (t:TS):TS:=λD σ H=>c7 λd kvs=>H d=ϊ /\ t {D with nx:=λσ' H'=>c7 λo us=>H' d=some (.pK o bž) /\ D.nx σ' (cR H' d bž)} σ H
def Ds {st:Stmt}(h:cÝ):PS X st (PN t):=by
 rintro ai s σ H D I ⟨d,kvs,hd,ht⟩;have h0: mϬ:=λo u e=>by have:=I.base.l8 d o u e;rw[hd] at this;cases this
 exact dz (h ai s σ H _ I ht) gž;cases fl with
 | next=>let⟨σ',H',I',o,us,e,q⟩:=hs;show#[σ',_,I'.aaK e h0,q]
 | ret v=>show hs
 | brk=>show hs
 | cont=>show hs
universe L2
namespace WL
open PySem L2
variable {K:iD}
def BM (a:WE):WI:=λρ M q=>a ρ M λx M1=>c7 λd kvs=>dU (x=wr d) (M1 d=ϊ) (qļ)
theorem BI: ∀ {H:Hp} {kvs:Ų} {vs:ů} {i:Nat} {q:cF×V},fŚ ->gĆ -> ∃p,dU hϨ (aΩ) (gî)
 | _,_,_,0,_, iŔ,e=>by cases e;show fš
 | _,_,_,i+1,q, cÎ,e=>by have e':_=aĹ:=e;rw[List.getElem?_cons_succ] at e' ⊢;show BI t e'
def BQ:Gu K H1 (ItI d o ks) nŔ mϭ:=by intro i M H t m hM;let⟨e1,r1⟩:=m d _ hM;have hl:=t_ r1;rw[aa];exact#[λh=>#[(by exact Lqj Ğ Lq0 Lq1 ς τ (LqNp câ (bŐ)) rfl),e1],λh=>#[(by exact Lqj Ğ ϒ Lq1 kϞ ο (LqNp cñ h) rfl),e1],?_];rintro v H' hi ⟨p,kv,hp,hk,e2,e3⟩;subst e2 e3;let⟨p2,hp2,e4,rp⟩:=BI r1 hk;have ts:br H (cR H p jϩ):=hđ;exact#[ts,bň, .tup [gl p2.1,p2.2],by rw[aF,hp2];rfl,WR.UT cΔ oÊ];rw[e4];cases kv.1<;>show WR.v
instance {t:TE}{a:WE} [ia:Ŋ]:II K (JG t) (BM a) where
 imp:=λρ M σ H q R o h k=>ia.imp ρ M σ H _ _ o h (by rintro x M1 v H1 ⟨d,kvs,ex,hd,h1⟩ t1 m1 r1;exact by subst ex;let⟨ks,e,r⟩:=m1 d _ hd;exact#[d,ks,r1.eq,e,λob=>k _ _ _ _ _ (h1 ob ks) (t1.trans ał) (m1.put ał #[ce,gð]) BQ])
def Xs:BM a ρ M q=a ρ M λx M1=>gY x λd=>k9 (M1 d) λkvs=> qļ:=by unfold BM gY k9;congr 1;funext x M1;apply propext;symm;rintro⟨d,kvs,e1,e2,h⟩;show hĩ;rintro⟨d,e1,kvs,e2,h⟩;show hĪ
def RZ (t:WS):WS:=λD ρ M=>c7 λd kvs=>iĸ /\ t {D with nx:=λρ' M'=>gL λo ks us=>M' d=some (.fz o ks us) /\ D.nx ρ' (um M' d bž)} ρ M
theorem RH (h:H a=some (.pK o (.dK xs))):gΔ:=CP h iĄ λ_ _ z=>nomatch z
instance {t:TS}{a:WS} [ia:bŎ]:IS K (PN t) (RZ a) where
 imp:=λρ M σ H D' D o ⟨d,kvs,hd,h⟩ e=>by let⟨ks,ek,r⟩:=o.hp d _ hd;exact#[d,ks,ek,ia.imp ρ M σ H _ _ o h #[?_,e.rt,e.bk,e.ct]];rintro ρ' M' σ' H' ⟨ob,us,ws,hM,hq⟩ ts ok;let⟨e1,r1⟩:=ok.hp d _ hM;have t2:=RH (u:= .dK us) e1;show#[ob,us,e1,e.nx ρ' _ σ' _ hq (ts.trans t2) (ok.mv t2 (ok.hp.put t2 #[us,ce,KR.ts t2 r1]))]
universe WL
set_option maxHeartbeats 4000000
namespace DC
open PySem PySem.Spec PyProof.Rows
def ND:typeLookup ϙ "keys" =bϱ:=by rw[typeLookup_type,builtinLookup_eq_fast];kernel_rfl
theorem uq:entryFor table iŖ =some Builtin.«dict.update.loop» :=entryFor_of_tree (by kernel_rfl)
def kW:plainId iŖ =true:=by decide+kernel
def Nt (hx:fï=some #[fô,none, .seq xs k,sl])(hA:gÀ)(h: ∀h' tk,(oş) ->Q none lœ):wpAny Φ A (getAttr? ł "keys") Q E s:=by
 let⟨hp,g,d,tk,os⟩:=s;have hT: ∀UL,(#[hp,g,d,UL,os]:eY).TypeIs ł aΧ :=λ_=>#[_,hx,rfl]
 have f1:=sub_AttributeError;have f3:=F.slot_tuple_getattribute.lookup;have f4:=F.slot_tuple_getattribute.bind ł;have f5:=am_tuple_getattr_none;unfold getAttr? getAttrBy? getAttrBy;repeat (any_goals (first | assumption | show hT _ | ((with_reducible change wpAny _ _ (call (Value.builtin "tuple.__getattribute__") _ _) _ _ _);exact call_meets F.slot_tuple_getattribute (hT _) am_entry_tuple_getattribute (F.args_tuple_getattribute_2 _ _) (meets_getattribute_miss_tuple a xs k sl "keys" _ ND iĪ gü) #[hx,hA,λh' UL e gX=> ?_]) | wp_step))
 let⟨t',u',he⟩:=gX.there;change wpAny _ _ (getattributeRaised _ _ _ _ _ _ _) _ _ _;unfold getattributeRaised;repeat (any_goals (first | assumption | wp_step))
 show h h' _ gX.keeps
section
variable {prog:Program}{w:World}{κ:Type} [gÍ]{knd:kΑ}{A:Around}{E:Υ}
structure Rj (knd:kΑ)(h:Heap)(its:dä)(ps:List (κ×Value)):Prop where
 len:its.size=ps.length
 at_: ∀ (i:Nat) (p:κ×Value),gĈ -> ∃a key,aϰ =fĄ /\ knd.is p.1 key=true /\ h.IsTuple a (List.toArray [key,p.2])
theorem Rj.keeps (P:Rj knd h its ps)(hk: ∀b o,b≠x ->gŨ ->hé)(hx: ∀o its n,h.get? x=Ą ->jķ):hī:=#[P.len,λi p e=>by let⟨a,key,h1,h2,o,ho,hc,n,r⟩:=P.at_ i p e;show#[a,key,h1,h2,o,hk a o (λz=>hx o _ n (z▸ho) r) ho,hc,n,r]]
def putAll (kvs:dã)(ps:dã):dã:=ps.foldl (λm p=>stored m p.1 p.2) kvs
def A2 (kvs:dã)(k:κ)(v:eX):(stored kvs k v).length<=eį:=by unfold stored;split;simp;simp
def loop (hA:ił)(hn:iŗ): ∀ (k i:Nat) {s:eY} (it d:fR) (tk:Tok) (kvs:dã),ps.length - i=k ->i<=ps.length ->fŠ ->s.heap.IsTupleIter it t i ->jĩ ->jĸ ->s.heap.DictOf knd d kvs ->d≠it ->d≠t ->t≠it ->(∀h' UL,h'.DictOf knd d (putAll kvs (cĤ)) ->(∀b o,aÞ ->oδ) ->R (.ok eü) {s with heap:=h',toks:=UL}) ->codeAny Φ A (.builtin iŖ #[[aľ, .ref it, .int i tk, .none],[]]) R s:=by
 intro k;induction k with
 | zero=>
  intro i s it d tk kvs hk hi hl vd ht hP hd n1 n2 n3 hR;have e:i=ps.length:=by omega
  exact jϪ;rw[lį];change oī;exact ak (wpAny_pyNext_tuple_end hA vd ht (by rw[Array.getElem?_eq_none];rw[hP.len];exact nΝ) eę);change wpAny _ A.in1 (Builtin.Dict.addKeywords d [] >>=_) _ _ _;exact ak (aN aΨ);have e2:cĤ= []:=List.drop_eq_nil_of_le (by exact nΝ);exact hR h' s.toks ?_ λb o _ n4 eb=>hx b o n4 eb;rw[e2];show hd.extBut hx n1
 | succ k ih=>
  intro i s it d tk kvs hk hi hl vd ht hP hd n1 n2 n3 hR;have gu:i<ps.length:=by omega
  let⟨p,hp⟩: ∃p,gĈ:=#[ps[i],aq gu]
  let⟨a,key,h1,h2,h3⟩:=hP.at_ i p hp;exact jϪ;rw[lį];change oī;exact ak (wpAny_pyNext_tuple_item vd ht h1 λh' abL iN=> ?_);have nc: ∀o its n,jυ ->jķ:=λo its n eo z=>by let⟨o2,e2,_,c2⟩:=vd;rw[eo] at e2;cases e2;rw[z] at c2;cases c2
  have Yt:hī:=hP.keeps (λb o n4 e4=>iN.extBut b o n4 e4) nc;have nr:h'.DictOf knd d kvs:=hd.extBut iN.extBut n1;have pD:h'.IsTuple t its:=by let⟨o,ho,r⟩:=ht;show#[o,iN.extBut t o n3 ho,r]
  let⟨a',Xq,TX,LP,h3'⟩:=Yt.at_ i p hp;let⟨oa,hoa,hca,na,hda⟩:=h3';have ea:a'=a:=by rw[h1] at TX;cases TX;rfl
  subst ea;have hT:(#[h',s.gens,s.drawn,s.toks,s.os]:eY).TypeIs (.ref a') aΧ :=#[oa,hoa,hca]
  change wpAny _ A.in1 (holding [.ref a'] _ >>=_) _ _ _;exact ak (wpAny_holding (ak (wpAny_tryCatch ?_)));unfold Builtin.Dict.pairItems;exact ak (wpAny_typeOf hT ?_);rw[am ś];exact ak (wpAny_seqItems hoa hda ?_);exact aÎ;change wpAny _ A.in1 (holding [Xq,p.2] (dictSet d Xq p.2)) _ _ _;exact wpAny_holding (wpAny_dictSet_pairs LP nr (λh2 Vb lq=> ?_) (by rw[cY];exact Lqj Ğ Lq0 fĎ nß mŚ (LqNp hn (LqNp hl gu)) rfl));exact lϛ;have ei:(rawInt (Ĭ+1))=Value.int gϔ 0:=by simp[rawInt]
  rw[ei];have FU:Rj knd h2 its ps:=Yt.keeps (x:=d) (λb o n4 e4=>lq.extBut b o n4 e4) (λo its n eo z=>by let⟨o2,_,_,e2,_,c2,_⟩:=nr;rw[eo] at e2;cases e2;rw[z] at c2;cases c2);exact ih ß it d 0 (stored kvs p.1 p.2) Ū gu (by have:=A2 kvs p.1 p.2;exact Lqj Ğ Lq0 ϑ υ Ϭ fϻ rfl) ?_ ?_ FU Vb n1 n2 n3 λh3 tk3 TJ hk3=> ?_;let⟨o,ho,r⟩:=abL;show#[o,lq.extBut it o (aZ n1) ho,r];let⟨o,ho,r⟩:=pD;show#[o,lq.extBut t o (aZ n2) ho,r];exact hR h3 tk3 ?_ λb o n4 n5 eb=>hk3 b o n4 n5 (lq.extBut b o n4 (iN.extBut b o n5 eb));have:cĤ=p::ps.drop ß:=by have:=eB gu;rw[this];rw[aq gu] at hp;cases hp;rfl
  rw[this];show TJ
def jN (hA:ił)(hn:iŗ)(hx:fő=oâ)(hP:jĸ)(h: ∀h' tk,h'.DictOf knd s.heap.objs.size (putAll [] ps) ->(oş) ->Q ků lœ): wpAny Φ A (call (.type aĵ) [aĿ]) Q E s:=by
 exact callType_codes (Q₁:=λobj s₁=>obj= jψ /\ s₁= {s with heap:=oΗ}) PySem.F.kt_called_dict (PySem.F.kt_typeCall_dict_1 _) PySem.F.entry_dict_init (PySem.kt_code_dict_new _ cų) ?_;rintro obj s₁ ⟨rfl,rfl⟩;have N6:(oΗ).DictOf knd s.heap.objs.size []:=Heap.DictOf.new s.heap;have LC:(oΗ).get? t=oâ:=ar _ hx;have gu:t<s.heap.objs.size:=aJ hx;exact#[N6.typeIs,PySem.F.args_dict_init_2 _ _,?_];unfold Builtin.«dict.__init__»;exact aÔ;unfold Builtin.Dict.selfAndRest;exact ak (wpAny_notOrdered_dict N6.typeIs ?_);change wpAny _ _ (pure (s.heap.objs.size,[dŰ])) _ _ _;exact aÎ;change wpAny _ _ (Builtin.Dict.updateFrom "dict.__init__" s.heap.objs.size (aĿ) [] .none) _ _ _;unfold Builtin.Dict.updateFrom;exact ak (wpAny_typeOf (T:= aΧ) #[_,LC,rfl] ?_);rw[am ⋯];exact ak (Nt LC hA λh1 ZR yE=> ?_);rw[am (show(none:fk eX).isNone=true from rfl)];exact ak (wpAny_rule (aÔ));have U4:h1.IsTuple t its:=#[_,yE t _ LC,rfl,n,rfl]
 exact wpAny_pyIter_tuple U4 ?_;exact lϛ;have _F:h1.DictOf knd s.heap.objs.size []:=by let⟨o,es,ep,ho,r⟩:=N6;show#[o,es,ep,yE _ _ ho,r]
 have _n:s.heap.objs.size<h1.objs.size:=by let⟨o,es,ep,ho,r⟩:=_F;show aJ ho
 have LM:Rj knd (qç) its ps:=#[hP.len,λi p e=>by let⟨a,key,e1,e2,o,ho,r⟩:=hP.at_ i p e;show#[a,key,e1,e2,o,ar _ (yE a o (ar _ ho)),r]]
 have ei:(rawInt 0)=Value.int fċ 0:=rfl;rw[ei];have JP:t≠h1.objs.size:=a_ (aJ (yE t _ LC));have ht4:(qç).IsTuple t its:=let ⟨o,ho,r⟩:=U4;#[o,ar _ ho,r]
 have vd:(qç).IsTupleIter h1.objs.size t 0:=jχ
 have Vb:=_F.push pϱ;exact loop (A:=A.in1) (knd:=knd) (ps:=ps) (its:=its) (t:=t) (s:= {s with heap:=qç,toks:=ZR}) hA hn ps.length 0 h1.objs.size s.heap.objs.size 0 [] Ū (dm _) õ vd ht4 LM Vb (a_ _n) (Nat.ne_of_gt gu) JP λh' UL nr l5=> ?_;exact#[rfl,h h' UL ?_ λb o eb=>l5 b o (a_ (aJ eb)) (a_ (aJ iŘ)) (ar _ iŘ)];simpa using nr
universe e
universe DC
namespace L2
open PySem PySem.Spec PyProof.Rows
section
variable {X:Cx}{ai:ψ}{σ:St}{H H':Hp}{s:eY}{h':Heap}
def Inv.more (I:Ϙ)(k: oş)(hx: mſ)(hn: ∀b,iģ ->ľ ->cÕ)(c9:iΞ): oÖ:=by exact I.call (ch:= []) (g':=s.gens) (d':=s.drawn) #[λb o q n _ _=>k b o q,λb o q n _ _=>#[o.slots,k b o q],λb o q n _=>hn b (aJ q) n,λb o q _=>#[o,k b o q],λb ys q=>bſ,λb o u q=>bſ,λb ps q=>#[#[],by rw[bſ];simp]] c9 I.bare λb hb=>nomatch hb
def HZ (K:iD):Ϫ:=λxs H Q=> ∃ (a:fR) (vs:Ä) (ps:ů),xs= bû /\ dľ /\ iŗ /\ iύ /\ qÜ /\ ∀q,H q=none ->Q (.ref q) (cR H q (nϩ))
theorem Ig {K:iD}{h:Heap}(tup: ∀ {b:fR} {xs:Ä},ko K H b xs -> ∃its:â,cÐ /\ h.IsTuple b its.toArray): ∀ {ps:ů} {vs:Ä} {its:â},iύ ->qÜ ->cM vs its ->∃qs:dį,KV ps qs /\ ∀ (i:Nat) q,qs[i]? =aĹ -> ∃a key,aϰ =fĄ /\ (fď).is q.1 key=true /\ h.IsTuple a (List.toArray [key,q.2])
 | [],vs,its,hl,_,r=>by exact#[[], .nil,eγ];simp at e
 | Ö,[],its,hl,_,r=>by simp at hl
 | p :: ps,aÛ,its,hl,ha,r=>by
  cases r with
  | @cons _ u _ us r1 r2=>
   let⟨qs,hq,hqs⟩:=Ig tup (ps:=ps) (vs:=vs) (its:=us) á (λi p e=> ⇑(ha ß p Å)) r2;let⟨b,hb,hs⟩:=ha 0 p rfl;have wj:v= aĶ:= aÒ;subst wj;have eu:fĥ:=r1;subst eu;let⟨js,rj,tj⟩:=tup hs;cases rj with
   | cons k1 k2=>
    cases k2 with
    | cons k3 k4=>
     cases k4;rename_i key val;exact#[(p.1,val)::qs, .cons #[rfl,k3] hq,eγ];cases i with
     | zero=>simp at e;subst e;show#[b,key,rfl,pk k1,tj]
     | succ i=>simpa using hqs i q Å
theorem v7: ∀ {ps:ů} {qs:dį} {m:ů} {n:dį},KV ps qs ->KV m n ->KV (mϮ) (DC.putAll n qs)
 | _,_,_,_, .nil,r=>r
 | _,_,_,_, .cons ⟨e,rv⟩ t,r=>by rw[List.foldl_cons];exact v7 (n:=stored _ _ _) t ?_;rw[e];show r.put _ rv
theorem vZ: ∀ (ps:ů) (m:ů),(mϮ).length<=m.length+ps.length
 | [],m=>by simp
 | Ö,m=>by rw[List.foldl_cons,aT];have:=vZ ps (eſ);have:=iJ m p.1 p.2;omega
def jN (hc:ŷ):f' X (.type aĵ) (HZ X.K):=by intro ai s σ H xs us Q I r h;let⟨a,vs,ps,rfl,hq,hn,hl,hps,q⟩:=h;let⟨u,rfl,ru⟩:=aϖ;cases ru;let⟨its,rv,⟨o,ho,hco,n,hd,hdd⟩,hz⟩:=I.RF hq;let⟨qs,hk,hqs⟩:=Ig (X:=X) (h:=s.heap) (λ{b xs} hs=>by let⟨js,rj,tj,_⟩:=cν;show#[js,rj,tj]) hl hps rv;have d_:qs.length=ps.length:=hk.length.symm;let⟨c,_U,dat,sl⟩:=o;simp only at hco hd hdd;subst hco hd hdd;exact DC.jN (knd:=fď) (ps:=qs) oĨ (by rw[d_];show hn) ho #[by have:=rv.length;simp;exact LqNx (Lqj ř Lq0 Lq1 jϬ jţ (LqNp cñ (LqNp cô (dķ))) rfl) (Lqj ř Lq0 Lq1 (.a Lq2 ν) jϭ (LqNp câ (LqNp (LqNe d_) (dĶ))) rfl),λi p e=> ⇑(hqs i p e)] λh' tk nr JX=> ?_;exact#[jψ,_,I.laid (t':=tk) JX õ (ut ?_ (beq_eq_false_iff_ne.mpr (aZ (a_ I.big))) (v7 hk .nil) nr),rfl,kŷ];have:=vZ ps [];rw[cY];simp at this;exact Lqj Û Lq0 fĎ π jϮ gâ rfl
def HY:Ϫ:=λxs H Q=> ∃d kvs,xs= [aľ] /\ Rd H d cç /\ ∀l,bĭ ->Q bĮ (cR H l (.lst kΒ))
theorem vC: ∀ {kvs:ů} {vs:dį} {fU:â},Ŝ ->fU.length=vs.length ->(∀ (j:Nat) v,fU[j]? =ă -> ∃k x,vs[j]? =some aÕ /\ dá) ->cM kΒ fU
 | _,_,[], .nil,_,_=> .nil
 | _,_,_::_, .nil,h,_=>by simp at h
 | _,_,[], .cons _ _,h,_=>by simp at h
 | _,_,u::us, .cons (a:=p) (b:=q) ⟨e,_⟩ t,h,hk=>by exact .cons ?_ (vC t Â λj v ev=> ⇑(hk Þ v ⇑ev));let⟨k,x,e1,e2⟩:=hk 0 u rfl;simp at e1;change RelV (kV p.1) u;rw[e,e1];show xQ e2
def jM (hc:ŷ):f' X ϋ HY:=by intro ai s σ H xs us Q I r h;let⟨d,kvs,rfl,hd,q⟩:=h;let⟨u,rfl,ru⟩:=aϖ;cases ru;let⟨z,JQ,vs,rel,dd⟩:=pR I.c9 hd;let⟨ep,yF⟩:=dd.dictAt;exact W.kdl_call (W.kdl_dict (knd:=fď) (kvs:=vs) (ep:=ep) JQ) eĘ yF mĢ λh' tk fU c JX hg items=> ?_;have hv:cM kΒ fU.toList:=vC rel (by rw[dP];show items.1) λj v e=>items.2 j v oÂ;exact#[aķ,_,I.laid (t':=tk) JX õ (show fu X.prog X.w _ h' _ (aė) from#[by rw[aa];show z,fU.toList,c,hv, ⇑hg]),rfl,kŷ]
universe e
section
variable {X:Cx}{o:Expr}{td:TE}{gx fO p1 Ik:Pos}
theorem vB: ∀as:ä,cM gĉ (hĬ)
 | []=> .nil
 | a::r=> .cons rfl (vB r)
def C0 (td:TE):TE:=λσ H Q=>td σ H λx H1=>c7 λd kvs=>dU (x= aľ) (Rd H1 d cç) (∀ (l:fR) (vs:Ä) (H2:Hp),cğ ->fY H1 H2 ->H2 l=gï ->vs.length=kvs.length ->(∀ (i:Nat) kv,hĨ -> ∃a,aİ =fĄ /\ mο) ->(∀b u,H2 b=þ ->H1 b=þ \/ H1 b=none /\ (b=l \/ ∃xs,u= aϋ)) ->Q bĮ H2)
def vR (Yd:dζ)(Ts:hϥ)(hc:ŷ)(ho:cü)(zV:pą:=by rfl)(zS:lŜ:=by rfl) (ht:starEach [oÉ] X.env= [(false,eval (oÉ) X.env)]:=by rfl): PE X (.Call hϦ [oÉ] [] Ik) (C0 td):=by
 intro ai s σ H Q I h;exact oĩ;rw[ht];exact dJ (pē);rintro v s1 ⟨x,H1,I1,r1,d,kvs,ex,hd,q1⟩;subst ex;obtain rfl:fţ:=r1;let⟨t1,t2,sys⟩:=xR I1 (.inl #[kvs,hd]);exact qϛ;let⟨z,JQ,vs,rel,dd⟩:=pR I1.c9 hd;exact qϞ;exact jě;let⟨ep,yF⟩:=dd.dictAt;exact W.kdx_call (knd:=fď) (kvs:=vs) (ep:=ep) fŜ jχ (yF.push _) mĢ λh' tk fU c as hk hg hl hG FT=> ?_;have hsz:pϖ=iϲ:=eM ..;generalize hL:pϖ=L at hg hG ⊢;have _K:s1.heap.objs.size<L:=by exact Lqj Ğ ϒ Lq1 lÝ τ (LqNp cŗ ((LqNe hL))) rfl
 have _z:as.length=kvs.length:=by rw[hl,rel.length]
 have hnd:as.Nodup:=hG.rise.imp λh=>a_ h;let H2:Hp:=λb=>if b=L then lů else match kvs[as.idxOf b]? with | some kv=>some jϩ | none=>H1 b
 have eL:H2 L=lů:=ą;have eA: ∀ (j:Nat) a,as[j]? =Ċ -> ∃kv,hĭ /\ mο:=λj a e=>by
  have hj:j<as.length:=(ao.mp e).1;let⟨kv,B0⟩: ∃kv,hĭ:=#[kvs[j],aq (by exact Lqj Ğ ϒ Lq1 kϞ ο (LqNp (LqNe _z) hj) rfl)]
  have ej:as.idxOf a=j:=by have:=(ao.mp e).2;rw[<- this];show hnd.idxOf_getElem j hj
  exact#[kv,B0,?_];have na:a≠L:=Nat.ne_of_gt (hG.above a (az e));change(if a=L then _ else _)=_;rw[aj na,ej,B0]
 have eO: ∀b,b≠L ->b∉as ->H2 b=H1 b:=λb n1 n2=>by change(if b=L then _ else _)=_;rw[aj n1,List.idxOf_eq_length n2,List.getElem?_eq_none (by exact Lqj Û Lq0 Lq1 Lq0 Lq1 (LqNd _z) rfl)]
 have out: ∀b,b<s1.heap.objs.size ->b≠L /\ b∉as:=λb hb=>#[by exact λe=>Lqg ř (.a ϒ mϻ) (.a Lq1 (.a Lq3 ς)) (LqNp cŗ (LqNp (LqNe hL) (LqNp hb cŕ))) rfl,λz=>absurd (Nat.lt_trans hb (Nat.lt_trans _K (hG.above b z))) aĖ]
 have same:fY H1 H2:=λb u e=>by let⟨n1,n2⟩:=out b (I1.c9.lt e);rw[cϓ];show e
 have keep: ∀b ob,gê=Ġ ->cÑ=Ġ:=λb ob e=>hk b ob bķ;have c9:lE X.prog X.w H2 h':=λb u e=>by by_cases n1:b=L;subst n1;rw[eL] at e;cases e;show#[by rw[aa,_z];show z,hĬ,c,vB as,by rw[<- FT];simpa using hg];by_cases n2:b∈as;let⟨j,hj⟩:=cA.mp n2;let⟨kv,B0,e2⟩:=eA j b hj;rw[e2] at e;cases e;let⟨key,k,x,hx,uf,ht⟩:=hG.pairs j b hj;let⟨p,hp,ep1,rp⟩:=BH rel hx;rw[B0] at hp;cases hp;exact#[by rw[cY];change 2<=bĝ;decide,[key,x], .cons (by rw[ep1];show xQ uf) gϓ,_,ht,rfl,_,rfl,rfl];rw[cϓ] at e;show(I1.c9 b u e).oO (λc v _ r=>keep c v r) (λc r=>same c _ r) λc ys r=>same c _ r
 exact#[.ref L,H2,I1.more (t':=tk) keep (λb u e=>same b u e) (λb hb e=>by let⟨n1,n2⟩:=out b hb;rw[cϓ];show e) c9,rfl,q1 L gĉ H2 (mģ) same eL (by rw[aa,_z]) (λi kv e=> ?_) eČ];let⟨a,ha⟩: ∃a,as[i]? =Ċ:=#[as[i]'(by have:=(ao.mp e).1;exact Lqj Ğ ϒ Lq1 kϞ ο (LqNp (LqNd _z) this) rfl),aq _]
 let⟨kv',h1,h2⟩:=eA i a ha;rw[e] at h1;cases h1;show#[a,by rw[aF,ha];rfl,h2];by_cases n1:b=L;show .inr #[by rw[n1];show mģ, .inl n1];by_cases n2:b∈as;let⟨j,hj⟩:=cA.mp n2;let⟨kv,B0,e2⟩:=eA j b hj;rw[e2] at e;cases e;show .inr #[I1.c9.fresh (Nat.le_of_lt (Nat.lt_trans _K (hG.above b n2))), .inr Ļ];rw[cϓ] at e;show .inl e
def z8 (i:Int)(n:Nat):Ä:=iĵ λ ĩ=> .int fŤ
def Hn (ta:TA):TE:=λσ H Q=>ta σ H λvs H1=>c7 λ cĞ=>gy (vs= [Ă, aĤ, .int Î]) fť lİ (∀l,cğ ->Q bĮ (cR H1 l lϜ))
def E6 (h:ItemsOf (λj v=> ∃t,v=Value.int (i+aϘ*Î) t) fU n):cM (z8 i n) fU.toList:=by
 let⟨hl,hv⟩:=h;have Tx:iő:= á;have key: ∀ (k:Nat) (l:â) (m:Nat),l.length=m ->(∀j v,l[j]? =ă -> ∃t,v=Value.int (i - gύ) t) ->cM (jϦ mś) l:=by
  intro k l;induction l generalizing k with
  | nil=>intro m hm _;subst hm;show .nil
  | cons v r ih=>intro m hm hj;subst hm;rw[aT,List.range'_succ,aY];exact oţ;let⟨t,e⟩:=hj 0 v rfl;show#[t, Å];let⟨t,e'⟩:=oϪ;show mŜ
 have:=key 0 fU.toList n Tx λj v e=>by let⟨t,e'⟩:=hv j v oÂ;show mŜ
 unfold z8;rw[List.range_eq_range'];show this
def Bi {q1 q2 Ik xE:Pos}(Yd:dζ)(Ts:hϥ)(hg:eğ)(hm:iĎ)(hc:ŷ)(ha:gΩ)(hs:kĪ= [jĉ,jĶ,jĹ]:=by rfl)(lq:jĳ= [jĶ,jĹ]:=by rfl)(ht:starEach [nΞ] X.env= [(false,eval (nΞ) X.env)]:=by rfl): PE X (.Call (.Name ÿ q1) [nΞ] [] Ik) (Hn ta):=by
 intro ai s σ H Q I h;exact oĩ;rw[ht];exact qı;rintro us s1 ⟨vs,H1,I1,r1,q1⟩;let⟨i,j,e,ok,hn,q⟩:=q1;subst e;cases r1 with
 | cons r rr=>
  cases rr with
  | cons r' rr=>
   cases rr with
   | cons WV rr=>
    cases rr;let⟨t,rfl⟩:=r;let⟨t',rfl⟩:=r';let⟨RM,rfl⟩:=WV;exact call_range_3 ⋯ (jě);have I2:Inv X ai σ H1 {s1 with heap:=s1.heap.push {cls:= fú,data:= .fields (List.toArray [bü, cĝ, .int Î RM])},toks:=s1.toks}:=kχ;have hsz:Builtin.Range.rangeSize i j Î=(fŦ:Int):=by have:=zh (a:=i) (b:=j);have h0:=qk (a:=i) (b:=j) (c:= -1) ⋯;unfold Ln at this;omega
    exact call_list_range (n:=fŦ) fŜ hõ (y8 ok) hsz Ū mř;have hv:=E6 items;exact#[aķ,_,I2.laid (t':=tk) kp õ (show fu X.prog X.w _ h' _ lϜ from mî),rfl,q _ jĴ];unfold z8;rw[aa,cx];show aI hn iľ
universe e
universe L2
namespace WL
open PySem L2
variable {K:iD}
def Rx:Cv:=λxs M q=> ∃l:Ų,dU (xs= [.tup mπ]) (l.length<=Ĥ) (∀p,ň ->q Đ (um M p (.dK (l.foldl jϯ []))))
def WR.key {v:V}(h:gΕ):v=kV k:=by cases k<;>show h.eq
theorem zu {H:Hp}: ∀ {l:Ų} {vs:Ä},cW K H mπ vs -> ∃ps:ů,dU (dς) (iύ) qÜ
 | [],vs,h=>by simp![List.map_nil,cW] at h;subst h;show#[[], .nil,rfl,λi p e=>by simp at e]
 | aÕ::l,vs,h=>by
  simp![aY,cW] at h;let⟨v,t,rfl,h1,h2⟩:=h;let⟨ps,r,hl,hp⟩:=zu h2;let⟨b,us,rfl,hs,hr⟩:=h1.tup;let⟨u1,u2,rfl,g1,g2⟩:=hr.two;cases g1.key;exact#[(k,u2)::ps, .cons #[rfl,g2] r,by simp[hl],λi p e=> ?_];cases i with
  | zero=>simp at e;subst e;show#[b,rfl,hs]
  | succ i=>simpa using hp i p Å
theorem DW {H:Hp}: ∀ {l:Ų} {ps:ů} {m:Ų} {n:ů},dς ->KR K H m n ->KR K H (l.foldl jϯ m) (ps.foldl jϫ n)
 | _,_,_,_, .nil,r=>r
 | _,_,_,_, .cons (a:=a) (b:=b) ⟨e,rv⟩ t,r=>by rw[List.foldl_cons,List.foldl_cons];exact DW t ?_;rw[e];show KR.put rv r
instance:IC K (HZ K) Rx where
 imp:=by rintro xs v M H q Q m r1 ⟨l,rfl,hl,h⟩ k;let⟨v,rfl,r⟩:=r1.one;let⟨a,vs,rfl,hv,rr⟩:=r.tup;let⟨ps,hr,d_,hp⟩:=zu rr;exact#[a,vs,ps,rfl,hv,by rw[<- t_ hr];show hl,d_,hp,dî];have ts:=L2.fY.ts (cq (o:= nϩ) hp);show k _ _ _ _ iĳ ts (m.put ts #[_,ce,KR.ts ts (DW hr .nil)]) WR.v
def Rs:Cv:=λxs M q=>c7 λd kvs=>dU eŞ (iĸ) (∀p,ň ->q Đ (um M p (.lst (kvs.map fŧ))))
theorem zL {H:Hp}: ∀ {l:Ų} {vs:ů},ż ->cW K H (l.map fŧ) (vs.map λkv=>kV kv.1)
 | _,_, .nil=>cW.nil
 | _,_, .cons (a:=a) (b:=b) ⟨e,_⟩ t=>by exact cW.cons ?_ (zL t);change WR K H (gl a.1) (kV b.1);rw[e];cases b.1<;>show WR.v
instance:IC K HY Rs where
 imp:=by rintro xs v M H q Q m r1 ⟨d,kvs,rfl,hd,h⟩ k;let⟨v,rfl,r⟩:=r1.one;cases r.eq;let⟨ks,ek,rr⟩:=m d _ hd;show#[d,ks,rfl, .inl ek,λp hp=>k _ _ _ _ iĳ Ϧ (m.om hp (zL rr)) WR.v]
def xg (a:WE):WE:=λρ M q=>a ρ M λx M1=>c7 λd kvs=>dU (x=wr d) (M1 d=ϊ) (∀p,ţ ->pō)
def UG:xg a ρ M q=a ρ M λx M1=>gY x λd=>k9 (M1 d) λkvs=>tT M1 λp=>pō:=by unfold xg gY k9 tT;congr 1;funext x M1;apply propext;symm;rintro⟨d,kvs,e1,e2,h⟩;show hĩ;rintro⟨d,e1,kvs,e2,h⟩;show hĪ
instance {t:TE}{a:WE} [ia:Ŋ]:IE K (C0 t) (xg a) where
 imp :=λρ M σ H q Q o h k=>ia.imp ρ M σ H _ _ o h λx M1 v H1 ⟨d,kvs,ex,hd,h1⟩ t1 m1 r1=>by
  subst ex;let⟨ks,ek,rr⟩:=m1 d _ hd;exact#[d,ks,r1.eq, .inl ek,λl vs H2 hl sm el d_ yF N6=> ?_];have ts:bļ:=L2.fY.ts sm;exact k _ _ _ _ (h1 l (m1.fresh hl)) fĽ (λb x e=> ?_) WR.v;by_cases hb:b=l;subst hb;rw[av] at e;cases e;exact#[vs,el,cW.mk (by rw[d_,aa,t_ rr]) λj d' v' e1 e2=> ?_];rw[aF] at e1;cases e3:kvs[j]? with
  | none=>rw[e3] at e1;cases e1
  | some kv=>
   rw[e3] at e1;cases e1;let⟨_j,e4⟩: ∃_j,ks[j]? =some _j:=#[ks[j]'(by rw[<- t_ rr];show(ao.mp e3).1),aq _]
   let⟨p2,e5,e6,rp⟩:=BI rr e4;rw[e3] at e5;cases e5;let⟨a2,e7,e8⟩:=yF j _j e4;rw[e2] at e7;cases e7;exact WR.UT (ko.of e8) oÊ;rw[e6];cases _j.1<;>show WR.v
  rw[aE hb] at e;have hm:=m1 b x e;let⟨u,hu⟩:=hm.some;show hm.mv ts (by rw[hu];show sm b u hu)
def Ev (i:Int)(n:Nat):Ë:=iĵ lϝ
def G4 (a:WA):WE:=λρ M q=>a ρ M λxs M1=>c7 λ cĞ=>gy lı fť lİ (∀l,M1 l=none ->oť)
theorem Eu {H:Hp}(i:Int): ∀ (l:Ď),cW K H (l.map lϝ) (l.map mś)
 | []=>by simp![List.map_nil,cW]
 | k::r=>by simp![aY,cW];show#[_,_,rfl,WR.v,Eu i r]
instance {t:TA}{a:WA} [ia:ŋ]:IE K (Hn t) (G4 a) where
 imp:=λρ M σ H q Q o h k=>ia.imp ρ M σ H _ _ o h (by rintro xs M1 vs H1 ⟨i,j,ex,h1,h2,h3⟩ t1 m1 r1;exact by subst ex;simp![cW] at r1;let⟨v1,t2,rfl,g1,v2,t3,rfl,g2,v3,t4,rfl,g3,rfl⟩:=r1;cases g1.eq;cases g2.eq;cases g3.eq;show#[i,j,rfl,h1,h2,λp hp=>k _ _ _ _ (h3 p fĴ) mę (m1.om hp (Eu i _)) WR.v])
universe WL
namespace WQ
open PySem L2 WL WP
def GD (p:Int)(m:Pt):Prop:=jĨ /\ ∀z∈m,gù
def hW (m:Pt)(x:Int):Pt:=m.filter λq=>decide (q.1≠x)
def Ks (m:Pt)(x:Int):wF aŏ bş=fP bγ:=by unfold wF fP hW;rw[List.filter_map];congr 1;apply List.filter_congr;intro q _;simp
theorem eZ: ∀ {m:Pt},jĨ -> ∀x,dh m x=Œ
 | [],_,x=>rfl
 | q ::r,h,x=>by rw[aY,bM] at h;have ih:=eZ h.2 x;rw[dh,look,ih];by_cases e:aà;rw[Ç,Ç];have:bŘ=0:=fm λz hz ez=>h.1 (ah.mpr #[z,hz,by rw[ez,e]]);rw[this];exact qŖ;rw[È,È];exact qŗ
def jE (h:jĨ)(hz:z∈m):look m z.1=z.2:=by
 induction m with
 | nil=>cases hz
 | cons q r ih=>rw[aY,bM] at h;rw[look];obtain rfl | pB:=bŞ;rw[ą];rw[aj (λe=>h.1 (ah.mpr #[z,pB,e.symm]))];show ih h.2 pB
def BE (m:Pt)(x y:Int):look bγ y=if y=x then 0 else bš:=by
 induction m with
 | nil=>simp[hW,look]
 | cons q r ih=>unfold hW at ih ⊢;rw[List.filter_cons];by_cases e:aà;simp![e,ne_eq,not_true_eq_false,decide_false,aD,bB];rw[ih,look];by_cases ey:y=x;rw[aä,aä];rw[aå,aå,aj (by rw[e];show aZ ey)];simp![ne_eq,e,not_false_eq_true,decide_true,ci];rw[look,look,ih];by_cases ey:q.1=y;rw[aä,aä,aj (by rw[<- ey];show e)];rw[aå,aå]
def GD.range (hp:0<p)(h:aŠ)(x:Int):0<=Œ /\ Œ<p:=by by_cases hx: ∃z∈m,aá;let⟨z,hz,rfl⟩:=hx;rw[jE h.1 hz];have:=bδ;exact qŲ;rw[fm λz hz e=>hx #[z,hz,e]];exact qŘ
def GD.drop (h:aŠ)(x:Int):GD p bγ:=by exact#[h.1.sublist (List.Sublist.map _ List.filter_sublist),λz hz=>h.2 z (aV.mp hz).1]
def Nz (h:z∈bŠ):z=(x,v) \/ z∈m:=by unfold nj at h;split at h;let⟨q,hq,e⟩:=aϺ;split at e;rename_i e2;left;rw[<- e,e2];right;rw[<- e];show hq;obtain h | h:=au.mp h;show aŎ;show .inl (aϫ)
theorem GD.put (h:aŠ)(h0:0<v)(h1:v<p):GD p (bŠ):=#[xP h.1,λz hz=>by obtain rfl | hz:=Nz hz;show#[h0,h1];show bδ]
def Og (h:eε):(iĻ).isSome=true:=by
 rw[xi];rcases hĝ with⟨_,e,_⟩ | ⟨q,e,_⟩
 show absurd e h;rw[e];rfl
def NZ (p n:Int):Prop:= ∀y,0<y ->y<p ->y*n % p≠0
def PH (pY:Int)(b:Pt):Pt:=b.map λz=>eŦ
theorem CS (pY:Int): ∀ (b:Pt) (x:Int),dh (PH pY b) x=dh b (x - pY)
 | [],x=>rfl
 | Ð,x=>by change dh (eŦ::PH pY r) x=_;rw[dh,dh,CS pY r x];by_cases e:aŒ=x;rw[Ç,qΨ];rw[È,ö]
def W6:ik:=λxs M q=>OJ λ(h o:fR) (p pY n:Int) bŦ=>p9 (xs= [Í,wr h,wr o,wi pY,wi n]) (h≠o) (M h=hϩ) (M o=some (.dK (fP b))) è bŤ (aš) (gy (GD p b) (aŢ) (hϪ<=œ) (∀c,aţ ->lϞ ->(∀x,Ŗ=(ő+look b (x - pY)*n) % p) ->q wn (um M h eζ)))
theorem FC (m:Pt)(x:Int):(hW m x).length<=m.length:=lĝ
def Sx (C:fR):ik:=λxs M q=>m_ λ(s dx:fR) (l r:W)=>dU (xs= [wr s,l,r]) lĲ (q wn (um M s (.ins C dx [dτ,(Į,r)])))
def IF (R C:fR):ik:=λxs M q=>E1 λ(s dx r dr:fR) (l u f g:W)=> ∃ (e:W),kg (xs= [wr s,wr r,f,g,e]) (s≠r) lĲ (M r=some (.ins R dr [dτ,(Į,u)])) (q wn (um M s (.ins C dx [dτ,(Į,u),(į,f),(bε,g),(aŤ,e)])))
universe WQ
namespace WL
open PySem L2
def Wx:A8 a b D ρ M=a ρ M λx M1=>b ρ M1 λy M2=>gY x λp=>qw y λk=>k9 aŉ λkvs=>gK (hϕ=true) nŇ:=by unfold A8 gY qw k9 gK;congr 1;funext x M1;congr 1;funext y M2;apply propext;symm;rintro⟨p,kvs,k,e1,e2,e3,e4,h⟩;show#[p,e1,k,e3,kvs,e2,e4,h];rintro⟨p,e1,k,e3,kvs,e2,e4,h⟩;show#[p,kvs,k,e1,e2,e3,e4,h]
universe WL
namespace WQ
open PySem L2 WL WP
abbrev Pq:=eV (dυ)
def ly (P:Pq):Ų:=P.map λt=>((dχ:cF),bζ)
def pf (P:Pq)(w:Int):Pt:=match mĤ with
 | ať=>ê
 | none=> []
def bX (rl rp:fR)(P:Pq):ä:=rl::rp::hĮ
structure cZ (p:Int)(M:Mp)(rl rp:Addr)(a:Pt)(P:Pq):Prop where
 lam:M rl=hϩ
 par:M rp=some (.dK aŦ)
 D9: ∀t∈P,M é=jϰ
 ga:aš
 gp: iϺ
 oo:jĺ
 Qm:(Ŵ).Nodup
def fK (M M':Mp)(L:ä):Prop:= ∀d o,cϔ ->d∉L ->M' d=Ą
theorem fK.trans {M M1 M2:Mp}(h:fK M M1 L)(h':fK M1 M2 L')(hs: ∀x∈L',x∈L \/ bθ):fK M M2 L:=λd o e n=>h' d o (h d o e n) λhd=>(hs d hd).elim n λz=>by rw[e] at z;cases z
theorem fK.sm (h:Ĩ)(L:ä):cĥ:=λd o e _=>h d o e
theorem iy {α β:Type}{f:α ->β}: ∀ {l:Ý},(l.map f).Nodup -> ∀ {x y:α},x∈l ->y∈l ->f x=f y ->x=y
 | [],_,x,_,hx,_,_=>by cases hx
 | z ::r,h,x,y,hx,hy,e=>by rw[aY,bM] at h;obtain ex | hx:=bİ;obtain ey | hy:=bĵ;rw[ex,ey];show absurd (ah.mpr #[y,hy,by rw[<- e,ex]]) h.1;obtain ey | hy:=bĵ;show absurd (ah.mpr #[x,hx,by rw[e,ey]]) h.1;show iy h.2 hx hy e
theorem iB {P:Pq}(h:mĤ=ať):t∈P /\ aæ:=pÚ
theorem F3 {P:Pq}(h:mĤ=none):hį:=λhm=>by let⟨t,ht,e⟩:=bι;have:=mï;simp[e] at this
def oJ (P:Pq)(w:Int):fI aŦ (.inl w)=(P.find? λt=>gĊ).map λt=>bζ:=by
 induction P with
 | nil=>rfl
 | cons t r ih=>
  unfold fI ly at ih ⊢;rw[aY,dw,dw];have e:decide ((dχ:cF)=Sum.inl w)=gĊ:=xU _ _;simp![e];cases gĊ with
  | true=>rfl
  | false=>show ih
def Bb (h:hį):kF aŦ (.inl w) (wr e)=ly gϕ:=by
 unfold kF;have:((ly P).any λkv=>decide (kv.1=Sum.inl w))=false:=by rw[List.any_eq_false];intro kv B0;let⟨t,ht,rfl⟩:=ah.mp B0;simp![cQ,Sum.inl.injEq];show λew=>h (ah.mpr #[t,ht,ew])
 rw[this];unfold ly;rw[aO];rfl
def nZ (P:Pq)(w:Int)(c:Pt):Pq:=P.map λu=>if u.1=w then(u.1,aç,c) else u
def MV (P:Pq)(w:Int)(c:Pt):ly (bμ)=ly P:=by unfold ly nZ;rw[aK];apply bI;intro t _;simp![Function.comp];split<;>rfl
def Ap (P:Pq)(w:Int)(c:Pt):(bμ).map (λt=>é)=hĮ:=by unfold nZ;rw[aK];apply bI;intro t _;simp![Function.comp];split<;>rfl
def zM (P:Pq)(w:Int)(c:Pt):(bμ).map Ć=eθ:=by unfold nZ;rw[aK];apply bI;intro t _;simp![Function.comp];split<;>rfl
def jW (t:dυ)(P:Pq)(w:Int):pf (t::P) w=if aæ then ê else aŧ:=by unfold pf;rw[dw];by_cases e:aæ;simp[e];simp[e]
def Dz (v:Int)(h:hİ):pf (bμ) v=lĳ:=by
 induction P with
 | nil=>cases h
 | cons t r ih=>
  change pf ((if aæ then(t.1,é,c) else t)::nZ r w c) v=_;by_cases e:aæ;rw [Ç,jW,jW];by_cases ev:v=w;rw[am (show t.1=v by rw[ev,e]),aè];rw [oŵ,aé,oŵ];by_cases hr:w∈eť;rw[ih hr,aé];have:nZ r w c=r:=by unfold nZ;exact(bI (g:=id) ſ).trans (List.map_id r);show aj λeu=>hr (ah.mpr #[u,hu,eu])
  rw[this];rw[È,jW,jW];have hr:w∈eť:=by obtain z | z:=ay.mp (show w∈t.1::eť from h);show absurd z.symm e;show z
  by_cases ev:t.1=v;rw[aè,aè,aj (λz=>e (ev.trans z))];rw[aé,aé,ih hr]
def Bh (v:Int)(h:hį):pf gϕ v=lĳ:=by
 induction P with
 | nil=>rw[List.nil_append,jW];by_cases ev:v=w;rw[am ev.symm,aè];rw[aj (aZ ev),aé]
 | cons t r ih=>rw[List.cons_append,jW,jW];have hr:w∉eť:=λz=>h (aC _ z);by_cases ev:t.1=v;rw[aè,aè,aj (λz=>h (by rw[<- z, <- ev];show aQ))];rw[aé,aé,ih hr]
def mJ (h:hį):aŧ= []:=by
 unfold pf;cases e:mĤ with
 | none=>rfl
 | some t=>let⟨h1,h2⟩:=iB e;show absurd (ah.mpr #[t,h1,h2]) h
def qm (h:jĺ)(ht:t∈P):bν=ê:=by
 induction P with
 | nil=>cases ht
 | cons u r ih=>rw[aY,bM] at h;rw[jW];obtain rfl | pD:=ay.mp ht;rw[ą];rw[aj (λe=>h.1 (ah.mpr #[t,pD,e.symm]))];show ih h.2 pD
theorem cZ.same (h:Ϟ)(hk: ∀d∈Ŵ,M' d=M d):hϫ:=#[(hk rl fŨ).trans h.lam,(hk rp fŨ).trans h.par,λt ht=>(hk _ oΥ).trans (cĦ),h.ga,h.gp,h.oo,h.Qm]
def cZ.mem (h:Ϟ)(hd:d∈Ŵ): ∃kvs,iĸ:=by simp![bX,ay,ah] at hd;obtain rfl | rfl | ⟨t,ht,rfl⟩:=hd;show#[_,h.lam];show#[_,h.par];show#[_,cĦ]
theorem cZ.keep (h:Ϟ)(hk:cĥ)(hd: ∀d∈Ŵ,d∉L):hϫ:=h.same λd nr=>by let⟨kvs,e⟩:=h.mem nr;rw[e];show hk d _ e (hd d nr)
def cZ.abh (h:Ϟ)(gc:aţ):cZ p (jĻ) rl rp c P:=by have nd:=cϕ;exact#[av,?_,γ,gc,h.gp,h.oo,h.Qm];rw[aE (λe=>nd.1 (by rw[<- e];show aQ))];show h.par;rw[aE (λe=>nd.1 (by rw[<- e];show aC _ (iř)))];show cĦ
def cZ.set (h:Ϟ)(ht:t∈P)(gc:aţ):cZ p (um M é eζ) rl rp a eι:=by
 have nd:=cϕ;have _c:=bM.mp nd.2;have ea:bX rl rp eι=Ŵ:=by unfold bX;rw[Ap]
 exact#[?_,?_,ſ,h.ga,ſ,by rw[zM];show h.oo,by rw[ea];show h.Qm];rw[aE (λe=>nd.1 (by rw[e];show aC _ (iř)))];show h.lam;rw[aE (λe=>_c.1 (by rw[e];show iř)),MV];show h.par;let⟨v,hv,rfl⟩:=ah.mp hu;by_cases e:v.1=t.1;rw[Ç];have:v=t:=iy h.oo hv ht e;rw[this];show av;rw[È,aE (λea=> ?_)];show h.D9 v hv;show e (by rw[iy _c.2 hv ht ea]);let⟨v,hv,rfl⟩:=ah.mp hu;split;show gc;show h.gp v hv
def cZ.new (h:Ϟ)(he:M e=none)(hw:hį)(gc:aţ):cZ p (um (um M e eζ) rp (.dK (ly gϕ))) rl rp a gϕ:=by
 have nd:=cϕ;have _c:=bM.mp nd.2;have ne: ∀d∈Ŵ,d≠e:=λd hd z=>by let⟨kvs,q⟩:=h.mem hd;rw[z,he] at q;cases q
 have erl:=ne rl fŨ;have erp:=ne rp fŨ;have ein: ∀t∈P,é≠e:=λt ht=>ne _ oΥ;exact#[?_,av,ſ,h.ga,ſ,?_,?_];rw[aE (λz=>nd.1 iŚ),aE erl];show h.lam;obtain hu | hu:=bξ;rw[aE (λz=>_c.1 (by rw[<- z];show iś)),aE (ein u hu)];show h.D9 u hu;rw[bο,aE (aZ erp),av];obtain hu | hu:=bξ;show h.gp u hu;rw[bο];show gc;rw[aO];exact List.nodup_append.mpr #[h.oo,by simp,hÜ];simp at hy;subst hy;show λz=>hw (z▸hx);have:bX rl rp gϕ=Ŵ++ [e]:=by unfold bX;rw[aO];rfl
 rw[this];exact List.nodup_append.mpr #[h.Qm,by simp,hÜ];simp at hy;subst hy;show ne x hx
def uO (R S:fR)(M:Mp)(o ol op:fR):Prop:=(∃d,M o=some (.ins R d [gϖ,gϗ])) \/ m_ λd f g e=>M o=some (.ins S d [gϖ,gϗ,(į,f),(bε,g),(aŤ,e)])
theorem uO.keep (h:hı)(k:cĥ)(n:o∉L):uO R S M' o ol op:=h.imp ((by rintro ⟨d,e⟩;exact #[d,k _ _ e n])) (by rintro ⟨d,f,g,e',e⟩;exact #[d,f,g,e',k _ _ e n])
def Qi (R S:fR):ik:=λxs M q=>E1 λ(r rl rp o ol op:fR) cĚ=>E1 λ(sh n:Int) bŦ (P Q:Pq) (B C:Nat)=>p9 (xs= [Í,Ì,wr r,wr o,wi sh,wi n]) iŜ (hı) è bŤ aŞ cϑ (p9 (aŢ) (Ϟ) iŝ nĕ (hϪ<=œ) (hϬ<=œ) lŰ (dU (∀t∈Q,eμ<=C) (B+C<=œ) (∀M' c P',iŞ ->(∀x,Ŗ=(ő+look b ŵ*n) % p) ->(∀w x,hĲ=(gϘ+kį*n) % p) ->jļ ->oŶ ->nį ->lϞ ->mð ->mĥ ->(pĆ) ->aϦ)))
def Dy {Q:Pq}(hn:jĽ)(h:fŪ)(w:Int):pf (Q.take ß) w=if w=t.1 then ê else gϙ:=by
 have Tp:t.1∉jϱ:=λhm=>by rw[List.map_take] at hm;let⟨j,hj,e⟩:=lű;rw[bE,aa] at hj;rw[List.getElem_take] at e;let⟨hi,e2⟩:=aϙ;have:=nŕ;apply this;rw[e];simp[e2]
 rw[bw,h];let⟨t1,t2,t3⟩:=t;show Bh w Tp
theorem Hh {Q:Pq}(hn:jĽ)(h:fŪ):t.1∉jϱ:=λhm=>by rw[List.map_take] at hm;let⟨j,hj,e⟩:=lű;rw[bE,aa] at hj;rw[List.getElem_take] at e;let⟨hi,e2⟩:=aϙ;have:=nŕ;apply this;rw[e];simp[e2]
theorem GD.nil:GD p []:=#[List.nodup_nil,λz hz=>by cases hz]
theorem dR (p0:0<p)(h:aŠ)(x:Int):Œ % p=Œ:=db gč.1 gč.2
def cZ.Iq (h:Ϟ)(w:Int):GD p bς:=by
 unfold pf;cases e:mĤ with
 | none=>show GD.nil
 | some t=>show h.gp t bχ
def pQ (a:Int)(n:Nat):ā:=iĵ λ ĩ=>a - ĥ
def yN (a:Int)(n:Nat):ā:=iĵ λ ĩ=>a+ĥ
def sT (ns:ā)(len:Int):ā:=if gϚ then ns else qā
def aaX:ik:=λxs M q=>gL λ(f:fR) dŞ (len:Int)=>E2 (xs= [wr f,aŨ]) (M f=kξ) (aũ) (len<bÀ) (iϹ) (∀x∈ns, -bÀ<x /\ x<bÀ) (∀p M',Ĩ ->M' p=some (.lst ((cħ).map wi)) ->q Đ M')
universe WQ
namespace WL
open PySem L2
def Hb (h:M x=fĵ):Hc M fń k=k (!l.isEmpty):=by apply propext;symm;rintro⟨b,⟨l',h1,h2⟩ | ⟨l',h1,_⟩,z⟩;rw[h] at h1;cases h1;rw[h2] at z;show z;rw[h] at h1;cases h1;intro z;show#[_, .inl #[l,h,rfl],z]
theorem G3:G4 a ρ M q=a ρ M λxs M1=>c7 λ cĞ=>gy lı fť lİ (tT M1 λl=>oť):=rfl
universe WL
namespace WQ
open PySem L2 WL WP
def mQ {l:ā}(h:aΦ):eŽ∈l:=by
 induction l using WP.gk with
 | h0=>show eė
 | h1 l a _=>simp
def kl (len h:Int):Int:=if h<0 then h else bÁ
structure Hs (hs:Ĵ)(len:Int):Prop where
 out: ∀h∈hs,h<0 \/ len<=h
 ord: ∀ (i j:Nat) h g,j<i ->gĎ ->gď ->¬(0<=g - ŗ /\ g - ŗ<=len)
 clo: ∀h∈hs, ∀y,ŗ<=y ->y<=ŗ+len ->y∈hs \/ gϛ
def mO:x∈pQ a n↔a - n<x /\ x<=a:=by unfold pQ;rw[ah];symm;rintro⟨k,hk,rfl⟩;have:=dq.mp hk;lia;rintro⟨h1,h2⟩;show#[(a - x).toNat,cϘ, ∅]
def mM:x∈yN a n↔a<=x /\ x<a+n:=by unfold yN;rw[ah];symm;rintro⟨k,hk,rfl⟩;have:=dq.mp hk;lia;rintro⟨h1,h2⟩;show#[(x - a).toNat,cϘ, ∅]
def Ao (h:(pQ a n)[i]? =û):i<n /\ x=a - i:=by unfold pQ at h;rw[aF] at h;by_cases hi:i<n;rw[kĞ] at h;cases h;show cđ;rw[pϞ] at h;cases h
def KS (h:(yN a n)[i]? =û):i<n /\ x=a+i:=by unfold yN at h;rw[aF] at h;by_cases hi:i<n;rw[kĞ] at h;cases h;show cđ;rw[pϞ] at h;cases h
def Ec {l:ā}(h:jϨ): ∀x∈l,l.headD 0<=x:=by
 cases l with
 | nil=>intro x hx;cases hx
 | cons a r=>intro x hx;obtain rfl | hx:=bİ;show Ï;show(cc.mp h).1 x hx
def Hf (l0:aũ)(hs:kĕ)(hn:ns.Nodup):Hs (cħ) len /\ ∀y∈ns,y∈cħ \/ gϛ:=by
 unfold sT;by_cases hc:gϚ
 rw [am hc];obtain hz | hz:=hc;subst hz;exact#[#[λh _=> ∅,kΕ,λh hh y h1 h2=> .inl ?_],λy hy=> .inl hy];have c6:g≠h:=λe=>by let⟨a1,a2⟩:=bď;let⟨b1,b2⟩:=bψ;show bS.mp hn j i b1 a1 X_ (by rw[a2,b2,e])
 unfold kl;split<;>lia;have:y=h:=by unfold kl at h1 h2;split at h1<;>lia
 rw[this];show hh;subst hz;show#[#[jľ,(λi j h g _ hi _=>by simp at hi),jľ],(λy hy=>nomatch hy)];rw [aj hc];have hl:0<len:=by have:=hĳ;lia
 have c6:bŪ:=hĴ;have QM:=DO hs c6;have QO:=Ec hs;generalize fŬ=b at QM;generalize cϗ=a at QO;have mem: ∀x,x∈pQ b jϲ++yN a (0 - a).toNat↔(len<=x /\ x<=b) \/ (a<=x /\ x<0):=λx=>by rw[au,mO,mM];symm<;>(intro h;lia)
 exact#[#[λh hh=> ?_,kΕ,λh hh y h1 h2=> ?_],dě];rw[mem] at hh;lia;rw [List.getElem?_append] at hi hj;unfold kl;split at hi;let⟨_,e1⟩:=Ao hi;split at hj;let⟨_,e2⟩:=Ao hj;have:=(mO (a:=b) (x:=h) (n:=jϲ)).mp (az hi);split<;>lia;rename_i q1 q2;lia;let⟨r1,e1⟩:=KS hi;split at hj;have:=(mO (a:=b) (x:=g) (n:=jϲ)).mp (az hj);split<;>lia;let⟨_,e2⟩:=KS hj;split<;>lia;rw[mem] at hh ⊢;unfold kl at h1 h2;split at h1<;>lia;rw[mem];have:=QM.2 y hy;have:=QO y hy;lia
structure Cy (s p:Int)(b:Pt)(f len foot:Int):Prop where
 ok:kP s f
 l0:aũ
 s0:dΒ
 ge: ∀x,eξ ->f<=đ
 ug: ∀x,eξ ->bŹ ->lì
 top:look b (f+len*s)=1
 bot:bω*foot % p=1
 ft:aŪ /\ aū
def Ak (x k:Int):b_ s (x+k*s)=đ:=by unfold b_;split;rename_i e;subst e;simp;rw[Int.add_mul_emod_self_right]
def sB (h:ë)(x k:Int):hI s (x+k*s)=Ē+k:=by unfold hI;rw[aj h,aj h,Int.add_mul_ediv_right _ _ h]
def pI (ok:kP s f)(h:ë)(k:Int):hI s (f+k*s)=k:=by
 rw[sB h];have:hI s f=0:=by unfold hI;rw[aj h];obtain z | ⟨z1,z2⟩:=ok;show absurd z h;show Int.ediv_eq_zero_of_lt z1 z2
 rw[this,cw]
def uG (s0:Ñ)(e:bŹ):x=f+Ē*s:=by obtain h | h:=jϳ;have:=Gf (x:=x) h;rw[e] at this;rw[bY];show this;subst h;have:x=f:=e;rw[this];simp
def d6 (g:ş)(js:fł):Int:=js.foldr (λj r=>g j.1*j.2+r) 0
theorem cI (g:ş)(j:ŏ)(js:fł):d6 g (j::js)=g j.1*j.2+d6 g js:=rfl
def vT (hp:ϯ)(hn:n % p≠0):aŢ:=by
 intro y y0 y1 e;have e2:y*(n % p) % p=0:=by rw[cC,nϥ, <- cC];show e
 have r0:=dy n (show p≠0 by exact λe=>Lqf Û (.a Ϣ Ϯ) lé (LqIp y0 (LqIp y1 ŭ)) rfl);have r1:=cV n (show 0<p by exact Lqi Û Ϣ Lq0 nϪ π eο rfl);generalize n % p=r at hn e2 r0 r1;have key: ∀p∈([2,3,5,7]:Ď), ∀y∈eπ, ∀r∈eπ,y≠0 ->r≠0 ->y*r % p≠0:=⋯
 let⟨p',rfl⟩:=Int.eq_ofNat_of_zero_le (show 0<=p by exact Lqi Û ø Lq0 nϪ π eο rfl);let⟨y',rfl⟩:=Int.eq_ofNat_of_zero_le (show 0<=y by exact Lqi [_] ø Lq0 Ϣ Lq0 y0 rfl);let⟨r',rfl⟩:=Int.eq_ofNat_of_zero_le r0;exact key p' fū y' (cϘ) r' (cϘ) ∅ ∅ ?_;have:((y'*r' % p':Nat):Int)=0:=by push_cast;show e2
 lia
structure qa (s p f len:Int)(b a:Pt)(hs:Ĵ)(i:Nat)(c:Pt)(js:gϜ):Prop where
 rel: pĵ
 clr: ∀ (j:Nat) g,j<i ->gď ->look c (f+g*s)=0
 sup: ∀x,bŹ ->eς ->Ē∈hs \/ (kΖ)
 S0: nà
theorem qa.skip (st:lŲ)(hh:gĎ)(hz:gĐ=0):qa s p f len b a hs ß c js:=#[st.rel,λj g hj hg=>by obtain z | z:=aŬ;show gϝ;have:j=i:= qň;subst this;rw[hh] at hg;cases hg;show hz,st.sup,st.S0]
def iF (s x sh:Int):b_ s ŵ=đ:=by have:=Ak (s:=s) x (-sh);rw[rÁ] at this;show this
def l7 (hs:ë)(x sh:Int):hI s ŵ=Ē - sh:=by have:=sB hs x (-sh);rw[rÁ] at this;rw[this];exact qΚ
def qa.step (F:iϻ)(H:Hs hs len)(s0:Ñ)(p0:0<p)(AE:s=0 -> ∀h∈hs,h=0)(gc:aţ)(_N:GD p c')(st:lŲ)(hh:gĎ)(hn:pĨ)(e: ∀x,cĩ=(Ŗ+kΗ*n) % p):qa s p f len b a hs ß c' (hĵ):=by
 have hm:=az hh;have quiet: ∀x,kΗ=0 ->cĩ=Ŗ:=λx hx=>by rw[e,hx,bR,bF,dR p0 gc]
 have here:look c' bÂ=0:=by
  rw[e,hn];by_cases jQ:h<0;rw[am jQ];have e1:iş=f:=by unfold kl;rw[am jQ,bY s h];exact qξ
  rw[e1];generalize gĐ=v;have e2:v+bω*(-v*foot)=v - v*(bω*foot):=by rw[Int.neg_mul,eh, <- Int.mul_assoc,bY (bω) v,Int.mul_assoc];exact qΚ
  rw[e2,Int.sub_emod,cC,F.bot];rw[du,nϥ,Int.sub_self];rfl;rw[aj jQ];have e1:iş=f+len*s:=by unfold kl;rw[aj jQ,bY s (bÁ),Int.sub_mul];exact LqIx (Lqi Ğ (.s μ eŧ) ς ø ø LqI0 rfl) (Lqi Ğ μ (.s ς eτ) ø ø LqI0 rfl)
  rw[e1,F.top,Int.one_mul];rw[show gĐ+ -gĐ=0 by exact LqIx (Lqi [_] hϭ ø ø ø LqI0 rfl) (Lqi [_] ø hϭ ø ø LqI0 rfl)];rfl
 exact#[Ĺ,λj g hj hg=> ?_,gđ,ź];rw[e,st.rel,dQ,cI,Int.add_assoc,kİ];obtain z | z:=aŬ;rw [quiet];show gϝ;by_cases c6:look b jĿ=0;show c6;exfalso;have ve:b_ s jĿ=f:=by rw[iF,F.ok.on]
 have hr:=F.ug _ c6 ve;by_cases yD:s=0;have g0:=AE yD g (az hg);have h0:=AE yD h hm;have:=H.ord i j h g z hh hg;have l0:=F.s0 yD;subst l0;rw[g0,h0] at this;show this (by unfold kl;simp);rw[l7 yD,pI F.ok yD] at hr;show H.ord i j h g z hh hg hr;have:j=i:= qň;subst this;rw[hh] at hg;cases hg;show here;by_cases hb:kΗ=0;rw[quiet x hb] at c6;show gĒ;have ve:b_ s (x - cϙ)=f:=by rw[iF];show hx
 have hr:=F.ug _ hb ve;by_cases yD:s=0;have h0:=AE yD h hm;have:Ē=0:=by unfold hI;rw[am yD]
 left;rw[this, <- h0];show hm;rw[l7 yD] at hr;show H.clo h hm _ (by exact Lqi Û Lq0 Lq1 ø eυ hr.1 rfl) (by exact Lqi Ğ Lq0 ο Β Lq2 hr.2 rfl);rw [quiet x];show st.S0 x hx;by_cases hb:kΗ=0;show hb;have:=F.ge _ hb;rw[iF] at this;lia
theorem qa.low (st:qa s p f len b a hs hs.length c js)(s0:Ñ): pÛ:=λx hx c6=>by obtain z | z:=gĒ;exfalso;let⟨j,hj⟩:=cA.mp z;have:=st.clr j _ (bψ).1 hj;rw[<- uG s0 hx] at this;show c6 this;show z
def Wt (Z:Int)(m:Pt):Prop:= ∀x,eε -> fŭ
def Wt.len (g:aŠ)(h:Wt Z m)(z0:0<=Z):m.length<=fŮ:=by
 have:=gO (l:=yN (-Z) fŮ) g.1 λk hk=>by
  let⟨z,hz,rfl⟩:=ah.mp hk;have c6:look m z.1≠0:=by rw[jE g.1 hz];have:=g.2 z hz;exact qÝ
  have:=h z.1 c6;show mM.mpr ∅
 rw[aa] at this;unfold yN at this;rw[aa,cx] at this;show this
def mV (hn:ns.Nodup)(s0:Ñ):(cġ).Nodup:=by unfold pC;have h2:(mϫ).Nodup:=hn.sublist List.filter_sublist;exact List.Pairwise.map _ (R:=λx y=>x≠y /\ bŹ /\ b_ s y=f) (λx y h e=> ?_) ?_;show h.1 (by rw[uG s0 h.2.1,uG s0 h.2.2,e]);exact List.Pairwise.imp_of_mem (λ{x y} hx hy h=>#[h,?_,?_]) h2;simpa using cϚ.2;simpa using(aV.mp hy).2
def Hy (s p f len foot:Int)(b:Pt)(g:ş)(h:Int):ş:=if g bÂ=0 then g else λx=>(g x+kΗ*(if h<0 then -(g bÂ)*foot else -(g bÂ))) % p
def Ci (s p f len foot:Int)(b:Pt)(hs:ā)(g:ş):ş:=hs.foldl (Hy s p f len foot b) g
def wP {hs:ā}(e:gĎ):Ci s p f len foot b (hs.take ß) g=Hy s p f len foot b (Ci s p f len foot b dΓ g) h:=by unfold Ci;rw[bw,e,List.foldl_append];rfl
def O2 (h: jÀ)(w:Int):Wt B bς:=by
 unfold pf;cases e:P.find? (λu=>decide (u.1=w)) with
 | none=>intro x hx;show fů
 | some u=>show h u bχ
theorem Wt.up (h:Wt Z m)(l:Z<=Z'):Wt Z' m:=λx hx=>by have:=h x hx;exact ⟨Lqi Ğ Ņ Lq1 hϮ μ (LqIp l ü) rfl,Lqi Ğ Lq0 Lq1 υ ο (LqIp l ú) rfl⟩
def aa0 (R S:fR):ik:=λxs M q=>E1 λ(r rl rp o ds ol op:fR) Ī=>E1 λ(s f len foot:Int) bŦ (P Q:Pq)=>m_ λ(B C Z D:Int)=>p9 (xs= [Í,Ì,wr r,wr o]) iŜ (M o=some (.ins S ds [gϖ,gϗ,(į,wi f),(bε,aŨ),(aŤ,bÃ)])) ϰ aŞ aŭ (len<bÄ) (p9 (iϻ) (Ϟ) iŝ nĕ (Wt Z a) (Wt D b) aŮ (p9 (Z<=Ĥ) aů (D<=Ĥ) (jÀ) (∀t∈Q,Wt C ê) (0<=B) (B<=Ĥ) (gy (0<=C) (C<=Ĥ) (hϬ<=1000) (∀M' c P' js,iŞ ->(pĵ) ->(qÊ) ->(kı) ->(pÛ) ->(nà) ->eχ ->jļ ->oŶ ->nį ->nŗ ->(pĆ) ->(∃ms:ā,gy lĵ (kĭ) (aŰ=Ci s p f len foot b (cĪ) bΒ) (oË)) ->nĖ ->aϦ))))
def Ju {P P' Q:Pq}(hn:jϵ)(h: pĆ):mð:=by have:=gO (l:=eθ++eν) hn λk hk=>au.mpr (h k hk);rw[aa,aM,aa,aa] at this;show this
def pd (a:Pt):(fP a).map (fŧ)=cϛ wi:=by unfold fP fg;rw[aK,aK];rfl
def Yv {s f x Z:Int}(s0:Ñ)(s8:s<=8)(h: fŭ)(z0:0<=Z): aű<=Ē /\ Ē<=Z:=by
 unfold hI;split;exact ⟨Lqi [_] jŀ ø ø Lq0 z0 rfl,Lqi [_] ø Lq0 ø Lq0 z0 rfl⟩;rename_i hs;have _n:1<=s:= (by exact Lqi [_] ñ Lq0 Ϣ Lq0 kĲ rfl);have h1:=lĮ;have h2:=dy x hs;have h3:=cV x (show 0<s by exact Lqi [_] Ϣ Lq0 Ϣ Lq0 kĲ rfl);generalize x / s=y at h1;generalize x % s=m at h1 h2 h3;symm;obtain q | q:=d5 y (aű);have:s*y<=s*(-Z - 2):=bj (by exact Lqi Û Lq0 (.s ŕ ý) ϒ jŁ q rfl) oŷ;have e:s*(-Z - 2)= -(s*Z) - 2*s:=by rw[Int.mul_sub,eh];lia
 have:Z<=s*Z:=by have:=a6 _n z0;exact oã
 lia;show q;obtain q | q:=d5 Z y;have:s*(Z+1) <=s*y:=bj (by exact Lqi Û ϒ Lq1 ϒ Lq1 q rfl) oŷ;have e:s*(Z+1)=s*Z+s:=by rw[Int.mul_add];lia
 have:Z<=s*Z:=by have:=a6 _n z0;exact oã
 lia;show q
def Hg (l0:aũ)(hh:h∈cħ):(h<0 -> ∃m∈ns,m<=h) /\ (0<=h -> ∃m∈ns,h<=m):=by
 unfold sT at hh;by_cases hc:gϚ
 rw[am hc] at hh;show#[hϯ,hϯ];rw[aj hc,au,mO,mM] at hh;have c6:bŪ:=hĴ;have hl:0<len:=by have:=hĳ;lia
 have h1:fŬ∈ns:=mQ c6;have h2:cϗ∈ns:=by cases ns with | nil=>show fŲ | cons x r=>show aQ
 show#[λz=>#[_,h2, ∅],λz=>#[_,h1, ∅]]
def Mi (l0:aũ)(z0:0<=Z)(hb: ∀x∈ns, aű<=x /\ x<=Z)(hn:eĳ):(cħ).length<=max n fų:=by
 unfold sT;by_cases hc:gϚ
 rw[am hc];lia;rw[aj hc,aM];have c6:bŪ:=hĴ;have hl:0<len:=by have:=hĳ;lia
 have h1:fŬ∈ns:=mQ c6;have h2:cϗ∈ns:=by cases ns with | nil=>show fŲ | cons x r=>show aQ
 have b1:=hb _ h1;have b2:=hb _ h2;unfold pQ yN;rw[aa,aa,cx,cx];lia
def Ca (s0:0<s):x - s<s*Ē /\ s*Ē<=x:=by unfold hI;rw[aj qĂ];have h1:=lĮ;have h2:=dy x (show ë by exact qÁ);have h3:=cV x s0;show#[(by exact Lqi ř lí Lq2 kϜ (.a eï Lq1) (LqIp (LqId h1) h3) rfl), (by exact Lqi Ğ Lq0 Lq1 lî ο (LqIp (LqIe h1) h2) rfl)]
def eE (h:eε):x∈fg m:=by
 rcases hĝ with⟨h1,h2,_⟩ | ⟨q,h1,h2⟩
 show absurd h2 h;have h3:=List.find?_some h1;have h4:=List.mem_of_find?_eq_some h1;exact ah.mpr #[q,h4,?_];first | show of_decide_eq_true h3 | show beq_iff_eq.mp h3 | simpa using h3
def fo (ga:aš)(h:x∈Ò):0<ő /\ ő<p:=by let⟨z,hz,rfl⟩:=aϺ;rw[jE ga.1 hz];show ga.2 z hz
def yr (s0:Ñ)(hh:h∈fű):f+h*s∈Ò /\ b_ s bÂ=f:=by let⟨x,hx,e⟩:=ah.mp hh;have h1:=eψ;have h2:bŹ:= hϰ;have h3:=uG s0 h2;rw[e] at h3;rw[<- h3];show bį
theorem ka (h:x∈Ò)(e:bŹ):Ē∈fű:=ah.mpr #[x,aV.mpr #[h, Å],rfl]
def yl (s0:Ñ):kP s bŻ:=by unfold kP b_;by_cases h:s=0;show ağ;rw[aj h];show .inr #[dy _ h,cV _ qõ]
structure Mn (s f m t:Int)(a:Pt):Prop where
 mn:ja (hϱ) f
 lo:hϲ
 hi:t∈fű
 bd: ∀h∈fű,m<=h /\ h<=t
def Mn.ok (h:eω)(s0:Ñ):kP s f:=by let⟨x,_,e⟩:=ah.mp h.mn.1;rw[<- e];show yl s0
def yY {f t m s:Int}:f+(t - m)*s+s*m=f+t*s:=by rw[Int.sub_mul,bY s m];exact LqIx (Lqi Ğ mŝ μ ø ø LqI0 rfl) (Lqi Ğ μ mŝ ø ø LqI0 rfl)
def Fa (p1:1<p)(s0:Ñ)(ga:aš)(N:eω)(JP:kΘ)(e: nİ)(Yf:foot*bω % p=1)(f0:aŪ)(f1:aū):kΙ:=by
 have lit: ∀x,eξ ->x+s*m∈Ò:=λx hx=>eE λz=>hx (by rw[e,z,bR];rfl);have col: ∀x,b_ s bÅ=đ:=λx=>by rw[bY];show Ak x m
 exact#[N.ok s0,by have:=dΔ;exact Lqi Û ø Β Lq1 Lq0 ú rfl,bů,ź,gē,?_,by rw[bY];show Yf,f0,f1];let⟨x,_,e1⟩:=ah.mp N.lo;let⟨y,_,e2⟩:=ah.mp N.hi;rw[<- e1, <- e2];unfold hI;rw[Ó,Ó];rfl;rw[<- col x];show N.mn.2 _ (ah.mpr #[_,lit x hx,rfl]);have h1:=N.bd _ (ka (lit x hx) ((col x).trans hc));by_cases z:s=0;have h2:=dΔ;unfold hI;rw[Ó];exact ⟨oħ,Lqi Û ø Β Lq1 Lq0 h2.2 rfl⟩;rw[bY,sB z] at h1;exact ⟨Lqi Û ø Lq0 Lq1 μ h1.1 rfl,pÜ⟩;rw[e,yY,bY];show JP
def A3 (s0:Ñ)(p0:0<p)(ga:aš)(N:eω)(nz:NZ p tn)(e: nİ):0<bω /\ bω<p:=by have h1:=fo ga (yr s0 N.lo).1;have h2:=nz _ h1.1 h1.2;rw[e,bY s m];have h3:=dy jÁ qķ;have h4:=cV jÁ p0;exact ⟨Lqi [_] Ϣ Lq0 Ϣ Lq0 (LqIk h3 eŤ) rfl,Lqi Û ϒ Lq1 ϒ Lq1 h4 rfl⟩
def Xk {a:Pt}(c6:a≠ [])(dI:ms.Perm (pC s (kĳ) (Ò)))(i_:kĭ): bż /\ Mn s (kĳ) (cϜ) (fŞ) a:=by
 have lI:Ò≠ []:=λe=>c6 lų;have mn:=gB (l:=hϱ) (λe=>lI lų);let⟨x,hx,e⟩:=ah.mp mn.1;have qc:bż:=λz=>by have:=dI.mem_iff.mpr (ka hx e);rw[z] at this;cases this
 have hl:=DO i_ qc;exact#[qc,mn,dI.mem_iff.mp ?_,dI.mem_iff.mp (mQ qc),λh hh=>#[Ec i_ h jÂ,hl.2 h jÂ]];cases ms with | nil=>show fŴ | cons x r=>show aQ
def Sq (R S:fR):ik:=λxs M q=>E1 λ(r dr rl rp:fR) cĚ aœ (P:Pq)=>c7 λ(B:Nat) (D:Int)=>p9 (xs= [Í,Ì,wr r]) (pÝ) ϰ aŞ aŭ (Ϟ) (a≠ []) (E2 (Wt D a) aů (D<=2000000) lŰ (B<=aϭ) hĶ (∀M' o ds ol op b Q f m t foot tn,M' o=some (.ins S ds [gϖ,gϗ,(į,wi f),(bε,wi (t - m)),(aŤ,bÃ)]) ->cZ p M' ol op b Q ->kΙ ->eω ->0<tn ->tn<p ->kΘ ->(nİ) ->(oΦ) ->Ĩ ->(∀x∈o::cϖ,bθ) ->(∀t∈Q,eμ<=B) ->(nŘ) ->q (wr o) M'))
universe WQ
namespace WL
open PySem L2
theorem PF (h:WQ.uJ p M M'):WQ.uJ p M dŋ:=λb u n e=>by rw[aE n];show h b u n e
def Ck {α β:Type}{l:Ý}{fW:aŖ}(gW:aŗ)(R:α ->dş)(n:Nat){M1:Mp}(hz:cύ<sizeLine)(kJ: ∀p M,ţ ->eΑ ->aņ)(hs: ∀a∈l, ∀p M ys,ţ ->eΑ ->iķ -> ∀ (B:dj ->mŎ) (N0:Ţ),(∀ρ2 gQ (bs:eV β) (eW:aŗ) M4,WQ.uJ p M M4 ->iϪ ->R a (bs.map eW) ->bs.length<=n ->(∀M',fŵ ->gQ M') ->(∀b∈bs, ∀M',fŵ -> ∀N:hė,N (some (eW b)) M' ->qĕ) ->B ρ2 (bs.map gW) gQ M4) ->qĻ)(hq: ∀p M (yss:cī),ţ ->eΑ ->M p=some (.lst yss.flatten) ->yss.length=l.length ->(∀ (i:Nat) a zs,ç =Ċ ->hķ ->R a zs) ->q Đ M): oΤ:=by
 intro p hp;exact#[λi ys M=>eΑ /\ iķ /\ ∃yss:cī,gy (yss.length=i) (ys=yss.flatten) (ys.length<=i*n) (∀ (j:Nat) a zs,l[j]? =Ċ ->yss[j]? =some zs ->R a zs),#[PF (WQ.uJ.refl p M1),av,[],rfl,rfl,dm _,λj a zs _ h=>by simp at h],?_,?_,?_];rintro i ys M hi ⟨h1,h2,_⟩;show#[kJ p M hp h1,h2];rintro i x ys M hx ⟨h1,h2,yss,h3,h4,h5,h6⟩;let⟨a,ha,rfl⟩:=lX hx;have Oc:=(ao.mp ha).1;have ij:ß*n<=cύ:=Nat.mul_le_mul_right _ Oc;have Ob:ß*n=i*n+n:=by rw[Nat.add_mul,Nat.one_mul]
 exact hs a (az ha) p M ys hp h1 h2 (λρ2 yB gQ M4=>Tb yB gQ g2 c2 el ρ2 p ys M4 _) (λM3=>_) ?_;intro ρ2 gQ bs eW M4 k1 k2 k3 k4 k5 k6;exact#[λj zs M'=>fŵ /\ M' p=gÌ /\ zs=kĴ,#[WQ.uJ.refl p M4,k2,by simp],?_,?_,?_];rintro j zs M' hj ⟨z1,z2,rfl⟩;exact#[k5 M' z1,z2,?_];rw[aM,aa,bE];lia;rintro j y zs M' hy ⟨z1,z2,rfl⟩;let⟨b,hb,rfl⟩:=lX hy;have e2:fŶ=bs.take j++ [b]:=by rw[bw,hb];rfl
 exact k6 b (az hb) M' z1 (λo M5=>match o with
 | aŅ=>oä /\ (WQ.uJ p M4 (um M5 p nŹ) /\ um M5 p nŹ p=some nŹ /\ kĴ++ [z]=lŵ)
 | none=>WQ.uJ p M4 M5 /\ oä /\ kĴ=lŵ) ?_
 show#[z2,PF z1,av,by rw[e2,aO];simp];rintro zs M' ⟨z1,z2,rfl⟩;rw[aa,bJ] at*;exact#[h1.trans (k1.trans z1),z2,yss++ [bs.map eW],by simp[h3],by rw[h4];simp,?_,λj a' zs' Yr UY=> ?_];rw[aM,aa];lia;rw [List.getElem?_append] at UY;split at UY;show h6 j a' zs' Yr UY;rename_i hj;have jR:j=i:=by let⟨q1,_⟩:=ao.mp UY;simp at q1;lia
 subst jR;rw[ha] at Yr;cases Yr;rw[h3,Nat.sub_self] at UY;cases UY;show k3;rintro ys M ⟨h1,h2,yss,h3,h4,h5,h6⟩;rw[aa] at h3;show hq p M yss hp h1 (h4▸h2) h3 h6
universe WL
namespace WQ
open PySem L2 WL WP
abbrev oE:=Int×ŏ
def nK (t:oE):W:= .tup [wi t.1,wi é,wi ê]
def vD (p n:Int)(P:Pq):aê:=P.flatMap λt=>t.2.2.map λz=>(t.1,z.1,z.2*n % p)
def WZ:ik:=λxs M q=>OJ λ(rl rp:fR) (p n:Int) aœ (P:Pq) (B:Nat)=>p9 (xs= [Í,wr rp,wi n]) è bŤ (-1000<n) (n<1000) (Ϟ) hĶ (gy lŰ (B<=œ) (P.length*B<=œ) (∀t M' (tl:aê),Ĩ ->bź ->M' t=kΚ ->iŠ ->dΕ))
def He (g:jĨ){AC:ā}(h:AC.Perm (fg m)):(AC.map nâ).Perm (m.map kĵ):=by
 have h1:=h.map nâ
 have e:(fg m).map (nâ)=m.map kĵ:=by unfold fg;rw[aK];apply bI;intro z hz;simp![Function.comp];rw[jE g hz]
 rw[e] at h1;show h1
theorem vE {p n:Int}{P:Pq}(hg: mϯ): ∀ {ws:ā} {yss:cī},jł ->(qΩ) ->∃tl:aê,jϸ /\ tl.Perm (ws.flatMap λw=>eΒ kĵ)
 | [],[],_,_=>#[[],rfl, .nil]
 | [],_::_,h,_=>by cases h
 | _::_,[],h,_=>by cases h
 | w::ws,zs::yss,h,hR=>by let⟨AC,h1,e1⟩:=hR 0 w zs rfl rfl;let⟨tl,e2,h2⟩:=vE hg (ws:=ws) (yss:=yss) Â λi a z ha hz=>hR ß a z ⇑ha ⇑hz;exact#[(AC.map λsh=>(mĦ:oE))++tl,?_,?_];rw[List.flatten_cons,e2,e1,aO,aK];rfl;rw[List.flatMap_cons];show(He (hg w) h1).append h2
def E8 (nd:jĺ)(hg: mϯ){ws:ā}(dI:ws.Perm (eθ)){yss:cī}(d_:jł)(hR: qΩ): ∃tl:aê,jϸ /\ iŠ:=by
 let⟨tl,e,h⟩:=vE hg d_ hR;exact#[tl,e,h.trans ?_];have h2:=dI.flatMap_right λw=>eΒ λz=>(hϳ:oE)
 exact h2.trans (List.Perm.of_eq ?_);unfold vD;rw[List.flatMap_def,List.flatMap_def,aK];congr 1;apply bI;intro t ht;simp![Function.comp];rw[qm nd ht]
theorem pW (G:ş)(x:Int): ∀d:Pt,d6 G d=G x*aŲ+d6 G (hW d x)
 | []=>by simp[d6,dh,hW]
 | z ::r=>by
  have ih:=pW G x r;rw[cI,ih];unfold hW;rw[List.filter_cons];by_cases e:aá;rw[aj Å];have:dh aų x=z.2+aŊ:=by change nã=_;rw[Ç]
  rw[this,e,Int.mul_add];show(Int.add_assoc _ _ _).symm;rw[am Å,cI];have:dh aų x=aŊ:=by change nã=_;rw[È,cw]
  rw[this];show Int.add_left_comm _ _ _
theorem mC (x y:Int): ∀d:Pt,dh (hW d x) y=if y=x then 0 else dh d y
 | []=>by simp[hW,dh]
 | z ::r=>by have ih:=mC x y r;have e1:dh aų y=lŶ+dh r y:=rfl;unfold hW at ih ⊢;rw[List.filter_cons];by_cases e:aá;rw[aj Å,ih,e1];by_cases ey:y=x;rw[aä,aä];rw[aå,aå,aj (λq=>ey (by rw[<- q,e])),cw];rw[am Å];change lŶ+_=_;rw[ih,e1];by_cases ey:y=x;rw[aä,aä,aj (λq=>e (by rw[q,ey]))];rfl;rw[aå,aå]
theorem mf {p:Int}(G:ş): ∀ (n:Nat) (d:Pt),dΖ ->(∀x,aŲ % p=0) ->cϝ=0
 | n,[],_,_=>gϞ
 | 0,_::_,h,_=>by simp at h
 | É,Ð,h,ht=>by
  rw[pW G z.1];have hl:lĶ:=by unfold hW;rw[List.filter_cons,eí];have:=pĔ;simp![aT] at h;exact qè
  have ih:=mf G n _ hl λx=>by rw[mC];split;rfl;show ht x
  rw[bu,ih,cC,ht,c_];simp
theorem pX (G:ş)(b:Pt): ∀a:Pt,d6 G aŋ=d6 G a+d6 G b
 | []=>by change d6 G b=0+_;rw[cw]
 | Ð=>by rw[List.cons_append,cI,cI,pX G b r,Int.add_assoc]
theorem uz (G:ş)(k:Int): ∀a:Pt,d6 G (tm k a)=d6 G a*k
 | []=>by change dΗ;simp
 | Ð=>by have:tm k aų=(z.1,z.2*k)::tm k r:=rfl;rw[this,cI,cI,uz G k r,Int.add_mul,Int.mul_assoc]
def sH (G:ş)(h: ∀x,aŌ % p=dh b x % p):d6 G a % p=d6 G b % p:=by
 have h1:=mf (p:=p) G _ (a++tm Î b) õ λx=>by rw[fL,sQ,eh,du, <- Int.sub_eq_add_neg];show dE.mp (h x)
 rw[pX,uz,eh,du, <- Int.sub_eq_add_neg] at h1;show dE.mpr h1
theorem yi (x:Int): ∀js:Pt,d6 (λsh=>if x - sh=0 then 1 else 0) js=dh js x
 | []=>rfl
 | Ð=>by rw[cI,yi x r];change _=nã;by_cases e:aá;rw[Ç,am (by exact LqIx (Lqi Û Β ø Lq0 Lq1 Ő rfl) (Lqi Û ø Β Lq1 Lq0 bĜ rfl)),Int.one_mul];rw[È,ö,bR]
def EO (js:Pt):gĔ=0:=by
 induction js with
 | nil=>rfl
 | cons z r ih=>rw[cI,ih,bR];rfl
def nG (s:Int)(sts:ì)(P:Pq)(x:Int):cę
 | 0=>0
 | n+1=>gĕ+d6 nϫ (aŴ)
theorem yR {s p:Int}{sts:ì}{P P':Pq}(hP: mϯ)(Yt: nä)(x:Int): ∀n:Nat,(∀w:Nat,w<n -> ∀y,look (aϻ) y % p=look bς y % p) ->nG s sts P' x n % p=gĕ % p
 | 0,_=>rfl
 | n+1,h=>by have ih:=yR (s:=s) (sts:=sts) (p:=p) hP Yt x n λw hw=>h w (by exact Lqj Û ϒ ϑ ϒ Lq1 hw rfl);rw[nG,nG,bu,ih,sH (p:=p) _ (a:=pf P' n) (b:=aŴ) λy=>by rw[eZ (Yt n),eZ (hP n)];show h n pΨ y, <- bu]
theorem Nx: ∀ {a b:ā},a.Pairwise cŝ ->b.Pairwise cŝ ->a.Perm b ->a=b:=λ{a b} ha hb h=>List.Perm.eq_of_pairwise (le:=cŝ) (λx y _ _ h1 h2=> (by exact pύ)) ha hb h
structure Sr (s p:Int)(st:Pt)(c len D:Int):Prop where
 pat:cO p st
 ok:aş
 l0:aũ
 s0:dΒ
 ge: ∀x∈aã,c<=đ
 ug: ∀x∈aã,bΓ ->lì
 bot:c∈aã
 top:look st (c+len*s)=1
 wt:Wt D st
def B_ (ok:aş):hI s c=0:=by unfold hI;obtain h | h:=ok;rw[am h];rw[aj (by exact λe=>Lqf Û nœ lé (LqIp h.1 (LqIp h.2 ŭ)) rfl)];show Int.ediv_eq_zero_of_lt h.1 h.2
theorem Sr.Mg (h:ϡ):c+len*s∈aã:=eE (by rw[h.top];decide)
def Sr.CU (h:ϡ):hI s (c+len*s)=len:=by by_cases z:s=0;rw[h.s0 z];unfold hI;rw[Ó];show pI h.ok z len
def Sr.uniq (h:ϡ)(h':Sr s p st c' zG D'):c=c' /\ len=zG:=by
 have e:c=c':=by have h1:=h.ge c' h'.bot;have h2:=h'.ge c h.bot;rw[h'.ok.own] at h1;rw[h.ok.own] at h2;exact pύ
 subst e;have h1:=h'.ug _ h.Mg fŸ;have h2:=h.ug _ h'.Mg (h.ok.on zG);rw[h.CU] at h1;rw[h'.CU] at h2;show#[rfl, (by exact LqIx (Lqi Û Lq0 Lq1 Lq0 Lq1 h1.2 rfl) (Lqi Û Lq0 Lq1 Lq0 Lq1 h2.2 rfl))]
def Sr.mn (h:ϡ)(s0:Ñ)(N:Mn s f m t st):f=c /\ m=0 /\ t=len:=by
 have e:f=c:=ja.uniq N.mn qÐ;subst e;have b1:=N.bd _ (ka h.bot h.ok.own);have b2:=N.bd _ (jϹ);rw[B_ h.ok] at b1;rw[h.CU] at b2;have uF: ∀y∈pC s f (aã),0<=y /\ y<=len:=λy hy=>by let⟨x,hx,e⟩:=bΕ;have:=nź;rw[e] at this;show this
 have b3:=uF _ N.lo;have b4:=uF _ N.hi;show#[rfl, (by exact LqIx (Lqi [_] Lq0 ø Lq0 ø b1.1 rfl) (Lqi [_] ø Lq0 ø Lq0 b3.1 rfl)), (by exact LqIx (Lqi Û Lq0 Lq1 Lq0 Lq1 b4.2 rfl) (Lqi Û Lq0 Lq1 Lq0 Lq1 b2.2 rfl))]
def aeR (s p:Int)(st:Pt)(g g':ş):Prop:=OJ λ bŦ (f len D foot:Int) (ms:ā)=>p9 (aš) (look a=g) (gĖ) (Sr s p st f len D) (aŪ) (aū) (foot*look st f % p=1) (dU lĵ (kĭ) (g'=Ci s p f len foot b (cĪ) g))
def TkI (s p:Int)(sts:ì)(g0:ş):Nat ->(ş) ->Prop
 | 0,g=>g=g0
 | i+1,g'=> ∃g,TkI s p sts g0 i g /\ aeR s p (fŹ) g g'
structure yw (s p:Int)(sts:İ)(D:Int):Prop where
 each: ∀ (i:Nat) st,ϟ ->c7 λc len=>ϡ /\ len<bÄ
 Fj: ∀ (i j:Nat) st bN c len c' zG,i<j ->ϟ ->hĸ ->ϡ ->Sr s p bN c' zG D ->c<c'
structure lC (s p:Int)(sts:İ)(D Y:Int)(pat rest:Pt)(P:Pq)(n:Nat):Prop where
 chain:TkI s p sts (bΖ) n (look rest)
 low: ∀ (i:Nat) st c len,i<n ->ϟ ->ϡ -> ∀x,bΓ ->dΘ≠0 ->kΖ
 rel: ∀x,dΘ=(cϞ+gĕ) % p
 keys: ∀w∈eθ,0<=w /\ w< ģ
 still:s=0 -> ∀w x,jÃ ->x=0
 Fi: ∀w x,jÃ -> hϴ
 nd:jĺ
 gp: iϺ
def So:ik:=λxs M q=>OJ λ hĹ dΙ bť=>p9 oĬ ϰ aŞ aŭ (Δ) (cO p pat) (Wt Z pat) (E2 aŮ aů (D<=aŵ) lķ (Zm<=aŵ) hĺ (∀t M' rest (tl:aê) P,cĬ ->Wt Zm rest ->nŻ ->tl.Perm (vD p Î P) ->Ĩ ->bź ->M' t=kΚ ->q (.tup [fh rest,wr t]) M'))
def H_ (h:hĜ):bŠ=dŨ:=by unfold nj;rw[jϘ]
def Ii (m:Pt):Ų:=m.map λz=>((Sum.inl z.1:cF),wi z.2)
def yf (m:Pt)(nd:jĨ):(Ii m).foldl jϯ []=fP m:=by
 have key: ∀ (b a:Pt),((a++b).map Ć).Nodup ->(Ii b).foldl jϯ (fP a)=fP aŋ:=by
  intro b;induction b with
  | nil=>intro a _;rw[List.append_nil];rfl
  | cons z r ih=>
   intro a h;have hx:z.1∉a.map Ć:=λhm=>by rw[aO,aY] at h;show(List.nodup_append.mp h).2.2 _ hm _ aQ rfl
   change(Ii r).foldl _ (kF (fP a) (.inl z.1) (wi z.2))=_;rw[sk,H_ hx,ih (a++ [z]) (by rw[cy];show h),cy];rfl
 show key m [] nd
def xH (m:Pt):fh m= .tup ((Ii m).map kΓ):=by unfold fh Ii;rw[aK];rfl
theorem n_ (h:cO p m):aŠ:=#[(cB.mpr h.2).imp λh e=>by rw[e] at h;show absurd h (Int.lt_irrefl _),h.1]
theorem fD {g:ş}: ∀ {js:Pt},(∀j∈js,g j.1=0) ->d6 g js=0
 | [],_=>rfl
 | Ð,h=>by rw[cI,h z aQ,bR,fD (js:=r) λj hj=>h j (aC _ hj)];rfl
theorem lC.ext (h:lï)(e:look b=look a):lC s p sts D Y pat b P n:=#[by rw[e];show h.chain,by rw[e];show h.low,by rw[e];show h.rel,h.keys,h.still,h.Fi,h.nd,h.gp]
def Ip (gp: iϺ)(w:Int):lϟ:=by
 unfold pf;cases e:mĤ with
 | none=>show List.nodup_nil
 | some t=>show(gp t bχ).1
def F7 {p a b b' c c':Int}(h1:b' % p=b % p)(h2:c' % p=c % p):(a+b+c) % p=(a+(b'+c')) % p:=by
 have h3:(b+c) % p=(b'+c') % p:=by rw[bu, <- h1, <- h2, <- bu]
 rw[Int.add_assoc,bu,h3, <- bu]
def lC.step {js:Pt}(tk:lC s p sts D Y pat c P i)(p0:0<p)(s0:Ñ)(jd:Δ)(iM:ϟ)(sr:Sr s p st cl len D)(eb:gĖ)(f0:aŪ)(f1:aū)(hf:foot*look st cl % p=1)(gc:aţ)(Xc:jϵ)(gp': ∀t∈P',GD p ê)(ec: ∀x,cĩ=(Ŗ+d6 lĴ js) % p)(ep: qÊ)(eq: pý)(ej:kı)(vh: ∀x,đ=cl ->cĩ≠0 ->kΖ)(nT: ∀x,đ<cl ->cĩ=Ŗ)(GI: ∀w∈fũ,hİ \/ w=Ĭ)(AG: ∃ms:ā,dU (ms.Perm (pC s cl (fg c))) (kĭ) (look c'=Ci s p cl len foot b (cĪ) (aŰ)))(LG: ∀j∈js, -Y - 1<=j.1 /\ j.1<=Y):lC s p sts D Y pat c' P' ß:=by
 have Od:fŹ=st:=by rw[bQ,iM];rfl
 let⟨ms,m1,m2,m3⟩:=AG;have Tp:Ĭ∉eθ:=λh=>by have:=(tk.keys _ h).2;exact nř
 have q0: ∀w,w≠Ĭ -> ∀x,nŖ=0:=λw hw x=>fD λj _=>by rw[eq,hĻ]
 exact#[#[aŰ,tk.chain,#[c,b,cl,len,D,foot,ms,gc,rfl,by rw[Od];show eb,by rw[Od];show sr,f0,f1,by rw[Od];show hf,m1,m2,m3]],λj bN c2 Ji hj NU Wi x hx c6=> ?_,Ĺ,dΚ,λhs w x c6=> ?_,λw x c6=> ?_,Xc,gp'];obtain z | z:=aŬ;have gu:=jd.Fj j i bN st c2 Ji cl len z NU iM Wi sr;rw[nT x (by exact Lqi Ğ ϒ Lq1 kϝ τ (LqIp cĔ gu) rfl)] at c6;show tk.low j bN c2 Ji z NU Wi x hx c6;have:j=i:= qň;subst this;rw[iM] at NU;cases NU;let⟨rfl,rfl⟩:=sr.uniq Wi;show vh x hx c6;rw [ec,tk.rel,dQ];have h1:=yR (s:=s) (p:=p) (sts:=sts) (Ip tk.gp) (Ip gp') x i λw hw y=>by rw[ep,q0 w ∅,bF,cG]
 have h2:=sH (p:=p) lŷ (a:=pf P' i) (b:=js) λy=>by
  rw[eZ (Ip gp' i),ep,mJ Tp];have:d6 (λsh=>look (pf Q i) (aŶ)) js=d6 (mς) js:=by congr 1;funext sh;rw[eq];by_cases z:aŶ=0;rw[am #[rfl,z],Ó];rw[aj (λq=>z q.2),Ô]
  rw[this,yi];change(0+_) % p % p=_;rw[cw,cG]
 rw[nG,Od,eb];show F7 h1 h2;obtain z | z:=GI w hw;have:=tk.keys w z;push_cast;exact qų;rw[z];push_cast;exact qε;by_cases z:x=0;show z;exfalso;exact c6 ?_;rw[ep];have h1:gϘ=0:=by by_cases y:gϘ=0;show y;show absurd (tk.still hs w x y) z
 rw[h1,fD λj hj=>by rw[eq,ej hs j hj,aj (λq=>z (by have:=q.2;exact LqIx (Lqi [_] Lq0 ø gϟ ø (LqIe q.2) rfl) (Lqi [_] ø Lq0 ø gϟ (LqId q.2) rfl)))]];rfl;by_cases h1:gϘ=0;by_cases z: hϴ;show z;exfalso;exact c6 ?_;rw[ep,h1,fD λj hj=>by rw[eq,aj (λq=>z (by have:=LG j hj;have:=q.2;lia))]];rfl;show tk.Fi w x h1
def lC.len (h:lï):P.length<=n:=by have:=gO (l:=yN 0 n) h.nd λk hk=>mM.mpr (by have:=h.keys k hk;exact qŴ);rw[aa] at this;unfold yN at this;rw[aa,cx] at this;show this
def Nj {Q:Pq}(nd:jĽ)(h: ∀w∈eν,w∈ [i]):Q.length<=1:=by have:=gO (l:= [i]) nd h;rw[aa] at this;show this
def putL (s:Int)(sts:ì)(tl:aê):Pt:=tl.flatMap λt=>(jϺ).map λz=>(z.1+é*s,z.2*ê)
def Sr.yb (h:ϡ):ī=c:=by
 have c6:iŒ≠ []:=by intro e;have:=List.mem_map_of_mem (f:=b_ s) h.bot;rw[e] at this;cases this
 show ja.uniq (gB c6) qÐ
def Sr.se (h:ϡ):bÆ=len:=by
 unfold gI;rw[h.yb];have hm:len∈gė:=by have:=jϹ;rw[h.CU] at this;show this
 have c6:gė≠ []:=λe=>by rw[e] at hm;cases hm
 exact rJ.uniq (o_ c6) #[hm,dě];let⟨x,hx,e⟩:=bΕ;have:=nź;rw[e] at this;show ú
def kG (s x:Int)(sts:ì)(t:oE):Int:=dh (jϺ) (x - é*s)*ê
universe WQ
namespace L2
open PySem
def CJ:Nat ->(eÿ) ->Prop
 | 0,p=>p []
 | n+1,p=> ∀v,CJ n λus=>p (v::us)
theorem CJ.to: ∀ {n:Nat} {p:eÿ},CJ n p -> ∀us,us.length=n ->p us
 | 0,_,h,[],_=>h
 | _+1,_,h,v::us,e=>CJ.to (h v) us (Nat.succ.inj e)
theorem cL {kV kf pm cdv ct:eX}(X:aŷ)(G:iϘ)(a:kĶ=jď)(l:cż=some #[oc,od, .func pŁ,Bn])(c:W.codeIn K cdv x=true)(k:lÇ)(b: ∀ (kV kf pm:eX) (an:aÑ) (cdv ct:eX),CJ ps.length λus=>bindArgs pŁ bĦ=hý:=by(repeat intro _);rfl): j6 K mg x ps st f pŁ:=#[fź,bΗ,qÑ]
theorem Cn {kV kf pm cdv ct:eX}(X:aŷ)(G:iϘ)(a:oĭ)(g:oϰ)(l:cż=some #[oc,od, .func pτ,Bn])(c:jϻ)(k:lÇ)(h1:iē)(h2:kĈ)(h3:W.keepIn K Ń=true)(h4:W.plainGet K C Str.empty=true)(h5:jĎ)(h6:jĐ)(h7:pϣ)(b: ∀ (kV kf pm:eX) (an:aÑ) (cdv ct:eX),CJ ps.length λus=>bindArgs pτ bĦ=hý:=by(repeat intro _);rfl): Rl K mg x q ps st C f pτ:=#[fź,#[h1,g,h2,h3],#[h4,h5,h6,h7],bΗ,qÑ]
theorem jA (_:Rl K mg x q ps st C f fd)(a:Str)(e:W.findIn K Ń a=bϰ):dC K C a:=e
theorem Vo (a:oĭ)(e:oå)(k1:jÄ)(k2:qė)(k3:oł)(k4:pώ)(k5:nΟ)(k6:oœ):AA K x C:=#[a,e,(by rw[k1];rfl),k2,k3,k4,k5,k6]
def S2 {l:W.OpenLaw}(T:j6 K mg aë [p] st f fd)(U8:mg aë =gÐ)(hb: ∀ (kV kf pm:eX) (an:aÑ) (cdv ct v:eX),bindArgs (W.fnOf aë aë aϝ aϞ Ħ .none kV kf pm an cdv ct) #[[v],[]]=pure [(p,v)])(ok: ∀base,cD l.prog w K mg base gT kd f fd [p] (WQ.y3 K)): ∃fd:FuncData,(∀ (s:eY) (v:eX),BindsTo s fd #[[v],[]] [(p,v)]) /\ ∀base:Heap,cÖ ->kÿ ->cD l.prog w K mg base gT kd fa fd [p] (WQ.y3 K):=by have e:=U8.symm.trans T.at_;cases e;let⟨oc,od,kV,kf,pm,an,cdv,ct,Bn,rfl,lk,B7⟩:=T.fn.ex;show#[_,λs v=> .of_eq (hb kV kf pm an cdv ct v),λbase _ _=>ok base]
universe L2
namespace WQ
open PySem L2 WL WP
theorem uA {p:Int}(G:ş): ∀ (n:Nat) (d:Pt),dΖ ->(∀x,G x*aŲ % p=0) ->cϝ=0
 | n,[],_,_=>gϞ
 | 0,_::_,h,_=>by simp at h
 | É,Ð,h,ht=>by
  rw[pW G z.1];have hl:lĶ:=by unfold hW;rw[List.filter_cons,eí];have:=pĔ;simp![aT] at h;exact qè
  have ih:=uA G n _ hl λx=>by rw[mC];split;rw[c_];rfl;show ht x
  rw[bu,ih,ht];rfl
theorem wQ (v:Int): ∀js:Pt,d6 (λ_=>v) js=v*gĘ
 | []=>by change ĝ=v*0;simp
 | Ð=>by rw[cI,cI,wQ v r,Int.mul_add,Int.one_mul]
def mB (h:aŲ≠0):x∈d.map Ć:=by exact aA λhn=>h (rZ λq hq e=>hn (ah.mpr #[q,hq,e]))
def uB (G:ş)(d:Pt)(m:Int)(h: ∀y,y≠m ->G y*dh d y % p=0):cϝ=G m*dh d m % p:=by rw[pW G m,bu,uA (p:=p) G _ (hW d m) õ λx=>by rw[mC];split;rw[c_];rfl;rename_i e;show h x e];rw[bF,cG]
def Sr.out (h:ϡ)(hs:ë)(hk:¬(0<=k /\ k<=len)):look st (c+k*s)=0:=by exact aA λhn=>hk ?_;have:=h.ug _ bÇ (h.ok.on k);rwa [pI h.ok hs] at this
def ER {st js:Pt}(hp:ϯ)(s0:Ñ)(sr:ϡ)(low: ∀x,bΓ ->d6 lŷ js % p≠0 ->kΖ)(x:Int):d6 lŷ js % p=0:=by
 have p0:0<p:= ∅;by_cases z:s=0;have e: ∀x,d6 lŷ js=cĭ*gĘ:=λx=>by rw[<- wQ];congr 1;funext sh;rw[z,bR,Int.sub_zero]
 have ht:=sr.top;rw[z,c_,bF] at ht;have h0:gĘ % p=0:=by exact eΔ;have:=low c sr.ok.own (by rw[e,ht,Int.one_mul];show hn);have:=sr.s0 z;lia
 rw[e,cC,h0,c_];rfl;have Fc:0<s:= qö;have hmul: ∀a b:Int,c+a*s - s*b=c+bÈ*s:=λa b=>by rw[Int.sub_mul,bY s b];exact qϪ
 suffices B9: ∀y,dΝ=0 by show mf _ _ _ õ B9
 intro y;exact eΕ;have c6:pÞ≠ []:=λe=>by have:pĕ:=oĮ;rw[e] at this;cases this
 let⟨ma,mb⟩:=o_ c6;let⟨la,lb⟩:=gB c6;generalize vW _=m at ma mb;generalize gh _=k at la lb;have hm:dh js m % p≠0:= ⇑((aV.mp ma).2);have hk:gϢ:= ⇑((aV.mp la).2);have D9: ∀y,gϠ ->eΖ:=λy h=>by have:pĕ:=aV.mpr #[mB λe0=>h gϡ,cj h];show#[lb y this,mb y this]
 have out: ∀y,¬(eΖ) ->dΝ=0:=λy h=>aA λh2=>h (D9 y h2);have h1:=low (c+(len+m)*s) (cϟ) (by rw[uB _ js m dΞ,hmul,show len+m - m=len by exact qξ,sr.top,Int.one_mul];show hm;rw[hmul];obtain h | h:=d5 m y;rw[cC,out y ∅,c_];rfl;rw[eΗ,bR];rfl);rw[pI sr.ok z] at h1;have hc:=fo (n_ sr.pat) sr.bot;have h2:=low (c+k*s) (cϟ) (by rw[uB _ js k dΞ,hmul,Int.sub_self,bR,bF];show vT hp hk _ hc.1 hc.2;rw[hmul];obtain h | h:=d5 y k;rw[cC,out y ∅,c_];rfl;rw[eΗ,bR];rfl);rw[pI sr.ok z] at h2;have:=(D9 k hk).2;exact Lqf Ğ (.a ϫ gϣ) kÂ (LqIp h1.2 (LqIp h2.1 this)) rfl
def gG (s:Int)(sts:ì)(J:bΘ)(x:Int):cę
 | 0=>0
 | n+1=>gę+d6 nϫ (J n)
theorem CV (s:Int)(sts:ì)(P:Pq)(x:Int): ∀n,gĕ=gG s sts (dΟ) x n
 | 0=>rfl
 | n+1=>by rw[nG,gG,CV s sts P x n]
theorem xo (s:Int)(sts:ì)(J J':bΘ)(x:Int): ∀n,gG s sts (gĚ) x n=gę+gG s sts J' x n
 | 0=>rfl
 | n+1=>by rw[gG,gG,gG,xo s sts J J' x n,pX];exact rÅ
theorem xm (s:Int)(sts:ì)(J:bΘ)(k x:Int): ∀n,gG s sts (gϤ) x n=gę*k
 | 0=>by change dΗ;simp
 | n+1=>by rw[gG,gG,xm s sts J k x n,uz,Int.add_mul]
theorem C8 (s:Int)(sts:ì)(x:Int): ∀n,gG s sts (bΙ) x n=0
 | 0=>rfl
 | n+1=>by rw[gG,C8 s sts x n];rfl
theorem xn {s p:Int}{sts:ì}{J:bΘ}{x:Int}{i:Nat}: ∀n,i<n ->(∀j,j<n ->j≠i ->d6 (λsh=>look (sts.getD j []) ŵ) (J j) % p=0) ->gę % p=oϻ
 | 0,h,_=>absurd h (Nat.not_lt_zero _)
 | n + 1,h,hj=>by
  rw[gG];by_cases e:i=n;subst e;have: ∀m,m<=i ->jŃ:=λm=>by
   induction m with
   | zero=>intro _;show gϞ
   | succ m ih=>intro hm;rw[gG,bu,pĖ,hj m (by exact Lqj Û ϒ ϑ ϒ Lq1 hm rfl) (by exact λe=>Lqg Û Ϯ π (LqNp hm cŕ) rfl)];rfl
  rw[bu,fŻ,cw,cG];rw[bu,xn n ∅ (λj h1 h2=>hj j (by exact Lqj Û ϒ ϑ ϒ Lq1 h1 rfl) h2),hj n pΨ (λq=>e q.symm),bF,cG]
def aeP (s p:Int)(sts:ì)(D:Int)(g:ş):Prop:= ∀ (i:Nat) st c len,ϟ ->ϡ -> ∀x,bΓ ->aϵ≠0 ->kΖ
def C9 (hp:ϯ)(s0:Ñ)(jd:Δ)(e: ∀x,aϵ=lϠ)(low:aeP s p sts D g)(x:Int):lϠ=0:=by
 have get: oį:=λi st h=>by rw[bQ,h];rfl
 have key : ∀ (i:Nat),eΘ -> ∀x,oϻ=0:=λi=>by
  induction i using Nat.strongRecOn with
  | ind i ih=>intro hi x;let⟨c,len,sr,_⟩:=jd.each i _ bÉ;rw[gϥ];exact ER hp s0 sr (gđ) x;exact low i _ c len bÉ sr x hx ?_;rw[e,mħ,gϥ];show c6;obtain h | h:=aŬ;show ih j h hj x;let⟨c2,Ji,sr2,_⟩:=jd.each j _ aϣ;have gu:=jd.Fj i j _ _ c len c2 Ji (by exact Lqj Û ϒ Lq1 ϒ Lq1 (LqNk h eΙ) rfl) bÉ aϣ sr sr2;rw[gϦ];rw[fD λk _=> ?_];rfl;exact eΔ;have:=sr2.ge _ bÇ;rw[iF,hx] at this;exact Lqf Û Ϯ π gě rfl
 have: ∀m,fż ->jŃ:=λm=>by
  induction m with
  | zero=>intro _;show gϞ
  | succ m ih=>intro hm;rw[gG,bu,pĖ,key m pź];rfl
 show fŽ
def Uw (s p:Int)(sts:ì)(D:Int)(r:Pt):Prop:= ∀ (i:Nat) st c len,ϟ ->ϡ -> ∀x,bΓ ->bŘ≠0 ->kΖ
def HQ {f:ş}(hp:ϯ)(s0:Ñ)(jd:Δ)(h:cO p r)(h':cO p r')(l:gĜ)(l':Uw s p sts D r')(e: ∀x,bŘ % p=(f x+kΜ) % p)(e': ∀x,cĮ % p=(f x+gG s sts J' x sts.length) % p):r=r':=by
 have p0:0<p:= ∅;exact xG h h' Ĺ;have k: ∀x,(jń) % p=gG s sts (λi=>J i++tm Î (J' i)) x sts.length % p:=λx=>by rw[xo,xm,Int.sub_emod,e,e', <- Int.sub_emod];congr 1;lia
 have hz:=C9 hp s0 jd k (λi st c len hi sr x hx c6=>by by_cases z:bŘ=0;by_cases z':cĮ=0;exact absurd ?_ c6;change(jń) % p=0;rw[z,z'];rfl;show l' i st c len hi sr x hx z';show l i st c len hi sr x hx z) x;rw[<- k x] at hz;have a:=tW p0 h x;have b:=tW p0 h' x;have:=Int.emod_emod_of_dvd;obtain q | q:=d5 (bŘ) (cĮ);have h2:(jń+p) % p=0:=by rw[Int.add_emod_right];show hz
 rw[db (by exact Lqi Ğ ø jϢ (.a ø ϑ) ς (LqIp a.1 b.2) rfl) (by exact Lqi Ğ (.a jϢ ñ) Lq2 ϒ Lq1 q rfl)] at h2;lia;rw[db (by exact Lqi Û ø Β Lq1 Lq0 q rfl) (by exact Lqi Ğ lí Lq2 lψ τ (LqIp a.2 b.1) rfl)] at hz;exact LqIx (Lqi Û Lq0 Lq1 Β ø (LqIe hz) rfl) (Lqi Û Lq0 Lq1 ø eυ (LqId hz) rfl)
theorem lC.lowP (h:nå):gĜ:=λi st c len hi=>h.low i st c len eč hi
def lC.eqv (h:nå)(x:Int):bŘ % p=(cϞ+gG s sts (dΟ) x sts.length) % p:=by rw[h.rel,CV,cG]
def Sv:ik:=λxs M q=>OJ λ hĹ dΙ bť=>p9 oĬ ϰ aŞ aŭ (Δ) (cO p pat) (Wt Z pat) (E2 aŮ aů (D<=aŵ) lķ (Zm<=aŵ) hĺ (∀rest P,cĬ ->Wt Zm rest ->nŻ ->q (fh rest) M))
def eT (s p:Int)(sts:ì)(f:ş):Prop:= ∃J:bΘ, ∀x,f x % p=lϠ
theorem eT.ext (h:eΚ)(e: ∀x,aϵ=f x % p):eΜ:=h.elim λJ hJ=>#[J,λx=>(e x).trans (hJ x)]
theorem eT.zero:eT s p sts ař:=#[bΙ,λx=>by rw[C8]]
def eT.add (h:eΚ)(h':eΜ):eT s p sts λx=>f x+g x:=by let⟨J,hJ⟩:=h;let⟨J',_L⟩:=h';show#[gĚ,λx=>by rw[xo,bu,hJ,_L, <- bu]]
def eT.mul (h:eΚ)(k:Int):eT s p sts λx=>f x*k:=by let⟨J,hJ⟩:=h;show#[gϤ,λx=>by rw[xm,cC,hJ, <- cC]]
theorem yh (G:ş)(k:Int): ∀js:Pt,d6 (λsh=>G (sh+k)) js=d6 G (mv k js)
 | []=>rfl
 | Ð=>by have:mv k aų=(z.1+k,z.2)::mv k r:=rfl;rw[this,cI,cI,yh G k r]
theorem HB (s:Int)(sts:ì)(J:bΘ)(k x:Int): ∀n,gG s sts (gϧ) x n=gG s sts J (x - s*k) n
 | 0=>rfl
 | n+1=>by rw[gG,gG,HB s sts J k x n, <- yh];congr 2;funext sh;rw[Int.mul_add];congr 1;exact qϫ
def eT.shift (h:eΚ)(k:Int):eT s p sts λx=>f (x - s*k):=by let⟨J,hJ⟩:=h;show#[gϧ,λx=>by rw[HB,hJ]]
theorem eT.d6 {s p:Int}{sts:ì}{f:ş}(h:eΚ): ∀js:Pt,eT s p sts λx=>d6 (λsh=>f ŵ) js
 | []=>eT.zero
 | Ð=>((h.shift z.1).mul z.2).add (eT.d6 h r)
theorem sY (s:Int)(sts:ì)(k:Nat)(v:Pt)(x:Int): ∀n,gG s sts (λi=>if i=k then v else []) x n=if k<n then d6 (λsh=>look (sts.getD k []) ŵ) v else 0
 | 0=>rfl
 | É=>by rw[gG,sY s sts k v x n];by_cases e:n=k;subst e;rw[ą,aj aĖ,am aĭ,cw];rw[È];by_cases h:k<n;rw[am h,am (by exact Lqj Û ϒ ϑ ϒ Lq1 h rfl)];change _+0=_;rw[bF];rw[aj h,aj (by exact LqNm (Lqj Û ϒ Lq1 ϒ Lq1 (LqNk (LqNz h) e) rfl))];rfl
def eT.of (h:st∈sts):eT s p sts (look st):=by let⟨i,hi⟩:=aΞ;have hl:=eč;exact#[λj=>if j=i then aϸ else [],Ĺ];rw[sY,am hl,bQ,hi];change _=(look st (x - s*0)*1+0) % p;rw[c_,Int.sub_zero,du,bF]
theorem eT.gG {s p:Int}{sts:ì}{sts':ì}(h: næ)(J:bΘ): ∀n,n<=sts.length ->eT s p sts' λx=>gę
 | 0,_=>eT.zero
 | n+1,hn=>by
  have hm:fŷ∈sts:=by rw[bQ,aq pŻ];show c5 _
  show(eT.gG h J n pï).add ((h _ hm).d6 (J n))
def eT.trans (hf:eΚ)(h: næ):eT s p sts' f:=by let⟨J,hJ⟩:=hf;show(eT.gG h J _ õ).ext hJ
theorem oP (s:Int)(A B:ì)(J:bΘ)(x:Int): ∀n,gG s (A++B) J x eΝ=gG s A J x A.length+gG s B (λi=>J (A.length+i)) x n
 | 0 =>by
  have: ∀n,n<=A.length ->gG s (A++B) J x n=gG s A J x n:=λn=>by
   induction n with
   | zero=>intro _;rfl
   | succ n ih=>
    intro h;rw[gG,gG,ih (by exact Lqj Û Lq0 Lq1 ϒ Lq1 h rfl)];have e:dΡ n []=A.getD n []:=by rw[bQ,bQ,bi pũ]
    rw[e]
  rw[Nat.add_zero,fŽ];change _=_+0;rw[bF]
 | É=>by
  have e:dΡ eΝ []=B.getD n []:=by rw[bQ,bQ,a5 pž,Nat.add_sub_cancel_left]
  rw[<- Nat.add_assoc,gG,oP s A B J x n,gG,e,Int.add_assoc]
def Cu (p:Nat):Nat ->eV (ā)
 | 0=> [[]]
 | n+1=>kķ λa:Nat=>mñ
theorem mq {p:Nat}: ∀ {n:Nat} {v:ā},v∈aŸ↔v.length=n /\ jŅ
 | 0,v=>by change v∈ [[]]↔_;rw[ag];symm;rintro rfl;show#[rfl,λa h=>by cases h];rintro⟨h,_⟩;show dg.mp h
 | n + 1,v=>by
  change v∈kķ _↔_;rw[List.mem_flatMap];symm;rintro⟨a,ha,hv⟩;let⟨u,hu,rfl⟩:=ah.mp hv;let⟨h1,h2⟩:=mq.mp hu;have:=dq.mp ha;exact#[by rw[aT,h1],Ÿ];obtain rfl | hb:=bŬ;show#[Ϻ, ∅];show h2 b hb;rintro⟨h1,h2⟩;cases v with
  | nil=>cases h1
  | cons a u=>have ha:=h2 a aQ;exact#[a.toNat,cϘ,ah.mpr #[u,mq.mpr #[gϨ,λb hb=>h2 b (aC _ hb)],?_]];rw[show((a.toNat:Nat):Int)=a by lia]
theorem uH (p:Nat): ∀n,(aŸ).length=p ^ n
 | 0=>rfl
 | É=>by
  change(kķ _).length=_;rw[List.length_flatMap];have:((eπ).map λa:Nat=>(mñ).length)=List.replicate p (p ^ n):=by exact List.eq_replicate_iff.mpr #[by simp,Ÿ];let⟨a,_,rfl⟩:=bΚ;rw[aa,uH p n]
  rw[this,List.sum_replicate_nat,Nat.pow_succ,Nat.mul_comm]
theorem EZ (p:Nat): ∀n,(aŸ).Nodup
 | 0=>by change([[]]:eV (ā)).Nodup;simp
 | É=>by change(kķ _).Nodup;rw[List.Nodup,List.pairwise_flatMap];exact#[λa _=> ?_,?_];rw[cB];show(EZ p n).imp λh e=>h (List.cons.inj e).2;exact List.Pairwise.imp_of_mem (R:=(· ≠ ·)) (λ{a b} _ _ h=> ?_) List.nodup_range;intro v h1 v' h2 ev;let⟨u1,_,e1⟩:=ah.mp h1;let⟨u2,_,e2⟩:=ah.mp h2;rw[<- ev, <- e1] at e2;show h (by have:=(List.cons.inj e2).1;lia)
def IZ {α:Type} [DecidableEq α]{ks:Ý}: ∀ {l:Ý},oϓ:=by
 induction ks with
 | nil=>intro l _ _;simp
 | cons k r ih=>
  intro l hn hs;rw[bM] at hn;have hk:k∈l:=hs k ś;have:=ih (l:=l.erase k) hn.2 λz hz=>by have hzk:z≠k:=iļ;show oϣ
  rw[lϐ] at this;have:cΟ:=lĪ;rw[aT];lia
def lc:ā ->gĝ ->ş
 | aÛ,g::gs,x=>v*g x+lc vs gs x
 | _,_,_=>0
def S1 (x:Int): ∀ (gs:gĝ) (v u:ā),iš ->u.length=gs.length ->nŚ=cį - lc u gs x:=by
 intro gs;induction gs with
 | nil=>intro v u h1 h2;cases dg.mp h1;cases dg.mp h2;rfl
 | cons g gs ih=>
  intro v u h1 h2;cases v with
  | nil=>cases h1
  | cons a v=>
   cases u with
   | nil=>cases h2
   | cons b u=>change bÈ*g x+nŚ=a*g x+cį - (b*g x+lc u gs x);rw[ih v u (gϨ) (Nat.succ.inj h2),Int.sub_mul];exact rÆ
def GO: ∀ {v u:ā},v.length=u.length ->(∀a∈lŸ,a % p=0) ->(jŅ) ->(∀a∈u,dΤ) ->v=u:=by
 intro v;induction v with
 | nil=>intro u h _ _ _;show(dg.mp h.symm).symm
 | cons a v ih=>
  intro u h hz hv hu;cases u with
  | nil=>cases h
  | cons b u=>
   have h1:=hz bÈ aQ;have h2:=ih hļ (λc hc=>hz c cİ) (λc hc=>hv c cİ) (λc hc=>hu c cİ);have ha:=hv a aQ;have hb:=hu b aQ;have e:a=b:=by have:=dE.mpr h1;rwa [db ha.1 ha.2,db hb.1 hb.2] at this
   rw[e,h2]
def Uh {p:Nat}(p2:2<=p){X:ā}(h: ∀v:ā,iš ->(∀x∈X,cį % Ī=0) -> ∀a∈v,a % Ī=0):gs.length<=X.length:=by
 have p0:ĝ <p:= ∅;have key:((Cu p gs.length).map λv=>X.map λx=>cį % Ī).Nodup:=by rw[List.Nodup,cB];exact List.Pairwise.imp_of_mem (λ{v u} hv hu c6 e=>c6 ?_) (EZ p gs.length);let⟨v1,v2⟩:=mq.mp hv;let⟨u1,u2⟩:=mq.mp hu;exact GO (p:=p) (v1.trans u1.symm) (h _ (by rw[List.length_zipWith,v1,u1,Nat.min_self]) ź) v2 u2;rw[S1 x gs v u v1 u1];show dE.mp (List.map_inj_left.mp e x hx)
 have:=IZ (l:=Cu p X.length) key λk hk=>by let⟨v,_,rfl⟩:=ah.mp hk;exact mq.mpr #[by rw[aa],dΥ];let⟨x,_,rfl⟩:=ah.mp ha;show#[dy _ ∅,cV _ p0]
 rw[aa,uH,uH] at this;show(Nat.pow_le_pow_iff_right (by exact Lqj [_] iê Lq0 ý Lq0 p2 rfl)).mp this
def Q3 (s:Int)(b:Pt):Int ->Nat ->gĝ
 | _,0=> []
 | lo,n+1=>(λx=>h϶)::gϩ
def Fl:Int ->ā ->Pt
 | _,[]=> []
 | lo,a::v=>jÅ
theorem sD (s:Int)(b:Pt): ∀ (n:Nat) (lo:Int),(dΧ).length=n
 | 0,_=>rfl
 | n+1,lo=>by change(gϩ).length+1=_;rw[sD s b n]
theorem Jk (s:Int)(b:Pt)(x:Int): ∀ (v:ā) (n:Nat) (lo:Int),v.length=n ->lc v (dΧ) x=d6 lĴ (Fl lo v)
 | [],_,lo,rfl=>rfl
 | a::v,_,lo,rfl=>by change a*h϶+lc v (Q3 s b aŹ v.length) x=_;rw[Jk s b x v _ aŹ rfl];have e:Fl lo (a::v)=jÅ:=rfl;rw[e,cI,bY]
theorem xD: ∀ (v:ā) (lo:Int), ∀z∈Fl lo v,lo<=z.1 /\ z.1<lo+v.length
 | [],_,z,h=>by cases h
 | a::v,lo,z,h=>by rw[aT];obtain rfl | h:=aϗ;show#[Ï,by change lo<lo+_;push_cast;exact Lqi Û ϒ ϭ ø Lq1 kĎ rfl];have:=xD v aŹ z h;push_cast;exact ⟨Lqi Û Lq0 Lq1 ϒ Lq1 ü rfl,Lqi Ğ ϒ Ϭ ϒ kϢ ú rfl⟩
theorem zm {p:Int}: ∀ (v:ā) (lo:Int),(∀y,dh (Fl lo v) y % p=0) -> hĽ
 | [],_,_,a,h=>by cases h
 | b ::v,lo,ht,a,h=>by
  have e: ∀y,dh (Fl lo (b::v)) y=(if lo=y then b else 0)+dh (dΦ) y:=λy=>rfl;have h0:dh (dΦ) lo=0:=rZ λq hq e=>by have:=xD v aŹ q hq;exact Lqf Û ϭ π kĸ rfl
  obtain rfl | h:=aϗ;have:=ht lo;rwa [e,ą,h0,bF] at this;exact zm v aŹ (λy=> ?_) a h;by_cases z:lo=y;rw[<- z,h0];rfl;have:=ht y;rwa [e,Ô,cw] at this
theorem Jm (x:Int): ∀ (v1:ā) (g1:gĝ) (v2:ā) (g2:gĝ),v1.length=g1.length ->kĹ=lc v1 g1 x+lc v2 g2 x
 | [],[],v2,g2,_=>by change lc v2 g2 x=0+_;rw[cw]
 | a::v1,g::g1,v2,g2,h=>by change a*g x+kĹ=a*g x+lc v1 g1 x+_;rw[Jm x v1 g1 v2 g2 hļ,Int.add_assoc]
def Rb (s:Int)(G:hϷ):gĝ:=G.flatMap λg=>jņ
theorem EL (s:Int): ∀G:hϷ,gϪ=(G.map λg=>aí).sum
 | []=>rfl
 | g::G=>by change(mò).length=_;rw[aM,sD,EL s G];rfl
theorem Jl {p:Int}(s:Int): ∀ (G:hϷ) (v:ā),v.length=gϪ -> ∃J:bΘ,dU (∀x,gϫ=gG s (eΡ) J x G.length) (∀i g,G[i]? =aĈ -> ∀z∈J i,g.2.1<=z.1 /\ z.1<g.2.1+aí) ((∀i,i<G.length -> kÄ) -> hĽ)
 | [],v,h=>by cases dg.mp h;show#[bΙ,λx=>rfl,λi g h=>by simp at h,λ_ a h=>by cases h]
 | g ::G,v,h=>by
  have e:Rb s (g::G)=mò:=rfl;rw[e,aM,sD] at h;let⟨J,h1,h2,h3⟩:=Jl (p:=p) s G (v.drop aí) (by rw[List.length_drop,h];lia);have l1:(v.take aí).length=aí:=by rw[bE,h];lia
  exact#[pć,Ĺ,λi u hu z hz=> ?_,λhz a ha=> ?_];have hc:=oP s [g.1] (eΡ) (pć) x G.length;have e3:(λi=>(λi:Nat=>match i with | 0=>kΝ | i+1=>J i) (eΤ+i))=J:=by funext i;change(match 1+i with | 0=>_ | i+1=>J i)=_;rw[Nat.add_comm]
  rw[e3] at hc;rw[e, <- bD aí v,Jm x _ _ _ _ (by rw[l1,sD]),bD,Jk s g.1 x _ _ _ l1,h1 x,aT,Nat.add_comm];change _=gG s ([g.1]++eΡ) _ x (eΤ+G.length);rw[hc];change _=0+d6 (λsh=>look ([g.1].getD 0 []) ŵ) (kΝ)+_;rw[cw];rfl;cases i with
  | zero=>cases (show g=u from by simpa using hu);have:=xD _ _ z hz;rw[l1] at this;show this
  | succ i=>show h2 i u ⇑hu z hz
  rw[<- bD aí v] at ha;obtain ha | ha:=au.mp ha;show zm _ _ (hz 0 (Nat.succ_pos _)) a ha;show h3 (λi hi=>hz ß (by rw[aT];exact Lqj Û ϱ ϑ ϒ Lq1 hi rfl)) a ha
def w_ (s p:Int)(bs:ì):Prop:= ∀J:bΘ,(∀x,kÅ % p=0) -> ∀i,dų -> kÄ
def Cw (s p:Int)(sts:ì)(D:Int):Prop:= ∀ (i j:Nat) st bN c len,i<j ->ϟ ->hĸ ->Sr s p bN c len D -> ∀x,bΓ ->cĭ≠0 ->kΖ
def mW {sts:ì}(h:ϟ):fŹ=st:=by rw[bQ,h];rfl
theorem C_ {s:Int}{bs:ì}{J:bΘ}{x:Int}: ∀n,(∀i,i<n -> ∀z∈J i,look (eΥ) dΨ=0) ->gG s bs J x n=0
 | 0,_=>rfl
 | n+1,h=>by rw[gG,C_ n λi hi=>h i (by exact Lqj Û ϒ ϑ ϒ Lq1 hi rfl),fD λz hz=>h n pΨ z hz];rfl
def uy {w h an:Nat}(hp:ϯ)(s0:0<s)(jd:Δ)(trim:an=0 \/ eΦ)(J9:jŇ)(ind:cı)(ij: mĨ)(hw: pŎ)(ht:t∈sts)(hh:2*w<=h)(hLm: ∀st∈sts,bÆ<=Lm)(hLh:Lm<=h)(a0:0<=alo)(a1:alo+an+Lm<=h)(out: ∀js:Pt,(∀z∈js,kĺ) ->(∀x,¬(kÆ) ->d6 lĸ js % p=0) -> ∀y,dΝ=0): pĩ<=eΧ:=by
 have p0:0<p:= ∅;have sn:ë:= qĂ;have nX: ∀ (i:Nat) st,ϟ ->mτ:=λi st hi=>by let⟨c,len,sr,_⟩:=gϭ;rw[sr.yb,sr.se];show sr
 let G:hϷ:=qĞ
 let X:ā:=sts.flatMap λst=>oŸ
 have hX:X.length=eΧ:=by change(sts.flatMap _).length=_;rw[List.length_flatMap];have:(sts.map λst=>(oŸ).length)=List.replicate sts.length h:=List.eq_replicate_iff.mpr #[by simp,λb hb=>by let⟨a,_,rfl⟩:=bΚ;simp];rw[this,List.sum_replicate_nat]
 have hG:gϪ=pĩ:=by rw[EL];change((qĞ).map kΞ).sum=_;rw[aO,List.sum_append,aY,List.sum_cons,aK,aK];have:(bs.map ((kΞ) ∘ lð))=List.replicate bs.length (bË):=List.eq_replicate_iff.mpr #[by simp,λb hb=>by let⟨a,_,rfl⟩:=bΚ;rfl];rw[this,List.sum_replicate_nat,J9,Nat.add_assoc];rfl
 rw[<- hG, <- hX];let⟨P,hP⟩: ∃P:Nat,(P:Int)=p:=#[p.toNat, ∅]
 exact Uh (p:=P) ∅ λv hv hz=> ?_;rw[hP] at hz ⊢;let⟨J,e1,e2,e3⟩:=Jl (p:=p) s G v hv;have GB:eΡ=bs++(t::mó):=by change(qĞ).map Ć=_;rw[aO,aY,aK,aK];congr 1;show List.map_id _
 have GL:G.length=bs.length+(1+sts.length):=by change(qĞ).length=_;rw[aM,aa,aT,aa];exact LqNx (Lqj Û ϭ lñ ø ø LqN0 rfl) (Lqj Û lñ ϭ ø ø LqN0 rfl)
 let C:ş:=λx=>gG s (mó) (λi=>jÆ) x sts.length
 let B:ş:=λx=>d6 lĸ fſ
 let U:ş:=λx=>kÅ
 have eJ: ∀x,gϫ=U x+(B x+C x):=λx=>by rw[e1,GB,GL,oP];have:=oP s [t] (mó) kĻ x sts.length;change U x+gG s ([t]++mó) kĻ x ([t].length+sts.length)=_;rw[this];change U x+(0+d6 lĸ hϹ+C x)=_;rw[cw,Nat.add_zero]
 have kU: ∀i,dų -> ∀z∈J i,bÊ <=z.1 /\ z.1< bÊ+((bË:Nat):Int):=λi hi z pB=>by have:=e2 i (bs[i],bÊ,bË) (by change fγ[i]? =_;rw[bĬ,aF,aq hi];rfl) z pB;show this
 have kB: ∀z∈dΩ,kĺ:=λz pB=>by have:=e2 bs.length (t,alo,an) (by change fγ[bs.length]? =_;rw[a5 ś];simp) z pB;show this
 have kC: ∀i st,ϟ -> ∀z∈jÆ,0<=z.1 /\ z.1<bÆ:=λi st hi z pB=>by have:=e2 hϸ nç (by change fγ[_]? =_;rw[a5 ś,aa,Nat.add_sub_cancel_left,Nat.add_comm,List.getElem?_cons_succ,aF,hi];rfl) z pB;have h2:=(cϠ).l0;exact#[ü,?_];have h3:=ú;simp![cw] at h3;lia
 have zU: ∀x,¬(kÆ) ->U x=0:=λx hx=>C_ _ λi hi z pB=>aA λc6=>hx (by
  have hb:eΥ∈bs:=by rw[mW bÉ];show c5 _
  have h1:=hw _ hb _ c6;rw[l7 sn] at h1;have h2:=kU i hi z pB;lia)
 have single: ∀ (c x:Int),look [(c,1)] x≠0 ->x=c:=λc x c6=>aA λhn=>c6 pÀ;have atC: ∀x i st,ϟ ->đ=ī ->C x % p=d6 (λsh=>look fž ŵ) (jÆ) % p:=λx i st hi hx=>by
  have hl:=eč;have h1:=xn (s:=s) (p:=p) (sts:=mó) (J:=λi=>jÆ) (x:=x) (i:=i) sts.length hl λj hj X_=>by
   have jR:sts[j]? =some sts[j]:=aq hj;rw[mW (st:= [(fA s sts[j],1)]) (by rw[aF,jR];rfl)];rw[fD λz pB=>aA λc6=> ?_];rfl;have h2:=fδ;have h3:b_ s dΨ=fA s sts[j]:=by rw[h2];show(nX j _ jR).ok.own
   rw[iF,hx] at h3;obtain q | q:=d4 i j;have:=jd.Fj i j st _ _ _ _ _ q hi jR eΨ (nX j _ jR);exact Lqf Û ϭ π (LqIp cĲ this) rfl;have:=jd.Fj j i _ st _ _ _ _ (by exact Lqj Û ϒ Lq1 ϒ Lq1 (LqNk q X_) rfl) jR hi (nX j _ jR) eΨ;exact Lqf Û ϭ π (LqIp cĳ this) rfl
  have e4:(sts.map λst=> [(ī,aϚ)]).getD i []= fž:=mW (by rw[aF,hi];rfl);rw[e4] at h1;show h1
 have dlt: ∀ (c x:Int) (js:Pt),d6 (λsh=>look [(c,1)] ŵ) js=d6 (λsh=>if bπ=c then 1 else 0) js:=λc x js=>by congr 1;funext sh;by_cases e:bπ=c;rw[Ç,e];show ą;rw[È];show fm λq hq e'=>e (by rw[bŜ] at e';show e'.symm)
 have Y6 : ∀i st,ϟ -> ∀x,đ=ī ->(U x+B x+C x) % p=0:=λi st hi x hx=>by
  by_cases hr:kÆ;have:x∈X:=List.mem_flatMap.mpr #[st,az hi,ah.mpr #[gĞ,cϘ,by rw[show((gĞ:Nat):Int)=Ē by lia];show(uG pĪ hx).symm]];have:=hz x this;rwa [eJ, <- Int.add_assoc] at this;have hb:B x=0:=fD λz pB=>aA λc6=>hr (by
    have h2:=kB z pB;let⟨k,hk⟩:=cA.mp ht;have hc:b_ s dΨ=ī:=by rw[iF];show hx
    have h3:0<=hľ /\ hľ <=Lm:=by obtain an0 | trim:=trim;exfalso;lia;obtain q | q | q:=Nat.lt_trichotomy k i;have:=trim k i t st _ _ q hk hi eΨ _ hc c6;have:=hLm st (az hi);lia;subst q;rw[hk] at hi;cases hi;have:=(cĴ).ug _ (eE c6) hc;have:=hLm t ht;lia;have h5:=jd.Fj i k st t _ _ _ _ q hi hk eΨ (cĴ);have:=(cĴ).ge _ (eE c6);lia
    rw[l7 sn] at h3;exact ⟨Lqi Ğ ø Lq0 (.a ø gϒ) (.a Lq1 (.a Lq2 eŷ)) (LqIp a0 (LqIp h2.1 h3.1)) rfl,Lqi Ι ϒ Lq1 (.a jŮ (.a gϮ (.s Lq0 Lq5))) (.a Lq1 jŮ) (LqIp a1 (LqIp h2.2 h3.2)) rfl⟩)
  have hc:C x % p=0:=by
   rw[hĿ,fD λz pB=>aA λc6=>hr ?_];rfl;have h2:=fδ;have h3:hľ=0:=by rw[h2];show iŢ
   rw[l7 sn] at h3;have:=kC i st hi z pB;have:=hLm st (az hi);lia
  rw[zU x hr,hb,bu,hc];rfl
 have hUB:eT s p sts λx=>U x+B x:=(jÇ).add ((eT.of ht).d6 _);have hzero: ∀x,(U x+B x) % p=0:=by
  let⟨J',_L⟩:=hUB;intro x;rw[_L];exact C9 hp pĪ jd _L (λi st c len hi sr x hx c6=> ?_) x;have e5:=sr.uniq eΨ;rw[e5.1] at hx;have h0:=Y6 i st hi x hx;have Vc:C x % p≠0:=λe=>c6 (by rw[bu,e,bF,cG] at h0;show h0);rw[hĿ,dlt] at Vc;have: ∃z∈jÆ,x - s*z.1=ī:=aA λhn=>Vc (by rw[fD λz pB=>aj λe=>hn #[z,pB,e]];rfl);let⟨z,UZ,Xy⟩:=this;have h3:hľ=0:=by rw[Xy];show iŢ
  rw[l7 sn] at h3;have:=kC i st hi z UZ;rw[e5.2];show#[(by exact Lqi Û ø Lq0 ϥ jϠ (LqIp cĲ ü) rfl), (by exact Lqi Ğ ϒ Lq1 (.a eŷ ϓ) gſ (LqIp cĳ ú) rfl)]
 have hB0: ∀y,kļ=0:=out _ kB λx hx=>by have h1:=hzero x;rw[zU x hx,cw] at h1;show h1
 have hBx: ∀x,B x % p=0:=λx=>mf _ _ _ õ hB0;have hU0:=ind J λx=>by have h1:=hzero x;rw[bu,hBx,bF,cG] at h1;show h1
 exact e3 λi hi y=> ?_;rw[GL] at hi;obtain q | q | q:=Nat.lt_trichotomy i bs.length;show hU0 i q y;rw[q];show hB0 y;let⟨k,rfl⟩: ∃k,i=bs.length+(1+k):=#[i - bs.length - 1, ∅]
 have hk:sts[k]? =some sts[k]:=aq (by exact Lqj Ğ ϒ Lq1 (.a (.a Lq2 gϯ) ñ) (.a Lq2 gŐ) hi rfl);have hx:b_ s (dϊ+y*s)=dϊ:=(nX k _ hk).ok.on y;have h0:=Y6 k _ hk _ hx;rw[bu,hzero,cw,cG,atC _ k _ hk hx,dlt] at h0;have e6:(λsh=>if kĽ=dϊ then aϚ else 0)=mς:=by
  funext sh;have e7:kĽ=dϊ+(aŶ)*s:=by rw[Int.sub_mul,bY s sh];exact qϪ
  by_cases z:aŶ=0;rw[Ó,e7,z,am (by exact LqIx (Lqi Û jÈ Lq0 ø ø LqI0 rfl) (Lqi Û Lq0 jÈ ø ø LqI0 rfl))];rw[Ô,e7,aj];intro e8;have:(aŶ)*s=0:= (by exact LqIx (Lqi Û Lq0 ø π Lq1 (LqIe e8) rfl) (Lqi Û ø Lq0 Lq1 π (LqId e8) rfl));obtain h9 | h9:=Int.mul_eq_zero.mp this;show z h9;show sn h9
 rw[e6,yi] at h0;show h0
def yw.of (jd:Δ)(h:st∈sts):mτ:=by let⟨i,hi⟩:=aΞ;let⟨c,len,sr,_⟩:=gϭ;rw[sr.yb,sr.se];show sr
theorem A1 {α:Type}{f:α ->Nat}: ∀ {l:Ý} {a:α},a∈l ->f a<=(l.map f).sum
 | b::l,a,h=>by rw[aY,List.sum_cons];obtain rfl | h:=aϗ;exact pĀ;have:=A1 (f:=f) h;exact Lqj Ğ Lq0 ο ϕ τ mĩ rfl
def tU (hh:2*w<=h)(e:m*(bË)+a<=m*h):a<=2*m*w:=by
 have:m*(bË)+m*(2*w)=m*h:=by rw[<- Nat.mul_add];congr 1;lia
 have e2:m*(2*w)=2*m*w:=by rw[Nat.mul_left_comm,Nat.mul_assoc]
 lia
def DN {w:Nat}(hp:ϯ)(s0:0<s)(jd:Δ)(J9:jŇ)(ind:cı)(ij: mĨ)(hw: pŎ): nı<=gğ:=by
 cases hs:sts with
 | nil=>show dm _
 | cons t r=>
  rw[<- hs];have ht:t∈sts:=by rw[hs];show aQ
  have hL: pε:=λst h=>by have:=mυ;have:=eΩ;lia
  have:=uy (t:=t) (w:=w) (h:=2*w+nı) (an:=0) (alo:=0) (Lm:=oŹ) hp s0 jd Ũ J9 ind ij hw ht qË hL (by push_cast;exact Lqi Û Lq0 jÉ ϥ eÛ pß rfl) ē (by push_cast;exact Lqi Û ϗ jÉ ϥ eÛ pß rfl) λjs hk _ y=>by
   have:js= []:=by
    cases js with
    | nil=>rfl
    | cons z r=>have:=hk z aQ;simp at this;lia
   rw[this];rfl
  rw[Nat.add_zero] at this;show tU qË this
def HU {w:Nat}(hp:ϯ)(s0:0<s)(jd:Δ)(trim:eΦ)(J9:jŇ)(ind:cı)(ij: mĨ)(hw: pŎ)(ht:t∈sts)(hx:look t x≠0): -lŹ <=Ē /\ Ē<=lŹ:=by
 have sn:ë:= qĂ;have p0:0<p:= ∅;have hL: pε:=λst h=>by have:=mυ;have:=eΩ;lia
 have gt:=n_ (jd.of ht).pat;have c6:pC s bŻ (fg t)≠ []:=λe=>by have:=ka (eE hx) (rfl:đ=đ);rw[e] at this;cases this
 let⟨ma,mb⟩:=o_ c6;let⟨la,lb⟩:=gB c6;generalize vW _=H at ma mb;generalize gh _=B at la lb;have hxH:=mb _ hŀ;have hxB:=lb _ hŀ;let⟨mh,mc⟩:=yr pĪ ma;let⟨lh,lc'⟩:=yr pĪ la;have Nk:kP s bŻ:=yl pĪ;have Nc: ∀k,H<k ->kÈ:=λk hk=>aA λhn=>by have:=mb _ kľ;rw[bΝ] at this;exact pŬ
 have aa3: ∀k,k<B ->kÈ:=λk hk=>aA λhn=>by have:=lb _ kľ;rw[bΝ] at this;exact pŬ
 have hmul: ∀a b:Int,đ+a*s - s*b=đ+bÈ*s:=λa b=>by rw[Int.sub_mul,bY s b];exact qϪ
 have S:=DN hp s0 jd J9 ind ij hw;have y4: ∀js:Pt,(∃y,gϠ) ->pÞ≠ []:=(by rintro js ⟨y,hy⟩ e;exact by have:pĕ:=oĮ;rw[e] at this;cases this)
 have Jv: ∀ (js:Pt) y,gϠ ->pĕ:=λjs y hy=>oĮ;generalize hΛ:nı=Λ at hL S;symm;obtain hb | hb:=d5 B 0;have :=uy (t:=t) (w:=w) (h:=(-B).toNat+Λ+2*w) (an:=(-B).toNat) (alo:=0) (Lm:=bΞ) hp s0 jd dϋ J9 ind ij hw ht qΟ hL (by push_cast;exact Lqi Ğ Lq0 (.a π cϡ) mņ (.a Lq1 eĥ) (LqIp kĎ pß) rfl) ē (by push_cast;exact Lqi Ğ (.a ϗ Lq1) mô ϥ eĥ pß rfl) λjs hk hz y=>by
  exact eΕ;let⟨k1,k2⟩:=gB gϰ;generalize gh _=k at k1 k2;have hk0:gϢ:= hϺ;let⟨z,UZ,Xy⟩:=iţ;have hkr:=hk z UZ;rw[Xy] at hkr;have h1:=hz (đ+(B+k)*s) (by rw[bΝ];lia);rw[kĿ,hmul,show B+k - k=B by exact qξ] at h1;have hv:=fo gt lh;show lò;rw[hmul];obtain h | h:=d5 y' k;have:gĠ:=aA λh2=>by have:=iŤ;exact pŤ
  rw[cC,this,c_];rfl;rw[aa3 _ (by exact Lqi Ğ (.a kÁ ñ) Lq0 ϑ Lq2 (LqIk h (Ne.symm ne)) rfl),bR];rfl
 rw[hΛ,Nat.add_assoc] at this;have:=tU qΟ this;lia;exact Lqi Ğ Ņ Lq1 lϡ jϖ (LqIp hxB (LqIp hb kϹ)) rfl;obtain hb | hb:=d5 bΞ H;have :=uy (t:=t) (w:=w) (h:=H.toNat+2*w) (an:=(H - Λ).toNat) (alo:=2*w) (Lm:=bΞ) hp s0 jd dϋ J9 ind ij hw ht qÌ hL iť (by exact Lqi [_] ø cő ϥ eϋ pß rfl) iť λjs hk hz y=>by
  exact eΕ;let⟨k1,k2⟩:=o_ gϰ;generalize vW _=k at k1 k2;have hk0:gϢ:= hϺ;let⟨z,UZ,Xy⟩:=iţ;have hkr:=hk z UZ;rw[Xy] at hkr;have h1:=hz (đ+(H+k)*s) (by rw[bΝ];push_cast;lia);rw[kĿ,hmul,show H+k - k=H by exact qξ] at h1;have hv:=fo gt mh;show lò;rw[hmul];obtain h | h:=d5 k y';have:gĠ:=aA λh2=>by have:=iŤ;exact pŤ
  rw[cC,this,c_];rfl;rw[Nc _ (by exact Lqi Ğ ϒ kÁ ϓ Lq1 (LqIk h ne) rfl),bR];rfl
 rw[hΛ,Nat.add_assoc] at this;have:=tU qÌ this;lia;lia
def Kj (hp:ϯ)(s0:Ñ)(jd:Δ)(h:eT s p sts A)(hz: ∀x,đ<c ->A x % p=0)(hx: ∃x,bΓ /\ A x % p≠0):iŦ:=by
 let⟨J,hJ⟩:=h;let⟨x0,hx0,c6⟩:=hx;exact aA λhc=>c6 ?_;have get: oį:=λi st h=>mW h;have sr: ∀i (hi:eΘ),Sr s p aź (dό) (gI s aź) D:=λi hi=>jd.of (c5 _);have later: ∀i j (hi:eΘ) (hj:j<sts.length),i<j -> ∀x,đ<=dό ->d6 (λsh=>look sts[j] ŵ) (J j)=0:=λi j hi hj iE x hx=>fD λz _=>aA λhn=>by have h1:=(sr j hj).ge _ bÇ;rw[iF] at h1;have:=jd.Fj i j _ _ _ _ _ _ iE bÉ aϣ cĵ (sr j hj);exact Lqf Ğ (.a Lq0 Ϭ) jū (LqIp hx gġ) rfl
 have key: ∀ (i:Nat) (hi:eΘ),dό <c -> ∀x,d6 (λsh=>look aź ŵ) aì % p=0:=λi=>by
  induction i using Nat.strongRecOn with
  | ind i ih=>intro hi gu x;exact ER hp s0 cĵ (λx hx hn=> ?_) x;exfalso;exact hn ?_;have h1:=hz x (by exact Lqi Ğ ϒ Lq1 lÀ ο (LqIp gu (cĔ)) rfl);rw[hJ,mħ,gϥ] at h1;show h1;rw[gϦ];obtain q | q:=aŬ;have:=jd.Fj j i _ _ _ _ _ _ q aϣ bÉ (sr j hj) cĵ;show ih j q hj (by exact Lqi Ğ ϒ Lq1 (.a ϓ ϒ) ο gě rfl) x;rw[later i j hi hj (by exact Lqj Û ϒ Lq1 ϒ Lq1 (LqNk q eΙ) rfl) x (by exact Lqi Û Lq0 Lq1 Lq0 Lq1 cĔ rfl)];rfl
 rw[hJ];have : ∀ m,fż ->gG s sts J x0 m % p=0:=λm=>by
  induction m with
  | zero=>intro _;show gϞ
  | succ m ih=>
   intro hm;have _y:m<sts.length:= pź;rw[gG,bu,pĖ,get m _ (aq _y)];have h2:d6 (λsh=>look sts[m] (x0 - s*sh)) (J m) % p=0:=by obtain q | q | q:=Int.lt_trichotomy (fA s sts[m]) c;show key m _y q x0;show absurd (ah.mpr #[_,c5 _y,q]) hc;rw[fD λz _=>aA λhn=>by have h1:=(sr m _y).ge _ bÇ;rw[iF] at h1;exact Lqf Ğ nØ jϖ (LqIp (LqIe hx0) (LqIp q h1)) rfl];rfl
   rw[h2];rfl
 show fŽ
theorem sG (F G:ş): ∀js:Pt,d6 (λt=>F t+G t) js=d6 F js+d6 G js
 | []=>rfl
 | Ð=>by rw[cI,cI,cI,sG F G r,Int.add_mul];exact rÅ
theorem EM (F:ş)(k:Int): ∀js:Pt,d6 (λt=>F t*k) js=d6 F js*k
 | []=>by change dΗ;simp
 | Ð=>by rw[cI,cI,EM F k r,Int.add_mul];congr 1;rw[Int.mul_assoc,Int.mul_assoc,bY k]
theorem Aj (f:ş)(s x:Int)(q:Pt): ∀a:Pt,d6 (λsh=>d6 (λt=>f hŁ) q) a=d6 (λt=>d6 lź a) q
 | []=>by rw[show(λt:Int=>d6 lź [])=ař from rfl,EO];rfl
 | Ð=>by have e:(λt=>d6 lź aų)=λt=>f (x - s*t - s*z.1)*z.2+d6 lź r:=rfl;rw[cI,Aj f s x q r,e,sG,EM];congr 2;congr 1;funext t;congr 1;exact LqIx pϸ pϸ
theorem EQ {p:Int}{F G:ş}(h: ∀t,F t % p=G t % p): ∀js:Pt,d6 F js % p=d6 G js % p
 | []=>rfl
 | Ð=>by rw[cI,cI,bu,EQ h r,cC,h, <- cC, <- bu]
def BX (hp:ϯ)(s0:0<s)(jd:Δ)(Mo:yw s p sts' D')(ind:cı)(ij: mĨ)(d_:sts.length<sts'.length)(hq: ∀st∈sts', ∃q:Pt,eT s p sts λx=>cĭ - d6 lĹ q):w_ s p (bs++ [P]):=by
 have sn:ë:= qĂ;intro J hJ;have xW: ∀x,(kÅ+oĈ) % p=0:=λx=>by
  have h1:=hJ x;rw[aM,bT,oP s bs [P] J x 1] at h1;have e:gG s [P] kĻ x 1=oĈ:=by change 0+d6 (λsh=>look ([P].getD 0 []) ŵ) hϹ=_;rw[cw];rfl
  rw[e] at h1;show h1
 have a0 : ∀ y,kļ=0:=by
  intro y;exact eΕ;have hP:eT s p sts λx=>oĈ:=by exact((jÇ).mul Î).ext Ĺ;have h1:=xW x;exact dE.mpr ?_;rw[<- h1];congr 1;lia
  have hA: ∀st∈sts',eT s p sts λx=>d6 lŷ fſ:=λst iM=>by let⟨q,hq⟩:=hq st iM;exact((hq.d6 fſ).add (hP.d6 q)).ext Ĺ;rw[<- Aj (look P) s x q fſ, <- sG];congr 2;funext sh;exact qν
  have c6:pϗ≠ []:=λe=>by have:y∈pϗ:=oĮ;rw[e] at this;cases this
  let⟨k1,k2⟩:=o_ c6;generalize vW _=m at k1 k2;have hm:dh fſ m % p≠0:= hϺ;have Yo: ∀c∈gϱ,iŦ:=λc hc=>by
   let⟨st,iM,rfl⟩:=bΟ;have sr:=Mo.of iM;have hmul: ∀a b:Int,ī+a*s - s*b=ī+bÈ*s:=λa b=>by rw[Int.sub_mul,bY s b];exact qϪ
   exact Kj hp pĪ jd (hA st iM) (ź) #[ī+(bÆ+m)*s,cϟ,?_];rw[fD λz _=>aA λhn=>by have h1:=sr.ge _ bÇ;rw[iF] at h1;exact Lqf Û Ϯ π (LqIp hx h1) rfl];rfl;rw [uB _ fſ m eϊ,hmul,show bÆ+m - m=bÆ by exact qξ,sr.top,Int.one_mul];show hm;rw [hmul];obtain h | h:=d5 m y';have:dh fſ y' % p=0:=aA λh2=>by have:=k2 y' (aV.mpr #[mB λe0=>h2 gϡ,cj h2]);exact pŤ
   rw[cC,this,c_];rfl;rw[sr.out sn ∅,bR];rfl
  have nd:(gϱ).Nodup:=by rw[List.Nodup,cB,bS];intro i j hi hj iE e;have:=Mo.Fj i j _ _ _ _ _ _ iE bÉ aϣ gĢ gĢ;exact Lqf Û ϭ π (LqIp Ő this) rfl
  have:=gO nd Yo;rw[aa,aa] at this;exact Lqg Û Ϯ π (LqNp d_ this) rfl
 intro i hi y;rw[aM,bT] at hi;obtain q | q:=d4 i bs.length;exact ind J (Ĺ) i q y;have h1:=xW x;rw[bu,mf _ _ _ õ a0,bF,cG] at h1;show h1;rw[show i=bs.length by exact LqNx (Lqj Û Lq0 Lq1 ϒ ϑ hi rfl) (Lqj Û Lq0 Lq1 Lq0 Lq1 q rfl)];show a0 y
def qb (s Z l h:Int)(a:Pt):Prop:=(∀x,eό -> -l<=Ē /\ Ē<=h) /\ (s=0 ->Wt Z a)
def qD (s l h:Int)(P:Pq):Prop:= ∀w x,jÃ -> -l<=x /\ x<=h
theorem qb.up (x:eύ)(hl:l<=l')(hh:h<=h'):qb s Z l' h' a:=#[λy hy=>by have:=x.1 y hy;exact qϙ,x.2]
theorem qD.up (x:cϢ)(hl:l<=l')(hh:h<=h'):qD s l' h' P:=λw y hy=>by have:=x w y hy;exact qϙ
theorem pH (x:Int):hI 0 x=0:=ą
theorem qb.wt (x:eύ)(s0:Ñ)(s8:s<=8)(z0:0<=Z)(hl:l<=E)(hh:h<=E)(e0:0<=E):Wt (Z+8*(E+1)) a:=λy hy=>by by_cases z:s=0;have:=x.2 z y hy;lia;have h1:=x.1 y hy;have h2:=Ca (s:=s) (x:=y) qö;have h3:=bj (show hI s y<=E by exact Lqi Ğ Lq0 Lq1 υ ο (LqIp hh h1.2) rfl) s0;have h4:=bj (show -E<=hI s y by exact Lqi Ğ Ņ Lq1 hϮ μ (LqIp hl h1.1) rfl) s0;have h5:=a6 s8 e0;rw[eh] at h4;exact ⟨Lqi Ŷ (.g (.a Lq0 (.m 8 ϑ))) Lq2 (.a ø (.a Lq3 (.a (.g Lq4) Lq4))) (.a Lq0 (.a Lq2 (.a Lq3 (.m 8 Lq1)))) (LqIp z0 (LqIp h2.2 (LqIp h4 h5))) rfl,Lqi Ι Lq0 (.a Lq1 (.m 8 ϓ)) (.a Lq3 (.a ø (.a (.a eŸ ñ) eì))) (.a Ĕ (.a Lq1 (.a Lq4 (.a Lq5 (.m 8 Lq2))))) (LqIp s8 (LqIp z0 (LqIp h2.1 (LqIp h3 h5)))) rfl⟩
theorem qD.wt (x:cϢ)(nd:jĺ)(hl:l<=E)(hh:h<=E): ∀t∈P,Wt E ê:=λt ht y hy=>by rw[<- qm nd ht] at hy;have:=x t.1 y hy;exact qϙ
def qb.cut {js:Pt}(ha:eύ)(Ve:qb s Z lb hb b)(ec: pĵ)(hj: mŞ)(LI:kı)(hl:l<=l')(Tx:lb+jl<=l')(hh:h<=h')(hh2:hb+jh<=h'):qb s Z l' h' c:=by
 have one: ∀x,eς ->eό \/ mϰ:=λx hx=>by by_cases z:ő=0;exact .inr (aA λhn=>hx ?_);rw[ec,z,nè];rfl;show .inl z
 exact mõ;obtain q | ⟨j,jR,q⟩:=bΡ;have:=ha.1 x q;exact qϙ;have h1:=Ve.1 _ q;have h2:=bÌ;by_cases z:s=0;have h3:=LI z j jR;rw[z,pH] at h1 ⊢;exact ⟨Lqi ř Ņ ø (.a ο (.a ŕ (.a bΑ Lq3))) (.a Lq0 lϢ) (LqIp Tx (LqIp h1.1 (LqIp h2.1 (cĳ)))) rfl,Lqi ř ø Lq0 (.a ο lϢ) mş (LqIp hh2 (LqIp h1.2 (LqIp h2.2 (cĲ)))) rfl⟩;rw[l7 z] at h1;exact rÖ;obtain q | ⟨j,jR,q⟩:=bΡ;show ha.2 z x q;have:=Ve.2 z _ q;rw[z,bR,Int.sub_zero] at this;show this
theorem qD.cut {js:Pt}(ha:cϢ)(Ve:qD s lb hb Q)(ec: qÊ)(hj: mŞ)(hl:l<=l')(Tx:lb+jl<=l')(hh:h<=h')(hh2:hb+jh<=h'):qD s l' h' P':=λw x hx=>by by_cases z:gϘ=0;have: ∃j∈js,look bτ (x - j.1)≠0:=aA λhn=>hx oϫ;let⟨j,jR,q⟩:=this;have h1:=Ve w _ q;have h2:=bÌ;exact rÖ;have:=ha w x z;exact qϙ
def qb.stood (ha:eύ)(eb: nİ)(hm:s=0 ->m=0):qb s Z (l+m) (h - m) b:=by have one: ∀x,eξ ->look a bÅ≠0:=λx hx e=>kΟ;exact mõ;have h1:=ha.1 _ (bΡ);by_cases z:s=0;have h2:=hm z;rw[z,pH] at h1 ⊢;lia;rw[bY,sB z] at h1;exact ⟨Lqi Ğ hϻ Lq2 Ņ τ h1.1 rfl,pÜ⟩;have:=ha.2 z _ (bΡ);rw[z,bR,bF] at this;show this
theorem qD.stood (ha:cϢ)(eb: oΦ):qD s (l+m) (h - m) Q:=λw x hx=>by have:=ha w (x+m) (λe=>kΟ);exact ⟨Lqi Ğ hϻ Lq2 Ņ τ ü rfl,Lqi Ğ Lq0 eŧ ς Lq1 ú rfl⟩
theorem AX {f len bl bh:Int}{js:Pt}(l0:aũ)(hs:kĭ)(hn:ms.Nodup)(hm: ∀m∈ms,bl<=m /\ m<=bh)(hj: oË): ∀j∈js,(bl<=j.1 /\ j.1<0) \/ (0<=j.1 /\ j.1<=bh - len):=λj jR=>by let⟨h,hh,e⟩:=bÌ;have H:=(Hf l0 hs hn).1.out h hh;have B:=Hg l0 hh;rw[e];unfold kl;split;rename_i z;let⟨m,h1,h2⟩:=B.1 z;have:=hm m h1;show .inl #[(by exact Lqi Ğ Lq0 Lq1 υ ο (LqIp h2 ü) rfl),z];rename_i z;let⟨m,h1,h2⟩:=B.2 (by exact Lqi [_] ø Lq0 ø Lq0 (LqIz z) rfl);have:=hm m h1;show .inr #[∅, (by exact Lqi ř Β eτ ν eï (LqIp h2 ú) rfl)]
structure rS (s p:Int)(bA:İ)(b:Pt)(Q:Pq):Prop where
 is: ∀x,bś % p=nG s bA Q x bA.length % p
 key: ∀w∈eν,0<=w /\ w< (bA.length:Int)
def LR (q js:Pt):Pt:=js.flatMap λj=>iÀ
theorem CT (q:Pt)(y:Int): ∀js:Pt,dh (LR q js) y=d6 (λsh=>dh q (aŶ)) js
 | []=>rfl
 | j::r=>by change dh lϣ y=_;rw[fL,CT q y r,cI,sQ,sR]
theorem ES (G:ş)(q:Pt): ∀js:Pt,d6 G (LR q js)=d6 (λj=>d6 (λsh=>G (sh+j)) q) js
 | []=>rfl
 | j::r=>by change d6 G lϣ=_;rw[pX,ES G q r,cI,uz, <- yh]
theorem CW {s p:Int}{bA:ì}{P P' Q:Pq}{js:Pt}(nP: mϯ)(_d: nä)(nQ: mϱ) (ep: qÊ) (x:Int): ∀n,nG s bA P' x n % p=(nG s bA P x n+d6 (λsh=>kŀ) js) % p
 | 0=>by change dώ=(0+gĔ) % p;rw[EO];rfl
 | É=>by
  have h1:=sH (p:=p) nΡ (a:=pf P' n) (b:=aŴ++LR bΤ js) λy=>by rw[fL,CT,eZ (_d n),eZ (nP n),ep,cG];congr 2;congr 1;funext sh;rw[eZ (nQ n)]
  rw[pX,ES] at h1;have e:(λsh=>nG s bA Q ŵ aÃ)=λsh=>kŀ+pð:=rfl;have e2:(λj=>d6 (λsh=>look gģ (x - s*(sh+j))) bΤ)=λsh=>pð:=by funext j;congr 1;funext sh;congr 1;rw[Int.mul_add];exact qϫ
  rw[e2] at h1;rw[nG,nG,e,sG,bu,CW nP _d nQ ep x n,h1, <- bu];congr 1;exact rÅ
theorem vG {s p m tn:Int}{bA:ì}{P Q:Pq}(nP: mϯ)(nQ: mϱ)(ep: oΦ)(x:Int): ∀n,nG s bA Q x n % p=nG s bA P bÅ n*tn % p
 | 0=>by change dώ=0*tn % p;rw[bR]
 | É=>by
  have h1:=sH (p:=p) nΡ (a:=pf Q n) (b:=tm tn (mv (-m) (aŴ))) λy=>by rw[sQ,sR,eZ (nQ n),eZ (nP n),ep,cG,Int.sub_neg]
  rw[uz, <- yh] at h1;have e2:(λsh=>look gģ (x - s*(sh+ -m)))=λsh=>look gģ (x+s*m - s*sh):=by funext sh;congr 1;rw[Int.mul_add,eh];exact LqIx (Lqi Ğ (.s Lq0 (.a Lq1 bΑ)) kÉ ø ø LqI0 rfl) (Lqi Ğ kÁ (.s Lq0 (.a Lq2 ŕ)) ø ø LqI0 rfl)
  rw[e2] at h1;rw[nG,nG,Int.add_mul,bu,vG nP nQ ep x n,h1, <- bu]
theorem rS.cut {js:Pt}(ha:fε)(hb:fζ)(nP: mϯ)(_d: nä)(nQ: mϱ)(ec: pĵ)(ep: qÊ)(hk: pĆ):rS s p bA c P':=#[λx=>by rw[ec,cG,CW nP _d nQ ep,bu,ha.is,EQ (λsh=>hb.is ŵ) js, <- bu],λw hw=>(hk w hw).elim (ha.key w) (hb.key w)]
theorem rS.stood (ha:fε)(nP: mϯ)(nQ: mϱ)(eb: nİ)(ep: oΦ)(hk: nŘ):fζ:=#[λx=>by rw[eb,cG,vG nP nQ ep,cC,ha.is, <- cC],λw hw=>ha.key w (hk w hw)]
def eT.back {js:Pt}(hc:eT s p G (aŰ))(hb:iÁ)(ec: ∀x,Ŗ=(ő+WQ.d6 lĴ js) % p):iÂ:=by exact(hc.add ((hb.d6 js).mul Î)).ext Ĺ;rw[ec,dQ];congr 1;lia
def eT.CO (hp:ϯ)(t0:0<tn)(t1:tn<p)(hb:iÁ)(eb: nİ):iÂ:=by
 let⟨u,hu⟩: ∃u:Int,tn*u % p=1:=by obtain rfl | rfl | rfl | rfl:=hp;show#[1,by rw[show tn=1 by exact LqIx (Lqi [_] Lq0 ñ ϒ ý t1 rfl) (Lqi [_] ñ Lq0 Ϣ Lq0 t0 rfl)];rfl];have:tn=1 \/ tn=2:= ∅;obtain rfl | rfl:=this;show bΥ;show bΦ;have:tn=1 \/ tn=2 \/ tn=3 \/ tn=4:= ∅;obtain rfl | rfl | rfl | rfl:=this;show bΥ;show#[3,rfl];show bΦ;show#[4,rfl];have:tn=1 \/ tn=2 \/ tn=3 \/ tn=4 \/ tn=5 \/ tn=6:= ∅;obtain rfl | rfl | rfl | rfl | rfl | rfl:=this;show bΥ;show#[4,rfl];show#[5,rfl];show bΦ;show#[3,rfl];show#[6,rfl]
 exact((hb.shift m).mul u).ext Ĺ;rw[eb,cC,cG, <- cC,show x - s*m+s*m=x by exact LqIx pĳ pĲ,Int.mul_assoc,cC,hu,du,cG]
structure fH where
 c:Int
 o:Addr
 ds:Addr
 ol:Addr
 op:Addr
 len:Int
 foot:Int
 b:Pt
 Q:Pq
def fH.adr (t:fH):ä:=bX t.ol t.op t.Q
def nq (L:í):Ų:=nś
structure w6 (S:Addr)(s p:Int)(M:Mp)(t:fH):Prop where
 ins:M t.o=some (.ins S t.ds qĊ)
 row:cZ p M t.ol t.op t.b t.Q
 lN:lϤ
structure oF (S:Addr)(s p:Int)(M:Mp)(hd:Addr)(L:ı):Prop where
 wG:M hd=iÅ
 each: ∀t∈L,eϏ
 nd:jň
 qd:oæ
 wg: ∀t∈L,hd∉t.adr
def iH (L:í)(t:fH):í:=L.map λu=>ló
def AQ (L:í)(c:Int):fI aż bô=(L.find? jË).map λt=>aŻ:=by
 have:né:=by unfold nq ly;rw[aK];rfl
 rw[this,oJ,List.find?_map];cases e:mĪ with
 | none=>rw[qċ,e];rfl
 | some t=>rw[qċ,e];rfl
theorem nY {L:í}(h:mĪ=ať):î /\ aî:=pÚ
theorem sZ {L:í}(h:mĪ=none):c∉Ε:=λhm=>by let⟨t,ht,e⟩:=bι;have:=mï;simp[e] at this
def vJ {L:í}(nd:jň)(h:î):mχ=ať:=by
 cases e:mχ with
 | none=>show absurd (ah.mpr #[t,h,rfl]) (sZ e)
 | some u=>let⟨h1,h2⟩:=nY e;rw[iy nd h1 h h2]
def ME (hc:aî)(h:c∉Ε):kF aż bô (aŻ)=nq (L++ [t]):=by
 have e1:né:=by unfold nq ly;rw[aK];rfl
 rw[e1,Bb (c:= []) (by rw[aK];show h)];unfold nq ly;rw[aO,aO,aK, <- hc];rfl
def MD (h:t.c∈Ε):kF aż (bΧ) (aŻ)=nq (iH L t):=by
 unfold kF nq iH;have e:((nś).any λq=>decide (q.1= bΧ))=true:=by rw[List.any_eq_true];let⟨u,hu,e⟩:=aϺ;show#[_,iś,by simp[e]]
 rw[Ç,aK,aK];exact fθ;change(if hń= bΧ then(hń,aŻ) else(hń,wr u.o))=((Sum.inl (ló).c:cF),wr (ló).o)
 by_cases z:bÍ;rw[am (by rw[z]),Ó,z];rw[aj (λq=>z gţ),Ô]
def pi (L:í)(t:fH):(iH L t).map aŽ=Ε:=by unfold iH;rw[aK];exact fθ;change(ló).c=u.c;by_cases z:bÍ;rw[Ó,z];rw[Ô]
def fF (h:u∈iH L t):u=t \/ (aï /\ u.c≠t.c):=by let⟨v,hv,e⟩:=aϺ;by_cases z:v.c=t.c;rw[Ó] at e;show .inl e.symm;rw[Ô] at e;subst e;show .inr #[hv,z]
theorem w6.keep (h:eϏ)(k:fK M M' F)(ho:t.o∉F)(ha: ∀x∈t.adr,x∉F):w6 S s p M' t:=#[k _ _ h.ins ho,h.row.keep k ha,h.lN]
theorem w6.nd (h:eϏ)(w:Int):((pf t.Q w).map Ć).Nodup:=(h.row.Iq w).1
theorem cZ.Si (h:Ϟ)(w:Int):lϟ:=(h.Iq w).1
def ye (h:Ϛ)(ht:î)(hu:aï)(ne:t.c≠u.c): kŁ:=by
 have sym: ∀ {L:í},L.Pairwise (mŠ) ->î ->aï ->t≠u -> kŁ:=λ{L}=>by
  induction L with
  | nil=>intro _ h;cases h
  | cons v r ih=>intro hp h1 h2 h3;let⟨q1,q2⟩:=cc.mp hp;obtain e1 | k1:=ay.mp h1;obtain e2 | k2:=ay.mp h2;show absurd ią h3;rw[e1];show q1 u k2;obtain e2 | k2:=ay.mp h2;rw[e2];show λx hx gX=>q1 t k1 x gX hx;show ih q2 k1 k2 h3
 show sym h.qd ht hu λe=>ne (by rw[e])
def Ri (s c:Int):Int:=if s=0 then 0 else c
def u8 (s Z c:Int):Nat:=if s=0 then(Z - c+1).toNat else(s - c).toNat
def zY (hd:fR)(L:í)(rl rp:fR)(P:Pq):ä:=hd::(L.flatMap (·.adr)++Ŵ)
structure Tin (R S:Addr)(s p:Int)(M:Mp)(hd r dr rl rp:Addr)(bA:İ)(a:Pt)(P:Pq)(L:ı):Prop where
 ins:pÝ
 held:Ϛ
 row:Ϟ
 qd: ∀t∈L, ∀x∈Ŵ,x∉t.adr
 wg:hd∉Ŵ
 md:fε
 vX: lŻ
def rS.len (h:fζ)(nd:jĽ):Q.length<=bA.length:=by have:=gO (l:=yN 0 bA.length) nd λk hk=>mM.mpr (by have:=h.key k hk;exact qŴ);rw[aa] at this;unfold yN at this;rw[aa,cx] at this;show this
structure rT (s Z E EP:Int)(t:fH):Prop where
 bx:qb s Z E E t.b
 len:t.len<=E
 bp:qD s EP EP t.Q
def MW (R S:fR):ik:=λxs M q=>E1 λ(hd r dr rl rp:fR) dϏ=>OJ λ(K w KP:Int) cϣ aœ (P:Pq) (L:í)=>p9 (xs= [Í,Ì,wr hd,wr r]) ϰ aŞ aŭ (nŜ) aŮ (0<=K) (p9 (0<=w) (0<=KP) (hŅ) (Z+8*(2*(w+16*K)+2*K+2) <=aŵ) (KP+10*(w+18*K) <=900000) hņ (L.length<=1000) (gy (qb s Z w w a) (qD s KP KP P) (∀t∈L,rT s Z K KP t) (∀M' L',oF S s p M' hd L' ->fK M M' (gϳ) ->(∀t∈L', ∀x∈t.adr,x∈gϳ \/ bθ) ->(∀f,mī ->eT s p (L'.map až) f) ->(∀t∈L',iÆ) ->(∀t∈L',rT s Z (2*(bÎ)) (KP+(s+1)*fι) t) ->L'.length<=L.length+1 ->(∀c∈Ε,c∈L'.map aŽ) ->aϦ)))
section
variable {s Z K w KP c c2 dr:Int}{a c1:Pt}{P P1:Pq}{L:í}{t:fH}
def eA (s K w c:Int):Int:=w+2*K*Ri s c
def eP (s K w KP c:Int):Int:=KP+Ri s c*fι
structure uL (s Z K w KP:Int):Prop where
 s0:Ñ
 k0:0<=K
 w0:0<=w
 Xp:0<=KP
 yD:hŅ
theorem uL.E0 (h:Ν):0<=2*K*s:=cP (by have:=h.k0;exact pϨ) h.s0
def uL.step (h:Ν)(hc:c<c2):gĤ<=eA s K w c2:=by unfold eA Ri;by_cases z:s=0;have:=aſ;rw[Ó,Ó];exact qο;rw[Ô,Ô];have:=bj pϹ qś;rw[Int.mul_add,du] at this;exact qï
def uL.top (h:Ν)(hc:gĥ):gĤ<=bÎ:=by unfold eA Ri;by_cases z:s=0;have:=aſ;rw[Ó,z];exact qο;rw[Ô];have:=bj aγ qś;rw[Int.mul_add,du] at this;exact qï
def uL.low (h:Ν)(hc:eϒ):w<=cϤ:=by unfold eA Ri;by_cases z:s=0;rw[Ó];lia;rw[Ô];have:=cP qś aγ;exact oŧ
def uL.We (h:Ν)(hc:c<c2):lϥ<=eP s K w KP c2:=by unfold eP Ri;by_cases z:s=0;have:=aſ;rw[Ó,Ó,z];lia;rw[Ô,Ô];have h0:=h.E0;have:=a6 pϹ oϖ;rw[Int.add_mul,Int.one_mul] at this;exact qτ
def uL.aaJ (h:Ν)(hc:gĥ):lϥ<=iŧ:=by unfold eP Ri;by_cases z:s=0;have:=aſ;rw[Ó,z];lia;rw[Ô];have h0:=h.E0;have:=a6 aγ oϖ;rw[Int.add_mul,Int.one_mul] at this;exact qτ
def uL.lowP (h:Ν)(hc:eϒ):KP<=fμ:=by unfold eP Ri;by_cases z:s=0;rw[Ó];exact Lqi ř Lq0 (.a Lq0 (.m 0 (.a ο cϦ))) ø ø LqI0 rfl;rw[Ô];have h0:=h.E0;have:=cP aγ oϖ;exact oŧ
def uL.KY (h:Ν):K<=bÎ:=by by_cases z:s=0;have:=aſ;rw[z];lia;have:=bj (show 1<=s by have:=h.s0;exact Lqi [_] ñ Lq0 Ϣ Lq0 kΡ rfl) qś;have:=h.w0;have:=h.k0;lia
def uL.Zh (h:Ν):KP<=iŧ:=by have h0:=h.E0;have:=cP h.s0 oϖ;exact oŧ
theorem rT.up {E EP E' EP':Int}(h:fν)(h1:E<=E')(h2:EP<=EP'):rT s Z E' EP' t:=#[h.bx.up h1 h1,by have:=h.len;exact Lqi Ğ Lq0 Lq1 υ ο gġ rfl,h.bp.up h2 h2]
structure Y_ (s Z K w KP c:Int)(a:Pt)(P:Pq)(L:ı):Prop where
 bx:qb s Z (cϤ) (cϤ) a
 bp:qD s (fμ) (fμ) P
 ge: ∀u∈L,c<=u.c ->fξ
 lt: pþ
structure OO (s Z K w KP c dr:Int)(a:Pt)(P:Pq)(L:ı)(t:fH):Prop where
 mem:î
 at_:aî
 shr:t.len<dr
 dk:dr<=K
 col: ∀x,bΓ ->eό ->cĨ /\ Ē<=dr
 bx:qb s Z kÊ kÊ a
 bt:qb s Z (kł) kÊ t.b
 bp:qD s nĘ nĘ P
 bq:qD s (nĲ) nĘ t.Q
 gt: mš
 lt: pþ
structure CI (s Z K w KP c:Int)(c1:Pt)(P1:Pq)(t:fH)(la lp:Int):Prop where
 bx:qb s Z la la c1
 bp:qD s lp lp P1
 low: pĈ
variable {p:Int}{js:Pt}{ms:ā}
def Y_.cut (h:Ν)(ph:kË)(B8:eϒ)(TM:gĥ)(ht:î)(e:aî)(l0:0<=t.len)(ga:aš) (qc:kΤ) (QF:kĭ) (QN: oŃ) (ej:kı) (ec: pŖ) (ep: qÙ) (low: pĈ): CI s Z K w KP c c1 P1 t (cϤ+K) (fμ+cϤ):=by
 have f:=ph.ge t ht (by exact Lqi Û Lq0 Lq1 Lq0 Lq1 Ő rfl);have hw:=h.low B8;have hk:=h.lowP B8;have w0:=h.w0;have k0:=h.k0;have hj:=AX (f:=c) (bl:= -(cϤ)) (bh:=cϤ) l0 QF në (λm hm=>by let⟨x,hx,e1⟩:=lô;have:=ph.bx.1 x qŽ;exact ⟨Lqi Ğ Ņ Lq1 (.a Lq2 Ņ) ο kΥ rfl,pΩ⟩) QN;have LH: ∀j∈js, -(cϤ) <=j.1 /\ j.1<=cϤ:=λj jR=>by have:=bÌ;lia
 show#[ph.bx.cut f.bx ec LH ej pñ pν pñ pν,ph.bp.cut f.bp ep LH qÞ pŗ qÞ pŗ,low]
def OO.cut (h:Ν)(ph:lż)(l0:0<=t.len)(ga:aš) (qc:kΤ) (QF:kĭ) (QN: oŃ) (ej:kı) (ec: pŖ) (ep: qÙ) (low: pĈ): CI s Z K w KP c c1 P1 t (kł) (nĲ):=by
 have q:=ph.shr;have hj:=AX (f:=c) (bl:=0) (bh:=dr) l0 QF në (λm hm=>by let⟨x,hx,e1⟩:=lô;have:=ph.col x hϰ qŽ;exact ⟨pϟ,pΩ⟩) QN;have LH: ∀j∈js, -0<=j.1 /\ j.1<=dr - t.len:=λj jR=>by have:=bÌ;lia
 show#[ph.bx.cut ph.bt ec LH ej qŉ (by exact Lqi Ğ (.a mö ø) mö ø ø LqI0 rfl) qŉ (by exact Lqi ř (.a mö eŹ) mø ø ø LqI0 rfl),ph.bp.cut ph.bq ep LH qϕ (by exact Lqi Ŷ (.a oŨ ø) oŨ ø ø LqI0 rfl) qϕ (by exact Lqi Ι (.a oŨ eϔ) oũ ø ø LqI0 rfl),low]
def CI.on (h:Ν)(d:mĬ)(U6:la<=gĤ)(hlp:lp<=lϥ)(hc:c<c2)(GJ: mš)(gu: pþ)(yF: pÿ):Y_ s Z K w KP c2 c1 P1 L:=by have h1:=h.step hc;have h2:=h.We hc;exact#[d.bx.up qŃ qŃ,d.bp.up qϖ qϖ,λu hu Oa=>GJ u hu (by exact Lqi Ğ ϒ Lq1 lÝ τ (LqIp hc Oa) rfl),λu hu Oa=> ?_];obtain q | q | q:=kΧ;show gu u hu q;show yF u hu q;show lõ
def CI.turn (d:mĬ)(U6:la<=kł)(hlp:lp<=nĲ)(tk:t.len<=K)(N:Mn s c m tt c1)(ga:GD p c1)(d_:t'.len=tt - m)(Vd:t'.c=c)(lN:Cy s p t.b c t.len t.foot)(hm0:s=0 ->m=0)(hbt:qb s Z (kł) (kł) t.b)(hbq:qD s (nĲ) (nĲ) t.Q)(eb: ∀x,dϐ=look c1 bÅ*tn % p)(eq: ∀w x,iŨ=look (pf P1 w) (x+m)*tn % p)(GJ: mš)(gu: pþ)(vb:t'∈bÏ):OO s Z K w KP c t.len t.b t.Q (bÏ) t':=by
 have hb: ∀h∈pC s c (fg c1),0<=h /\ h<t.len:=λh hh=>by let⟨x,hx,e1⟩:=ah.mp hh;have:=d.low x hϰ qŽ;exact ⟨pϟ,Lqi Ğ ϒ Lq1 kϝ τ kΦ rfl⟩
 have h1:=hb _ N.lo;have h2:=hb _ N.hi;have h3:=dΔ;have b1:=d.bx.stood eb hm0;have b2:=d.bp.stood (s:=s) eq;exact#[vb,Vd, (by exact Lqi ř ϒ Lq1 (.a Lq0 (.a ø ϓ)) (.a eŹ eë) (LqIp (LqIe d_) hň) rfl),tk,λx hx c6=>lN.ug x c6 hx,hbt,b1.up (by exact Lqi ϖ μ mù (.a Lq0 (.a Lq4 gϮ)) (.a (.s jÎ Lq6) (.a (.s Lq5 Lq1) Lq6)) (LqIp U6 kÌ) rfl) (by exact Lqi Ŷ Β mù ϕ (.a mù Lq1) (LqIp U6 h1.1) rfl),hbq,b2.up (by exact Lqi [_,_,_,_,_,_,_,_,_] μ oŪ (.a Lq0 (.a Lq6 (.a Lq7 ñ))) (.a (.s nž Lq8) (.a (.s Lq7 Lq1) Lq8)) (LqIp hlp kÌ) rfl) (by exact Lqi ϖ Β oŪ ϕ (.a oŪ Lq1) (LqIp hlp h1.1) rfl),λu hu ug=> ?_,λu hu hl=> ?_];obtain e | ⟨e,_⟩:=að;rw[e,Vd] at ug;lia;show GJ u e ug;obtain e | ⟨e,_⟩:=að;rw[e,Vd] at hl;lia;show gu u e hl
universe e
structure TC (R S:Addr)(s p:Int)(bA:İ)(M0:Mp)(F0:cÔ)(G0:İ)(L0:ı)(hd:Addr)(M:Mp)(r dr rl rp:Addr)(a:Pt)(P:Pq)(L:ı):Prop where
 lG:nŜ
 kp:fK M0 M F0
 fr: ∀t∈L, ∀x∈t.adr,jÏ
 Yy: ∀x∈Ŵ,jÏ
 sp: ∀f,dϑ ->mī
 len:L.length=L0.length
 key:Ε=fο
def fK.free (k:fK M0 M F)(h:bθ):x∈F \/ cķ:=by
 cases e:M0 x with
 | none=>show ĺ
 | some u=>exact .inl (eΔ);rw[k x u e hn] at h;cases h
theorem yg (row:Ϟ)(h:kŃ):x∉Ŵ:=λhx=>by let⟨kvs,e⟩:=cϧ;rw[h] at e;cases e
def TC.cut {M0 M M2:Mp}{js:Pt}(tc:oź)(ht:î)(ni:cZ p M2 rl rp c1 P1)(ec: pŖ)(ep: qÙ)(kp:fK M M2 (Ŵ))(fr: ∀x∈bX rl rp P1,gČ \/ bθ)(hk: ∀w∈P1.map Ć,hİ \/ iũ): TC R S s p bA M0 F0 G0 L0 hd M2 r dr rl rp c1 P1 L:=by let⟨ins,gA,row,qd,wg,md,vX⟩:=tc.lG;have st:=eϕ;exact#[#[kp _ _ ins (yg row ins),#[kp _ _ gA.wG wg,λu hu=>(eϖ).keep kp (yg row (eϖ).ins) (λx hx gX=>qd u hu x gX hx),gA.nd,gA.qd,gA.wg],ni,jÐ,λhx=> ?_,md.cut (vX t ht) row.Si ni.Si st.nd ec ep hk,vX],tc.kp.trans kp tc.Yy,tc.fr,ź,dϒ,tc.len,tc.key];obtain z | z:=bÐ;show qd u hu x z gX;let⟨kvs,e⟩:=lĺ;rw[z] at e;cases e;obtain z | z:=fr hd hx;show wg z;rw[gA.wG] at z;cases z;obtain z | z:=bÐ;show tc.Yy x z;show tc.kp.free z;exact mŢ;obtain hb | hb:=bΨ;show lö;rw[Ŕ];show eT.back (nę) (eT.of (au.mpr (.inl (iř)))) ec
def TC.sm {M0 M M2:Mp}(tc:oź)(sm:aϢ):TC R S s p bA M0 F0 G0 L0 hd M2 r dr rl rp a P L:=by let⟨i1,i2,i3,i4,i5,i6,i7⟩:=tc.lG;show#[#[sm _ _ i1,qţ,i3.keep fπ kÍ,i4,i5,i6,i7],tc.kp.trans fπ jÒ,tc.fr,tc.Yy,tc.sp,tc.len,tc.key]
def oR (h:t'.c∈Ε):t'∈bÏ:=by let⟨u,hu,e⟩:=aϺ;show ah.mpr #[u,hu,Ç]
theorem mD (h:aï)(ne:u.c≠t'.c):u∈bÏ:=ah.mpr #[u,h,aj ne]
def HG (nd:jň)(h:oæ)(hf: nì):(bÏ).Pairwise mŠ:=by unfold iH;rw[cB];have Xc:lϦ:=cB.mp nd;exact(List.pairwise_and_iff.mpr #[h,Xc] |>.imp_of_mem λ{u v} hu hv q=> ?_);by_cases z:bΩ;rw[Ó];by_cases y:v.c=t'.c;show lϧ;rw[aj y];show hf v hv;rw[Ô];by_cases y:v.c=t'.c;rw[am y];show λx hx gX=>hf u hu x gX hx;rw[aj y];show q.1
def TC.turn (hp:ϯ)(tc:oź)(Va:hd∈F0)(ht:î)(hc:t'.c=t.c)(sm:bÑ)(ins:qπ)(Fh:mĭ)(lN:mψ)(t0:0<tn)(t1:tn<p)(eb: nΥ)(eq: pÁ)(fr: mú)(hk: nϭ)(hD:D=nq (bÏ))(nO:um M3 hd (.dK D) r'=none): TC R S s p bA M0 F0 G0 L0 hd (um iŪ r' oΧ) r' dx t.ol t.op t.b t.Q (bÏ):=by
 subst hD;let⟨_,gA,row,qd,wg,md,vX⟩:=tc.lG;have _E:hd≠r':=cT av nO;have Ti:M3 r'=none:=by rw[aE (aZ _E)] at nO;show nO
 have TJ:=sm _ _ gA.wG;have UV:fK M (um mω r' oΧ) [hd]:=λd o e nd=>by have e3:=bϊ;rw[aE (cT e3 Ti),kΨ];show e3
 have UW: ∀ {d o},M3 d=Ą ->d≠hd ->um mω r' oΧ d=Ą:=λe ne=>by rw[aE (cT e Ti),aE ne];show e
 have T8: lž:=λx hx e=>by have:=bÐ;rw[e,gA.wG] at this;cases this
 have st:=eϕ;have SR: oΨ:=λe hx=>by rw[bñ,gA.wG] at e;cases e
 have ij:t'.c∈Ε:=by rw[hc];show iř
 have aeq: ∀u∈L,bΩ ->u=t:=λu hu e=>iy gA.nd hu ht (e.trans hc);have _O: nì:=λu hu x hx gX=>by let⟨kvs,e⟩:=lĺ;rw[gĦ] at e;cases e
 exact#[#[av,#[by rw[aE _E];show av,ſ,by rw[pi];show gA.nd,HG gA.nd gA.qd _O,għ],st.row.keep UV λx hx gX=>gA.wg t ht mΑ,jÐ,gA.wg t ht,vX t ht,ſ],pà,hŊ,tc.fr t ht,dϒ,by unfold iH;rw[aa];show tc.len,by rw[pi];show tc.key];obtain e | ⟨e,_⟩:=að;rw[e];exact#[UW ins (T8 _ aQ),jÓ,lN];let⟨kvs,e2⟩:=Fh.mem nr;rw[UW e2 hŋ,e2];show qĤ;obtain e | ⟨e,_⟩:=að;rw[e] at hx;show jÔ;show eϘ;obtain e | ⟨e,ne⟩:=að;rw[e] at gX;show _O t ht x gX hx;show ye gA ht e (λz=>ne (by rw[hc,z])) x hx gX;obtain e | ⟨e,_⟩:=að;rw[e];show mţ;show vX u e;obtain e | ⟨e,_⟩:=að;rw[e] at hx;show lϨ;show gĨ;exact mŢ;have wj:eT s p ((bÏ).map až++ [t.b]) (look t'.b):=eT.of (au.mpr (.inl (ah.mpr #[t',oR ij,rfl])));obtain hb | hb:=bΨ;let⟨u,hu,rfl⟩:=bΚ;by_cases z:bΩ;rw[aeq u hu z];show nę;show eT.of (au.mpr (.inl (ah.mpr #[u,mD hu z,rfl])));rw[Ŕ];show eT.CO hp t0 t1 wj eb
def TC.new (hp:ϯ)(tc:oź)(Va:hd∈F0)(hc:t'.c∉Ε)(sm:bÑ)(ins:qπ)(Fh:mĭ)(lN:mψ)(t0:0<tn)(t1:tn<p)(eb: nΥ)(eq: pÁ)(fr: mú)(hk: nϭ)(hD:D=nq (bϋ)): oF S s p iŪ hd (bϋ) /\ fK M0 iŪ F0 /\ (∀u∈bϋ, ∀x∈u.adr,jÏ) /\ (∀f,dϑ ->eT s p ((bϋ).map až) f) /\ (∀u∈bϋ,rS s p bA u.b u.Q):=by
 subst hD;let⟨_,gA,row,qd,wg,md,vX⟩:=tc.lG;have UV:fK M (um M3 hd (.dK (nq (bϋ)))) [hd]:=λd o e nd=>by rw[kΨ];show bϊ
 have T8: lž:=λx hx e=>by have:=bÐ;rw[e,gA.wG] at this;cases this
 have SR: oΨ:=λe hx=>by rw[bñ,gA.wG] at e;cases e
 have _O: nì:=λu hu x hx gX=>by let⟨kvs,e⟩:=lĺ;rw[gĦ] at e;cases e
 have one: ∀u∈bϋ,aï \/ u=t':=λu hu=>(bξ).imp id ag.mp;exact#[#[av,ſ,?_,?_,għ],pà,hŊ,dϒ,ſ];obtain e | e:=bό;show qĤ;rw[e];exact#[by rw[aE (T8 _ aQ)];show ins,jÓ,lN];rw[aE hŋ];rw[aO];show List.nodup_append.mpr #[gA.nd,by simp,λx hx y hy e=>hc (by rw[List.map_singleton] at hy;rw[<- ag.mp hy, <- e];show hx)];exact cU.mpr #[gA.qd,List.pairwise_singleton _ _,λu hu v hv x hx gX=> ?_];rw[ag.mp hv] at gX;show _O u hu x gX hx;obtain e | e:=bό;show eϘ;rw[e] at hx;show jÔ;obtain e | e:=bό;show gĨ;rw[e] at hx;show lϨ;exact mŢ;rw[aO];obtain hb | hb:=bΨ;show lö;rw[Ŕ];show eT.CO hp t0 t1 (nę) eb;obtain e | e:=bό;show vX u e;rw[e];show mţ
def fW (s:Int)(a:Pt):W:=if bύ then wn else wi (kĳ)
def mz (s Z K c:Int)(q:Nat):Nat:=bώ*dϔ+q
def Ph (s Z K w KP:Int)(m:Nat)(a:Pt)(P:Pq)(L:í):Prop:=(bύ -> oξ) /\ (Ò≠ [] -> ∃c,c=kĳ /\ ((kË /\ m=mz s Z K c (K.toNat+1)) \/ c7 λt dr=>lż /\ m=mz s Z K c t.len.toNat))
def Mz (h:c<c2)(h1:gĥ)(h2:s=0 ->c<=Z):u8 s Z c2<bώ:=by unfold u8;by_cases z:s=0;have:=h2 z;rw[Ó,Ó];lia;have:=h1 z;rw[Ô,Ô];lia
def Xg (h:u8 s Z c2<bώ)(hq:q2<=K.toNat+1):mz s Z K c2 q2<mz s Z K c q:=by unfold mz;have:=Nat.mul_le_mul_right dϔ (show u8 s Z c2+1<=bώ from h);rw[Nat.add_mul,Nat.one_mul] at this;exact Lqj Ŷ ϫ ξ (.a Lq1 (.a (.a Lq0 (.a Lq4 ý)) ø)) (.a gś ξ) (LqNp hq mĩ) rfl
theorem OH {L:í}(h:Ν)(GJ: mš)(gu: pþ)(yF: pÿ): oξ:=λu hu=>by obtain q | q | q:=kΧ;show gu u hu q;show yF u hu q;show lõ
theorem MP (h:bύ):a= []:=List.map_eq_nil_iff.mp h
theorem Cy.lit (h:iϻ)(hp:1<p):bω≠0:=λe=>by have:=h.bot;rw[e,bR,Int.zero_emod] at this;cases this
def Ua (h:iϻ)(hp:1<p)(g:GD p b):fW s b=wi f /\ fg b≠ [] /\ lø:=by
 have hm:=eE (h.lit hp);have c6:fg b≠ []:=λe=>by rw[e] at hm;cases hm
 have e:lø:=ja.uniq #[ah.mpr #[f,hm,h.ok.own],λx hx=>by let⟨y,hy,rfl⟩:=bΔ;show h.ge y (by have:=fo g hy;exact qÝ)] (gB ⇑c6);show#[by rw[e];show aj c6,c6,e]
def JO (bx:eύ)(g:aš)(hm:hϲ): -l<=m /\ m<=h:=by let⟨x,hx,e⟩:=bι;rw[<- e];show bx.1 x (by have:=fo g eψ;exact qÝ)
def QC (hm:hϲ)(z:s=0):m=0:=by let⟨x,hx,e⟩:=bι;rw[<- e,z];show pH x
def uj (hu:M u=some kń)(hl:kΩ)(s0:Ñ)(s8:s<=8)(h:F (fW s a) M):Am IJ [wr u,Ì] M F:=by unfold fW at h;show#[u,Ò,s,rfl,hu,hl,s0, ∅,λe=>by rwa [Ç] at h,λe=>by rwa [È] at h]
def fH.GR (u:fH)(b:Pt)(Q:Pq):fH:=#[u.c,u.o,u.ds,u.ol,u.op,u.len,u.foot,b,Q]
structure LL (S:Addr)(s p:Int)(bA:İ)(M0:Mp)(L0:ı)(hd:Addr)(M:Mp)(L:ı):Prop where
 held:Ϛ
 vX: lŻ
 kp:fK M0 M (jÕ)
 fr: ∀t∈L, ∀x∈t.adr,x∈jÕ \/ cķ
 sp: ∀f,eT s p (L0.map až) f ->kϊ
 key:Ε=fο
 ln: ∀t∈L, ∀u∈L0,t.c=u.c ->t.len=u.len
section
variable {S:fR}{s p:Int}{bA:ì}{M0 M M2:Mp}{L0 L:í}{hd:fR}{c1:Pt}{P1:Pq}{js:Pt}{u t:fH}
def Cy.aeu (h:iϻ)(hf:f<fc)(e: ∀x,đ<fc ->cĶ=bś):Cy s p c1 f len foot:=by have at_: ∀k,look c1 (f+k*s)=look b (f+k*s):=λk=>e _ (by rw[h.ok.on];show hf);exact#[h.ok,h.l0,h.s0,ź,gē,by rw[at_];show h.top,?_,h.ft];obtain q | q:=d5 bŻ fc;show h.ge x (by rw[<- e x q];show hx);exact Lqi Ğ Lq0 Lq1 lÝ τ (LqIp hf q) rfl;show h.ug x (by rw[<- e x (by exact Lqi Ğ ϒ Lq1 lÀ ο (LqIp hf ((LqIe hc))) rfl)];show hx) hc;have:=at_ 0;rw[bR,bF] at this;rw[this];show h.bot
def J6 (hu:aï)(nd:jň)(hc:u'.c=u.c)(ho:u'.o=u.o):nq (iH L u')=nq L:=by
 unfold nq iH;rw[aK];exact bI dγ;change((Sum.inl (lſ).c:cF),wr (lſ).o)=((Sum.inl v.c:cF),wr v.o)
 by_cases z:v.c=u'.c;rw[Ó];have:v=u:=iy nd hv hu (z.trans hc);rw[this,hc,ho];rw[Ô]
def LL.cut (ll:lù)(hu:aï)(ht:î)(gu:u.c<t.c)(ni:cZ p M2 u.ol u.op c1 P1)(ec: ∀x,cĶ=(look u.b x+nê) % p) (ep: ∀w x,hŇ=(look (pf u.Q w) x+nΤ) % p) (el: ∀x,đ<t.c ->cĶ=look u.b x) (kp:fK M M2 u.adr) (fr: ∀x∈gϵ,x∈u.adr \/ bθ) (hk: ∀w∈P1.map Ć,w∈u.Q.map Ć \/ iũ): LL S s p bA M0 L0 hd M2 (iH L (cϨ)):=by
 let⟨gA,vX,Xp,yG,sp,key,ln⟩:=ll;have su:=eϖ;have st:=eϕ;have ij:u.c∈Ε:=iś;have Xe: ∀v∈L,v.c≠u.c -> ∀x∈gϵ,x∉v.adr:=λv hv ne x hx gX=>by obtain z | z:=bÐ;show ye gA hu hv (aZ ne) x z gX;let⟨kvs,e⟩:=(gA.each v hv).row.mem gX;rw[z] at e;cases e
 exact#[#[by rw[J6 (u':=cϨ) hu gA.nd rfl rfl];show kp _ _ gA.wG (gA.wg u hu),dγ,by rw[pi];show gA.nd,?_,λv hv hx=> ?_],dγ,Xp.trans kp λx hx=>yG u hu x hx,λv hv x hx=> ?_,dϒ,by rw[pi];show key,λv hv w hw e=> ?_];obtain e | ⟨e,ne⟩:=fF hv;rw[e];show#[kp _ _ su.ins (yg su.row su.ins),ni,su.lN.aeu gu el];show(dϕ).keep kp (yg su.row (dϕ).ins) λx hx gX=>ye gA e hu ne x hx gX;unfold iH;rw[cB];have Xc:lϦ:=cB.mp gA.nd;exact(List.pairwise_and_iff.mpr #[gA.qd,Xc] |>.imp_of_mem λ{v w} hv hw q=> ?_);by_cases z:v.c=u.c;rw[am (show v.c=(cϨ).c from z)];by_cases y:w.c=u.c;show lϧ;rw[nſ];show Xe w hw y;rw[aj (show ¬v.c=(cϨ).c from z)];by_cases y:w.c=u.c;rw[am (show w.c=(cϨ).c from y)];show λx hx gX=>Xe v hv z x gX hx;rw[nſ];show q.1;obtain e | ⟨e,_⟩:=fF hv;rw[e] at hx;obtain z | z:=fr hd hx;show gA.wg u hu z;rw[gA.wG] at z;cases z;show gA.wg v e hx;obtain e | ⟨e,_⟩:=fF hv;rw[e];show(vX u hu).cut (vX t ht) su.nd ni.Si st.nd ec ep hk;show vX v e;obtain e | ⟨e,_⟩:=fF hv;rw[e] at hx;obtain z | z:=bÐ;show yG u hu x z;show Xp.free z;show yG v e x hx;exact(sp f hf).trans Ÿ;let⟨v,hv,rfl⟩:=bΚ;have h1:eT s p mϲ (look c1):=eT.of (ah.mpr #[_,oR ij,rfl]);have h2:eT s p mϲ (look t.b):=eT.of (ah.mpr #[t,mD ht (show t.c≠u.c by exact λe=>Lqf Û Ϯ π (LqIp gu ŭ) rfl),rfl]);by_cases z:v.c=u.c;rw[iy gA.nd hv hu z];show eT.back h1 h2 ec;show eT.of (ah.mpr #[v,mD hv z,rfl]);obtain e2 | ⟨e2,_⟩:=fF hv;rw[e2] at e ⊢;show ln u hu w hw e;show ln v e2 w hw e
def OZ (s c E:Int)(b:Pt):Prop:= ∀x,bΓ ->eξ -> -E<=Ē /\ Ē<=E
def rH (s c len:Int)(b:Pt):Prop:= ∀x,bΓ ->eξ ->kΖ
theorem OZ.cut (ha:OZ s c E a)(hb:rH s c lt b)(ec: ∀x,cĶ=oŦ)(hj: mŞ)(LI:kı)(h1:E<=E')(h2:jl<=E')(h3:lt+jh<=E'):OZ s c E' c1:=λx hx c6=>by by_cases z:ő=0;let⟨j,jR,q⟩: mϰ:=aA λhn=>c6 oϫ;have h4:=hb dύ (by rw[iF];show hx) q;have h5:=bÌ;by_cases y:s=0;have h6:=LI y j jR;rw[y,pH] at h4 ⊢;exact ⟨Lqi ř Ņ ø pĉ mş oŔ rfl,Lqi ř ø Lq0 pĉ mş oŔ rfl⟩;rw[l7 y] at h4;exact ⟨Lqi ř Ņ Lq1 (.a Lq2 (.a ø bΑ)) (.a Lq0 (.a eΞ Lq3)) (LqIp h2 (LqIp h4.1 h5.1)) rfl,Lqi Ŷ Lq0 Lq1 (.a ξ (.a (.a eώ ñ) Lq4)) jŨ (LqIp h3 (LqIp h4.2 h5.2)) rfl⟩;have:=ha x hx z;exact ⟨Lqi Ğ Ņ Lq1 hϮ μ (LqIp h1 ü) rfl,Lqi Ğ Lq0 Lq1 υ ο (LqIp h1 ú) rfl⟩
universe e
def hV (L:í)(c:Int):Int:=match mĪ with
 | ať=>t.len
 | none=>0
def DM (nd:jň)(h:î):hV L t.c=t.len:=by unfold hV;rw[vJ nd h]
def kS (l:ā):Int:=l.foldr (· + ·) 0
def oQ (h: fς): ∀k,0<=kS (bõ) /\ kS (bõ) <=kS l:=by
 induction l with
 | nil=>intro k;simp[kS]
 | cons a r ih=>
  intro k;cases k with
  | zero=>
   have:=(ih (kÎ) r.length)
   rw[bJ] at this;have:=aδ;change 0<=ĝ /\ ĝ <=aε;lia
  | succ k=>have:=ih (kÎ) k;have:=aδ;change 0<=g϶ /\ g϶ <=aε;lia
def HD (l:ā)(a:Int):kS (l++ [a])=kS l+a:=by
 induction l with
 | nil=>change a+0=0+a;exact LqIx (Lqi [_] ϕ ϗ ø ø LqI0 rfl) (Lqi [_] ϗ ϕ ø ø LqI0 rfl)
 | cons b r ih=>change b+kS (r++ [a])=b+kS r+a;rw[ih];exact qϩ
def HE (h: fς)(k:Nat):kS (bö) <=kS l:=by
 induction l generalizing k with
 | nil=>simp
 | cons a r ih=>
  cases k with
  | zero=>show Ï
  | succ k=>have:=ih (kÎ) k;have:=aδ;change kS (r.drop k) <=aε;lia
def y_ (h:a.Perm b):kS a=kS b:=by
 induction h with
 | nil=>rfl
 | cons x _ ih=>change x+_=x+_;rw[show List.foldr (· + ·) 0 _=kS _ from rfl,ih];rfl
 | swap x y l=>change y+(x+kS l)=x+(y+kS l);exact LqIx pϺ pϺ
 | trans _ _ h1 h2=>show h1.trans h2
def Jg {L:í}(nd:jň):(Ε).map aζ=L.map bϏ:=by rw[aK];show bI λt ht=>DM nd ht
def LL.sm {M0 M M2:Mp}(h:lù)(sm:aϢ):LL S s p bA M0 L0 hd M2 L:=by let⟨i2,i3,i4,i5,i6,i7,i8⟩:=h;show#[qţ,i3,i4.trans fπ jÒ,i5,i6,i7,i8]
theorem LL.init (h:Ϛ)(md: lŻ):LL S s p bA M L hd M L:=#[h,md,λd o e _=>e,λt ht x hx=> nΦ,λf hf=>hf,rfl,λt ht u hu e=>by rw[iy h.nd ht hu e]]
def LL.hV (h:lù)(nd:(fο).Nodup)(ht:î):t.len=hV L0 t.c:=by
 have:t.c∈fο:=by rw[<- h.key];show iř
 let⟨u,hu,e⟩:=ah.mp this;rw[<- e,DM nd hu];show h.ln t ht u hu e.symm
def LL.get {S:fR}{s p:Int}{bA:ì}{M0 M:Mp}{L0 L:í}{hd:fR}(h:lù){c:Int}(hc:c∈fο): ∃t∈L,aî:=by rw[<- h.key] at hc;show bΟ
def AO (nd:jň)(h:î):nĚ:=by rw[AQ,vJ nd h];rfl
def KA (l:Ë)(k:Nat):Cg l (some (ĩ:Int)) none=bö:=by unfold Cg;rw[HT.HJ,HT.Mv];obtain h | h:=Nat.le_total k l.length;rw[Nat.min_eq_left h,List.take_of_length_le (by rw[List.length_drop];show Á)];rw[Nat.min_eq_right h,List.drop_length,List.take_nil,List.drop_of_length_le h]
def jk {cs:ā}(h:kÐ){i j:Nat}(hi:gĩ)(hj:gĪ)(iE:i<j):a<b:=by let⟨g1,g2⟩:=bď;let⟨g3,g4⟩:=bψ;rw[<- g2, <- g4];show bS.mp h i j g1 g3 iE
def FM {cs:ā}(h:kÐ){i j:Nat}(hi:gĩ)(hj:gĪ)(J_:a<b):i<j:=by obtain q | q | q:=Nat.lt_trichotomy i j;show q;subst q;rw[hi] at hj;cases hj;lia;have:=jk h hj hi q;lia
def MY (R S:fR):ik:=λxs M q=>E1 λ(hd:fR) (p s Z E EP Λ:Int) cϣ=> ∃ (L:í),p9 (xs= [Í,Ì,wr hd]) ϰ aŞ aŭ (Ϛ) (lŻ) (∀t∈L,fν) (p9 aŮ (0<=E) (0<=EP) hņ (L.length<=13) (jÖ <=Λ) (Z+8*(E+14*(E+Λ)+1) <=Ĥ) (EP+14*(E+Λ) <=Ĥ /\ ∀M' L',LL S s p bA M L hd M' L' ->(∀t∈L', ∀u∈L',mû) ->(∀t∈L',qb s Z (E+gϷ) (E+gϷ) t.b /\ qD s (EP+gϷ) (EP+gϷ) t.Q) ->aϦ))
def gP (p0:0<p)(g:GD p b)(x:Int):look (lH p b) x=bś:=by rw[jD p0,eZ g.1,dR p0 g]
def C7 {t:fH}(hp:1<p)(g:GD p t.b)(h:lϤ)(w:Wt D t.b):mĮ:=by have p0:0<p:= pΔ;have e:=gP p0 g;have gn:=n_ (gH p0 t.b);exact#[gH p0 _,h.ok,h.l0,h.s0,λx hx=>h.ge x ?_,λx hx hc=>h.ug x ?_ hc,eE (by rw[e];show h.lit hp),by rw[e];show h.top,λx hx=>w x (by rw[<- e];show hx)];have:=fo gn hx;rw[e] at this;exact qÝ;have:=fo gn hx;rw[e] at this;exact qÝ
structure Ord (L Ls:ı):Prop where
 perm:Ls.Perm L
 Fj:Ls.Pairwise λa b=>a.c<b.c
def tJ (L:í)(nd:jň): ∃Ls,bϑ:=by exact#[nŝ,List.mergeSort_perm _ _,?_];have h1:=List.pairwise_mergeSort (le:=λa b:fH=>iÈ) (λa b c h1 h2=>by simp![cQ] at*;exact pŏ) (λa b=>by simp![Bool.or_eq_true,cQ];lia) L;have h2:((nŝ).map aŽ).Nodup:=((List.mergeSort_perm L _).map aŽ).nodup_iff.mpr nd;have h3:=cB.mp h2;show(List.pairwise_and_iff.mpr #[h1,h3]).imp λh=>by have:=h.1;simp![cQ] at this;have:=h.2;lia
section
variable {S:fR}{s p D:Int}{M:Mp}{hd:fR}{L Ls:í}
def f_ (p:Int)(Ls:í):ì:=Ls.map λt=>bϐ
def sX (hp:1<p)(h:Ϛ)(o:bϑ)(w: iÉ)(hl: kŅ):yw s p cĹ D:=by
 have sr: ∀t∈Ls,mĮ:=λt ht=>C7 hp (mΒ).row.ga (mΒ).lN (w t (jŊ));have get: ∀ {i st},cĹ[i]? =some st -> ∃t:fH,aθ =ať /\ st=bϐ:=λ{i st} e=>by
  unfold f_ at e;rw[aF] at e;cases e2:aθ with
  | none=>rw[e2] at e;cases e
  | some t=>rw[e2] at e;cases e;show#[t,e2,rfl]
 exact#[λi st hi=> ?_,λi j st bN c len c' zG iE hi hj h1 h2=> ?_];let⟨t,ht,rfl⟩:=get hi;show#[_,_,eϚ,hl t (o.perm.mem_iff.mp (az ht))];let⟨t,ht,rfl⟩:=get hi;let⟨t',pD,rfl⟩:=get hj;rw[(h1.uniq (eϚ)).1,(h2.uniq (sr t' (az pD))).1];let⟨g1,g2⟩:=ao.mp ht;let⟨g3,g4⟩:=ao.mp pD;rw[<- g2, <- g4];show kϋ
def CQ (hp:1<p)(h:Ϛ)(o:bϑ)(w: iÉ)(low: oŻ):Cw s p cĹ D:=by
 intro i j st bN c len iE hi hj Wi x hx c6;unfold f_ at hi hj;rw[aF] at hi hj;cases e1:aθ with
 | none=>rw[e1] at hi;cases hi
 | some t=>
  cases e2:Ls[j]? with
  | none=>rw[e2] at hj;cases hj
  | some t'=>
   rw[e1] at hi;rw[e2] at hj;cases hi;cases hj;have m1:=o.perm.mem_iff.mp (az e1);have m2:=o.perm.mem_iff.mp (az e2);have e3:=Wi.uniq (C7 hp (eϛ).row.ga (eϛ).lN (w t' m2));have gu:t.c<t'.c:=by let⟨g1,g2⟩:=ao.mp e1;let⟨g3,g4⟩:=ao.mp e2;rw[<- g2, <- g4];show kϋ
   rw[e3.2];show low t m1 t' m2 gu x (by rw[hx,e3.1]) (by rw[<- gP pΔ (h.each t m1).row.ga];show c6)
theorem pA (p0:0<p)(h:Ϛ)(o:bϑ)(hf:kϊ):eT s p cĹ f:=hf.trans λb hb=>by let⟨t,ht,rfl⟩:=bΚ;exact(eT.of nϮ).ext Ĺ;rw[gP p0 jŋ]
structure O0 (s p w:Int)(bA bs:İ)(L:ı):Prop where
 len:bs.length=L.length
 ind:ë ->cı
 of: hŌ
def MA {w:Nat}(hp:ϯ)(s0:0<s)(h:Ϛ)(hw: iÉ)(hl: kŅ)(low: oŻ)(B:hō)(ij: oÍ)(hb: pŎ)(ht:î)(hx:look t.b x≠0): -lú <=Ē /\ Ē<=lú:=by
 let⟨Ls,o⟩:=tJ L h.nd;have e:lĻ:=by unfold f_;rw[aa];show o.perm.length_eq
 have:=HU hp s0 iū (CQ ∅ h o hw low) hŎ qĬ mŤ hb (t:=bϐ) nϮ (x:=x) (by rw[gP ∅ jŋ];show hx);rw[e] at this;show this
def RX (h: fς):kS l=(((l.map Int.toNat).sum:Nat):Int):=by
 induction l with
 | nil=>rfl
 | cons a r ih=>
  change aε=_
  rw[ih kÎ,aY,List.sum_cons]
  have:=aδ
  push_cast;lia
def Jh {w:Nat}(hp:ϯ)(s0:0<s)(h:Ϛ)(hw: iÉ)(hl: kŅ)(B:hō)(ij: oÍ)(hb: pŎ):jÖ <=lú:=by
 let⟨Ls,o⟩:=tJ L h.nd;have e:lĻ:=by unfold f_;rw[aa];show o.perm.length_eq
 have:=DN hp s0 iū hŎ qĬ mŤ hb;rw[e] at this;rw[<- y_ (o.perm.map bϏ),RX λx hx=>by let⟨t,ht,rfl⟩:=bΔ;show((mΒ).lN).l0];have e2:((bÒ).map kÇ)=(Ls.map bϏ).map Int.toNat:=by unfold f_;rw[aK,aK];exact bI γ;have m:=jŊ;change(gI s (bϐ)).toNat=t.len.toNat;rw[(C7 ∅ (h.each t m).row.ga (h.each t m).lN (hw t m)).se]
 rw[e2] at this;show Int.ofNat_le.mpr this
def Nh {w:Nat}(ht:î)(h0: iÊ):t.len<=jÖ:=by
 induction L with
 | nil=>cases ht
 | cons a r ih=>
  change t.len<=a.len+kS (r.map bϏ);have h1:=(oQ (l:=r.map bϏ) (λx hx=>by let⟨u,hu,rfl⟩:=bΔ;show gī) 0)
  have h2:=h0 a aQ;obtain rfl | ht:=ay.mp ht;change t.len<=_;have:0<=kS (r.map bϏ):=by simp[kS] at h1;show h1
  exact oŧ;have:=ih ht λu hu=>gī;exact Lqi Ğ Lq0 ο ϗ ο (LqIp h2 this) rfl
universe e
def Xo:cę
 | 0=>0
 | i+1=>Xo i+(9*(332+272*Ĭ)+(Ĭ+1)*(256+544*Ĭ))
theorem S3: ∀i:Nat,i<=8 ->0<=Xo i /\ Xo i<=193056:=⋯
def yC (s:Int)(i:Nat):Int:=if s=0 then 0 else Xo i
def Jo (s:Int)(i:Nat)(h:i<=8):0<=aι /\ aι<=193056:=by unfold yC;have:=S3 i h;split<;>lia
structure BSt (S:Addr)(s p Z:Int)(w:Nat)(bA:İ)(i:Nat)(M:Mp)(hd:Addr)(L:ı)(bs:İ):Prop where
 held:Ϛ
 md: ∀t∈L,rS s p dϗ t.b t.Q
 low: oŻ
 sp: ∀pt∈cĺ,eT s p (eϑ) cĻ
 base:O0 s p w dϗ bs L
 bz:s=0 -> ∀t∈L,Wt Z t.b
 bp: ∀t∈L,qD s bϒ bϒ t.Q
 fin: ∀t∈L,mΓ
 len:L.length<=i
structure K3 (s p Z:Int)(w:Nat)(bA:İ):Prop where
 pat: ∀pt∈bA,cO p pt /\ qb s Z w w pt
 len:bA.length<=8
 hp:ϯ
 s0:Ñ
 s8:s<=8
 z0:0<=Z
 z1:Z<=10000
 ZU:s=0 ->w=0
 w60:w<=60
 sw:s*w<=68
def yk (h:Ϛ)(s0:0<s):gĬ <=s:=by
 have:=gO (l:=yN 0 s.toNat) h.nd λc hc=>by let⟨t,ht,rfl⟩:=bΟ;obtain z | z:=(dϖ).lN.ok;lia;show mM.mpr ∅
 rw[aa] at this;unfold yN at this;rw[aa,cx] at this;lia
def Qp (P:fυ){m:Nat}(hm:ë ->aϴ <=s):aϴ*w<=68:=by by_cases z:s=0;rw[P.ZU z];simp;have:=a6 (hm z) (show 0<=bÊ by exact pù);have:=P.sw;lia
theorem BSt.far (P:fυ)(h:mü): ∀t∈L,rT s Z (2*(gĬ*w)) bϒ t:=λt ht=>by
 have hl0: iÊ:=λu hu=>(h.held.each u hu).lN.l0;by_cases z:s=0;have e:=P.ZU z;rw[e];exact#[#[λx _=>by rw[z,pH];simp,λ_=>h.bz z t ht],by rw[(h.held.each t ht).lN.s0 z];simp,h.bp t ht];have s1:0<s:=by have:=P.s0;exact qÃ
 have hb: hŌ:=λb hb=>List.mem_of_mem_take hŏ;have hw: pŎ:=λb wj x hx=>(P.pat b (hb b wj)).2.1 x hx;have ij: oÍ:=λb wj=>h.sp b (h.base.of b wj);have h1:=λ{x} hx=>MA (D:=Ĥ) P.hp s1 h.held lû (kņ) h.low h.base ij hw ht (x:=x) hx;have h2:=Jh (D:=Ĥ) P.hp s1 h.held lû (kņ) h.base ij hw;have h3:=Nh (w:=w) ht hl0;have e:lú=2*(gĬ*w):=by push_cast;rw[Int.mul_assoc]
 rw[e] at h2;exact#[#[λx hx=>by have:=h1 hx;rw[e] at this;show this,λq=>absurd q z], (by exact Lqi Ğ Lq0 cŐ υ (.a cŐ Lq2) (LqIp h2 h3) rfl),h.bp t ht]
def jm {l:ì}(h:n<k):(bõ).getD n []=l.getD n []:=by rw[bQ,bQ,List.getElem?_take_of_lt h]
def rS.more {bA:ì}(h:rS s p dϗ b Q)(hi:i<bA.length):rS s p gϸ b Q:=by
 have l1:(cĺ).length=i:=by rw[bE];lia
 have l2:lγ:=by rw[bE];lia
 exact#[Ĺ,λw hw=>by have:=h.key w hw;rw[l1] at this;rw[l2];push_cast;exact qų];rw[h.is,l1,l2];have hno:pf Q Ĭ= []:=mJ λhm=>by have:=h.key _ hm;rw[l1] at this;exact Lqf [_] ϒ Lq0 ú rfl
 have: ∀n,n<=i ->nG s dϗ Q x n=nG s gϸ Q x n:=λn=>by
  induction n with
  | zero=>intro _;rfl
  | succ n ih=>intro hn;rw[nG,nG,ih pï,jm pŻ,qÍ]
 rw[nG,hno,fŻ];change _=(_+0) % p;rw[bF]
def rS.first {bA:ì}(p0:0<p)(hi:gϹ):rS s p gϸ pt kÑ:=by
 have hl:=eč;have l2:lγ:=by rw[bE];lia
 refine#[Ĺ,λw hw=>by rw[List.map_singleton,ag] at hw;rw[l2,hw];push_cast;exact qε];rw[l2,nG];have h0: ∀n,n<=i ->nG s gϸ kÑ x n=0:=λn=>by
  induction n with
  | zero=>intro _;rfl
  | succ n ih=>
   intro hn;have:pf ní ģ= []:=mJ λhm=>by rw[List.map_singleton,ag] at hm;have:ģ=i:=hm;lia
   rw[nG,ih pï,this];rfl
 have e:pf ní Ĭ= aϸ:=by simp[pf]
 rw[h0 i õ,e,jm aĭ,mW hi];change _=(0+(look pt (x - s*0)*1+0)) % p;rw[c_,Int.sub_zero,du,bF,cw]
def Gm {M1:Mp}(P:fυ)(h:mü)(hi:gϹ)(pF:oF S s p M1 hd L1)(Cd: oç)(_h: ∀t∈L1,rS s p gϸ t.b t.Q)(d_:L1.length<=L.length+1)(uf: ∀c∈Ε,c∈fψ): ∃bs1,O0 s p w gϸ bs1 L1:=by
 have hl:=eč;have GJ:=gO h.held.nd uf;rw[aa,aa] at GJ;have pE: ∀b∈cĺ,b∈fχ:=λb hb=>by rw[bw];show hŉ
 have LD:pt∈fχ:=by rw[bw,hi];show lŽ
 have p0:0<p:=by have:=P.hp;lia
 have p1:1<p:=by have:=P.hp;lia
 by_cases e:L1.length=L.length;show#[bs,by rw[e];show h.base.len,h.base.ind,λb hb=>pE b hŏ];exact#[bs++ [pt],by rw[aM,bT,h.base.len];exact LqNx (pϓ) (Lqj Û Lq0 ϑ Lq0 ϑ d_ rfl),bů,Ÿ];have s1:0<s:=by have:=P.s0;exact qÃ
 let⟨Ls,o⟩:=tJ L h.held.nd;let⟨Ls1,o1⟩:=tJ L1 pF.nd;have e1:lĻ:=by unfold f_;rw[aa];show o.perm.length_eq
 have e2:(f_ p Ls1).length=L1.length:=by unfold f_;rw[aa];show o1.perm.length_eq
 exact BX P.hp s1 (sX p1 h.held o lû kņ) (sX p1 pF o1 kÒ jÙ) (h.base.ind z) (λb hb=>pA p0 h.held o (h.sp b hŏ)) (by rw[e1,e2];exact pϓ) eϝ;let⟨t,ht,rfl⟩:=ah.mp iM;have rN:=o1.perm.mem_iff.mp ht;have m:=_h t rN;have l2:lγ:=by rw[bE];lia
 exact#[pf t.Q i,(eT.gG (sts:=cĺ) (sts':=bÒ) (λb hb=>pA p0 h.held o (h.sp b hb)) gϺ i gŔ).ext Ĺ];rw[gP p0 (pF.each t rN).row.ga,Int.sub_emod,m.is,l2,nG,jm aĭ,mW hi, <- Int.sub_emod];have: ∀n,n<=i ->nG s gϸ t.Q x n=gG s dϗ gϺ x n:=λn=>by
  induction n with
  | zero=>intro _;rfl
  | succ n ih=>intro hn;rw[nG,gG,ih pï,qÍ,jm pŻ]
 rw[fŻ];congr 1;exact qξ;obtain hb | hb:=bΨ;show pE b hŏ;rw[Ŕ];show LD
structure Bui (s p Z:Int)(w:Nat)(bA sts:İ)(Ps:List Pq):Prop where
 jd:yw s p sts Ĥ
 trim:Cw s p sts Ĥ
 sp: ∀pt∈bA,eT s p sts cĻ
 len:Ps.length=sts.length
 wq:sts.length<=bA.length
 md: ∀ (k:Nat) st P,sts[k]? =some st ->gĭ ->rS s p bA st P /\ jĺ /\ (iϺ) /\ qD s hŐ hŐ P
 bx: ∀st∈sts,qb s Z (2*(hő*w)) (2*(hő*w)) st /\ bÆ<=2*(hő*w)
 cols:ë ->hő <=s
def SE:ik:=λxs M q=>_Y λ aμ dϏ (w:Nat) cϣ=>gy (xs= [Í,Ì,wr u]) (M u=some (.lst (bA.map fh))) (fυ) (∀ (M':Mp) (v:fR) (as:ä) (sts:ì) (Ps:eV Pq),Bui s p Z w bA sts Ps ->Ĩ ->M v=none ->M' v=some (.lst (as.map wr)) ->as.length=sts.length ->(∀ (k:Nat) a P,gĮ ->gĭ -> ∃tl:aê,tl.Perm (vD p 1 P) /\ M' a=kΚ) ->q (.tup [hϵ,wr v]) M')
theorem Dd (h:Sm M0 M)(k:fK M M' F)(hf: ∀x∈F,cķ):bŔ:=λd o e=>k d o (h d o e) λhx=>by rw[hf d hx] at e;cases e
universe WQ
namespace L2
open PySem
def DB (hK:X.K=K)(he:PE X e ta)(hb:oϜ):PE X jđ (RL K ta f):=by subst hK;show cK he hb
universe L2
namespace WQ
open PySem L2 WL WP
def lC.YJ {pat rest:Pt}(hp:ϯ)(s0:Ñ)(jd:Δ)(hr:cĬ)(tk:nŞ)(ij:eT s p sts (bΖ)):rest= []:=by let⟨J,hJ⟩:=ij;exact HQ (f:=bΖ) (J':=λi=>tm Î aì) hp s0 jd hr cO.nil tk.lowP (λi st c len _ _ x _ h=>eė) tk.eqv Ĺ;rw[xm,bu,hJ, <- bu];change dώ=_;congr 1;lia
def kz (s k:Int):Int:=if s=0 then 0 else k
def lpk (k:Int):ā ->Pt
 | []=> []
 | v::r=>(k,v)::lpk Ü r
def lp (l:ā):Pt:=lpk 0 l
universe WQ
namespace L2
open PySem
structure Zf (K:PySem.W.Frag)(m qual:Str)(ps:bć)(st:Stmt)(C f:Addr)(fd:FuncData):Prop where
 mth:OP K C m f
 cl:aī
 fn:At K m qual st f fd
 bd:hþ
theorem oV {pos gx:Pos}{pl:Sem Bool}(M:Zf X.K m qual ps st C f fd)(F:oŏ)(hr:bĨ)(he:cì)(ha:gÃ)(iM:Ϲ:=by rfl)(lI:oΕ:=by rfl)(ht:pÊ=(do
  let ov <- eĚ
  hω
  let (f,first) <- mϔ
  qĚ):=by rfl):
 PE X oú (Hl C m sp [] E0 ta t):=MS he M.cl M.mth F hr M.bd .nil DF ha iM lI ht
theorem BV (X:aŷ)(G:iϘ)(a:kĶ=some (gϻ)): ∃t,mg x=gϻ:=#[t,fź]
theorem Bz {kV kf pm cdv ct:eX}(c0:Rl K mg x q' ps' bN C g fd')(a:W.findIn K Ń m=jď)(l:cż=some #[oc,od, .func pł,Bn])(c:jϻ)(k:lÇ)(h2:kĈ)(b: ∀ (kV kf pm:eX) (an:aÑ) (cdv ct:eX),CJ ps.length λus=>bindArgs pł bĦ=hý:=by(repeat intro _);rfl): Zf K m q ps st C f pł:=#[#[a,h2,k],c0.cl,bΗ,qÑ]
universe L2
namespace WL
open PySem L2
section
variable {K:iD}
theorem zJ {H:Hp}{f:Str}: ∀ {fs:ž} {ks:dĒ},eŊ ->dé=Option.none ->dο=Option.none
 | _,_, .nil,_=>rfl
 | cĢ,(g',v)::ks, hύ,h=>by
  cases iœ;rw[List.lookup_cons] at h ⊢;cases hb:f==g with
  | true=>rw[hb] at h;cases h
  | false=>rw[hb] at h;show zJ t h
def G2 (C:fR)(m:Str)(p:ik)(a:WE)(b:WA):WE:=λρ M q=>a ρ M λx M1=>gL λ cļ hŒ=>gy (x=wr o) (M1 o=iό) (hü) (b ρ M1 λxs M2=>p (Ø) M2 q)
instance {C:fR}{m:Str}{p:ik}{E:XK}{t:TE}{u:TA}{a:WE}{b:WA} [ia:Ŋ] [ib:bń]:IE K (Hl C m bņ [] E t u) (G2 C m p a b) where
 imp:=λρ M σ H q Q o h k=>ia.imp ρ M σ H _ _ o h λx M1 v H1 ⟨ad,dx,fs,ex,hp,hl,h1⟩ t1 m1 r1=>by subst ex;let⟨ks,e,r⟩:=m1 ad _ hp;exact#[ad,dx,ks,r1.eq,e,zJ r hl,ib.imp ρ M1 σ H1 _ _ ω h1 λxs M2 vs H2 h2 t2 m2 r2=> ?_];exact#[wr ad::xs,M2,q,cW.cons cΓ (by rw[List.append_nil];show r2),m2,h2,?_];intro y M' u H' hq ts m' r';show k _ _ _ _ hq lê m' r'
def rY:G2 C m p a b ρ M q=a ρ M λx M1=>gY x λo=>BW (M1 o) λC' _ fs=>gK (C'=C /\ hü) (b ρ M1 λxs M2=>Am p (Ø) M2 q):=by unfold G2 gY BW gK Am;congr 1;funext x M1;apply propext;symm;rintro⟨o,dx,fs,e1,e2,e3,h⟩;show#[o,e1,C,dx,fs,e2,#[rfl,e3],h];rintro⟨o,e1,C',dx,fs,e2,⟨rfl,e3⟩,h⟩;show#[o,dx,fs,e1,e2,e3,h]
universe e
universe WL
namespace WQ
open PySem L2 WL WP
def _Z (e r:Int)(a:Rd):Prop:=(-e<=a.1 /\ a.1<=e) /\ Bd r a.2
structure Zg (p:Int)(ms:List Rd):Prop where
 len:eϞ
 pat: ∀a∈ms,bŶ
 O3: ∀a∈ms,_Z 8 24 a
 wq: ∀a∈ms,cΡ<=49
def nA (ns:ā):Nat:=ns.foldl (λg n=>Nat.gcd g n.natAbs) 0
def pGD:ik:=λxs M q=>c7 λ aμ dŞ=>dU eϟ (M u=kξ) (q (wi dϘ) M)
def pJ:nA (ns++ [n])=Nat.gcd (nA ns) n.natAbs:=by simp[nA]
def Eg: ∀n∈ns,nA ns ∣ n.natAbs:=by
 induction ns using WP.gk with
 | h0=>intro n h;show nomatch h
 | h1 l a ih=>intro n h;rw[pJ];obtain h | h:=au.mp h;show Nat.dvd_trans (Nat.gcd_dvd_left _ _) (ih n h);rw[aϫ];show Nat.gcd_dvd_right _ _
def x_ (h: ∀n∈ns,n.natAbs<=B):nA ns<=B:=by
 induction ns using WP.gk with
 | h0=>show dm _
 | h1 l a ih=>rw[pJ];have i1:=ih λn hn=>h n fω;have i2:=h a ś;by_cases z:nA l=0;rw[z,Nat.gcd_zero_left];show i2;show aI (Nat.gcd_le_left _ (Nat.pos_of_ne_zero z)) i1
def Lg (S:cŴ)(d:Int):Prop:= ∀x,S x -> ∀y,(y=x+d \/ y=x - d) -> -8<=y ->y<=8 ->S y
def ET (hS: lļ)(a0:0<=a)(a8:a<=8)(b0:0<=b)(b8:b<=8)(ha:Lg S a)(hb:Lg S b):Lg S bÈ:=by intro x hx y hy h1 h2;have hxr:=hS x hx;obtain rfl | rfl:=hy;by_cases c:x+a<=8;show hb _ (ha x hx (x+a) Ũ (by exact Lqi Û δ μ kό π (LqIp a0 hxr.1) rfl) c) _ (.inr (by exact LqIx pϷ p϶)) h1 h2;show ha _ (hb x hx (x - b) (ĺ) (by exact Lqi Ğ δ Β (.a Lq2 (.a Lq1 iŬ)) nş mť rfl) (by exact Lqi Ğ Β Ĕ (.a Lq0 (.a kÓ iŬ)) nş nî rfl)) _ (.inl (by exact LqIx (Lqi Ğ j϶ (.a eŷ Lq1) ø ø LqI0 rfl) (Lqi Ğ jϢ kÓ ø ø LqI0 rfl))) h1 h2;by_cases c:x+b<=8;show ha _ (hb x hx (x+b) Ũ (by exact Lqi Û δ μ kό π (LqIp b0 hxr.1) rfl) c) _ (.inr (by exact LqIx (Lqi Ğ kÔ kÉ ø ø LqI0 rfl) (Lqi Ğ kÁ (.s Lq0 eτ) ø ø LqI0 rfl))) h1 h2;show hb _ (ha x hx (x - a) (ĺ) (by exact Lqi Ğ δ Β (.a Lq1 (.a Lq2 iŬ)) nş mť rfl) (by exact Lqi Ğ Β Ĕ (.a Lq0 (.a kÔ iŬ)) nş nî rfl)) _ (.inl (by exact LqIx (Lqi Ğ kÔ jϢ ø ø LqI0 rfl) (Lqi Ğ jϢ kÔ ø ø LqI0 rfl))) h1 h2
theorem ym {S:cŴ}(hS: lļ): ∀ (n a b:Nat),a+b<=n ->a<=8 ->b<=8 ->Lg S a ->Lg S b ->Lg S (dϙ:Nat)
 | n,0,b,_,_,_,_,hb=>by rw[Nat.gcd_zero_left];show hb
 | n,a+1,0,_,_,_,ha,_=>by rw[Nat.gcd_zero_right];show ha
 | 0,a+1,b+1,h,_,_,_,_=> ∅
 | É,a+1,b+1,h,h1,h2,ha,hb=>by by_cases c:b<=a;have hc:=ET hS Ϻ ∅ Ϻ ∅ ha hb;have e:hÀ - hÁ=((dϚ:Nat):Int):= ∅;rw[e] at hc;have:=ym hS n (dϚ) (b+1) ∅ ∅ h2 hc hb;rwa [Nat.gcd_sub_self_left (by exact Lqj Û ϒ ϑ Lq0 Lq1 c rfl)] at this;have hc:=ET hS Ϻ ∅ Ϻ ∅ hb ha;have e:hÁ - hÀ=((dϛ:Nat):Int):= ∅;rw[e] at hc;have:=ym hS n (a+1) (dϛ) ∅ h1 ∅ ha hc;rwa [Nat.gcd_sub_self_right (by exact Lqj Û ϒ ϑ ϒ Lq1 (LqNw c) rfl)] at this
def OE (h:Lg S d):Lg S (d.natAbs:Nat):=by intro x hx y hy;exact h x hx y ?_;lia
def OD (hS: lļ):(kÕ) ->(hœ) ->Lg S dϘ:=by
 induction ns using WP.gk with
 | h0 => intro _ _ x hx y hy _ _;have:y=x:=by simp[nA] at hy;show hy
         rw[this];show hx
 | h1 l a ih=>intro h8 hc;rw[pJ];show ym hS _ _ _ õ (x_ lδ) (h8 a ś) (ih (lδ) λn hn=>hc n fω) (OE (hc a ś))
def Cc (hS: lļ)(h0:S 0)(h8: kÕ)(hc: hœ):S dϘ:=by have:=x_ h8;show OD hS h8 hc 0 h0 _ (.inl (by exact LqIx o϶ oϵ)) (by exact Lqi [_] δ Lq0 ø Lq0 kĎ rfl) ∅
theorem C5 {f:ş}{e:Int}: ∀ {n:Nat} {x:Int},cΩ≠0 -> ∃k:Nat,k<n /\ f (x - e*k)≠0
 | 0,_,h=>eė
 | É,x,h=>by by_cases c:f cě=0;let⟨k,hk,g⟩:=C5 (f:=f) (e:=e) (n:=n) (x:=x) λz=>h (by rw[iu,z,c];rfl);show#[k, (by exact Lqj Û ϒ ϑ ϒ Lq1 hk rfl),g];show#[n, pΨ,c]
theorem C6 {f:ş}{e:Int}: ∀ {n:Nat} {x:Int},cϊ≠0 -> ∃k:Nat,k<=n /\ f (x+e*k)≠0
 | 0,_,h=>eė
 | É,x,h=>by by_cases c:hϠ=0;let⟨k,hk,g⟩:=C6 (f:=f) (e:=e) (n:=n) (x:=x) λz=>h (by rw[lM,z,c];rfl);show#[k, (by exact Lqj Û Lq0 ϑ Lq0 Lq1 hk rfl),g];show#[n+1, pΨ,c]
def Jc (k0:0<=k)(kn:k<=n)(h: -c<=e*n /\ e*n<=c): -c<=e*k /\ e*k<=c:=by by_cases z:0<=e;have h1:=bj kn z;have h2:=cP z k0;exact ⟨Lqi Ğ Ņ Lq1 (.a Lq2 (.a Lq1 ϥ)) (.a Lq0 (.a Lq2 eÛ)) (LqIp h.2 kŇ) rfl,Lqi Ğ Lq0 Lq1 υ ο (LqIp h.2 h1) rfl⟩;have h1:=Int.mul_le_mul_of_nonpos_left pϔ kn;have h2:=Int.mul_nonneg_of_nonpos_of_nonpos pϔ (show -k<=0 by exact Lqi [_] Ņ ø ø Lq0 k0 rfl);rw[eh] at h2;exact ⟨Lqi Ğ Ņ Lq1 (.a Ņ Lq2) τ (LqIp h.1 h1) rfl,Lqi Ğ Lq0 Lq1 (.a ŕ lϡ) (.a Lq2 (.a Lq0 (.a Ņ Ņ))) (LqIp h.1 kŇ) rfl⟩
def xB (h:cό)(hb:Bd b a.2)(hc: -c<=a.1*n /\ a.1*n<=c):Bd (b+c) r.2:=by
 intro z hz;have ht:dh r.2 z.1=z.2:=Hd h.pt.2 z hz;have AE:=h.pt.1 z hz;have c6:j7 (dh a.2) a.1 n z.1≠0:=λe=>by have h1:=h.at_ z.1;rw[e,Int.zero_emod,ht] at h1;exact Lqf [_] ϲ ϕ (LqIp AE.1 ((LqIe h1))) rfl
 have far: ∀y,dh a.2 y≠0 -> -b<=y /\ y<=b:=λy hy=>aA λg=>hy (Mf hb ∅);unfold j7 at c6;by_cases n0:n<0;rw[am n0] at c6;let⟨k,hk,g⟩:=C6 c6;have h1:=far _ g;have h2:=Jc (e:=a.1) (k:=k) (n:= -n) (c:=c) Ϻ ∅ (by rw[eh];exact ⟨Lqi Û Ņ ŕ Lq1 Lq0 hc.2 rfl,Lqi Û Ņ Lq1 ŕ Lq0 hc.1 rfl⟩);exact ⟨Lqi ř hϻ Lq2 (.a Ņ Lq3) jŹ hň rfl,Lqi ř Lq0 ο (.a ν bΑ) eç (LqIp h1.2 h2.1) rfl⟩;rw[aj n0] at c6;let⟨k,hk,g⟩:=C5 c6;have h1:=far _ g;have h2:=Jc (e:=a.1) (k:=k) (n:=n) (c:=c) Ϻ ∅ hc;exact ⟨Lqi ř hϻ Lq2 (.a Ņ ŕ) (.a eŹ Lq3) hł rfl,Lqi ř Lq0 ο (.a eŸ Lq3) ο hŃ rfl⟩
def BK (h1:Bd b a.2)(h2:Bd c r.2)(hd: -d<=a.1 /\ a.1<=d)(hb:b<=c+d):Bd (c+d) cϩ.2:=by intro z hz;let⟨y,hy,e⟩:=SM hz;obtain hy | hy:=au.mp hy;have:=h1 y hy;exact ⟨Lqi Ŷ hϻ Lq2 (.a Lq3 (.a Lq4 (.g Lq3))) mŦ (LqIp hb kĸ) rfl,Lqi Ŷ Lq0 ο (.a Lq3 eϠ) (.a ο (.a Lq4 Lq3)) (LqIp hb (LqIp Ő ú)) rfl⟩;let⟨w,hw,rfl⟩:=bΕ;have:=h2 w hw;have e:w.1+a.1=z.1:=e;lia
def HV {l:añ}{i:Nat}(h:(l.map gz)[i]? =û): ∃r,ç =ô /\ x=gz r:=by
 rw[aF] at h;cases e:ç with
 | none=>rw[e] at h;cases h
 | some r=>rw[e] at h;cases h;show eϡ
def mU {l:ā}{i:Nat}(h:kĝ): ∃r,ç =ô /\ x=wi r:=by
 rw[aF] at h;cases e:ç with
 | none=>rw[e] at h;cases h
 | some r=>rw[e] at h;cases h;show eϡ
inductive yu (ns:Ĵ):gϜ ->cŴ
 | nil:yu ns [] 0
 | snoc {r:gϜ} {x e w y:Int} {k:Nat}:cĽ ->gį ->(eϢ) ->y=x+e*w -> -8<=y ->y<=8 ->yu ns (r++ fΒ) y
def Su:ik:=λxs M q=>c7 λ aμ dŞ=>kg (xs= [wr u,wi dϘ]) (M u=kξ) (kÕ) (ns.length<=6) (∀ (v:fR) (M':Mp) (row:fł),yu ns row dϘ ->gİ ->(nA ns=0 ->row= []) ->M v=none ->Ĩ ->M' v=lü ->q (wr v) M')
def nE (R:Pq)(x:Int):Prop:=x∈eϣ
structure Li (ns:Ĵ)(R:Pq):Prop where
 nd:(eϣ).Nodup
 Fi: ∀x,aν -> fΑ
 Rp: ∀t∈R,yu ns ê t.1
 len: ∀t∈R,eμ<R.length
 kz:nE R 0
 zr: ∀t∈R,t.1=0 ->ê= []
theorem I_ {lo:Int}: ∀ (n:Nat) (l:ā),l.Nodup ->(∀x∈l,lo<=x /\ x<lo+n) ->l.length<=n
 | 0,l,_,h=>by
  cases l with
  | nil=>show Á
  | cons x l=>have:=h x ś;lia
 | n + 1,l,nd,h=>by
  have h1:=I_ (lo:=lo) n (mΔ) (nd.sublist (List.filter_sublist)) λx hx=>by let⟨h1,h2⟩:=aV.mp hx;have:=h x h1;have:=of_decide_eq_true h2;lia
  have h2:l.length<=(mΔ).length+1:=by
   have:=List.length_eq_countP_add_countP (λx=>iË) (l:=l);rw[<- List.countP_eq_length_filter];have h3:oΩ <=1:=by
    have e:oΩ=l.count ó:=by unfold List.count;exact List.countP_congr λx _=> ?_;simp
    rw[e];show List.nodup_iff_count.mp nd _
   exact Lqj Ğ Lq0 ϑ ς kϡ (LqNp dĶ h3) rfl
  exact Lqj Ğ Lq0 ϑ υ Ϭ eã rfl
def Li.most (h:bÓ):R.length<=17:=by
 have:=I_ (lo:= -8) 17 (eϣ) h.nd λx hx=>by have:=h.Fi x hx;lia
 rwa [aa] at this
theorem Li.one:Li ns [(0,a,[])]:=#[by simp,λx h=>by simp[nE] at h;exact ⟨Lqi [_] δ Lq0 ø Lq0 (LqId h) rfl,Lqi [_] Lq0 Ĕ Lq0 ø (LqIe h) rfl⟩,λt h=>by rw[aϫ];show .nil,λt h=>by rw[aϫ];show Nat.zero_lt_one,by simp[nE],λt h _=>by rw[aϫ]]
def Li.add {k:Nat}(b:bÓ)(hh:dϝ)(hk:gį)(hw:eϢ)(hy:y=h+e*w)(y0: -8<=y)(y1:y<=8)(ny:¬nE R y):Li ns mΕ:=by exact#[?_,ź,γ,γ,?_,λt ht t0=> ?_];rw[aO];exact List.nodup_append.mpr #[b.nd,by simp,λx hx z hz=> ?_];simp at hz;subst hz;intro e;subst e;show ny hx;unfold nE at hx;rw[aO] at hx;obtain hx | hx:=bì;show b.Fi x hx;simp at hx;exact ⟨Lqi Û δ Lq0 (.a δ Lq1) π (LqIp y0 ((LqId hx))) rfl,Lqi Û Lq0 Ĕ π hÂ (LqIp y1 (cĔ)) rfl⟩;obtain ht | ht:=bϓ;show b.Rp t ht;rw[bϔ];show(b.Rp _ hh).snoc hk hw hy y0 y1;rw[aM,bT];obtain ht | ht:=bϓ;have:=b.len t ht;exact Lqj Û ϒ ϑ ϒ Lq1 this rfl;rw[bϔ];have h1:c.length<R.length:=b.len _ hh;change(c++ fΒ).length<_;rw[aM,bT];exact Lqj Û ϱ ϑ ϒ Lq1 h1 rfl;unfold nE;rw[aO];show au.mpr (.inl b.kz);obtain ht | ht:=bϓ;show b.zr t ht t0;rw[bϔ] at t0;have t0:y=0:=t0;rw[t0] at ny;show absurd b.kz ny
structure yI (ns:Ĵ)(R0 R:Pq)(F:Ĵ)(D:cŴ):Prop where
 Uq:bÓ
 old: ∀x,nE R0 x ->aν
 new: ∀x,aν ->nE R0 x \/ x∈F
 fin: ∀x∈F,aν
 cnt:R.length=R0.length+F.length
 dn: ∀y,D y -> kÖ
theorem yI.weak (h:gı)(w: ∀y,D' y ->D y):yI ns R0 R F D':=#[h.Uq,h.old,h.new,h.fin,h.cnt,λy d=>h.dn y (w y d)]
def mR:nE (R++ [(y,a,c)]) x↔aν \/ x=y:=by unfold nE;simp
def yI.add {k:Nat}(b:gı)(hh:dϝ)(hk:gį)(hw:eϢ)(hy:y=h+e*w)(y0: -8<=y)(y1:y<=8)(ny:¬nE R y): yI ns R0 mΕ (F++ [y]) iÌ:=by
 exact#[b.Uq.add hh hk hw hy y0 y1 ny,λx hx=>mR.mpr (.inl (b.old x hx)),ź,ź,?_,λz hz g0 g1=> ?_];obtain hx | rfl:=mR.mp hx;show(b.new x hx).imp id λg=>by simp[g]
 show .inr ś;obtain hx | hx:=bì;show mR.mpr (.inl (b.fin x hx));show mR.mpr (.inr (bñ));have:=b.cnt;rw[aM,aM,bT,bT];exact LqNx (Lqj Ğ ϒ Ϭ Lq0 ο dĶ rfl) (Lqj Ğ ϭ ϓ μ Lq2 dķ rfl);obtain hz | hz:=hz;show mR.mpr (.inl (b.dn z hz g0 g1));show mR.mpr (.inr hz)
def Vn (ns:ā)(R:Pq)(E:ā):Prop:= ∀x,aν ->x∉E -> ∀n∈ns, ∀y,(hŔ) -> kÖ
theorem yI.cld (h:yI ns R0 R F oĉ)(c:Vn ns R0 E):Vn ns R F:=λx hx nx n hn y hy y0 y1=>by obtain h0 | h0:=h.new x hx;by_cases e:x∈E;show h.dn y #[x,e,n,hn,hy] y0 y1;show h.old y (c x h0 e n hn y hy y0 y1);show absurd h0 nx
theorem Vn.gd (h8: kÕ)(b:bÓ)(z:nE R 0)(c:Vn ns R []):nE R dϘ:=Cc (S:=nE R) b.Fi z h8 λn hn x hx y hy=>c x hx ś n hn y hy
def t7 (h:aν): ∃t∈R,t.1=x /\ iŭ=some (bζ):=by
 rw[oJ];cases e:lϩ with
 | some t=>show#[t,lϪ, kň,rfl]
 | none=>let⟨t,ht,rfl⟩:=aϺ;have:=mý;simp at this
def DT (h:¬aν):iŭ=none:=by
 rw[oJ];cases e:lϩ with
 | none=>rfl
 | some t=>show absurd (ah.mpr #[t,lϪ, kň]) h
def Y' (M M':Mp)(R:Pq):Prop:= ∀t∈R,M é=none /\ M' é=some (.lst (t.2.2.map cN))
theorem Y'.mv {M M1 M2:Mp}(h:Y' M M1 R)(s:Sm M1 M2):Y' M M2 R:=λt ht=>#[(h t ht).1,s _ _ (h t ht).2]
theorem yI.ext (b:gı)(h: kÖ):yI ns R0 R F iÌ:=#[b.Uq,b.old,b.new,b.fin,b.cnt,λz hz g0 g1=>hz.elim (λg=>b.dn z g g0 g1) λe=>by subst e;show h g0 g1]
structure Uu (M M2:Mp)(rd ed rc:Addr)(E:Ĵ)(R:Pq)(F:Ĵ):Prop where
 sm:aϢ
 rows:M2 rd=iÍ
 edge:M2 ed=kŉ
 new:M2 rc=some (.lst (F.map wi))
 at_:Y' M M2 R
 n1: ∀t∈R,é≠rc
 n2:ed≠rc
def Uu.add {M M2 M3:Mp}(h:Uu M M2 rd ed rc E R F)(QZ:M rd=none)(Q0:M rc=none)(s:Sm M2 M3)(fv:M2 v=none)(hv:M3 v=some (.lst (c.map cN))): Uu M (um (um M3 rd (.dK (ly hÃ))) rc (.lst ((F++ [y]).map wi))) rd ed rc E hÃ (F++ [y]):=by
 have nrc:rd≠rc:=λx=>by have:=h.rows;rw[x,h.new] at this;cases this
 have ned:ed≠rd:=λx=>by have:=h.edge;rw[x,h.rows] at this;cases this
 have nv:v≠rc:=λx=>by have:=h.new;rw[<- x,fv] at this;cases this
 have lst: ∀a l,M3 a=fĵ ->a≠rd:=λa l e x=>by rw[x,s _ _ h.rows] at e;cases e
 exact#[((h.sm.trans s).um QZ).um Q0,by rw[aE nrc,av],by rw[aE h.n2,aE ned];show s _ _ h.edge,av,γ,γ,h.n2];obtain ht | ht:=bϓ;have:=h.at_ t ht;exact#[ü,?_];rw[aE (h.n1 t ht),aE (lst _ _ (s _ _ ú))];show s _ _ ú;rw[bϔ];exact#[h.sm.free fv,?_];change um (um M3 rd _) rc _ v=_;rw[aE nv,aE (lst _ _ hv)];show hv;obtain ht | ht:=bϓ;show h.n1 t ht;rw[bϔ];show nv
def yu.Fi (h:cĽ): fΑ:=by
 cases h with
 | nil=>decide
 | snoc _ _ _ _ a b=>show#[a,b]
def yu.aa' (h:cĽ)(e:r= []):x=0:=by
 cases h with
 | nil=>rfl
 | snoc _ _ _ _ _ _=>simp at e
def yu.at (h:cĽ): ∀ {i:Nat} {k w:Int},r[i]? =some (k,w) ->gL λ(kn:Nat) (e y:Int)=>kg (k=kn) (ns[kn]? =some e) (eϢ) (yu ns (r.take i) y) (yu ns (r.take ß) (y+e*w)):=by
 induction h with
 | nil=>intro i k w h;simp at h
 | @snoc r x e w y k hr hk hw hy y0 y1 ih=>
  intro i k' w' h;by_cases c:i<r.length;rw[bi c] at h;rw[List.take_append_of_le_length (by exact Lqj Û Lq0 Lq1 ϒ Lq1 c rfl),List.take_append_of_le_length (by exact Lqj Û ϒ Lq1 ϒ Lq1 c rfl)];show ih h;have hi:i=r.length:=by have:=(aϙ).1;rw[aM,bT] at this;exact LqNx (Lqj Û Lq0 Lq1 ϒ ϑ this rfl) (nν)
  subst hi;rw[a5 õ] at h;simp at h;let⟨rfl,rfl⟩:=h;exact#[k,e,x,rfl,hk,hw,by rw[List.take_left];show hr,?_];rw[mϏ, <- hy];show hr.snoc hk hw hy y0 y1
def yu.uniq (h:cĽ): ∀ {y:Int},yu ns r y ->x=y:=by
 induction h with
 | nil=>intro y hy;show(hy.aa' rfl).symm
 | @snoc r x e w z k hr hk hw hy y0 y1 ih=>
  intro y h2;generalize hq:r++ fΒ=q at h2;cases h2 with
  | nil=>simp at hq
  | @snoc r' x' e' w' _ k' nO l5 xV Xz _ _=>have hq:=List.append_inj' hq rfl;let⟨rfl,hq⟩:=hq;simp at hq;let⟨AF,rfl⟩:=hq;have:k=k':= ∅;subst this;rw[hk] at l5;cases l5;rw[hy,Xz,ih nO]
def yp (h:aō)(hb:aś)(b0:0<=b):l.length<=fΓ:=by
 have:=I_ (lo:= -b) fΓ (eŔ) (by rw[List.nodup_iff_pairwise_ne,cB];show h.2.imp λg=> (by exact λe=>Lqf Û Ϯ π (LqIp g (Ő)) rfl)) λx hx=>by let⟨z,hz,rfl⟩:=bΔ;have:=hb z hz;lia
 rwa [aa] at this
def Sy:ik:=λxs M q=>_Y λ(u v:fR) (p x:Int) cϪ (row:fł)=>p9 (xs= [Í,wr u,wr v]) è bŤ mį (M v=lü) (bÔ) (yu (fΔ) row x) (gİ /\ ∀lap:Rd,aò=x ->cϫ ->Bd 40 aó ->(row= [] ->lap=aŕ) ->q (gz lap) M)
def pc (s e:Int):Int:=if s=0 then 0 else e / s
def W3 (C:fR):ik:=λxs M q=>Gq λ cļ hŒ (s e:Int)=>kg (xs= [wr o,wi e]) (M o=iό) (nγ) (Ñ /\ s<1000) (q (wi (pc s e)) M)
def wc (s:Int):Nat:=if s=0 then 0 else((55+s) / s).toNat
def Vt (s0:Ñ)(s8:s<=8):wc s<=60 /\ s*wc s<=68 /\ (s=0 ->wc s=0):=by have:pī:= ∅;obtain rfl | rfl | rfl | rfl | rfl | rfl | rfl | rfl | rfl:=this <;>decide
theorem EW (h:aś):Wt b l:=λx hx=>by let⟨z,hz,rfl⟩:=ah.mp (eE hx);show h z hz
def bxc (s0:Ñ)(s8:s<=8)(h:Bd 56 a):qb s 56 (wc s) (wc s) a:=by exact#[ź,λ_=>EW h];have h1:=EW h x hx;have:pī:= ∅;obtain rfl | rfl | rfl | rfl | rfl | rfl | rfl | rfl | rfl:=this <;>simp[hI,wc] <;>omega
theorem RV (h:Δ)(hw: ∀st∈sts,Wt D' st)(l:D'<=D):yw s p sts D':=#[λi st hi=>by let⟨c,len,sr,hl⟩:=h.each i st hi;show#[c,len, {sr with wt:=hw st (az hi)},hl],λi j st bN c len c' zG iE hi hj a b=>h.Fj i j st bN c len c' zG iE hi hj kŊ {b with wt:=b.wt.up l}]
theorem Me (h:eΦ)(l:D'<=D):Cw s p sts D':=λi j st bN c len iE hi hj a=>h i j st bN c len iE hi hj kŊ
structure CrF (p s:Int)(sts:İ)(rest:Pt):Prop where
 jd:yw s p sts 7748
 trim:Cw s p sts 7748
 wt: kŋ
 wq:fΕ
 pat:cĬ
 rwt:Wt 46600 rest
 low: ∀st∈sts,rH s (ī) (bÆ) rest
 still:s=0 ->rest= []
def Vh (p:Int)(ms:añ):ž:= [iÎ,((bϕ :Str), .tup (cľ))]
def Ul (p:Int)(ms:añ)(s:Int):ž:=bÕ++ [(hÄ,Ì)]
def Gg (p:Int)(ms:añ)(s:Int)(v:fR):ž:=cĿ++ [(eϤ,wr v)]
def _W (p:Int)(ms:añ)(s:Int)(v:fR)(sts:ì):ž:=dϞ++ [((bϖ :Str), hϵ)]
def Uk (p:Int)(ms:añ)(s:Int)(v:fR)(sts:ì)(w:fR):ž:=hÅ++ [((bϗ :Str),wr w)]
def _V (p:Int)(ms:añ)(s:Int)(v:fR)(sts:ì)(w:fR)(rest:Pt):ž:=iÏ++ [(fΖ,gz bϘ)]
def vj (p s:Int)(ms:añ)(v w z:fR)(sts:ì)(rest:Pt):ž:=kŌ++ [((cŀ :Str),wr z)]
theorem aeG:gN bϕ (.tup (cľ)) [iÎ]=bÕ:=rfl
theorem aeF:gN Ř (Ì) (bÕ)=cĿ:=rfl
theorem aeE:gN "way" (wr v) (cĿ)=dϞ:=rfl
theorem aeD:gN bϖ (hϵ) (dϞ)=hÅ:=rfl
theorem aeC:gN bϗ (wr w) (hÅ)=iÏ:=rfl
theorem aeB {rest:Pt}:gN "head" (.tup [Ì,fh rest]) (iÏ)=kŌ:=rfl
theorem aeA {rest:Pt}:gN cŀ (wr z) (kŌ)=lý:=rfl
theorem aez:(cĿ).lookup hÄ=ε:=rfl
theorem YZ:jŌ hÄ=ε:=rfl
theorem YV:jŌ eϤ=dϟ:=rfl
theorem YW:jŌ cϬ=ζ:=rfl
theorem YX:jŌ ("level" :Str)=none:=rfl
theorem YY:jŌ fΗ=none:=rfl
theorem YU:(iÏ).lookup hÄ=ε:=rfl
theorem YT:(bÕ).length=2:=rfl
theorem YS:(cĿ).length=3:=rfl
theorem YR:(dϞ).length=4:=rfl
theorem YQ:(hÅ).length=5:=rfl
theorem YO:(iÏ).length=6:=rfl
theorem YN {rest:Pt}:(kŌ).length=7:=rfl
theorem YL {rest:Pt}:nï hÄ=ε:=rfl
theorem aev {rest:Pt}:nï (bϖ :Str)=some (hϵ):=rfl
theorem aey {rest:Pt}:nï fΖ=some (gz bϘ):=rfl
def Qg:ik:=λxs M q=>gL λ Ī aŔ ģ=>p9 kĩ è bŤ (bŶ) jϚ (n<0) pŹ qş
def MX:W2 xs M q ->Qh xs M q \/ Qg xs M q:=by rintro⟨p,a,n,rfl,p0,p1,hP,hl,hb,k⟩;by_cases hn:n<0;show .inr #[p,a,n,rfl,p0,p1,hP,hl,hn,hb,k];exact .inl #[p,a,n,rfl,p0,p1,hP,hl, (by exact Lqi [_] ø Lq0 ø Lq0 (LqIz hn) rfl),bϙ,k];let⟨_,h2,h3⟩:=hb h;have e:hŕ:= ∅;rw[e];show#[h2,h3]
universe WQ
namespace L2
open PySem PyProof.Rows PyProof.V PySem.Calls PySem.Spec
def Oy {K:iD}(X:aŷ)(kD:CG K D)(c6:C≠D)(he:h.get? e=some oe)(hc:oe.cls= aĪ)(hk:nĬ): W.Looks M h (excMatches bľ bĶ) b:=by
 exact W.exm_one (cls:= aĪ) X (qz he hc) ?_;have e1:(W.subIn K bĶ (jϊ)==š)=true:=by change(W.mroIn K D (jϊ)==š)=true;rw[kD.mb];rfl
 unfold W.exmOne;rw[am e1];unfold W.kitOne at hk;rwa [aj (λz=>c6 (Value.ref.inj (beq_iff_eq.mp z)))] at hk
universe L2
namespace WL
open PySem L2
def Rf (p:uI)(xs:Ë)(M:Mp)(q:WK)(e:WX):Prop:=p xs M q e
theorem G':G_ p e a ρ M q=a ρ M λxs M1=>Rf p xs M1 q (up e):=rfl
theorem yL:GZ C e a D ρ M=a ρ M λxs M'=>gK jμ (up e C M'):=rfl
theorem ki.of (e:dō)(t1:aϠ)(t2:bļ):ki K H2 D' D:=(e.mv t1).mv t2
universe WL
namespace L2
open PySem
theorem Cm (X:aŷ)(G:iϘ)(a:oĭ):mg x=fė:=fź
theorem GP (_:aŷ)(a:oĭ)(e:oå)(k1:jÄ)(k2:qė)(k3:oł)(k4:pώ)(k5:nΟ)(k6:oœ):AA K x C:=Vo a e k1 k2 k3 k4 k5 k6
universe L2
namespace WL
open PySem L2
section
variable {M:Mp}{ρ:dj}{q:WK}{a b c:WE}{D:fG}{x y z:W}
def kB (q:hď):WK:=λx M=>UX x M q
def kb (b:WT)(q:hď):ύ:=λρ M=>b ρ M q
def om (q:WK)(M:Mp)(o:MO):Prop:= ∀p,ň ->q Đ cυ
def kU (q:WK)(M:Mp):bŗ:=λu=>q u M
universe e
universe WL
namespace L2
open PySem PyProof.Rows PyProof.V PySem.Calls PySem.Spec
abbrev XH:=Hp ->XK
abbrev TR:=St ->Hp ->VK ->XH ->Prop
abbrev Vl:=mw ->(St ->XH) ->Ψ
def XP (X:Cx)(ai:ψ)(σ:St)(E:XH)(ev:eX)(s':eY):Prop:=c7 λH1 s1=>hψ /\ uP X.prog X.w X.stack H1 s1 (E H1) ev s'
def PR (X:Cx)(e:Expr)(t:TR):Prop:=∀ (ai:ψ) (s:eY) (σ:St) (H:Hp) (Q:VK) (E:XH),Ϙ ->t σ H Q E ->wpAny ϣ X.A (eĒ) Ω gĲ s
def PRS (X:Cx)(st:Stmt)(t:Vl):Prop:=∀ (ai:ψ) (s:eY) (σ:St) (H:Hp) (D:mw) (E:St ->XH),Ϙ ->t D E σ H ->wpAny ϣ X.A gű dö (λev s'=> ∃σ',XP X ai σ' (E σ') ev s') s
def tRK (C:fR)(sp:Sp)(t:TA):TR:=λσ H Q E=>t σ H λvs H1=> ∀x dx,H1 x=none ->H1 dx=none ->aĩ ->sp (aĕ::(vs++ [])) oÙ nË (E oÙ)
def tRL (t:TR):TR:=λσ H Q E=>t σ H (λx H1=> ∀p,cï ->Q ń (cR H1 p cϭ)) E
def tRA (i:Nat)(t:TR):Vl:=λD E σ H=>t σ H (λx H1=>D.nx (σ.set i bĿ) H1) (E σ)
theorem Sl (h:PA X.Lp es t){σ:St}(I:Ϙ)(hw:bĒ):wpAny ϣ X.A oö fϳ E s:=bK (h pos ai s σ H Q (I.sJ _) hw) ((by rintro _ _ ⟨v,H',I',r,q⟩;exact #[v,H',I'.kR,r,q])) jν
def Fg {σ:St}(M:cź)(F:pĒ)(hr:eĦ)(hb:iĘ)(hd:bĩ)(I:Ϙ)(r:bđ)(h: ∀x dx,H x=none ->H dx=none ->aĩ ->sp iė nϻ nË (E nϻ)): wpAny ϣ X.A ię Ω gĲ s:=by
 have hq:=qĩ;have I2:=hΔ;have r2:qÕ:= kŶ;have hl:pĂ:=by have e:=r2.length;rw[hÿ] at e;show e.symm
 exact wpAny_call (zE (f:=f) I.v9 M.makes M.init jĔ (codeAny_mono (F.run _ X.stack _ _ #[nĎ,[]] oû _ _ _ hΕ jĕ oϱ r2 hq) gÄ));cases r with
 | error e=>show#[_,_,I2,JR]
 | ok fl=>
  cases fl with
  | ret u=>let⟨v,H',I3,rv,ev,q3⟩:=dĚ;subst ev;show oε
  | next=>show fĖ
  | brk=>show fĖ
  | cont=>show fĖ
def ML {p pos:Pos}(M:cź)(F:pĒ)(hr:eĦ)(hg:ċ)(hm:aĝ=fė)(hb:Binds X.K fd ps [])(ha:iŮ)(oy:ϴ:=by decide)(he:Ϲ:=by rfl)(lI:oΕ:=by rfl): pÑ:=by intro ai s σ H Q E I h;exact nű;exact W.callWith_K (h₀:=X.base) I.ok.mod.S4 M.kp (dz (Sl ha I h) nϖ) he lI;show Fg M F hr hb .nil I1 r q
theorem Ih {p pos:Pos}{st:Stmt}(M:mξ)(F:pĒ)(hr:eĦ)(hg:ċ)(ha:iŮ)(oy:ϴ:=by decide)(he:Ϲ:=by rfl)(lI:oΕ:=by rfl): pÑ:=ML M.mkr F hr hg M.at_ M.bd ha oy he lI
def MM (h:PR X e t)(hs:starEach (e:: []) X.env=jē::iÐ:=by rfl):PR X (.List [e] pos) (tRL t):=by intro ai s σ H Q E I hq;exact wpAny_List_spliced ?_;rw[hs];change wpAny _ _ (spliced (jē::backTo pos (iÐ))) _ _ s;exact dJ (dz (h ai s σ H _ E I hq) ?_);rintro u s1 ⟨x,H1,I1,r1,q⟩;exact Calls.spliced_nil #[by change dŢ;decide,?_];have hf:lę:=ič;exact#[ką,cR H1 s1.heap.objs.size cϭ,oΔ,rfl,q _ hf];show#[by change dŢ;decide,[u],0, .cons r1 .nil,Ŀ]
def MK (hN:X.N.Nodup)(hi:X.N[i]? =aġ)(hy:X.env.kindOf y=dë)(he:PR X e t)(hs:swapsWith e (some (.Name y iW)) pos.line X.env=cŮ:=by rfl):PRS X (.Assign [.Name y iW] e pos) (tRA i t):=by intro ai s σ H D E I h;exact wpAny_Assign_Name (bK (he ai s σ H _ _ I h) (?_) λev s2 z=>#[σ,z]) hs;rintro v s1 ⟨y,H1,I1,r1,q1⟩;show kx I1 hN hi (.inl hy) r1 kϰ (.inr hy)
def asN (i:Nat)(ts:TS):bÖ:=λea D σ H=>ts (zW i D) (σ.set i (some că)) H
def asU (ts:TS):bÖ:=λ_=>ts
inductive LX (X:Cx):iů ->lĽ ->Prop
 | nil:LX X [] []
 | cons {x:Str} {np BZ:Pos} {b₀:Stmt} {sV:List Stmt} {C:Addr} {ts:TS} {rest:iů} {al:lĽ} (hg:ċ) (O:cΧ) (XI: nϯ) (r:eϥ) (oy:ϴ:=by decide): LX X (.ExceptHandler (some eŇ) none cϮ BZ::rest) ((C,asU ts)::al)
 | name {x n:Str} {i:Nat} {np BZ:Pos} {b₀:Stmt} {sV:List Stmt} {C:Addr} {ts:TS} {rest:iů} {al:lĽ} (hg:ċ) (O:cΧ) (hN:X.N.Nodup) (hi:gΒ) (hk:lţ) (XI: nϯ) (r:eϥ) (oy:ϴ:=by decide): LX X (.ExceptHandler (some eŇ) (aĺ) cϮ BZ::rest) ((C,asN i ts)::al)
def C4 (K:iD):jÚ ->fR ->bÖ
 | [],_,_=>gÓ
 | (D,ts)::r,C,ea=>λE σ H=> ∃b,dU (nĬ) (ò ->ts ea E σ H) (b=false ->C4 K r C ea E σ H)
section
variable {X:Cx}{ai:ψ}{σ:St}{s':eY}
def Cp {E0:XK}(iM:kĀ)(J5:mĐ)(I:hψ)(fl:uP X.prog X.w X.stack H1 s1 E0 ev s')(ph:LX X hs al)(k: ∀cls d H',E0 cls d H' -> ∃C,dŵ /\ ∀ea,cς ->nÓ ->C4 X.K al C ea D σ lΦ): wpAny ϣ X.A (noteFrame ev X.env) (λ_ s₂=>wpAny ϣ X.A (setFlight ev none) (λ_ s₃=>wpAny ϣ X.A (handleBy ev X.env hs) dö X.xe s₃) X.xe s₂) X.xe s':=by
 let⟨ea,cls,a0,B,H2,rfl,os,bare,fl,c9,zT,un,kb,kt,hE⟩:=fl;let⟨C,rfl,kk⟩:=k _ _ _ hE;exact wpAny_looks_onW kſ J5 (iM▸fl) λh₄ Yh up₄=> ?_;exact wpAny_landsW Yh λh₅ YE up₅=> ?_;rw[<- iM] at YE;let⟨I5,ts5⟩:=ox I os bare fl c9 zT un kb kt YE (iÑ) (tk:=s'.toks);let⟨ob,hob,XX⟩:=YE.there;have key:=kk ea zT ts5;clear kk k;have matched: ∀ {A:Around} {b:Bool} {x:Str} {D':fR} {Q:Bool ->bϯ} {E:Υ},AA X.K x D' ->W.kitOne X.K Ń (.ref D')=aþ ->Q b jō ->wpAny ϣ A (excMatches că (.ref D')) Q E jō:=λ{A b x D' Q E} O hk hq=>by
  have O':=kĥ;by_cases hCD:C=D';subst hCD;have hb:ò:=by unfold W.kitOne at hk;rw[kώ] at hk;show(bC hk).symm
  let⟨bm,N,nm,qn,bs,hdct,sn,sub,ab,col,dd,k0,k1,k2,k3,k5,mN,hC,QU,XZ,TL⟩:=(O'.keeps I5.bk).obj;subst hb;show wpAny_excMatches_sub_self hC hob XX (TL.hasType iĪ) hq;show(Oy (M:=hð) I5.v9 O.k hCD hob XX hk).here hq
 induction ph with
 | nil=>show key.elim
 | @cons x np BZ b₀ sV D' ts rest al' hg O XI r oy ih=>
  let⟨b,hk,ht,hf⟩:=key;have O':=kĥ;exact qø;exact hÆ;cases b with
  | false=>show dϠ
  | true=>
   exact codeAny_handlers_suite ?_;exact pÂ;let⟨I6,ts⟩:=qÚ;exact bK (XI ea ai _ σ _ D iÒ (ht rfl)) hŖ hÇ;cases f with
   | next=>let⟨σ',H3,I8,q⟩:=h8;show jÛ
   | brk=>let⟨σ',H3,I8,q⟩:=h8;show jÛ
   | cont=>let⟨σ',H3,I8,q⟩:=h8;show jÛ
   | ret u=>let⟨v,σ',H3,I8,r,q⟩:=h8;show#[v,_,_,cϯ,r,q]
 | @name x n i np BZ b₀ sV D' ts rest al' hg O hN hi l5 XI r oy ih=>
  let⟨b,hk,ht,hf⟩:=key;have O':=kĥ;exact qø;exact hÆ;cases b with
  | false=>show dϠ
  | true=>
   exact codeAny_handlers_suite_as ?_;exact pÂ;let⟨I6,ts⟩:=qÚ;exact kx (X:=gĳ) iÒ hN hi (.inl l5) (v:= .ref ea) Ŏ (λs7 I7=> ?_) (.inr l5);exact bK (XI ea ai s7 _ _ _ I7 (ht rfl)) hŖ hÇ;have fin: ∀ {σ':St} {H3:Hp} {Q:Unit ->bϯ},Inv (gĳ) ai σ' H3 s8 ->(∀s9,Inv X ai (σ'.set i none) H3 s9 ->Q () s9) ->wpAny ϣ X.A (do kĘ;unbindBehindTheSuite X.env n BZ) Q X.xe s8:=λI8 hq=>Ol (cϯ) hN hi l5 hq;cases f with
   | next=>let⟨σ',H3,I8,q⟩:=h8;show lϫ
   | brk=>let⟨σ',H3,I8,q⟩:=h8;show lϫ
   | cont=>let⟨σ',H3,I8,q⟩:=h8;show lϫ
   | ret u=>let⟨v,σ',H3,I8,r,q⟩:=h8;show fin I8 λs9 I9=>#[v,_,_,I9,r,q]
def Pk (K:iD)(tb:Vl)(al:jÚ):TS:=λD σ H=>tb D (λσ' H1 cls _ H'=> ∃C,dŵ /\ ∀ea,cς ->nÓ ->C4 K al C ea D σ' lΦ) σ H
def MF {st:Stmt}(iM:kĀ)(J5:mĐ)(hb:PRS X st tb)(ph:LX X (h₀::hs) al): PS X (.Try [st] (h₀::hs) [] [] pos) (Pk X.K tb al):=by
 intro ai s σ H D I h;exact wpAny_Try_except (wpAny_execs_cons (bK (hb ai s σ H D _ I h) (fć) (by rintro ev s1 ⟨σ',H1,s0,I1,fl⟩;exact Cp iM J5 I1 fl ph λcls d H' z=>z)));cases f with
 | next=>show wpAny_execs_nil (hξ)
 | brk=>show q
 | cont=>show q
 | ret u=>show q
universe e
universe L2
namespace WL
open PySem L2
abbrev OK:=dj ->iϳ
abbrev Y9:=fG ->(dj ->WX) ->ύ
class IRE (K:PySem.W.Frag) (t:TR) (w:outParam OK):Prop where
 imp: ∀ (ρ:dj) (M:Mp) (σ:L2.St) (H:Hp) (q:WK) (Q:VK) (e:WX) (E:XH),ώ ->w ρ M q e ->pŶ ->(∀C M' H1 H',e C M' ->aϠ ->ű ->E H1 Ń none H') ->t σ H Q E
class IRS (K:PySem.W.Frag) (t:Vl) (w:outParam Y9):Prop where
 imp: ∀ (ρ:dj) (M:Mp) (σ:L2.St) (H:Hp) (D':fG) (D:mw) (e:dj ->WX) (E:L2.St ->XH),ώ ->w D' e ρ M ->dō ->(∀C ρ' M' σ' H1 H',e ρ' C M' ->aϠ ->E3 K H1 ρ' σ' ->ű ->E σ' H1 Ń none H') ->t D E σ H
section
variable {K:iD}
def wRK (C:fR)(p:uI)(a:WA):OK:=λρ M q e=>a ρ M λxs M1=> ∀x dx,cģ ->cϒ ->aĩ ->p (bŽ) (kĮ) (lϚ) e
instance {C:fR}{p:uI}{t:TA}{a:WA} [ia:ŋ]:IRE K (tRK C bŰ t) (wRK C p a) where
 imp:=λρ M σ H q Q e E o h k kE=>ia.imp ρ M σ H _ _ o h λxs M1 vs H1 h1 t1 m1 r1=>λx dx hx GK c6=>by
  have GH:lë:=by rw[bL aϮ];show hx
  have UJ:br H1 iώ:=hĥ;have Lj:br iώ oÙ:=hĦ;exact#[bŽ,kĮ,lϚ,e,pŌ,nÞ,nΜ,?_,λC M' H' h m=>kE C M' _ H' h (t1.trans (dπ)) m];rintro y M' u H' ⟨rfl,hq⟩ ts m' r';show pţ
def wRL (a:OK):OK:=λρ M q e=>a ρ M (λx M1=> ∀p,ţ ->q Đ (um M1 p cϭ)) e
instance {t:TR}{a:OK} [ia:IRE K t a]:IRE K (tRL t) (wRL a) where
 imp:=λρ M σ H q Q e E o h k kE=>ia.imp ρ M σ H _ _ e E o h (λx M1 v H1 h1 t1 m1 r1=>λp hp=>k _ _ _ _ (iĲ) mę (m1.om hp (cW.cons r1 cW.nil)) WR.v) kE
def wRA (i:Nat)(a:OK):Y9:=λD e ρ M=>oϬ
instance {i:Nat}{t:TR}{a:OK} [ia:IRE K t a]:IRS K (tRA i t) (wRA i a) where
 imp:=λρ M σ H D' D e E o h ends kE=>ia.imp ρ M σ H _ _ (e ρ) (E σ) o h (λx M1 v H1 h1 t1 m1 r1=>ends.nx _ _ _ _ h1 t1 #[(dŖ).set i r1,m1]) λC M' H1 H' h t1 m=>kE C ρ M' σ H1 H' h t1 (dŖ) m
def Ry (i:Nat)(s:WS):bØ:=λea D ρ M=>s (Ee i D) (ρ.set i (some (wr ea))) M
class IAs (K:PySem.W.Frag) (t:Addr ->TS) (w:outParam dϡ):Prop where
 imp: ∀ (ea:Addr) (ρ:dj) (M:Mp) (σ:L2.St) (H:Hp) (D':fG) (D:mw),ώ ->w ea D' ρ M ->dō ->t ea D σ H
instance {i:Nat}{t:TS}{s:WS} [is:IS K t s]:IAs K (asN i t) (Ry i s) where
 imp:=λea ρ M σ H D' D o h ends=>is.imp _ M _ H (Ee i D') (zW i D) #[o.env.set i WR.v,o.hp] h #[λρ' M5 σ' H5 h5 t5 o5=>ends.nx _ _ _ _ h5 t5 cŁ,ends.rt,λρ' M5 σ' H5 h5 t5 o5=>ends.bk _ _ _ _ h5 t5 cŁ,λρ' M5 σ' H5 h5 t5 o5=>ends.ct _ _ _ _ h5 t5 cŁ]
def qE (K:iD):jÜ ->fR ->bØ
 | [],_,_=>gÓ
 | (D,s)::r,C,ea=>λE ρ M=> ∃b,dU (nĬ) (ò ->dϢ) (b=false ->iŰ)
class IAg (K:PySem.W.Frag) (t:lĽ) (w:outParam (List (Addr× dϡ))):Prop where
 imp: ∀ (C ea:Addr) (ρ:dj) (M:Mp) (σ:L2.St) (H:Hp) (D':fG) (D:mw),ώ ->qE K w C ea D' ρ M ->dō ->C4 K t C ea D σ H
instance:IAg K [] [] where
 imp:=λ_ _ _ _ _ _ _ _ _ h _=>h.elim
instance {D:fR}{t:bÖ}{s:bØ}{r:jÚ}{r':jÜ} [is:IAs K t s] [ir:IAg K r r']:IAg K ((D,t)::r) ((D,s)::r') where
 imp:=(by rintro C ea ρ M σ H D' D o ⟨b,hk,h1,h2⟩ e;exact #[b,hk,λhb=>is.imp ea ρ M σ H D' D o (h1 hb) e,λhb=>ir.imp C ea ρ M σ H D' D o (h2 hb) e])
theorem Ur (hk:më=š)(h:dϢ):lϬ:=#[true, .mk hk (λ_=>h) λz=>nomatch z]
theorem Us (hk:më=Ů)(h:iŰ):lϬ:=#[false, .mk hk hĆ λ_=>h]
theorem KZ (h:dϢ):qE K ((C,s)::r) C ea E ρ M:=Ur (by unfold W.kitOne;rw[kώ]) h
def O4 (K:iD)(b:Y9)(al:jÜ):WS:=λD ρ M=>qÄ
instance {tb:Vl}{b:Y9}{al:jÚ}{wl:jÜ} [ib:IRS K tb b] [il:IAg K al wl]:IS K (Pk K tb al) (O4 K b wl) where
 imp:=λρ M σ H D' D o h ends=>ib.imp ρ M σ H D' D _ _ o h ends λC ρ' M' σ' H1 H' h t1 en m=>#[C,rfl,λea zT tsm=>il.imp C ea ρ' jÝ σ' _ D' D #[en.ts tsm,m.put (L2.fY.ts (cq zT)) ce] (h ea (m.fresh zT)) (ends.of t1 tsm)]
theorem VA:wRA i a D e ρ M=oϬ:=rfl
theorem Vy:wRL a ρ M q e=a ρ M (λx M1=>om q M1 cϭ) e:=rfl
theorem Vz:wRK C p a ρ M q e=a ρ M λxs M1=> ∀x dx,cģ ->cϒ ->aĩ ->Rf p (bŽ) (kĮ) (lϚ) e:=rfl
theorem L7:O4 K b al D ρ M=qÄ:=rfl
universe e
universe WL
namespace WQ
open PySem L2 WL WP
def Wl {α:Type}(l:Ý):l= [] \/ ∃l' z,l=l'++ [z]:=by obtain h | ⟨l',z,h⟩:=List.eq_nil_or_concat l;show ağ;show .inr #[l',z,by rw[h,List.concat_eq_append]]
def DG (P:bŗ)(h0:0<=y)(h1:y<xs.length)(hP: ∀x∈xs,P x)(hk: ∀x,P x ->k x):xI (lJ xs y) k:=by
 have hj:y.toNat<xs.length:=by omega
 show#[xs[y.toNat],yt h0 aϣ,hk _ (hP _ (c5 _))]
def eT.sums (h:eΚ)(n:Int):eT s p sts λx=>j7 f s n x:=by
 obtain⟨m,rfl | rfl⟩:=n.eq_nat_or_neg;induction m with
 | zero=>show eT.zero
 | succ m ih=>show(ih.add (h.shift m)).ext λx=>by rw[Int.natCast_add,Int.natCast_one,fQ]
 induction m with
 | zero=>show eT.zero
 | succ m ih=>exact(ih.add ((h.shift (eŶ)).mul Î)).ext Ĺ;have e:=kϏ;rw[show lþ by exact LqIx (Lqi [_] mϦ Ņ ø ø LqI0 rfl) (Lqi [_] Ņ mϦ ø ø LqI0 rfl)] at e;rw[Int.natCast_add,Int.natCast_one,e];congr 1;lia
def Hx (n x:Int):j7 hŗ s n x=j7 f s n x - j7 g s n x:=by
 obtain⟨m,rfl | rfl⟩:=n.eq_nat_or_neg;induction m with
 | zero=>rfl
 | succ m ih=>rw[Int.natCast_add,Int.natCast_one,fQ,fQ,fQ,ih];exact rÆ
 induction m with
 | zero=>rfl
 | succ m ih=>have e1:=fQ hŗ s (eŶ) x;have e2:=kϏ;have e3:=fQ g s (eŶ) x;rw[show lþ by lia] at e1 e2 e3;rw[Int.natCast_add,Int.natCast_one];exact LqIx (Lqi iÓ Lq0 eŧ (.a Lq3 (.a (.a Lq0 eϔ) (.a Lq6 eò))) (.a eϦ (.a Lq3 (.a eð Lq7))) (LqIp (LqIe ih) (LqIp (LqId e1) (LqIp (LqIe e2) ((LqId e3))))) rfl) (Lqi iÓ Β Lq2 (.a eϧ (.a Lq5 (.a (.a Lq0 Lq6) Lq4))) (.a Lq5 (.a (.a Lq2 eϦ) (.a Lq3 (.a Lq1 Lq7)))) (LqIp (LqId ih) (LqIp cē (LqIp (LqId e2) ((LqIe e3))))) rfl)
def My (p0:0<p){rest:Pt}(l1:aò=s)(lP:cϫ)(rP:cĬ)(XQ:eT s p sts λx=>dΘ - look aó x)(an:a.1=s*n)(hr:lw p lap (-n) r)(hl:eT s p sts (look cϩ.2))(nO:lw p bϘ (-n) r'): oŕ:=by
 have e0:r'.1=s* -n:=nO.en;have er:r'.1= -a.1:=by rw[e0,an,eh]
 exact#[(by exact LqIx (Lqi Û μ ø Lq0 ŕ (LqIe er) rfl) (Lqi Û ø μ ŕ Lq0 (LqId er) rfl)),?_];have hS:=XQ.sums (-n);exact((hl.shift (-n)).add hS).ext Ĺ;have h1:look fΘ x=(dh r'.2 x+iÔ) % p:=by change look (lH p (r'.2++mv r'.1 a.2)) x=_;rw[jD p0,fL,sR]
 have h2:look cϩ.2 (x - s* -n)=(iÔ+dh r.2 x) % p:=by change look (lH p (a.2++mv a.1 r.2)) _=_;rw[jD p0,fL,sR, <- e0,er];congr 3;exact LqIx (Lqi Û lε Lq0 ø ø LqI0 rfl) (Lqi Û Lq0 lε ø ø LqI0 rfl)
 have h3: ∀x,dh rest x=dΘ:=λx=>sS rP.2 x;have h4: ∀x,dh aó x=look aó x:=λx=>sS lP.2 x;have h5:=nO.at_ x;have h6:=hr.at_ x;have e3:dh rest=look rest:=funext h3;have e4:dh aó=look aó:=funext h4;rw[show(bϘ:Rd).2=rest from rfl,show(bϘ:Rd).1=s from rfl,e3] at h5;rw[l1,e4] at h6;rw[h1,h2,h5,h6,Hx,cG,dQ,dQ];generalize j7 (look rest) s (-n) x=C;generalize j7 (look aó) s (-n) x=B;generalize iÔ=D;rw[show D+B % p+(C - B)=D+(C - B)+B % p by exact LqIx (Lqi ř (.a μ eŹ) (.a (.a Lq0 eŹ) Lq1) ø ø LqI0 rfl) (Lqi ř (.a j϶ Lq3) (.a ν eŧ) ø ø LqI0 rfl),Int.add_emod_emod];congr 1;exact LqIx (Lqi Ğ μ (.a (.a Lq1 eŷ) Lq2) ø ø LqI0 rfl) (Lqi Ğ mŝ π ø ø LqI0 rfl)
def iO (a:Rd)(m r:Int):Bool:= !(decide (mİ <=m) && pò)
def Iz:ik:=λxs M q=>gL λ aŔ (e r:Int)=>dU (xs= [gz a,wi e,wi r]) jϚ (q (wb (!iO a e r)) M)
def Sz:ik:=λxs M q=> ∃a:Rd,dU eϨ jϚ (q (hÈ) M)
def Eh (h:gĴ):_Z m r a:=by simp![iO,Bool.not_eq_false',Bool.and_eq_true,cQ,List.all_eq_true] at h;exact#[by have:=h.1;split at this<;>lia,dŦ];have:=bδ;split at this<;>lia
def L5 (h:_Z m r a):gĴ:=by simp![iO,Bool.not_eq_false',Bool.and_eq_true,cQ,List.all_eq_true];exact#[by have:=h.1;split<;>lia,dŦ];have:=bδ;split<;>lia
def W4 (C1 C2:fR):uI:=λxs M q e=>c7 λ aμ cϪ=>nD eϟ mį (∀a∈ms,iϰ) (eϞ ->(∀a∈ms,cł=false) ->q wn M) kō pÃ
def MZ (C:fR):ik:=λxs M q=>E1 λ cļ hŒ cĚ (lap a:Rd) (_:Unit)=>p9 (xs= [wr o,gz lap,gz a]) (M o=iό) (fs.lookup cϬ=ζ /\ nγ /\ fs.lookup fΗ=none) (0<p /\ aő /\ Ñ /\ s<=8) (aò=s /\ cϫ /\ Bd 40 aó) (bŶ /\ _Z 8 24 a) (s ∣ a.1) (∀r r0:Rd,r=jn p a r0 ->kϐ ->cO p r.2 ->Bd 56 r.2 ->q (gz r) M)
structure CrR (p s:Int)(ms:List Rd)(sts:İ)(rest:Pt):Prop where
 f:hŘ
 rm: ∀a∈ms, ∀r',lw p bϘ (-bϚ) r' ->oŕ
def SD (C C1 C2:fR):uI:=λxs M q e=>Gq λ(o dx u:fR) Ī cϪ=>p9 (xs= [wr o,Í,wr u]) (M o=some gÁ) mį (o≠u) ϰ oİ (bÔ -> ∀ (M':Mp) (v w z:fR) (sts:ì) (rest:Pt),oċ ->(∀b ob,aô ->dϤ ->M' b=Ġ) ->M' o=pŭ ->aϦ) (kō /\ pÃ)
def W1 (C:fR):ik:=λxs M q=>E1 λ cļ Ī cϪ (v w z:fR) dΙ=>c7 λ(rest:Pt) aŔ=>E2 (xs= [wr o,gz a]) (M o=pŭ) ϰ (bÔ) (oċ) (a∈ms) (gΘ)
theorem YM {rest:Pt}:nï cϬ=ζ:=rfl
theorem aex {rest:Pt}:nï fΗ=none:=rfl
theorem aew {rest:Pt}:nï ("room" :Str)=none:=rfl
def DP (h:s ∣ e):e=s*pc s e:=by unfold pc;by_cases z:s=0;rw[Ó,c_];rw[z] at h;show Int.zero_dvd.mp h;rw[Ô];show(Int.mul_ediv_cancel' h).symm
def Kd {ms:añ}(h:a∈ms):(lÿ:Int) ∣ a.1:=by have:=Eg a.1 (ah.mpr #[a,h,rfl]);show pÄ
theorem Mh {pat rest:Pt}(tk:nŞ):eT s p sts λx=>dΘ - cϞ:=#[dΟ,λx=>by rw[Int.sub_emod,tk.eqv x, <- Int.sub_emod];congr 1;exact LqIx (Lqi Û (.s μ Lq0) Lq1 ø ø LqI0 rfl) (Lqi Û Lq0 (.s π Lq1) ø ø LqI0 rfl)]
theorem Vq (h:aō)(w:Wt b l):aś:=λz hz=>by exact w z.1 ?_;rw[Jf h.2 hz];have:=(bŚ).1;exact λe=>Lqf [_] ϲ ϕ kġ rfl
def SA:ik:=λxs M q=> ∃a:Rd,dU eϨ jϚ (q (wb (cł)) M)
def aa2 (C:fR):ik:=λxs M q=>gL λ aμ Ī cϪ=>E2 (xs= [Í,wr u]) mį ϰ oİ (dϣ -> ∀t M',Ĩ ->M' t=some (.lst [ws "many",aϥ,bł]) ->dΕ) (eϞ ->lζ -> ∀t M',Ĩ ->M' t=some (.lst [ws "far",aϥ,bł]) ->dΕ) (bÔ -> ∀ (o dx v w z:fR) (sts:ì) (rest:Pt) t M',Ĩ ->M' t=some (.lst [wr o]) ->M' o=pŭ ->oċ ->dΕ)
def Na:ik:=λxs M q=>m_ λ bţ Ī aŔ=>nD (xs= [wr d,Í,gz a]) (bŖ) (eϩ) (bŶ) (cΡ<=1000) (∀ (b:Rd) (M':Mp),cO p b.2 ->b.2.length<=cΡ+1 ->cė ->cĘ ->q (gz b) M')
universe WQ
set_option synthInstance.maxSize 100000
set_option synthInstance.maxHeartbeats 0
open PySem L2 WL WP WQ EN PyProof.Rows
local macro_rules | `(tactic| simp? [$xs,*]) => do let a <- ("abc aet aa5 aeK abn abo afa aaU aaG aaH aaI abj aam aal aak aaj aai aah aag aaf aae aad ZC ZB ZA Zz Zy Zx Zw Zv Zu Zt Zs Zr Zq Zp afk aeV aeS afj ae0 afi ae1 aeW ZD aaz aeU aaq ZN aap ZG aeZ aar ZK aan aas aav aau UD abp ZF aeT aao ae2 ZM aat aaB UF UE Rr ae3 UI aay Vw ZI ZJ UH VL ZW Z0 ZZ aaQ ZV ae4 aaT aaF aaR Ww aaS Wq ZO aaE ZP aaC aaD ZE _l abm aa6 _k ZL aac VM NP aaM aaw aeY aeX VJ Mq Mr aax ZY abq Xs UG ZH Wx".splitOn " ").toArray.mapM λs => `(Lean.Parser.Tactic.simpLemma| ↓ $(Lean.mkIdent s.toName):term); let b <- ("Qx NL Qw Ly NK NN LA NM Jt Lz Qv NH Qu Lv NG FE DZ FD BJ DY Lu Jr Lr GG Jq NJ Lx NI Js Lw sl1 sl2 sl3 sl4 sl5 sl0 List.map_cons List.map_nil List.length_cons List.length_nil Nat.zero_add List.cons_append List.nil_append List.set_cons_zero List.set_cons_succ av qF Rh afg aff afe ae9 ae8 ae7 Bool.not_true Bool.not_false List.getElem?_cons_zero List.getElem?_cons_succ Option.join_some and_self and_true true_and Option.getD_some Option.getD_none nC".splitOn " ").toArray.mapM λs => `(Lean.Parser.Tactic.simpLemma| $(Lean.mkIdent s.toName):term); `(tactic| try simp only [$a,*, $b,*, Nat.reduceAdd, Nat.reduceSub, List.reduceReplicate, $xs,*])
local macro_rules | `(tactic| dsimp? [$xs,*]) => `(tactic| (simp? [↓fb, $xs,*]; repeat (with_reducible refine l4 ?_; simp? [↓fb, $xs,*])))
local macro_rules | `(tactic| trivial) => `(tactic| first | exact Or.inl rfl | exact Or.inr rfl)
local macro_rules | `(tactic| right) => `(tactic| decide +kernel)
local macro_rules | `(tactic| left) => `(tactic| (intro _ _ _ h; (repeat (cases h; rename_i h)); subst_vars; rfl))
set_option hygiene false
local macro_rules | `(tactic| exists $a, $n, $c) => `(tactic| (have nd : List.Nodup ($n : List Str) := (by decide +kernel); refine Z8 (N := $n) $a ⟨rfl, rfl, rfl, nd, rfl, by decide +kernel, by decide +kernel⟩ (by left) λcdv A' outer s H E hr => ?_; refine ⟨_, $c, ?_⟩; (try dsimp only [iQ]); refine ⟨_, inferInstance, ?_⟩))
set_option hygiene true
set_option hygiene false
local macro_rules | `($a ∩ $b) => `(dW (show Zi _ (Sa K) from dH) $a $b (λ_ _ => rfl))
local macro_rules | `($a ∪ $b) => `(dW (show Zi _ (R_ K) from iA) $a $b (λ_ _ => rfl))
local macro_rules | `($i \ $e) => `(Sf (i := $i) nd rfl (by trivial) $e)
set_option hygiene true
namespace iZ
open PySem L2 WL WP WQ EN PyProof.Rows
nonrec def top (i:Nat):Stmt:=PySem.Challenge.pw_duskround_k36_crews_refused.main.body.getD i (hħ)
nonrec abbrev A5:Stmt:=top 6
nonrec abbrev Dj:Stmt:=top 7
nonrec abbrev xv:Stmt:=top 8
nonrec abbrev xt:Stmt:=top 9
nonrec abbrev xu:Stmt:=top 11
nonrec abbrev ze:Stmt:=top 12
nonrec abbrev tw:Stmt:=top 13
nonrec abbrev jr:Stmt:=top 14
nonrec abbrev j8:Stmt:=top 15
nonrec abbrev vP:Stmt:=top 17
nonrec abbrev PM:Stmt:=wd (top 19) 0
nonrec abbrev Dk:Stmt:=wd (top 20) 0
nonrec abbrev zf:Stmt:=top 21
nonrec abbrev ju:Stmt:=top 22
nonrec abbrev mE:Stmt:=top 23
nonrec abbrev nH:Stmt:=top 25
nonrec abbrev qM:Stmt:=top 26
nonrec abbrev jU:Stmt:=top 27
nonrec abbrev PL:Stmt:=top 28
nonrec abbrev Di:Stmt:=top 29
nonrec abbrev kT:Stmt:=top 30
nonrec abbrev Dh:Stmt:=top 31
nonrec abbrev vM:Stmt:=top 32
nonrec abbrev vL:Stmt:=top 33
nonrec abbrev vN:Stmt:=top 34
nonrec abbrev si:Stmt:=top 35
nonrec abbrev qL:Stmt:=top 44
nonrec abbrev iV:Stmt:=top 45
nonrec abbrev jt:Stmt:=top 46
nonrec abbrev zb:Stmt:=top 47
nonrec abbrev tq:Stmt:=top 48
nonrec abbrev tz:Stmt:=wd bϛ 0
nonrec abbrev qP:Stmt:=wd bϛ 2
nonrec abbrev oS:Stmt:=wd bϛ 3
nonrec abbrev qO:Stmt:=wd bϛ 5
nonrec abbrev qj:Stmt:=top 51
nonrec abbrev zd:Stmt:=top 52
nonrec abbrev PK:Stmt:=top 53
nonrec abbrev tf:Stmt:=top 54
nonrec abbrev qJ:Stmt:=top 55
nonrec abbrev xw:Stmt:=top 56
nonrec abbrev qK:Stmt:=top 57
nonrec abbrev xx:Stmt:=top 58
nonrec abbrev vO:Stmt:=top 59
nonrec abbrev zc:Stmt:=top 60
set_option genInjectivity false in
set_option genSizeOf false in
structure Adr where
 Kk:Addr
 Kw:FuncData
 Er:Addr
 EJ:FuncData
 Em:Addr
 EF:FuncData
 Ei:Addr
 EB:FuncData
 El:Addr
 EE:FuncData
 z5:Addr
 Af:FuncData
 ul:Addr
 uw:FuncData
 jG:Addr
 jI:FuncData
 nR:Addr
 nU:FuncData
 wB:Addr
 wN:FuncData
 Q7:Addr
 Ra:FuncData
 Es:Addr
 EK:FuncData
 z6:Addr
 Ag:FuncData
 l9:Addr
 me:FuncData
 wD:Addr
 wO:FuncData
 nS:Addr
 nV:FuncData
 qX:Addr
 rn:FuncData
 jY:Addr
 j5:FuncData
 Q6:Addr
 Q_:FuncData
 Ek:Addr
 ED:FuncData
 pM:Addr
 pT:FuncData
 Ej:Addr
 EC:FuncData
 wv:Addr
 wJ:FuncData
 wu:Addr
 wH:FuncData
 ww:Addr
 wK:FuncData
 Ep:Addr
 EI:FuncData
 qW:Addr
 rh:FuncData
 lu:Addr
 lv:FuncData
 jH:Addr
 jJ:FuncData
 zZ:Addr
 Ac:FuncData
 uk:Addr
 uv:FuncData
 Kl:Addr
 Kx:FuncData
 qZ:Addr
 rA:FuncData
 pN:Addr
 pU:FuncData
 qY:Addr
 rq:FuncData
 wx:Addr
 wL:FuncData
 z4:Addr
 Ae:FuncData
 Q5:Addr
 Q9:FuncData
 z3:Addr
 Ad:FuncData
 qU:Addr
 re:FuncData
 En:Addr
 EG:FuncData
 qV:Addr
 rf:FuncData
 Eo:Addr
 EH:FuncData
 wA:Addr
 wM:FuncData
 Q4:Addr
 Q8:FuncData
 gE:Addr
 gD:Addr
 fT:Addr
 d3:Addr
 dY:Addr
 dZ:Addr
structure jo (K:PySem.W.Frag)(mg:iā)(A:Adr):Prop where
 p6:mg eŅ =none
 rE:mg "abs" =none
 KO:mg "all" =none
 Ct:mg aĵ =none
 mj:mg dĆ =none
 Y4:mg "int" =none
 gq:mg eň =none
 rD:mg "len" =none
 h_:mg ÿ =none
 Y3:mg aâ =none
 jg:mg aό =none
 jO:mg bĻ =none
 pZ:mg aΧ =none
 tidy:j6 K mg "tidy" ["p","pairs"] A5 A.Kk A.Kw
 added:j6 K mg "added" jÞ Dj A.Er A.EJ
 moved:j6 K mg "moved" hř xv A.Em A.EF
 timed:j6 K mg "timed" jß xt A.Ei A.EB
 still:j6 K mg "still" [] xu A.El A.EE
 joined:j6 K mg "joined" jÞ ze A.z5 A.Af
 backward:j6 K mg "backward" ["p",ï] tw A.ul A.uw
 repeated:j6 K mg "repeated" hÉ jr A.jG A.jI
 lies_within:j6 K mg "lies_within" nϰ j8 A.nR A.nU
 inverse:j6 K mg "inverse" ["p",ť] vP A.wB A.wN
 Row:Rl K mg "Row" "Row.__init__" lĀ PM A.d3 A.Q7 A.Ra
 Stair:Rl K mg "Stair" "Stair.__init__" nΧ Dk A.dY A.Es A.EK
 column:j6 K mg "column" iű zf A.z6 A.Ag
 first_column:j6 K mg "first_column" jà ju A.l9 A.me
 heights:j6 K mg "heights" lϭ mE A.wD A.wO
 add_shifted:j6 K mg "add_shifted" mŧ nH A.nS A.nV
 add_moved:j6 K mg "add_moved" oÎ qM A.qX A.rn
 too_high_or_low:j6 K mg "too_high_or_low" iŲ jU A.jY A.j5
 cut:j6 K mg "cut" mþ PL A.Q6 A.Q_
 stood:j6 K mg "stood" jŎ Di A.Ek A.ED
 told_parts:j6 K mg "told_parts" iÕ kT A.pM A.pT
 taken:j6 K mg "taken" nð Dh A.Ej A.EC
 rest_of:j6 K mg "rest_of" nð vM A.wv A.wJ
 take_in:j6 K mg "take_in" lϮ vL A.wu A.wH
 lie_low:j6 K mg "lie_low" kØ vN A.ww A.wK
 built:j6 K mg "built" lľ si A.Ep A.EI
 fits_crew:j6 K mg "fits_crew" [ï] qL A.qW A.rh
 check_members:j6 K mg "check_members" [cń] iV A.lu A.lv
 greatest_divisor:j6 K mg "greatest_divisor" [aπ] jt A.jH A.jJ
 row_to:j6 K mg "row_to" [aπ,Ř] zb A.zZ A.Ac
 gone_row:j6 K mg "gone_row" kÙ tq A.uk A.uv
 Crew:Rl K mg "Crew" "Crew.__init__" kŎ tz A.dZ A.Kl A.Kx
 qC:Zf K "laps" "Crew.laps" gĶ qP A.dZ A.qZ A.rA
 uR:Zf K "level" "Crew.level" jŏ oS A.dZ A.pN A.pU
 xa:Zf K "room" "Crew.room" [aξ,ï] qO A.dZ A.qY A.rq
 DQ:j6 K mg "_law_begin" hÊ qj A.wx A.wL
 iY:j6 K mg "_law_take" [θ,dϥ] zd A.z4 A.Ae
 l_p:j6 K mg "_law_p" [θ] PK A.Q5 A.Q9
 BG:j6 K mg "_law_tidy" [Ξ,eϪ] tf A.z3 A.Ad
 v5:j6 K mg "_law_pattern" pó qJ A.qU A.re
 Qs:j6 K mg "_law_sum" pŃ xw A.En A.EG
 v6:j6 K mg "_law_far_one" nΨ qK A.qV A.rf
 Qt:j6 K mg "_law_far" eϫ xx A.Eo A.EH
 DS:j6 K mg "_law_asked" [Ξ,gķ] vO A.wA A.wM
 law:j6 K mg aë hÊ zc A.Q4 A.Q8
 n_Crew_head:dC K A.dZ "head"
 n_Crew_makers:dC K A.dZ bϗ
 n_Crew_p:dC K A.dZ "p"
 n_Crew_rounds:dC K A.dZ bϕ
 n_Crew_stairs:dC K A.dZ bϖ
 n_Crew_stride:dC K A.dZ Ř
 n_Crew_surplus:dC K A.dZ cŀ
 n_Crew_way:dC K A.dZ "way"
 n_Row_lamps:dC K A.d3 ĭ
 n_Row_parts:dC K A.d3 Į
 n_Stair_first:dC K A.dY į
 n_Stair_foot:dC K A.dY aŤ
 n_Stair_lamps:dC K A.dY ĭ
 n_Stair_length:dC K A.dY bε
 n_Stair_parts:dC K A.dY Į
 jp: ∃t,mg "FARTHEST_END" =some (.int 8 t)
 kr: ∃t,mg "FARTHEST_PLACE" =some (.int 24 t)
 lL: ∃t,mg "MOST_MEMBERS" =some (.int 6 t)
 nM:mg "StreetError" =some dϧ
 Jd:mg "TooFar" =some dϨ
 Fx:mg "TooMany" =some dϩ
 lK:AA K "TooFar" A.gD
 kq:AA K "TooMany" A.fT
 l3:PySem.W.kitOne K dϨ dϧ=š
 kI:PySem.W.kitOne K dϨ dϩ=Ů
 nn:PySem.W.kitOne K dϨ (.type eŅ)=š
 lz:PySem.W.kitOne K dϩ dϧ=š
 qx:PySem.W.kitOne K dϩ dϨ=Ů
 lZ:PySem.W.kitOne K dϩ (.type eŅ)=š
theorem za:f9 [] [] (bg xu):=oŖ
theorem jT:f9 nϱ hÉ (bg jr):=oŖ
theorem kA:f9 [cń,ï] [cń] (bg iV):=oŖ
theorem Dg:f9 pυ kŎ (bg tz):=oŖ
theorem s_:f9 hÊ hÊ (bg qj):=oŖ
theorem HI:f9 qé hÊ (bg zc):=oŖ
def Fs {K:iD}(T:Ŧ):cD P w K mg base gT 1 A.z6 A.Ag iű (iG K aa1):=by
 exists T.column.fn,iű,(aG (gr lā hś eU) (aS (bZ kÚ)))
 rintro vs M q ⟨x,s,rfl,s0,s1,k⟩;dsimp? [];exact kŏ;dsimp? [];rw[b_,am h] at k;show Õ;have h0:0<s:= qõ;dsimp? [h0];rw[b_,aj h] at k;show Õ
def iX {K:iD}(T:Ŧ):cD P w K mg base gT 2 A.l9 A.me jà (iG K IJ):=by
 exists T.first_column.fn,jà,(aS (bZ (MQ Ŏ T.Y3 rfl (fZ rfl (dS.of (sc:=bg ju) (N:= jà) (own:= [Ĳ]) (fr:= [1]) (N':= iű)) dϫ (λ_ _ _ _=>(a9 (i:=0) (by change(iű:ĉ).Nodup;decide+kernel) rfl Ζ)) fS ϛ (λ_ _ _ _=>(aU T.column (Fs T) hr lθ))) Is)))
 rintro vs M q ⟨a,ns,s,rfl,ha,hl,s0,s1,k0,k1⟩;dsimp? [G1,ha];exact kL (λx:Int=>wi bŻ) pż jŐ ?_ γ;intro x hx M3 N s3 hN;dsimp? [];exact#[x,s,rfl,s0,s1,?_];dsimp? [];show hN;dsimp? [];exact#[t,ns.map aŝ,rfl,by rw[av,aK];rfl,λe=> ?_,dð];dsimp? [];show#[M,aö,k0 Å];dsimp? [];have c6:bŪ:=by rintro rfl;show absurd hm.1 ś
 rw[ja.uniq hm (gB ⇑c6)];show#[M,aö,k1 c6]
def tP {K:iD}(T:Ŧ):cD P w K mg base gT 1 A.wD A.wO lϭ (iG K aaZ):=by
 exists T.heights.fn,lϭ,(aG (gr lā (aS (bZ (fZ rfl (dS.of (sc:=bg mE) (N:= lϭ) (own:= [Ĳ]) (fr:= [2]) (N':= [Ĳ,į])) dϫ (λ_ _ _ _=>(a9 (i:=0) (by change([Ĳ,į]:ĉ).Nodup;decide+kernel) rfl Ζ)) fS (λ_ _ _ _=>(sq (dF lS ė ĕ Ė))) (λ_ _ _ _=>aL)))) eU) (aS (bZ (cg Cq Ŏ T.jO Boot.«sorted» (ae (fZ rfl (dS.of (sc:=bg mE) (N:= lϭ) (own:= [Ĳ]) (fr:= [1,2]) (N':= lι)) dϫ (λ_ _ _ _=>(a9 (i:=0) (by change(lι:ĉ).Nodup;decide+kernel) rfl Ζ)) fS (λ_ _ _ _=>(sq (dF lS kÚ Ę Ė))) (λ_ _ _ _=>(bW sv ė ĕ))) ax)))))
 rintro vs M q ⟨a,ns,s,f,rfl,ha,hl,s0,s1,k⟩;dsimp? [];exact kŏ;subst h;dsimp? [ha];exact uC (λx:Int=>eϬ) (λx:Int=>wi 0) pż jŐ ?_ γ;intro x hx M3 N s3 hN;dsimp? [];exact kŏ;dsimp? [];simpa only[h,decide_true,ci] using hN;dsimp? [];simpa only[h,decide_false,aD,bB] using hN;dsimp? [];have e:(ns.filter λx=>eϬ).map (λ_=>wi 0)=(pC 0 f ns).map wi:=by unfold pC;rw[aK];rfl
 rw[e];exact km (k t _ ht (List.Perm.refl _) ?_);unfold pC;rw[cB];show List.pairwise_of_forall λ_ _=>Ï;have h0:0<s:= qõ;have cd: ∀x,AB x s=True:=λx=>by simp[AB];lia
 dsimp? [ha,h0,cd];exact uC (λx:Int=>hŜ) (λx:Int=>wi (x / s)) pż jŐ ?_ γ;intro x hx M3 N s3 hN;dsimp? [h0];exact kŏ;dsimp? [h0,cd];simpa only[h,decide_true,ci] using hN;dsimp? [];simpa only[h,decide_false,aD,bB] using hN;dsimp? [GY];have e:(ns.filter λx=>hŜ).map (λx=>wi (x / s))=(cġ).map wi:=by unfold pC b_ hI;rw[aK];simp![h,bB];rfl
 exact#[t,cġ,rfl,by rw[av,e],λp ms hp h1 h2=> ?_];dsimp? [];show#[_,RW ht hp,k p ms (by rw[aE (λz=>by rw[z,av] at hp;cases hp)] at hp;show hp) h1 h2]
def tQ {K:iD}(T:Ŧ):cD P w K mg base gT 1 A.Q7 A.Ra lĀ (iG K (Sx A.d3)):=by
 have cl:=dϬ;have n1:=hŝ;have n2:=hŞ;exists T.Row.fn,lĀ,(aG kŐ (aS kő))
 rintro vs M q ⟨s,dx,l,r,rfl,hs,k⟩;have e1:nδ:=rfl;have e2:gN Į r [ių]= [ių,(ϐ,r)]:=rfl;dsimp? [hs,cl,n1,n2,e1,e2,Nat.reduceLT];show Õ
def IX {K:iD}(T:Ŧ):cD P w K mg base gT 1 A.Es A.EK nΧ (iG K (IF A.d3 A.dY)):=by
 have cl:=dϬ;have cl2:=fΚ;have n1:=hŝ;have n2:=hŞ;have m1:=iŴ;have m2:=iŵ;have m3:=iŶ;have m4:=já;have m5:=iÖ;exists T.Stair.fn,nΧ,(aG mΖ (aG mΖ (aG kő (aG (gJ ė ę rfl) (aS (gJ ė Ě rfl))))))
 rintro vs M q ⟨s,dx,r,dr,l,u,f,g,e,rfl,hsr,hs,hr,k⟩;have f1: oū Ϗ=some l:=rfl;have f2: oū ϐ=þ:=rfl;have e1:nδ:=rfl;have e2:gN Į u [ių]= [ių,iŷ]:=rfl;have e3:gN į f [ių,iŷ]= pė:=rfl;have e4:gN bε g pė= pϩ:=rfl;have e5:gN aŤ e pϩ= [ių,iŷ,iŸ,jâ,(fΜ,e)]:=rfl;dsimp? [hs,hr,cl,cl2,n1,n2,m1,m2,m3,m4,m5,f1,f2,e1,e2,e3,e4,e5,aE (aZ hsr),Nat.reduceLT];show Õ
def lU {K:iD}(T:Ŧ):cD P w K mg base gT 1 A.nS A.nV mŧ (iG K W6):=by
 exists T.add_shifted.fn,["p",aο,"others","by","n","key",ť,"now"],(aS (Ds (fV bO rfl (zn rfl Ę) qă (aG (7\(bW iw (bW fi (oW ĳ ĕ kÛ aL mŨ) (bW fN Ĝ Ě)) ė)) (aS (gr (dF IL aς aL Ė) (aS (mH ĳ ĕ kÛ aς rfl)) (aS (MJ ĕ kÛ))))))))
 rintro vs M q ⟨h,o,p,pY,n,a,b,rfl,_C,hh,ho,p0,p1,ga,gb,nz,hl,k⟩;exact#[o,_,ho,?_];dsimp? [ho];intro ob ks;have B0:(fP b).map mÿ=bϝ:=by unfold fP;rw[aK];rfl
 rw[B0];exact ip (λi ρ M'=>m_ λ(o1 o2 o3:Ê) (c:Pt)=>E2 (ρ= [ζ,some (wr h),dϭ,some (wi pY),dϮ,o1,o2,o3]) (M' h=some eζ) (M' o=some (.fz ob ks (fP b))) (∀d,d≠h ->d≠o ->M' d=M d) (aţ) (c.length<=a.length+i) (∀x,Ŗ=(ő+dh (hş) x*n) % p)) #[none,none,none,a,rfl,by rw[aE _C];show hh,av,λd _ h2=>aE h2,ga,Á,λx=>by have:=ga.range p0 x;simp[PH,dh];show(db ü ú).symm] ?_ ?_ ?_;rintro i ρ M' _ ⟨o1,o2,o3,c,rfl,_,h2,_⟩;show h2;rintro i x ρ M' hx ⟨o1,o2,o3,c,rfl,h1,h2,h3,gc,lr,N_⟩ N hN;let⟨z,hz,rfl⟩:=dϯ;have Oc:=eϭ;have hzr:=gb.2 z (az hz);have cm:fΝ:=kÜ;have hs:((fP c).length<sizeLine)=True:=by rw[fP,aa];show aX (vm (by exact Lqj ř Lq0 Ο oČ oÏ (LqNp hl (LqNp lr Oc)) rfl))
 have Pz: ∀x,(ő+dh (jő) x*n) % p=if x=aŒ then kϑ % p else Ŗ:=λx=>by
  have e:jő=hş++ [eŦ]:=by rw[bw,hz];unfold PH;rw[aO];rfl
  rw[e,oM];by_cases ex:x=aŒ;subst ex;rw[ą,ą,N_,dQ,Int.add_mul,Int.add_assoc];rw[aj ex,aj (λq=>ex q.symm),N_,bF]
 dsimp? [cN,h1,sC,cm,p0];exact JC (λc6=> ?_) λhe=> ?_;have h0:=dy kϑ qķ;have hp:=cV kϑ p0;dsimp? [h1,hs,sk];exact hN _ _ #[_,_,_,nj c (aŒ) (kϑ % p),rfl,av,by rw[aE (aZ _C)];show h2,λd d1 d2=>by rw[aE d1];show cϱ,gc.put (by exact Lqi [_] Ϣ Lq0 Ϣ Lq0 (LqIk h0 (Ne.symm c6)) rfl) hp,aI tZ (by exact Lqj Ğ ϒ Ϭ Lq0 ο lr rfl),Ĺ];rw[Pz,qu];have abR:((fI (fP c) (Sum.inl (aŒ))).isSome=true)=True:=aX (Og λe0=>by rw[e0,cw] at he;show nz z.2 hzr.1 hzr.2 he);dsimp? [h1,abR,Ks];exact hN _ _ #[_,_,_,hW c (aŒ),rfl,av,by rw[aE (aZ _C)];show h2,λd d1 d2=>by rw[aE d1];show cϱ,gc.drop _,aI (FC _ _) (by exact Lqj Ğ Lq0 Ϭ Lq0 ο lr rfl),Ĺ];rw[Pz,BE,he];rintro ρ M' ⟨o1,o2,o3,c,rfl,h1,h2,h3,gc,lr,N_⟩;rw[aa] at lr N_;rw[bJ] at N_;exact#[ob,ks,fP b,h2,um M h eζ,eϮ,k c gc lr Ĺ];by_cases d1:d=h;subst d1;rw[av] at e;rw[aE _C,h1];show e;rw[aE d1] at e;by_cases d2:d=o;subst d2;rw[av, <- ho];show e;rw[aE d2,cϱ];show e;rw[N_,CS,eZ gb.1]
universe iZ
open PySem L2 WL WP WQ EN PyProof.Rows
namespace iZ
open PySem L2 WL WP WQ EN PyProof.Rows
def kY {K:iD}(T:Ŧ):cD P w K mg base gT 2 A.qX A.rn oÎ (iG K (Qi A.d3 A.dY)):=by
 exists T.add_moved.fn,["p",Ř,ð,bÙ,bÚ,"n",bÝ,"settings"],(aG (gj (aU T.add_shifted (lU T) hr (ae ė (ae hÍ (ae hÎ (ae (bW fN ĕ Ě) gĺ)))))) (aS (Ds (fV bO rfl (zn rfl hÎ) qĄ (aS (gj (aU T.add_shifted (lU T) hr (ae ė (ae (Iv hÍ Ĝ jz mŨ) (ae aς (ae Ě gĺ)))))))))))
 rintro vs M q ⟨r,rl,rp,o,ol,op,p,s,sh,n,a,b,P,Q,B,C,rfl,NW,QI,p0,p1,s0,s1,nz,jv,iI,qd,J_,hPQ,hB,hC,hBC,k⟩;let⟨Cr,dr,yG,ud,AI,DK,SS,F4,Vg⟩:rÀ:=by
  rcases NW with⟨d,e⟩ | ⟨d,f,g,e',e⟩
  show pŝ;show pχ
 let⟨Co,dO,fs,ho,clO,nO1,nO2,fO1,fO2⟩:gL λCo dO fs=>nD (M o=jœ) (yH K Co=True) (dC K Co ĭ =True) (dC K Co Į =True) (fs.lookup Ϗ=some (wr ol)) (fs.lookup ϐ=some (wr op)):=by
  rcases QI with⟨d,e⟩ | ⟨d,f,g,e',e⟩
  show pŝ;show pχ
 have cm:ji s sh=True:=kÜ;have Bw: pĘ:=λ{x C' d' FW} e hx=>by let⟨kvs,e2⟩:=jv.mem hx;rw[e] at e2;cases e2
 have afo: ∀ {x C' d' FW},M x=jŔ ->gċ:=λ{x C' d' FW} e hx=>by let⟨kvs,e2⟩:=iI.mem hx;rw[e] at e2;cases e2
 have US:rl∈Ŵ:=by simp[bX]
 have mrp:rp∈Ŵ:=by simp[bX]
 have mol:ol∈cϖ:=by simp[bX]
 have _g:op∈cϖ:=by simp[bX]
 have min: ∀t∈Q,é∈cϖ:=λt ht=>by simp![bX,ay,ah];show kΔ
 have ndQ:=bM.mp (bM.mp iI.Qm).2;dsimp? [ud,ho,AI,DK,SS,clO,nO1,nO2,F4,Vg,fO1,fO2,cm];exact#[rl,ol,p,s*sh,n,a,b,rfl,λe=>qd rl US (by rw[e];show mol),jv.lam,iI.lam,p0,p1,jv.ga,iI.ga,nz,J_,λc gc lr N_=> ?_];simp? [↓fb];exact aø;have R8:=jv.abh gc;have ho1:um M rl eζ o=jœ:=by rw[aE (λe=>Bw ho iŹ)];show ho
 have Ea:um M rl eζ r=jŒ:=by rw[aE (λe=>Bw ud iŹ)];show ud
 have FN:um M rl eζ op=some (.dK (ly Q)):=by rw[aE (λe=>qd rl US (by rw[<- e];show _g))];show iI.par
 exact#[op,ly Q,FN,?_];dsimp? [ho1,clO,nO2,fO2,FN];intro ob ks;have B0:(ly Q).map mÿ=Q.map λt=>kϒ:=by unfold ly;rw[aK];rfl
 rw[B0];generalize Kb:jĻ=M1 at R8 ho1 Ea FN;have kp1:fK M M1 (Ŵ):=λd u e nd=>by rw[<- Kb,aE (λz=>nd iź)];show e
 have _Q: ∀x,cģ ->bθ:=λx e=>by
  cases e2:M x with
  | none=>rfl
  | some u=>by_cases hx:x=rl;(· subst hx;rw[R8.lam] at e;cases e);(· rw[<- Kb,aE hx,e2] at e;cases e)
 exact ip (λi ρ M'=>gL λ eϰ bÞ=>p9 (ρ= [ζ,ε,dϰ,dϭ,some (wi sh),dϮ,o1,o2]) (M' op=some (.fz ob ks (ly Q))) (iŞ) (fK M1 M' (gĻ)) (∀x∈dΑ,gČ \/ cģ) nį (∀w x,hĲ=(gϘ+look (gϙ) bυ*n) % p) (gy (∀w,w∉jϱ ->aϻ=aŧ) (P'.length<=P.length+i) mĥ (pĆ))) #[none,none,P,rfl,av,R8.same λd hd=>aE (λz=>qd d hd (by rw[z];show _g)),λd u e nd=>by rw[aE (λz=>nd iŚ)];show e,hŠ,λx hx=>hx,λw x=>by change _=(gϘ+0*n) % p;rw[bR,bF,hÏ],λw _=>rfl,Á,λt ht=>aI (bß) (Nat.le_add_right _ _),hš] ?_ ?_ ?_;rintro i ρ M' _ ⟨o1,o2,P',rfl,h2,_⟩;show h2;rintro i x ρ M' hx ⟨o1,o2,P',rfl,h2,row,kp,fr,pE,Eb,U1,hln,ij,GI⟩ N hN;let⟨t,hz,rfl⟩: ∃t,fŪ /\ x=kϒ:=by
  rw[aF] at hx;cases e:Q[i]? with
  | none=>rw[e] at hx;cases hx
  | some q=>rw[e] at hx;cases hx;show eş
 have Oc:=eϭ;have QD:=az hz;have hwi:=U1 t.1 (Hh iI.oo hz);have Tj:M' r=jŒ:=kp r _ Ea (λhm=>by obtain z | z:=bϞ;rw[z,FN] at Ea;cases Ea;show Bw ud z);have lG:é∉Ŵ:=λz=>qd _ z (min t QD);have hqa:M' é=jϰ:=kp _ _ (by rw[<- Kb,aE (λz=>lG iź)];show iI.D9 t QD) (λhm=>by obtain z | z:=bϞ;show ndQ.1 (by rw[<- z];show iŻ);show lG z);have VZ:é∉dΑ:=λz=>by obtain z | z:=fr _ z;show lG z;have:=iI.D9 t QD;rw[_Q _ z] at this;cases this
 have hs:((ly P').length<sizeLine)=True:=by rw[ly,aa];show aX (vm (by exact Lqj ř Lq0 Ο oČ oÏ (LqNp hPQ (LqNp hln Oc)) rfl))
 have hrp:=row.par;dsimp? [Tj,AI,SS,Vg,hrp];intro e he;have nrp:rp≠e:=cT row.par he;have nqa:é≠e:=cT hqa he;dsimp? [aE nrp,hrp,hs,oJ];have nop:op∉Ŵ:=gļ;have Nr:op∉dΑ:=λz=>by obtain z | z:=fr _ z;show nop z;rw[FN] at z;cases z
 have Nq:op≠e:=cT h2 he;have hBw:(bν).length<=B:=by
  unfold pf;cases e2:mΚ with
  | none=>show dm _
  | some u=>show hB u (iB e2).1
 have htC:=hC t QD;have ZR: ∀w,w∉(Q.take ß).map Ć ->w≠t.1 /\ w∉jϱ:=λw hw=>by rw[bw,hz,aO] at hw;show#[λz=>hw (au.mpr (.inr (by rw[z];show ag.mpr rfl))),λz=>hw (au.mpr (.inl z))]
 have dne: ∀ {d u},M1 d=þ ->d≠e ->d∉gĻ ->M' d=þ:=λh1 _ h3=>kp _ _ h1 h3;have M1e:M1 e=none:=by
  cases e2:M1 e with
  | none=>rfl
  | some u=>exfalso;by_cases hm:e∈gĻ;obtain z | z:=bϞ;show Nq z.symm;let⟨kvs,q2⟩:=row.mem (pE e z);rw[he] at q2;cases q2;rw[kp e u e2 hm] at he;cases he
 cases hf:P'.find? kϓ with
 | some u=>
  let⟨hu,hw⟩:=iB hf;have eu:u.2.2=bν:=by rw[<- hwi, <- hw];show(qm row.oo hu).symm
  have une:aç≠e:=cT (dϱ) he;have RB:aç∈dΑ:=by simp![bX,ay,ah];show .inr (.inr dω)
  rw[Option.map_some,Mq];exact#[aç,é,p,sh,n,u.2.2,ê,rfl,λz=>VZ (by rw[<- z];show RB),by rw[aE une];show dϱ,by rw[aE nqa];show hqa,p0,p1,row.gp u hu,iI.gp t QD,nz,by rw[eu];exact Lqj ř μ Ο (.a ξ μ) (.a Ο ξ) (LqNp hBC (LqNp hBw htC)) rfl,iż];have F8:bX rl rp (eϱ)=dΑ:=by unfold bX;rw[Ap]
  have VT:u.1∈fũ:=iś;exact hN _ _ #[_,_,eϱ,rfl,by rw[aE (λz=>Nr (by rw[z];show RB)),aE Nq];show h2,(row.set hu _N).same dϲ,iØ,by rw[F8];show fr,by rw[F8];show pE,dϳ,eϲ,by unfold nZ;rw[aa];exact Lqj Ğ Lq0 Ϭ Lq0 ο hln rfl,dγ,by rw[zM];show GI];rw[F8] at hd;by_cases z:d=aç;rw[z,av,av];let⟨kvs,q2⟩:=row.mem hd;rw[aE z,aE z,aE (cT q2 he)];have n1:d≠e:=λz=>by rw[z,M1e] at e1;cases e1
  have n2:d≠aç:=λz=>by obtain q2 | q2:=fr _ RB;show nd (aC _ (by rw[z];show q2));rw[z,q2] at e1;cases e1
  rw[aE n2,aù];show fΞ;rw[Dz w' VT,dϴ,hw];by_cases z:w'=t.1;rw[Ó,Ó,Tv,eu,z];rw[Ô,Ô];show Eb w' x;let⟨z1,z2⟩:=ZR w' xV;rw[Dz w' VT,hw,aj z1];show U1 w' z2;let⟨v',va,rfl⟩:=ah.mp hv;split;change gĽ;rw[eu] at sy;exact Lqj Ŷ Lq0 ο (.a Lq3 (.a Lq4 Lq0)) (.a Lq1 jŸ) (LqNp hBw (LqNp htC sy)) rfl;show ij v' va
 | none=>
  have N5:=F3 hf;have aaW:bν= []:=by rw[<- hwi];show mJ N5
  rw[Option.map_none,Mr,Bb (c:= []) N5];exact#[e,é,p,sh,n,[],ê,rfl,aZ nqa,by rw[dϵ,av];rfl,by rw[aE (λz=>VZ jã),aE nqa];show hqa,p0,p1,GD.nil,iI.gp t QD,nz,by simp![List.length_nil];exact Lqj Ğ ϗ Ο (.a ο ϕ) mΜ (LqNp hBC (LqNp htC Ϡ)) rfl,iż];have epd:ly (P'++ [(t.1,e,[])])=ly (iÙ):=by unfold ly;rw[aO,aO];rfl
  have F8:bX rl rp (iÙ)=dΑ++ [e]:=by unfold bX;rw[aO];rfl
  exact hN _ _ #[_,_,iÙ,rfl,by rw[aE Nq,aE (λz=>Nr jã),aE Nq];show h2,(row.new he N5 _N).same dϲ,iØ,ź,λx hx=>by rw[F8];show au.mpr (.inl (pE x hx)),dϳ,eϲ,by rw[aM,bT];exact Lqj Ğ ϒ Ϭ Lq0 ο hln rfl,dγ,eϲ];by_cases z:d=e;rw[z,av,dϵ,av];rw[aE z];by_cases z2:d=rp;rw[z2,av,av,epd];rw[aE z2,aE z2,aE z,aE z];have n1:d≠e:=λz=>by rw[z,M1e] at e1;cases e1
  have n2:d≠rp:=λz=>nd (aC _ (by rw[z];show mrp));rw[aù,aE n2,aù];show fΞ;rw[F8] at hx;obtain hx | hx:=bì;show bÐ;rw[bñ];show .inr M1e;rw[Bh w' N5,dϴ];by_cases z:w'=t.1;rw[Ó,Ó,Tv,z,aaW];rw[Ô,Ô];show Eb w' x;let⟨z1,z2⟩:=ZR w' xV;rw[Bh w' N5,aj z1];show U1 w' z2;obtain hv | hv:=au.mp hv;show ij v hv;rw[ag.mp hv];change gĽ;simp![List.length_nil] at sy;exact Lqj ř Lq0 ο (.a Lq3 ϕ) (.a Lq2 (.a (.a ø Lq3) Lq1)) (LqNp htC (LqNp sy Ϡ)) rfl;rw[aO] at xV;obtain xV | xV:=au.mp xV;show GI w' xV;rw[ag.mp xV];show .inr (iŻ)
 rintro ρ M' ⟨o1,o2,P',rfl,h2,row,kp,fr,pE,Eb,U1,hln,ij,GI⟩;rw[aa] at hln Eb U1;rw[bJ] at Eb U1;have nop:op∉Ŵ:=gļ;have Nr:op∉dΑ:=λz=>by obtain z | z:=fr _ z;show nop z;rw[FN] at z;cases z
 exact#[ob,ks,ly Q,h2,km (k _ c P' (row.same λd hd=>aE (λz=>Nr (by rw[<- z];show hd))) N_ Eb (λd u e nd=> ?_) (λx hx=>(bÐ).imp id (_Q x)) pE lr hln ij GI)];by_cases hd:d=op;subst hd;rw[av, <- iI.par];show e;rw[aE hd];show kp d u (kp1 d u e nd) λhm=>(bϞ).elim hd nd
def oi {K:iD}(T:Ŧ):cD P w K mg base gT 1 A.jY A.j5 iŲ (iG K aaX):=by
 exists T.too_high_or_low.fn,iŲ,(aG (gr (WW lā (Sb (Be (mG ė)))).pt hś eU) (aS (bZ (bW xJ (Bi Ŏ T.h_ Ŏ T.jg rfl (ae (dW dH ė cϲ Η) (ae iÚ iŽ))) (Bj Ŏ T.h_ Ŏ T.jg rfl (ae ϵ cϳ))))))
 rintro vs M q ⟨f,ns,len,rfl,hf,l0,l1,hn,hb,k⟩;by_cases hl:len=0;have e:cħ=ns:=am (.inl hl);rw[e] at k;dsimp? [hl,decide_true];show lĿ;have sy:decide (len=0)=false:=cb hl;have htr: ∀ {k:dŔ},Hc M (.v ŀ) k=k (! jä):=Hb hf;by_cases c6:aŜ
 have e:cħ=ns:=am (.inr c6);rw[e] at k;subst c6;dsimp? [sy,htr,List.map_nil,List.isEmpty_nil,Bool.not_true,Bool.not_false];show lĿ;have hie:jä=false:=by cases ns with | nil=>show fŲ | cons a r=>rfl
 have h1:lJ dœ Î=some (wi (fŬ)):=wY c6;have h0:lJ dœ 0=some (wi (cϗ)):=by
  cases ns with
  | nil=>show fŲ
  | cons a r=>show Rh
 have J9: -bÀ<fŬ /\ fŬ<bÀ:=hb _ (mQ c6);have hbh: -bÀ<cϗ /\ cϗ<bÀ:=by
  exact hb _ ?_;cases ns with
  | nil=>show fŲ
  | cons a r=>show aQ
 dsimp? [sy,htr,hie,Bool.not_false,hf,h1,h0,G3];exact#[fŬ,len - 1,rfl,#[⋯,⋯, ∅, ∅], ∅,ſ];have nu:f≠u:=cT hf hu;dsimp? [aE nu,hf,h0,G5];exact#[cϗ,0,rfl,#[∅, ∅, ∅, ∅], ∅,dγ];have nuv:u≠v:=cT av hv;dsimp? [aE nuv];have e:cħ=qā:=aj (by rintro(z | z);(· show hl z);(· show c6 z));exact#[big (by unfold Ev gZ;rw[aa,aa,cx,cx];lia),λp hp=>km (k p _ (mĲ aϨ) ?_)];rw[av,e,aO];unfold Ev gZ pQ yN;rw[aK,aK];rfl
def Bv {K:iD}(T:Ŧ):cD P w K mg base gT 3 A.Q6 A.Q_ mþ (iG K (aa0 A.d3 A.dY)):=by
 have LV:=fΚ;have nS3:=iŶ;have nS4:=já;have nS5:=iÖ;exists T.cut.fn,["p",Ř,ð,bÜ,bÛ,"height",ť],(aG (4\(aU T.heights (tP T) hr (ae pť (ae ĕ kϔ)))) (aS (fV bO rfl (eD (aU T.too_high_or_low (oi T) hr (ae Ě kϔ))) mΗ (aG (6\(oW ĳ hÍ (bW fi hÎ (bW fN ě ĕ)) aL mŨ)) (aG (gr (dF lS Ĝ aL Ė) (aS zl) eU) (aS (gr (dF zv ě aL Ė) (aS (gj (aU T.add_moved (kY T) hr (ae ė (ae ĕ (ae Ę (ae ę (ae ě (ae (bW fN gľ hÎ) ax))))))))) (aS (gj (aU T.add_moved (kY T) hr (ae ė (ae ĕ (ae Ę (ae ę (ae (bW oh ě hÎ) (ae gľ ax))))))))))))))))
 rintro vs M q ⟨r,rl,rp,o,ds,ol,op,p,s,f,len,foot,a,b,P,Q,B,C,Z,D,rfl,NW,QI,hp,s0,s8,NE,F,jv,iI,qd,wa,UC,z0,z1,d0,d1,hB,hC,b0,b1,c0,c1,hPQ,k⟩;let⟨Cr,dr,yG,ud,AI,DK,SS,F4,Vg⟩:rÀ:=by
  rcases NW with⟨d,e⟩ | ⟨d,f,g,e',e⟩
  show pŝ;show pχ
 have p0:0<p:= ∅;have fS3: qζ gĹ=some (wi f):=rfl;have fS4: qζ hÌ=some (aŨ):=rfl;have fS5: qζ fΜ=some (bÃ):=rfl;have U6:=wa.len jv.ga z0;have lI:kΩ:=by unfold fg;rw[aa];lia
 have vc:=jv.lam;dsimp? [ud,AI,DK,F4];exact mĳ;rw[pd];have SN:o≠u:=cT QI hu;dsimp? [aE SN,QI,LV,nS3,fS3];exact#[u,Ò,s,f,rfl,av,lI,s0, ∅,jŕ];have nov:o≠v:=cT (by rw[aE SN];show QI) hv;dsimp? [aE SN,aE nov,QI,LV,nS4,fS4];have hpa: ∀x∈Ò, fŭ:=λx hx=>by let⟨z,hz,rfl⟩:=bΔ;show wa z.1 (by rw[jE jv.ga.1 hz];have:=jv.ga.2 z hz;exact qÝ)
 have qc: ∀m∈ms, ∃x,dU (-Z<=x) (x<=Z) (m=Ē):=λm hm=>by let⟨x,hx,e⟩:=ah.mp (dI.mem_iff.mp hm);have:=hpa x eψ;show#[x,ü,ú,e.symm]
 have U5: ∀m∈ms, aű<=m /\ m<=Z:=λm hm=>by let⟨x,h1,h2,rfl⟩:=qc m hm;show Yv (f:=f) s0 s8 bį z0
 have Ts:ms.length<=fŮ:=by rw[dI.length_eq];exact aI ?_ (aI (Nat.le_of_eq (aa (as:=a) (λz=>z.1))) U6);unfold pC;rw[aa];show lĝ
 exact#[v,ms,len,rfl,av,F.l0, (by exact Lqi [_] ϒ eϳ ϒ (.n bÄ) NE rfl), ∅,λx hx=>by have:=U5 x hx;exact ⟨Lqi Û mĴ Lq0 (.a Lq1 jŁ) (.a Γ Lq0) (LqIp z1 ü) rfl,Lqi Û ϒ eϳ π jϮ (LqIp z1 ú) rfl⟩,λt M1 sm Kb=> ?_];let⟨HS,Yn⟩:=Hf F.l0 i_ (dI.nodup_iff.mpr (mV jv.ga.1 s0));have d_:(cĪ).length<=fų:=aI (Mi F.l0 z0 U5 Ts) ∅;have TU:=λh (hh:h∈cĪ)=>Hg F.l0 hh;have AE:s=0 -> ∀h∈cĪ,h=0:=λe h hh=>by have l0:=F.s0 e;have e2:cĪ=ms:=am (.inl l0);rw[e2] at hh;let⟨x,_,_,rfl⟩:=qc h hh;unfold hI;rw[Ç]
 let⟨hs,ehs⟩: ∃hs,hs=cĪ:=Ļ
 rw[<- ehs] at Kb HS Yn d_ TU AE;dsimp? [Kb];have Wp:Sm M M1:=mĲ sm;exact ip (λi ρ M'=>Gq λ eϴ (c:Pt) bÞ (js:fł)=>p9 (ρ= [ζ,ε,dϰ,dϭ,dϟ,o5,o6]) (M' t=some (.lst (hs.map wi))) (iŞ) (lŲ) (qÊ) (kı) (eχ) (p9 (jļ) oŶ nį nŗ (pĆ) (aŰ=Ci s p f len foot b dΓ bΒ) nĖ (∀j∈js, ∃h∈hs,j.1=ŗ))) #[none,none,a,P,[],rfl,Kb,jv.keep (fK.sm Wp []) kÝ,#[λx=> ?i1,λj g hj _=>absurd hj (Nat.not_lt_zero j),λx hx c6=> ?i2,λx _=>rfl],λw x=> ?i3,(λ_ j hj=>by cases hj),λx hx=> ?i4,fK.sm Wp _,hŠ,λx hx=>hx,λt ht=>(bß).up ∅,hš,rfl,jå,jå] ?_ ?_ ?_;case i1=>change _=(ő+0) % p;rw[bF,dR p0 jv.ga]
 case i2=>
  exact Yn _ (dI.mem_iff.mpr (ah.mpr #[x,aV.mpr #[?_, ⇑hx],rfl]))
  show eE c6
 case i3=>change _=(gϘ+0) % p;rw[bF,hÏ]
 case i4=>have:=wa x hx;exact ⟨Lqi ř lμ Lq3 (.a ø (.a ø Ņ)) jź (LqIp s0 (LqIp d0 ü)) rfl,Lqi ř Lq0 jũ lϯ jϭ (LqIp s0 (LqIp d0 ú)) rfl⟩
 rintro i ρ M' _ ⟨o5,o6,c,P',js,rfl,h2,_⟩;show h2;rintro i x ρ M' hx ⟨o5,o6,c,P',js,rfl,h2,row,cst,Eb,LI,wc,kp,fr,pE,ij,GI,AG,LG,_A⟩ N hN;let⟨h,hz,rfl⟩: ∃h,gĎ /\ x=wi h:=by
  rw[aF] at hx;cases e:hs[i]? with
  | none=>rw[e] at hx;cases hx
  | some q=>rw[e] at hx;cases hx;show eş
 have hm:=az hz;have Oc:=eϭ;have Bw: pĘ:=λ{x C' d' FW} e hx=>by let⟨kvs,e2⟩:=jv.mem hx;rw[e] at e2;cases e2
 have Tj:=kp r _ ud (Bw ud);have _s:=kp o _ QI (Bw QI);have hlm:=row.lam;have hh1: -bÀ<h /\ h<bÀ:=by obtain z | z:=d5 h 0;let⟨m,h3,h4⟩:=cŅ.1 z;have:=bà;exact ⟨Lqi Ğ mĴ Lq0 (.a Lq1 (.a Lq2 jŁ)) (.a Γ ς) (LqIp z1 hŢ) rfl,Lqi [_] ϒ eϳ ϒ ø z rfl⟩;let⟨m,h3,h4⟩:=cŅ.2 z;have:=bà;exact ⟨Lqi [_] mĴ Lq0 ø Lq0 z rfl,Lqi Ğ ϒ eϳ kÏ mŚ (LqIp z1 (LqIp h4 ú)) rfl⟩
 have cm:ji h s=True:=kÞ;dsimp? [Tj,_s,AI,LV,DK,nS3,nS4,nS5,F4,fS3,fS4,fS5,hlm,cm,sC];exact gw (λe0=>hN _ _ #[_,_,c,P',js,rfl,h2,row,cst.skip hz e0,Eb,LI,wc,kp,fr,pE,ij,GI,by rw[wP hz, <- AG];show(am e0).symm,LG,_A]) λe0=> ?_;have hl:=row.ga.range p0 bÂ;have TB:=F.ft;have XY:NZ p iÛ:=vT hp λe=>e0 (by have:=Int.emod_emod_of_dvd iÛ hġ;have h3:iÛ % p=0:=e;have:=Int.dvd_of_emod_eq_zero h3;have h4:=Int.dvd_neg.mp this;have h5:=Int.emod_eq_zero_of_dvd h4;rw[db hl.1 hl.2] at h5;show h5);have abE:NZ p (-gĐ*foot):=vT hp λe=>XY foot TB.1 TB.2 (by rw[bY];show e);have WB:=iI.keep kp λd hd nr=>qd d nr hd;have aes: ∀x∈dΑ,gċ:=λx hx gX=>by obtain z | z:=bÐ;show qd x z gX;let⟨kvs,e⟩:=iI.mem gX;rw[z] at e;cases e
 have lr:=wc.len row.ga (by exact Lqi Ğ ø jů mņ jū (LqIp s0 (LqIp z0 d0)) rfl);have J9:=UC.len iI.ga d0;have _z:=Ju row.oo GI;have Ob: ∀t∈P',eμ<=(2*fŰ+1).toNat:=λt ht=>fΡ fΤ ∅;have hC': ∀t∈Q,eμ<=(2*C+1).toNat:=λt ht=>(hC t ht).len (iI.gp t ht) c0;have abr:uO A.d3 A.dY M' r rl rp:=NW.keep kp (Bw ud);have aaO: aű<=ŗ /\ ŗ<=Z:=by have l0:=F.l0;unfold kl;split;rename_i jQ;let⟨m,h3,h4⟩:=cŅ.1 jQ;have:=bà;exact ⟨Lqi Ğ jŀ Lq1 (.a Lq2 jŀ) ο hŢ rfl,Lqi Û Lq0 Lq1 (.a ø ϒ) gϒ (LqIp z0 jQ) rfl⟩;rename_i jQ;let⟨m,h3,h4⟩:=pŮ;have:=bà;have:=d϶;lia
 have shb: -(Z+s) <=cϙ /\ cϙ<=Z+s:=by obtain z | z:=jϳ;unfold kl;split;rename_i jQ;let⟨m,h3,h4⟩:=cŅ.1 jQ;let⟨x,h5,h6,rfl⟩:=qc m h3;have h7:=dϷ;have h8:=bj h4 s0;have h9:s*h<=0:=Int.mul_nonpos_of_nonneg_of_nonpos s0 (by exact Lqi [_] Lq0 ø ϒ ø jQ rfl);exact ⟨Lqi Ŷ hϻ Lq2 (.a Ņ (.a (.a (.s Lq3 Lq1) ñ) Lq4)) (.a Lq3 (.a Lq4 Lq2)) (LqIp h5 (LqIp h7.1 h8)) rfl,Lqi Ğ Lq0 ο (.a ø ϲ) (.a Lq1 gϴ) kß rfl⟩;rename_i jQ;let⟨m,h3,h4⟩:=pŮ;let⟨x,h5,h6,rfl⟩:=qc m h3;have h7:=dϷ;have h8:=bj h4 s0;have hol:=d϶;have h9:0<=s*(bÁ):=cP s0 ∅;have _M:s*(bÁ) <=s*h:=bj (by have:=F.l0;exact Lqi Û Β Lq0 ø Lq1 this rfl) s0;exact ⟨Lqi Ğ hϻ Lq2 (.a ø mũ) jϕ kß rfl,Lqi Ι Lq0 ο (.a Ϣ (.a Lq3 (.a Lq4 (.a Lq5 Lq0)))) (.a Lq2 (.a Lq1 jŻ)) (LqIp z (LqIp h6 (LqIp h7.2 (LqIp h8 _M)))) rfl⟩;rw[<- z,bR];exact ⟨Lqi [_] (.g ϕ) ø ø Lq0 z0 rfl,Lqi [_] ø ϕ ø Lq0 z0 rfl⟩
 have fin: ∀n,(pĨ) ->aŢ ->Qi A.d3 A.dY [Í,Ì,wr r,wr o,wi (ŗ),wi n] M' λ_ M2=>N [ζ,ε,dϰ,dϭ,dϟ,dϸ,some (wi (gĐ))] M2:=λn hn nz=>by
  exact#[r,rl,rp,o,ol,op,p,s,ŗ,n,c,b,P',Q,_,_,rfl,abr, .inr #[_,_,_,_,_s],p0, ∅,s0, ∅,nz,row,WB,aes, ∅, (by exact Lqj Ğ μ Ο (.a τ (.a τ ϕ)) (.a Š (.a Š (.a τ Lq2))) (LqNp hPQ (LqNp hPQ (LqNp _z Ϡ))) rfl),Ob,hC', ∅,λM2 c' P2 ni ec ep NF Ov RO _ _ Ya JW=>hN _ _ #[_,_,c',P2,hĵ,rfl,?_,ni,cst.step F HS s0 p0 AE row.ga ni.ga hz hn ec,λw x=> ?_,λe j hj=> ?_,ź,kp.trans NF fr,ź,λx hx=>RO x (pE x hx),γ,dΚ,?_,dÍ,dÍ]];show NF t _ h2 λhx=>by let⟨kvs,e⟩:=cϧ;rw[h2] at e;cases e
  rw[ep,Eb,dQ,cI,Int.add_assoc,kİ];obtain rfl | hj:=bϟ;have e1:=AE e h hm;have e2:=F.s0 e;change ŗ=0;rw[e1,e2];rfl;show LI e j hj;rw[ec] at hx;by_cases hc:Ŗ=0;have hb:kΗ≠0:=mĀ;have:=UC _ hb;exact ⟨Lqi Ŷ lμ Lq3 (.a (.g ς) ŕ) (.a Lq4 eϧ) (LqIp shb.1 ü) rfl,Lqi Ŷ Lq0 jũ (.a Lq4 eώ) jŬ (LqIp shb.2 ú) rfl⟩;show wc x hc;obtain z | z:=Ov x hx;show fr x z;cases e:M x with
  | none=>show ĺ
  | some u=>by_cases gX:gČ;show .inl gX;rw[kp x _ e gX] at z;cases z
  intro x hx;rw[<- qm ni.oo ht,ep] at hx;by_cases hc:look (pf P' t.1) x=0;have hb:look (pf Q t.1) (x - ŗ)≠0:=mĀ;have:=O2 hC t.1 _ hb;lia;show O2 ij t.1 x hc;obtain z | z:=JW w hw;show GI w z;show .inr z;rw[wP hz, <- AG];unfold Hy;rw[aj e0, <- hn];show funext ec;obtain rfl | hj:=bϟ;show aaO;show LG j hj;obtain rfl | hj:=bϟ;show#[h,hm,rfl];show _A j hj
 dsimp? [];exact gw (λjQ=> ?_) λjQ=> ?_;have cm2:ji iÛ foot=True:=kÞ;dsimp? [_s,LV,nS5,fS5,cm2];have:=fin _ rfl (by rw[am jQ];show abE);rw[am jQ,show ŗ=h from am jQ] at this;show this;dsimp? [_s,LV,nS4,fS4];have:=fin _ rfl (by rw[aj jQ];show XY);rw[aj jQ,show ŗ=bÁ from aj jQ] at this;show this;rintro ρ M' ⟨o5,o6,c,P',js,rfl,h2,row,cst,Eb,LI,wc,kp,fr,pE,ij,GI,AG,LG,_A⟩;rw[aa] at cst AG;rw[bJ] at AG;show km (k M' c P' js row cst.rel Eb LI (cst.low s0) cst.S0 wc kp fr pE ij GI #[ms,dI,i_,by rw[AG,ehs],by rw[<- ehs];show _A] LG)
def tO {K:iD}(T:Ŧ):cD P w K mg base gT 1 A.wB A.wN ["p",ť] (iG K IH):=by
 exists T.inverse.fn,["p",ť,bÛ,"at"],(aG (2\aL) (aG (fV bO rfl (jj Ŏ T.jg (ae (bW oh ė aL) ax)) mΝ (aS (2\(bW iw (bW fN Ę ĕ) ė)))) hţ))
 rintro vs M q ⟨p,s,rfl,hp,s0,s1,k⟩;have hp0:è=True:=aX (by exact Lqi Û Ϣ Lq0 nϪ π (LqIp s0 s1) rfl);have cm: ∀x,ji x s=True:=λx=>kÞ;simp? [↓fb];exact aø; simp? [↓fb];exact#[dž,ip (λi ρ M'=> ∃o:Ê,ρ= [ζ,ε,some (wi (pw p s i)),o] /\ M'=M) #[none,rfl,rfl] kŒ ?_ ?_];rintro i x ρ M' hx ⟨o,rfl,rfl⟩ N hN;let⟨hi,rfl⟩:=tE hx;simp? [↓fb,cm,hp0];show hN _ _ #[_,rfl,rfl];rintro ρ M' ⟨o,rfl,rfl⟩;rw[mF];dsimp only;exact aø; simp? [↓fb];let⟨h1,h2,h3⟩:=Sc p s hp s0 s1;show km (k _ h1 h2 h3)
def tM {K:iD}(T:Ŧ):cD P w K mg base gT 4 A.Ek A.ED jŎ (iG K (Sq A.d3 A.dY)):=by
 have AI:=dϬ;have DK:=hŝ;exists T.stood.fn,["p",Ř,ð,į,bÛ,"turn","upright"],(aG (3\(aU T.first_column (iX T) hr (ae pť gĸ))) (aG (4\(aU T.heights (tP T) hr (ae pť lν))) (aG (5\(aU T.inverse (tO T) hr (ae ė (ae (fC ĳ hÍ (bW fi ę (bW fN nΩ ĕ)) Η) ax)))) (aG (6\(kH T.Row aτ Ρ Ŏ (ae jz (ae jz ax)))) (aG (gj (aU T.add_moved (kY T) hr (ae ė (ae ĕ (ae Ĝ (ae Ę (ae (gf e9 mŪ) gĺ))))))) (aS (bZ (kH T.Stair (IX T) Ρ Ŏ (ae Ĝ (ae ę (ae (bW oh nΩ mŪ) (ae (aU T.inverse (tO T) hr (ae ė (ae (fC ĳ (cK Ĝ rfl) ę Η) ax))) ax))))))))))))
 rintro vs M q ⟨r,dr,rl,rp,p,s,a,P,B,D,rfl,ud,hp,s0,s8,jv,c6,wa,d0,d1,hB,hBl,_H,k⟩;have p0:0<p:= ∅;have F4: [(Ϗ,wr rl),(ϐ,wr rp)].lookup Ϗ=eϯ:=rfl;have U6:=wa.len jv.ga d0;have lI:kΩ:=by unfold fg;rw[aa];lia
 have vc:=jv.lam;dsimp? [ud,AI,DK,F4];exact mĳ;rw[pd];exact#[u,Ò,s,rfl,av,lI,s0, ∅,λe=>absurd lų c6,bϠ];have mm:=λms=>Xk (s:=s) (a:=a) (ms:=ms) c6;generalize kĳ=f at mm ⊢;have nru:r≠u:=cT ud hu;have nlu:rl≠u:=cT vc hu;dsimp? [aE nru,aE nlu,ud,AI,DK,F4];exact#[rl,fP a,rfl,by rw[aE nlu];show vc,λu2 hu2=> ?_];rw[pd];exact#[u2,Ò,s,f,rfl,av,lI,s0, ∅,jŕ];let⟨qc,mn⟩:=mm ms dI i_;have h1:oŒ:=wY qc;have h0:lJ dŪ 0=some (wi (cϜ)):=by
  cases ms with
  | nil=>show fŴ
  | cons a r=>show Rh
 generalize fŞ=tp at mn h1;generalize cϜ=m at mn h0;have qi:Sm M (qá):=(fΟ (bG hu2)).trans (bG hv);have XD:um pŐ v iĿ v=some iĿ:=av;generalize qá=M1 at qi XD ⊢;have Ea:=qi _ _ ud;have X7:=qi _ _ vc;have cm:ji tp s=True:=kÞ;have Td:=yr s0 mn.hi;have NS:=sM (m:=a) Td.1;have Tw:=fo jv.ga Td.1;dsimp? [XD,h1,Ea,AI,DK,F4,X7,cm,NS];exact#[p,_,rfl,hp,Tw.1,Tw.2,λtn UK Pj JP=> ?_];dsimp? [];intro e1 TF e2 LJ x dx hx GK Yi;exact#[x,dx,aú,wr e2,rfl,av,rfl,?_];have Fd:Sm M1 (qù):=((bG TF).trans (bG LJ)).trans (bG hx);dsimp? [];have GH:um nŠ x oο x=some oο:=av;have vV:e1≠e2:=cT av LJ;have Qo:e1≠x:=cT kœ hx;have Lq:e2≠x:=cT av hx;have hf1:M1 e2=none:=by rw[cϴ] at LJ;show LJ
 have hf2:cģ:=by rw[cϵ,c϶] at hx;show hx
 have Ba:cZ p (qù) e1 e2 [] []:=#[by rw[aE Qo,aû];show av,by rw[aE Lq];show av,kà,GD.nil,kà,List.nodup_nil,by simp[bX,vV]]
 generalize qù=M2 at Fd GH Ba ⊢;have U0:=Fd _ _ XD;have Tj:=Fd _ _ Ea;have Ov: ∀d,d∈x::dϹ ->M1 d=none:=λd hd=>by simp![bX,ay,List.map_nil,List.not_mem_nil,or_false] at hd;obtain rfl | rfl | rfl:=hd;show hf2;show TF;show hf1
 have frM: ∀d,M1 d=none ->bϡ:=λd hd=>by
  cases e:M d with
  | none=>rfl
  | some o=>rw[bϢ] at hd;cases hd
 have WC:cZ p M2 rl rp a P:=jv.keep (fK.sm (qi.trans Fd) []) kÝ;have nz:NZ p tn:=vT hp (by rw[pŦ];exact λe=>Lqf [_] ϲ ϕ (LqIp UK ŭ) rfl);dsimp? [U0,h0];exact#[x,e1,e2,r,rl,rp,p,s, -m,tn,[],a,[],P,0,B,rfl, .inl #[_,GH], .inl #[_,Tj],p0, ∅,s0, ∅,nz,Ba,WC,?_,by change 0+a.length<=_;lia,by change 0+P.length<=_;exact Lqj [_] ϗ Ο Lq0 Š _H rfl,kà,hB, (by exact Lqj [_] ϗ Ο Lq0 eϵ hBl rfl),λM3 b Q rL eb eq UW Kf afn J9 _ abP abJ=> ?_];intro d hd nr;let⟨kvs,e⟩:=jv.mem nr;rw[kŔ] at e;cases e;have Uf: nİ:=λx=>by rw[eb];change(0+_) % p=_;rw[cw,eh,Int.sub_neg]
 have TB:=A3 s0 p0 jv.ga mn nz Uf;have XC:=sM (m:=b) (eE (m:=b) (x:=f) (by exact λe=>Lqf [_] ϲ ϕ (LqIp TB.1 ŭ) rfl));have nvr: ∀ {d kvs},M2 d=some (.lst kvs) ->d∉dϹ:=λ{d kvs} e hd=>by let⟨kvs,e2⟩:=Ba.mem hd;rw[e] at e2;cases e2
 have nir: ∀ {d C' d' FW},M2 d=jŔ ->d∉dϹ:=λ{d C' d' FW} e hd=>by let⟨kvs,e2⟩:=Ba.mem hd;rw[e] at e2;cases e2
 have hv3:=UW _ _ U0 (nvr U0);have hx3:=UW _ _ GH (nir GH);have X5:=rL.lam;have fX1: [(Ϗ,aú),(ϐ,wr e2)].lookup Ϗ=some (aú):=rfl;dsimp? [];rw[oI];dsimp? [hv3,h0,h1,hx3,AI,DK,fX1,X5,XC];exact#[p,_,rfl,hp,TB.1,TB.2,λfoot f0 f1 hfo=> ?_];dsimp? [];intro o ds ho hds U';have nxo:x≠o:=cT hx3 ho;exact#[o,ds,x,dx,aú,wr e2,wi f,wi (tp - m),bÃ,rfl,aZ nxo,av,by rw[aE nxo];show hx3,rfl,km ?_];have aeo: ∀d,M2 d=none ->bϡ:=λd hd=>by
  cases e:M d with
  | none=>rfl
  | some o=>rw[iÜ] at hd;cases hd
 have xp:bÑ:=λd u e=>UW _ _ (iÜ) λhd=>by rw[kŔ] at e;cases e
 have Ot: lŀ:=λd hd=>by
  cases e:M d with
  | none=>rfl
  | some o=>rw[xp _ _ e] at hd;cases hd
 exact k _ o ds e1 e2 b Q f m tp foot tn av (rL.same dϲ) (Fa ∅ s0 jv.ga mn JP Uf hfo f0 f1) mn UK Pj JP Uf (λw x=> ?_) (eϮ) (dϲ) (λt ht=>aI (abP t ht) (by exact Lqj [_] ϗ Lq0 ø ø LqN0 rfl)) λw hw=>(abJ w hw).elim (λz=>by cases z) id;have U':d≠o:=λz=>by let⟨kvs,e⟩:=rL.mem hd;rw[z,ho] at e;cases e
 rw[aE U',aE U'];rw[eq];change(0+_) % p=_;rw[cw,Int.sub_neg];have U':d≠o:=λz=>by rw[z,Ot o ho] at e;cases e
 rw[aE U',aE U'];show xp _ _ e;obtain rfl | hd:=ay.mp hd;show Ot _ ho;obtain z | z:=Kf d hd;show frM d (Ov d (aC _ z));show aeo d z
def nL {K:iD}(T:Ŧ):cD P w K mg base gT 1 A.pM A.pT iÕ (iG K WZ):=by
 exists T.told_parts.fn,iÕ,(aS (bZ (Iw (n1:=1) rfl (dS.of (sc:=bg kT) (N:= iÕ) (own:= [bÝ,bÚ]) (fr:= [0,2,1]) (N':= nñ)) (eD (cg bϣ Ŏ T.jO Boot.«sorted» gĸ)) (λ_ _ _ _=>(a9 (i:=0) pϊ rfl Ζ)) ⋯ (pe kŕ) ϛ (λ_ _ _ _=>(Im (K:=K) rfl (cg bϣ Ŏ T.jO Boot.«sorted» (ae nϲ ax)))) (λ_ _ _ _=>(a9 (i:=1) pϊ rfl Ζ)) nĳ ϛ (λ_ _ _ _=>(di (ae ė (ae ĕ (ae (bW iw (bW fN (fC ĳ nϲ ĕ Η) ę) Ę) ax))))))))
 rintro vs M q ⟨rl,rp,p,n,a,P,B,rfl,p0,p1,n0,n1,row,_H,hB,hB9,hPB,k⟩;have JS:=row.par;dsimp? [JS];exact#[rp,ly P,eθ,rfl,JS,by unfold ly;rw[aK,aK];rfl,big (by rw[aa];exact Lqj [_] Lq0 Ο Lq0 Š _H rfl),λu ws hu dI i_=> ?_];dsimp? [av];have XA:ws.length=P.length:=by rw[dI.length_eq,aa]
 have Wm:=bG (o:= .lst (ws.map wi)) hu;exact Ck (λx:Int=>wi x) (λw zs=> ∃AC:ā,AC.Perm (fg bς) /\ zs=AC.map λsh=>nK mĦ) B (vm (by rw[XA];exact Lqj [_] Lq0 Ο Lq0 Ο hPB rfl)) (λp' M' h1 h2=>h2 u _ (cT av h1) av) ?_ ?_;intro w hw p' M' ys QG sm JK B' N0 hB';let⟨t,ht,rfl⟩:=ah.mp (dI.mem_iff.mp hw);have Eb:bν=ê:=qm row.oo ht;have hM: ∀d o,cϔ ->M' d=Ą:=λd o e=>sm d o (λz=>by rw[z] at e;rw[bϤ] at QG;cases QG) (bϤ);have XU:=hM _ _ JS;have Yb:=hM _ _ fΥ;have NS:fI aŦ (dχ)=some (bζ):=by
  rw[oJ];cases e:mΚ with
  | none=>show absurd (mý) ś
  | some u=>have h1:=iB e;have h2:u=t:=iy row.oo h1.1 ht h1.2;rw[h2];rfl
 dsimp? [XU,NS,Yb];exact#[é,fP ê,fg ê,rfl,Yb,by unfold fP fg;rw[aK,aK];rfl,big (by unfold fg;rw[aa];have:=bß;exact Lqj Û Lq0 Ο π kŖ (LqNp hB9 this) rfl),λv AC hv xX abw=> ?_];dsimp? [av];exact hB' _ _ AC (λsh=>nK (t.1,sh,look (bν) sh*n % p)) _ (uJ.sm (bG hv)) (by rw[aE (cT JK hv)];show JK) #[AC,by rw[Eb];show xX,rfl] ?_ (λM5 h5=>h5 v _ (aZ (cT JK hv)) av) ?_;rw[xX.length_eq];unfold fg;rw[aa];show bß;intro sh _m M5 sm5 N hN;have np: ∀ {d o},cϔ ->d≠p':=λ{d o} e z=>by rw[z] at e;rw[bϤ] at QG;cases QG
 have LN: ∀d o,cϔ ->M5 d=Ą:=λd o e=>sm5 d o (np e) (bG hv _ _ (hM d o e));have XT:=LN _ _ JS;have abN:=LN _ _ fΥ;have Tw:=fo fΤ iž;have JM:=sM (m:=ê) iž;have cm:ji (look ê sh) n=True:=kÞ;dsimp? [XT,NS,abN,JM,cm,p0];rw[Eb] at hN;show hN;intro t M' yss ht sm hM' d_ hR;let⟨tl,e,hp⟩:=E8 row.oo (λw=>(row.Iq w).1) dI d_ hR;have hMt:bź:=by
  cases e:M t with
  | none=>rfl
  | some o=>rw[bϤ] at ht;cases ht
 show km (k t M' tl (λd o e=>sm d o (λz=>by rw[z,hMt] at e;cases e) (bϤ)) hMt (by rw[hM',e]) hp)
def Bt {K:iD}(T:Ŧ):cD P w K mg base gT 1 A.wx A.wL hÊ (Db K):=by
 exact T.DQ.fn.ok s_ (λvs H Q E h=> ?_) (λcdv A' outer s H vs Q E hr h=> ?_);let⟨a,ns,rfl,_⟩:=h;rfl;let⟨a,ns,rfl,hs,k⟩:=h;have nd:=s_.nd;exact#[_,(aS (bZ (jy (ae (dc jL Ŏ T.h_ Boot.«list» (ae (zp De ė Dv (Du aL)) ax)) lξ)))),?_];have ec: ∃ms:ā,Ai gÒ none (some 63)=eŨ:=by exact#[(ns.drop (ně)).take (HT.tD ká ká (some 63) - ně),?_];unfold Ai;rw[List.map_take,List.map_drop]
 let⟨ms,em⟩:=ec;exact#[_,rfl,_,rfl,_,_,rfl,hs,λp hp=>#[_,_,rfl, .inl (iT.of ce),λl hl=>#[by change dţ;decide,dϲ]]];have gA:l≠d:=λe=>by rw[e,ce] at hd;cases hd
 exact k d l ms _ gA.symm ce ?_;rw[bL gA,ce,em]
def fE {K:iD}(T:Ŧ):cD P w K mg base gT 1 A.z4 A.Ae [θ,dϥ] (iG K W0):=by
 exists T.iY.fn,[θ,dϥ,"_law_number","_law_got"],(aG (gr (H0 (dF zv ϵ ĕ Ė) (Dp (dF zv ϵ (cg gR Ŏ T.rD Boot.«len» (ae ϵ ax)) Ė))).pt (aG (2\(dW dH ϵ ϵ Η)) (aG (gv (bW fi ϵ aL) iÝ) (aG (gv aL iÝ) (aS (gr (dF Qj oϊ (bW SG aL aL) Ė) (aS (gv oϊ iÝ)) (aS (gv (bW iw (bW fi (bW fi oè (bW fN (bW iw Ę aL) aL)) aL) aL) iÝ))))))) eU) (aG (gr (dF Qj ϵ ĕ Ė) (aG (3\(bW iw ϵ ĕ)) (aG (gv (bW sv ϵ ĕ) iÝ) hŤ)) eU) (aG (gv (bW iw (bW fi oè aL) aL) iÝ) (aS (bZ (bW iw (bW sv ϵ aL) ĕ))))))
 rintro vs M q ⟨d,l,n,rfl,⟨ns,i,c,sd,hd,hl,hi,c6⟩,n0,n1,k⟩;exact Tc (λρ M'=>Gq λ eϰ (i' c' s':Int)=>gy (ρ= mΟ) (M' d=some mΡ) (cĘ) (0<=i')) ?_ λN hN=> ?_;rintro ρ M' ⟨o1,o2,i',c',s',rfl,h,nb,uT⟩;have fin: ∀ (r c' s':Int),0<=r ->r<n -> ∃M0,Sm M0 (um M' d mΡ) /\ q (wi r) M0:=λr c' s' h0 h1=>km (k r _ h0 h1 #[ns,i',c',s',av,by rw[aE aϮ,nb l aϮ];show hl,uT,c6] (nb.trans NB.put));have cm3: ∀x,ji x 16807=True:=λx=>by simp[ji]
 have cd1: ∀x,AB x n=True:=λx=>by simp[AB,n0,n1]
 have cd2: ∀x,AB x 64=True:=λx=>by simp[AB]
 have z2:lο:=⋯
 dsimp? [h];exact kŗ;dsimp? [h,n0,cd1];show qŵ;dsimp? [h,av,n0,cm3,cd2,z2];show qŵ;have nx: ∀ (o1 o2:Ê) (i' c' s':Int),0<=i' ->N mΟ (um M d mΡ):=λ_ _ _ _ _ h=>hN _ _ #[_,_,_,_,_,rfl,av,NB.put,h];have Z9: ∀ (o1 o2:Ê),N mΟ M:=λ_ _=>hN _ _ #[_,_,_,_,_,rfl,hd,NB.refl d M,hi];have cp:UB 10 18=True:=by simp[UB]
 have cm: ∀x,ji x 48271=True:=λx=>by simp[ji]
 have cm2: ∀x,ji x 69621=True:=λx=>by simp[ji]
 have z1:(ĝ <2147483629)=True:=⋯
 have z2:lο:=⋯
 by_cases gu:dŭ;have hx:lJ dœ i=some (wi (ns[i.toNat]'∅)):=yt hi (by rw[aF,aĎ];rfl);dsimp? [hd,hl,aa];exact lŁ;exact lŁ;dsimp? [hd,hl,hx,av,aE c6.symm,cp];exact kŗ;dsimp? [av];show pΝ;dsimp? [av,cm,cm2,z1,z2];show pΝ;dsimp? [hd,hl,gu,aa,decide_false];show gw (dϺ) dϺ
def SJ {K:iD}(T:Ŧ):cD P w K mg base gT 2 A.Q5 A.Q9 [θ] (iG K pP):=by
 exists T.l_p.fn,[θ],(aS (bZ (dW iA (di (ae aL lξ)) oč Η)))
 rintro vs M q ⟨d,l,rfl,hD,k⟩;simp? [↓cH];exact#[d,l,4,rfl,hD,⋯,⋯,λr M1 r0 r1 D1 b1=> ?_];have hr4:r=0 \/ r=1 \/ r=2 \/ r=3:=by omega
 obtain rfl | rfl | rfl | rfl:=hr4 <;> simp? [↓cH];show km (k 2 _ ⋯ D1 b1);show km (k 3 _ ⋯ D1 b1);show km (k 5 _ ⋯ D1 b1);show km (k 7 _ ⋯ D1 b1)
def mK {K:iD}(T:Ŧ):cD P w K mg base gT 1 A.Kk A.Kw ["p","pairs"] (iG K Qf):=by
 exists T.tidy.fn,oÐ,(aG (2\jz) (aG rÔ (aS (bZ (dc iR Ŏ T.pZ Boot.«tuple» (ae (fZ rfl (dS.of (sc:=bg A5) (N:= oÐ) (own:= [Ĳ]) (fr:= [2]) (N':= iγ)) (eD pę) (λ_ _ _ _=>(a9 (i:=0) (by change(iγ:ĉ).Nodup;decide+kernel) rfl Ζ)) fS (λ_ _ _ _=>(sq (dF IL nϳ aL Ė))) pϠ) ax))))))
 rintro vs M q ⟨a,p,ps,rfl,ha,p0,Yw,abT,k⟩;simp? [↓cH];intro d hd;have Ja:a≠d:=cT ha hd;simp? [↓cH,aE Ja,ha];exact rÙ;rintro i ρ M' _ ⟨o1,o2,m,rfl,rfl,_⟩;rw[aE Ja];show ha;rintro i x ρ M' hx ⟨o1,o2,m,rfl,rfl,hn,hl,ht,ij⟩ N hN;let⟨z,hz,rfl⟩:=dϯ;have Oc:=eϭ;have hs:mĵ:=by rw[fP,aa];show qύ
 simp? [↓cH,cN,sC,p0,hs,sk];exact qϨ;rw[qu,bw,hz];change mā;rw[oM];by_cases hx:x=z.1;subst hx;rw[ą,ą,ht,dQ];rw[aÜ,cΞ,bF];show ht x;rintro ρ M' ⟨o1,o2,m,rfl,rfl,hn,hl,ht,ij⟩;rw[aa] at hl ht;rw[bJ] at ht;simp? [↓cH];exact qϮ;have TH:d≠sp:=cT av xW;have QJ:iϹ:=by rw[dI.length_eq,aa];exact qÅ
 simp? [↓cH];exact qϤ;intro i x hx M3 N s3 hN;let⟨n,N7,rfl⟩:=uc hx;have hdM:kŘ:=lĂ;have N5:n∈Α:=kâ;simp? [↓cH,hdM,sM N5];exact JC (bϙ) bϙ;simp![h,bB] at hN;show hN;simp![h,ci] at hN;show hN;simp? [↓cH];exact pń;have e:qΙ:=by rw[<- iÞ,List.filterMap_map];unfold UO;rw[List.map_filterMap];congr 1;funext n;simp![Function.comp];split<;>rfl
 rw[e];show k
def vS {K:iD}(T:Ŧ):cD P w K mg base gT 1 A.z3 A.Ad [Ξ,eϪ] (iG K Qf):=by
 exists T.BG.fn,pζ,(aG (2\jz) (aG rÔ (aS (bZ (dc iR Ŏ T.pZ Boot.«tuple» (ae (fZ rfl (dS.of (sc:=bg tf) (N:= pζ) (own:= [e϶]) (fr:= [2]) (N':= [e϶,eÀ])) (eD pę) (λ_ _ _ _=>(a9 (i:=0) (by change([e϶,eÀ]:ĉ).Nodup;decide+kernel) rfl Ζ)) fS (λ_ _ _ _=>(sq (dF zw nϳ aL Ė))) pϠ) ax))))))
 rintro vs M q ⟨a,p,ps,rfl,ha,p0,Yw,abT,k⟩;simp? [↓cH];intro d hd;have Ja:a≠d:=cT ha hd;simp? [↓cH,aE Ja,ha];exact rÙ;rintro i ρ M' _ ⟨o1,o2,m,rfl,rfl,_⟩;rw[aE Ja];show ha;rintro i x ρ M' hx ⟨o1,o2,m,rfl,rfl,hn,hl,ht,ij⟩ N hN;let⟨z,hz,rfl⟩:=dϯ;have Oc:=eϭ;have hs:mĵ:=by rw[fP,aa];show qύ
 simp? [↓cH,cN,sC,p0,hs,sk];exact qϨ;rw[qu,bw,hz];change mā;rw[oM];by_cases hx:x=z.1;subst hx;rw[ą,ą,ht,dQ];rw[aÜ,cΞ,bF];show ht x;rintro ρ M' ⟨o1,o2,m,rfl,rfl,hn,hl,ht,ij⟩;rw[aa] at hl ht;rw[bJ] at ht;simp? [↓cH];exact qϮ;have TH:d≠sp:=cT av xW;have QJ:iϹ:=by rw[dI.length_eq,aa];exact qÅ
 simp? [↓cH];exact qϤ;intro i x hx M3 N s3 hN;let⟨n,N7,rfl⟩:=uc hx;have hdM:kŘ:=lĂ;have N5:n∈Α:=kâ;simp? [↓cH,hdM,sM N5];have GJ:0<=bŢ:=by rw[ht];show dy _ (by exact qÂ)
 exact kŏ;have h':¬bŢ=0:=by exact λe=>Lqf [_] ϲ ϕ (LqIp h ŭ) rfl
 simp![h',bB] at hN;show hN;have h':bŢ=0:=by exact LqIx (Lqi [_] Lq0 ø Lq0 ø (LqIz h) rfl) (Lqi [_] ø Lq0 ø Lq0 GJ rfl)
 simp![h',ci] at hN;show hN;simp? [↓cH];exact pń;have e:qΙ:=by rw[<- iÞ,List.filterMap_map];unfold UO;rw[List.map_filterMap];congr 1;funext n;simp![Function.comp];split<;>rfl
 rw[e];show k
def xL {K:iD}(T:Ŧ):cD P w K mg base gT 2 A.qU A.re pó (iG K IB):=by
 exists T.v5.fn,[θ,Ξ,dϦ,hË,eϪ,bϜ,e϶],(aG (4\(jy ax)) (aG (fV bO rfl (jj Ŏ T.jg (ae (aU T.iY aυ hr (ae ė (ae (bW fi Ę aL) ax))) ax)) mΗ (aG (6\(bW oh (aU T.iY aυ hr (ae ė (ae (bW fi (bW fN aL ę) aL) ax))) ę)) (aS (gj (Qe PySem.F.plainAttrs_list PySem.F.slot_list_append PySem.F.type_list_append mL Ě (ae (di (ae Ĝ (ae (bW fi aL (aU T.iY aυ hr (ae ė (ae iÚ ax)))) ax))) ax)))))) (aS (bZ (aU T.BG (vS T) hr (ae ĕ gł))))))
 rintro vs M q ⟨d,l,p,most,far,rfl,hD,p2,p3,m0,m1,f0,f1,k⟩;simp? [↓fb];intro a ha;let⟨Ja,nal⟩:=hD.ne ha;exact aø;simp? [↓fb];exact#[d,l,most+1,rfl,hD.put ha,by exact Lqi [_] Ϣ ϒ ø Lq0 m0 rfl,by exact Lqi [_] ϱ gϊ ϒ (.n 63) m1 rfl,λn M1 n0 n1 D1 b1=> ?_];have ha1:M1 a=some cÿ:=by rw[b1 a Ja,av]
 simp? [↓fb];exact#[jŖ,ip (λi ρ M'=>gL λ eϰ (ps:Pt)=>nD (ρ= [dũ,ζ,some (wi most),some (wi far),dϻ,o1,o2]) (cė) (M' a=kο) (ps.length=i) oϸ (∀b,aÞ ->b≠a ->M' b=M b)) #[none,none,[],rfl,D1,ha1,rfl,by simp,λb h1 h2=>by rw[b1 b h1,aE h2]] kŒ ?_ ?_];rintro i x ρ M' hx ⟨o1,o2,ps,rfl,D2,ha2,hl,hz,hb⟩ N hN;let⟨hi,rfl⟩:=tE hx;have cm: ∀x,ji 2 x=True:=λx=>by simp[ji]
 simp? [↓fb,cm];exact#[d,l,2*far+1,rfl,D2,by exact Lqi [_] Ϣ kõ ϥ eϋ (LqIp f0 f0) rfl,by exact Lqi [_] (.a kõ ñ) gϊ (.a ϒ ϒ) (.a (.n 100000000) (.n 100000000)) (LqIp f1 f1) rfl,λr M3 r0 r1 D3 b3=> ?_];simp? [↓fb];exact aø;have ha3:M3 a=kο:=by rw[b3 a Ja];show ha2
 simp? [↓fb,ha3];exact#[d,l,p - 1,rfl,D3,by exact Lqi [_] Ϣ hÐ ý Lq0 p2 rfl,by exact Lqi [_] (.a hÐ ñ) gϊ ϒ Š p3 rfl,λs' M4 s0 s1 D4 b4=> ?_];have ha4:M4 a=kο:=by rw[b4 a Ja];show ha3
 have hs:((ps.map cN).length<sizeLine)=True:=by rw[aa];show aX (vm Ū)
 simp? [↓fb,ha4,hs];exact hN _ _ #[_,_,ps++ [(r - far,1+s')],rfl,D4.Sd Ja nal,?_,by simp[hl],eÁ,λb h1 h2=> ?_];rw[av,aO];rfl;obtain pB | pB:=au.mp pB;show hz z pB;rw[ag.mp pB];show#[by change -far<=r - far;exact Lqi Û Ņ eυ ø Lq1 r0 rfl,by change r - far<=far;exact Lqi Û Β Lq1 ϒ kô r1 rfl,by change 0<1+s';exact Lqi [_] Ϣ gϯ ø Lq0 s0 rfl,by change 1+s'<p;exact Lqi Û (.a gϯ ñ) Lq1 ϒ (.s Lq1 ñ) s1 rfl];rw[aE h2,b4 b h1,b3 b h1,hb b h1 h2];rintro ρ M' ⟨o1,o2,ps,rfl,D2,ha2,hl,hz,hb⟩;rw[mF] at hl;dsimp only;exact aø;simp? [↓fb];exact#[a,p,ps,rfl,ha2,by exact oπ,Ow Ū,by omega,?_];exact#[λb=>if b=a then none else M' b,eĺ,k ps _ Ū hz ?_ ?_];dsimp only at e;split at e;cases e;show e;let⟨ns,i,c,s',h1,h2,h3,h4⟩:=D2;show#[ns,i,c,s',by dsimp only;rw[aj (aZ Ja)];show h1,by dsimp only;rw[aj (aZ nal)];show h2,h3,h4];intro b wj;dsimp only;split;rename_i e;rw[e];show ha.symm;rename_i e;show hb b wj e
def zy {K:iD}(T:Ŧ):cD P w K mg base gT 1 A.Em A.EF hř (iG K Sw):=by
 exists T.moved.fn,hř,(aS (bZ (dc iR Ŏ T.pZ Boot.«tuple» (ae (fZ rfl (dS.of (sc:=bg xv) (N:= hř) (own:= jæ) (fr:= [1]) (N':= lă)) (lO ė) (λ_ _ _ _=>(eQ (n:=2) rfl (bv (a9 (i:=0) pŞ rfl Ζ) (bv (a9 (i:=1) pŞ rfl Ζ) dG)))) kM ϛ (λ_ _ _ _=>(di (ae kã gĸ)))) ax))))
 rintro vs M q ⟨pat,b,rfl,hl,k⟩;simp? [↓cH,fh];exact jK pϪ (by rw[aa];show big hl) hť ?_ γ;intro i x hx M3 N s3 hN;let⟨z,hz,rfl⟩:=dϯ;simp? [↓cH,cN];show hN;simp? [↓cH];exact#[M,aö,?_];have e:(pat.map cN).filterMap pϪ=(mv b pat).map cN:=by rw[List.filterMap_map,mv,aK];show List.filterMap_eq_map.symm▸rfl
 rw[e];show k
def IW {K:iD}(T:Ŧ):cD P w K mg base gT 2 A.Er A.EJ jÞ (iG K SF):=by
 exists T.added.fn,jÞ,(aS (bZ (aU T.tidy aχ hr (ae ė (ae (bW xJ oϗ (dc jL Ŏ T.h_ Boot.«list» gŀ)) ax)))))
 rintro vs M q ⟨p,a,b,rfl,p0,hf,ha,hb,k⟩;simp? [↓cH,fh];intro u hu;simp? [↓cH];intro v hv;have huv:u≠v:=cT av hv;have hs:(iß+(bϝ).length<=sizeLine)=True:=aX (big (by rw[aa,aa];exact qĥ));simp? [↓cH,aE huv,hs];intro c hc;simp? [↓cH];exact#[c,p,a++b,rfl,by rw[av,aO],p0,hf,by rw[aM];exact qĥ,?_];show#[M,mĲ (bG hc),k]
def tL {K:iD}(T:Ŧ):cD P w K mg base gT 2 A.Ei A.EB jß (iG K Sn):=by
 exists T.timed.fn,jß,(aS (bZ (aU T.tidy aχ hr (ae ė (ae (fZ rfl (dS.of (sc:=bg xt) (N:= jß) (own:= jæ) (fr:= [2]) (N':= kϕ)) (lO ĕ) (λ_ _ _ _=>(eQ (n:=2) rfl (bv (a9 (i:=0) pŘ rfl Ζ) (bv (a9 (i:=1) pŘ rfl Ζ) dG)))) kM ϛ (λ_ _ _ _=>(di (ae ė (ae (bW fN ĕ Ę) ax))))) ax)))))
 rintro vs M q ⟨p,a,n,rfl,p0,hf,ha,hz,k⟩;simp? [↓cH,fh];exact jK pϳ (by rw[aa];show big (by exact oϋ)) hť ?_ γ;intro i x hx M3 N s3 hN;let⟨z,pB,rfl⟩:=dϯ;have:=eϷ;have cm:fΝ:=mū;simp? [↓cH,cN,cm];show hN;have e:(a.map cN).filterMap pϳ=(tm n a).map cN:=by rw[List.filterMap_map,tm,aK];show List.filterMap_eq_map.symm▸rfl
 rw[e];simp? [↓cH];exact#[t,p,tm n a,rfl,av,p0,hf,by rw[tm,aa];exact oϋ,M,aö,k]
def IP {K:iD}(T:Ŧ):cD P w K mg base gT 2 A.En A.EG pŃ (iG K aaY):=by
 exists T.Qs.fn,pŃ,(aS (bZ (aU T.BG (vS T) hr (ae ė (ae (bW xJ oϗ (fZ rfl (dS.of (sc:=bg xw) (N:= pŃ) (own:= mĶ) (fr:= [3,4]) (N':= oϭ)) (lO Ę) (λ_ _ _ _=>(eQ (n:=2) rfl (bv (a9 (i:=0) qþ rfl Ζ) (bv (a9 (i:=1) qþ rfl Ζ) dG)))) kM ϛ (λ_ _ _ _=>(di (ae kã (ae (bW fN ĕ ę) ax)))))) ax)))))
 rintro vs M q ⟨p,a,b,y,n,rfl,p0,hf,ha,hb,hz,k⟩;simp? [↓cH,fh];intro u hu;simp? [↓cH];exact jK qĠ (by rw[aa];show big (by exact Lqj [_] Lq0 Ο Lq0 eϵ hb rfl)) hť ?_ γ;intro i x hx M3 N s3 hN;let⟨z,pB,rfl⟩:=dϯ;have:=eϷ;have cm:fΝ:=mū;simp? [↓cH,cN,cm];show hN;have e:(bϝ).filterMap qĠ=ià:=by rw[List.filterMap_map,Nw,aK];show List.filterMap_eq_map.symm▸rfl
 rw[e];have hut:u≠t:=cT av ht;have hs:(iß+(ià).length<=sizeLine)=True:=aX (big (by rw[aa,aa,Nw,aa];exact qĥ));simp? [↓cH,aE hut,hs];intro c hc;simp? [↓cH];exact#[c,p,a++bŧ,rfl,by rw[av,aO],p0,hf,by rw[aM,Nw,aa];exact qĥ,?_];show#[M,(fΟ (aö)).trans (bG hc),k]
def zx {K:iD}(T:Ŧ):cD P w K mg base gT 5 A.Ej A.EC nð (iG K So):=by
 exists T.taken.fn,["p",Ř,bϖ,cŃ,ð,bÝ,bÜ],(aG (4\(kH T.Row aτ Ρ Ŏ (ae (dc bϥ Ŏ T.Ct Boot.«dict» gĿ) (ae jz ax)))) (aG (fV bO rfl (Io rfl Ŏ T.mj gŀ) qă (aS (gj (aU T.cut (Bv T) hr (ae ė (ae ĕ (ae Ě (ae (aU T.stood (tM T) hr (ae ė (ae ĕ (ae (kH T.Row aτ Ρ Ŏ (ae (dc bϥ Ŏ T.Ct Boot.«dict» gŃ) (ae (lQ ě (lQ aL aL)) ax))) ax)))) ax)))))))) (aS (bZ (di (ae (aU T.tidy aχ hr (ae ė (ae (vR Ŏ T.h_ rfl hÑ) ax))) (ae (aU T.told_parts (nL T) hr (ae ė (ae hÑ iŽ))) ax)))))))
 rintro vs M q ⟨p,s,D,Z,Zm,sts,pat,rfl,hp,s0,s8,jd,ue,wz,z0,d0,d1,hZm,hZ3,hn,k⟩;have p0:0<p:= ∅;have AI:=dϬ;have DK:=hŝ;have SS:=hŞ;dsimp? [];rw[oI];dsimp? [];have Oj:=n_ ue;have lI:pat.length<=Ĥ:=by have:=wz.len Oj z0;have:lł:=qϥ;lia
 exact#[Ii pat,by rw[xH],by rw[Ii,aa];show lI,λl1 hl1=> ?_];rw[yf pat Oj.1];intro p1 _p r dr hr _E afE;exact#[r,dr,wr l1,wr p1,rfl,av,rfl,?_];dsimp? [];have n1:l1≠p1:=cT av _p;have n1r:l1≠r:=cT (by rw[aù];show av) hr;have n2r:p1≠r:=cT av hr;have Ba:cZ p (qĘ) l1 p1 pat []:=#[by rw[aE n1r,aù];show av,by rw[aE n2r];show av,kà,Oj,kà,List.nodup_nil,by simp[bX,n1]]
 have ud:um oé r oς r=some oς:=av;have Wp:Sm M (qĘ):=((bG hl1).trans (bG _p)).trans (bG hr);have fp1:M p1=none:=by rw[aE (aZ n1)] at _p;show _p
 have fr:M r=none:=by rw[aE (aZ n2r),aE (aZ n1r)] at hr;show hr
 generalize qĘ=M1 at Ba ud Wp ⊢;have F4: pá Ϗ=some (wr l1):=rfl;have Vg: pá ϐ=some (wr p1):=rfl;rw[Jz];dsimp? [];exact ip (λi ρ M'=>m_ λ eϴ (c:Pt) bÞ=>p9 (ρ= [ζ,ε,some (hϵ),some (fh pat),dϰ,o5,o6]) (M' r=some oς) (cZ p M' l1 p1 c P') (lC s p sts D Zm pat c P' i) (Wt (cņ) c) (Ĩ) (∀x∈eÄ,bθ) (∀t∈P',Wt (Zm+1) ê)) #[none,none,pat,[],rfl,ud,Ba,#[rfl,λi _ _ _ h=>absurd h jç,λx=> ?i1,(λw h=>by cases h),(λ_ w x h=>eė),(λw x h=>eė),List.nodup_nil,jè],?i2,Wp,?i3,jè] ?_ ?_ ?_;case i1=>change _=(cϞ+0) % p;rw[bF,dR p0 Oj]
 case i2=>intro x hx;have:=wz x hx;simp;exact ⟨Lqi Û Ņ Lq1 Ņ Lq1 ü rfl,Lqi Û Lq0 Lq1 Lq0 Lq1 ú rfl⟩
 case i3=>
  intro x hx
  simp![bX,ay,List.map_nil,List.not_mem_nil,or_false] at hx
  obtain rfl | rfl:=hx
  show hl1
  show fp1
 intro i ρ M' _ _;trivial;rintro i x ρ M' hx ⟨o5,o6,c,P',rfl,Ea,row,tk,wc,sm,kQ,ij⟩ N hN;let⟨y,hy,rfl⟩:=yd hx;let⟨st,iM,rfl⟩:=lX hy;let⟨cl,len,sr,d_⟩:=jd.each i st iM;have QX:=n_ sr.pat;have Oc:=eϸ;have XM:=sr.wt.len QX d0;dsimp? [];rw[oI];dsimp? [];exact oτ;rw[yf st QX.1];dsimp? [sK];intro q1 Tk q2 NX;have vV:e1≠q1:=cT av Tk;have Nv:e1≠q2:=cT kœ NX;have Jb:q1≠q2:=cT av NX;have f1:M' q1=none:=by rw[cϴ] at Tk;show Tk
 have f2:M' q2=none:=by rw[cϷ,aE (aZ Nv)] at NX;show NX
 exact oό;intro x dx gX GK Yi;have Qo:e1≠x:=oÑ;have Lq:q1≠x:=cT av gX;have Xf:q2≠x:=nò;have f3:M' x=none:=by rw[cϵ,aE (aZ Xf),cϵ,c϶] at gX;show gX
 exact nó;rw[qF];have A_:rÉ:=rÕ
 have NR:rÏ:=av;have qi:qϹ:=λd o e=>by rw[eϹ,eϺ,eϻ,eϺ,fÀ];show e
 generalize qϯ=M2 at A_ NR qi ⊢;have abx:st≠ []:=λz=>by have:=sr.bot;rw[z] at this;cases this
 exact#[x,dx,e1,q1,p,s,st,kř,1,D,rfl,NR,hp,s0,s8,A_,abx,sr.wt,d0, (by exact Lqi [_] Lq0 (.n 2000000) Lq0 eÅ d1 rfl),(λt ht=>by rw[bϔ];show Á),⋯,by simp,λM3 o ds ol op b Q f m t foot tn ho iI lN mn UK Pj JP eb eq xp Kf Xm Jw=> ?_];let⟨rfl,rfl,rfl⟩:=sr.mn s0 mn;have etn:tn=1:=by rw[sr.top,du,pŦ] at JP;show JP
 subst etn;have Uf:gĖ:=funext λx=>by rw[eb,c_,bF,du,dR p0 QX]
 have eq': pý:=λw x=>by
  rw[eq,bF,du];by_cases hw:w=Ĭ
  subst hw;have e:pf kř Ĭ= aϸ:=by simp[pf]
  rw[e];by_cases hx:x=0;subst hx;rw[am cų];change aϚ % p=1;show db ⋯ (by exact Lqi [_] iê Lq0 iê Lq0 Pj rfl);rw[aj (λz=>hx z.2)];have:look jØ x=0:=fm λq hq e=>hx nė;rw[this];rfl;have e:pf kř w= []:=mJ (by simp;show hw);rw[e,hĻ];rfl
 rw[Int.sub_zero] at ho lN;have Ti:=xp _ _ (qi _ _ Ea);have Wn:bÑ:=λd u e=>xp _ _ (qi _ _ (bϊ));have Ot: lŀ:=λd hd=>by
  cases e:M d with
  | none=>rfl
  | some o=>rw[Wn _ _ e] at hd;cases hd
 have rL:cZ p M3 l1 p1 c P':=row.keep (fK.sm (qi.trans xp) []) kÝ;have qd: ∀x∈eÄ,gċ:=λx hx GH=>by let⟨kvs,e⟩:=cϧ;have:=Kf x (aC _ GH);rw[bϢ] at this;cases this
 have UC:Wt D b:=λx hx=>sr.wt x (by rw[<- Uf];show hx);have hkQ: ∀w∈eν,w∈ [Ĭ]:=Jw;have hQl:=Nj iI.oo hkQ;have _H:=tk.len;have hZi:cņ <=Zm:=by have:=a6 (show Ĭ <=sts.length by lia) (show 0<=D+s by exact pϫ);exact Lqi ř μ Lq2 jš ξ (LqIp hZm this) rfl
 have hZ0:0<=Ĭ*(D+s):=qϥ;have hQ0: ∀t∈Q,Wt 0 ê:=λt ht x hx=>by rw[<- qm iI.oo ht,eq'] at hx;by_cases z:t.1=Ĭ /\ x=0;exact ⟨Lqi [_] (.g ø) Lq0 ø Lq0 (LqId z.2) rfl,Lqi [_] Lq0 ø Lq0 ø (LqIe z.2) rfl⟩;rw[Ô] at hx;show fů
 have nir:r∉eÄ:=λhd=>by let⟨kvs,e⟩:=row.mem hd;rw[Ea] at e;cases e
 exact#[r,l1,p1,o,ds,ol,op,p,s,_,_,foot,c,b,P',Q,Zm+1,0,cņ,D,rfl, .inl #[_,Ti],ho,hp,s0,s8,d_,lN,rL,iI,qd,wc,UC, (by exact Lqi Û ø μ ϥ μ (LqIp z0 hZ0) rfl), (by exact Lqi Ğ μ Γ jū (.a eÅ Lq2) (LqIp hZ3 hZi) rfl),d0, (by exact Lqi [_] Lq0 Γ Lq0 eÅ d1 rfl),ij,hQ0, (by exact Lqi Ğ ø ϒ nš kÏ (LqIp z0 (LqIp hZi hZ0)) rfl), (by exact Lqi [_] ϒ Γ Lq0 eÅ hZ3 rfl),⋯,⋯, (by exact Lqj ř μ Š (.a Lq2 (.a gő π)) (.a bá (.a Lq2 (.a ñ Lq3))) (LqNp hn (LqNp Oc (LqNp hQl _H))) rfl),λM4 c4 P4 js R1 ec ep ej vh nT ew kp4 Ou afm abO abI AG LG=>hN _ _ #[_,_,c4,P4,rfl,kp4 _ _ Ti nir,R1,tk.step p0 s0 jd iM sr Uf lN.ft.1 lN.ft.2 (by rw[<- Uf,bY];show lN.bot) row.ga R1.oo R1.gp ec ep eq' ej vh nT (λw hw=>(abI w hw).imp id λz=>ag.mp (hkQ w z)) (AG.elim (by rintro ms ⟨a,b,c,_⟩;exact #[ms,a,b,c])) (λj hj=>by have:=LG j hj;exact ⟨Lqi ř jŀ Lq1 (.a ξ (.s (.g ξ) ñ)) μ (LqIp hZi ü) rfl,Lqi ř Lq0 Lq1 kä jŨ (LqIp hZi ú) rfl⟩),?_,λd u e=>kp4 _ _ (Wn _ _ e) λhd=>(by rw[kQ d hd] at e;cases e),λd hd=>(Ou d hd).elim (kQ d) (Ot d),λt ht=>(abO t ht).up ∅]];have ez:Z+gϔ*(D+s)=cņ+D+s:=by push_cast;rw[Int.add_mul,Int.one_mul];exact LqIx (Lqi ř mş mŬ ø ø LqI0 rfl) (Lqi ř mŬ mş ø ø LqI0 rfl)
 rw[ez];show ew;rintro ρ M' ⟨o5,o6,c,P',rfl,Ea,row,tk,wc,sm,kQ,ij⟩;have vc:=row.lam;have JS:=row.par;dsimp? [Ea,AI,DK,SS,F4,Vg,vc];intro u hu;have Ue:(gi eΓ).length=sts.length:=by unfold gi;rw[aa,cx,aa]
 rw[Ue] at tk wc;have B0:(fP c).map mÿ=c.map cN:=by unfold fP;rw[aK];rfl
 rw[B0];have LF:lł:=qϥ;have lr:=wc.len row.ga (by exact Lqi Û ø μ ϥ μ (LqIp z0 LF) rfl);exact#[u,p,c,rfl,av,p0,wq, ∅,?_];have nru:r≠u:=cT Ea hu;dsimp? [aE nru,Ea,AI,SS,Vg];have _H:=tk.len;have Ob: ∀t∈P',eμ<=iδ:=λt ht=>fΡ fΤ (by exact Lqi Ğ ø ϒ nš kÏ (LqIp z0 (LqIp hZm LF)) rfl);have hPB:P'.length*iδ<=œ:=aI (Nat.mul_le_mul (show P'.length<=13 by exact Lqj Û Lq0 bá π hŦ fÁ rfl) (show iδ<=800003 by lia)) ⋯;exact#[l1,p1,p, -1,c,P',iδ,rfl,p0, ∅,⋯,⋯,row.keep (fK.sm (bG hu) []) kÝ, (by exact Lqj Û Lq0 Š π hŦ fÁ rfl),Ob, ∅,hPB,λt M2 tl Fd ht QV dI=>km (k t M2 (lH p c) tl P' (gH p0 c) (ź) (tk.ext (funext Ĺ)) dI ?_ ?_ QV)];rw[jD p0,eÆ,fÂ] at hx;have:=wc x hx;exact ⟨Lqi ř Ņ Lq1 (.a ξ (.g ξ)) μ (LqIp hZm ü) rfl,Lqi ř Lq0 Lq1 kä jŨ (LqIp hZm ú) rfl⟩;rw[jD p0,eÆ,fÂ];show sm.trans (fΟ Fd);cases e:M t with
 | none=>rfl
 | some o=>rw[bG hu _ _ (bϊ)] at ht;cases ht
def Bq {K:iD}(T:Ŧ):cD P w K mg base gT 5 A.wu A.wH lϮ (iG K (MW A.d3 A.dY)):=by
 have AI:=dϬ;have DK:=hŝ;have SS:=hŞ;have LV:=fΚ;have nS1:=iŴ;have nS2:=iŵ;exists T.take_in.fn,["p",Ř,aο,ð,į,bÜ,"left"],(aG (4\qŤ) (aS (tF bO (dF IK Ě Is Ė) (aG (gr (Bg (qo ĳ Ě Ę)) (aG qĆ (aS MG)) eU) (aG (5\(fC ĳ Ę Ě Η)) (aG (gj (aU T.cut (Bv T) hr (ae ė (ae ĕ (ae ę gĺ))))) (aG (6\qŤ) (aG (gr (dF lS Ĝ Ě Ė) (aG qĆ (aS (3\(kH T.Row aτ Ρ Ŏ (ae hÒ (ae hÒ ax)))))) eU) (aS (4\Ĝ))))))))))
 rintro vs M q ⟨hd,r,dr,rl,rp,p,s,Z,K',w',KP,bA,a,P,L,rfl,hp,s0,s8,lG,z0,k0,w0,Xp,yD,aeI,aeH,XS,hL,bxa,bxp,far,k⟩;have P0:uL s Z K' w' KP:=#[s0,k0,w0,Xp,yD]
 have F4: ∀l q:fR,[(Ϗ,wr l),(ϐ,wr q)].lookup Ϗ=some (wr l):=cŋ;have fS1: qϢ:=hŧ;have fS2: qϣ:=hŧ;have ud:=lG.ins;have vc:=lG.row.lam;have p0:0<p:= ∅;have hE0:=P0.E0;have hE8:2*K'*s<=16*K':=by have:=bj s8 (show 0<=2*K' by exact Lqi [_] ø cő ϥ eϋ fÃ rfl);lia
 have WY: ∀ {M':Mp} {rl rp:fR} {a:Pt} {P:Pq} {E:Int},hϫ ->qb s Z E E a ->0<=E ->E<=2*(w'+16*K')+2*K' ->kΩ:=λ{_ _ _ _ _ E} row bx e0 e1=>by have:=(bx.wt s0 s8 z0 (bn E) (bn E) e0).len row.ga ∅;unfold fg;rw[aa];lia
 dsimp? [ud,AI,DK,F4];exact mĳ;rw[pd];have qi:Sm M mΞ:=bG hu;have tc0:TC A.d3 A.dY s p bA M (gϳ) jŉ L hd mΞ r dr rl rp a P L:=by let⟨i1,i2,i3,i4,i5,i6,i7⟩:=lG;exact#[#[qi _ _ i1,#[qi _ _ i2.wG,λt ht=>jÑ fΦ iÇ kÍ,i2.nd,i2.qd,i2.wg],i3.keep fΦ kÍ,i4,i5,i6,i7],fK.sm qi _,λt ht x hx=> .inl (aC _ (au.mpr (nΦ))),λx hx=> .inl (aC _ (au.mpr (.inr hx))),λf hf=>hf,rfl,rfl]
 have Va:hd∈gϳ:=aQ;have ph0: ∃m,Ph s Z K' w' KP m a P L:=by
  exact#[mz s Z K' (kĳ) fÄ,λ_ t ht=>lŃ,λc6=>#[_,rfl, .inl #[?_,rfl]]];have ve:ë ->0<=kĳ:=λz=>by let⟨x,_,e⟩:=ah.mp (gB (l:=hϱ) ⇑c6).1;rw[<- e];obtain h | h:=yl (x:=x) s0;show cϸ;show h.1
  have h1:=P0.low ve;have h2:=P0.lowP ve;show#[bxa.up h1 h1,bxp.up h2 h2,λt ht _=>bϦ,λt ht _=>lŃ]
 let⟨m0,ph0⟩:=ph0;exact uj av (WY lG.row bxa w0 ∅) s0 s8 ?_;dsimp? [];exact xc (λm ρ M'=>E1 λ eϴ (r dr rl' rp':fR) (a':Pt) bÞ=> ∃ (L':í),dU (ρ= [ζ,ε,fÅ,dϰ,some (fW s a'),o5,o6]) (TC A.d3 A.dY s p bA M (gϳ) jŉ L hd M' r dr rl' rp' a' P' L') (Ph s Z K' w' KP m a' P' L')) m0 #[none,none,r,dr,rl,rp,a,P,L,rfl,tc0,ph0] ?_;rintro m ρ M' ⟨o5,o6,r1,_T,UP,Wz,a1,P1,L1,rfl,tc,ph⟩ N hN;have hE:cŇ<=2*(cŇ):= (by exact Lqi Û μ (.m 2 μ) ϥ μ fΧ rfl);have hEP:KP+s*hŨ <=KP+(s+1)*hŨ:=by rw[Int.add_mul,Int.one_mul];exact Lqi Ŷ μ (.a Lq0 nż) oĎ (.a Lq4 jŷ) nô rfl
 by_cases c6:fg a1= []
 have e1:fW s a1=wn:=am c6;have n1:SO wn=true:=rfl;dsimp? [e1];exact bϲ;dsimp? [n1,Bool.not_true];exact km (k M' L1 tc.lG.held tc.kp tc.fr (λf hf=>mŢ) tc.lG.vX (λt ht=>(ph.1 c6 t ht).up hE hEP) (by have:=tc.len;exact Lqj Û Lq0 ϑ Lq0 Lq1 dĶ rfl) (by rw[tc.key];show λc hc=>hc));obtain hb | hb:=bΨ;show eT.of hb;rw[Ŕ,MP c6];show eT.zero;obtain ⟨c,hc,ph⟩:=ph.2 c6;have e1:fW s a1=wi c:=by rw[hc];show aj c6
 have n1:SO (wi c)=false:=by change decide (V.int c=V.fw)=false;show cb iÇ
 have FP:=gB (l:=(fg a1).map aŝ) ⇑c6;rw[<- hc] at FP;have Nk:aş:=by let⟨x,_,e⟩:=cϹ;rw[<- e];show yl s0
 have B8:eϒ:=λz=>by obtain h | h:=Nk;(· show cϸ);(· show h.1)
 have TM:gĥ:=λz=>by obtain h | h:=Nk;(· show cϸ);(· exact Lqi Û ϒ Lq1 ϒ Lq1 h.2 rfl)
 have rO:=tc.lG.held.wG;have no:=tc.lG.row;have JV:=P0.low B8;have afc:=P0.lowP B8;have Td:=P0.top TM;have afb:=P0.aaJ TM;dsimp? [e1];exact bϲ;dsimp? [n1,Bool.not_false,rO];rw[AQ];have hs8:s*hŨ <=8*(w'+18*K'):=by have h1:=a6 s8 (show 0<=cŇ+2*K' by exact Lqi Ğ ø mô oĎ (.a Lq2 jū) nô rfl);lia
 have _H:P1.length<=100:=by have:=tc.lG.md.len no.oo;exact pΞ
 have hsz:((nq L1).length<sizeLine)=True:=by unfold nq;rw[aa];show aX (vm (by have:=tc.len;exact Lqj Û Lq0 Ο π iŀ (LqNp hL (dĶ)) rfl))
 have aeN:a1≠ []:=λe=>c6 gń;cases hf:L1.find? (jË) with
 | none=>
  have Vc:=sZ hf;let⟨Qc,hm⟩:Y_ s Z K' w' KP c a1 P1 L1 /\ m=mz s Z K' c fÄ:=by obtain h | ⟨t,d,h,_⟩:=ph;show h;show absurd (ah.mpr #[t,h.mem,h.at_]) Vc
  have abM:=tc.lG.ins;have wtp:=Qc.bp.wt no.oo ē ē;dsimp? [Option.map_none,Option.isSome_none,Bool.not_false];exact#[r1,_T,UP,Wz,p,s,a1,P1,(2*hÓ+1).toNat,Z+8*(fÆ+1),rfl,abM,hp,s0,s8,no,aeN,Qc.bx.wt s0 s8 z0 ē ē (by exact Lqi Û ø Lq0 gſ π fÇ rfl), ∅, ∅,λt ht=>(wtp t ht).len (no.gp t ht) (by exact Lqi Û ø Lq0 gſ π (LqIp Xp afc) rfl), ∅, (by exact Lqj [_] Lq0 Š Lq0 bϧ _H rfl),λM3 o ds ol op b Q f mm tt foot tn ho iI lN mn UK Pj JP eb eq xp Kf Xm Jw=> ?_];obtain rfl:f=c:=ja.uniq mn.mn FP;have TJ:=xp _ _ rO;dsimp? [TJ,hsz];let⟨g1,g2,g3,g4,g5⟩:=tc.new (t':=mϳ) hp Va Vc xp ho iI lN UK Pj eb eq Kf Jw (ME rfl Vc);exact km (k _ _ g1 g2 g3 g4 g5 (ſ) (by rw[aM,bT,tc.len];show Á) (λc hc=>by rw[aO];show au.mpr (.inl (by rw[tc.key];show hc))));obtain hu | hu:=bξ;obtain q | q:=d5 u.c f;show(Qc.lt u hu q).up hE hEP;show(Qc.ge u hu q).up (by have:=P0.KY;exact Lqi Ğ Lq0 (.m 2 ο) lϯ (.a Lq1 (.a Lq2 ο)) (LqIp w0 (LqIp hE0 this)) rfl) (by have:=P0.Zh;lia);rw[bο];have b1:=JO Qc.bx no.ga mn.lo;have b2:=JO Qc.bx no.ga mn.hi;show#[(Qc.bx.stood eb hÔ).up ∅ ∅,by change bâ<=_;lia,(Qc.bp.stood (s:=s) eq).up ∅ ∅]
 | some t=>
  let⟨rN,BY⟩:=nY hf;have st:=tc.lG.held.each t rN;have stI:=st.ins;have l0:=st.lN.l0;have lN:=st.lN;rw[BY] at lN;let⟨tK,bxr,bxt,bpr,bqt,ug,gu,hmm⟩:t.len<=K' /\ qb s Z (iá) (iá) a1 /\ qb s Z (lń) (lń) t.b /\ qD s (mϴ) (mϴ) P1 /\ qD s (oÒ) (oÒ) t.Q /\ (∀u∈L1,c<u.c ->rT s Z K' KP u) /\ (∀u∈L1,u.c<c ->oń) /\ ∃q:Nat,m=mz s Z K' c q /\ t.len.toNat<=q:=by
   rcases ph with⟨h,e⟩ | ⟨t2,d,h,e⟩
   have f:=h.ge t rN (by exact Lqi Û Lq0 Lq1 Lq0 Lq1 cň rfl);have:=f.len;show#[this,h.bx.up qČ qČ,f.bx.up qΖ qΖ,h.bp.up qϷ qϷ,f.bp.up rÍ rÍ,λu hu q=>h.ge u hu (by exact Lqi Û Lq0 Lq1 ϒ Lq1 q rfl),h.lt,_,e, ∅];obtain rfl:t2=t:=oż;have h1:=h.shr;have h2:=h.dk;show#[(by exact Lqi Ğ Lq0 Lq1 lÝ τ eϙ rfl),h.bx.up qΒ qΒ,h.bt.up (by exact Lqi Ğ mö mö ø ø LqI0 rfl) (by exact Lqi ř mö mø gő Lq2 h1 rfl),h.bp.up qϰ qϰ,h.bq.up (by exact Lqi Ŷ oŨ oŨ ø ø LqI0 rfl) (by exact Lqi Ι oŨ oũ gϮ Lq4 h1 rfl),h.gt,h.lt,_,e,Á]
  let⟨q0,hm,hq0⟩:=hmm;have wtp:=bpr.wt no.oo ē ē;have wtq:=bqt.wt st.row.oo (show _<=mϴ by exact qŰ) (by exact qŰ);have hQl:hÕ:=by have:=(tc.lG.vX t rN).len st.row.oo;exact pΞ
  dsimp? [Option.map_some,Option.isSome_some,Bool.not_true];have hv:fI (nq L1) bô=fτ:=by rw[AQ,hf];rfl
  dsimp? [rO,hv];have wa:=bxr.wt s0 s8 z0 ē ē qϟ;have UC:=bxt.wt s0 s8 z0 qť qť qϟ;exact#[r1,UP,Wz,t.o,t.ds,t.ol,t.op,p,s,t.c,t.len,t.foot,a1,t.b,P1,t.Q,mϴ,mϴ,lŅ,lŅ,rfl, .inl #[_,tc.lG.ins],stI,hp,s0,s8, ∅,st.lN,no,st.row,λx hx=>tc.lG.qd t rN x hx,wa,UC, ∅, ∅, ∅, ∅,wtp,wtq, ∅, ∅, ∅, ∅, (by exact Lqj Û μ Š μ kŚ (LqNp _H hQl) rfl),λM2 c1 P2 js ni ec ep ej vh nT ew NF Ov RO Ya JW AG LG=> ?_];rw[BY] at vh nT;let⟨ms,qc,QF,AG,QN⟩:=AG;rw[BY] at qc;have uX:=tc.cut rN ni ec ep NF Ov JW;let⟨la,lp,d,U6,hlp⟩:c7 λla lp=>dU (CI s Z K' w' KP c c1 P2 t la lp) (la<=lń) (lp<=oÒ):=by
   rcases ph with⟨h,e⟩ | ⟨t2,d,h,e⟩
   show#[_,_,h.cut P0 B8 TM rN BY l0 no.ga qc QF QN ej ec ep vh, (by exact Lqi Ğ μ mö Lq2 Lq1 tK rfl), (by exact Lqi Ι μ (.s (.a kå cϥ) Lq5) (.a ø (.a ø (.a ø (.a (.a Lq1 cϥ) Lq5)))) (.a Lq4 (.a Lq4 (.a Lq4 jŮ))) (LqIp k0 (LqIp k0 (LqIp k0 (LqIp Td tK)))) rfl)];obtain rfl:t2=t:=oż;show#[_,_,h.cut P0 l0 no.ga qc QF QN ej ec ep vh,Ï,Ï]
  have yF: ∀u∈L1,u.c=c ->oń:=λu hu e=>by obtain rfl:u=t:=iy tc.lG.held.nd hu rN (e.trans BY.symm);show#[bxt.up qΡ qΡ, ∅,bqt.up qϺ qϺ]
  have ge2: ∀x∈fg c1,c<=đ:=λx hx=>by have h1:=fo ni.ga hx;exact eΔ;rw[nT x (by exact Lqi Û ϒ Lq1 ϒ Lq1 (LqIw hn) rfl)] at h1;have:=FP.2 _ (ah.mpr #[x,eE (show look a1 x≠0 by exact λe=>Lqf [_] ϲ ϕ (LqIp h1.1 ŭ) rfl),rfl]);exact Lqf Û Ϯ π (LqIp (LqIw hn) this) rfl
  have Tj:=uX.lG.ins;have X6:=ni.lam;have Vb:=uX.lG.held.wG;dsimp? [Tj,AI,DK,F4];exact#[UP,fP c1,rfl,X6,ſ];rw[pd];exact uj av (WY ni (d.bx.up qϒ qϒ) qϟ ∅) s0 s8 ?_;have Lk:=uX.sm (bG (o:= kæ) hu);have rL:=Lk.lG.row;have abb:0<m:=by
   rw[hm];unfold mz;have h1:0<bώ:=by
    unfold u8;by_cases z:s=0;let⟨x,hx,e⟩:=cϹ;have h2:=qδ;have h3:đ=x:=by unfold b_;rw[Ó]
    rw[Ó];lia;have:=TM z;rw[Ô];lia
   have:=Nat.mul_pos h1 (show 0<K'.toNat+2 by exact Lqj [_] Ϣ gš ø Lq0 ϔ rfl);exact Lqj Û Ϣ μ mũ μ mĩ rfl
  generalize um M2 u (kæ)=M3 at Lk rL ⊢;have Ti:=Lk.lG.ins;have TJ:=Lk.lG.held.wG;by_cases FO:fg c1= []
  have e2:fW s c1=wn:=am FO;dsimp? [e2];exact#[V.fw,V.int c,rfl,rfl,rfl,?_];have e3:decide (V.fw=V.int c)=false:=cb iÇ;dsimp? [e3];show hN 0 _ _ abb #[_,_,r1,_T,UP,Wz,c1,P2,L1,by rw[e2],Lk,λ_=>OH P0 ug gu yF,λh=>absurd FO h];have e2:fW s c1=wi (gh (iε)):=aj FO;have JU:=gB (l:=iε) ⇑FO;let⟨c2,J8⟩: ∃c2,c2=gh (iε):=Ļ
  rw[<- J8] at e2 JU;have Oa:c<=c2:=by let⟨x,hx,e⟩:=ah.mp JU.1;rw[<- e];show ge2 x hx
  dsimp? [e2];exact gw (λe3=> ?_) λe3=> ?_;have aeJ:c1≠ []:=λe=>FO gń;have aaa:=d.bp.wt rL.oo rÄ rÄ;have afF:P2.length<=100:=by have:=Lk.lG.md.len rL.oo;exact pΞ
  dsimp? [];exact#[r1,_T,UP,Wz,p,s,c1,P2,(2*(mϴ)+1).toNat,lŅ,rfl,Ti,hp,s0,s8,rL,aeJ,d.bx.wt s0 s8 z0 qϒ qŶ qϟ, ∅, ∅,λt ht=>(aaa t ht).len (rL.gp t ht) ∅, ∅, (by exact Lqj [_] Lq0 Š Lq0 bϧ afF rfl),λM4 o ds ol op b Q f mm tt foot tn ho iI Wd mn UK Pj JP eb eq Wo Ou Xm Jw=> ?_];obtain rfl:f=c:=(ja.uniq mn.mn JU).trans e3;have hd4:=Wo _ _ TJ;dsimp? [hd4,hsz];rw[MD (t:=mϳ) jé];have qI:=(jŗ).ins;have nth:t.o≠hd:=λe=>by rw[e,TJ] at qI;cases qI
  have gM:=Wo _ _ qI;rw[oI];dsimp? [aE nth,gM,LV,nS1,nS2,fS1,fS2];intro r' dx nO GK _E;exact#[r',dx,wr t.ol,wr t.op,rfl,av,rfl,?_];rw[qF];have tc5:=Lk.turn (t:=t) (t':=mϳ) (r':=r') (dx:=dx) hp Va rN BY.symm Wo ho iI Wd UK Pj eb eq Ou Jw rfl nO;dsimp? [];have hfw:=Ua (s:=s) (p:=p) lN ∅ (jŗ).row.ga;have vb:(mϳ:fH)∈iH L1 mϳ:=oR jé;have ph2:=d.turn (L:=L1) (t':=mϳ) U6 hlp tK mn rL.ga rfl rfl lN (hÔ) bxt bqt eb eq ug gu vb;exact hN (mz s Z K' f (bâ).toNat) _ _ ?_ #[_,_,r',dx,t.ol,t.op,t.b,t.Q,iH L1 mϳ,by rw[hfw.1,e3],tc5,λh=>absurd h hfw.2.1,λ_=>#[f,hfw.2.2, .inr #[_,_,ph2,rfl]]];rw[hm];have h1:bâ<t.len:=ph2.shr;have h2:=Wd.l0;unfold mz;lia;dsimp? [];have zR:c<c2:= (by exact Lqi Û ϒ Lq1 ϒ Lq1 (LqIk Oa (Ne.symm e3)) rfl);exact hN (mz s Z K' c2 fÄ) _ _ ?_ #[_,_,r1,_T,UP,Wz,c1,P2,L1,by rw[e2],Lk,λh=>absurd h FO,λ_=>#[c2,J8, .inl #[d.on P0 qŶ (by exact qϚ) zR ug gu yF,rfl]]];rw[hm];exact Xg (Mz zR TM bů) õ;let⟨x,hx,e⟩:=cϹ;have h2:=qδ;have h3:đ=x:=by unfold b_;rw[Ó]
  exact Lqi ř Lq0 Lq1 kå jţ (LqIp Ő (LqIp h2.2 (cĳ))) rfl
def Bs {K:iD}(T:Ŧ):cD P w K mg base gT 4 A.ww A.wK kØ (iG K (MY A.d3 A.dY)):=by
 exists T.lie_low.fn,["p",Ř,aο,"firsts","at","behind"],(aG (3\pę) (aS (fV bO rfl (Fn Ŏ T.jg (ae (bW oh oύ aL) (ae cϲ iŽ))) mΤ (aS (fV bO rfl (eD (zp De ę (Du (bW fi Ě aL)) Dv)) mΗ (aS (gj (aU T.cut (Bv T) hr (ae ė (ae ĕ (ae (fC ĳ Ę (dW dH ę Ě Η) Η) (ae nϴ ax))))))))))))
 rintro vs M q ⟨hd,p,s,Z,E',EP,Λ,bA,L,rfl,hp,s0,s8,gA,vX,far,z0,e0,ep0,XS,hL,hΛ,aeI,aeH,k⟩;have rO:=gA.wG;dsimp? [rO];exact#[hd,nq L,Ε,rfl,rO,by unfold nq;rw[aK,aK];rfl,big (by rw[aa];exact Lqj [_] Lq0 Ο Lq0 bá hL rfl),λu cs hu dI i_=> ?_];have lr:cs.length=L.length:=by rw[dI.length_eq,aa]
 have gu:=vH i_ (dI.nodup_iff.mpr gA.nd);have qi:Sm M lϰ:=bG hu;have ll0:LL A.dY s p bA M L hd lϰ L:=(LL.init gA vX).sm qi;have N9: ∀c,0<=hV L c:=λc=>by
  unfold hV;cases e:mĪ with
  | none=>show Ï
  | some t=>show((gA.each t (nY e).1).lN).l0
 have N8: ∀l:ā, ∀x∈l.map aζ,0<=x:=λl x hx=>by let⟨c,_,rfl⟩:=bΔ;show N9 c
 have afr:kS (cs.map aζ) <=Λ:=by rw[y_ (dI.map aζ),Jg gA.nd];show hΛ
 have hΛ0:0<=Λ:=by have:=oQ (N8 cs) 0;exact Lqi Ğ ø Lq0 (.a Lq1 gϣ) kÂ (LqIp afr (LqIp ü ú)) rfl
 have e0Λ:0<=E'+Λ:= (by exact Lqi Û ø μ ϥ μ gŅ rfl);have Zd: ∀i:Nat,i<=13 ->0<=Ĭ*bã /\ Ĭ*bã <=13*bã:=λi hi=>#[cP Ϻ e0Λ,a6 ∅ e0Λ]
 have Zb: ∀i:Nat,gϔ*bã=cŉ+bã:=λi=>by push_cast;rw[Int.add_mul,Int.one_mul]
 have uf: ∀ {c:Int},c∈cs ->c∈Ε:=λh=>dI.mem_iff.mp h;have JY: ∀ {c:Int},c∈Ε -> ∃j,cs[j]? =Ĉ:=λh=>cA.mp (dI.mem_iff.mpr h);dsimp? [av,aa,NP];exact#[jê, -1, -1,rfl,#[⋯,⋯, ∅,⋯],?_];rw[zh];exact ip (λi ρ M'=>gL λ fÉ (L':í)=>gy (ρ= [ζ,ε,fÅ,ι,o4,o5]) (M' u=some iζ) (LL A.dY s p bA M L hd M' L') (∀t∈L', ∀j:Nat,cs[j]? =some t.c ->(j+i<cs.length ->rT s Z E' EP t) /\ (cs.length<=j+i ->qb s Z (E'+cŉ) (E'+cŉ) t.b /\ qD s (EP+cŉ) (EP+cŉ) t.Q /\ ∀v∈L',t.c<v.c ->rH s v.c v.len t.b))) #[none,none,L,rfl,av,ll0,λt ht j hj=>#[λ_=>bϦ,λh=>by have:=(bψ).1;lia]] kŒ ?_ ?_;rintro i x ρ M' hx ⟨o4,o5,L',rfl,_J,ll,QW⟩ N hN;let⟨hi,rfl⟩:=step_at hx;let⟨j0,LI⟩: ∃j0:Nat,bϨ=jê+Ĭ* -1:=#[cs.length - 1 - i, ∅]
 rw[<- LI];have hj1:j0+i+1=cs.length:= ∅;let⟨c0,B8⟩: ∃c0,cs[j0]? =some c0:=#[_,aĎ]
 have aer:Cg (cs.map wi) (some (bϨ+1)) none=(gņ).map wi:=by rw[show bϨ+1=((j0+1:Nat):Int) by push_cast;rfl,KA,List.map_drop]
 let⟨u0,hu0,XE⟩:=ll.get (uf (az B8));have T_:=(QW u0 hu0 j0 (by rw[XE];show B8)).1 ∅;have Ni:=Zd i ∅;have Ni1:=Zb i;dsimp? [_J];intro v hv;rw[aer];dsimp? [];have nuv:u≠v:=cT _J hv;have PD:Sm M' (um M' v mϵ):=bG hv;exact ip (λk ρ M2=>gL λ(o5:Ê) (L1:í) (uu:fH)=>p9 (ρ= [ζ,ε,fÅ,ι,some (wi j0),o5]) (M2 u=some iζ) (M2 v=some mϵ) (LL A.dY s p bA M L hd M2 L1) (uu∈L1) (uu.c=c0) (∀t∈L1,bϩ ->t∈L') (kg (∀t∈L',bϩ ->t∈L1) (∀ (q:Nat) d,q<k ->mĂ ->rH s d (aω) uu.b) (∀ (q:Nat) d,k<=q ->mĂ ->OZ s d (E'+oê+aω) uu.b) (qb s Z (jŘ) (jŘ) uu.b) (qD s (jř) (jř) uu.Q))) #[_,L',u0,rfl,by rw[aE nuv];show _J,av,ll.sm PD,hu0,XE,fÊ,fÊ,λq d h=>absurd h (Nat.not_lt_zero q),λq d _ nr x hx c6=> ?_,T_.bx.up qϋ qϋ,T_.bp.up qϏ qϏ] ?_ ?_ ?_;have h1:=T_.bx.1 x c6;have h2:=N9 d;change -(E'+0+aω) <=_ /\ _<=E'+0+aω;exact ⟨Lqi Ğ (.g kϦ) Lq2 (.a Ņ ø) τ (LqIp h1.1 h2) rfl,Lqi Ğ Lq0 (.a gϒ Lq2) ϕ ο (LqIp h1.2 h2) rfl⟩;rintro k ρ M2 _ ⟨o5,L1,uu,rfl,h1,h2,_⟩;show h2;rintro k x ρ M2 hx ⟨o5,L1,uu,rfl,h1,h2,AD,QB,U2,U3,QP,JV,ve,TN,_G⟩ N2 Oh;let⟨d,Yj,rfl⟩:=uc hx;have U_:cs[j0+1+k]? =aĀ:=by rw[List.getElem?_drop] at Yj;show Yj
 have afB:=(ao.mp U_).1;have B7:c0<d:=jk gu B8 U_ (by exact Lqj Û ϒ Ϯ ø Lq1 ϔ rfl);let⟨t,rN,BY⟩:=AD.get (uf (az U_));have abv:=U3 t rN (by exact λe=>Lqf Ğ (.a ϒ ο) jϖ (LqIp B7 (LqIp cň ŭ)) rfl);have XF:=(QW t abv (j0+1+k) (by rw[BY];show U_)).2 ∅;have su:=AD.held.each uu QB;have st:=AD.held.each t rN;have _F:=AD.held.wG;have abU:lJ (cs.map wi) bϨ=some (wi c0):=lg (by rw[aF,B8];rfl);have XD:fI (nq L1) (.inl c0)=some (wr uu.o):=by rw[<- U2];show AO AD.held.nd QB
 have U0:fI (nq L1) (.inl d)=fτ:=by rw[<- BY];show AO AD.held.nd rN
 have tln:t.len=aω:=by rw[<- BY];show AD.hV gA.nd rN
 have hS:=oQ (N8 (gņ)) Ü;have hSk:kS ((kç Ü).map aζ)=oê+aω:=by rw[bw,Yj];change kS ((kç k++ [d]).map aζ)=_;rw[aO];show HD _ _
 have hS0:=oQ (N8 (gņ)) k;rw[<- List.map_take] at hS hS0;have hSd:kS ((gņ).map aζ) <=Λ:=by have:=HE (N8 cs) (j0+1);rw[<- List.map_drop] at this;exact Lqi Ğ Lq0 Lq1 υ ο (LqIp afr this) rfl
 have afz:=N9 d;generalize hSS:oê=Sk at hSk hS0 ve;have hQ1:uu.Q.length<=100:=by have:=(AD.vX uu QB).len su.row.oo;exact pΞ
 have hQ2:hÕ:=by have:=(AD.vX t rN).len st.row.oo;exact pΞ
 dsimp? [h1,abU,_F,XD,U0];exact#[uu.o,uu.ol,uu.op,t.o,t.ds,t.ol,t.op,p,s,t.c,t.len,t.foot,uu.b,t.b,uu.Q,t.Q,jř,jř,mă,mă,rfl, .inr #[_,_,_,_,su.ins],st.ins,hp,s0,s8, ∅,st.lN,su.row,st.row,ye AD.held QB rN (by exact λe=>Lqf ř (.a Lq0 (.a ϑ ξ)) (.a Lq1 jϬ) (LqIp (LqIe U2) (LqIp B7 (LqIp cň (Ő)))) rfl),TN.wt s0 s8 z0 ē ē qϵ,XF.1.wt s0 s8 z0 qŬ qŬ qϵ, ∅, ∅, ∅, ∅,_G.wt su.row.oo ē ē,XF.2.1.wt st.row.oo qŷ qŷ, qϸ, qϬ, qϸ, qϬ, (by exact Lqj Û μ Š μ kŚ (LqNp hQ1 hQ2) rfl),λM3 c1 P2 js ni ec ep ej vh nT ew NF Ov RO Ya JW AG LG=> ?_];let⟨ms,qc,QF,AG,QN⟩:=AG;have ll2:=AD.cut QB rN (by exact Lqi ř ϒ Lq1 nõ jŶ (LqIp (LqIe U2) (LqIp B7 (cň))) rfl) ni ec ep nT NF Ov JW;rw[BY] at vh nT qc;have Yp:=ve k d õ Yj;have hj:=AX (f:=d) (bl:= -(E'+Sk+aω)) (bh:=E'+Sk+aω) st.lN.l0 QF (qc.nodup_iff.mpr (mV su.row.ga.1 s0)) (λm hm=>by let⟨x,hx,e1⟩:=lô;have:=Yp x hϰ (by have:=fo su.row.ga eψ;exact qÝ);exact ⟨Lqi Ŷ lμ Lq3 (.a Lq4 lμ) χ kΥ rfl,Lqi Ŷ Lq0 jũ eϠ (.a Lq4 jũ) kΦ rfl⟩) QN;have LH: ∀j∈js, -(E'+Sk+aω) <=j.1 /\ j.1<=E'+Sk:=λj jR=>by have:=bÌ;lia
 have nl: ∀ {y:fR} {l:Ë},M2 y=fĵ ->M3 y=fĵ:=λe=>NF _ _ e λhx=>by let⟨kvs,e2⟩:=su.row.mem hx;rw[e] at e2;cases e2
 have ij:uu.c∈fψ:=ah.mpr #[uu,QB,rfl];exact Oh _ _ #[_,iH L1 (eÈ),eÈ,rfl,nl h1,nl h2,ll2,oR ij,U2,λt' pD ne=> ?_,λt' pD ne=>mD (QP t' pD ne) (λz=>ne (z.trans U2)),λq d' hq nr x hx c6=> ?_,λq d' hq nr=> ?_,TN.cut XF.1 ec LH ej qń (by exact Lqi ϖ (.a μ jŵ) (.a μ eϠ) (.a Lq5 (.a Lq6 ξ)) (.a Lq6 eì) nĴ rfl) qń (by exact Lqi ϖ mŭ (.a μ ν) (.a Lq4 (.a Lq5 (.a ø (.a Lq2 Lq6)))) (.a Lq5 (.a Lq3 (.a Lq6 Lq4))) oŭ rfl),_G.cut XF.2.1 ep LH qŒ (by exact Lqi iÓ (.a μ jŮ) (.a μ eò) (.a Lq6 (.a Lq7 χ)) (.a Lq7 eè) nĴ rfl) qŒ (by exact Lqi iÓ mŗ mŦ (.a Lq5 (.a Lq6 (.a ø (.a Lq3 Lq7)))) (.a Lq6 (.a Lq4 (.a Lq7 Lq5))) oŭ rfl)];obtain e | ⟨e,_⟩:=fF pD;show absurd (by rw[e];show U2) ne;show U3 t' e ne;obtain z | z:=d4 q k;have h3:d'<d:=jk gu (by rw[List.getElem?_drop] at nr;show nr) U_ (by exact Lqj Ğ nń lÝ ϑ Lq2 z rfl);have X1:cĶ≠0:=c6;rw[nT x (by exact Lqi Ğ ϒ Lq1 kϝ τ (LqIp cĔ h3) rfl)] at X1;show JV q d' z nr x hx X1;have:q=k:= (by exact LqNx (Lqj Û Lq0 Lq1 ϒ ϑ hq rfl) ná);subst this;rw[Yj] at nr;cases nr;rw[<- tln];show vh x hx c6;have Ym:cs[j0+1+q]? =some d':=by rw[List.getElem?_drop] at nr;show nr
 have h3:d<d':=jk gu U_ Ym (by exact Lqj Ğ nń lÝ ϑ Lq2 hq rfl);let⟨v',va,hvc⟩:=ll.get (uf (az Ym));have h4:=XF.2.2 v' va (by exact Lqi ř ϒ Lq1 nõ jŶ (LqIp (LqIe BY) (LqIp h3 ((LqId hvc)))) rfl);rw[hvc,show v'.len=hV L d' by rw[<- hvc];show ll.hV gA.nd va] at h4;have:=N9 d';rw[hSk];show(ve q d' (by exact Lqj Û Lq0 Lq1 ϒ Lq1 hq rfl) nr).cut h4 ec LH ej (by exact Lqi ř jů (.a (.a Lq0 eç) Lq2) ø Lq3 afz rfl) (by exact Lqi ř jů (.a jϕ Lq3) ø Lq3 this rfl) (by exact Lqi ř jϕ (.a jŨ Lq0) ø Lq3 afz rfl);rintro ρ M2 ⟨o5,L1,uu,rfl,h1,h2,AD,QB,U2,U3,QP,JV,_,TN,_G⟩;rw[aa] at JV;exact hN _ _ #[_,_,L1,rfl,h1,AD,λt ht j hj=>#[bϙ,bϙ]];have ne:bϩ:=λe=>by rw[e] at hj;have:=jk gu hj B8 ∅;exact nř
 show(QW t (U3 t ht ne) j hj).1 (by exact Lqj Ğ ϫ Lq2 nŅ Lq2 h rfl);rw[Ni1];by_cases e:t.c=c0;have:t=uu:=iy AD.held.nd ht QB (e.trans U2.symm);subst this;exact#[TN.up qŅ qŅ,_G.up qœ qœ,hÖ];let⟨j',jR⟩:=JY (show v'.c∈Ε by rw[<- AD.key];show ah.mpr #[v',va,rfl]);have h4:=FM gu B8 jR (by exact Lqi Ğ ϒ Lq1 kϝ τ (LqIp Ő X2) rfl);have h5:=(ao.mp jR).1;rw[AD.hV gA.nd va];show JV fΨ v'.c (by rw[List.length_drop];lia) (by rw[List.getElem?_drop,show j0+1+fΨ=j' by lia];show jR);have LH:j≠j0:=λz=>e (by rw[z,B8] at hj;cases hj;rfl);have h4:=(QW t (U3 t ht e) j hj).2 ∅;exact#[h4.1.up qŭ qŭ,h4.2.1.up qŸ qŸ,hÖ];have ug:=jk gu B8 hj ∅;show h4.2.2 v' (U3 v' va (by exact λe=>Lqf Ğ oŐ jū (LqIp X2 (LqIp ug ŭ)) rfl)) X2;rintro ρ M' ⟨o4,o5,L',rfl,_J,ll,QW⟩;rw[yZ,show(jê - -1).toNat=cs.length by lia] at QW;exact km (k M' L' ll (λt ht v hv h=> ?_) γ);let⟨j,hj⟩:=pξ;show(qß).2.2 v hv h;let⟨j,hj⟩:=pξ;have:=qß;rw[lr] at this;show#[ü,ú.1]
def IV {K:iD}(T:Ŧ):cD P w K mg base gT 6 A.Ep A.EI lľ (iG K SE):=by
 have LV:=fΚ;have nS1:=iŴ;have nS2:=iŵ;exists T.built.fn,pθ,(aG (3\jz) (aG (fV bO rfl (zo rfl Ŏ T.mj gŀ) qć (aG (gj (aU T.take_in (Bq T) hr (ae ė (ae ĕ (ae ę (ae (kH T.Row aτ Ρ Ŏ (ae (dc bϥ Ŏ T.Ct Boot.«dict» gĺ) (ae (lQ Ě (lQ aL aL)) ax))) ax)))))) (aS (gj (aU T.lie_low (Bs T) hr nϊ))))) (aG (6\(cg bϣ Ŏ T.jO Boot.«sorted» gĿ)) (aG (7\(dc iR Ŏ T.pZ Boot.«tuple» (ae (fZ rfl qϜ (eD Ĝ) qĲ fS ϛ (λ_ _ _ _=>(aU T.tidy aχ hr (ae ĕ (ae (vR Ŏ T.h_ rfl pĬ) ax))))) ax))) (aS (bZ (di (ae aς (ae (fZ rfl qϜ (eD Ĝ) qĲ fS ϛ (λ_ _ _ _=>(aU T.told_parts (nL T) hr (ae ĕ (ae pĬ cϳ))))) ax)))))))))
 rintro vs M q ⟨u,p,s,Z,w',bA,rfl,hu,PP,k⟩;have hp:=PP.hp;have p0:0<p:= ∅;have s0:=PP.s0;have s8:=PP.s8;have hp8:=PP.len;have afp:=PP.w60;have UZ:=PP.z1;have AE:=PP.z0;dsimp? [];intro hd _D;have nuh:u≠hd:=cT hu _D;dsimp? [aE nuh,hu,zO];rw[show MO.dK []=MO.dK (nq []) from rfl];exact ip (λi ρ M'=>m_ λ fÉ (L:í) (bs:ì)=>gy (ρ= [ζ,ε,ι,fÅ,o4,o5,none,none]) (BSt A.dY s p Z w' bA i M' hd L bs) (Ĩ) (∀t∈L, ∀x∈t.adr,bθ)) #[none,none,[],[],rfl,#[#[av,jè,List.nodup_nil,List.Pairwise.nil,jè],jè,jè,jè,#[rfl,λ_ J _ i hi=>absurd hi jç,jè],(λ_ t h=>by cases h),jè,jè,Á],bG _D,jè] ?_ ?_ ?_;rintro i ρ M' _ ⟨o4,o5,L,bs,rfl,_,sm,_⟩;show sm _ _ hu;rintro i x ρ M' hx ⟨o4,o5,L,bs,rfl,B,sm,frL⟩ N hN;let⟨y,hy,rfl⟩:=yd hx;let⟨st,iM,rfl⟩:=lX hy;let⟨ue,TN⟩:=PP.pat st (az iM);have QX:=n_ ue;have Oc:=eϸ;have XM:=(TN.wt s0 s8 AE ē ē Ϻ).len QX ∅;have rO:=B.held.wG;dsimp? [];rw[oI];dsimp? [];exact oτ;rw[yf st QX.1];dsimp? [sK];intro q1 Tk q2 NX;have vV:e1≠q1:=cT av Tk;have Nv:e1≠q2:=cT kœ NX;have Jb:q1≠q2:=cT av NX;have f1:M' q1=none:=by rw[cϴ] at Tk;show Tk
 have f2:M' q2=none:=by rw[cϷ,aE (aZ Nv)] at NX;show NX
 exact oό;intro x dx gX GK Yi;have Qo:e1≠x:=oÑ;have Lq:q1≠x:=cT av gX;have Xf:q2≠x:=nò;have f3:M' x=none:=by rw[cϵ,aE (aZ Xf),cϵ,c϶] at gX;show gX
 exact nó;rw[qF];have A_:rÉ:=rÕ
 have NR:rÏ:=av;have qi:qϹ:=λd o e=>by rw[eϹ,eϺ,eϻ,eϺ,fÀ];show e
 generalize qϯ=M2 at A_ NR qi ⊢;have _P: ∀y∈bX e1 q1 nĜ,M' y=none:=λy hy=>by simp![bX,ay,aY,List.map_nil,List.not_mem_nil,or_false] at hy;obtain rfl | rfl | rfl:=hy;show TF;show f1;show f2
 have frN: ∀ {y},M' y=none ->M y=none:=λ{y} e=>by
  cases e2:M y with
  | none=>rfl
  | some o=>rw[sm _ _ e2] at e;cases e
 let⟨mI,Tt⟩: ∃mI:Int,mI=gĬ*w':=Ļ
 have afx:=B.len;have qc:ë ->gĬ <=s:=λz=>qĭ;have afy:mI<=68:=by rw[Tt];show Qp PP qc
 have hm0:0<=mI:=by rw[Tt];show qΝ
 have far:=B.far PP;rw[<- Tt] at far;have JX:=Jo s i (by exact Lqj Û Lq0 Ĕ kϥ hÂ (LqNp hp8 Oc) rfl);have l2:lγ:=by rw[bE];lia
 have afv:mI*s<=68*i:=by
  rw[Tt,Int.mul_assoc];have h1:(w':Int)*s<=68:=by rw[bY];show PP.sw
  have h2:=bj h1 (show 0<=gĬ by exact pù);have h3:=a6 (show gĬ <=i by lia) (show ĝ <=68 by decide);lia
 have afw:0<=mI*s:=cP hm0 s0;have eK:2*(2*mI)*s=4*(mI*s):=by rw[<- Int.mul_assoc];show Int.mul_assoc _ _ _
 have we:=B.held;have lG:Tin A.d3 A.dY s p M2 hd x dx e1 q1 gϸ st kř L:=by exact#[NR,#[qi _ _ we.wG,λt ht=>(fÌ).keep fΦ iÇ kÍ,we.nd,we.qd,we.wg],A_,λt ht y hy Xz=> ?_,λhy=> ?_,rS.first p0 iM,λt ht=>(B.md t ht).more Oc];let⟨kvs,e⟩:=(fÌ).row.mem Xz;rw[_P y hy] at e;cases e;have:=_P hd hy;rw[rO] at this;cases this
 have bp0:qD s bϒ bϒ nĜ:=λw y hy=>by
  by_cases z:w=Ĭ
  have e:pf nĜ w= aϸ:=by rw[z];simp[pf]
  rw[e] at hy;have:y=0:=aA λhn=>hy pÀ;exact ⟨Lqi Û Ņ Lq1 ϥ μ (LqIp JX.1 (dν)) rfl,Lqi Û Lq0 Lq1 ϗ gϒ (LqIp JX.1 (dξ)) rfl⟩;have:pf nĜ w= []:=mJ λhm=>by rw[List.map_singleton,ag] at hm;show z hm
  rw[this] at hy;show fĒ
 exact#[hd,x,dx,e1,q1,p,s,Z,2*mI,w',aι,fχ,st,kř,L,rfl,hp,s0,s8,lG,AE, ∅, Ϻ,JX.1,bů, ∅, ∅, qϐ, (by exact Lqj Ğ Lq0 Š nö (.a Ĕ ο) (LqNp hp8 (LqNp Oc afx)) rfl),TN,bp0,far,λM3 L1 pF kp1 _Q sp1 _h Ox NE NO=> ?_];have e:=PP.ZU z;rw[e] at Tt;show#[by rw[Tt];simp,by rw[e];rfl];rw[eK] at Ox;have hs9:mĄ <=9*(332+272*i):=by have h1:=a6 (show s+1<=9 by exact Lqi [_] ϒ (.n 9) Lq0 Ĕ s8 rfl) (show 0<=eÉ+2*(2*mI) by lia);lia
 have afs:0<=mĄ:=cP (by exact Lqi [_] ø ϒ ø Lq0 s0 rfl) ∅;have Cd: oç:=λt ht=>#[((Ox t ht).bx.wt s0 s8 AE ē ē ∅).up ∅,by have:=(Ox t ht).len;lia]
 let⟨bs1,wX⟩:=Gm PP B iM pF Cd _h NE NO;have hm1:ë ->hØ <=s:=λz=>yk pF qö;have QE: ∀pt∈fχ,eT s p (L1.map až) cĻ:=λpt LD=>by exact sp1 _ ?_;rw[bw,iM] at LD;obtain h | h:=au.mp LD;show(B.sp pt h).trans λb hb=>lö;rw[aϫ];show nę
 let⟨nI,_t⟩: ∃nI:Int,nI=hØ*w':=Ļ
 have afu:nI<=68:=by rw[_t];show Qp PP hm1
 have hn0:0<=nI:=by rw[_t];show qΝ
 have hΛ:kS (L1.map bϏ) <=2*nI:=by
  by_cases z:s=0;have:L1.map bϏ=List.replicate L1.length 0:=List.eq_replicate_iff.mpr #[by simp,λb hb=>by let⟨t,ht,rfl⟩:=bΚ;show((pF.each t ht).lN).s0 z];rw[this];have: ∀n:Nat,kS (List.replicate n 0)=0:=λn=>by induction n with | zero=>rfl | succ n ih=>rw[List.replicate_succ];change 0+kS _=0;rw[ih];rfl
  rw[this];lia;have:=Jh (D:=Ĥ) hp qö pF kÒ (jÙ) wX (λb hb=>QE b fÍ) (λb hb y hy=>(PP.pat b (List.mem_of_mem_take fÍ)).2.1 y hy);rw[show((2*L1.length*w':Nat):Int)=2*nI by rw[_t];push_cast;rw[Int.mul_assoc]] at this;show this
 dsimp? [];exact#[hd,p,s,Z,2*(eÉ),aι+mĄ,2*nI,fχ,L1,rfl,hp,s0,s8,pF,_h,Ox,AE, ∅, (by exact Lqi Û ø μ ϥ μ (LqIp JX.1 afs) rfl), qϐ, (by exact Lqj ř Lq0 bá (.a Lq1 (.a ϓ eδ)) (.a Ĕ (.a Lq1 (.a Lq2 gő))) (LqNp hp8 (LqNp Oc fΩ)) rfl),hΛ, ∅, ∅,λM4 L2 ll abd bx2=> ?_];have QL:L2.length=L1.length:=by have:=congrArg List.length ll.key;rwa [aa,aa] at this
 have hgr:nϋ <=ß*(256+544*i):=by have h1:=a6 (show hØ <=i+1 by lia) (show 0<=jś by lia);have h2:=bj (show jś<=256+544*i by lia) (show 0<=Ĭ+1 by exact Lqi [_] ø ϒ ø Lq0 kĎ rfl);exact pŏ
 have afD:0<=nϋ:=cP Ϻ ∅;have afC:nϋ <=8*(256+544*7):=by have h1:=Int.mul_le_mul (show hØ <=8 by lia) (show jś<=256+544*7 by lia) ∅ ⋯;show h1
 have ekp:aι+(mĄ+nϋ) <=yC s ß:=by
  by_cases z:s=0;have ew:=PP.ZU z;have em:mI=0:=by rw[Tt,ew];simp
  have en:nI=0:=by rw[_t,ew];simp
  rw[yC,yC,Ó,Ó,em,en,ew];simp;rw[yC,yC,Ô,Ô,Xo];exact Lqi Ŷ jϕ (.a Lq0 oď) ο oď (LqIp hs9 hgr) rfl
 have xp:bÑ:=Dd fϊ kp1 λy hy=>by obtain e | e:=bĵ;rw[e];show _D;obtain e | e:=au.mp e;let⟨t,ht,e⟩:=kè;show fÎ;show fÏ
 have Kf: ∀t∈L1, ∀y∈t.adr,M y=none:=λt ht y hy=>by
  obtain e | e:=_Q t ht y hy;obtain e | e:=ay.mp e;rw[e];show _D;obtain e | e:=au.mp e;let⟨t,ht,e⟩:=kè;show fÎ;show fÏ;cases e2:M y with
  | none=>rfl
  | some o=>rw[fϊ _ _ e2] at e;cases e
 have Wo:Sm M M4:=Dd xp ll.kp λy hy=>by let⟨t,ht,e⟩:=List.mem_flatMap.mp hy;show Kf t ht y e
 exact hN _ _ #[_,_,L2,bs1,rfl,#[ll.held,ll.vX,abd,λpt LD=>ll.sp _ (QE pt LD),#[by rw[wX.len,QL],wX.ind,wX.of],λz t ht=>cϺ.1.2 z,λt ht=>cϺ.2.up qÛ qÛ,λt ht=>#[(cϺ.1.wt s0 s8 AE ē ē ∅).up ∅,?_],by rw[QL];exact Lqj Ğ Lq0 ϑ υ Ϭ fΩ rfl],Wo,λt ht y hy=> ?_];let⟨v,hv,e⟩:=ah.mp (show t.c∈fψ by rw[<- ll.key];show iř);rw[ll.ln t ht v hv e.symm];show(Cd v hv).2;obtain e | e:=ll.fr t ht y hy;let⟨v,hv,e⟩:=kè;show Kf v hv y e;cases e2:M y with
 | none=>rfl
 | some o=>rw[xp _ _ e2] at e;cases e
 rintro ρ M' ⟨o4,o5,L,bs,rfl,B,sm,frL⟩;have Ue:(gi (bA.map fh)).length=bA.length:=by unfold gi;rw[aa,cx,aa]
 rw[Ue] at B;let⟨Ls,o⟩:=tJ L B.held.nd;have hLl:Ls.length=L.length:=o.perm.length_eq;have hL8:=B.len;have rO:=B.held.wG;have fS1: qϢ:=hŧ;have fS2: qϣ:=hŧ;dsimp? [rO];exact#[hd,nq L,Ε,rfl,rO,by unfold nq;rw[aK,aK];rfl,big (by rw[aa];exact Lqj Û Lq0 Ο π hÂ (LqNp hp8 hL8) rfl),λv cs hv dI i_=> ?_];have ecs:cs=Ls.map aŽ:=Nx i_ (cB.mpr (o.Fj.imp λh=> (by exact oę))) (dI.trans (o.perm.map aŽ).symm);have eW1:cs.map wi=iθ:=by rw[ecs,aK];rfl
 have PD:Sm M' (lς):=bG hv;have Yu:um M' v iζ v=some (.lst (iθ)):=by rw[av,eW1]
 generalize lς=M1 at PD Yu ⊢;have mem: ∀ {t},t∈Ls ->î:=λh=>o.perm.mem_iff.mp h;have at1: ∀ {M3},Sm M1 M3 -> ∀t∈Ls,M3 hd=iÅ /\ nĚ /\ M3 t.o=some (.ins A.dY t.ds qĊ) /\ cZ p M3 t.ol t.op t.b t.Q:=λ{M3} xp t ht=>by have st:=B.held.each t bϪ;show#[xp _ _ (PD _ _ rO),AO B.held.nd bϪ,xp _ _ (PD _ _ st.ins),st.row.keep (fK.sm (PD.trans xp) []) kÍ]
 dsimp? [Yu];exact KC (λt:fH=>fh (bϐ)) (qυ) (λM3 s3=>s3 _ _ Yu) ?_ λc1 M2 TM Fd QV=> ?_;intro t ht M3 N s3 hN;let⟨g1,g2,g3,g4⟩:=at1 s3 t ht;have g5:=g4.lam;dsimp? [g1,g2,g3,LV,nS1,fS1,g5];intro y hy;have B0:(fP t.b).map mÿ=t.b.map cN:=by unfold fP;rw[aK];rfl
 rw[B0];have J9:=(B.fin t bϪ).1.len g4.ga ⋯;exact#[y,p,t.b,rfl,av,p0,wq, ∅,?_];dsimp? [];show hN _ (bG hy);have TW:=Fd _ _ Yu;have JX:=Jo s bA.length hp8;dsimp? [QV,TW];exact Cj (by rw[aa];show qυ) λr hr=> ?_;have nrv:v≠r:=cT TW hr;have Yy: ∀ {y o},M2 y=Ą ->y≠r:=λe=>cT e hr;exact#[λi ys M3=> ∃as:ä,kg (ys=as.map wr) (as.length=i) (∀ (k:Nat) a,gĮ ->a≠r /\ c7 λ(t:fH) (tl:aê)=>dU (Ls[k]? =ať) (tl.Perm (vD p 1 t.Q)) (M3 a=kΚ)) (M3 r=gÚ) (Sm M2 M3),#[[],rfl,rfl,(λk a h=>by simp at h),av,bG hr],?_,?_,?_];rintro i ys M3 hi ⟨as,rfl,hl,_,h3,s3⟩;show#[s3 _ _ TW,h3,by rw[aa];exact nϵ];rintro i x ys M3 hx ⟨as,rfl,hl,has,h3,s3⟩ N hN;let⟨t,ht,rfl⟩: ∃t,aθ =ať /\ x=wi t.c:=by
  rw[aF] at hx;cases e:aθ with
  | none=>rw[e] at hx;cases hx
  | some q=>rw[e] at hx;cases hx;show eş
 have D_:=az ht;let⟨g1,g2,g3,g4⟩:=at1 (Fd.trans s3) t D_;have wtq:=(B.bp t (mem D_)).wt g4.oo ē ē;have hQl:t.Q.length<=8:=by have:=(B.md t (mem D_)).len g4.oo;rw[bE] at this;lia
 have d_: ∀z∈t.Q,z.2.2.length<=aŵ:=λz hz=>by have:=(wtq z hz).len (g4.gp z hz) JX.1;lia
 simp? [↓fb,g1,g2,g3,LV,nS2,fS2];exact#[t.ol,t.op,p,1,t.b,t.Q,aŵ,rfl,p0, ∅,⋯,⋯,g4, (by exact Lqj [_] Lq0 Š Lq0 Ĕ hQl rfl),d_,⋯,aI (Nat.mul_le_mul_right _ hQl) ⋯,λa M4 tl s4 ha LO dI=> ?_];have nar:a≠r:=aZ (cT h3 ha);simp? [↓fb];exact#[s4 _ _ h3,hN _ _ #[as++ [a],by rw[aO];rfl,by rw[aM,hl];rfl,λk b hb=> ?_,av,λy o' e=>by rw[aE (Yy e)];show s4 _ _ (s3 _ _ e)]];rw[List.getElem?_append] at hb;split at hb;let⟨h5,t',tl',h6,h7,h8⟩:=has k b hb;show#[h5,t',tl',h6,h7,by rw[aE h5];show s4 _ _ h8];rename_i hk;have X':k=i:=by let⟨q1,_⟩:=ao.mp hb;simp at q1;lia
 subst X';rw[hl,Nat.sub_self] at hb;cases hb;show#[nar,t,tl,ht,dI,by rw[aE nar];show LO];rintro ys M3 ⟨as,rfl,hl,has,h3,s3⟩;rw[aa] at hl;have far:=B.far PP;have fin:=B.fin;have smM:bÑ:=(kś).trans s3;have Xj:M r=none:=by
  cases e:M r with
  | none=>rfl
  | some o=>rw[(kś) _ _ e] at hr;cases hr
 have YF:lĻ:=by unfold f_;rw[aa];show hLl
 have jd:=sX ∅ B.held o kŜ λt ht=>(fin t ht).2;have etk:bA.take bA.length=bA:=bJ;exact km ?_;have e7:(Ls.map λt=>fh (bϐ))=(bÒ).map fh:=by unfold f_;rw[aK];rfl
 rw[e7];exact k M3 r as cĹ (Ls.map (·.Q)) #[jd,CQ ∅ B.held o kŜ B.low,λpt LD=>pA p0 B.held o (B.sp pt (by rw[etk];show LD)),by rw[aa,YF,hLl],by rw[YF];show B.len,λk st P hk hP=> ?_,eϝ,λz=>by rw[YF];show qĭ] smM Xj h3 (by rw[hl,YF,hLl]) λk a P ha hP=> ?_;unfold f_ at hk;rw[aF] at hk hP;cases e:Ls[k]? with
 | none=>rw[e] at hk;cases hk
 | some t=>rw[e] at hk hP;cases hk;cases hP;have D_:=mem (az e);have row:=(hŪ).row;have m:=B.md t D_;rw[etk] at m;show#[#[λx=>by rw[fÐ];show m.is x,m.key],row.oo,row.gp,B.bp t D_]
 let⟨t,ht,rfl⟩:=ah.mp iM;have D_:=mem ht;have row:=(hŪ).row;have sr:=C7 ∅ row.ga (hŪ).lN (fin t D_).1;rw[sr.se,YF];exact#[#[λx hx=>fϋ.1 x m϶,λz x hx=>fϋ.2 z x m϶],(far t D_).len];let⟨_,t,tl,h6,h7,h8⟩:=has k a ha;rw[aF,h6] at hP;cases hP;show#[tl,h7,h8]
def IN {K:iD}(T:Ŧ):cD P w K mg base gT 1 A.El A.EE [] (iG K Ss):=by
 exact Z8 T.still.fn za (by rintro vs M q ⟨rfl,_⟩;rfl) mą;have nd:=za.nd;exact#[_,(aS (bZ mĆ)),?_];try dsimp only[iQ]
 exact ké;rintro vs M q ⟨rfl,k⟩;simp? [↓cH];show Õ
def qp {K:iD}(T:Ŧ):cD P w K mg base gT 3 A.z5 A.Af jÞ (iG K M_):=by
 exists T.joined.fn,["p",ï,bÙ,aõ,cŃ,"more","behind"],(aG qĽ (aG (gv Ę qă) (aS (bZ (di (ae (bW fi ę ě) (ae (aU T.added (IW T) hr (ae ė (ae Ě (ae (aU T.moved (zy T) hr (ae Ĝ gĿ)) ax)))) ax)))))))
 rintro vs M q ⟨p,a,b,rfl,p0,hf,ha,hb,k⟩;simp? [↓cH,gz];exact#[b.2,a.1,rfl,by exact Lqj [_] Lq0 Ο Lq0 Γ hb rfl,?_];simp? [↓cH];exact#[p,a.2,mv a.1 b.2,rfl,p0,hf,aI ha ⋯,by rw[By];show aI hb ⋯,?_];simp? [↓cH];show Õ
def qR {K:iD}(T:Ŧ):cD P w K mg base gT 3 A.ul A.uw ["p",ï] (iG K W5):=by
 exists T.backward.fn,["p",ï,aõ,cŃ],(aG (gv ĕ qĈ) (aS (bZ (di (ae gŇ (ae (aU T.timed (tL T) hr (ae ė (ae (aU T.moved (zy T) hr (ae ę kŝ)) iŽ))) ax))))))
 rintro vs M q ⟨p,a,rfl,p0,hf,ha,hz,k⟩;simp? [↓cH,gz];exact#[a.2, -a.1,rfl,by exact oϋ,?_];simp? [↓cH];exact#[p,fŏ, -1,rfl,p0,T9 hf,by rw[By];show ha,eÁ,?_];let⟨y,hy,rfl⟩:=ah.mp pB;show hz y hy;simp? [↓cH];show Õ
def oX {K:iD}(T:Ŧ):cD P w K mg base gT 4 A.jG A.jI hÉ (iG K Qh):=by
 have oG:cD P w K mg base gT 3 A.jG A.jI hÉ (iG K ID):=Kg;exact pĚ;have nd:=jT.nd;exact rÝ;try dsimp only[iQ]
 exact ké;rintro vs M q ⟨p,a,n,rfl,p0,p1,hP,hl,n0,hb,k⟩;have jQ:fÑ=false:=cb pâ;have sA:=y9 hP p1;dsimp? [gz,jQ];exact kŏ;simp? [↓fb];exact#[p,a.2,n,rfl,p0,wq,hl,sA,?_];simp? [↓fb];exact km (k (0,lH p (tm n a.2)) #[?_,gH p0 _,Ĺ] (bϠ) λh'=>absurd h h');rw[h,bR];rw[xj p0,sQ];unfold j7;rw[aj pâ,h,sU];have:jϡ:=by omega
 rw[this];show aI bũ (by rw[tm,aa];show Á);let⟨nb,d_⟩:=hb h;have cm: ∀j:Int,j<aŚ ->0<=j ->ji a.1 j=True:=λj h1 h2=>aX (.inr jŖ);dsimp? [fh];exact Ge (λ_=>iι) (λ ĩ=>wi (0+ĥ)) (λz k=>mć) ?_ hť ?_ γ;exact vm ?_;simp![cx];rw[List.map_const',List.sum_replicate_nat];show aI d_ ⋯;intro z hz M3 s3 B N0 hB;simp? [↓cH,cN];exact#[jŖ,hB _ _ hť ?_];intro j hj M4 s4 N hN;have hj:=dq.mp hj;simp? [↓cH,cm (0+aϘ) Ū (by exact Lqi [_] ø ϗ ø Lq0 kĎ rfl)];show hN;have e:(aϱ λz=>(iι).map λ ĩ=>mć).flatten=(iμ).map cN:=by rw[lY,List.map_flatten,aK];congr 1;apply bI;intro z _;simp![Function.comp_apply,oT,aK];apply bI;intro j _;rw[cw];rfl
 rw[e];have cn:ji a.1 n=True:=cm n nb n0;dsimp? [cn];exact#[t,p,iμ,rfl,av,p0,wq,by rw[tV];show aI d_ ⋯,?_];simp? [↓fb];exact#[M,aö,k (a.1*n,lH p (iμ)) #[rfl,gH p0 _,Ĺ] (λh'=>absurd h' h) bϠ];rw[xj p0,yQ];unfold j7;rw[aj pâ];exact aI bũ ?_;rw[tV];have:hŕ:=by omega
 rw[this];show Á
def xK {K:iD}(T:Ŧ):cD P w K mg base gT 5 A.jG A.jI hÉ (iG K Qg):=by
 have oG:=oX (P:=P) (w:=w) (base:=base) T;exact pĚ;have nd:=jT.nd;exact rÝ;try dsimp only[iQ]
 exact ké;rintro vs M q ⟨p,a,n,rfl,p0,p1,hP,hl,hn,hb,k⟩;have jQ:fÑ=true:=cj hn;have sA:=y9 hP p1;dsimp? [jQ];exact#[p,a,rfl,p0,wq,hl,sA,?_];dsimp? [];have hB:=Uo p a;exact#[p,bk p a, -n,rfl,p0,p1,Um p0 a,by exact Lqj Û Lq0 Γ π jϮ (LqNp hl hB) rfl,by exact pÐ,λhe=> ?_,λr hr hlr X3=> ?_];have he':a϶:=λz=>he (by change -a.1=0;exact LqIx (Lqi [_] Ņ ø ø Lq0 (LqId z) rfl) (Lqi [_] ø Ņ Lq0 ø (LqIe z) rfl));let⟨h1,h2,h3⟩:=hb he';exact#[by exact Lqi [_] jŜ eÊ mĈ Lq0 h1 rfl,aI (Nat.mul_le_mul hB (Nat.le_of_eq ?_)) h3];omega;dsimp? [];have e:jŝ:=by omega
 rw[e] at X3;have hm:hϘ*n.natAbs<=iϵ:=Nat.mul_le_mul_right _ hB;show km (k r (hr.Nn p0 hn) (λh=>aI (hlr (by change -a.1=0;exact LqIx (Lqi [_] Ņ ø ø Lq0 (LqId h) rfl) (Lqi [_] ø Ņ Lq0 ø (LqIe h) rfl))) hB) λh=>aI (X3 (by change -a.1≠0;omega)) hm)
theorem lT {K:iD}(T:Ŧ):cD P w K mg base gT 5 A.jG A.jI hÉ (iG K W2):=YD ((oX T).mono ⋯) (xK T) λ_ _ _=>MX
def tN {K:iD}(T:Ŧ):cD P w K mg base gT 1 A.nR A.nU nϰ (iG K Iz):=by
 exists T.lies_within.fn,pô,(aG (gv ė qą) (aS (bZ (Bl (je DH (cg gS Ŏ T.rE Boot.«abs» gĿ) ĕ Ė) (tH (cg bϫ Ŏ T.KO Boot.«all» (ae (fZ rfl (dS.of (sc:=bg j8) (N:= pô) (own:= jæ) (fr:= [2]) (N':= nŢ)) (lO Ě) (λ_ _ _ _=>(eQ (n:=2) rfl (bv (a9 (i:=0) pϘ rfl Ζ) (bv (a9 (i:=1) pϘ rfl Ζ) dG)))) kM ϛ (λ_ _ _ _=>(je DH oώ Ę Ė))) ax)))))))
 rintro vs M q ⟨a,e,r,rfl,hl,k⟩;have ef:iO a e r= !(oĐ && pò):=rfl;dsimp? [gz,fh];cases h1:oĐ with
 | false=>rw[h1,Bool.false_and] at ef;rw[ef] at k;dsimp? [];show Õ
 | true=>rw[h1,Bool.true_and] at ef;rw[ef,Bool.not_not] at k;dsimp? [];exact kL (λz=>wb (oĊ)) pů hť ?_ ſ;intro z hz M3 N3 s3 Ed;dsimp? [cN];show Ed;exact#[u,aϱ λz=>oĊ,rfl,by rw[av,aK];rfl,?_];rw[List.all_map];show fÒ
def xN {K:iD}(T:Ŧ):cD P w K mg base gT 2 A.qW A.rh [ï] (iG K Sz):=by
 exists T.fits_crew.fn,[ï],(aS (bZ (aU T.lies_within (tN T) hr (ae ė (ae pŰ (ae pŽ ax))))))
 rintro vs M q ⟨a,rfl,hl,k⟩;dsimp? [];exact#[a,8,24,rfl,hl,?_];dsimp? [];show Õ
def qq {K:iD}(T:Ŧ):cD P w K mg base bĽ 3 A.lu A.lv [cń] (Wj K (W4 A.fT A.gD)):=by
 exact okX T.check_members.fn kA (by rintro vs M q e ⟨u,ms,rfl,_⟩;rfl) nţ;have nd:=kA.nd;exact#[_,(aG (gr (dF zw (cg gR Ŏ T.rD Boot.«len» gň) pű Ė) (aS (vQ hF rfl Ŏ T.kq (ae (DA (jV kX (jV (Bk pű) (jV kX Il)))) ax))) eU) (aS (fV Nb rfl dϫ (a9 (i:=1) nd rfl Ζ) (aS (gr (Be (mG (aU T.fits_crew (xN T) hr gĸ))) (aS (vQ hF rfl Ŏ T.lK (ae (DA (jV kX (jV (Bk pŰ) (jV kX (jV (Bk pŽ) (jV kX Il)))))) ax))) eU))))),?_];try dsimp only[iQ]
 exact ké;rintro vs M q ⟨u,ms,rfl,hu,hl,k,ke1,ke2⟩;by_cases h6:dϣ
 .have h1:nŤ=true:=cj iâ;dsimp? [hu,h1,yL];(repeat (exact n϶));show#[M,cĐ,ke1 h6]
 have h1:nŤ=false:=cb iâ;dsimp? [hu,h1];exact ip (λi ρ M'=> ∃o:Ê,dU (ρ= [ι,o]) (M'=M) (∀a∈ms.take i,cł=false)) #[none,rfl,rfl,by simp] (λ_ _ _ _ h=>by let⟨_,_,rfl,_⟩:=h;show hu) ?_ ?_
 .rintro i x ρ M' hx ⟨o,rfl,rfl,hf⟩ N hN;let⟨a,ha,rfl⟩:=HV hx;have hm:=az ha;dsimp? [];exact#[a,rfl,hl a hm,?_];cases U8:cł with
  | true=>dsimp? [Bool.not_true,Bool.not_false,yL];(repeat (exact n϶));show#[M',Sm.refl M',ke2 pã #[a,hm,U8]]
  | false=>dsimp? [Bool.not_true,Bool.not_false];exact hN _ _ #[_,rfl,rfl,Ÿ];rw[bw,ha] at hb;obtain hb | hb:=bΨ;show hf b hb;simp at hb;rw[hb];show U8
 rintro ρ M' ⟨o,rfl,rfl,hf⟩;rw[aa,bJ] at hf;dsimp? [];show km (k pã hf)
def nk {K:iD}(T:Ŧ):cD P w K mg base gT 1 A.jH A.jJ [aπ] (iG K pGD):=by
 exists T.greatest_divisor.fn,[aπ,"greatest",aõ,"left"],(aG (1\aL) (aG (fV bO rfl dϫ mΥ (aG (3\oϊ) (aS (tF bO (mG ę) (aS (Sh (i:=1) (j:=3) rfl nd rfl rfl ⋯ rfl rfl (ae ę (ae (bW iw ĕ ę) ax)) Ŏ)))))) (aS (bZ ĕ))))
 rintro vs M q ⟨u,ns,rfl,hu,k⟩;dsimp? [hu];exact ip (λi ρ M'=>c7 λ(o2 o3:Ê)=>ρ= [ι,some (wi (gŉ:Nat)),o2,o3] /\ M'=M) #[none,none,rfl,rfl] (λ_ _ _ _ h=>by let⟨_,_,_,rfl⟩:=h;show hu) ?_ ?_;rintro i x ρ M' hx ⟨o2,o3,rfl,rfl⟩ N hN;let⟨n,hn,rfl⟩:=mU hx;have eg:nA (ns.take ß)=nù:=by rw[bw,hn];show pJ
 rw[eg] at hN;have ea:(if n<0 then -n else n)=gŊ:=by split<;>lia
 dsimp? [ea];exact xc (λm ρ M2=>c7 λ(a b:Nat)=>gy (ρ= [ι,some (wi a),dϮ,eË]) (M2=M') (m=b) (dϙ=nù)) n.natAbs #[gŉ,n.natAbs,rfl,rfl,rfl,rfl] ?_;rintro m ρ M2 ⟨a,b,rfl,rfl,rfl,hg⟩ N2 Oh;dsimp? [];exact kŞ;have hm:0<m:=by simp at h;exact Lqj [_] Ϣ Lq0 ñ Lq0 (Nat.pos_of_ne_zero h) rfl
 exact#[∅,Oh (a % m) _ _ (Nat.mod_lt _ hm) #[m,a % m,rfl,rfl,rfl,?_]];rw[<- hg,Nat.gcd_comm, <- Nat.gcd_rec,Nat.gcd_comm];have hm:m=0:=by simp at h;show h
 subst hm;rw[Nat.gcd_zero_right] at hg;subst hg;show hN _ _ #[_,_,rfl,rfl];rintro ρ M' ⟨o2,o3,rfl,rfl⟩;rw[aa,bJ];dsimp? [];show Õ
def Fq {K:iD}(T:Ŧ):cD P w K mg base gT 1 A.zZ A.Ac [aπ,Ř] (iG K Su):=by
 exists T.row_to.fn,[aπ,Ř,"rows","edge","reached","here","k",aõ,"way","there"],(aG (2\(lQ aL (jy ax))) (aG (3\(jy cϳ)) (aG (tF bO (Bg (qo ĳ ĕ Ę)) (aG (4\(jy ax)) (aG (fV bO rfl (eD ę) mΗ (aS (fV bO rfl (zo rfl Ŏ T.mj gň) qĄ (aS (fV bO rfl (lO (di (ae aL iŽ))) mΦ (aG (9\(bW fi ě (bW fN aς (pv 8)))) (aS (gr (H0 (Bg (qo ĳ (pv 9) Ę)) (Dp (dF DH (cg gS Ŏ T.rE Boot.«abs» gŋ) pŰ Ė))).pt (aG (mH ĳ Ę (pv 9) (bW xJ nϴ (jy (ae (di (ae Ĝ (ae (pv 8) ax))) ax))) rfl) (aS (gj (Qe PySem.F.plainAttrs_list PySem.F.slot_list_append PySem.F.type_list_append mL Ě gŋ)))) eU)))))))) (aS (3\Ě))))) (aS (bZ (fC ĳ Ę ĕ Η))))))
 rintro vs M q ⟨u,ns,rfl,hu,h8,hl,k⟩;dsimp? [sK];intro rd QZ;dsimp? [];intro r0 yG;have _a:=cT av yG;dsimp? [aE _a];exact#[aψ,rfl,?_];dsimp? [];intro e0 T';have nre:=cT av T';have TZ:M r0=none:=(bG QZ).free yG;have sE:Sm M (um (um (um (um M rd bĲ) r0 cÿ) rd (.dK [(aψ,wr r0)])) e0 (.lst [W.v (V.int 0)])):=(nú).trans (bG T');exact xc (λm ρ M1=>E1 λ(R:Pq) (E:ā) (ed:fR) (o4 o5 o6 o7 o8:Ê)=> ∃o9:Ê,p9 (ρ= [ι,kë,fÓ,fÔ,o4,o5,o6,o7,o8,o9]) (m=(17 - R.length)*2+(if E= [] then 0 else 1)) (Sm M M1) (M1 rd=iÍ) (M1 ed=kŉ) (Y' M M1 R) (M ed=none) (kg (bÓ) (nE R 0) (Vn ns R E) (∀x∈E,aν) (∀t∈R,é≠ed))) ((17 - 1)*2+1) #[[(0,r0,[])],[0],e0,none,none,none,none,none,none,rfl,rfl,sE,?_,av,?_,?_,Li.one,?_,?_,?_,?_] ?_;rw[aE nre,av];rfl;intro t ht;rw[bϔ];exact#[TZ,?_];change um _ e0 _ r0=_;rw[aE (Ĺ),cϻ,av];rfl;rw[<- x,cϻ,av] at T';cases T';show(nú).free T';simp[nE];intro x hx nx;simp[nE] at hx;subst hx;show absurd ś nx;intro x hx;simp at hx;subst hx;simp[nE];intro t ht;rw[bϔ];intro x;have x:r0=e0:=x;rw[<- x,cϻ,av] at T';cases T';rintro m ρ M1 ⟨R,E,ed,o4,o5,o6,o7,o8,o9,rfl,rfl,s1,XR,hed,ra,fed,bf,kz,cl,eR,ne⟩ N hN;by_cases hg:nE R dϘ;let⟨t,ht,et,hv⟩:=t7 hg;dsimp? [XR,hv,Option.isSome_some];show km (k é _ ê (by rw[<- et];show bf.Rp t ht) (by have:=bf.len t ht;have:=bf.most;lia) (λz=>bf.zr t ht (by rw[et,z];rfl)) (ra t ht).1 s1 (ra t ht).2);have hE:E≠ []:=λe=>hg (Vn.gd h8 bf kz (by rw[e] at cl;show cl));dsimp? [XR,DT hg,Option.isSome_none];intro rc Q0;have fM:M rc=none:=s1.free Q0;have nec:=cT hed Q0;exact aø;dsimp? [aE nec,hed];have rb0:Uu M (um M1 rc cÿ) rd ed rc E R []:=#[s1.trans (bG Q0),by rw[aE (cT XR Q0)];show XR,by rw[aE nec];show hed,av,ra.mv (bG Q0),λt ht=>cT (ra t ht).2 Q0,nec]
 have bs0:yI ns R R [] (λ_=>False):=#[bf,bĴ,λ_ h=> ağ,λ_ h=>(nomatch h),rfl,λ_ h=>h.elim]
 exact ip (λa ρ M2=>OJ λ(R':Pq) dÀ (o5 o6 o7 o8 o9:Ê)=>dU (ρ= [ι,kë,fÓ,fÔ,fÕ,o5,o6,o7,o8,o9]) (Uu M M2 rd ed rc E R' F) (yI ns R R' F λz=> pĭ)) #[R,[],o5,o6,o7,o8,o9,rfl,rb0,bs0.weak λy h=>by let⟨x,hx,_⟩:=h;show nomatch hx] (λ_ _ _ _ h=>by let⟨_,_,_,_,_,_,_,_,h,_⟩:=h;show h.edge) ?_ ?_;rintro a x ρ M2 hx ⟨R',F,o5,o6,o7,o8,o9,rfl,rb,bs⟩ N2 Oh;let⟨h,hh,rfl⟩:=mU hx;have hKh:nE R h:=eR h (az hh);have hu2:=rb.sm _ _ hu;dsimp? [hu2,zO];exact ip (λb ρ M3=>_Y λ(R':Pq) dÀ (o6 o7 o8 o9:Ê)=>dU (ρ= [ι,kë,fÓ,fÔ,fÕ,dϸ,o6,o7,o8,o9]) (Uu M M3 rd ed rc E R' F) (yI ns R R' F λz=>qŠ)) #[R',F,o6,o7,o8,o9,rfl,rb,bs.weak λy g=>by obtain g | ⟨n,hn,_⟩:=g;show g;show nomatch hn] (λ_ _ _ _ h=>by let⟨_,_,_,_,_,_,_,h,_⟩:=h;show h.sm _ _ hu) ?_ ?_;rintro b x ρ M3 hx ⟨R',F,o6,o7,o8,o9,rfl,rb,bs⟩ N3 Ed;let⟨y,hy,rfl⟩:=yd hx;let⟨e,he,rfl⟩:=mU hy;have e8:=h8 e (az he);dsimp? [];exact ip (λc ρ M4=>m_ λ(R':Pq) dÀ (o8 o9:Ê)=>dU (ρ= [ι,kë,fÓ,fÔ,fÕ,dϸ,eË,some (wi e),o8,o9]) (Uu M M4 rd ed rc E R' F) (yI ns R R' F λz=>qϠ)) #[R',F,o8,o9,rfl,rb,bs.weak λy g=>by obtain g | ⟨n,hn,_⟩:=g;show g;show nomatch hn] kŒ ?_ ?_;rintro c x ρ M4 hx ⟨R',F,o8,o9,rfl,rb,bs⟩ N4 hN4;let⟨w,hw,hwc,rfl⟩: ∃w:Int,(eϢ) /\ hū[c]? =some w /\ x=wi w:=by
  match c,hx with
  | 0,hx=>show#[1, Ķ,rfl, ⇑hx.symm]
  | 1,hx=>show#[-1, ĺ,rfl, ⇑hx.symm]
  | c+2,hx=>simp at hx
 have cm:ji e w=True:=aX (.inr ∅);let⟨y,hy⟩: ∃y,h+e*w=y:=Ļ
 have tk: ∀R' F,yI ns R R' F (λz=>(qϠ) \/ z=y) ->yI ns R R' F (λz=>(qŠ) \/ ∃w∈kì (c+1),z=h+e*w):=λR' F g=>g.weak λz hz=>by obtain hz | ⟨w',xV,ez⟩:=hz;show gŌ;rw[bw,hwc] at xV;obtain xV | xV:=au.mp xV;show .inl (.inr #[w',xV,ez]);simp at xV;subst xV;show .inr (ez.trans hy)
 have _o:=rb.rows;by_cases ky:nE R' y;let⟨t,ht,et,hv⟩:=t7 ky;dsimp? [cm,hy,_o,hv,Option.isSome_some];show hN4 _ _ #[R',F,_,_,rfl,rb,tk _ _ (bs.ext λ_ _=>ky)];have hv:=DT ky;dsimp? [cm,hy,_o,hv,Option.isSome_none];exact gw (λOa=> ?_) λOa=> ?_;let⟨t,ht,et,hvt⟩:=t7 (bs.old h hKh);have no:=(rb.at_ t ht).2;dsimp? [_o,hvt,no];intro l1 f1;have n1:=cT no f1;have lt:=bs.Uq.len t ht;have lR:=bs.Uq.most;dsimp? [aù,no];exact#[big (by rw[aa];exact Lqj Û ϒ Ο Ϯ (.a Lq1 (.n 17)) (LqNp lt lR) rfl),λv fv=> ?_];dsimp only;have s4:Sm M4 (qâ):=(bG f1).trans (bG fv);have fv4:M4 v=none:=(bG f1).free fv;have hv4:um nζ v oı v=some (.lst ((kí).map cN)):=by rw[av,aO];rfl
 generalize qâ=M5 at s4 hv4 ⊢;have XO:=s4 _ _ _o;have Th:=s4 _ _ rb.new;have ncr:rc≠rd:=λx=>by rw[x,XO] at Th;cases Th
 dsimp? [XO];have ePd:(ly R').length=R'.length:=by simp[ly]
 exact#[vm (aI (Nat.le_of_eq ePd) (by exact Lqj [_] Lq0 Ο Lq0 (.n 17) lR rfl)),?_];rw[Bb (c:=kí) ky];have lF:=bs.cnt;dsimp? [aE ncr,Th];exact#[vm (by rw[aa];exact Lqj Ğ Lq0 Ο (.a Lq1 lî) (.a (.n 17) ο) (LqNp lR (LqNp (LqNd lF) Ϡ)) rfl),?_];dsimp? [];have rb5:=rb.add (y:=y) (c:=kí) QZ fM s4 fv4 hv4;rw[aO] at rb5;have vb:(h,é,ê)∈R':=by rw[<- et];show ht
 show hN4 _ _ #[_,_,_,_,rfl,rb5,tk _ _ (bs.add vb he hw hy.symm kş kş ky)];exact hN4 _ _ #[R',F,_,_,rfl,rb,tk _ _ (bs.ext λg0 g1=>absurd ?_ Oa)];split<;>lia;rintro ρ M4 ⟨R',F,o8,o9,rfl,rb,bs⟩;exact Ed _ _ #[R',F,_,_,_,_,rfl,rb,jì];obtain hz | ⟨n,hn,w,hw,ez⟩:=hz;show gŌ;rw[bw,he] at hn;obtain hn | hn:=au.mp hn;show .inl (jŞ);simp at hn;subst hn;show .inr #[w,hw,ez];rintro ρ M3 ⟨R',F,o6,o7,o8,o9,rfl,rb,bs⟩;rw[uo,aa,bJ] at bs;exact Oh _ _ #[R',F,_,_,_,_,_,rfl,rb,jì];let⟨x,hx,n,hn,w,hw,ez⟩:=hz;rw[bw,hh] at hx;obtain hx | hx:=bì;show .inl #[x,hx,n,hn,w,hw,ez];simp at hx;subst hx;show jŞ;rintro ρ M2 ⟨R',F,o5,o6,o7,o8,o9,rfl,rb,bs⟩;rw[aa,bJ] at bs;dsimp? [];have Vk:yI ns R R' F oĉ:=bs.weak λy g=>by obtain⟨x,hx,n,hn,g | g⟩:=g;show#[x,hx,n,hn,1,by simp, ∅];show#[x,hx,n,hn, -1,by simp, ∅]
 exact hN _ _ _ ?_ #[R',F,rc,_,_,_,_,_,_,rfl,rfl,rb.sm,rb.rows,rb.new,rb.at_,fM,Vk.Uq,Vk.old _ kz,Vk.cld cl,Vk.fin,rb.n1];have:=Vk.cnt;have:=Vk.Uq.most;rw[aj hE];cases F with
 | nil=>rw[List.length_nil] at this;simp;lia
 | cons x F=>rw[eí];simp![aT] at*;lia
def zz {K:iD}(T:Ŧ):cD P w K mg base gT 6 A.uk A.uv kÙ (iG K Sy):=by
 exists T.gone_row.fn,["p",cń,ð,"now","k","way"],(aG (3\(Fp T.still (IN T) Ρ Ŏ)) (aG (fV bO rfl eÌ qć (aS (3\(aU T.joined (qp T) hr (ae ė (ae ę (ae (aU T.repeated (lT T) hr (ae ė (ae (dW dH ĕ Ě Η) gĺ))) ax))))))) hŤ))
 rintro vs M q ⟨u,v,p,x,ms,row,rfl,p0,p1,hu,hv,mb,hw,hl,k⟩;dsimp? [];exact bϲ;dsimp? [hv];exact ip (λi ρ M'=>gL λ(now:WQ.Rd) fÉ=>nD (ρ= [ζ,ι,dϟ,some (gz now),o4,o5]) (M'=M) (yu (fΔ) (row.take i) now.1) (cO p now.2) (Bd 40 now.2) (i=0 ->now=aŕ)) #[aŕ,none,none,rfl,rfl, .nil,cO.nil,λz hz=>(nomatch hz),bġ] (λ_ _ _ _ h=>by let⟨_,_,_,_,rfl,_⟩:=h;show hv) ?_ ?_;rintro i z ρ M' hz ⟨now,o4,o5,rfl,rfl,nw,nP,nB,n0⟩ N hN;let⟨⟨kk,w⟩,hkw,rfl⟩:=pairs_at hz;let⟨kn,e,y,rfl,he,hw1,wy,wy2⟩:=hw.at hkw;rw[<- nw.uniq wy] at wy2;rw[aF] at he;let⟨a,ha,rfl⟩: ∃a,ms[kn]? =Ċ /\ a.1=e:=by
  cases g:ms[kn]? with
  | none=>rw[g] at he;cases he
  | some a=>rw[g] at he;cases he;show eŴ
 have hm:=az ha;have yF:lJ (cľ) (kn:Int)=eÍ:=lg iν;have a8:=(dÁ).1;have af:=mb.wq a hm;have aw: -8<=a.1*w /\ a.1*w<=8:=by obtain rfl | rfl:=hw1 <;>lia
 have w1:w.natAbs=1:= ∅;dsimp? [hu,yF,cN];exact#[p,a,w,rfl,p0,p1,eÎ, (by exact Lqj [_] Lq0 Γ Lq0 (.n 49) af rfl),λ_=>#[∅, ∅,by rw[w1];lia],iã];have rl:cώ<=49:=by by_cases c:a.1=0;have:=l0 c;lia;have:=l1 c;rw[w1] at this;lia
 have nl:=yp nP nB ⋯;dsimp? [];exact#[p,now,r,rfl,p0,wq,aI nl ⋯, (by exact Lqj [_] Lq0 Γ Lq0 (.n 49) rl rfl),?_];dsimp? [];exact hN _ _ #[jn p now r,_,_,rfl,rfl,?_,BL p0 _ _,BK nB (xB hr (dÁ).2 aw) nw.Fi ⋯,λh=>absurd h (by exact λe=>Lqg [_] lψ ϗ (LqNp bŐ Ϡ) rfl)];change yu _ _ (now.1+r.1);rw[hr.en];show wy2;rintro ρ M' ⟨now,o4,o5,rfl,rfl,nw,nP,nB,n0⟩;rw[aa,bJ] at nw;dsimp? [];show km (k now (nw.uniq hw) nP nB λe=>n0 gń)
def oY {K:iD}(T:Ŧ):cD P w K mg base gT 1 A.qZ A.rA gĶ (iG K (W3 A.dZ)):=by
 have cl:=fÖ;have n1:=iξ;exists T.qC.fn,gĶ,(aS (bZ (Iu (mG Ϝ) (bW sv ĕ Ϝ) aL)))
 rintro vs M q ⟨o,dx,fs,s,e,rfl,ho,hs,s0,k⟩;dsimp? [ho,cl,n1,hs];unfold pc at k;exact kŞ;have hz:ë:=by simpa using h
 rw[aj hz] at k;show#[by simp[AB];lia,Õ];have hz:s=0:=by simpa using h
 rw[am hz] at k;show Õ
def u9 {K:iD}(T:Ŧ):cD P w K mg base gT 6 A.pN A.pU jŏ (iG K (MZ A.dZ)):=by
 have cl:=fÖ;have n1:=iξ;have n2:=fό;exists T.uR.fn,jŏ,(aS (bZ (aU T.joined (qp T) hr (ae Ϝ (ae Ę (ae (aU T.repeated (lT T) hr (ae Ϝ (ae ĕ (ae (gf e9 (oV T.qC (oY T) Ρ ė nό)) ax)))) ax))))))
 rintro vs M q ⟨o,dx,fs,p,s,lap,a,_,rfl,ho,⟨hp,hs,hm⟩,⟨p0,p1,s0,s8⟩,⟨l1,lP,lB⟩,⟨aP,aW⟩,dv,k⟩;dsimp? [ho,cl,n1,n2,hp,rY];exact#[hm,?_];dsimp? [gz];exact#[o,dx,fs,s,a.1,rfl,ho,hs,#[s0, (by exact Lqi [_] ϒ Š Lq0 Ĕ s8 rfl)],?_];have a8:=aW.1;have lm:s*bϚ=a.1 \/ s=0 /\ bϚ=0:=by unfold pc;by_cases z:s=0;show .inr #[z,Ó];rw[Ô];show .inl (Int.mul_ediv_cancel' dv)
 let⟨n,hn⟩: ∃n,n=bϚ:=Ļ
 rw[<- hn] at lm ⊢;have n8: -8<=n /\ n<=8:=by
  obtain h | h:=lm;by_cases z:s=0;rw[hn];unfold pc;rw[Ó];decide;have s1:1<=s:= (by exact Lqi [_] ñ Lq0 Ϣ Lq0 kÀ rfl);have g1:=a6 s1 (show 0<=gŊ by exact pù);have g2:s*gŊ=((s*n).natAbs:Int):=by rw[Int.natAbs_mul,Int.natCast_mul];congr 1;lia
  rw[h] at g2;lia;exact ⟨Lqi [_] δ Lq0 ø Lq0 (LqId h.2) rfl,Lqi [_] Lq0 Ĕ Lq0 ø (LqIe h.2) rfl⟩
 have ln:=yp lP lB ⋯;have nl:lap.2.length*n.natAbs<=81*8:=Nat.mul_le_mul ln ∅;have en:jŝ:=hŬ;dsimp? [];exact#[p,lap, -n,rfl,p0,p1,lP,aI ln ⋯,λ_=>#[(by exact Lqi [_] mĈ Ņ Lq0 Ĕ n8.2 rfl), (by exact Lqi [_] jŜ eÊ δ Lq0 n8.1 rfl),by rw[en];show aI nl ⋯],λr hr r0 r1=> ?_];have rl:cώ<=648:=by by_cases c:aò=0;show aI (r0 c) (aI ln ⋯);have:=r1 c;rw[en] at this;show aI this nl
 have rw8: -8<=aò* -n /\ aò* -n<=8:=by rw[l1,eh];obtain h | h:=lm;rw[h];exact qĸ;rw[h.1];simp
 dsimp? [];exact#[p,a,r,rfl,p0,wq,aI (yp aP aW.2 ⋯) ⋯, (by exact Lqj [_] Lq0 Γ Lq0 (.n 648) rl rfl),?_];dsimp? [];show km (k cϩ r rfl (hn▸hr) (BL p0 _ _) (BK (d:=8) aW.2 (xB hr lB rw8) aW.1 ⋯))
def Nl {K:iD}(T:Ŧ):cD P w K mg base bĽ 8 A.Kl A.Kx kŎ (Wj K (SD A.dZ A.fT A.gD)):=by
 have cl:=fÖ;have n1:=fό;have n2:=aX T.n_Crew_rounds;have n3:=iξ;have n4:=aX T.n_Crew_way;have n5:=iο;have n6:=aX T.n_Crew_makers;have n7:=hŭ;have n8:=aX T.n_Crew_surplus;exact okX T.Crew.fn Dg (by rintro vs M q e ⟨o,dx,u,p,ms,rfl,_⟩;rfl) nţ;have nd:=Dg.nd;exact#[_,(aG (gj (Fo hP T.check_members (qq T) Ρ Ŏ gŀ)) (aG kŐ (aG (gJ ė (dc iR Ŏ T.pZ Boot.«tuple» gŀ) rfl) (aG (tG (i:=3) rfl nd rfl (Or.inl rfl) (dS.of (sc:=bg tz) (N:= pυ) (own:= iä) (fr:= []) (N':= iä)) eÌ (λ_ _ _ _=>(eQ (n:=2) rfl (bv (a9 (i:=0) pĊ rfl Ζ) (bv (a9 (i:=1) pĊ rfl Ζ) dG)))) kM ϛ (λ_ _ _ _=>ė) rfl) (aG (gJ ė (aU T.greatest_divisor (nk T) hr gĿ) rfl) (aG (gJ ė (aU T.row_to (Fq T) hr (ae ę kϖ)) rfl) (aG (4\(aU T.gone_row (zz T) hr (ae ĕ (ae Ę kϖ)))) (aG (gv (aU T.built (IV T) hr (ae ĕ (ae Ϝ (ae (fZ rfl (dS.of (sc:=bg tz) (N:= pυ) (own:= [ï]) (fr:= [4,0]) (N':= jş)) eÌ (λ_ _ _ _=>(a9 (i:=0) (by change(jş:ĉ).Nodup;decide+kernel) rfl Ζ)) fS ϛ (λ_ _ _ _=>((oV T.uR (u9 T) Ρ Ę (ae ĕ gň))∪aL))) ax)))) qă) (aG (gJ ė ě rfl) (aG (gJ ė Ĝ rfl) (aG (gv (aU T.taken (zx T) hr (ae ĕ (ae Ϝ (ae ě (ae (dW iA Ě aL Η) ax))))) (eQ (n:=2) rfl (bv mΙ (bv mΦ dG)))) (aG (gJ ė (di (ae Ϝ (ae aς ax))) rfl) (aS (gJ ė (pv 8) rfl)))))))))))))),?_];try dsimp only[iQ]
 exact ké;rintro vs M q ⟨o,dx,u,p,ms,rfl,ho,hu,SN,hp,ue,k,ke⟩;dsimp? [G'];exact#[u,ms,rfl,hu,λa ha=>(ue a ha).2,λh6 Yg=> ?_,λh=>#[M,cĐ,ke.1 h],λh6 hf=>#[M,cĐ,ke.2 h6 hf]];have mb:bÔ:=#[h6,λa h=>(ue a h).1,λa h=>eÏ,λa h=>yp (ue a h).1 (eÏ).2 ⋯]
 replace k:=k mb;have ml:ms.length<=sizeLine:=big (aI mb.len ⋯);have Lo:0<p /\ aő:= ∅;have e1:gN "p" (Í) []= [iÎ]:=rfl;dsimp? [ho,cl,n1,n2,e1,aeG,Nat.reduceLT,aE (aZ SN),hu];let⟨M1,Kb⟩: ∃M1,um M o lĄ=M1:=Ļ
 have o1:M1 o=some lĄ:=by rw[<- Kb,av]
 have k1: ∀b ob,aô ->dϤ ->M1 b=Ġ:=λb ob n h=>by rw[<- Kb,aE n];show h
 have u1:=k1 u _ (aZ SN) hu;rw[Kb];exact kL (λa:WQ.Rd=>wi a.1) ml (λM s=>s _ _ u1) ?_ γ;intro a ha M3 N s3 hN;dsimp? [gz];show hN;have nto:o≠t:=cT o1 ht;dsimp? [];exact#[t,fΔ,rfl,by rw[av,aK];rfl,?_];have h8: mϷ:=λn hn=>by let⟨a,ha,rfl⟩:=ah.mp hn;have:=fØ.1;lia
 have g8:=x_ h8;let⟨s,hs⟩: oë:=Ļ
 have s0:Ñ:= qŁ;have s8:s<=8:= ∅;rw[hs];dsimp? [aE nto,o1,cl,n3,aeF,YT,Nat.reduceLT];let⟨M2,QV⟩: ∃M2,um (um M1 t (.lst (ms.map λa=>wi a.1))) o lτ=M2:=Ļ
 have o2:M2 o=some lτ:=by rw[<- QV,av]
 have k2: ∀b ob,aô ->dϤ ->M2 b=Ġ:=λb ob n h=>by rw[<- QV,aE n];show bG ht _ _ (k1 b ob n h)
 have t2:M2 t=some (.lst ((fΔ).map wi)):=by rw[<- QV,aE (aZ nto),av,aK];rfl
 rw[QV];dsimp? [o2,cl,n3,aez];exact#[t,fΔ,by rw[hs],t2,h8,by rw[aa];show mb.len,λv M3 row Rp rl rz fv xp hv=> ?_];rw[hs] at Rp;have o3:=xp _ _ o2;have nvo:o≠v:=cT o2 fv;dsimp? [o3,cl,n4,aeE,YS,Nat.reduceLT];let⟨M4,LO⟩: ∃M4,um M3 o mĉ=M4:=Ļ
 have o4:M4 o=some mĉ:=by rw[<- LO,av]
 have k4: ∀b ob,aô ->dϤ ->M4 b=Ġ:=λb ob n h=>by rw[<- LO,aE n];show xp _ _ (k2 b ob n h)
 have v4:M4 v=lü:=by rw[<- LO,aE (aZ nvo)];show hv
 have u4:=k4 u _ (aZ SN) hu;rw[LO];dsimp? [o4,cl,n4,YV];exact#[u,v,p,s,ms,row,rfl,Lo.1,Lo.2,u4,v4,mb,Rp,rl,λlap l1 lP lB l0=> ?_];dsimp? [o4,cl,n3,YZ,u4];exact Cj (by rw[aa];show ml) λt' pD=> ?_;exact#[λi ys M'=> ∃bA:ì,kg (ys=bA.map fh) (bA.length=i) (∀pt∈bA,cO p pt /\ Bd 56 pt) (M'=um M4 t' có) (∀a∈ms.take i, ∃r0,kϐ /\ (jn p a r0).2∈bA),#[[],rfl,rfl,by simp,rfl,by simp],?_,?_,?_];rintro i ys M' hi ⟨bA,rfl,hl,_,rfl,_⟩;show#[bG pD _ _ u4,av,by rw[aa];exact nϵ];rintro i x ys M' hx ⟨bA,rfl,hl,hk,rfl,ij⟩ N2 Oh;let⟨a,ha,rfl⟩:=HV hx;have hm:=az ha;have o5:um M4 t' (.lst (bA.map fh)) o=some mĉ:=fÙ;simp? [↓fb,o5,rY,YX];exact#[o,dx,dϞ,p,s,lap,a,(),rfl,o5,#[YW,YZ,YY],#[Lo.1,Lo.2,s0,s8],#[l1,lP,lB],#[eÎ,dÁ],?_,λr r0 er ud rP rB=> ?_];have:=Eg a.1 (ah.mpr #[a,hm,rfl]);rw[<- hs];show pÄ;simp? [↓fb,gz];exact Oh _ _ #[bA++ [r.2],by rw[aO];rfl,by simp[hl],λpt LD=> ?_,rfl,Ÿ];obtain h | h:=au.mp LD;show hk pt h;rw[aϫ];show#[rP,rB];rw[bw,ha] at hb;obtain h | h:=bΨ;let⟨r1,h1,h2⟩:=ij b h;show#[r1,h1,List.mem_append_left _ h2];simp at h;subst h;show#[r0,ud,be _ (by rw[er];simp)];rintro ys M' ⟨bA,rfl,hl,hk,rfl,ij⟩;rw[aa,bJ] at ij;rw[aa] at hl;have pz:=Vt s0 s8;have pl6:bA.length<=6:=by rw[hl];show mb.len
 have hP:K3 s p 56 (wc s) bA:=#[λpt h=>#[(hk pt h).1,bxc s0 s8 (hk pt h).2], (by exact Lqj Û Lq0 Ĕ π (.a aΑ Lq1) (LqNp h6 (cñ)) rfl),hp,s0,s8,⋯,⋯,pz.2.2,pz.1,pz.2.1]
 dsimp? [];exact#[t',p,s,56,wc s,bA,rfl,av,hP,λM6 v2 as sts Ps Y0 sm6 U0 Yu d_ aby=> ?_];have o6:=sm6 _ _ (fÙ);have k6: ∀b ob,aô ->dϤ ->M6 b=Ġ:=λb ob n h=>sm6 _ _ (bG pD _ _ (k4 b ob n h));have hn6:fΕ:=aI Y0.wq pl6;have hE:2*(hő*wc s) <=960:=by have h:=Nat.mul_le_mul hn6 pz.1;have e:hő*wc s=((sts.length*wc s:Nat):Int):=(Int.natCast_mul _ _).symm;rw[e];lia
 have hw: kŋ:=λst h=>((Y0.bx st h).1.wt s0 s8 ⋯ hE hE ⋯).up ⋯;have jd:=RV Y0.jd hw ⋯;have trim:=Me Y0.trim (show(7748:Int) <=Ĥ by decide);dsimp? [o6,cl,n5,n6,aeD,aeC,YR,YQ,Nat.reduceLT,av,qF,n3,YU,gz];let⟨M7,Oi⟩: ∃M7,um M6 o nĵ=M7:=Ļ
 have o7:M7 o=some nĵ:=by rw[<- Oi,av]
 have k7: ∀b ob,aô ->dϤ ->M7 b=Ġ:=λb ob n h=>by rw[<- Oi,aE n];show k6 b ob n h
 rw[Oi];have XM:=qϲ;exact#[p,s,7748,40,46600,sts,aó,rfl,hp,s0,s8,jd,lP,EW lB,⋯,⋯,⋯, ∅,⋯, (by exact Lqj [_] Lq0 bá Lq0 aΑ hn6 rfl),λt3 M8 rest tl P' rP rW tk _ sm8 _ _=> ?_];have o8:=sm8 _ _ o7;have k8: ∀b ob,aô ->dϤ ->M8 b=Ġ:=λb ob n h=>sm8 _ _ (k7 b ob n h);dsimp? [o8,cl,n3,n7,n8,YU,aeB,aeA,YO,YN,Nat.reduceLT,av,qF];rw[hs] at k;have crf:hŘ:=#[jd,trim,hw,hn6,rP,rW,λst iM=>by
  let⟨i,hi⟩:=cA.mp iM;show tk.lowP i st _ _ hi (jd.of iM),λz=>by
  have:=l0 (rz ∅);rw[this] at tk;show tk.YJ hp s0 jd rP eT.zero]
 exact km (k _ v v2 t3 sts rest #[crf,λa ha r' nO=> ?_] (λb ob n h=>by rw[aE n];show k8 b ob n h) av);let⟨r0,ud,vb⟩:=ij a ha;have dv:s ∣ a.1:=hs▸Kd ha;show My Lo.1 l1 lP rP (Mh tk) (DP dv) ud (Y0.sp _ vb) nO
def Br {K:iD}(T:Ŧ):cD P w K mg base gT 6 A.wv A.wJ nð (iG K Sv):=by
 exists T.rest_of.fn,nð,(aS (bZ (dW iA (aU T.taken (zx T) hr (ae ė (ae ĕ (ae Ę gĿ)))) aL Η)))
 rintro vs M q ⟨p,s,D,Z,Zm,sts,pat,rfl,hp,s0,s8,jd,ue,wz,z0,d0,d1,hZm,hZ3,hn,k⟩;dsimp? [];exact#[p,s,D,Z,Zm,sts,pat,rfl,hp,s0,s8,jd,ue,wz,z0,d0,d1,hZm,hZ3,hn,λt M' rest tl P hr wr tk _ sm _ _=> ?_];dsimp? [];show#[M,sm,k rest P hr wr tk]
def xO {K:iD}(T:Ŧ):cD P w K mg base gT 7 A.qY A.rq [aξ,ï] (iG K (W1 A.dZ)):=by
 have cl:=fÖ;have n1:=fό;have n3:=iξ;have n5:=iο;have n7:=hŭ;exists T.xa.fn,[aξ,ï,aõ,cŃ],(aG (gv (aU T.joined (qp T) hr (ae Ϝ (ae (aU T.repeated (lT T) hr (ae Ϝ (ae Ϝ (ae (gf e9 (oV T.qC (oY T) Ρ ė (ae (dW iA ĕ aL Η) ax))) ax)))) gĸ))) qĈ) (aS (bZ (di (ae Ę (ae (aU T.rest_of (Br T) hr (ae Ϝ (ae Ϝ (ae Ϝ gĿ)))) ax))))))
 rintro vs M q ⟨o,dx,p,ms,v,w',z,sts,rest,a,rfl,ho,hp,mb,cr,ha,k⟩;have dv:=Kd ha;have h8: mϷ:=λn hn=>by let⟨b,hb,rfl⟩:=ah.mp hn;have:=(mb.O3 b hb).1;lia
 have g8:=x_ h8;have cr':=cr.rm a ha;have cf:=cr.f;clear cr;let⟨s,hs⟩: oë:=Ļ
 rw[hs] at dv cr' cf ho;have s0:Ñ:= qŁ;have s8:s<=8:= ∅;have rl:=cf.rwt.len (n_ cf.pat) ⋯;have an:=DP dv;let⟨n,hn⟩: ∃n,n=bϚ:=Ļ
 rw[<- hn] at an cr';have a8:=fØ.1;have n8:dϜ:=by
  by_cases z:s=0;rw[hn];unfold pc;rw[Ó];decide;have g:a.1.natAbs=s.natAbs*n.natAbs:=by rw[an,Int.natAbs_mul]
  have s1:1<=s.natAbs:= ∅;have:=Nat.mul_le_mul_right n.natAbs s1;lia
 have Lo:0<p /\ aő:= ∅;dsimp? [ho,cl,n1,n3,n7,YM,aey,rY];exact#[aex,?_];dsimp? [gz];exact#[o,dx,_,s,a.1,rfl,ho,YL,#[s0, ∅],?_];rw[<- hn];dsimp? [];have en:jŝ:=hŬ;have m8:rest.length*n.natAbs<=93201*8:=Nat.mul_le_mul (aI rl ⋯) n8;exact#[p,bϘ, -n,rfl,Lo.1,Lo.2,cf.pat,aI rl ⋯,λ_=>#[∅, ∅,by rw[en];show aI m8 ⋯],iã];have rl2:cώ<=Ĥ:=by by_cases c:s=0;show aI (l0 c) (aI rl ⋯);have:=l1 c;rw[en] at this;show aI this (aI m8 ⋯)
 let⟨c1,c2⟩:=cr' r hr;dsimp? [];exact#[p,r,a,rfl,Lo.1,wq,rl2,aI (mb.wq a ha) ⋯,?_];have sn: -8<=s* -n /\ s* -n<=8:=by rw[eh, <- an];exact qĸ
 have rB:Bd aü r.2:=xB (b:=46600) (c:=8) hr (Vq cf.pat cf.rwt) sn;have aB:Bd aü a.2:=λy hy=>by have:=fØ.2 y hy;exact ⟨Lqi [_] (.g (.n aü)) Lq0 (.g (.n 24)) Lq0 ü rfl,Lqi [_] Lq0 (.n aü) Lq0 (.n 24) ú rfl⟩
 have e1:dÂ.1=0:=c1;have er:r.1= -a.1:= (by exact LqIx (Lqi Û Lq0 ŕ μ ø (LqIe c1) rfl) (Lqi Û Ņ Lq1 ø π (LqId c1) rfl));have jB:Bd 46616 dÂ.2:=BK (b:=aü) (c:=aü) (d:=8) rB aB (by exact ⟨Lqi Û δ Lq0 gϒ (.a Ĕ μ) (LqIp a8.2 ((LqId c1))) rfl,Lqi Û Lq0 Ĕ (.a δ μ) gϒ (LqIp a8.1 ((LqIe c1))) rfl⟩) ⋯;have f6:=cf.wq;have XM:=qϲ;dsimp? [gz,e1,ho,cl,n1,n3,n5,YM,YL,aev];exact#[p,s,7748,46616,94000,sts,dÂ.2,rfl,hp,s0,s8,cf.jd,BL Lo.1 _ _,EW jB,⋯,⋯,⋯, ∅,⋯, (by exact Lqj [_] Lq0 bá Lq0 aΑ f6 rfl),λae5 P rP _ tk=> ?_];rw[tk.YJ hp s0 cf.jd rP c2];dsimp? [];show Õ
def IQ {K:iD}(T:Ŧ):cD P w K mg base gT 1 A.Eo A.EH eϫ (iG K SA):=by
 exists T.Qt.fn,eϫ,(aS (bZ (Qd (je zw (cg gS Ŏ T.rE Boot.«abs» (ae mŰ ax)) aL Ė) (tH (Ir (cg bϫ Ŏ T.KO Boot.«all» (ae (fZ rfl (dS.of (sc:=bg xx) (N:= eϫ) (own:= mĶ) (fr:= []) (N':= mĶ)) (lO mŰ) (λ_ _ _ _=>(eQ (n:=2) rfl (bv (a9 (i:=0) pο rfl Ζ) (bv (a9 (i:=1) pο rfl Ζ) dG)))) kM ϛ (λ_ _ _ _=>(je DH oώ aL Ė))) ax)))))))
 rintro vs M q ⟨a,rfl,hl,k⟩;have ef:cł= !(ođ && a.2.all λz=>oĲ):=rfl;dsimp? [gz,fh];cases h1:decide (8< mİ) with
 | true=>have h2:ođ=false:=cb (by have:=of_decide_eq_true h1;lia);rw[h2,Bool.false_and] at ef;rw[ef] at k;dsimp? [];show Õ
 | false=>have h2:ođ=true:=cj (by have:=of_decide_eq_false h1;lia);rw[h2,Bool.true_and] at ef;rw[ef] at k;dsimp? [];exact kL (λz=>wb (oĲ)) pů hť ?_ ſ;intro z hz M3 N3 s3 Ed;dsimp? [cN];show Ed;exact#[u,aϱ λz=>oĲ,rfl,by rw[av,aK];rfl,?_];rw[List.all_map];dsimp? [];show fÒ
def xM {K:iD}(T:Ŧ):cD P w K mg base gT 3 A.qV A.rf nΨ (iG K Na):=by
 exists T.v6.fn,[θ,Ξ,cϰ,e϶],(aG (gr (dF lS oč aL Ė) (aS (bZ (di (ae (dW iA (di (ae cϲ (ae cϲ lξ))) oč Η) nό)))) eU) (aG (3\(dW iA (di (ae cϲ (ae cϲ iſ))) oč Η)) (aS (bZ (di (ae mů (ae (aU T.Qs (IP T) hr (ae ĕ (ae mů (ae (di (ae (di (ae ę cϳ)) ax)) iſ)))) ax)))))))
 rintro vs M q ⟨d,l,p,a,rfl,hD,⟨p2,p7⟩,aP,al,k⟩;dsimp? [];exact#[d,l,2,rfl,hD,⋯,⋯,λj M1 j0 j1 D1 b1=> ?_];dsimp? [];exact kŏ;dsimp? [];exact#[d,l,5,rfl,D1,⋯,⋯,kϗ];dsimp? [];exact DG kϘ r0 (by change r< ((5:Nat):Int);omega) (ź) ?_;simp![ay,List.not_mem_nil,or_false] at hx;obtain h | h | h | h | h:=hx <;>show#[_,h];rintro _ ⟨e,rfl⟩;dsimp? [gz];show km (k (e,a.2) M2 aP gŽ D2 hŮ);dsimp? [];exact#[d,l,4,rfl,D1,⋯,⋯,kϗ];dsimp? [];exact DG kϘ r0 (by change r< ((4:Nat):Int);omega) (ź) ?_;simp![ay,List.not_mem_nil,or_false] at hx;obtain h | h | h | h:=hx <;>show#[_,h];rintro _ ⟨e,rfl⟩;dsimp? [gz];exact#[p,a.2,[(e,1)],0,1,rfl,by exact oπ,wq,by exact Lqj [_] Lq0 eϵ Lq0 Š al rfl,by simp,by simp,?_];dsimp? [];show km (k (a.1,_) M2 (gH (by exact oπ) _) (aI bũ (by simp[Nw])) D2 hŮ)
def Bu {K:iD}(T:Ŧ):cD P w K mg base gT 10 A.wA A.wM [Ξ,gķ] (iG K (aa2 A.dZ)):=by
 exists T.DS.fn,[Ξ,gķ,dϪ,"e"],(aG (2\(jy ax)) (aG (MF rfl rfl (MK (i:=2) nd rfl Ŏ (MM (Ih T.Crew (Nl T) Ρ Ŏ lθ))) (LX.name (i:=3) Ŏ T.kq nd rfl Ŏ (λea=>(aS (2\(jy (ae kX (ae rÚ (ae (cg mĊ Ŏ T.gq Boot.«isinstance» (ae ę (ae (g_ Ŏ T.Jd (show RelV dϨ _ from rfl)) ax))) ax))))))) (LX.name (i:=3) Ŏ T.lK nd rfl Ŏ (λea=>(aS (2\(jy (ae kX (ae rÚ (ae (cg mĊ Ŏ T.gq Boot.«isinstance» (ae ę (ae (g_ Ŏ T.Fx (show RelV dϩ _ from rfl)) ax))) ax))))))) LX.nil))) hţ))
 rintro vs M q ⟨u,p,ms,rfl,hu,hp,ue,k1,k2,k3⟩;dsimp? [];intro t0 h0;dsimp? [L7,VA,Vy,Vz];intro o dx ho GK c6;have hu1:=bG h0 (o:= .lst []) _ _ hu;have s0:Sm M (um (um M t0 cÿ) o (.ins A.dZ dx [])):=(bG h0).trans (bG ho);exact#[o,dx,u,p,ms,rfl,av,bG ho _ _ hu1,(cT hu1 ho).symm,hp,ue,λmb M' v w' z sts rest cr F N1=>bϲ,λh6 ea zT=>KZ ?_,λh6 hf ea zT=>Us T.kI (KZ ?_)];intro t ht;have s1:Ĩ:=λa ob h=>F a ob (cT fύ ho) (bG ho _ _ fύ);dsimp? [];show#[_,cŊ,k3 mb o dx v w' z sts rest t _ iπ av (bG ht _ _ N1) cr];have s1:=s0.trans (bG zT (o:= .exc A.fT));dsimp? [Ry];exact sx av T.kq.k T.lz ?_;dsimp? [];exact JE av T.kq.k T.lZ ?_;dsimp? [];exact sx av T.kq.k T.qx ?_;dsimp? [];intro t ht;dsimp? [Ee];show#[_,cŊ,k1 h6 t _ iπ av];have s1:=s0.trans (bG zT (o:= .exc A.gD));dsimp? [Ry];exact sx av T.lK.k T.l3 ?_;dsimp? [];exact JE av T.lK.k T.nn ?_;dsimp? [];exact sx av T.lK.k T.kI ?_;dsimp? [];intro t ht;dsimp? [Ee];show#[_,cŊ,k2 h6 hf t _ iπ av]
def SI {K:iD}(T:Ŧ):cD P w K mg base gT 11 A.Q4 A.Q8 hÊ (y3 K):=by
 have cl:=fÖ;exact W' T.law.fn HI ⋯ mą;have nd:=HI.nd;exact#[_,(aG (1\(aU T.DQ (Bt T) hr gň)) (aG (2\(aU T.l_p (SJ T) hr gĸ)) (aG (tG (i:=3) rfl nd rfl (Or.inl rfl) (dS.of (sc:=bg zc) (N:= qé) (own:= [bϜ]) (fr:= [1,2]) (N':= nť)) (jj Ŏ T.jg (ae oĒ ax)) (λ_ _ _ _=>(a9 (i:=0) (by change(nť:ĉ).Nodup;decide+kernel) rfl Ζ)) fS ϛ (λ_ _ _ _=>(di (ae oĒ (ae (aU T.v5 (xL T) hr (ae ĕ (ae Ę iſ))) ax)))) rfl) (aG (fV bO rfl (jj Ŏ T.jg (ae (bW fN oĒ (dc Gi Ŏ T.Y4 Boot.«int» (ae (je zw oύ aL Ė) ax))) ax)) mΤ (aG (5\(aU T.iY aυ hr (ae ĕ (ae oύ ax)))) (aS (gv (aU T.v6 (xM T) hr (ae ĕ (ae Ę (ae (dW dH ę ě Η) ax)))) (n9 ę ě jq))))) (aG (6\(aU T.DS (Bu T) hr (ae Ę (ae (dc jL Ŏ T.h_ Boot.«list» gĿ) ax)))) (aG (gr (dF zw oύ aL Ė) pΟ eU) (aG (gr (Be (Se (cg bϫ Ŏ T.KO Boot.«all» (ae (fZ rfl (dS.of (sc:=bg zc) (N:= qé) (own:= eϫ) (fr:= []) (N':= eϫ)) (eD ę) (λ_ _ _ _=>(a9 (i:=0) (by change(eϫ:ĉ).Nodup;decide+kernel) rfl Ζ)) fS ϛ (λ_ _ _ _=>(Ir (aU T.Qt (IQ T) hr gň)))) ax)))) pΟ eU) (aG (gr (dF IL (cg gR Ŏ T.rD Boot.«len» gŃ) aL Ė) (aS (bZ zq)) eU) (aS (bZ (Qd (je lS oύ aL Ė) (tH (je eÐ (oV T.xa (xO T) Ρ (dW dH Ĝ aL Η) (ae (dW dH ę cϲ Η) ax)) mĆ Ė))))))))))))),?_];try dsimp only[iQ]
 exact ké;intro d l M hD;dsimp? [];exact#[d,l,rfl,hD,λp M1 hp D1 b1=> ?_];have p27:eϩ:=by omega
 dsimp? [];exact#[d,l,9,rfl,D1,⋯,⋯,λn M2 n0 n1 D2 b2=> ?_];dsimp? [];exact#[jŖ,Cj (by rw[mF];show big Ū) ſ];let⟨SK,nul⟩:=D2.ne hu;exact#[λi ys M'=> ∃ms:eV WQ.Rd,kg (ys=cľ) (ms.length=i) (∀a∈ms,bŶ /\ cΡ<=2) (cė) (M' u=gÚ),#[[],rfl,rfl,by simp,D2.put hu,av],?_,?_,?_];rintro i ys M' hi ⟨ms,rfl,hl,_,_,hM⟩;show#[trivial,hM,by rw[aa];exact nϵ];rintro i x ys M' hx ⟨ms,rfl,hl,hk,D5,hM⟩ N2 Oh;dsimp? [];exact#[d,l,2,rfl,D5,⋯,⋯,λg M6 g0 g1 D6 b6=> ?_];dsimp? [];exact#[d,l,p,2,2,rfl,D6,by exact Lqi [_] ý Lq0 ý Lq0 p27.1 rfl,by exact Lqi [_] ϒ Š Lq0 (.n 7) p27.2 rfl,⋯,⋯,⋯,⋯,λps M7 lI hpz D7 b7=> ?_];dsimp? [];exact#[by rw[b7 u SK,b6 u SK];show hM,Oh _ _ #[ms++ [(g,aϬ)],by rw[aO];rfl,by simp[hl],dΥ,fÚ,av]];obtain h | h:=au.mp ha;show hk a h;rw[aϫ];show#[gH (by exact Lqi [_] Ϣ Lq0 ý Lq0 p27.1 rfl) _,aI bũ Ū];rintro ys M3 ⟨ms,rfl,hl,hk,D3,hM⟩;rw[mF] at hl;dsimp? [];exact#[d,l,3,rfl,D3,⋯,⋯,λj M4 j0 j1 D4 b4=> ?_];have LO:M4 u=kύ:=by rw[b4 u SK];show hM
 let⟨c,hc,J8⟩: ∃c:Int,c=(if decide (lą)=true then 1 else 0) /\ (c=0 \/ c=1 /\ dμ):=by by_cases h:lą;show#[1,by rw[am (cj h)], .inr #[rfl,by omega]];show#[0,by rw[aj Â], Ķ]
 have cm:ji j c=True:=mū;have jc:0<=j*c /\ j*c<3:=by obtain h | ⟨h,_⟩:=J8 <;>rw[h] <;>omega
 dsimp? [LO,aa,L9, <- hc,cm];exact#[jŖ,ip (λi ρ M'=>gL λ fÉ (ou:eV WQ.Rd)=>nD (ρ= [none,dũ,ζ,ι,o4,o5,none]) (ou.length=ms.length) (∀a∈ou,bŶ /\ cΡ<=2+i) (cė) (M' u=kϙ) (i<4)) #[none,none,ms,rfl,rfl,hk,D4,LO,⋯] kŒ ?_ ?_];rintro i x ρ M5 hx ⟨o4,o5,ou,rfl,sy,l5,D5,LN,hi4⟩ N hN;let⟨hi,rfl⟩:=tE hx;have BZ:0<ou.length:=by obtain h | ⟨_,h⟩:=J8;rw[h,c_] at hi;simp at hi;exact Lqj Û Ϣ Lq0 lϙ μ (LqNp (LqNd sy) h) rfl
 dsimp? [LN,aa];exact#[d,l,ou.length,rfl,D5,by omega,by omega,λt M6 t0 t1 D6 b6=> ?_];have Ka:M6 u=kϙ:=by rw[b6 u SK];show LN
 let⟨a,ha⟩: ∃a,ou[t.toNat]? =Ċ:=#[_,aq Ū]
 have hm:=az ha;have yF:lJ (ou.map gz) t=eÍ:=yt t0 iν;dsimp? [Ka,yF];exact#[d,l,p,a,rfl,D6,p27,(l5 a hm).1,by have:=(l5 a hm).2;exact Lqj Û Lq0 Š k϶ lϱ hÙ rfl,λb M7 bP bl D7 b7=> ?_];have Oi:M7 u=kϙ:=by rw[b7 u SK];show Ka
 have ix:uS ou.length t=some t.toNat:=NQ t0 t1;dsimp? [Oi,aa,ix];exact hN _ _ #[_,_,ou.set t.toNat b,rfl,by rw[List.length_set];show sy,dě,fÚ,by rw[av,List.map_set],by omega];obtain h | h:=List.mem_or_eq_of_mem_set hy;show#[(l5 y h).1,by have:=(l5 y h).2;exact Lqj Û Lq0 lϲ Lq0 gŢ this rfl];rw[h];show#[bP,by have:=(l5 a hm).2;exact Lqj Ğ Lq0 lϲ ς (.a ϓ gŢ) (LqNp bl this) rfl];rintro ρ M5 ⟨o4,o5,ou,rfl,sy,l5,D5,LN,hi4⟩;have AF: ∀a∈ou,bŶ /\ iϰ:=λa h=>#[(l5 a h).1,by have:=(l5 a h).2;exact Lqj Û Lq0 Γ k϶ lϱ hÙ rfl]
 clear l5 hk hM LO D4 D3;dsimp? [LN];intro t ht;dsimp? [];exact#[t,p,ou,rfl,av,hp,AF,λh6 t2 M6 s6 LC=> ?_,λh6 hf t2 M6 s6 LC=> ?_,λmb o dx v w' z sts rest t2 M6 s6 LC ho cr=> ?_];have Ka:=kî;have e6:nû=true:=cj Ū;dsimp? [Ka,aa,e6];intro t3 U4;show Kq (d:= .lst [.str "many", bĘ, cÚ]) (.inr #[t2,_,_,rfl,bG U4 _ _ LC,rfl,rfl]) mΧ ⋯ rfl rfl;have Ka:=kî;have e6:nû=false:=cb Ū;dsimp? [Ka,aa,e6];exact kL mċ (big (by exact Lqj [_] Lq0 Ο Lq0 aΑ h6 rfl)) iå ?_ dγ;intro a ha M7 N s7 hN;dsimp? [];exact kϚ;dsimp? [];show hN;exact#[v,kϛ,rfl,by rw[av,aK];rfl,?_];have ea:mϸ=false:=by let⟨a,ha,U8⟩:=hf;rw[List.all_eq_false];show#[! cł,ah.mpr #[a,ha,rfl],by rw[U8];simp]
 rw[ea];dsimp? [Bool.not_false];intro t3 U4;show Kq (d:= .lst [.str "far", bĘ, cÚ]) (.inr #[t2,_,_,rfl,bG U4 _ _ (bG hv _ _ LC),rfl,rfl]) mΧ ⋯ rfl rfl;have Ka:=kî;have l6:=mb.len;have e6:nû=false:=cb Ū;dsimp? [Ka,aa,e6];exact kL mċ (big (by exact Lqj [_] Lq0 Ο Lq0 aΑ l6 rfl)) iå ?_ λv2 hv=> ?_;intro a ha M7 N s7 hN;dsimp? [];exact kϚ;dsimp? [];show hN;exact#[v2,kϛ,rfl,by rw[av,aK];rfl,?_];have ea:mϸ=true:=by rw[List.all_eq_true];intro b hb;let⟨a,ha,rfl⟩:=bΚ;rw[L5 fØ];rfl
 rw[ea];have Oi:=bG hv (o:= nĝ) _ _ Ka;have ht7:=bG hv (o:= nĝ) _ _ LC;have ho7:=bG hv (o:= nĝ) _ _ ho;generalize um M6 v2 (nĝ)=M7 at Oi ht7 ho7 ⊢;have e1:decide (((1:Nat):Int)=1)=true:=cj rfl;dsimp? [Bool.not_true,ht7,e1];exact#[_,Oi,?_];obtain h0 | ⟨ml,a,h0⟩:=Wl ou
 .have e0:oí=true:=cj (by rw[h0];rfl);dsimp? [e0]
 have e0:oí=false:=cb (by rw[h0,aa,aM];simp;exact λe=>Lqf [_] lψ ϗ (LqIp bĜ kϹ) rfl);have el:lJ (ou.map gz) Î=eÍ:=KU (by rw[h0,aO];show List.getLast?_concat);have eo:lJ [wr o] 0=dϭ:=rfl;dsimp? [e0,rY,ht7,eo,ho7];exact#[aew,?_];dsimp? [Oi,el];exact#[o,dx,p,ou,v,w',z,sts,rest,a,rfl,ho7,hp,mb,cr,by rw[h0];simp,?_];dsimp? [];show YG (a:=aŕ) (b:=aŕ) rfl rfl
universe iZ
namespace iZ
open PySem L2 WL WQ PyProof.Rows
theorem walk {l:W.OpenLaw}{XP:(dì) ->då}{d:DefRec}{K:dĲ}(hn:l.most=some 63)(Yk:jΞ)(hY: oΘ)(nm:d.name= aë)(F: ∀ (w:World) (mg:dì) (h:Heap),(cδ).In h ->iϘ -> ∃A,jo (cδ) mg A): pŇ:=L2.L6 (n:=63) (k:=11) (x:= fΙ) (CX:=λ_=>gT) (sp:=λw=>y3 (cδ)) hn ⋯ Yk #[rfl,⋯,⋯] hY (λw mg fa h X G e=>(F w mg h X G).elim λ_ T=>S2 T.law (nm▸e) (λ_ _ _ _ _ _ _=>rfl) λ_=>SI T) (λ_ _ a ns hl _ hS=>#[a,ns,rfl,hS,bġ]) λ_ _ _ _ _ z=>z
universe iZ
end
end
def PySem.W.Fast.tw8744825071065060588:Nat:=0
def PySem.W.Fast.tw16619942970766072698:Nat:=0
def PySem.W.Fast.tw16485093152743219180:Nat:=0
def PySem.W.Fast.tw5285332866046862523:Nat:=0
def PySem.W.Fast.tw15937996869967220147:Nat:=0
def PySem.W.Fast.tw6947655203356033685:Nat:=0
def PySem.W.Fast.tw5358013324874604040:Nat:=0
def PySem.W.Fast.tw14715131421244113385:Nat:=0
def PySem.W.Fast.tw17816866630758868620:Nat:=0
def PySem.W.Fast.tw18000866819256071380:Nat:=0
def PySem.W.Fast.tw321930760281996287:Nat:=0
def PySem.W.Fast.tw10326748515308354812:Nat:=0
def PySem.W.Fast.tw15582338015219758014:Nat:=0
def PySem.W.Fast.tw4553773495648652273:Nat:=0
def PySem.W.Fast.tw2868682146304861496:Nat:=0
def PySem.W.Fast.tw12580073576481118563:Nat:=0
def PySem.W.Fast.tw1106044776515720680:Nat:=0
def PySem.W.Fast.tw12365062384885665049:Nat:=0
def PySem.W.Fast.tw11496888618286557440:Nat:=0
def PySem.W.Fast.tw6944678058224252898:Nat:=0
def PySem.W.Fast.tw2229129074331552834:Nat:=0
def PySem.W.Fast.tw16198444321699263741:Nat:=0
def PySem.W.Fast.tw13101996992851796900:Nat:=0
def PySem.W.Fast.tw824864052371964197:Nat:=0
def PySem.W.Fast.tw2582979878203559619:Nat:=0
def PySem.W.Fast.tw252037170468378290:Nat:=0
def PySem.W.Fast.tw10242437459477145413:Nat:=0
def PySem.W.Fast.tw15254119012378376989:Nat:=0
def PySem.W.Fast.tw12291199787781951507:Nat:=0
def PySem.W.Fast.tw6513684557651286365:Nat:=0
def PySem.W.Fast.tw16932642472517257436:Nat:=0
def PySem.W.Fast.tw1376898237650752524:Nat:=0
def PySem.W.Fast.tw4434162240067216953:Nat:=0
def PySem.W.Fast.tw2872375469158756036:Nat:=0
def PySem.W.Fast.tw13931423487974759349:Nat:=0
def PySem.W.Fast.tw5764146084681540020:Nat:=0
def PySem.W.Fast.tw14256707630166308274:Nat:=0
def PySem.W.Fast.tw13298918996260534466:Nat:=0
def PySem.W.Fast.tw1406508163076715554:Nat:=0
def PySem.W.Fast.tw5796227028418378304:Nat:=0
def PySem.W.Fast.tw13021200939794600392:Nat:=0
def PySem.W.Fast.tw4128423900555716490:Nat:=0
def PySem.W.Fast.tw16879215266644478432:Nat:=0
def PySem.W.Fast.tw4072597640109714707:Nat:=0
def PySem.W.Fast.tw7587813424365763182:Nat:=0
def PySem.W.Fast.tw5894234986108187080:Nat:=0
def PySem.W.Fast.tw2340611012889738237:Nat:=0
def PySem.W.Fast.tw14511240467154371677:Nat:=0
def PySem.W.Fast.tw4891481110972639868:Nat:=0
def PySem.W.Fast.tw9709849828943499438:Nat:=0
def PySem.W.Fast.tw13006661374443591901:Nat:=0
def PySem.W.Fast.tw1010240549115083011:Nat:=0
def PySem.W.Fast.tw2545143196292880397:Nat:=0
def PySem.W.Fast.tw14250409481378846954:Nat:=0
def PySem.W.Fast.tw15708760085097902577:Nat:=0
def PySem.W.Fast.tw4773984539210540906:Nat:=0
def PySem.W.Fast.tw5235488324722627324:Nat:=0
def PySem.W.Fast.tw5439502621473335073:Nat:=0
def PySem.W.Fast.tw17120761529332932726:Nat:=0
def PySem.W.Fast.tw8787346827422884337:Nat:=0
def PySem.W.Fast.tw13123347367756244376:Nat:=0
def PySem.W.Fast.tw13326383390479518213:Nat:=0
def PySem.W.Fast.tw18087105753687411559:Nat:=0
def PySem.W.Fast.tw4945313764213964733:Nat:=0
def PySem.W.Fast.tw17929400678938551330:Nat:=0
def PySem.W.Fast.tw13304494292507744277:Nat:=0
def PySem.W.Fast.tw2187295931821574449:Nat:=0
def PySem.W.Fast.tw13028436925197431703:Nat:=0
def PySem.W.Fast.tw8713165404150061872:Nat:=0
def PySem.W.Fast.tw16075401228784001913:Nat:=0
def PySem.W.Fast.tw9658231049699582448:Nat:=0
def PySem.W.Fast.tw14129713030482057811:Nat:=0
def PySem.W.Fast.tw15766574805229113848:Nat:=0
def PySem.W.Fast.tw14220432159958883203:Nat:=0
def PySem.W.Fast.tw9649885504784224125:Nat:=0
def PySem.W.Fast.tw13554574980322333866:Nat:=0
def PySem.W.Fast.tw14685481127746303859:Nat:=0
def PySem.W.Fast.tw1359473801759858013:Nat:=0
def PySem.W.Fast.tw17708927830004799316:Nat:=0
def PySem.W.Fast.tw15846850021113737266:Nat:=0
def PySem.W.Fast.tw11207621267823196011:Nat:=0
def PySem.W.Fast.tw1696601405818883521:Nat:=0
def PySem.W.Fast.tw2522263781682854934:Nat:=0
def PySem.W.Fast.tw4448223007379017463:Nat:=0
def PySem.W.Fast.tw2814142159779405483:Nat:=0
def PySem.W.Fast.tw14697979200335787218:Nat:=0
def PySem.W.Fast.tw14860176217353727051:Nat:=0
def PySem.W.Fast.tw3174112903605033939:Nat:=0
def PySem.W.Fast.tw3958755089381296105:Nat:=0
def PySem.W.Fast.tw2425565394283985443:Nat:=0
def PySem.W.Fast.tw18401741250988521839:Nat:=0
def PySem.W.Fast.tw9913475276869368607:Nat:=0
def PySem.W.Fast.tw9443977798329803899:Nat:=0
def PySem.W.Fast.tw17492985464084268663:Nat:=0
def PySem.W.Fast.tw16025517584915709378:Nat:=0
def PySem.W.Fast.tw598262403436989948:Nat:=0
def PySem.W.Fast.tw4054396286855481073:Nat:=0
def PySem.W.Fast.tw8108126685958962630:Nat:=0
def PySem.W.Fast.tw3527056012291517046:Nat:=0
def PySem.W.Fast.tw3164072761744579161:Nat:=0
def PySem.W.Fast.tw12992504459731877459:Nat:=0
def PySem.W.Fast.tw1087511410550145216:Nat:=0
def PySem.W.Fast.tw17758676260162606193:Nat:=0
def PySem.W.Fast.tw17284686483898934389:Nat:=0
def PySem.W.Fast.tw17277793859285951168:Nat:=0
def PySem.W.Fast.tw9914055996596902747:Nat:=0
def PySem.W.Fast.tw12146528741391484673:Nat:=0
def PySem.W.Fast.tw15136987749373419580:Nat:=0
def PySem.W.Fast.tw3750603590104390540:Nat:=0
def PySem.W.Fast.tw6919404699690792205:Nat:=0
def PySem.W.Fast.tw6321980029825006063:Nat:=0
def PySem.W.Fast.tw11995297257682794736:Nat:=0
def PySem.W.Fast.tw2862922000180570017:Nat:=0
def PySem.W.Fast.tw15478918804893312033:Nat:=0
def PySem.W.Fast.tw17616069611296689613:Nat:=0
def PySem.W.Fast.tw5041900976001271818:Nat:=0
def PySem.W.Fast.tw2301669155559230790:Nat:=0
def PySem.W.Fast.tw2373389629736737332:Nat:=0
def PySem.W.Fast.tw10404923622893494618:Nat:=0
def PySem.W.Fast.tw9199535846246647290:Nat:=0
def PySem.W.Fast.tw12787529309852143635:Nat:=0
def PySem.W.Fast.tw12383636662164556305:Nat:=0
open PySem PySem.W PyProof.Rows L2
set_option maxRecDepth 100000 in
set_option maxHeartbeats 0 in
theorem PySem.Challenge.cw_duskround_k36_crews_refused_holds : PySem.Challenge.rw_duskround_k36_crews_refused.Holds := by
 w_on;o_law;k_head;(case hw=>w_witness2)
 k_fill
 refine iZ.walk (l:=PySem.Challenge.rw_duskround_k36_crews_refused) rfl rfl (λw h Y=>PySem.W.kIn_of Y) rfl λw mg h X G=> ?_
 have' Uy:=cL (x:= "tidy") (ps:= ["p","pairs"]) (st:=iZ.A5) X G ?g14 ?g15 ?g16 ?g17;(case g14 | g15 | g16 | g17=>k_is);have' OY:=cL (x:= "added") (ps:= ["p","one","other"]) (st:=iZ.Dj) X G ?g18 ?g19 ?g20 ?g21;(case g18 | g19 | g20 | g21=>k_is);have' OU:=cL (x:= "moved") (ps:= ["pattern","by"]) (st:=iZ.xv) X G ?g22 ?g23 ?g24 ?g25;(case g22 | g23 | g24 | g25=>k_is);have' OQ:=cL (x:= "timed") (ps:= ["p","pattern","n"]) (st:=iZ.xt) X G ?g26 ?g27 ?g28 ?g29;(case g26 | g27 | g28 | g29=>k_is);have' OT:=cL (x:= "still") (ps:= []) (st:=iZ.xu) X G ?g30 ?g31 ?g32 ?g33;(case g30 | g31 | g32 | g33=>k_is);have' Lb:=cL (x:= "joined") (ps:= ["p","one","other"]) (st:=iZ.ze) X G ?g34 ?g35 ?g36 ?g37;(case g34 | g35 | g36 | g37=>k_is);have' CF:=cL (x:= "backward") (ps:= ["p","one"]) (st:=iZ.tw) X G ?g38 ?g39 ?g40 ?g41;(case g38 | g39 | g40 | g41=>k_is);have' CC:=cL (x:= "repeated") (ps:= ["p","one","n"]) (st:=iZ.jr) X G ?g42 ?g43 ?g44 ?g45;(case g42 | g43 | g44 | g45=>k_is);have' vz:=cL (x:= "lies_within") (ps:= ["one","farthest_end","farthest_place"]) (st:=iZ.j8) X G ?g46 ?g47 ?g48 ?g49;(case g46 | g47 | g48 | g49=>k_is);have' GA:=cL (x:= "inverse") (ps:= ["p","setting"]) (st:=iZ.vP) X G ?g50 ?g51 ?g52 ?g53;(case g50 | g51 | g52 | g53=>k_is);have' Ld:=Cn (x:= "Row") (ps:= ["self","lamps","parts"]) (st:=iZ.PM) X G ?g54 ?g55 ?g56 ?g57 ?g58 ?g59 ?g60 ?g61 ?g62 ?g63 ?g64 ?g65;(case g54 | g55 | g56 | g57 | g58 | g59 | g60 | g61 | g62 | g63 | g64 | g65=>k_is);have' ng:=Cn (x:= "Stair") (ps:= ["self","row","first","length","foot"]) (st:=iZ.Dk) X G ?g66 ?g67 ?g68 ?g69 ?g70 ?g71 ?g72 ?g73 ?g74 ?g75 ?g76 ?g77;(case g66 | g67 | g68 | g69 | g70 | g71 | g72 | g73 | g74 | g75 | g76 | g77=>k_is);have' Lc:=cL (x:= "column") (ps:= ["place","stride"]) (st:=iZ.zf) X G ?g78 ?g79 ?g80 ?g81;(case g78 | g79 | g80 | g81=>k_is);have' uQ:=cL (x:= "first_column") (ps:= ["places","stride"]) (st:=iZ.ju) X G ?g82 ?g83 ?g84 ?g85;(case g82 | g83 | g84 | g85=>k_is);have' GC:=cL (x:= "heights") (ps:= ["places","stride","first"]) (st:=iZ.mE) X G ?g86 ?g87 ?g88 ?g89;(case g86 | g87 | g88 | g89=>k_is);have' vA:=cL (x:= "add_shifted") (ps:= ["p","held","others","by","n"]) (st:=iZ.nH) X G ?g90 ?g91 ?g92 ?g93;(case g90 | g91 | g92 | g93=>k_is);have' Ax:=cL (x:= "add_moved") (ps:= ["p","stride","row","other","shift","n"]) (st:=iZ.qM) X G ?g94 ?g95 ?g96 ?g97;(case g94 | g95 | g96 | g97=>k_is);have' p_:=cL (x:= "too_high_or_low") (ps:= ["found","length"]) (st:=iZ.jU) X G ?g98 ?g99 ?g100 ?g101;(case g98 | g99 | g100 | g101=>k_is);have' Zn:=cL (x:= "cut") (ps:= ["p","stride","row","stair"]) (st:=iZ.PL) X G ?g102 ?g103 ?g104 ?g105;(case g102 | g103 | g104 | g105=>k_is);have' OS:=cL (x:= "stood") (ps:= ["p","stride","row"]) (st:=iZ.Di) X G ?g106 ?g107 ?g108 ?g109;(case g106 | g107 | g108 | g109=>k_is);have' yz:=cL (x:= "told_parts") (ps:= ["p","parts","n"]) (st:=iZ.kT) X G ?g110 ?g111 ?g112 ?g113;(case g110 | g111 | g112 | g113=>k_is);have' OR:=cL (x:= "taken") (ps:= ["p","stride","stairs","pattern"]) (st:=iZ.Dh) X G ?g114 ?g115 ?g116 ?g117;(case g114 | g115 | g116 | g117=>k_is);have' Gw:=cL (x:= "rest_of") (ps:= ["p","stride","stairs","pattern"]) (st:=iZ.vM) X G ?g118 ?g119 ?g120 ?g121;(case g118 | g119 | g120 | g121=>k_is);have' Gv:=cL (x:= "take_in") (ps:= ["p","stride","held","row"]) (st:=iZ.vL) X G ?g122 ?g123 ?g124 ?g125;(case g122 | g123 | g124 | g125=>k_is);have' Gx:=cL (x:= "lie_low") (ps:= ["p","stride","held"]) (st:=iZ.vN) X G ?g126 ?g127 ?g128 ?g129;(case g126 | g127 | g128 | g129=>k_is);have' OX:=cL (x:= "built") (ps:= ["p","stride","patterns"]) (st:=iZ.si) X G ?g130 ?g131 ?g132 ?g133;(case g130 | g131 | g132 | g133=>k_is);have' Aw:=cL (x:= "fits_crew") (ps:= ["one"]) (st:=iZ.qL) X G ?g134 ?g135 ?g136 ?g137;(case g134 | g135 | g136 | g137=>k_is);have' rV:=cL (x:= "check_members") (ps:= ["members"]) (st:=iZ.iV) X G ?g138 ?g139 ?g140 ?g141;(case g138 | g139 | g140 | g141=>k_is);have' oH:=cL (x:= "greatest_divisor") (ps:= ["ends"]) (st:=iZ.jt) X G ?g142 ?g143 ?g144 ?g145;(case g142 | g143 | g144 | g145=>k_is);have' K9:=cL (x:= "row_to") (ps:= ["ends","stride"]) (st:=iZ.zb) X G ?g146 ?g147 ?g148 ?g149;(case g146 | g147 | g148 | g149=>k_is);have' CD:=cL (x:= "gone_row") (ps:= ["p","members","row"]) (st:=iZ.tq) X G ?g150 ?g151 ?g152 ?g153;(case g150 | g151 | g152 | g153=>k_is);have' i0:=Cn (x:= "Crew") (ps:= ["self","p","members"]) (st:=iZ.tz) X G ?g154 ?g155 ?g156 ?g157 ?g158 ?g159 ?g160 ?g161 ?g162 ?g163 ?g164 ?g165;(case g154 | g155 | g156 | g157 | g158 | g159 | g160 | g161 | g162 | g163 | g164 | g165=>k_is);have' Az:=Bz (m:= "laps") (ps:= ["self","end"]) (st:=iZ.qP) i0 ?g166 ?g167 ?g168 ?g169 ?g170;(case g166 | g167 | g168 | g169 | g170=>k_is);have' yA:=Bz (m:= "level") (ps:= ["self","lap","one"]) (st:=iZ.oS) i0 ?g171 ?g172 ?g173 ?g174 ?g175;(case g171 | g172 | g173 | g174 | g175=>k_is);have' Ay:=Bz (m:= "room") (ps:= ["self","one"]) (st:=iZ.qO) i0 ?g176 ?g177 ?g178 ?g179 ?g180;(case g176 | g177 | g178 | g179 | g180=>k_is);have' Gy:=cL (x:= "_law_begin") (ps:= ["_law_script"]) (st:=iZ.qj) X G ?g181 ?g182 ?g183 ?g184;(case g181 | g182 | g183 | g184=>k_is);have' La:=cL (x:= "_law_take") (ps:= ["_law_draw","_law_many"]) (st:=iZ.zd) X G ?g185 ?g186 ?g187 ?g188;(case g185 | g186 | g187 | g188=>k_is);have' Zl:=cL (x:= "_law_p") (ps:= ["_law_draw"]) (st:=iZ.PK) X G ?g189 ?g190 ?g191 ?g192;(case g189 | g190 | g191 | g192=>k_is);have' K_:=cL (x:= "_law_tidy") (ps:= ["_law_p_here","_law_pairs"]) (st:=iZ.tf) X G ?g193 ?g194 ?g195 ?g196;(case g193 | g194 | g195 | g196=>k_is);have' Au:=cL (x:= "_law_pattern") (ps:= ["_law_draw","_law_p_here","_law_most","_law_far_here"]) (st:=iZ.qJ) X G ?g197 ?g198 ?g199 ?g200;(case g197 | g198 | g199 | g200=>k_is);have' OV:=cL (x:= "_law_sum") (ps:= ["_law_p_here","_law_one","_law_other","_law_by","_law_many"]) (st:=iZ.xw) X G ?g201 ?g202 ?g203 ?g204;(case g201 | g202 | g203 | g204=>k_is);have' Av:=cL (x:= "_law_far_one") (ps:= ["_law_draw","_law_p_here","_law_one"]) (st:=iZ.qK) X G ?g205 ?g206 ?g207 ?g208;(case g205 | g206 | g207 | g208=>k_is);have' OW:=cL (x:= "_law_far") (ps:= ["_law_one"]) (st:=iZ.xx) X G ?g209 ?g210 ?g211 ?g212;(case g209 | g210 | g211 | g212=>k_is);have' Gz:=cL (x:= "_law_asked") (ps:= ["_law_p_here","_law_members"]) (st:=iZ.vO) X G ?g213 ?g214 ?g215 ?g216;(case g213 | g214 | g215 | g216=>k_is);have' Zk:=cL (x:= "law") (ps:= ["_law_script"]) (st:=iZ.zc) X G ?g217 ?g218 ?g219 ?g220;(case g217 | g218 | g219 | g220=>k_is);have' As:=jA i0 "head" ?n_Crew_head;(case n_Crew_head=>k_is);have' vx:=jA i0 "makers" ?n_Crew_makers;(case n_Crew_makers=>k_is);have' K5:=jA i0 "p" ?n_Crew_p;(case n_Crew_p=>k_is);have' vw:=jA i0 "rounds" ?n_Crew_rounds;(case n_Crew_rounds=>k_is);have' vv:=jA i0 "stairs" ?n_Crew_stairs;(case n_Crew_stairs=>k_is);have' vt:=jA i0 "stride" ?n_Crew_stride;(case n_Crew_stride=>k_is);have' uN:=jA i0 "surplus" ?n_Crew_surplus;(case n_Crew_surplus=>k_is);have' CB:=jA i0 "way" ?n_Crew_way;(case n_Crew_way=>k_is);have' Ar:=jA Ld "lamps" ?n_Row_lamps;(case n_Row_lamps=>k_is);have' Aq:=jA Ld "parts" ?n_Row_parts;(case n_Row_parts=>k_is);have' vq:=jA ng "first" ?n_Stair_first;(case n_Stair_first=>k_is);have' yx:=jA ng "foot" ?n_Stair_foot;(case n_Stair_foot=>k_is);have' vp:=jA ng "lamps" ?n_Stair_lamps;(case n_Stair_lamps=>k_is);have' uM:=jA ng "length" ?n_Stair_length;(case n_Stair_length=>k_is);have' vo:=jA ng "parts" ?n_Stair_parts;(case n_Stair_parts=>k_is);have' vy:=Cm (x:= "StreetError") X G ?g224;(case g224=>k_is);have' K6:=Cm (x:= "TooFar") X G ?g225;(case g225=>k_is);have' Gs:=Cm (x:= "TooMany") X G ?g226;(case g226=>k_is);have' Le:=GP (x:= "TooFar") X ?g227 ?g228 ?g229 ?g230 ?g231 ?g232 ?g233 ?g234;(case g227=>k_is);(case g228=>k_exc);(case g229 | g230 | g231 | g232 | g233 | g234=>k_is);have' GF:=GP (x:= "TooMany") X ?g235 ?g236 ?g237 ?g238 ?g239 ?g240 ?g241 ?g242;(case g235=>k_is);(case g236=>k_exc);(case g237 | g238 | g239 | g240 | g241 | g242=>k_is)
 refine' ⟨⟨_,_,_,_,_,_,_,_,_,_,_,_,_,_,_,_,_,_,_,_,_,_,_,_,_,_,_,_,_,_,_,_,_,_,_,_,_,_,_,_,_,_,_,_,_,_,_,_,_,_,_,_,_,_,_,_,_,_,_,_,_,_,_,_,_,_,_,_,_,_,_,_,_,_,_,_,_,_,_,_,_,_,_,_,_,_,_,_,_,_,_,_,_,_,_,_⟩,cz X G ?g1,cz X G ?g2,cz X G ?g3,cz X G ?g4,cz X G ?g5,cz X G ?g6,cz X G ?g7,cz X G ?g8,cz X G ?g9,cz X G ?g10,cz X G ?g11,cz X G ?g12,cz X G ?g13,Uy,OY,OU,OQ,OT,Lb,CF,CC,vz,GA,Ld,ng,Lc,uQ,GC,vA,Ax,p_,Zn,OS,yz,OR,Gw,Gv,Gx,OX,Aw,rV,oH,K9,CD,i0,Az,yA,Ay,Gy,La,Zl,K_,Au,OV,Av,OW,Gz,Zk,As,vx,K5,vw,vv,vt,uN,CB,Ar,Aq,vq,yx,vp,uM,vo,BV X G ?g221,BV X G ?g222,BV X G ?g223,vy,K6,Gs,Le,GF,?g243,?g244,?g245,?g246,?g247,?g248⟩
 (case g1 | g2 | g3 | g4 | g5 | g6 | g7 | g8 | g9 | g10 | g11 | g12 | g13 | g221 | g222 | g223=>k_is);(case g243 | g244 | g245 | g246 | g247 | g248=>kit_is)
