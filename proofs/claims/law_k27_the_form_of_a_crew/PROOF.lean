import PyProof.Rows.All
import Wide.All
import OpenK.AllK
import Wide.FinOn
import Lean
import PyProof.EqAt
import PyProof.EqKinds
import PyProof.TupleCall
import PyProof.NeKinds
import PyProof.SumAny
import PyProof.ConsumeS
import PyProof.WalkInts
import PyProof.Draws
import PyProof.EnumMake
import PyProof.Rows.Range3
import PyProof.MeetsStr
import KE.KDictLaws
import PyProof.Rows.CallKwBuiltin
import PyProof.DictItems
import KE.KPairComp
import PyProof.AttrMissHeap
import KE.KDictOf
import KE.KItemsList
import PySem.Challenge.RW_duskround_k27_the_form_of_a_crew
set_option linter.all false
set_option genSizeOf false
set_option genInjectivity false
abbrev fh:=@List
abbrev fi:=@PySem.Value
abbrev fk:=@PySem.Shared
abbrev fI:=@Option
abbrev gg:=@PySem.Addr
abbrev iy:=@PyProof.Rows.Keyed
abbrev iP:=@Array
abbrev iQ:=@PySem.W.Frag
abbrev jo:=@PyProof.Rows.SortSt
def ab:=@List.length_map
def ae:=@List.mem_singleton
def ag:=@List.mem_map
def ah:=@PySem.wpAny_bind
def ai:=@if_neg
def ak:=@if_pos
def am:=@List.getElem?_eq_some_iff
def ao:=@List.getElem?_eq_getElem
def ap:=@Nat.le_refl
def aq:=@PySem.Heap.get?_push_of_some
def au:=@List.mem_of_getElem?
def ay:=@List.mem_append
def az:=@List.mem_cons
def aB:=@Decidable.byContradiction
def aC:=@List.mem_cons_of_mem
def aD:=@PySem.wpAny_pure
def aE:=@List.getElem?_map
def aF:=@Bool.false_eq_true
def aI:=@Nat.le_trans
def aJ:=@List.map_map
def aL:=@List.mem_filter
def aM:=@PySem.Heap.lt_size
def aN:=@PyProof.Rows.wpS_bind
def aO:=@List.length_append
def aQ:=@List.mem_cons_self
def aR:=@List.map_append
def aS:=@PyProof.Rows.wpS_pure
def aT:=@List.length_cons
def aU:=@List.size_toArray
def aX:=@List.map_cons
def aY:=@PySem.Heap.get?_push_size
def aZ:=@Ne.symm
def a4:=@eq_true
def a5:=@Int.mul_le_mul_of_nonneg_right
def a6:=@List.getElem?_append_right
def a7:=@Nat.ne_of_lt
def a_:=@List.mem_append_right
def be:=@PySem.PassesOwn.never
def bg:=@Int.mul_le_mul_of_nonneg_left
def bi:=@Int.le_refl
def bj:=@List.take_add_one
def bn:=@Bool.false_ne_true
def br:=@List.getElem?_append_left
def bu:=@Int.add_emod
def bv:=@List.length_take
def bw:=@if_false
def bA:=@List.take_append_drop
def bD:=@List.take_length
def bE:=@Int.add_zero
def bF:=@Option.some.inj
def bK:=@List.map_congr_left
def bM:=@List.pairwise_iff_getElem
def bN:=@List.nodup_cons
def bO:=@List.getD_eq_getElem?_getD
def bP:=@Int.zero_mul
def bQ:=@Int.zero_add
def bU:=@Int.mul_comm
def bW:=@List.length_singleton
def bY:=@PyProof.Rows.callWith_type1
def bZ:=@PySem.W.mg_none_of
def b7:=@Nat.lt_of_lt_of_le
def b_:=@if_true
def cc:=@decide_eq_true
def cg:=@PySem.wpAny_mono
def ci:=@List.length_range
def cq:=@Nat.lt_irrefl
def cr:=@List.mem_iff_getElem?
def cu:=@List.pairwise_cons
def cy:=@decide_eq_true_eq
def cz:=@List.pairwise_map
def cA:=@List.append_assoc
def cD:=@Int.mul_nonneg
def cG:=@decide_eq_false
def cH:=@List.getElem_mem
def cI:=@List.mem_range
def cJ:=@Int.mul_emod
def cQ:=@Array.toList_append
def cU:=@Int.emod_emod
def cW:=@List.pairwise_append
def cY:=@Int.emod_lt_of_pos
def cZ:=@PySem.wpAny_truthy_bool
def c6:=@PyProof.Rows.wpS_forRange
def c8:=@PySem.sizeLine_eq
def c_:=@PySem.W.kia_one
def dc:=@Nat.lt_succ_self
def de:=@List.all_eq_true
def dg:=@Nat.zero_le
def dh:=@Array.length_toList
def dj:=@Int.emod_eq_of_lt
def dy:=@List.length_eq_zero_iff
def dz:=@PyProof.Rows.slot_tuple_getitem
def dA:=@Int.mul_one
def dC:=@List.find?_cons
def dD:=@Int.emod_nonneg
def dL:=@Int.emod_eq_emod_iff_emod_sub_eq_zero
def dQ:=@List.drop_eq_getElem_cons
def dR:=@PySem.Heap.size_push
def dW:=@Nat.lt_succ_of_lt
def dX:=@Int.mul_zero
def dY:=@PySem.wpAny_newObj_type
def d7:=@List.getElem?_drop
def d8:=@PySem.wpAny_holding
def eB:=@PySem.Calls.spliced_cons
def eE:=@Bool.not_true
def eM:=@Nat.lt_or_ge
def eN:=@Int.lt_or_le
def eT:=@PySem.mem_of_lookup
def eZ:=@PySem.wpAny_rule
def e_:=@List.perm_append_comm
def fb:=@List.length_filter_le
def ff:=@PySem.Heap.get?_update_other
inductive cM {T0 T1:Type}(P:T0 ->T1 ->Prop):Prop | mk (x0:T0) (x1:T1) (h:P x0 x1):cM P
inductive gm {T0 T1 T2:Type}(P:T0 ->T1 ->T2 ->Prop):Prop | mk (x0:T0) (x1:T1) (x2:T2) (h:P x0 x1 x2):gm P
inductive lD {T0 T1 T2 T3:Type}(P:T0 ->T1 ->T2 ->T3 ->Prop):Prop | mk (x0:T0) (x1:T1) (x2:T2) (x3:T3) (h:P x0 x1 x2 x3):lD P
inductive Lw {T0 T1 T2 T3 T4:Type}(P:T0 ->T1 ->T2 ->T3 ->T4 ->Prop):Prop | mk (x0:T0) (x1:T1) (x2:T2) (x3:T3) (x4:T4) (h:P x0 x1 x2 x3 x4):Lw P
inductive Zq {T0 T1 T2 T3 T4 T5:Type}(P:T0 ->T1 ->T2 ->T3 ->T4 ->T5 ->Prop):Prop | mk (x0:T0) (x1:T1) (x2:T2) (x3:T3) (x4:T4) (x5:T5) (h:P x0 x1 x2 x3 x4 x5):Zq P
inductive Rp {T0 T1 T2 T3 T4 T5 T6:Type}(P:T0 ->T1 ->T2 ->T3 ->T4 ->T5 ->T6 ->Prop):Prop | mk (x0:T0) (x1:T1) (x2:T2) (x3:T3) (x4:T4) (x5:T5) (x6:T6) (h:P x0 x1 x2 x3 x4 x5 x6):Rp P
inductive FJ {T0 T1 T2 T3 T4 T5 T6 T7:Type}(P:T0 ->T1 ->T2 ->T3 ->T4 ->T5 ->T6 ->T7 ->Prop):Prop | mk (x0:T0) (x1:T1) (x2:T2) (x3:T3) (x4:T4) (x5:T5) (x6:T6) (x7:T7) (h:P x0 x1 x2 x3 x4 x5 x6 x7):FJ P
inductive d6 (P0 P1 P2:Prop):Prop | mk (YO:P0) (Mh:P1) (GG:P2):d6 P0 P1 P2
inductive fU (P0 P1 P2 P3:Prop):Prop | mk (YO:P0) (Mh:P1) (GG:P2) (hP3:P3):fU P0 P1 P2 P3
inductive jS (P0 P1 P2 P3 P4:Prop):Prop | mk (YO:P0) (Mh:P1) (GG:P2) (hP3:P3) (hP4:P4):jS P0 P1 P2 P3 P4
inductive kM (P0 P1 P2 P3 P4 P5:Prop):Prop | mk (YO:P0) (Mh:P1) (GG:P2) (hP3:P3) (hP4:P4) (hP5:P5):kM P0 P1 P2 P3 P4 P5
inductive Lx (P0 P1 P2 P3 P4 P5 P6:Prop):Prop | mk (YO:P0) (Mh:P1) (GG:P2) (hP3:P3) (hP4:P4) (hP5:P5) (hP6:P6):Lx P0 P1 P2 P3 P4 P5 P6
inductive qk (P0 P1 P2 P3 P4 P5 P6 P7:Prop):Prop | mk (YO:P0) (Mh:P1) (GG:P2) (hP3:P3) (hP4:P4) (hP5:P5) (hP6:P6) (hP7:P7):qk P0 P1 P2 P3 P4 P5 P6 P7
set_option Elab.async false
set_option maxRecDepth 100000
set_option genSizeOf false
set_option genInjectivity false
local macro_rules | `(∅) => `(by lia)
local macro_rules | `(⇑$x) => `(by simpa using $x)
set_option compiler.extract_closed false
noncomputable section
local macro_rules|`(⋯)=>`(by decide)
local macro_rules|`(tactic|symm)=>`(tactic|constructor)
local macro_rules|`(tactic|exact $e)=>`(tactic|refine $e)
local macro_rules|`(tactic|show $e)=>`(tactic|refine $e)
local macro_rules|`(def $i $s:optDeclSig:=by $v)=>do let d:=Lean.mkNode ``Lean.Parser.Command.declSig #[s.raw[0],s.raw[1][0]];`(theorem $i $(⟨d⟩):declSig:=by $v)|`(def $i $s:optDeclSig $v:declVal)=>`(noncomputable def $i $s:optDeclSig $v:declVal)|`(abbrev $i $s:optDeclSig $v:declVal)=>`(noncomputable abbrev $i $s:optDeclSig $v:declVal)
local macro_rules|`(tactic|let $p:term$[:$t]?:=$e)=>do let r:=p.raw.rewriteBottomUp (λs=>let k:=s.getKind;if s.isIdent then Lean.mkNode `Lean.Parser.Tactic.rcasesPat.one #[s] else if k==`Lean.Parser.Term.hole then Lean.mkNode `Lean.Parser.Tactic.rcasesPat.ignore s.getArgs else if k==`Lean.Parser.Term.anonymousCtor then Lean.mkNode `Lean.Parser.Tactic.rcasesPat.tuple (s.getArgs.modify 1 λa=>.node .none `null (a.getArgs.map λq=>if q.isAtom then q else Lean.mkNode `Lean.Parser.Tactic.rcasesPatLo #[Lean.mkNode `Lean.Parser.Tactic.rcasesPatMed #[Lean.mkNullNode #[q]],Lean.mkNullNode])) else s);`(tactic|obtain $(⟨Lean.mkNode `Lean.Parser.Tactic.rcasesPatMed #[Lean.mkNullNode #[r]]⟩):rcasesPatMed$[:$t]?:=$e)
local macro_rules|`(tactic|simp![$x,*]$[$l]?)=>`(tactic|simp only[$x,*]$[$l]?)
local macro_rules|`(#[$x,$y])=>`(⟨$x,$y⟩)|`(#[$x,$y,$z,*])=>`(⟨$x,$y,$z,*⟩)
local macro_rules (kind:=Lean.Parser.Command.mutual)|s=>do
 let c:=s[1].getArgs
 if !c[0]!.isOfKind `Lean.Parser.Command.check then Lean.Macro.throwUnsupported
 let p:=c[0]![1][1]
 let go(m:Std.HashMap String Lean.Syntax)(x:Lean.Syntax):=x.rewriteBottomUp λy=>match y with|.ident _ _ (.str .anonymous n) _=>(m.get? n).getD y|_=>y
 let mut m:Std.HashMap String Lean.Syntax:={}
 let z:="ÀÁÂÃÄÅÆÇÈÉÊËÌÍÎÏÐÑÒÓÔÕÖØÙÚÛÜÝÞßàáâãäåæçèéêëìíîïðñòóôõöøùúûüýþÿĀāĂăĄąĆćĈĉĊċČčĎďĐđĒēĔĕĖėĘęĚěĜĝĞğĠġĢģĤĥĦħĨĩĪīĬĭĮįİıĲĳĴĵĶķĸĹĺĻļĽľĿŀŁłŃńŅņŇňŉŊŋŌōŎŏŐőŒœŔŕŖŗŘřŚśŜŝŞşŠšŢţŤťŦŧŨũŪūŬŭŮůŰűŲųŴŵŶŷŸŹźŻżŽžſγδεζθιμνξοπςτυχψωΑΒΓΔΕΖΗΘΙΚΜΝΞΟΡΤΥΦΧΨΩϊϋόύώϏϐϑϒϓϔϕϖϗϘϙϚϛϜϝϞϟϠϡϢϣϤϥϦϧϨϩϪϫϬϭϮϯϰϱϲϳϴϵ϶ϷϸϹϺϻ".toList.map toString
 let mut w:="abcdefghijklmnopqrstuvwxyzABCDEFGHIJKLMNOPQRSTUVWXYZ".toList.flatMap λa=>z.map λb=>toString a++b
 let mut k:=""
 for x in #[p[0]]++p[2].getSepArgs do
  if x.isIdent then k:=x.getId.toString
  else if k=="" then
   m:=m.insert w.head! (go m x);w:=w.tail!
  else
   m:=m.insert k (go m x);k:=""
 let mut o:Array Lean.Syntax:=#[]
 for x in c[1:] do
  if x.isOfKind `Lean.Parser.Command.universe then
   let i:Lean.Ident:=⟨x[1][0]⟩
   o:=o.push (← if i.getId==`e then `(end) else `(end $i))
  else o:=o.push (go m x)
 return Lean.mkNullNode o
mutual
#check (À,lo+n,Á,lo+x,Â,ap _,Ã,sa+k,Ä,fh V,Å,⇑e,Æ,ai h,Ç,aM e,È,ak e,É,ai e,Ê,n +1,Ë,fI W,Ì,fh W,Í,wi s,Î,wi p,Ï,(-1),Ð,bi _,Ñ,z::r,Ò,0<=s,Ó,du a,Ô,ak z,Õ,h1.1,Ö,ai z,Ø,jc k,a x y,p::ps,x::xs,Ù,a≤b,b≤a,Ú,iP iy,lo<=i,(n+1),Û,[_,_],Ü,(k+1),ak c1,ai c1,Ý,fh α,(i+k),Þ,(j+1),ß,(i+1),e.2.1,à,j - 1,á,i - 1,â,⇑hl,ka hy,i'+j',fh Rn,[x,y],ã,fh fi,iP fi,aD ?_,ä,.bl b,fh cL,bS hb,å,fh gg,fI gg,⇑hb,.bl _,.bl k,ah ?_,(k,x),ak hk,ai hk,p.1=k,q.1=k,v::vs,ai hx,I n s,fh Dt,æ,q x M,b≠d,ç,l[i]?,(M x),q.1=x,z.1=x,è,(0<p),"min",é,du st,ê,fh Pt,ak ey,ai ey,ë,t.2.1,t.1=w,ì,t.2.2,u.2.1,ak ev,ai ev,í,s≠0,fh oF,"law",(J i),g.2.2,î,fh fV,t.c=c,ï,t∈L,u∈L,fT hu,fh Rd,b≠o,ð,"one","row","end",bR ht,au hz,kh ?_,aH n1,wr e1,aH wY,ñ,(.n 1),xs[i]?,some b,ò,b=true,ó,(À),ô,some r,pure r,some d,(Á),õ,(Â),i=Á,ö,(.n 0),fN hsz,ø,ai ∅,(lo+i),(lo+k),ù,some k,(la<f),some g,ú,this.2,û,some x,N<=i+j,ü,this.1,i+j<=N,ý,(.n 2),na - k,sb - 1,(Ã),ao ∅,þ,some u,ÿ,"list",Ā,.ref a,(·.2),ā,fh Int,.inl k,.inr x,.inl i,Ă,.int i,.str x,ă,some v,Ą,List V,ą,some o,Ć,ak rfl,ć,(·.1),(cq _),.lst _,b∉ex,fh Env,some c,b∉ch,(Ç),Ĉ,fh Str,ĉ,some a,.inl q,Q v H',Gl X x,X.mg x,c=true,.inl h,some e,(lx i),some y,aq _ e,2 ^ 62,.int j,2 ^ 64,.int _,.str _,k=true,.ref p,dx≠x,.ref C,xU K C,aq _ q,(dc _),"dict",gq k A,(.n 5),vs[i]?,Ċ,fI Int,.ref t,ak ⋯,some j,#[_,e],.int b,.int a,.ref l,.ref b,.ref _,kv.1=k,fb _ _,some q,ċ,fh Nat,Č,.tup l,.lst l,uV d e,.tup _,.ref d,List W,.v .fD,(oM e),x=wi i,x=wb c,č,(wr p),some t,y=gC k,some z,keep M,ak ∅,wi q.2,(M1 p),(M2 p),dM r x,(a++b),dM a x,cX p l,.inr h,(f8 m),(a:gg),(2<=p),p<1000,cK pat,z.1+qi,(a:Pt),(a:Rd),100000,(0,[]),(l:gg),α ->W,β ->W,(eW a),λ_=>0,ns= [],Ď,bI s x,(bI s),du pat,ď,(Ò),Đ,hI s x,kJ s c,GD p m,GD p a,NZ p n,GD p c,"foot",(lG P),pf P w,wi len,0<=len,0<foot,foot<p,eM j i,(s<=8),(0<=Z),look c,-Z - 1,dM d x,(Ñ),pf P n,400000,y - sh,Dq p n,(lo+1),đ,(Ð),sts[i],Ē,(.n 8),wr t.o,(nj L),(·.c),(·.b),h.zt z,(hc z),h a aQ,a+kN r,(iz L),Ls[i]?,zq s i,(u:gg),nr R x,"self","held","ends",ē,(pv 1),Ĕ,(bT _),ĕ,(pv 0),Ė,(pv 2),ė,(pv 3),Ę,(pv 4),ę,(pv 5),Ě,(pv 6),(pv 7),(kW T),(uv T),(fG T),(mK T),.inl 0,iz L d,(kT T),(pv 8),(Lqp c),ě,(0:Int),a+1≤b,b+1≤a,di xs i,di xs k,Ĝ,[_,_,_],min k n,(j+1+k),d.2.2.1,d.2.2.2,e.2.2.1,(à),ĝ,(á),cr.mp h,dS st g,ak ⇑c,ai ⇑c,(sb+nb),LqNz i1,l≠ [],"tuple",(aÏ),p.1=q.1,(n:Nat),.tup xs,"range",k b u q,Ğ,some ob,Q () s',ğ,fh Expr,fh Stmt,I.tok _,(ä),(e::es),(i:Nat),Ġ,(n:Int),Int ->V,(g i j),ġ,1000000,Ģ,vals1 r,az.mp h,LqNe hl,ģ,(k:Int),(1:Int),Ĥ,(i:Int),(j:Int),(m:Int),am.mp h,I.Gh hH,(pG ry),#[q,hq],(gl st),(fC st),(bm st),ok=true,ĥ,bC H H',Sm M M2,Ħ,Sm M M',(ao hj),h.at e1,wb true,q wn M',ħ,(k:Nat),gj lo n,Sm M1 M,(bR hp),hq p hp,sa z hz,ae.mp h,lu p ps,Ĩ,(p:Int),8000000,(aZ cS),Int×Pt,gN ns m,its[i]?,mQ rv e,a.2.map,fh Bool,l.map f,(au ha),x - e*n,g x % p,a.1≠0,[a,b,c],[(0,1)],h3 x hx,ĩ,cF s st,Ī,eC s st,(s:Int),(st:Pt),rH s st,h st gD,ag.mp h,ī,"lamps",Ĭ,"parts",ĭ,"first",pf P' w,4000000,h - len,(f+h*s),wi foot,(x+s*m),c+len*s,Į,List Pt,(e9 hn),(a - b),(ao hi),(w:Int),h - 2*w,hj j jW,List fV,u.c=t.c,w+2*K*s,iV L t',fr x hx,Sm M M3,ix p0 _,gu p Ls,O0 p ms,LS ns R,Vv p ms,"other",į,"place","stair","shift","found",İ,(fL hr),"which",(P':Pq),hB t ht,Vf m h3,tt - mm,ı,(E'+Λ),Ĳ,List Int,List Nat,ĳ,Ord less,arrOf st,lo+c.snd,Ĵ,.inl rfl,arrOf bG,ĵ,O.refl _,(i - lo),(base+i),l.take i,l.drop i,ay.mp hx,Ķ,o.push x,ķ,λx=> ?_,i<a.size,j<b.size,(di b j),(di a i),ae.mp hx,ĸ,.inr rfl,ak ⇑c2,ai ⇑c2,Ĺ,#[_,rfl],(.inl c),l.take k,l.drop k,l.drop j,(LqNt h),(lo,n,0),pl≠ [],ĺ,h.get? a,Ļ,[Ā],.int i t,cR xs us,ļ,RelV x u,Ľ,RelV v u,ľ,H b=none,Ŀ,aY _ rfl,(cV P w),ŀ,(.ref f),(.ref x),h.get? b,H a=none,Zz (H x),(.own x),k b ob q,(_b h H),List Str,List Env,b∉X.fs,(ă),X.pn++aj,some p.2,id I.loc,am.mp hi,cR vs us,t σ H Q,t D σ H,RelV x v,Ł,RelV y u,(Ă),x= .bl c,.bl true,(aē),ł,(Ā),r.inj r',J.go i H,(LqIe e),16777216,#[H,I,q],Ń,(aĭ),(.inl e),xU X.K C,λ_=>rfl,(aĮ),(.n 200),(aī),(vs++uY),#[us,[]],(us++ds),gq k X.A,cR uY ds,P.zip vs,a6 ⇑hi,br ⇑hi,(aĵ),ń,H p=none,Ņ,(.g Lq0),(.g Lq2),H l=none,(aĻ),RelV y v,jd kvs k,#[h1,h2],az.mp hx,(y=kV k),(.dK []),#[t,rfl],az.mp hy,#[?_,?_],(aĤ),(Č),oB d<=50,"sorted",bC H1 H2,ņ,M p=none,Ň,iD K M H,(û),w ρ M q,ň,IE K t a,IT K t a,IE K u b,IA K u b,IA K t a,(x=wr a),ŉ,m a _ hl,Ŋ,ip.of hv,(gG K p),p vs M q,m.new hp,#[rfl,r],(x=wr p),(aŋ),fX kvs k,IE K s c,IS K t a,IG K g w,(LqNe h),I i ρ M,I m ρ M,I i ys M,Sm M0 M',DR M x d,ŋ,(by rfl),Dr M d l,Ō,Int×Int,W ->Prop,look r x,look l x,h.1 z hz,ō,look a x,look b x,ae.mp hq,CG hp hs,az.mp hz,Ŏ,(LqId e),(.inl x),ng m x v,ŏ,look m x,look m y,look m n,(d l:gg),Ő,16000000,(aŚ),(pat:Pt),(a b:Pt),(bk p a),cX p a.2,(tf _ _),ns≠ [],az.mp hb,ő,ae.mp hb,(.ref j),fe.2.2.2,fj.2.2.2,λz=> ?_,Sm M1 M',Œ,(.g Lq1),(LqIz h),oV e n q,lY e n l,(lo+i*c),[(ky,u)],Ď=f,M t=none,(Ď),st≠ [],œ,Ď=c,ms≠ [],ag.mp hx,az.mp hm,aL.mp hx,ag.mp hy,wr x::xs,(.dK us),hx b _ q,(iA m x),Ŕ,look c x,ŕ,"length",wr ë,M x=none,ag.mp hm,nZ P w c,pf P t.1,ay.mp hu,ae.mp hu,x - s*sh,(aŰ),(pf Q w),(x - sh),(iL e).1,Ŗ,kj len h,am.mp hj,look b f,(look a),look pat,qQ l c k,Nat ->Pt,λ_=> [],ag.mp hb,ay.mp ha,(look b),pS ND sn,(Λ:Int),ag.mp hc,one x hx,(.g Lq3),(pf Q n),#[1,rfl],#[2,rfl],.inl t.c,ay.mp hb,u.c=t'.c,sm _ _ e,L++ [t'],one u hu,Ó= [],vK s Z c,(·.len),lu p t.b,Ord L Ls,(aτ),ay.mp ht,ae.mp ht,ŗ,"stride","rounds","stairs","makers",(s,rest),(g a ha),λh=> ?_,(top 49),"places","height",az.mp hj,Ř,λ_=> ?_,M d=none,qy _ _ e,(gE rfl),Wy _ _ e,"_law_k",(jP rfl),(.n 100),(j0:Int),t.c≠c0,(mem ht),(qU rfl),Ay s a.1,fh WQ.Rd,sound c x,i<xs.size,(aΟ),fk ->Prop,some none,pure none,ř,[_,_,_,_],(LqNw c1),#[rfl,?_],Q true bG,(none,()),(l+r) / 2,Bf i=true,al.take i,bl.take j,Ś,(LE less),al.drop i,bl.drop j,elem' b j,elem' a i,c.2.2.2.2,aΧ.2,e.2.2.2.1,à - k,n<xs.size,ś,(by simp),(LqNt hj),n - Þ,aS ü,aS ú,(LqNd Uc),(LqNe Uc),i<=a.size,j<=b.size,(LqNt hi),at_+Ü,(arrOf s),(LqNd Og),(dS FS g),(LqIz h1),.cons _ t,.cons r t,cR xs its,Ŝ,KV kvs vs,h'.get? b,ŝ,(aϕ),h'.get? a,List Addr,H' b=none,K.In base,Ş,Hp ->Prop,ş,PE X a ta,PE X b tb,PT X a tA,(.lst xs),h.ok I.dU,PS X st t,PE X e te,(.ref it),I.list hq,rv.get hx,(LqNd hl),PE X l tl,-(aĥ),x= Ă,Š,Int ->Int,k=(i !=0),š,(.dK kvs),kr f v fs,tD I.dU e,(aϚ),(.n 1000),λ_=>none,PE X o ta,(.dT kvs),some true,A.units+1,PA X es t,H1 p=none,mo CX X E,λ_=>true,(aϡ),(.type T),(.ref sl),(.lst ys),(LqNd df),(.tup ys),p8 I.dU e,rel.val k,xx I.dU e,A4 I.dU e,PE X o td,PE X i ty,pyNext it,(.lst []),(.ref Da),I.list i0,I.list hs,Ţ,Mp ->Prop,(am.mp e),(.lst vs),b ρ M1 q,IT K tc c,ţ,M1 p=none,x= Č,ns.map wi,#[rfl,rx],rr.val ky,m1 p _ hp,m3 p _ e2,D.nx ρ M,bC.refl _,xs.take i,Sm.refl M,#[hi,rfl],Ť,û::r,#[l,h2,k],(LqId hx),(LqIe hx),ai (aZ e),(aϸ),(· < ·),Dr M' d l,NB d M M',100000000,Nat ->Int,LqNx h h',bs.all id,(p s:Int),(l.map g),(bÇ),(n+1:Nat),.int j t',(i j:Int),H1 l=none,(LqNd hk),"default",(ĩ),kK s f ns,cN s st c,v6 s st c,0<=Đ,jX d M M',(g,y)::fs,M1 x=none,ps.drop i,fY M M' L,h.EV t ht,tW ns len,look c' x,tW ms len,fh (Ì),cX p rest,look st x,look r' x,lc v gs x,(aC _ hc),xS s p bs,(LqId h3),(LqIe h3),nX k t hk,(sr i hi),look c1 x,M0 x=none,(aC _ hx),(bç),bB.take i,(look pt),bB.map cK,(o dx:gg),Rq 8 24 a,ms.map gL,zi ns r x,Uy p ms s,"surplus",ť,"pattern",Ŧ,"setting","members",ŧ,io K mg A,(Ub h hm),Z+i*(D+s),w'+2*K'*s,cs.map wi,(LqId C4),aI rl ⋯,Ũ,(bõ),λ_ _=>rfl,(À - 1),ũ,(Ĵ),Ū,(bø),(Á - 1),(arrOf ik),Bf i=false,(.m 2 Lq1),(.m 2 Lq0),ū,(by omega),fI (Ú),(Ķ),a.size - 1,((LqNd e)),(sa,na,pw),(LqNd hsz),(a,n,p)::r,(arrOf gZ),pairsOf vs,ah aϒ,λ_ _ e=>e,(· <= ·),fh (κ×V),H a=ą,H b=þ,.seq its n,Ŭ,nV P w H h,(λ_ q=>q),λ_ _ q=>q,(dB H a o),(dB H x o),some .cell,some .free,Dd X.stack,I.pin p hp,λ_ _ x=>x,tb σ H1 Q,K.lookup a,pure false,I.tuple hq,I.ok.hd hc,.Name x jU,J.stop i H,#[rfl,rfl],Int ->Prop,1073741824,ŭ,(bĨ),false=true,I.tuple hx,Ů,some false,"__init__",eval e env,(dJ K C f),#[o,h1,h2],(bN.mp nd),K.lookup f,#[_,e,rfl],im kvs k v,sQ H a y o,ů,fh (cL×V),.bool true,K w.params,y.2= .free,(oJ x c e),(hg cl fp),(hc cl fp),(he cl fp),I.tuple hs,I.tuple i0,j<l.length,λ_ _ h=>h,.v aϛ,Ű,WR K H x v,WR K H d v,fh (κ×W),MR K H a o,(dB H a u),iD K M' H',WR K H y u,(r1.ts t2),(wb false),(jT.of cw),Option Int,(Ŋ),xs= [wi i],ű,fh (cL×W),l.length=n,D.nx ρ M1,II K ti it,(ys++ [y]),(l.map cx),Ų,#[_,rfl,h],jR p l x s,ai (aZ hx),(bŢ),look pat x,a.2.length,eM j Ü,(gx l)[i]?,(pyIter x),iE f e n x,lN f e n x,(-n).toNat,mq p a n r,l.length*n,r.2.length,I.jI x c h,"min.loop",(s<2 ^ 30),eO b n1 n2,ų,ca rl rp P,M d=ą,bN.mp h.Qo,ca ol op Q,Ŵ,(bΖ),ns.headD 0,cI.mpr ∅,s*Ŗ,(Ó).map,ms.headD 0,eQ G d % p,sr.ok.on _,nX i st hi,(.m 2 Lq2),qZ s l h P,(bB:ê),eA s K w c,(.m 2 Lq4),(.m 2 Lq3),row.mem hx,u.Hx c1 P1,(ms:aó),("p" :Str),"_law_far",h3 d d1 d2,(hU fR aA),(aa aA ar),aH (aZ wY),aH (aZ LX),aH (aZ Qp),pat.map cx,aH (aZ JT),absurd h z,ag.mp Gx.1,(bx2 t ht),sts.take i,mb.UP a hm,aH (aZ _F),(F:ā),aH (aZ Qn),cf.gK.of h,Int.ofNat k,LE less x y,Array Keyed,failedOf st,i<a₀.size,i<=k /\ k<j,c.snd.snd+1,c.snd.fst+1,ŵ,[_,_,_,_,_],c=cÃ,λj hj=> ?_,λi hi=> ?_,LE less y x,e.2.2.2.2.1,e.2.2.2.2.2,Decidable c,vo λr=> ?_,(Gu rfl ?_),(k==0)=true,i+n<xs.size,(y=di xs n),(T.mb j hj),gallopOf st,n - (at_+k),di xs (i+n),pendingOf s,(sb,nb,pw2),i=l1.length,l1.length+1,pF k v=true,Value.ref a,fh (κ×fi),Array Value,Heap ->Prop,o.dict=none,(its:ã),h.Ns1 dx mA,fs.lookup f,(dB H x o'),some .local,Str ->fI fi,X.fn x=true,Ŷ,X.calm=true,λp hp=> ?_,(neL b o e),ŷ,λb hb=> ?_,λm hm=> ?_,#[u',r',?_],D.nx σ' H',D.bk σ' H',D.ct σ' H',(SP X aj D),aĞ=none,#[H1,I1,q1],ip K H a xs,jT K H a xs,(câ),I.pH a o hk,#[σ,H,I,h],(Wn tc t u),(v= Ā),(a7 aĚ),2<=sizeLine,⟨m0,w0⟩,tn i s.heap,(model P w),"enumerate",λi _=>n<=i,(hf b hb).1,Ÿ,(x= Ā),⟨xs,hq⟩,I1.tuple hq,again I7 n7,fi ->Sem fi,MS x y=true,ip K H p xs,jT K H p xs,K.In s.heap,(·.isSome),fh (Str×V),(g==k)=true,(qL f y fs),I.dU a _ ea,(.m 16 Lq1),sp vs H Q E,(ps.zip us),r.append hd,(.Name x p),(LqNd this),λy hy=> ?_,i<vs.length,#[∅, ∅],ve xs lo hi,(i+n).toNat,j<xs.length,i<xs.length,(x= aī),I.dU p _ hk,n<=sizeLine,(x= aĻ),(y= aļ),jd (p::r) k,.cons ?_ ih,(ks.map kV),KT H kvs xs,Ź,λx hx=> ?_,(!o.isSome),(dB H a ob),aD (ah fin),fh (TE×TE),fh (fi×fi),fh (cL×fi),lW kvs more,#[t1,t2,?_],Params ->iQ,Option Addr,gh.lookup x,cl.lookup x,(LqNe this),(yQ b hb).2,(.ok .next),eval i9 env,W i m ys H',tn 0 s.heap,mX I3 f3 Ic,jT K H a vs,iF K H l vs,Rep K H d v,#[v,rfl,h1],kO d e=true,(ks:ā),#[_,ho,rfl],#[_,rfl,?_],.v bĢ,aH (cO e h),(um M' p o),ź,db K H l vs,WR K H' x v,KR K H l vs,zo K H D' D,(t.trans s),Ż,(bC.refl H),t1.trans t2,t2.trans t3,r.cut lo hi,ip K H p ys,jT K H p ys,(cĚ),Bool ->Prop,a ρ M D.rt,xs.length=i,(λ_=>True),ts.trans ty,i=xs.length,I m' ρ' M',ts.trans t1,t3.trans t4,ż,(ns:ā),Ì ->Prop,.v bď,.v (aĦ),(cė),4<=sizeLine,(cu.mp h.2),(q.2+s) % p,λz hz=> ?_,Sum.inl q.1,m++ [(x,v)],some (wr d),(ms.map wi),(g,aϸ),.inl (vd a),ns.getD i 0,i<ns.length,ns.getD j 0,0<ns.length,Value.ref t,PA X [l] tl,bs.map V.bl,i<bs.length,(bs.map wb),kO d d=true,eval dw env,IP.snoc r10,(dH a).take,some aŤ,(n+1).toNat,(Ġ+1),(UI lo c n),(i j c:Int),λv hv=> ?_,h xs M q h3,(i+ģ),Gl X ÿ,t0.trans t1,zu b o n1 e,(sts:ê),(LqId this),(LqIe this),Ž,fh (Str×W),ks.lookup f,KR K H l ps,(ī,l),Int×gg×Pt,Sum.inl t.1,ž,λu hu=> ?_,#[t,ht,rfl],ſ,λt ht=> ?_,#[u,hu,rfl],ca rl rp P',s=0 ->len=0,(hs.take i),N.bd _ N.lo,d.length<=n,ě=0*k,look rest x,λw hw=> ?_,(Ne.symm z),dM js y % p,λy ne=> ?_,(A++B).getD,0<=a /\ a<p,λa ha=> ?_,F5 aγ v,Q5 s b lo n,(x - s*z.1),J bs.length,cF s sts[k],(.inr trim),cF s aδ,(x - s*j.1),ě % p,(p s Z:Int),look t'.b x,fE s p G0 f,λf hf=> ?_,gJ.each u e,(K.toNat+2),gJ.each v e,h.each t ht,(cŖ),(p s D:Int),(lw ns:Nat),γ,(.g Ē),Nat.gcd a b,a+1 - (b+1),b+1 - (a+1),n.natAbs<=8,(h,a,c)∈R,Bd 40 lap.2,δ,some (Í),ε,some (Î),G4 p ms s v,some (wr v),M b=Ğ,q (wr u) M',ζ,"_law_draw","_law_many","_law_most",(d_ ĕ),a4 T.Row.cl,some (wr o),some (wi n),pairs_at hx,aH (aZ hho),some (wr r),row.EV u hu,λd hd=> ?_,λw' x=> ?_,Ez iW.oq hz,aH (aZ nrp),HS.out h hm,C_ (x:=x) z,some (wi h),ca e1 e2 [],λN hN=> ?_,λ_=>_B _ _,some (wr a),"_law_sums",λz qO=> ?_,(iw ē),LqNv ha rfl,ca l1 p1 P',fq row.ga.1,(du c1).map,θ,some (wr u),#[_,aĎ],uu.Hx c1 P2,w'+4*(mI*s),some (wr t),sM.trans sU,(.n aş),some (wi b),(d_ Ė),some (gL a),mb.pat a hm,(JE hr.u60),(iG cf.pat),(l.ok&&r.ok),kindOf st=kd,lo+c.snd.fst,c.snd.snd >0,ι,(.a Lq0 Lq1),μ,(.a Lq0 Lq3),ν,(.a Lq2 Lq3),(.a Lq2 Lq4),ξ,(.a Lq1 Lq2),ο,(.a Lq1 Lq0),pendingOf bG,pendingOf st,(.a Lq0 Lq4),(.a Lq4 Lq5),lo+(x+1) - 1,π,(.a Lq0 Lq2),ς,(.a Lq3 Lq4),τ,(.a Lq2 Lq1),(.a Lq3 Lq1),υ,(.a Lq2 Lq0),(.a Lq3 Lq0),χ,(.a Lq3 Lq2),(.a Lq1 Lq1),hk x hx y hy,ForInStep R7,∀x,f x=g x,ForInStep S7,(ců),(am.mp hn).1,(bF hn).symm,i+1+1=a.size,kindOf bG=kd,(LqNp hN ck),(.a Lq1 Lq3),ψ,(.a Lq5 Lq6),(.a Lq6 Lq4),(LqNp hN Mi),(h3 n n1 n2),(.a Lq1 Lq4),ai ś,(by exact h),(LqNp hz hk),(.a Lq0 Lq5),(.a Lq5 Lq4),(.a Lq2 Lq5),l.length - 2,l.length - 1,l1++x::y::l2,lo=a₀.size,pendingOf rf,pendingOf gZ,2<=yw.length,pl.length<=1,(.ret .none),decide (a=b),u=Value.none,ã ->Prop,RelV p.2 q.2,List (cL×V),.type ÿ,.ins C dx fs,bS (d3 q hn),ω,fh (gg×Obj),Option Value,env.kindOf x,I.cell x c e,(I.Uw x c e),(I.jI x c e),λx c e=> ?_,λb u e=> ?_,(bĝ).1,λ_ _=>False,eval e X.env,eval a X.env,eval b X.env,#[v,H,I,r,h],op≠ .NotIn,absurd rfl h,(cπ),λh' hx=> ?_,eval o X.env,BF X body tb,hN σ3 H3 n3,lq X aj H' b,xs.length<=i,Α,(.s Lq0 Lq1),Gl X aϖ,(Wj r ta tb),decide (x=y),(g==k)=false,LD X.K C m g,.type aı,"isinstance",fh (Str×fi),(.a Lq2 Lq2),LD X.K C m f,gq Ü X.A,(start N vs),False.elim q,IsPart vl lo,IsPart vu hi,#[os,TB,hcs],s.TypeIs v T,some i.toNat,-Ġ <=i,xs= [aī],ob.dict=none,(λx=> !x.1),kvs.length+1,valueAt vs k,(im kvs k y),(LqNp h1 h2),List Keyword,ns.length<=n,(cΜ),(true==true),ns.map V.int,gq k callerA,iP DictEntry,False.elim h,λb o e=> ?_,absurd rfl z,(Or.inl rfl),fh (Str×gg),(λj=>N[j]?),i<own.length,eval c X.env,(newList []),dW (Uf b hb),(I9.km).weak,l.getD j .fD,List (cL×W),KR K H fs ks,.fz o ks kvs,Mr K H ρ σ,Β,(o.mv t1 m1),⟨c,e,h1⟩,(qS l lo hi),(m.fresh hp),λi x e=> ?_,(xs= [wr a]),xs= [Č],some (.dK l),l.map ć,(a l ρ M q),List.range n,jT K H1 p vs,db K H1 l vs,Un.sqT ts hv,i<=xs.length,k3 v H2 f7 y,kx _ aϴ,kE l=some ds,(xs= [wr d]),#[q,rfl,rfl],decide (i=j),#[_,_,rfl,h],#[b,d,a,c,e],#[a,b,c,d,e],(Ne.symm h2),m.map ć,r.map ć,(aŜ,z.2),(.s Lq1 Lq2),ms.map V.int,N.length - 2,(am.mp e').1,bS (d3 q YE),bS (d3 r YE),⟨old,he⟩,(am.mp hx).1,⟨o,h1,r⟩,(bs:bÄ),j<=zp.length,V'.trans ty7,#[a,rfl,rfl],l.take ß,(.s Lq0 Lq2),(.s Lq0 Lq3),(.s Lq2 Lq3),"setdefault",λ_ _ _ h=>h,zu Z _ hw hS,(sts.map cK),sD s sts pat,vP s sts pat,l.getLastD 0,qT (x:=x) h0,(.s Lq2 Lq1),ts1.trans V_,[kV p.1,p.2],im m p.1 p.2,λi q e=> ?_,ŏ≠0,(.dK (f8 c)),P.map ć,(nZ P t.1 c),t.2.2.length,Q.map ć,(.s Lq1 Lq0),bŧ≠0,List.range p,Ŕ≠0,Wt (Z+D+s) c,(bο).1,Mn s f m t a,WQ.jX p M1 M,(aŰ).map,Γ,v7 s p sts D,aB λhn=> ?_,aB λhy=> ?_,k<=y /\ y<=m,sr.out z ∅,i<sts.length,(Ne.symm Yy),fE s p sts f,fE s p sts g,(A.length+n),(.s Lq1 Lq3),Pt×Int×Nat,G.map ć,[g.1].length,bs.getD i [],v0 s p sts D,sts.length*h,(cϸ),(gK.of h).l0,λy' ne=> ?_,(.a Lq0 Lq0),ō≠0,qp s Z l h a,(.s Lq1 Lq4),(.s Lq0 Lq4),xR S s p M t,Δ,L.map aθ,(t.c,t.o,[]),L.map aι,í ->0<=c,gJ.each t ht,gJ.each u hu,t'.o::t'.adr,gJ.xl u e hx,sr t (au ht),h.each t' m2,(h.fin t ht),λst gD=> ?_,ms.length<=6,(xs= [wr u]),#[r,rfl,rfl],w=1 \/ w= -1,R.map ć,("way" :Str),"_law_pairs","_law_thing",Ε,"_law_place","_law_stair",Ζ,(by trivial),decide (x=f),(am.mp hz).1,λd u e=> ?_,some (wr rl),(o1 o2:Ë),nZ P' u.1 c',λw' yL=> ?_,Η,(cŦ),(.n bÓ),(.n ġ),(o5 o6:Ë),(.n aϹ),LqNv hPl rfl,some (wi jf),Θ,(aG (bo gv)),(am.mp gD).1,aH (cO e f3),aH (cO e f1),aH (cO e f2),aH (cO e TY),d5 p0 row.ga,(LqIp k0 k0),(K'.toNat+1),some (wr hd),eA s K' w' c,(LqIp l0 h1),(o4 o5:Ë),λt ht _=>ht,E'+Sk+aΘ,((LqId hSk)),xk.each t ht,(xO.of b hb),frL t ht y e,hW p0 row.ga,(jf t EW).bx,#[M,aø,k],some (cK st),decide (n<0),some (wr rd),some (wr ed),some (wr rc),a4 T.Crew.cl,bR pL _ _ o4,some (wb eb),l.I c≤r.I c,l.N c≤r.N c,less x y=true,Ι,SB kd a₀ st,(LqNp hn hxn),Nat.zero_le _,SB kd a₀ bG,(by exact ha),Κ,[_,_,_,_,_,_],Á - (wX+1),(b5.trans hp),Nat.le_refl _,(by exact hi),Q (ù) st,Nat×Nat×Nat,a.size+b.size,a.extract 0 i,b.extract 0 j,vq less a b x,vq less a b r,aS (h x g hr),(by exact h1),at_+ms.length,(sa,na+nb,pw),Nat.le_succ _,lo<=a₀.size,(.inl õ),fI Unit×Unit,s.heap.get? a,IntsAre vs ns,Value.int i t,Value.str x t,Μ,u=dø,List (Str×V),.type aϑ,a<h.objs.size,aÐ×gg×fi,some (.own a),fs.map ć,.type aϖ,X.H₀ b=none,some bę,s.heap.get? b,(_G b o e hx),V ->Ş,(.Name x pos),absurd rfl h2,cZ #[H1,I1,q],some ł,ip X.K H a xs,jT X.K H a xs,λf s1 q=> ?_,PA X [a,b] ta,λp hp z=> ?_,J.Pb i H x H',((0:Nat):Int),có <=j,Int ->aϞ,cV X.prog X.w,Ν,(.type "int"),some ŀ,"__setattr__",absurd rfl hy,PE X value tv,#[σ,_,I3,q2],Ξ,(.type "str"),False.elim hq,False.elim Yg,some Ń,iU N ps scope,(.builtin id),λm=>xs[i+m]?,"__getitem__",(getItem o i),#[z,H,I,vJ,q],s.heap.get? p,ip X.K H p ys,jT X.K H p ys,#[o,e,ex.2.1],"list.append",(r.append r2),vs.map ć,RelV (kV k) u,fh (aÐ×V),u=Value.ref b,l.most=some n,(σ[j]?).join,Ic.ok.GQ b hb,l[j]? =aā,iF X.K H l vs,vs.getD j .fD,Rep X.K H d x,Rep X.K H e y,(Rep K H d x),(Rep K H e y),KR K H kvs ks,(MS a b=true),(dŢ),#[c,r1.eq,?_],(m1.fresh hp),some (aŁ),kL l i=þ,xg l.length i,q (some i) M1,k= !l.isEmpty,mP (r2.ts t3),λv H2 y=> ?_,(t1.trans ts),(o'.mv t1 m1),I ß ys M3,(o3.mv t4 m4),xs.take ß,fh (Ō),Ca c b D ρ M,(dŲ),(dś),MT a b D ρ M,Hz c b D ρ M,(by simp[hz]),Int.le_refl _,look (q::r) x,#[q,hq, Å],ak (qj.mpr h),r.filterMap _,q (aϰ) M,mv (-a.1) a.2,(by simp[hi]),s.heap.get? t,#[hl▸hj,vU],#[#[_,he],hj],.tup [wi i,y],(gx l).length,(dH a).length,n (bF h).symm,some (.own b),KR K H kvs vs,(j - i).toNat,(I1.ok.hd hc),s.heap.get? Z,ms.getLastD 0,ms.length - 1,c∈cĻ,kvs.length<=i,#[_,rfl,e0,r],(ItI d o kvs),v=Value.ref d,(i - ģ),(Dv i j Ï),(i - j).toNat,λkv=>gC kv.1,(by simp[ca]),P'.map ć,Q[i]? =aŊ,ns.getLastD 0,-Z<=x /\ x<=Z,(2*Z+1).toNat,absurd rfl hx,max B (C+Z+1),kK s f (Ó),(by exact s0),absurd rfl cS,(2*Z+2).toNat,absurd rfl qq,WQ.jX p M4 M',bs.take Þ,sts.getD n [],(h.ok.on len),sts.getD i [],W.mg_of X G a,(λi=>pf P i),this i õ,m<=sts.length,(by exact hm),this _ õ,(by exact hn),[(ĩ,1)],(dϖ),(bs.map _++_),single _ _ cS,sL s p bB a P,sL s p bB b Q,bK λu _=> ?_,(bâ+2*K),Ο,vt s Z K w KP,eP s K w KP c,sN s Z E EP t,sN s Z K KP u,L0.map aθ,(fY.sm sm []),∀x∈l,0<=x,some (aε),LA s p Z w bB,bB.take ß,L1.map aθ,(by simp[hn]),-8<=x /\ x<=8,[(ģ,w)],(2*b+1).toNat,Ρ,ms.map ć,("laps" :Str),sts.length<=6,("head" :Str),AS s sts rest,"_law_script",Τ,"_law_p_here","_law_stairs",a4 T.Stair.cl,(aŮ :Str),iO z.2 n=True,(.n Ő),kp d o' e1 nd,(bR hu).trans,(jm t ht).len,(row.gp t ht),(hr.mono ⋯),(row.EV t ht),some (aś),(fY.sm qy []),(LqIp w0 hE0),(j' - (j0+1)),(LqNp afW NU),(sm.trans qy),frN (frR y e),(λz=>wi z.1),gD st (aù),wi (bI s z.1),a4 (.inr ∅),a4 T.n_Crew_p,aI mb.len ⋯,(ms.length=i),Nat.le_of_eq h,Υ,iy ->iy ->Bool,less y x=false,(.none, .none),Φ,fi ->bϹ,Χ,(model prog w),Ak lo c.snd eX,Nat.sub_le _ _,i0 i j hi iR c,(LqNp h2 LqNs),hm i j hi iR c,λi h1 h2=> ?_,(LqNp hj LqNs),(c=(none,l,r)),#[?_,?_,?_,?_],h.bb x hx y hy,(Ml a b o i j),(Mm a b o i j),(none,o,i,j,c),(di b aΩ),(di a ĝ),(none,i,j,o,c),xs.extract i j,sK e1 e2 xs ys,⟨u1,u2,u3⟩,#[Ļ,[]],Int.le_of_lt h,(Sum.inl a:cL),(Sum.inr a:cL),(cV prog w).is,u=Value.bool b,u=Value.type n,Ψ,aþ =û,fm P w H h a o,some ŝ,h.objs.size<=a,some (.nM o u),fm P w H h a u,bootBuiltins x,X.env.kindOf x,AllBare s.gens,I.ok.sI.mem hb,Hp ->VK ->Prop,Ω,St ->Ş,(EP X aj σ Q),(TP X aj σ Q),some cê,λ_ _ _=>False,pure Flow.next,λx c e z=> ?_,It ->Ş,(tn i s'.heap),k= !xs.isEmpty,ϊ,some š,fs.length<1000,(LqNp hl this),ϋ,(.type "bool"),ό,(eď),A.handled=none,(.ins C dx []),λr s' hq=> ?_,PA X aϜ t,aĴ =ă,b∈([]:å),xg xs.length i,kL xs i=ă,xs[j]? =ă,.int ys.length,(Obj.mapSeq f),some (.lst zs),DecidableEq κ,kvs.map ć,(cċ).mR,some (.ref fa),s₁.gens= #[],(eņ),yP s₁.heap H,λy hy hf=> ?_,names.lookup x,ύ,(eĚ),wpAny_noted ?_,aD #[rfl,h₃],some cć,J.Pb i H' x H2,(lH own fr σ),⟨m',hm,w9⟩,I3.cell x a ha,vs[j]? =ă,(aÂ).length,(y::ys).length,Rep.vF I h1 r1,Rep.vO I h2 r2,Rep.vO I h1 r1,Rep.vF I h2 r2,b<h'.objs.size,Mp ->WK ->Prop,ώ,eI ->Ţ,WR K H p.2 q.2,some cĖ,KR.ts aŇ r,Ok K ρ M σ H,q (.v (g i)) M,q (wb (!c)) M1,#[[],cw, .nil],(no own fr ρ),#[rfl,by simp],Pt ->Š,0<z.2 /\ z.2<p,(vs= Ļ),(xs= [aĻ]),(by size_fits),b≠e /\ b≠j,hf j ś,(bF this).symm,standAt dw.pos,n1<=own.length,(bû).map,bS (NM I.free),lW [] bδ,(argBest bt j),kK s c (é),aĴ =aŀ,[gC kv.1,kv.2],ps[i]? =some p,(as.map V.ref),decide (aè),x∉cϰ,x∈ų,(h.range p0 x),hs[i]? =some h,hs[j]? =aĈ,look c bÕ,λx hx cS=> ?_,st.sup x hx cS,λx hx hc=> ?_,eQ (ať) js,nC s sts P x n,look b=look st,eQ (λ_=>1) js,gO s sts J x n,λi=>J i++J' i,UH s p sts D r,fh (Š),(Đ).toNat,2*sts.length*w,dM js y' % p=0,(ML.of (cH _)),(bB.getD n []),dÀ+2*K,í ->c+1<=s,fr x cŔ,λu hu hx=> ?_,tc.fr u e x hx,cs[i]? =ĉ,cs[j]? =aÿ,h0 u (aC _ hu),(L.length:Int),Ps[k]? =some P,as[k]? =ĉ,ns[k]? =aġ,row.length<=17,zz ns R0 R F D,"farthest_end",[aψ,aö],"_law_at_here",(aa ē ar),Ϗ,(ī :Str),ϐ,(Ĭ :Str),(ĭ :Str),(aa ę ar),op::ų,λz=>qt _ z _K,c'.length<=B+C,(hU fR Ě),(aa ė ar),(aa Ė ar),"_law_setting",(aa Ę ar),(.n cĬ),(aa Ě ar),(by rw[e];rfl),(LqIp e0 hΛ0),cs.drop (j0+1),(aa ĕ ar),sts.take ß,sts.drop ß,(hU fR Ė),lw (ns.take i),(n.natAbs:Int),(aa (pv 9) ar),(aa aΚ ar),.inl (.inl hz),(aa aΒ ar),(mb.UP a ha).1,(bõ).size,di Ũ i,aN (wpS_get ?_),countRun' lo eX,ϑ,(.a Lq1 ñ),ϒ,(.a Lq0 ñ),(.a Lq4 ñ),ϓ,(.a Lq2 ñ),(.a Lq2 ö),ϔ,(få),ϕ,(.a Lq3 ñ),(lo+k - (lo+l)),(c=(none,la,f)),ϖ,(.a Lq0 ö),di arr bú,(by rw[bv];lia),elem' b aΩ,elem' a ĝ,(á==0)=true,(à==1)=true,∃g,bG=aϋ,ϗ,[_,_,_,_,_,_,_],(.a ñ Lq1),oW T m bą,Ϙ,(.a ö Lq0),at_+k+ms.length,s1 i j hi iR c2,s2 i j c3 iR hj,(.a Lq1 ö),(.a Lq0 ý),(.a Lq1 ý),(SB kd a₀ gZ),(Sum.inl.inj q),Paired.length r,ĺ=ą,fs.length<=1000,bĐ=ą,(yP h H).get? b,x≠ "__name__",X.N[i]? =û,ϙ,Inv X aj σ H s,(I.ok.bs b o e),(I.ok.JO b o e),λb o e hx=> ?_,(ay.mp hp).elim,AllBare s'.gens,λb o e=>aĤ,hf it ś,λh' bG sb=> ?_,(hi - lo).toNat,PI X tg iter wi,(binaryOp .Add),(compareOp .Eq),(fę),congrArg some e,"type.__call__",Ϛ,(fā),aI I.ok.Mq I.sz,λfl s' hs=> ?_,(.cons ru .nil),(.lst (xs++zs)),h1.symm.trans e,atKey (q::qs) k,cÿ<cLine,(.a ö Lq1),#[ob,h1,h2.2.1],(pre_splitW Ol),(by rw[q];simp),iU N ps aϫ,dō.2.2,S.free _ hm rfl,Nat ->bϹ,noteFrame x env,LR own.length g,#[tg,iter,iZ,0],(.cons ry .nil),(λb o hb=> ?_),bC H cώ,xs= [wi i,wi j],[x, .v (.ty T)],WR K H (gC k) v,m=xs.length - i,#[_,l,rfl,h3,k],(ps.length:Int),(fř),-dM a.2 (x+a.1),its.toArray[i]?,bÁ =ă,(ns.length - 1),.tup [Ă,x],λh2 Me lv=> ?_,bs.getD i false,decide (x=V.fD),assign tg env v,assign ki env v,PA X bÊ ta,(I.dU b _ e).tY,((k+j:Nat):Int),λh1 tk zu=> ?_,[(cĸ,d)],(by rw[he];rfl),cĻ≠ [],(.cons rp .nil),((i+1:Nat):Int),(P++ [(w,e,c)]),(ī,wr ol),(Ĭ,wr op),look bΗ x,pf (Q.take i) w,len=0 \/ aŦ,(0<=y /\ y<len),List (Ō),st.clr j g z hg,Int.zero_emod _,(.s Lq0 ö),dώ≠0,(by rw[e0];rfl),dM js k % p≠0,(.a ö Lq2),λi=>tm k aî,get i _ bÜ,get j _ aϮ,λi=>mv k aî,Nat.succ.inj h1,Q5 s b aγ n,(Rh s G).length,lc v (Rh s G) x,(Ī).toNat,gK.each i st hi,(.a Lq5 ñ),(.a ñ Lq0),(zS js #[y,hy]),(.a ö Lq3),sts'.map (cF s),(.a Lq3 ö),ϛ,oG S s p M hd L,AT hd L rl rp P,ca u.ol u.op P1,a+kN (r.take k),L.length*(E+Λ),(fΝ),bB[i]? =some pt,(λn=>pf t.Q n),sD s sts r=true,some (.int n t),((a+1:Nat):Int),((b+1:Nat):Int),(R++ [(y,v,c)]),(ŗ :Str),(rM s sts rest),["p",ð,"n"],[fϊ],Ϝ,(λ_ _ _ _=>d9),(ŕ :Str),(o1 o2 o3:Ë),(c7 Ė rfl),(c7 ė rfl),d5 p0 (jx.Jo w),#[none,rfl,rfl],(.n cψ),(.s Lq0 ñ),(c7 Ę rfl),(c7 ę rfl),eP s K' w' KP c,λz=>QD mn.lo z,t.Q.length<=100,λv' vQ Yo=> ?_,(L1.length:Int),(aŨ).map wi,gK.of (Yd bG h),hl bG (Yd bG h),(aG (3\Ę)),(c7 ĕ rfl),(b4 u Xy).trans,lo+eX<=a₀.size,(fϨ),(LqNp LqNs LqNs),(c=(none,lo,hi)),λx hx y hy=> ?_,xs.toList.drop i,ϝ,xQ less a₀ a b,.done (û,c),(none,o,i',j',c),xs.toList.take i,(none,i',j',o,c),Sg less xs lo hi,hi<=e1 \/ e2<=lo,failedOf bG=none,v₁::v₂::rest,(λq=>nomatch q),(W.instObj C dx),cã=ą,k b u (hb b n) q,List (Addr×Obj),b≠X.env.locals,Bool ->Ş,Ä ->Ş,#[σ',H',I.lM,q],{D with nx:=u D},pyNext cî,"range_iterator",(IsRange.new ..),Int ->cχ,(.builtin "abs"),(.builtin "max"),W.lookIn name od,beq_iff_eq.mpr h,Inv X aj σ H s',fs.lookup m=none,V ->Value ->Prop,(λz=>nomatch z),pure dĬ,Binds K fd ps [],(.cons rfl .nil),λb ob q=>aį,EP X aj σ Q w s,(.builtin "len"),.seq its.toArray,Rd H a š,Rd H a cý,(im kvs p.1 p.2),k==NameKind.free,X.env.kindOf y.1,Inv X aj σ H s3,A.units+60<cLine,Bool ->Ţ,Ì ->Ţ,L2.gy.ts (cE hp),q (.v aϟ) M,(.lst (l++ [y])),.dK (im ks k v1),λv H' hi y=> ?_,hk i ys M' hi hI,Ë ->Ţ,#[_,_,rfl,rfl,h],∀q∈l,q.1≠x,(aϸ).length,(dŹ:cL),x∈eű,x∉eű,mV (m:=m) (x:=x),Nat ->Nat ->Bool,λv s' e hm=> ?_,Moved.eq_with hm,(.builtin aå),i< fŠ,(Int.dvd_refl p),I.base.vE b xs h,I.base.vH b ps h,.Pass #[0,0,0,0],kvs[i]? =some kv,#[d,e1,kvs,e2,h],#[d,kvs,e1,e2,h],Rr knd h' its ps,as.map Value.ref,kvs[j]? =some kv,P.map λt=>ë,w∉eΔ,w∈eΔ,Ϟ,c9 p M rl rp a P,vx R S M o ol op,look (bÒ) x,λe=>hc bī,λe=>hc (.inr e),(Ŗ,n)::js,(P.length<=1000),yss[i]? =some zs,ϟ,sts[i]? =some st,sts[j]? =some bG,ai (λz=>hw z.1),(Nat.succ.inj h),∀a∈v,a % p=0,hI s dϕ,atC x i st hi hx,(kg (e9 hx) rfl),(bΖ - s*t),(LqIp Õ h2.1),(LqIp h1.2 h2.2),(Sum.inl u.c:cL),s=0 ->K=0 /\ w=0,(bB.length<=100),look (pf P1 w) x,(LqIp Õ h2.2),ay.mpr (.inl hb),λu hu x hx=> ?_,(Ui d (aC _ nk)),∀b∈bs,b∈bB,Pa s p w bB bs L,(by rw[B.len,e]),(h.base.of b hb),sts[k]? =some st,(zq s bB.length),(sts.length:Int),(fs:Ž),.lst (cś),∀n∈ns,LQ S n,y=x+n \/ y=x - n,cf5 p ms s v sts,n.toNat=n.natAbs,[ť,"by"],"farthest_place",(aG (bo ĕ)),decide (x % s=f),a4 T.n_Row_lamps,a4 T.n_Row_parts,PN qi (b.take i),λx hx=> .inl hx,λw hw=> .inl hw,(aG (bo ė)),∀x,iO 2 x=True,(λ_ _=>trivial),λ_ _ _ _ _=>rfl,(cŢ+2*K'),(LqIp hΛ0 Ni.1),B.held.each t EW,sM.trans (aø),(aG (bo ē)),([1, -1]:ā),a4 T.n_Crew_head,LV - d<k /\ k<=LV,pure (some c.snd),Ϡ,(ϔ),(Bf (gM+la)=true),aS (h _ g2 g4 g5),key∈a₀.toList,(gŮ),JL less a b o i j,λk h1 h2 h3=> ?_,(∃g,rf=aϋ),JH less a b o i j,(l.take j).drop i,(arrOf s).extract,(by exact LqNz c),#[pl,rfl,B',hp,R],(cŵ).size,Array.Perm.refl _,List (List cL×V),cã=some o',sc.names.lookup x,Vis X.env.scope x,s.heap.IsCell c v,Loc X.env.scope x,σ.set i bę,{s with heap:=h'},Inv X aj σ H' s',isTrue e X.env nA,starEach es X.env,λc H1=>Q (!c) H1,Nat ->dû,(eval iter X.env),(sb.2 b hb).trans,(.Name aϖ p),(λb u q=>aį),.Attribute o f jU,standAt f'.atName,#[[],H,I, .nil,h],(λb u e=>aĤ),I.dU.fresh õ,Str ->fI NameKind,((p,w)::bĶ),s.heap.update p f,SeqAt.EqAt.same _,.ref h'.objs.size,(λ_ _ q=>aį),(bľ).isSome,valueAt (q::qs) k,X.A.units+1<cLine,.Subscript o i jU,(dB H p bł),(A5 s.heap I.big),λ_ _ h'=>h'.elim,(RR gh Lk.locals),T.obj 0 _ st b hb,turn i n ys H4 w4,T.obj _ _ RZ b hb,Nat.ne_of_gt z.lt,cÿ+n<cLine,.cons ⟨e,r⟩ t,(um M p (aŁ)),H a=some (.dK xs),ρ.set i bŋ,M a=fŁ,q (wi l.length) M,λy=>decide (y=k),(um M p bł),(bŘ).isSome,Dr (um M p o) d l,.inr (by simp[h]),(a.2++mv a.1 b.2),(xs= [Î,gL a]),bų.2.length,#[?_,Ź],.type dĚ,(lv.2 b hb).trans,#[#[u, ⇑Me],?_],(.lst (l.map eW)),f (x+e*cĳ),e*((m+1:Nat):Int),(.s Lq0 Œ),(.a Lq0 Œ),gĔ eW,X.mg ÿ =none,(.Name ÿ p1),.tup eξ,cN s st cĹ,(kvs[i]? =some p),some (.dK (f8 a)),a.length+b.length,c9 p M' rl rp a P,P.length+Q.length,(.a Lq0 Ņ),(.a Lq2 bĺ),λ_=>#[h,hh,Ð],⇑((bο).2),cϴ aŧ,m∈fŻ,(w,z.1,z.2*n % p),ϡ,Sr s p st c len D,-Y - 1<=x /\ x<=Y,look b (x - s*lo),fh (eϏ),(bs.length+(1+i)),(J (bs.length+0)),⇑((aL.mp k1).2),(.g ι),tm j.2 (mv j.1 q),(.a Lq2 Œ),fE s p G bΨ,fE s p G bΞ,(ī,wr t.ol),(Ĭ,wr t.op),some (.dK aζ),sL s p bB t.b t.Q,(λh=>by cases h),decide (a.c<=b.c),∀t∈L,Wt D t.b,∀u∈L,0<=u.len,decide (x≠À),(λz=>D z \/ z=y),some (.dK (lG R)),(dÆ,Î),Ux p ms s v sts w,.tup (sts.map uk),["p",Ĭ,"n"],a4 T.n_Stair_foot,λd o' e1 nd=> ?_,P'++ [(t.1,e,c')],(bJ jD ē aA),(-gģ),FU _ _ (bϪ),(oe ĕ aA jt),Eg p0 hn ht dP jk,fÌ+2*K',[_,_,_,_,_,_,_,_],"_law_spots_here",(Nat.mod_lt _ hm),[aö,ť],Int.ofNat_le.mpr h,zJ lo c.snd.fst eX,(hì),Nat.le_trans hi iR,Ϣ,(.a ö ñ),ϣ,(.a ö ö),(.a ñ ö),(.a ñ ñ),(cÈ).take k,(cÆ).drop k,a.extract i a.size,b.extract j b.size,(j+1==b.size)=true,i<xs.toList.length,(UM less a b st N),aN (wp_elem hj ?_),aN (wpS_modify ?_),.inl #[x,c,rfl,hr],(UL less a b st N),xs.toList.take at_,(bõ).extract,o.data= cż,fh (fă),tupleKind bĎ,k _ _ ũ e,k a _ ũ e,H c=gÆ,Str ->eĒ,env.cells.lookup x,⟨o,es,ep,ho,r⟩,(λ_ z=>nomatch z),(e1.trans e2.symm),hl j y v' e1 e2 e3,Inv X aj σ' H' s',Ϥ,(model X.prog X.w),(cR xs its.toList),H a=gÑ,(by rw[z];show hb),(PIE X aj σ tg R),I1.dU.fresh õ,X.mg aϖ =none,V ->gÎ,ϥ,(dI I q ś),(compareOp .NotEq),(compareOp .IsNot),(by simp![aU];lia),(W.plainGet_of hg),W.makesIn K C=true,s.heap.objs.size+1,dÿ=ă,(.type "NoneType"),H a=ϊ,H a=some cý,(.ref x::bı),Binds X.K fd ps ds,oy I1 ea c hm l ?_,gi items.size 0 lo,(aD #[_,rfl,aD h]),(by exact LqIw h0),H p=gÑ,(dB H l cć),H l=gÑ,λh' GV hs=>h _ ?_,starEach [e] X.env,h _ _ cù ?_,(ns.map WData.int),fh (Str×NameKind),b<s.heap.objs.size,R dŎ s₁,zs.length<sizeLine,Nat.ne_of_gt I3.lt,Result ->bϹ,cÿ+50<cLine,X.A.units+60<cLine,#[aÔ,H,I,rfl,q],(args_list_sort _),W ->gĀ,vs.length=l.length,λj x u e1 e2=> ?_,Ϧ,(hĠ),Ok K ρ' M' σ' H',k b M1 H1 h1 t1 m1,k _ M1 H1 h1 t1 m1,h1 p fŀ,(h p eś),(.lst (l.set j z)),(eŢ).map,(aϲ).length=n,M p=gò,M d=ϊ,ai (h q ś),fX aŗ bū,λe=>hn.1 (e▸hz),0<=z.2 /\ z.2<1000,(by rw[c8];decide),(.lst dż),(λi=>dſ),l<s.heap.objs.size,A.in1.handled=none,wpAny_loadPart' hl,(.Tuple vW x1 pos),i<its.toArray.size,i=its.toArray.size,pure (.done .next),λa=>fš,(eδ).map,l.length<=sizeLine,lN f e n cĲ,I.base.sJ b o' u h,dB H d (.nM o v) c,#[xs,M,q,r,m,h4,k],gh.toList.length=n,(é).map aŧ,(xs= [Í,cK st]),cN s pat cĹ,(show g=g' from e),.cons ⟨e0,r⟩ _,dB H d š c,"dict.update.loop",ps.length<=ġ,(zu b o (aq _ eb)),ag.mpr dΡ,(by rw[z];show aQ),ag.mpr dΤ,(vx R S M r rl rp),(c9 p M ol op b Q),c9 p M' rl rp c P',Int.lt_trans y0 y1,f+h*s - cϳ,tl.Perm (wA p n P),v.length=gs.length,C9 (cϸ).ok,ag.mp (aL.mp k1).1,k2 _ (Kf js y' h2),c∈sts.map (cF s),KP+s*fΓ,look (pf t'.Q w) x,w∈t.Q.map ć,(um M3 hd (.dK D)),Int.le_trans h1 h2,(t7 ∅ h o hw hl),(.lst (cŘ)),(sts.length<=1000),(.a Ē ñ),fX (lG R) bū,[į,ŗ],[bî,ŕ],ϧ,"_law_stride_here",(Ϗ,l),a4 T.n_Stair_lamps,a4 T.n_Stair_parts,a4 T.n_Stair_first,(ϐ,u),(gņ,f),(by rw[e];show U6),(by rw[z];show U6),ag.mpr #[t,QE,rfl],(aa dÉ ar),(yN.mem_iff.mp _T),(aa aA dÊ),[į,"turned"],(2*(Zm+1)+1).toNat,eÐ aŧ,(.lst (cţ)),Ls.map λt=>wi t.c,(by exact LqIm n0),List.range n.toNat,lY a.1 n.toNat a.2,(by rw[av,aJ];rfl),(cś).length,a4 T.n_Crew_stride,a4 T.n_Crew_stairs,getElem?_pos xs i h,fI Bool ->jo ->Prop,λi j hi iR hj=> ?_,(λi hi Q' hq=> ?_),MI less al bl o i j,MH less al bl t i j,modify λs=>dS s mg,vo λ_=>vo ķ,aS #[hg,x,_,rfl,hr],aS #[Gz,x,_,rfl,hr],DI xs at_ ms.zipIdx,(eĆ).size,vs.length<=sizeLine,Ϩ,xs.length<=sizeLine,o.data= .dict es ep,Mod X.K X.mg X.base,s.heap.objs.size<=a,nV X.prog X.w H' h',assignEach es X.env,(some (cς)),(Inv X aj σ H' s2),λb hb=>dĜ,(Ġ - aϝ),[s1.heap.objs.size],b=s1.heap.objs.size,⟨x,H1,I1,r1,q1⟩,Dw s.heap x dx C mA,ns.length<=sizeLine,some (eĐ),vs.length=ps.length,(dB H1 dx bē),us.length=ps.length,(.Attribute o m f'),ah (ko hs pl pu ?_),(by rw[df];show hw),aI (si xs lo hi) hz,ys.length<=sizeLine,(cΙ).length,λz=>e (h1.trans z),(atKey xs k).isSome,kvs.length<sizeLine,h w' _ cù vJ,(cċ).getD rd,⟨y,H2,I2,ry,q2⟩,h.Ns mainGlobals mg,Hf K x qual st f fd,lH own.length fr σ,relabel scope X.env,([]++jA fp s6.heap),lg (I.ok.cellsOf S),Nat.le_max_left _ _,vs.length=ks.length,(.builtin bŉ),(by rw[hl];show YT),.lst (NI.map V.int),sc.names.lookup y.1,(dŢ).trans,(hϛ),λ_ _ _ _ h=>h.elim,(l.length<sizeLine),M3 p=ϊ,M4 p=gò,ok i M' H' ts m' kp,M=um M1 p cć,Nat.min_le_left _ _,Int.le_of_lt ü,λq=>decide (aã),tg= .Tuple vW x1 BS,s1.heap.objs.size+1,Keeps (λi=>i<n1) g,cϠ*n.natAbs,λh=>hZ (W.sub _ h),ah (wpAny_letGo ?_),(by rw[hl];show hz),(0<=x /\ x<Ī),ns.length<=Ő,st.length<=Ő,∀t∈P,GD p ì,Du s p b f len foot,∀t∈P,Wt B ì,(look a (f+m*s)*tn),(dP.mem_iff.mpr hh),gϥ≠0,LqIk s0 dύ,(lo,a)::dϓ,J iÆ,fE.gO jm J _ õ,(.a Lq0 (.m 0 Lq1)),(.a cŬ Lq1),(.a cū Lq0),(.a Lq1 cŬ),(.a Lq1 cϹ),λt=>decide (að),(.a Lq0 cū),(.a Lq2 dÂ),x∈F0 \/ cœ,λu hu x hx gQ=> ?_,(i2.each t ht).keep,(λ_ h=>by cases h),FY.same λd nk=> ?_,Ui hd cŔ rfl,L0.flatMap (·.adr),kN (L.map bϙ),[(ě,aϢ)],LqNk Hu (Ne.symm e),λt ht=>(De t ht).2,["p",ð,bë],["p",ť,"n"],[bϦ,ŗ],"_law_members_here","_law_pattern_here",(big (by exact hl)),a4 T.n_Stair_length,(hÕ,g),λc' gc' uL TQ=> ?_,(by rw[z];simp[ca]),(cĚ).isEmpty,Int.le_max_left _ _,(λj h=>by cases h),hN _ _ #[_,rfl,rfl],Nat.le_trans hl abV,[į,Ŧ],(Nat.not_lt_zero i),(λt h=>by cases h),Nat.le_trans hPl hn,(ag.mpr #[t,sG,C4]),(cs.length:Int) - 1,(λ_ _ _ _=>ĕ),(dÓ++ [st]),decide (bI s z.1=c),some (wi cĹ),[W.tup [wi b,wi w]],bs.weak dŸ,((l.s r).s ñ).z,Keyed ->Keyed ->Bool,Nat.min_le_right _ _,(Bf (gM - la)=false),(i+1+1==a.size)=true,o++a.extract i aÈ,(by exact LqNk hi c),kindOf (dS bG mg)=kd,λr g hr=>fin r g hr,Runs less xs l lo hi,(eą).back?,(.done eĉ),xs.toList.map aď,∃t,u=fþ,o.cls= fā,kvs.length<=sizeLine,bS (hm b _ q λz=>z),X.env.cells.lookup x,X.base.get? b=ą,fĉ=ą,λb o e n hb hx=> ?_,(ha aj s σ H _ I h),(op==CmpOp.In)=false,(h aj s σ H _ I hw),(its.size<=sizeLine),(he aj s σ H _ I h),(.Subscript o i pos),(ho aj s σ H _ I h),(∃xs,ip K H1 a xs),(∃xs,jT K H1 a xs),(false,eĜ),(hi aj s σ H _ I h),λi j=> .int aϟ,kvs.length=vs.length,(if k then 1 else 0),W.hasDictIn K C=true,some (fĚ),W.plainOver K C=true,ϩ,(iĘ),(.Attribute e f pos),(hv aj s σ H _ I h),(false,eě),(∀v,(x,v)∉binds),scope.names.lookup y,Int.natCast_nonneg _,IsTup s.heap t items,HT.gi xs.length 0 lo,(if b then 1 else 0),(xs.length<sizeLine),λkv=>(kV kv.1,kv.2),Calls.spliced_nil ?_,(λv _=>v= bĤ),dq X own fr N' scope,∃m,m<n /\ I m s₃,(by rw[z];show cq _),X.A.in1.handled=none,vs.isEmpty=l.isEmpty,.cons cě .nil,Nat ->ώ,(Ok K ρ2 M2 σ2 H2),(eű).Nodup,s.heap.IsTuple t its,(by simp[TX,aZ hae]),s.heap.objs.size≠e,Nat.ne_of_gt (aM he),(Nat.succ_ne_self _),List.range bs.length,λi=>gϕ,q (wb (cį)) M,pw p s (p - 2).toNat,(.a Ņ ñ),starEach [b,c] X.env,(I2.dU.fresh õ),bS (NM (cϪ)),(false,eĝ),(cĻ).Pairwise,o.data≠ cż,Rr knd s.heap its ps,(false,eŐ),(eΔ).Nodup,um M rl eΓ,fY M M' (ų),(eΗ).Nodup,(λh hh=>nomatch hh),(f+g*s - cϳ),(.s Ņ ñ),LqIk s0 (Ne.symm hs),(.s Œ ñ),yss.length=ws.length,gO s sts J x m % p=0,bŤ - cŊ,∀a∈v,dϑ,Q5 s g.1 g.2.1 aï,bs.length=sts.length,(Δ).Nodup,(eϟ++ [a]),o.perm.mem_iff.mp ht,(dϣ).row.ga,(dϭ).lookup,["p",ŗ,aõ],[aψ,"lap",ð],(λM6 s6=>s6 _ _ ha),λp ms hp h1 h2=> ?_,PN qi (b.take ß),some (.ins Cr dr zv),some (.ins Co dO fs),some (.ins C' d' GI),λv ms hv dP jk=> ?_,#[by omega,by omega],#[none,none,rfl,rfl],Nat.le_trans this Yi,LU.lJ.held.each t sG,E'+i*ı+ı,EP+i*ı+ı,[ĭ,"p",aω],2*(eÓ)+2*nI,(-n).natAbs=n.natAbs,.inr #[n,hn,w,hw,ez],[ð,"lap",aψ],((b.s a).s (r.s l)).z,(.a Lq2 ο),(.a μ Lq1),(mirror_perm _ _ _ _),(.a Lq3 eæ),(.a Lq1 π),(.a eè Lq2),(.a υ Lq3),(.a Lq3 ξ),Bf (lo+(rL - lo) / 2),al.Pairwise Ś,bl.Pairwise Ś,α ->StateT σ Sem β,(.a ξ Lq3),∃g,dS bG mg=aϋ,(.a Lq2 ι),(.a eõ Lq2),(c=(none,o',i',j',d)),(.a ι Lq4),(.a ν Lq4),Ϫ,(.a ι Lq2),(.a eè Lq0),(.a Lq1 χ),(.a Lq2 (.a Lq4 Lq3)),Nat.pos_of_ne_zero c2,(.a Lq3 τ),(c=(none,i',j',o',d)),(.a eæ Lq6),(.a ψ Lq2),(.a ψ Lq4),(.a Lq0 ν),(.a Lq1 ς),(fϷ).size,(.a π Lq3),(.a Lq2 eè),(.a Lq4 ν),(.a Lq0 τ),(.a Lq2 ς),(.a Lq2 eõ),(a==sysModules)=false,∃u,h'.get? e=þ,Value ->Shared ->Prop,σ[i]? =fĈ,aI I.ok.Mq I.ok.above,I.base.there b o e hx,λi x v e1 e2 e3=> ?_,λz=>(Mf _ z).2.1 rfl,I.mod.glob.keeps I.bk,(.UnaryOp .Not a pos),(Ϩ),(.Tuple [a,b] k2 pt2),ah (wpAny_standAt ?_),#[m',hm,σ3,H3,I3,w3],∀b∈fp,lq X aj H b,(∀b∈fp,cæ),s.heap.get? it=ą,Int.ofNat_le.mpr this,#[_,Ŀ,rfl,rfl],.ref s.heap.objs.size,ϫ,Ä ->gÎ,(intBits_le_64 h1 h2),sv X (compareOp op) r,if i<0 then -i else i,λw hw=>h w (aC _ hw),((gi n 0 lo:Nat):Int),((gi n n hi:Nat):Int),HT.gi its.length 0 lo,(by simp![aU] <;>lia),(.a Lq1 ν),λkv=>decide (aľ),decide (p.1≠k)=true,decide (q.1≠k)=true,(iϝ),tupleKind_room_in1 hu,∃q,cä=aŀ,fh (V×V) ->Ş,d.params.defaults= [],scope.kind= .function,(iϣ),s3.heap.get? b=ą,b≠s3.heap.objs.size,s3.heap.objs.size≠a,iF.inj I l _ vs hr qP,Rep.inj I _ _ _ Ue Mj,(ks.length<=sizeLine),Ì ->gĀ,a6 (by exact LqNz hj),ρ[i]? =some bŋ,(r1.ts (dţ)),(h p (o.hp.fresh hp)),(M2 p=ϊ),#[cĠ,m,d,hd,r],(LqNp (LqNt f7) LqNs),(ts.trans t3).trans t,(dů).trans t,∀M,aϳ ->aō,Ϭ,(Int.self_le_toNat _),(.a Lq0 ξ),(.a Lq1 υ),(bŬ).map ć,ai (λe=>h (qj.mp e)),((q.1+b,q.2)::mv b r),(cϠ<=ġ),(by rw[aE,ao hi];rfl),.type "StopIteration",wpAny_pyIter_tuple hL,aD (And.intro rfl h0),(∀b∈YY,cæ),(.a Α Lq1),((n.toNat:Nat):Int)=n,(Int.natCast_add _ _),(.a Α Lq2),(.s Α Lq2),(.s Lq0 ξ),⟨xs,M,q,r,m,h3,k⟩,(List.range' k m).map,(LqNp (LqNe hk) LqNs),λv2 h2 Wa GG Ht=> ?_,(cĻ).headD 0=c,(List.filter_sublist),l.Pairwise cŸ,Int.lt_or_eq_of_le hs,(.tup [kV kv.1,kv.2]),codeAny_builtin uX ?_,(λm p=>eω),(λm p=>kq m p.1 p.2),some (.dK (f8 ì)),(Q.take i).map ć,Int.ofNat_lt.mpr this,(b - (len - 1)).toNat,Int.lt_or_eq_of_le s0,(.s ι Lq1),(fŴ).Nodup,(.a Lq0 eŴ),look a bØ*tn % p,(.a Lq2 eé),(LqNp (LqNe q1) LqNs),yss.flatten=tl.map nF,kg h.HY fζ,sts.getD t.1.toNat [],W.codeIn K cdv q=true,(.s ι Lq2),(.s eε Lq1),(Int.ofNat_le.mpr p2),∀y,dM aî y % p=0,gO s bs J x bs.length,cĽ /\ Đ<h,λst=>gϹ,look t (Ď+k*s)=0,(.s π Lq1),LqIk this dύ,(gĴ - dr),Zu s Z K w KP c a P L,(LqIp (LqIe df) h2.2),(λ_ _ h=>by cases h),λx hx=>h x cŔ,cs.Pairwise cĩ,[(Ĥ,q,bË)],(λt ht=>(De t ht).1),(.a Lq0 eυ),(.s Lq0 eŴ),∀n∈ns,dϪ,-8<=y ->y<=8 ->nr R y,["p",ŗ,aω],["p",cş,aõ],(bJ gV ĕ ē),(bJ eV ę ė),a4 (.inl dĲ),(λd _ h=>by cases h),a4 (.inr dĲ),(LqIp z0 (LqIp z h9)),(λt ht=>by cases ht),(eņ).length,dP.mem_iff.mp (au TM),hN _ _ #[_,_,rfl,rfl],.lst (eÐ wi),(gŔ).take,List.mem_flatMap.mp e,#[z.1,s,rfl,s0,s1,?_],gR (by rw[aE,gD];rfl),#[_,inferInstance,?_],(bJ fS ė Ė),(bJ gV ē ė),some (wi dϦ),([1, -1]:ā).take,ì++ [((b:Int),w)],StateT jo Sem (fI Nat),(di Ū aĂ),(di Ū aą),(di Ū aĆ),(di cũ aĆ),(.a cū ñ),(.a cŬ ñ),(Nat.le_max_right _ _),(jĂ),less bĀ bā,(JL less a b o' i' j'),(JH less a b o' i' j'),Nat.le_of_lt cÀ,(jČ),∃t,u=Value.bytes b t,∃t,u=Value.float b t,List.range h.objs.size,base.Ns mainGlobals mg,λj y v' e1 e2 e3=> ?_,holding [v] (truthy v),hb aj s1 σ H1 Q I1 q1,Inv (X.vD E) aj σ H s,.ref s1.heap.objs.size,∀v,o.data≠ .cell v,∀b∈fp,eĦ,W.isFn K ŀ=true,(cö).map ć,(keywordEach [] X.env),some (.nM o cê),starEach aϜ X.env,λb z=>absurd z (XA b),scope.names.lookup y.1,ϭ,(jī),(.Slice lo hi none p2),.ref s3.heap.objs.size,(its.toArray.size:Int),(·.setIfInBounds j u),(Q (gä) H),its.length=its'.length,ns.Pairwise cŸ,W.kitOne K t cą,Nat ->hğ,(dŰ).trans t5,ts.trans (dŰ),(l.map wi)[i]? =û,List.getElem?_range hi,vL (kL l i) λu=>q u M,YZ xs keep g b D ρ M1,⟨fŔ,hp⟩,(LqIp this ŭ),(pat.length<=Ő),Heap.SameBut.update ..,X.mg dĚ =none,λh2 he hj hsz hk=> ?_,#[by simp,dä],σ7[j]? =fĈ,λa=>(dH a).map aŤ,(xs= [Î,gL a,wi n]),starEach bÊ X.env,(if b<a then b else a),(if a<b then b else a),ms.Pairwise cŸ,∀x∈é,c<=Ď,(cĻ).getLastD 0,um M1 x gÜ,look bΘ bΙ,Int.add_comm (eQ _ js),s=0 -> ∀j∈js,j.1=0,fF (iÀ),ys++(bs.take j).map eW,W.nsIn K mainGlobals x,(eΚ).flatMap,(LqIp bĨ ü),lc (v1++v2) (g1++g2) x,alo<=z.1 /\ z.1<alo+an,(λi=>J (bs.length+i)),dM fυ y % p,dϗ+y*s - s*sh,(kg bÚ (ND.on k)),vi _ js k eϗ,nC s bB Q Ŵ n,∀x∈t.adr,x∉u.adr,gĴ - t.len,M x=some (.ins C d fs),(.lst (cϴ wi)),∀t∈L,t.len<3000000,λt ht=>eϧ.2,(LqIp h1 (LqIp h2 h2)),⇑(List.find?_some e),some (.lst (E.map wi)),{a with wt:=a.wt.up l},∀st∈sts,Wt 7748 st,[aψ,"p",cş],Ϯ,d4 (bϤ) bϤ,(gU ĕ ē rfl),(gU ĕ Ė rfl),(λ_ _ _ _ _=>trivial),(by rw[aý];show av),frM d (OK d (aC _ hd)),(by change _<_;decide),M3 d=some (.dK aŗ),[(Ĥ,q2,bË)],(by exact LqIv d1 rfl),(.a bϯ bϯ),(Nat.le_trans hL8 hp8),(sm.trans PL).trans FU,(λt ht=>(fin t ht).1),(λz:Ō=>wi z.1),0+((i'+1:Nat):Int) - 1,(aa gŘ ar),yH (bϤ) bϤ,(by split at Ow<;>lia),(by exact LqNv rl rfl),(by exact LqNv f6 rfl),(by rw[aH _C];show hu),#[rfl,_,_,rfl,g2,g4,g5],(List.drop_sublist _ _),o++cÉ++cÈ,(List.take_sublist _ _),b.extract Þ aΥ,(hó).drop,(Nat.pos_of_ne_zero c1),eã=pl.toArray,min (a₀.size - lo) mr,iΞ - 2,λU0 z B5 p5 R5 o5=> ?_,z.sameBut hs (Uw y c e),(op==CmpOp.NotIn)=false,(jϓ),(a_ _ (a_ _ (gw hb e))),{s with toks:=s.toks+1},(if j >i then j else i),s.heap.push W.emptyDict,H a=iϑ,(.ins C dx (kr f y fs)),(.builtin eĮ),CE outer P w H s Q u s',(aD iġ),q _ (hΡ),(if a then 1 else 0)==b,H s.heap.objs.size=none,(atKey xs k).map aď,ip K H a gì,s₁.heap.get? b=ą,List.replicate own none,#[by simp,λi u e=> ?_],(Ţ) ->Ţ,#[vs,e.trans e1,r.ts t],a ρ M λx M1=>r x M1 q,(o.mv fľ m2),pQ cdv A outer s H E hr,(cġ).filterMap f,some (.lst dŧ),some (.lst (ps.map cx)),I.kept (t':=s'.toks) hk,wpAny_pyIter_enum he ?_,some (.lst dν),q (gx l) dū M1,letOwnedTupleGo tg it v,letOwnedTupleGo ki it v,I1.kept gι,q (.tup eŚ) M,[.ref I, .none, .ref Z],List.foldl _ a r∈a::r,fF (iŗ),(if s >1 then s else 1),PySem.KeyKind prog w κ,(kvs.map λkv=>kV kv.1),λp=> .tup [gC p.1,p.2],.inr (.inr dΡ),λi j h g Yy hi hj=> ?_,cĽ /\ Đ<len,look b (x - cϳ),tn*look a (f+t*s) % p=1,Du s p b f (t - m) foot,some (.lst (tl.map nF)),gO s sts J x sts.length,F5 g.2.1 (v.take aï),λg:eϏ=>aï,hx (by rw[eb,e,bP];rfl),ms.Perm (kK s c (Ó)),Int.lt_trichotomy u.c c,aH (λz=>nd (ae.mpr z)),(Ó).length<=Ő,fE s p (eϟ) f,bM.mp o.z8 i j g1 g3 iR,some (hš),(.a ö γ),cf7 p ms s v sts w rest,(look c (aŜ)+z.2*n),W.tup [wi t.1,bψ],(λu=>decide (u.1=t.1)),(aa hÙ ar),λr M1 r0 r1 D1 b1=> ?_,[į,Ŧ,"n"],hN _ _ #[_,_,_,rfl,smN],(aa hé ar),λj M2 j0 j1 D2 b2=> ?_,ϯ,(.a ι ñ),ϰ,(.a Lq1 ϓ),Nat.lt_of_le_of_lt iR hj,(.a Lq2 ϕ),(.a Lq0 ϓ),ϱ,(.a Lq0 ϑ),(.a Lq2 ϒ),(.a π ñ),(by exact fê),(.a ñ π),ϲ,(.a Lq2 ϑ),#[rfl,l,l,rfl,hrk,yO,Vg],(.a π ö),(.a ξ ñ),(.a ϒ Lq2),(.a Lq3 ϒ),(.a ϑ Lq2),ϳ,(.a ϒ Lq1),(.a Lq1 ϒ),(.a υ ñ),(.a ψ ñ),(.a ς ñ),(.a ι ö),(.a Lq3 gŤ),(.a ϖ Lq1),Prod.ext (AM _ hm).1 rfl,gÀ=Sum.inl b,e=x \/ H e=some bē,s.heap.Ns X.env.locals m,(I.base.free b o e n hx),Heap.SameBut a s.heap h',(hb aj s1 σ H1 _ I1 q1),behindInMarks op b=false,Nat.le_trans (LqNe e) hz,(ha pos aj s σ H _ I h),∃u,us= [u] /\ ļ,W.plainGet K C name=true,W.findIn K Ń name,(show False from r).elim,(.a ϑ Lq0),W.codeIn K cdv qual=true,λb o e=>(e0.bs b o e).1,ah (tupleItemsOf_ ht ?_),ah (wpAny_typeOf hTs ?_),show aϢ >0 by decide,h'.get? s.heap.objs.size,(.a ϓ Lq0),s.TypeIs ł aı,(ho aj s1 σ H1 _ I1 q1),([]:eł).length,(he aj s1 σ H1 _ I1 q1),(hf aj s2 σ H2 _ I2 q2),mg d.name=gê,W.keepIn K ŀ=true,(λy hy=>h1 y (aC _ hy)),env.kindOf n==cδ,pure (ForInStep.yield r),(.builtin fĬ),SeqAt.EqAt.of_refs KU ?_,hr.items rv (j:=j) ⇑g1,qP.items FX (j:=j) ⇑g2,iN X.K X.mg x ps st f fd,λc o h=>b c o (a c o h),M b=ą ->M' b=ą,(iϭ t3),a ρ M λc M1=>q (!c) M1,q ((bŘ).getD z) M3,((dţ).trans ts),(hk ß ys M4 f7 h4).2,#[_,_,rfl,rfl,rfl, ⇑h],#[l, .inl #[_,rfl,h3],k],if aã then q.2 else 0,ϴ,p=2 \/ p=3 \/ p=5 \/ p=7,(.tup [.int r.1,uk r.2]),s.heap.IsTupleIter j t i,dB H p (gϓ),#[_,he,λv z=>nomatch z],I1.kept (t':=s1.toks) hk,(ip K H l (dι)),k'<k /\ Z Þ k' ws H9,(.a (.s ö Lq0) Lq0),∀ {b},ľ ->aá,I.base.free b u h1 h2 h3,P (argBest bt (n - 1)) v,ah (wpAny_letGo aϒ),iŗ≠ [],(.a Lq0 gŴ),(iϭ ts),(.a Lq0 ϕ),(.a Α ñ),cĽ /\ Đ<=len,(.a υ ö),(.a ö χ),nq s p sts D Y pat a P n,λb=>(b,bÝ,bÞ),(.a Lq0 gů),wW hp hk0 _ hv.1 hv.2 h1,if bá then t else u,ag.mp (qq.mem_iff.mp hm),(Hu u hu q).up h.KY h.ZA,fE.of (hŖ),f=fF ((du b).map aŧ),LL S s p bB M0 L0 hd M L,((2*L.length*w:Nat):Int),(λt ht=>eϧ.1),some (.lst (row.map cx)),y8 p s ms v w z sts rest,(lw (Ρ):Nat),some (hϱ),[aψ,ī,Ĭ],(bL iX ē aA Ĕ),((Int.le_max_right _ _)),s3 _ _ (by rw[aH T8,av]),[į,Ŧ,"by"],(jf t ht).up P0.KY P0.ZA,(by exact fŔ),(bL wS ė aA Ĕ),(.ins A.eD dx (bê)),λst h=>aI (hL st h) ⋯,(s5.trans (jX.nb b6)).um,eã=eä,(by exact fϨ),aN (hb _ ū _ ?_),Sg less arr base (base+n),#[this.1.trans e_,ú],LE less bā bĀ,((jυ)),(eĆ=pl.toArray),#[z.1,ht _ _ z.2.1,z.2.2],iĆ=aĘ,X.s₀.heap.get? b=ą,a7 (b7 aĚ I.ok.above),I.base.slot b o e n hb hx,PE X fČ (MJ i),PE X fČ (tC v),(.Compare a [op] [b] pos),hb wh aj s1 σ H1 Q I1 q1,es.toList.any (·.refKey),beq_eq_false_iff_ne.mpr h,H1 s1.heap.objs.size=none,(us++ds).length=ps.length,(Ĥ+aϤ*1).toNat,V ->ϫ,(by rw[hk];show#[_,I',q]),Nat.le_trans cĈ hz,dB H a (.dK (cΙ)),(by rw[l];show cċ),(λf vs=>PySem.call f vs),λ_ h=>absurd h ś,fr.filterMap eŎ,pure (ForInStep.yield ok),bX X N' scope cl fp s3 H3,k _ M1 _ H1 h1 t1 m1 WR.v,a ρ M λxs M1=>r xs M1 q,⟨p,e,⟨kvs,hp⟩,h1⟩,a ρ M λ_ M1=>cϘ,fė /\ j<aĥ,List.length_pos_of_mem hk,.tup [.int q.1, .int q.2],(ip K H l gì),(fť<=Ő),Manifest.signature? aå,aL.mpr #[h.at_, ⇑h.own],Int.emod_add_mul_ediv x s,Around.under_plainId kQ _,(fű<=Ő),(xs= [wi i,wi j,wi Ï]),(M s=some gÜ),if v=w then c else pf P v,(λsh=>look b Ŵ),(ms.Perm (fŻ)),(iA aŻ z.1).length<=n,(λsh=>look t Ŵ),(λsh=>look P Ŵ),(eϢ).row.mem gQ,(bç).length=L.length,∀x,S x -> fΡ,["p",ŗ,"patterns"],jc (k f M (cĢ) hf),∀d,M3 d=none ->bϩ,0<=hş*(D+s),iæ - t.len,Z+8*(iæ+1),(di Ũ cŧ),(di Ū cŨ),((LqNt (Nat.le_of_lt hh))),less (gŨ) key,less key (gŨ),List.Perm.trans ?_ e1.symm,List.Perm.append_left _ ?_,o++(a.extract k i).reverse,(failedOf (<- get)).isNone,ah (seqEpoch_at TF rfl ?_),{s with heap:=h',toks:=t'},dE jĕ ?_,{s with heap:=h',toks:=tk},dE (hl aj s σ H _ I h) ?_,(by rw[e];show True.intro),.ins C s.heap.objs.size [],(H1 a=iϑ),W.keepIn X.K ŀ=true,s.TypeIs cĆ "slice",Builtin.Tuple.tupleExact _,its.toArray.size=xs.length,(by rw[hj];simpa using ew),(sliceBounds lo hi none n),#[#[o,e,ex.1],λa e2=> ?_],(f'.endLine==gX.line)=true,H b=some (.tup (k.map kV)),#[dd.typeIs,λb q=> ?_,hd],env.scope.kind== .function,hw _ x H6 _ (step x H6 y6),ah (wpAny_standAt (aÖ)),λ_ s'=>SP X aj D .next s',(λM'=>M' p=fŁ),(ϴ),List.length_pos_iff.mpr hn,List.mem_iff_getElem.mp hx,its.toArray.size=ns.length,its.toArray.size=bs.length,foldedSetIterable dw env x,(.s Α Œ),(.a hϬ Lq2),ah (eZ iġ),H d=some (.nM o š),{t with heap:=h',toks:=tk},(é).Pairwise cĩ,bS (ne z hú),bS (ne r hú),some (.lst gĜ),(∀t∈P,eΖ<=B),List.mem_iff_getElem.mp hm,qo s p f len b a hs i c js,(List.map_eq_nil_iff.mp e),look bΗ (x+m)*tn % p,ys++(fδ).map eW,(if z.1=y then z.2 else 0),(λsh=>look st Ŵ),(by exact Nat.le_of_lt hn),List.zipWith (· - ·) v u,(by exact Int.le_of_lt s0),((gİ:Nat):Int),(λsh=>f (x - s*t - s*sh)),∀t∈L,iÑ,(show c+1<=c2 by exact hc),OZ s Z K w KP c dr a P L t,ay.mpr (.inr (ae.mpr rfl)),∀x∈eϣ,x≠hd,if v.c=u'.c then u' else v,(fΝ).length=i+1,VA X.K m qual ps st C f fd,λn hn=>h8 n fΟ,(aa ĕ gŅ),[į,ŗ,ĭ],(aa ē gŌ),(aa aA iι),(ě <2147483647)=True,(LqIp e0 hŴ),um M' v iο,(aa ĕ gŌ),(aa ĕ gŇ),#[st,s,rfl,h1,h2,s0,s1,?_],(aa Ė gŏ),(.ins A.eD dx (cŝ)),cf.rwt.len eÝ ⋯,(if eb=true then 1 else 0),LE less bϸ (di xs j),(by exact Nat.le_of_lt hxn),(.a ñ gť),(.a ϑ ö),(.a ϒ ö),(LqNp hq Ϡ),ϵ,(.a ϒ ñ),(LqNp h1 Ϡ),aN (wp_elem (hm i hi).1 ?_),G_ (GJ λ_ d=>rfl) λd=> ?_,vo λ_=>vo λx=>dé,(.a ϑ ñ),(.a Lq0 Ϣ),∀r,fò ->Q r st,(.a Ϙ ñ),(bĆ).drop j++bć,#[_,Ŀ,rfl,_,rfl,rfl],jđ=aĘ,(I.base.keep b o e n hb hx),List.getElem?_set_self hiσ,(.BoolOp .Or (b::rest) pos),϶,(.a Ϣ Lq0),gi items.size items.size hi,fr.filterMap (λj=>X.N[j]?),(lŖ),(W1 I h0 hn hu h1 h2 r1 r2),sortedHeap_at (out:=out) ho,(um M4 p (.lst cϚ)),(fŌ).filterMap f,List.getElem?_eq_none ⇑hi,l.Pairwise (λa b=>a.1<b.1),if aã then(q.1,v) else q,m.find? iϷ,if y=x then v else bŭ,List.length_erase_of_mem hk,∀z∈a,iń,k b o (nm hc).1 (nm hc).2 q,(∃old,IsEnum h e j i old),s.heap.IsList a its.toArray,eδ=bû++ [a],(.lst (IV i fť)),CmpOf prog w A.in1 .Lt P bt,(hϲ).headD 0,λv M2=>v=wn /\ q (wr x) M2,aD #[plainId_quiet kQ _,?_],(.lst (A3 i fű)),λ ħ=>wi fů,c.length<=hϵ,(eΤ ć).Nodup,kϩ % p,(.a Lq2 ϣ),(.a ö hÄ),(iÊ++E2 q r),Du s p t.b t.c t.len t.foot,fΔ+(bâ)+2*K,L.Pairwise λa b=>a.c≠b.c,absurd (z.trans y.symm) q.2,tc.kp.free (gĶ),(.a Ē ϑ),R.find? λt=>decide (t.1=x),List.mem_of_find?_eq_some e,[bϦ,ŗ,ĭ],["p",ŗ,aω,aõ],(.a ö Ϙ),(um M u iο),(Nat.lt_of_lt_of_le Md hp8),(jX.nb b1).trans (jX.nb b2),Ϸ,jY prog w A E s kd a₀ less,(LqNp hax Ϡ),Ng less Ũ lo ó,aN (wpS_lift (eZ cÁ)),Sg less Ū lo ó,∀y∈cÈ,dÛ,∀y∈cÉ,dÛ,∀y∈cÇ,då,List.Perm.append_left _ h.pm,(none,Ķ,i,j+1,0,bc+1),(none,Ķ,i+1,j,ac+1,0),StateT jo Sem (eì),StateT jo Sem (eî),xs.toList.Pairwise Ś,λr hr=>h r (dï) hr,(LqNp cÖ ((LqNe h2))),(LqNp cÕ ((LqNd h2))),(LqNp hN ií),(LqNp h1 ií),(iΝ).toList,iþ ač sb,iþ sb (sb+m),aS #[rfl,yw,ne4,B4,s4,p4,R4],∀f,lI (dÿ) (mA f),hτ=cδ,List.getElem?_set_ne (aZ hj),hf v u s2 x y H2 I2 r1 r2 q2,(.BoolOp .And (b::rest) pos),(lδ),(dE (hc aj s σ H _ I h) ?_),(dE jě ?_),(dE ję ?_),s.heap.IsTuple a its.toArray,W.instObj C s.heap.objs.size,PySem.W.isFn K ŀ=true,(show Μ from rx),DF P w K mg base A outer s H,HT.gi xs.length xs.length hi,(dB H p (.lst (xs.set j v))),vs.any jϝ,(show fı from ry),∀b∈fp,iī,(kΩ++c),Nat ->Nat ->hā,fi ->gg ->iį,(.a (.a Lq0 (.n 60)) ñ),q č (um M1 p cê),k _ M _ H h Ż m r',(dť \/ dŦ),k _ M _ H h Ż m ?_,b ρ M1 λxs M2=>r x xs M2 q,(∃kvs,M1 p=ϊ),(um M3 p (.dK (kq kvs k z))),(by exact LqNx hi (LqNz f7)),(I 0 [] (um M1 p cđ)),ih λz hz=>h z fœ,decide (kv.1=(Sum.inl x:cL)),b< (s.heap.push _).objs.size,λ ħ=>V.int dΓ,#[t,by rw[e'];congr 2<;>lia],#[?_,UE.toList,c',hv, ⇑KL],List.find?_eq_none.mp h t ht,P'.length<=hϷ,m.map λz=>iÂ,(aſ).map λv=>(a:Int)::v,jś++Rh s G,sts.map λst=> fτ,(.a ι cϹ),#[Ź,λz x hx=> ?_],(.s jÖ Lq2),(.s jÖ Lq3),(.s jØ Lq4),∀x∈eϣ,bω,t.c<u.c ->nU s u.c u.len t.b,BSt S s p Z w bB i M hd L bs,List.find?_eq_none.mp e t ht,M' u=kϳ,["p",ŗ,aõ,bì],[Τ,eϰ],(λkv=>W.tup gĚ),λe=>hx (by rw[hc,e,bP];rfl),_=dM (ps.take i++ [z]) x % p,(gŔ)[q]? =aā,Z+8*(jů+1),(s+1)*(eÓ+2*(2*mI)),((hϲ).map wi),λcdv A' outer s H E hr=> ?_,(cT (aa aA (aa (cT ar) ar))),cx (z.1+a.1*(0+ģ),z.2),(.a (.g eÖ) ñ),(.ins A.eD dx (dϭ)),∀st∈sts,st.length<=15497,(mirror xs i j ((j - i) / 2)),(b.extract k aΩ).reverse,#[m,hi, (by exact LqNk hj c)],{s with heap:=Ge s.heap a vs},λz=>(Mf c z).2.2.1 x c e rfl,ϸ,(x==("__debug__" :Str))=false,⇑(congrArg Array.toList d1),{D with nx:=N,ct:=N,bk:=D.nx},s1.heap.IsTuple a its.toArray,(.builtin "object.__class__"),(.Call dĮ [] [] pos),iϚ<=sizeLine,(Ir wi own.length fr g tc te),(t1.trans Ϧ),(l.any jϝ),a ρ M λx M1=>g x ρ M1 D.nx,(M a=kϑ),((bû).filter pr).map eW,Builtin.Range.rangeSize a b c,ah (wpAny_seqItems hS rfl ?_),(seqObj ÿ its.toArray 0),(λm x=>if x<m then x else m),(λm x=>if m<x then x else m),(kK s cĹ (aŨ)).all,(by rw[<- rel.length];show z),P.find? (λt=>gĝ),(∀t∈P',eΖ<=B+C),(w,sh,look bΗ sh*n % p),ih (by exact Nat.le_of_lt hm),yc (i:=i) _ hi λj hj Yy=> ?_,∀b∈bs,fE s p sts bΨ,(LqNp this Ϡ),L.find? (jÕ),fE s p jŞ f,Int.le_trans ü (LqIe e1),DG s Z K w KP c c1 P1 t la lp,(by exact Int.le_trans Ox h1),c9 p M3 t'.ol t'.op t'.b t'.Q,Sr s p (bϚ) t.c t.len D,(M u=kϳ),[ŗ,bϠ,ť],(fϑ (bR hv)).trans,#[rl,f8 a,rfl,vS,ž],(.a (.g eϹ) ñ),((f8 m).length<sizeLine)=True,[Ε,gŎ],(if a.1<0 then -a.1 else a.1),(if z.1<0 then -z.1 else z.1),(.a Lq1 (.a Lq3 eâ)),(h.pm.append_right _).trans ?_,(none,Ķ,i+1,j,mg,ac,bc),(none,á,j,Ķ,ac+1,0),(none,i,à,Ķ,0,bc+1),(.a μ eú),(.a ς ψ),(.a Lq3 (.a Lq5 (.a Lq4 Lq6))),(eą).push bĊ=_,get?_update_seq ho (λ_=> #[]),k b o (λz=>hc (by simp[z])) e,Hp ->(hĀ) ->Prop,backTo pos (hΔ),(.BoolOp .Or (a::b::rest) pos),dE (hi aj s1 σ H1 _ I1 q1) ?_,PySem.W.keepIn K ŀ=true,(if g=f then þ else mA g),qX K H ł ό,qX K H ł (eĭ),(.a ö ϣ),Value.ref ϩ,((iĠ:Nat):Int),backTo gX (iħ),N'.length=own.length+fr.length,(J.stop i H' /\ Q bİ H'),λout NI a1 a2 a3=>dŚ,Ì ->kϋ,k _ M _ H h Ż m WR.v,(iϭ t3).trans,(l.length+l'.length<=sizeLine),q (wb (! hϟ)) M2,L2.gy.ts (cE (o:= .lst []) hp),(.a Lq2 (.a Lq0 eè)),wpAny_pyIter_list ht.isList ?_,(dζ==Value.none)=true,ah (wpAny_seqItems hot hdt ?_),(.a ι ν),absurd rv (by intro h;cases h),λh' tk UE c' kp KL items=> ?_,(hϲ).getLastD 0,I1.dU.fresh (Nat.le_of_lt hLs),λ ħ=>V.int fů,#[t,by rw[e'];congr 2<;>omega],(by exact LqIk s0 (Ne.symm h)),(.a ká Lq2),(by exact jÌ),∀j∈js, -jl<=j.1 /\ j.1<=jh,(.a Lq0 jϜ),λt u=> kŧ,∀u∈L,c<u.c ->fΖ,(by exact Int.le_trans hlp h2),(tc.sp f hf).trans ŷ,md.stood row.Sw FY.Sw eb eq hk,(λb xm=>pK ∅ h o (jm b xm)),(LqIp a8 (LqIp b8 ((LqIw c)))),(by exact Int.ofNat_le.mpr h1),(.a ι eâ),["p",aω,"others","by","n"],#[by rfl,by rfl,by rfl,by rfl],(bV dm ĕ aA Η),cŠ.2 (by exact LqIz jV),(.a Ϣ ö),(bV dm Ę aA Η),(bV cB ė aA Η),(.a Ϫ Lq3),(.a ι π),(.a Lq0 jŻ),decide (¬jÃ),(bV cB Ė aA Η),(bV cB aΒ aA Η),(∀i,hi<=i ->i<n ->cŪ),#[h.pm.trans e_,h.so,h.bb,h.ba],liftM (rule "list.sort.gallop"),yn T m (.inl (by exact LqNd c)),(by exact Nat.pos_of_ne_zero c),(l1++fö::l2).toArray,PySem.Within mA (fą),(.BoolOp .And (a::b::rest) pos),Inv X aj σ H hΑ,vZ X.prog X.w X.K tg J fp it tn,#[H,aϚ,by rw[uJ r];show q],W.findIn K Ń f=bϺ,s.heap.IsSliceOf sl vl vu .none,Ϲ,(by exact jī),(xs.length+zs.length<=sizeLine),(kvs.any jϝ),(PySem.F.args_dict_get_3 _ _ _),∀b o,H b=ą ->H' b=ą,∀y∈scope.names,y.2≠ .cell,scope.names.lookup x=cε,(its.length==its'.length)=false,(gè=ks.map Sum.inl),λtk=>#[ä,H,I.tok tk,rfl,q],a x ρ M λρ' M'=>b r ρ' M' q,Nat.le_trans cĄ bŜ,λh=>#[vs,vs[i]'∅,vQ,by simp],el ρ2 M3 λy M4=>N (aģ) M4,{nx:=N,rt:=D.rt,bk:=D.nx,ct:=N},λx=>decide jÃ,λa=> (by exact Int.le_of_lt a),H2 a=some kÕ,(l.map kϡ),λsh=>if až=0 then 1 else 0,Sr s p st cĹ (Ī) D,BZ (f:=kï) h,L.find? (λu=>decide (bá)),Du s p t'.b t'.c t'.len t'.foot,(um M3 hd (.dK (nj (bã)))),(by rw[ae.mp gQ] at hx;show hx),h.each t (jş),Wt ġ t.b /\ t.len<3000000,∀st∈sts,jÅ,l.filter λx=>iÖ,(R++ [(y,v,c++ fΤ)]),(gU ĕ (c7 ē rfl) rfl),(aV (i:=5) nd rfl Ζ),(aV (i:=6) nd rfl Ζ),(aV (i:=7) nd rfl Ζ),P.find? kϸ,(aV (i:=3) nd rfl Ζ),(um M u kŪ),[dŻ,d϶,o1,o2],(.lst [wr l,wi i',wi c',wi s']),(aV (i:=4) nd rfl Ζ),(aV (i:=2) nd rfl Ζ),(aV (i:=8) nd rfl Ζ),pure (ForInStep.yield cÃ),oC hks lĸ,some (Ml a b cŮ i Þ),some (U7 a b cŮ ß j),modify λs=>dS s (dæ+1),(none,á,j,Ķ,mg,ac,bc),List.take_of_length_le ś,h.fin T.sa T.sb hï,Nat.le_trans hì jb,(LqNp h2 (LqNp hz (cŲ))),aM (show ĺ=some _ from x),(letOwnedTupleGo tg cî u),(dE lá ?_),holding [ov] (getMethod ov m pl),cC P w K mg base CX k f fd ps sp,λr s'=>r=w /\ EP X aj σ Q r s',(fĩ \/ fĪ),its.toArray.size+CU.toArray.size,backTo gX (starEach [e,f] X.env),(.call (.ref fa) fϺ),s3.toks+([]:eį).length,some (assign (cς) X.env),#[?_,out.toList,ee,mx a1, ⇑KS],q (wi (jϖ)) M,q (wi kΘ) M,q č (um M p (.lst (l++l'))),(.lst (kϐ)),vk xs keep own fr g c el ρ M1 q,⟨i϶,ú⟩,(m.any iϷ)=true,#[o,(lv.2 j (aZ TX)).trans h1,r],lY e n (q::l)=bž++bſ,(.lst (hϮ++ [y])),plainId_quiet F.plain_min_loop _,(Heap.get?_update_self _ QX rfl),ns.filter λx=>decide (bε),∀o u,X.H₀ d≠gÈ,(λM'=>M' d=some (eŗ)),ps.foldl kØ m,∀w,mà,∃j∈js,look b dϚ≠0,∀w,((pf Q w).map ć).Nodup,((iV L (dÄ)).map aι),dj (by exact Int.le_of_lt UX) Pr,#[f,o,ds,ol,op,bó,foot,b,Q],hà+(cŢ)+2*K',(.lst ((gŔ).map wi)),(by rw[<- fÕ];show hx),(((st.map cx).length:Nat):Int)=0,(.a μ ϑ),(.a ϒ ν),(.a ν ϑ),(.a ξ ϕ),(.a ϓ μ),(.a ϑ eé),Ķ++kτ,(.a Lq1 (.a ϓ Lq3)),(.a ν gŤ),(.a ι ϓ),(.a Lq2 (.a ϒ Lq3)),(.a Lq1 lÄ),(.a ñ jΖ),kΑ=l1.length,some (seqObj ÿ vs.toArray n),Nat.le_trans (LqNz h2) (LqNe afP),decide (lÙ),Inv X aj (hω) H s',(x==("__classdict__" :Str))=false,St ->Hp ->(Ω) ->Prop,I1.yU õ (iĐ),(λv H2=>v= .fD /\ Q bď H2),Nat.le_of_lt (x.above y c (eT h)),∃zs m',m'<m /\ W ß m' zs H4,(dB H s.heap.objs.size cđ),I6.pinned (tZ fr6) (T.obj _ _ RZ),exec_Assign_Name_used _ _ _ _ hsw,q _ NI (I'.dU.fresh õ) a2 a3,eI ->Mp ->(ώ) ->Prop,(q (gj 0 j.toNat) dū M1),(.a lÅ Lq3),(.a Lq0 lÏ),Nat.lt_of_lt_of_le this cĈ,(dB H s.heap.objs.size ŝ),λy h' tk hy ho gD ht hsz hk=> ?_,Inv X aj σ H1 {s1 with heap:=h2},((eδ).filter pr).map eW,Walks prog w A.in1 I fp wr n P St,(.a lė Lq4),∀x,Ď<f ->Ŕ=ō,(.a Lq1 lě),λsh=>((w,sh,look m sh*n % p):oF),(if aä then z.2 else 0)+aŒ,∀w,((bÒ).map ć).Nodup,nq s p sts D Y pat r P sts.length,∀st∈sts,fE s p sts' (look st),(fτ,0,gϹ),fQ λj jW=>aB λhq=>hn #[j,jW,hq],nj L=lG (L.map λt=>eϞ),eQ (λsh=>look t.b Ŵ) js,(qq.nodup_iff.mpr (mT ga.1 h.s0)),∀u∈L, ∀x∈t'.adr,x∉u.adr,[(Ĥ,q,já)],(LqIp hxr.2 (LqIp h2 ((LqIw c)))),(lĩ).lookup,["p",ŗ,bϠ,ť],[Ε,ϧ],[bï,bí,"p","n",Ĭ],cO (by rw[dÏ];show av) gQ,#[x,dx,aü,wr q1,rfl,av,rfl,?_],(LqIp k0 (LqIp k0 fϘ)),∃st,ϟ /\ x=cK st,[į,Ŧ,"k",aö,"n"],Nat.gcd (gř) n.natAbs,(((cĢ).um Q2).um Uh).um Q2,aS (h n st B TL TK Yb rfl sK.refl),sK lo ó Ũ Ū,sa.sublist kο,sa.sublist kς,(none,c.2.1,c.2.2.1,c.2.2.2.1,0,0),some (Mm a b cŮ ĝ j),some (Vt a b cŮ i aΩ),#[by simp,by simp,by simp,by simp],bĐ=þ ->cã=þ,∀xs,dĎ ->Ψ,∀xs,dď ->Ψ,λi h h' st k=>k it ś _ st,(show jč from r),(show ∃t,u=fÿ from r),(backTo pos (starEach args X.env)),(.Call dĮ aϜ [] pos),mΒ::us,(LqNp cñ Ϡ),kvs.filter λkv=>decide (kv.1≠k),mW I3 rfl (dŒ) Ic.free Og,λcdv A outer s H vs Q E hr h=> ?_,(o.mv lĀ m3),(t1.trans (jϵ)),((eſ).trans t8).trans t9,#[a1,by rw[bS (NM a2)];show a2,a3],h.z8.sublist kÒ,(∀x∈ų,gĞ),(∀j∈js, aŹ<=j.1 /\ j.1<=Z),(by rw[bŨ] at e;show e.symm),(mæ - dr),fE.of (lϙ),fX aζ (bϑ)=fΚ,[ϧ,fϋ],HT.gi kĉ 0 none,(.a kĝ ñ),(.a gŐ gŐ),[(Ĥ,q2,já)],(bV cB Ė ė Η),sK lo (lo+eX) Ũ Ū,(by exact lÃ),vo λ_=>G_ (GJ λ_ e=> ?_) λe=> ?_,Runs less Ū pl 0 a₀.size,V ->V ->V ->Hp ->(Ş) ->Prop,#[o,e,λv z=>by rw[d] at z;cases z],absurd (show cω from hs) bn,#[aϑ,_,dz.lookup,ht.typeIs,?_],absurd (show cω from fx) bn,(∃m,W 0 m [] (dB H1 p cđ)),PG mÇ tg g,dE (hc s3 _ _ s7 σ7 H7 _ I7 q7) ?_,(seqObj ÿ gh.toList.toArray 0),(mΚ ts),absurd (aM h1) jĵ,#[d,d,hx,hy,hs,hd,by rw[kA];show h],codeAny_builtin F.entry_min_loop ?_,(W.frame _ _ _ Of λb hbf o e=> ?_),(∀x∈ų,x∈dΥ),∀x,bŧ=kâ,(sts.map kï).sum,mæ - t.len,(pD (by change _<=_ /\ _<_;decide)),(LqIp hS.2 (LqIp hSd fÑ)),[ŗ,bì,bϦ,ĭ],(.ins A.eD dx (Ux p ms s v sts v2)),aS #[rfl,la,f,rfl,h2,h3,h4, .inl c1],vo λy=>Gu rfl (vo λz=>dé),(.a ϳ ñ),(.a lϷ Lq2),∀r g,fò ->Q r (aϋ),Lqj [_] ñ Lq0 ý Lq0 hj rfl,DI Ũ ač r.toList.zipIdx,some {cls:= .none,data:= .fields ps},some (W.methodObj ŀ (.ref y)),#[.int aϟ,H,aϚ,Ĺ,q],V ->Ċ ->Ċ ->gÎ,LB mÇ iZ tc,PE mÇ i9 te,{Lk with scope:=iϤ},s3.heap.objs.size=iĘ,(.a ϱ ñ),(D.nx ρ (um M2 p (.dK (xy kvs k)))),∀ρ M,I xs.length ρ M ->cğ,λρ' M'=> ∃m',m'<m /\ dŮ,ux M λp=>q č hϘ,#[o,hj,λv z=>by rw[d] at z;cases z],PG mÇ ki g2,LB mÇ gk vG,((LW i j c:Nat):Int) - fĖ,M4 p=some (.lst (hϮ)),(I.dU b u h).tY (eμ) ow tu,.Call (.Name aϖ p2) [a,b] [] yr,(ff _ _ (aZ n2)).trans (dΖ),(.a ö ϳ),(kvs.map λkv=> .tup gĚ),eQ (λsh=>kŗ) js,(∀t∈P',Wt (fź) ì),∀w∈eΗ,hĿ,Lqf [_] ϒ Lq0 this rfl,lc (lϒ) gs x,L.map λt=>((Sum.inl t.c:cL),aε),Tin R S s p M hd r dr rl rp bB a P L,L.mergeSort λa b=>iÓ,(.a Ē (.a Ē π)),(um (um M1 e1 bł) e2 bł),(.a ϒ ϒ),(.a ö (.a ξ ö)),[į,Ŧ,hŧ],[bϭ,ζ,Τ],Ú ->Ú ->StateT jo Sem (Ú),(decide (ac<7) && decide (bc<7))=true,cŭ×Nat×Nat×Ú×Nat×Nat,LE less fϴ fϵ,LE less fϵ fϴ,(Runs less cŴ pl 0 a₀.size),wpAny M A (storeName X.env x u) Q E s,I1.kept (t':=s1.toks) gι,(backToKw pos kĲ),wpAny_Call_Name_kw (tq I hg hm ?_ C7),(.Call iϕ [] [] pos),{cls:= eĭ,data:= .dict #[]},λj=>uV (eŔ) (m.getD j .fD),q č (um M p (.lst eŚ)),λh=>#[vs,vs[i]'∅,Ŋ,by simp],(w_ i9 tg iter iZ ki dw gk scope pos),Keeps (λi=>n1<=i /\ eŏ) g2,I2.kept (t':=s1.toks) gι,h'.push mŢ,(.lst (kś++ [z])),h.tE x eΞ hϻ,(.a Lq1 (.a ν dÁ)),(.a jϸ dÂ),(.a jΚ (.m 2 Lq5)),ai (show ¬w.c=(dÄ).c from y),fs.lookup hÑ=δ,g_ ī l []= [iź],(.a jϜ dÁ),(um M4 l1 (.lst jþ)),(wQ T.qY (pi T) fϔ ę),Nat.lt_of_le_of_lt hì hh,MI less a.toList b.toList o.toList i j,(λx c hr=>#[rfl, iû]),(b∈X.ex \/ X.s₀.heap.objs.size<=b),X.env.scope.names.lookup x=dā,(I7.pin (b,o) kΖ),(λkv=>if aľ then(kv.1,v) else kv),hČ ->RelV v w' ->Q w' s',codeAny_loop rfl I (λn s hI=> ?_) n h,#[0,[],_,Ic,FS,λb hb=>(C6 b hb).1,w0],(I9.pin (b,o) kΖ),#[m,hn,λh' Og=>#[.ref D,H',?_,rfl,q]],(D.nx ρ mħ),(.lst (kϐ++ [y])),q (gx l) lΕ M1,(BY wi own.length fr g tc DJ g2 vG te),(.lst (mş)),(LqNp (LqNe hk) jϴ),#[?_,by split at h2<;>lia,Ź],(xs= [Í, hϱ,aś]),.Call (.Name aϖ q2) bÊ [] yr,(λsh=>look gĳ Ŵ),eQ (λsh=>look (pf t.Q w) bΙ) js,∀x,dϝ=kâ,.inl (List.mem_flatMap.mpr #[t,ht,hx]),[aψ,aõ,ĭ,ŕ,aŮ],(bV dm Ę dÉ Η),(aa ĕ lϡ),hä*(jŲ),kK s (kϝ) (é),(aa (bV cB ē aA Η) ar),(aa mϦ ar),Ķ++mŐ,cM λx d=>c=(û,d) /\ fñ,(.a Lq5 (.a ν eö)),∃sl,cã=some {o with slots:=sl},jē ->hü,fĉ=þ ->cã=þ,(dE (ha aj s σ H Q I h) λc s1 e=> ?_),[.Tuple [.Name x px, .Name y py] kt pt],∀name,hĊ=some (mA name),envOfC qual scope s.heap.objs.size f cd,ah (wpAny_sequenceKey ht.typeIs ⋯ ?_),#[i,rfl,mΙ],(∀ys M,I xs.length ys M ->q č M),(LqIp cĥ kŇ),(l.map λq=> lŝ),λi j=>decide (dſ<dδ),wpAny _ _ (field bŸ 0 >>=_) _ _ s,wpAny _ _ (field bŸ 1 >>=_) _ _ s,dB H s.heap.objs.size (gϓ),#[_,(lv.2 _ QU).trans ht,rfl,_,rfl,rfl],[iϹ,s1.heap.objs.size],PI mÇ ki dw DJ,(gĔ iŏ).sum,Int.emod_emod_of_dvd _ hĳ,Around.under_plainId F.plain_min_loop _,r.foldl mţ a,r.foldl mŤ a,ĩ+bÏ*kϞ,.dK (ps.foldl kØ []),fb (λq:Ō=>decide (q.1≠z.1)) r,(λsh=>look (fε) Ŵ),sN s Z (bâ) (iŮ) u,∀w∈t'.Q.map ć,hĿ,(ag.mpr #[t,o.perm.mem_iff.mpr ht,rfl]),CrF p lĪ sts rest,[ð,gł,hŧ],["p",ð,"n",aö,ť,"pairs"],(fP İ Ę ĕ Η),(fP İ ē ĕ Η),(fP İ Ė ę Η),(.s (.a ö ϒ) ñ),(LqNp ϔ Ϡ),(hc (by exact Nat.lt_of_le_of_lt h1 h2)),Inv X aj σ H lγ,Inv X aj σ H lε,y.size<=sizeLine /\ k=((y.size:Int) !=0),(λh' c' kp e=>fin its r' hz h' c' kp e),cΞ ->(cl.lookup y.1).isSome=true,(by rw[<- Array.getElem?_toList];show e),∀vs M q,bœ ->iϒ,Ok K gĈ M' gô H2,#[(o.env.ts fň).Vw own fr,my],m.map (λq=>mÎ),λi j=>decide (dſ >dδ),(.Call (.Name dĚ p) [l] [] pos),#[aÔ,H,kϓ,rfl,q],vk (l.map fW) keep own fr g c el ρ M1 q,.Call (.Attribute o "items" f') [] [] gX,(db.cons ?_ (db.cons (rp.ts ts) db.nil)),∀j∈js, ∃h∈cņ,j.1=Ŗ,⟨jī,fŔ⟩,∀b∈bs,fE s p (eϟ) bΨ,["p",ŗ,aõ,bë,bí,"n"],[ϧ,jè],(.a fϏ jμ),["p","pairs","turned",į,Ŧ],cO (by rw[aý,aH NN,aý];show av) gQ,nĒ - t.len,zb B.held mϏ,kL eξ (0+Ĥ)=fÙ,(by exact LqNx (LqNz ck) ϔ),aN (wpS_modify (aN (wpS_modify (aS ?_)))),∀b u,nş,Inv X aj σ H' lγ,ta σ H λx H1=>tb σ H1 λy H2=>R x y H2,(by simp;exact Nat.le_trans cñ hx),(dB iϓ x gÜ),Builtin.Slice.sliceAdjust lo hi 1 Ġ,λ(m:Nat)=>xs[lŌ]?,compEnvC scope cl s3.heap.objs.size X.env,dE (hg s3 _ _ s6 _ H6 x u _ I6' r6 PK) ?_,Nat.le_of_lt (Nat.lt_of_le_of_lt this hn),ah (m:=checkCount bŉ 1 1 _) aϒ,a ρ M λx M1=>b ρ M1 λy M2=>r x y M2 q,#[jϒ,ht.isList.push _],wpAny _ _ (seqItems? bĹ >>=_) _ _ s,some #[fā,none, cż,sl],Lqi Û Lq0 Lq1 (.m 1 Lq0) Lq1 this rfl,M5 p=some (.lst (kś)),L.Pairwise mϒ,∀t∈L1,nÓ,(bJ fS mϝ aA),(um (um M l1 (.dK (f8 pat))) p1 bł),kN ((kč k).map aπ),∃s:Int,(lĪ:Int)=s,(.a Lq4 nę),(.a ν (.a Lq4 ϒ)),(bubble cũ aĆ gŦ),(by exact Nat.lt_of_lt_of_le cÚ ia),wpS Χ A E s (mergeAt' i) Q st,(.a μ (.a Lq4 ϑ)),λbG pl b1 b2 b3 b4=>#[rfl,pl,b1,b2,b3,b4],∀x c,mÁ ->c≠b,(hs.2 b (lł)).trans,(show mē from p),∀x,foldedSetIterable iter X.env x=pure x,(.Call iϕ aϜ [] pos),(backTo gX (hΔ)).any ć,(.ListComp i9 [#[qw,iter,iZ,0]] scope pos),(.ListComp i9 [gΤ] scope pos),oÓ.2.1,cC P w K mg base f_ Ü f fd ps bŒ,(by exact nÃ),∀i ρ M,eŦ ->bŝ ->aō,(λi v e=>let ⟨t,h,_⟩:=bÂ;#[t,h]),ah (wpAny_field QI OA (x:= aĵ) rfl ?_),starEach [l] X.env= [(false,eval l X.env)],λb o n1 e=>hk b o n1 dĕ bņ,(by exact Int.lt_of_le_of_lt cĦ f7),eQ lŬ fυ,(show e<=0 by exact Int.le_of_lt (LqIw z)),λy=> ∃x∈E, ∃n∈ns,hţ,(.a ξ lė),(aK T.iJ aΕ hr (aa ĕ dÊ)),(.a ö mΑ),(.a (.m 9 (.a (.n 332) (.m 272 Lq3))) Lq4),ms.map λx=>mϥ,(aa nż ar),pure (ForInStep.yield (none,dá,0)),(by exact Nat.le_trans hì ia),LE less (gš) (di Ũ j),di (nΞ) n,PassesOwn Ϥ X.A X.env X.xe,((gξ:Nat):Int) - fĖ,some (some (.builtin "object.__setattr__")),λv hv=>cΖ.1 (List.of_mem_zip hv).1,wpAny_Call_Name_kw (iI I hg hm hv ?_ hn C7),Lqi [] ö ñ ö ö LqI0 rfl,(if([]:eł).isEmpty then 0 else 1),{cls:= eď,data:= .seq vs.toArray},λx c e=>gΜ.2.1 x c cΟ,(λx=>do gΟ;theTreesLotGoes x),λb o e=>Tr.extBut b o dĕ bņ,h'.push nο,(show jĶ from cπ),Call_ (iI I YC QM boot_list (bY ?_ ht rfl)),(D.nx ρ (um M2 p (.ins C dx (g_ f y fs)))),wpAny _ A.in1 (hĄ >>=_) _ _ s,aL.mpr #[mB λe0=>hy gϮ,cc hy],∀i st,ϟ ->fθ=st,[bϭ,ϧ,fϋ],(.lst (t.2.2.map cx++ jþ)),decide (mŽ <=60),unsupported "internal:list.sort.merge-bound",W.item i s _ _ hg st λv h' tk hv bG kk=> ?_,(bY nð hs rfl),y.length<=sizeLine /\ k=((y.length:Int) !=0),∃kvs,H p=ϊ /\ k= !kvs.isEmpty,(kvs.find? jϝ).map aď,∀s3 H3,nν,∀b xs,Rd H b ŝ ->Rd H' b ŝ,db.mk (by simp[h.length]) iĶ,a ρ M λx M1=>r ρ M1 λxs M2=>q (aÂ) M2,D.nx ((hϚ).set j (aģ)) M1,#[λz hz=>h.1 z fœ,dŶ.2],ah (wpAny_field QI OA (x:= .int i 0) rfl ?_),(.lst (mş++ [y])),∀j∈js, ∃h∈tW ms t.len,j.1=kj t.len h,sN s Z (cŢ) (KP+s*hų) u,(LqNt (nΝ)),(by rw[I.ok.glob];show jΨ),λ_ _ _ _ _ st h=>wpAny_pyIter_rangeiter st h,∀vs H Q E,dī ->iϒ,cC X.prog X.w X.K X.mg X.base CX k f fd ps sp,cellsFrom ϩ scope.names [],absurd (show gà from z) ś,t {nx:=λ_ H'=>Q .fD H',rt:=Q} eĳ H,∀l,bĻ ->Q bļ (dB H l cĉ),∀s3 H3,nΦ,∀s3 H3,nΧ,sortedHeap_old (a7 f7) (by rw[dR];show dW f7),cC X.prog X.w X.K X.mg X.base f_ k f fd ps sp,br (by exact Nat.lt_of_lt_of_le hj cñ),iĽ λ ħ=>wi (lo+ģ),(.a ϒ lÏ),wpAny _ A.in1 (seqItems? (.ref Z) >>=_) _ _ s,(∀st∈sts,bι /\ jÅ),kL dż Ï=some (wi (fŨ)),List.getElem?_eq_none (by simp;exact LqNz hi),(LqIp h3 (LqIp h4.2 (LqIp h5.2 ((LqId h6))))),#[rfl,rfl,rfl,by right,rfl,by right,by right],(Nat.lt_of_le_of_lt kĞ h1),∀x c,fñ ->Q (hñ) bG,MH less a.toList b.toList o.toList.reverse i j,aS (h FS B1 rfl (iΔ) sK.refl),Nat.le_trans kχ (LqNd Od),{cls:= eď,data:= .seq its.toArray n},∀x:Str,gž ->mb x=gÊ,λi h h' st k=>st.at λo e=>k it ś o e,(kvs.map λkv=>if aľ then(kv.1,y) else kv),cΞ -> ∃c,env.cells.lookup y.1=aĘ,∀b o,oî,(RR kΕ s3.heap.objs.size),a6 (by exact Nat.le_trans cĄ (LqNz hj)),#[λh=>fϤ,λh=>h,hĤ],.cons ?_ (ih Ü r.length rfl λj v' e=> ?_),q (wr l) (um M1 l (.lst (gj i fť))),Lqi Û Lq0 ι ö Lq1 this rfl,q (wr l) (um M1 l (.lst (Fe i fű))),(ō+eQ lŨ js) % p,(.s oÁ Lq4),(.s oÁ Lq5),(.s oÂ Lq6),[iź,iž].lookup,(.s oÆ Lq5),(LqIp hS.2 (LqIp hSd (LqIp afY fÑ))),Nat.gcd (lw ((Ρ).take i)) n.natAbs,(mirror Ũ lo ó ((À - lo) / 2)),(LqNp ϔ (kĞ)),(by exact nΝ),λi H=>cM λxs x=>dĎ /\ Ψ,λi H=>cM λxs x=>dď /\ Ψ,if v<0 then(v+Ġ).toNat else min v.toNat n,(∀l,bĻ ->Q bļ iĤ),T.keep 0 _ _ st λb hb o e=>old b o (up3 b o e),(gĔ kŎ).flatten,ai (show ¬t.1=v from λz=>ev (z.symm.trans e)),(∀x∈dΥ,gğ \/ bω),(List.range h).map λη:Nat=>ĩ+(η:Int)*s,((nΑ:Nat):Int),TC R S s p bB M0 F0 G0 L0 hd M r dr rl rp a P L,∀t∈L, ∀u∈L,mļ,[Τ,ϧ,eϰ],iH tc.lJ.held.nd h.mem sG (h.at_.trans C4.symm),(cM λx c=>r= hñ /\ fñ),(.a eæ (.a Lq6 jι)),Lqj [_] ý Lq0 ið Lq0 c2 rfl,(eĆ)[kΑ]? =þ,∀b xs,H b=gÆ ->H' b=gÆ,b≠it ->oî,eval nϱ X.env,(oó).kindOf,{cls:= eď,data:= .seq its'.toArray n'},∀ (s:fk) (u:fi),BindsTo s fd #[[u],[]] [(x,u)],Inv X aj σ nĮ s3,(.a ι (.a (.s eθ Lq1) Lq3)),∀u∈L,oĊ,[Τ,jç,eϰ],(.ins A.eG dx [(ī,aü),(Ĭ,wr e2)]),Lqi [_] Ϣ Lq0 ý Lq0 p2 rfl,(.ins A.eG dr [(ī,wr l1),(Ĭ,wr p1)]),#[Jh st,by rw[yy],by rw[Jh,ab];lia,λe1 TY=> ?_],(.ins A.eG dx [(ī,aü),(Ĭ,wr q1)]),[Ε,gŎ,ϧ],(by exact oÉ),∀b u,b≠e ->nş,∀b o u,H b=gÈ ->H' b=gÈ,[λv=>bindName X.env y v,λv=>bindName X.env x v],I1.laid (t':=s1.toks) hΟ õ ?_,(mπ).any ć=false,PE X nŦ (tCB r t),(by simp![aU] <;>exact lŏ),s.heap.push nϲ,∀ (w:World) (h:Heap),YP w h ->(cΝ).In h,ah (cg h₁ (λ_ s₀ X3=> ?_) hϐ),ah (cg X3 (λ_ s₂ h₂=> ?_) hϐ),∀b o,jϧ ->h₁.get? b=ą,K9 I 50 A.in1 _ _ _ _ _ _ ?_ ?_ q1 q4 ⇑q2 ⇑q5,λρ M σ H q Q o h k=>k _ M H h Ż o.hp,λa b c d h t o=>#[a,b,h,jϵ,o],Nat.lt_of_le_of_lt hyl (Nat.lt_of_lt_of_le f7 hz),(λhI=>absurd aĚ (by rw[ae.mp hI];show cq _)),za (l.map fW) keep own fr g c AH g2 c2 el ρ M1 q,(by simp![ca,az,ag];show kϢ),∀w x,look bΘ x=lύ,(.ins R dx [iÎ,iÏ]),∀ {x C d fs},kũ ->x∉ [hd],l.countP (λx=>decide ¬(iÖ)=true),∀a∈ms,bŴ /\ cŚ /\ cϠ<=49,(bH ij ŋ T.sk Boot.«abs» gō),Lqi Û Ņ eΘ ö Lq1 r0 rfl,(bH fw ŋ T.kF Boot.«len» gŅ),(bH fw ŋ T.kF Boot.«len» gŌ),#[aΗ,rfl,by rw[aH JT];show av, aĒ,rfl,?_],(bH fw ŋ T.kF Boot.«len» gō),(bH ij ŋ T.sk Boot.«abs» gŕ),(bH fw ŋ T.kF Boot.«len» gŏ),(by exact Nat.le_of_lt (Nat.lt_of_lt_of_le x2 y1)),eval (.Call (.Attribute e m f') args [] pos) X.env,A.deeper (oó),(if v<0 then max (v+Ġ) 0 else min v Ġ),∀cl fp s3 H3,nν,ks.Nodup ->(∀k∈ks,k∈l) ->ks.length<=l.length,(∀z∈ps, -jf<=z.1 /\ z.1<=jf /\ gċ),Lqj [_] ϒ ý Lq0 ñ this rfl,Lqi [_] ö ϒ ö Lq0 this rfl,(ff _ _ (λh:Z=b=>hZ (by rw[h];show hbf))).trans e,(show 0<=bâ+2*K by have:=h.k0;have:=h.w0;lia),[ζ,Τ,dϲ,dÇ],λst h=>(cf.wt st h).len (iG (dÙ).pat) ⋯,aS #[rfl,_,by simp,B5,ID o5 (.inr õ) s4,p5,R5],some oϓ,attributeBase e f X.env (eě)=eě,A.under (.builtin gχ #[aĭ::us,kw]),qe CX P w K mg base N qual scope f cd A outer s H E,attributeBase o m X.env (eģ)=eģ,∀b o,jē ->jϧ,∀cl fp s3 H3,nΦ,∀cl fp s3 H3,nΧ,(List.mem_erase_of_ne hzk).mpr (hs z fœ),val (PySem.argBest (λi j=>decide (val i<val j)) k),∀b o,jē ->s'.heap.get? b=ą,#[#[old,k e ś _ he],o,k j ś o hj,r],I1.yU (fø) (I1.dU.fresh (fø)),#[a,ns,rfl,Ŋ,mΙ],∀cl fp s3 H3,nϐ,∀cl fp s3 H3,nϑ,(iŐ kŎ).flatten,hj Þ v' (by rw[List.getElem?_cons_succ];show e),(by rw[ec,z,nŅ];rfl),(oũ).any id,(hs.2 b (a7 (b7 aĚ (I.ok.Zk x c hfn hc)))).trans,I.turned (λb o hb e=>kk b o aÓ e) f0 f1 f3 f4 f5,W.findIn K Ń cΒ =jĤ,c_ W.kitx_list I.pH #[_,h1,rfl] e hď h,ah (cg h₂ (λXv s₃ h₃=> ?_) hϐ),λb hb o e=>oÓ.1,(Lqi [_] Ϙ Lq0 ö ö LqI0 rfl),(Lqi [_] Lq0 Ϙ ö ö LqI0 rfl),val (PySem.argBest (λi j=>decide (val i >val j)) k),Lqi [] ö (.n 2000000001) ö ö LqI0 rfl,eQ (λsh=>look (fθ) Ŵ) aî % p,(fJ λq hq e=>hn nų),∀w x,iů=lύ,λst h=>#[((dÙ).B7 s0 (yS st h)).ne,yS st h],#[u,p,ms,sts,rest,by rw[hs];rfl,hu7,p2,p7,g8,cf',?_],K8 (d:=fΩ) (.inl qd) (.inl qd) A2 rfl rfl,pure (ForInStep.done (bϺ,c.snd.fst,c.snd.snd)),Gu rfl (Gu rfl (vo λg=>G_ (GJ λ_ c=> ?_) λc=> ?_)),y<sb+nb ->LE less (di Ũ x) (di Ũ y),dă \/ oÍ,(λ_ s'=>cM λσ' H'=>iċ /\ Q σ' H'),c_ W.kitx_dict I.pH #[o,h1,h2.1] e hď h,eval oŕ X.env,(mĘ - jĭ),∀b∈fp,lq X aj nĮ b,ih n (dc n) A.in1 _ _ _ _ _ _ ?_ ?_ q1 q4 ⇑q2 ⇑q5,cM λa vs=>d6 dĔ (dœ) (ź),Lqi [_] ö Ņ ϒ ö hn rfl,(M' o=some (.ins A.eD dx (lĩ))),less kĘ lŷ,(qe CX P w K mg base N qual scope f cdv A outer s H E),#[gä,H,aϚ,#[s.toks+1,by rw[aU,df]],q],codeAny_compStart_list loop (T.self _ 0 _ _ _ FS loop),#[_,rfl,wpAny_letOwnedTupleGo_enum ho gϔ],.ListComp i9 [gΤ,#[ki,dw,gk,0]] scope pos,∀cl fp s3 H3,oĀ,#[List.mem_of_find?_eq_some h, ⇑(List.find?_some h)],∀x,bε ->eΜ ->kϤ,Lqi Ĝ Lq0 eŴ π Lq1 h1.2 rfl,M r=some (.ins R dr [(ī,wr rl),(Ĭ,wr rp)]),(js.map ć).filter (λy=>decide (gϭ)),(LqIp ϭ (ϭ)),tc.kp.trans U8 λx hx=> .inl (by rw[bĂ];show Vl),[ϧ,fϋ,jè],[(Ϗ,wr l1),(ϐ,wr p1)].lookup,(bV cB mϦ aA Η),(bV cB mϧ aA Η),Lqj [] Ϣ ñ ö ö LqN0 rfl,pure (.done (ô,d.2.1,aΦ,aΧ.1,cÌ)),vs.map some++List.replicate (N.length - vs.length) none,(∀x c,dŋ=aĘ ->lŀ),∀x c,dŋ=aĘ ->mÁ,absurd rfl (SeqAt.ne_of_list_tuple (s:=s) hl.isList ht),a ρ M λo M1=>b ρ M1 λi M2=>s o i x M2 λM3=>q ρ M3,(none::dŻ::List.replicate (eŶ) none),(toString aå ++toString ".loop" :String)= cϫ,wpAny _ A.in1 (tryCatch (pyNext (.ref I)) _ >>=_) _ _ s,eQ (λt=>look gĳ hŎ) bώ,(by exact Lqi Û Lq0 ι ö Lq1 k0 rfl),[ϧ,jè,gń],(List.range (hş - 0).toNat).map că,[ð,gł,hŧ,aö,ť],(Lqj Ĝ Lq0 ξ Lq0 τ LqNs rfl),W.methodCall_KW (pl:=pl) mĒ ht,∀p,ń ->Q bİ (dB H p (.tup (dĳ))),wpAny _ X.A (assign (cς) X.env cĒ) _ _ s',((∃a,xs= [wr a] /\ hϛ) \/ eŞ),(có <=i /\ i<aĥ /\ lś),∀w x,look bΘ x=if w=Ĥ /\ x=0 then 1 else 0,∀u∈L,u.c<c ->oĊ,∀u∈L,u.c=c ->oĊ,(by exact Int.le_trans ϭ (LqIe hs)),Lqj Û Lq0 ι ö Lq1 ϔ rfl,pure (.done (ô,aÉ,aΨ,cÎ,dæ)),(T.ma ĝ oō),wpAny Χ A (getItem bĹ cĆ) Q E s,(∀b o,b∉wr ->t.heap.get? b=ą ->hü),attributeBase o "items" X.env (eģ)=eģ,∀w∈fŴ,hĿ \/ w∈eΗ,λi=>match i with | 0=>kϪ | i+1=>J i,∀x,œ ->cŒ≠0 ->cĽ /\ Đ<t.len,(.a ξ (.a Ϣ hÄ)),(by change(iê:Ĉ).Nodup;decide+kernel),(cT (aa aA (aa (cT (aa (cT iι) ar)) ar))),rest.map λz=>oζ,pure (.yield (none,aÉ,aΨ,cÎ,dæ+1)),aN (wp_elem oō ?_),(dE jğ λv s1 h1=>dE h1 λTn s2 h2=> ?_),(.a (.a (.a Lq0 (.m 16 ϑ)) bį) ñ),(W.fnOf name qual params body scope dV kV kl pm an cdv ct),wpAny _ _ (Builtin.Tuple.tupleItemsOf bĹ >>=_) _ _ s,(backToKw gX kĲ).all (λx=>x.1.isSome),Ϻ,(bX X N' scope cl fp s3 nĮ),(Walks.list hh s.heap.objs.size l (a7 f7) its.toArray).toS,compTurn n϶ 0 it gh env,compTurn n϶ 1 it gh env,wpAny_Call_method0_late AQ AO mđ,y∈pľ,[iź,iž,iſ],∀ {x C' d' GI},M x=jũ ->x∉ų,(bH bϫ ŋ T.jQ Boot.«sorted» gō),_A T.repeated.fn jZ (by left) mŉ,reverseSlice' (eà - (dà)) (eà),(by exact Lqj [_] Ϣ Lq0 ñ Lq0 h1 rfl),i<k ->LE less kĚ kę,∀i,i<n ->base+i<arr.size /\ gŨ∈a₀.toList,(by exact Lqj [_] Ϣ Lq0 ñ Lq0 nb rfl),(qe f_ P w K mg base N qual aϫ f cdv A outer s H E).S1,∀y∈scope.names,oĚ,{s3 with heap:=h₁,toks:=nù},fin s3 _ I3 C6 _ _ H4 s5 s5.toks (by rw[RW];show dc _) I5 q,λb M2 v H2 h2 t2 m2 r2=>k b M2 v H2 h2 fľ m2 r2,∀p,ţ ->q č (um M1 p (.lst (xs.filterMap f))),ai (show ¬(mΤ) from λz=>bn z),n=if h<0 then -(gģ)*foot else -(gģ),sts.length*(bÞ)+an+nΑ,s=0 \/ s=1 \/ s=2 \/ s=3 \/ s=4 \/ s=5 \/ s=6 \/ s=7 \/ s=8,(EB (K:=K) rfl (fP İ Ė ĕ Η) rfl),(by change(jó:Ĉ).Nodup;decide+kernel),∃x∈E.take a, ∃n∈ns, ∃w∈hŸ,z=x+n*w,(by exact pÌ),#[m,hi, ∅,ia, (by exact nì)],Inv X aj σ H' {s with heap:=h',gens:=g',drawn:=d',toks:=t'},wpAny Ϥ X.A (f (bČ) (.int j u)) Q E s,(Lqi Û Lq0 kÇ ö ö LqI0 rfl),(Lqi Û kÇ Lq0 ö ö LqI0 rfl),(Lqj Û ι ο ö ö LqN0 rfl),∀x,Ŕ=oϠ,[ŗ,bϠ,ť,"lit",bì,ĭ,ŕ],Lqj [_] ñ ϒ ö Lq0 ϔ rfl,aϓ /\ H q.2.1=some (.tup (p.1.map kV)) /\ RelV p.2 q.2.2,hτ=dā \/ mċ,wpAny Ϥ X.A (eval fČ X.env) Q E s,(kΙ).push (mĔ),λp hp=>absurd (show p∈([]:ω) from hp) ś,ah (m:=lο) (dY iġ xj),typeLookup cą fĥ =pure (some fģ),a ρ M λx M1=>lo ρ M1 λl M2=>hi ρ M2 λu M3=>r x l u M3 q,λy M4 v4 H4 h4 t4 m4 r4=>k y M4 v4 H4 h4 (t1.trans t4) m4 r4,(.compLoop n϶ 0 it gh env),(.compLoop n϶ 1 it gh env),foldedSetIterable dw (lŖ).env x=pure x,(W.fnOf x x aϩ aϪ aϫ .none kV kl pm an cdv ct),(W.fnOf m q aϩ aϪ aϫ .none kV kl pm an cdv ct),[ζ,Τ,"_law_end",dϲ,dÇ],#[M,((Sm.um (cĢ) hd).trans (bR vR)).trans (bR ht0),?_],(al++bl).Perm ((cÆ++cÈ)++(cÇ++cÉ)),kĴ=jĨ::hΔ,iĠ=0 /\ mÅ=items.size,W.WalkO q w6 XP YP l.row.toRowW d [] lŒ,.inl #[k1 rfl,k _ M' _ H' (hd ys M' hI) fň m' WR.v],ĥ /\ iD K M H' /\ ∃x,cϢ =û /\ dŞ,(.compStart n϶ 1 i2 gh env),q č (um M1 p (.lst nϘ)),∀b∈bs, ∀x,eΙ -> -bÝ <=Đ /\ Đ<=w,(um nÞ u2 kŪ),(by exact Lqi [_] ϒ cú Lq0 (.n 7) p7 rfl),Lqj Û Lq0 Lq1 ϒ ϑ cÀ rfl,(.a ñ (.a jξ (.a ö ψ))),∀b ps,H b=some (.Pu ps) -> ∃more,H' b=some (.Pu (ps++more)),#[_,st,λv z=>by have z':Data.fields _=Data.cell v:=z;cases z'],λb hb=>#[by rw[bS (a7 (Uf b hb))];show(yQ b hb).1,dō],it ρ M λxs keep M1=>za xs keep own fr g c AH g2 c2 el ρ M1 q,∀x,cŒ=(ō+nŇ) % p,(by exact Lqi Ĝ ι τ Lq0 Lq2 hk rfl),(by change(kϻ:Ĉ).Nodup;decide+kernel),[Ε,gŎ,gń,ϧ],(bH (vn rfl) ŋ T.Rl Boot.«max» (aa aA gŕ)),(LqNt (Lqj [_] ý Lq0 ið Lq0 cÀ rfl)),jĭ=0 /\ mĘ=xs.length,(by rw[aU];exact Nat.le_of_lt (Nat.lt_of_le_of_lt cñ hz)),(W.fnOf x qual aϩ aϪ aϫ .none kV kl pm an cdv ct),#[m,hn.sameBut sb cS,λh' Ts=>#[_,H',mW I3 rfl I6 Ic.free Ts,q]],wpAny _ _ (if mΤ then _ else _) _ _ s,s1.heap.push {cls:= .type "dict_items",data:= .fields #[ań]},#[_,_,_,e,dϴ,hŪ,hū,rfl,rfl],(by change(lİ:Ĉ).Nodup;decide+kernel),(LqNt (Lqj Û Lq0 Lq1 ϵ Lq1 hi rfl)),s.heap.get? l=pĂ,s₁.heap.get? a=some oŶ,wpAny Χ A (Builtin.SmallTypes.nextOf bŸ) Q E s,(∀b o,b∉wr ->b≠Z ->oî),Lqf Û ϳ ο (LqIp h this) rfl,⟨mŰ,Int.le_trans (LqId e1) ú⟩,(dF (jN rfl) ŋ T.iM Boot.«list» (aa hØ ar)),(aa pũ ar),(∀i,i<l ->LE less kę kĚ),(none,d.2.1,aΦ,aΧ.1,cÌ+1,cÍ.1,cÍ.2),Lqj Ĝ ι Lq2 ϱ Lq2 c2.1 rfl,λxs H Q=> ∃i,xs= [Ă] /\ Q (.int (jϖ)) H,λb o n1 n2 e=>Ht b o n1 n2 (nϖ),Lqf Û ϳ ο (LqIp hk this) rfl,(sZ ŋ T.lL.choose_spec (show RelV (.int 8) _ from Ĺ)),((eĆ).modify (iΞ - 1) _).push bĊ=_,wpAny Χ A (Builtin.«list.sort» fϺ) P E s,∀y∈scope.names,y.2= .local ->kĶ=dā,(∀x M' v H',q x M' ->ĥ ->cϏ ->dŞ ->aĜ),#[d,e,h3,h4,h1.rep m r1,h2.rep m r2,mΙ],(Lb oŻ j a ha its.toArray),λ_ _ _ _ _ st h=>let ⟨⟨_,he⟩,_⟩:=st;wpAny_pyIter_enum he h,(bÉ -> -aş<n /\ n<aş /\ iϻ<=15000000),(by exact pŞ),λc bG=>hſ /\ oë,T.keep _ _ _ RZ pě,∀st∈sts,Ī<=oϴ,[Τ,eϯ,eÊ,Ε,gŎ],(gH (gT (aK T.AA (pe T) hr (aa mϡ ar)))),["p",ŗ,"patterns",aω,bï,ť,"firsts",bϠ],(dE lá λus s1 ⟨vs,H1,I1,r,q⟩=>#[I1.pH,?_]),λgh C=>compPost Ϥ X.A X.xe none gÏ gh C,λx=>decide (ĩ<=x /\ x<oĆ),(by exact Lqi Û ι ο ö ö LqI0 rfl),KH (show t.c∈Δ by rw[<- ll.key];show iŠ),(gf ŋ T.gF (aa oŦ ar)),(by change(mŻ:Ĉ).Nodup;decide+kernel),I.turned (t':=s.toks) (λb o hb e=>hΘ e) f0 f1 f3 f4 f5,(W.fnOf cΒ q aϩ aϪ aϫ .none kV kl pm an cdv ct),#[_,_,_,e,fό,iŻ,iż,rfl,rfl],[aψ,"p",cş,aΑ,"lap",bϠ,bϡ,"rest",cŞ],pure (.done (næ,Ķ,i,j+1,mg,ac,bc)),(oő) /\ ∀p∈bĚ,p.1≠b,PySem.argBest (oú) gϒ,(by exact Lqi [_] Ϣ Lq0 ið Lq0 hp rfl),(.lst (rest.map λz=>wb (oζ))),BF pγ aϪ t,I.laid (t':=s.toks) hΟ õ #[dg _,[],0, .nil,Ŀ],λz M3 v3 H3 h3 t3 m3 r3=>k z M3 v3 H3 h3 lĀ m3 r3,ih j (by exact Lqj Û Lq0 Lq1 ϒ ϑ h' rfl),PySem.argBest (oĠ) gϒ,nx _ _ _ _ _ (by exact Lqi [_] ö ϒ ö Lq0 hi rfl),Lqi Û Α Lq1 ϒ kĜ r1 rfl,big (by exact LqNv (Nat.le_trans (LqNe hLl) kŽ) rfl),(mirror Ū (fè) aĂ ((Á - (fè)) / 2)),show kr f v (aØ::r)=(if k=f then(k,v)::r else aØ::kr f v r) from rfl,gq k (A.deeper (PyProof.Rows.envOfC qual aϫ s.heap.objs.size f cdv)),λp hp=>k _ _ _ _ iĻ Ϧ (m.sC hp rr) WR.v,(by change(nŏ:Ĉ).Nodup;decide+kernel),(by change(nŔ:Ĉ).Nodup;decide+kernel),(aa mϦ oé),(by exact Lqj Ĝ Lq0 lÏ Lq0 ξ hN rfl),(Draws.list oŻ j a ha its.toArray),oϰ++(dς j).map aŤ,Builtin.Builtins.bindParams aå ["key",cĸ] 0 #[[],gϝ],{s with heap:=pΚ},(pϧ).objs.size,(by exact LqNx (Lqj Û Lq0 Lq1 ϒ ϑ hj rfl) z),((dϖ).map ć).filter (λy=>decide (kŢ≠0)),(gf ŋ T.gF (aa pí ar)),(by change(nϥ:Ĉ).Nodup;decide+kernel),Lqj [_] ϒ kĝ ö Lq0 ϔ rfl,∀nA,isTrue a X.env nA=(do let v <- nA;standAt a.pos;kĪ),(newFunctionEnv scope X.env.globals cl [] X.env.qual none .none (some X.env)),λρ2 M2=>c ρ2 M2 λb M3=>iK b (nÅ) (N none M3),(λ_ _ _ _=>(cT (aa ĕ (aa ođ ar)))),(by exact Nat.lt_of_lt_of_le oΔ jb),λh' eb=>#[rfl,I.turned (t':=s.toks) (λb o hb e=>eb b o hb e) f0 f1 f3 f4 f5],(UB ha hb I h λv u s2 x y H2 I2 rx ry q=>ho aj s2 σ H2 x y v u Q I2 rx ry q),λxs H Q=>cM λi j=>xs= [Ă, aĦ] /\ Q (.int kΘ) H,W.findIn K Ń fě =oű,LqNx (Nat.le_trans (LqNd hx) dŌ) (Nat.le_trans dį (LqNe hx)),λh2 eb=>#[rfl,I.turned (t':=s.toks) (λb o hb q=>eb b o hb q) f0 f1 f3 f4 f5],ah (wpAny_standAt (ah (cg h (λit' s' h'=>aD (And.intro rfl h')) cι))),∀cl fp s3 H3 x,pΦ,Lqi [_] ö cŬ ϣ eϘ (LqIp this this) rfl,[iź,iž,iſ,jë],(λx=>match x with | .tup [.v (.int x),s]=>some (.tup [wi (x+b),s]) | _=>none),(aa (kS ŋ T.iT Boot.«tuple» (show RelV (.ty aϑ) _ from rfl)) ar),Lqi Û ö ι ϣ ο (LqIp s0 d0) rfl,(by exact Lqj Û ϒ Lq1 ϵ Lq1 hi rfl),lD λo' i' j' d=>d6 jν kġ (i+j+1<=aË),lD λi' j' o' d=>d6 jψ kĢ (aË+1<=i+j),wpAny_newFunctionEnv S.uw (by intro y hy;simp at hy) (λh₁ TH Tr=> ?_) S.kind,Nat.lt_of_le_of_lt hb (LqNt (Lqj [_] ñ Lq0 Ϣ Lq0 hl rfl)),λb o e=>hm.heap b o pã bņ,{cls:= .type "tuple_iterator",data:= .fields (List.toArray [aĵ, .int 0 0])},oϰ++(dς Þ).map aŤ,(if x<0 then(x+kĹ).toNat else min x.toNat its.toArray.size),(λx=>match x with | .tup [x, .v (.int s)]=>some (.tup [x,wi (s*n)]) | _=>none),(Lqj Ĝ Lq0 lÏ Lq0 ϲ LqNs rfl),(by exact Lqj Û ϒ Lq1 mĠ Lq1 hu rfl),(Lqi Ĝ ké ká ö ö LqI0 rfl),(Lqi Ĝ ká ké ö ö LqI0 rfl),(Lqi Ĝ kË kê ö ö LqI0 rfl),(Lqi Ĝ jϸ jŻ ö ö LqI0 rfl),(j==NameKind.free && lΑ && lö)=true,ah (wpAny_standAt (ah (cg (turn n s hI) (λr s₁ h₁=> ?_) hϐ))),PySem.CmpOf.ints_lt iŇ oŝ,λe=>Lqf [_] ϶ ϖ (LqIp s0 ŭ) rfl,λe=>Lqf [_] ϶ ϖ (LqIp p0 ŭ) rfl,(by rintro a b c d ⟨m',hm,h⟩ t o;exact #[m',hm,a,b,h,j϶,o]),(∀i ys M,eŦ ->bş ->aō /\ iĿ /\ ys.length<=i),Call_ (iI I hg hm Boot.«enumerate» oμ),∀w x,hŁ=(gϥ+nϙ) % p,(by exact Lqj Û cŬ jÑ ö Lq1 ϔ rfl),(by exact Lqj Û cŬ jÓ ö Lq1 ϔ rfl),jr (by exact Lqj Û ϒ ϑ ϒ Lq1 hn rfl),Calls.call_function_entry kind_sorted plain_sorted entry_sorted (args_sorted1 _) ?_,(by exact LqNx (nÃ) (Nat.le_trans (LqNd h) cñ)),#[ag.mpr #[c,h.bot,h.ok.own],λx hx=>by let⟨y,hy,rfl⟩:=bν;show h.ge y hy],(qQ (st:=st) l c k).binds λkV kl pm an cdv ct us e=>(b kV kl pm an cdv ct).to us e,λe=>Lqf [_] ϶ ϖ (LqIp Õ ŭ) rfl,a4 (qV (by exact Nat.le_of_lt (Nat.lt_of_le_of_lt hl (Nat.lt_of_lt_of_le Md abV)))),(by exact Lqj [_] Ϣ ϒ ö Lq0 ϔ rfl),{cls:= fĆ,data:= .fields (List.toArray [.int lo t, .int hi u, .int 1 v])},(dE jě λu s1 ⟨x,H1,I1,rx,q1⟩=>mτ),(.lst (qï)),∀w x,hŔ=(gϥ+oà) % p,(by exact Lqi ř Ϫ Lq3 jϸ Lq3 ekp rfl),(∀ (i:Nat) p,gě -> ∃b,aĴ =some (aļ) /\ jT K H b eψ),λe=>Lqf [_] ϶ ϖ (LqIp ü ŭ) rfl,⟨ü,Lqi Û ϒ ϑ ϒ Lq1 ú rfl⟩,⟨ü,Lqi Û ϒ gΖ ϒ Lq1 ú rfl⟩,(by exact Lqi Ĝ Lq0 ι gť ξ (LqIp hw w0) rfl),(QZ t ht j hj).2 (by exact Lqj Û Lq0 ο ö Lq1 ϔ rfl),(ax (dN lĭ hŨ cj) (aG (bo kĂ))),um pϔ v iņ,um oÇ v oε,Lqj Ĝ Lq0 Lq1 lí ϰ (LqNp l this) rfl,w x M q ->qÁ ->r v H Q,h1.push qđ,Lqj Ĝ Lq0 Lq1 lÅ ϲ (LqNp this h) rfl,(T.ma i qċ),Lqj Ĝ Lq0 Lq1 lÍ ϲ (LqNp k1 LqNs) rfl,(λm' hm=>by let⟨o',es',ep',Om,r'⟩:=hm;rw[ho] at Om;cases Om;show#[_,es',ep',hL,r']),Lqj Ĝ Lq0 Lq1 lí lÏ (LqNp hn this) rfl,ib.imp ρ M1 σ H1 _ _ Β h1 λb M2 H2 h2 t2 m2=>k b M2 H2 h2 fľ m2,Lqi ř mĶ μ jÔ Lq3 this rfl,(by change(pÐ:Ĉ).Nodup;decide+kernel),(yF (sts:=sts) (D:=7748) (p:=p) s0 eÝ λst h=>#[dÙ,yS st h,cf.low st h]),jď /\ jΝ /\ ∃vs,Ŝ /\ h.DictOf bĎ a vs,(r.drop (jĭ)).take pĭ,gĄ ->bŌ ->(∀b M' H',q b M' ->ĥ ->cϏ ->Q b H') ->bğ,ai (by exact λe=>Lqf Û ϳ ο (LqIp l ŭ) rfl),codeAny Χ A pΥ R s,(.lst (qï++ [z])),um nϢ x pË,(dE (h pos aj s σ H _ I hq) λus s1 ⟨xs,H1,I1,r,z,q⟩=>#[by rw[<- r.length];show z,?_]),callWith pos f first (backTo pos (starEach [] X.env)) nϯ,(xs.drop (jĭ)).take pĭ,s.heap.push qđ,I2.kept (t':=tk) λb o e=>hm b o pã bņ,p6 (fŶ) (fŶ - (len - 1)).toNat++zD (cϱ) (0 - cϱ).toNat,(by exact qĞ),(by exact Lqj Û ϒ ϳ ö Lq1 ϔ rfl),(dZ (n:=2) rfl (a9 nÙ (a9 nÚ c5))),(dZ (n:=2) rfl (a9 nÚ (a9 nÛ c5))),(dZ (n:=2) rfl (a9 nÝ (a9 ná c5))),(dZ (n:=2) rfl (a9 nâ (a9 nÝ c5))),(mH İ Ė Ę (aK T.stood (uq T) hr oå) rfl),(dZ (n:=2) rfl (a9 ná (a9 nÙ c5))),Lqj Û ñ Lq0 lϰ ι (LqNp k1 Ϡ) rfl,(T.mb aΩ qý),[iÎ,iÏ,(ĭ,wi t.c),(ŕ,wi t.len),(aŮ,wi t.foot)],show((λt:dΞ=>decide (t.1=c)) ∘ λt:fV=>eϞ)=jÕ from rfl,(by exact Lqi Û Lq0 jÖ ϣ eê fÉ rfl),aN (wp_elem qý ?_),aN (wp_mR O L (l2:= []) B4 p4 e5 (by exact kģ) R4 kΒ),({s with heap:=s.heap.push {cls:= eď,dict:=none,data:= .seq ([]:ã).toArray}}:fk),Lqj Û (.a (.a ϒ (.n 50)) ñ) Lq1 mĠ Lq1 hu rfl,(iř).all qÏ,aN (wp_elem qċ ?_),{s3 with heap:=s3.heap.push {cls:= .type "slice",data:= .fields (List.toArray [vl,vu, .none])}},w x ρ M q ->(∀ρ' M' σ' H',q ρ' M' ->ĥ ->iķ ->Q σ' H') ->t v σ H Q,g2 (gW b) ρ2 M' λρ3 M5=>c2 ρ3 M5 λb M6=>iK b (el ρ3 M6 λz M7=>N (aŌ) M7) (N none M6),ai (by exact λe=>Lqf [_] ϶ ϖ (LqIp hs ŭ) rfl),um oŇ r pÍ,s.heap.push qĮ,callWith pos f first (backTo pos (kĴ)) nϯ,(items.toList.drop (iĠ)).take (mÅ - iĠ),wpAny_assign_Name (qx I5 hN hx hl (show RelV cĒ cĒ from rfl) (λs6 I6 Og=> ?_) hf),λy M2=>c ρ M2 λz M3=>cM λkvs k=>d6 (iϱ) bŗ (lĂ),bs.map (lĝ)++((t,alo,an)::sts.map λst=>nń),(λx=>match x with | .v (.int n)=>if bŮ=0 then none else some (cx (n,bŮ)) | _=>none),(by exact Lqj Ĝ ϒ ξ ϒ ξ (LqNp h1 n1) rfl),s1.heap.push {cls:= fĆ,data:= .fields (List.toArray [bČ, cĴ, .int c RV])},(dϠ).keep U8 (S6 (dϠ).ins) λx hx gQ=>gJ.xl u e nÑ,Lqj Û ι fϏ ι (.a fÀ fÀ) (LqNp ha hb) rfl,(LqNt (Lqj Ĝ Lq0 Lq1 lË ξ lϳ rfl)),(λr s'=>r= .ok (.ret eń) /\ OldK s₁.heap s'.heap /\ s'.os=s₁.os /\ gθ),ib.imp ρ M1 σ H1 _ _ Β h1 pθ,AI (t:=nù) S I3 oJ pO C6 (λb hb=>by rw[RW];show eŒ) TH old,(by exact Lqj Ĝ Lq0 Lq1 lÍ ϲ fϭ rfl),LqNt (Lqj Û ñ ι iï ο (LqNp TL Ϡ) rfl),dE lÞ λu s2 ⟨y,H2,I2,r2,q2⟩=>dE (ho aj s2 σ H2 x y v u _ I2 r1 r2 q2) ?_,λxs H Q=>(∃i,xs= [Ă] /\ Q bĢ H) \/ ∃k,xs= [aÕ] /\ Q (.int jĢ) H,Lqj Ĝ nΙ Lq2 nϊ Lq2 hu rfl,(Lqi ř mΦ (.a π eõ) ö ö LqI0 rfl),(B.ind qŕ),(LqNt (qŝ)),s.heap.get? p.1=bě /\ H p.1=none /\ p.1≠X.env.locals /\ p.1∉X.fs /\ ∀v,p.2.data≠ .cell v,#[jĔ,jĔ,I.base.free,gε,I.base.vE,I.base.sJ,I.base.vH],eB (Call_ (iI I hg hm boot_range (bY (dE (ha yr aj s σ H _ I h) ?_) (by rw[hs,lv]) (by rw[lv];rfl)))),(λ_ _ _ _=>(aV (i:=0) (by change(jű:Ĉ).Nodup;decide+kernel) rfl Ζ)),[ζ,Τ,"_law_way",dÇ,"_law_often",jç,bϭ,"_law_one"],(by exact LqNx (Lqj Ĝ Lq0 ξ ϒ ϰ hj rfl) (LqNz c)),λp ns hp h1 h2=>k _ _ _ _ (h p ns eś h1 h2) Ϧ (m.sC hp (db.ofInts ns)) WR.v,(show p≠0 by exact λe=>Lqf [_] ϶ ϖ (LqIp hp ŭ) rfl),(qŒ).objs.size,g (fW a) gĈ M qû,(show p≠0 by exact qğ),(bV cB (cT (aa aA lϢ)) oŦ Η),(by change(pϟ:Ĉ).Nodup;decide+kernel),(by exact Lqj Û ñ Lq0 lϰ ι lϲ rfl),jď /\ jΝ /\∃xs,dĿ /\ h.DictOfH (iā) a xs,g (fW a) gĈ M λρ2 M2=>c ρ2 M2 λb M3=>iK b (AH ρ2 M3 λzp h_ M4=>B ρ2 zp h_ M4) (N0 M3),∀o ks,q nϘ nĊ (um M1 d (eŗ)),(gI ē qř),⟨Lqi Ĝ Ņ Lq1 hϹ ι (LqIp hl ü) rfl,Int.le_trans ú hh⟩,[none,dŻ,ε,θ,eÔ,dϵ,fà,some hÒ,none],(dE lá (by rintro us s1 ⟨vs,H1,I1,r1,q1⟩;exact hc aj s1 σ H1 vs us Q I1 r1 q1)),(by exact Lqi Ĝ mϣ mϤ ö ö LqI0 rfl),(qŭ).objs.size,iϝ /\ (∀x,bŘ=û ->q x M3) /\ (bŘ=none ->q z mħ),(by exact Lqi ř mĸ mĹ ϕ Lq2 q rfl),#[d,f8 m,eű,rfl,av,AB m,(by rw[ab];show big (by exact jò)),λsp ns vR dP jk=> ?_],Lqi ř Lq0 jÔ Ϙ (.a Lq3 (.s jÔ Lq3)) (LqIp l0 Ox) rfl,(hc (by exact qŝ)),(by exact Lqj ř ι Lq2 jπ ν mĄ rfl),(by exact Lqj Ĝ lϺ Lq1 lÆ ξ (LqNp ia hk) rfl),if m϶=true then kvs.map oÏ else kvs++ [(k,v)],(qŵ).objs.size,a ρ M λxs M1=>gm λ dω=>d6 (xs= [wi i,wi j,wi c]) (Dv i j c) (q (re i c (LW i j c)) dū M1),[(Ϗ,wr l),(ϐ,wr q),iſ,jë,(fύ,e)].lookup,(by exact Lqi ř mΦ mϑ ö ö LqI0 rfl),Q (.int aϟ s.toks) kΗ ->pω,(∀ (p:gg) (ns:ā),ņ ->ns.Perm ks ->kĽ ->q č (um M p (.lst dŧ))),LqIx (Lqi [_] ϖ Lq0 ö ö LqI0 rfl) (Lqi [_] Lq0 ϖ ö ö LqI0 rfl),LqIx pĜ pĝ,(by exact qŽ),.seq (qů).toArray,λc ik=>ik=bG /\ cM λlo hi=>fU hî (hi<=n) (∀i,i<hi ->cÅ) mϨ,(show 0<=2*K by have:=h.k0;exact qĆ),λgh C=>compPost Ϥ X.A X.xe (nú) (lΔ) gh C,(∀r:Rd,cϧ ->(a.1=0 ->cϩ<=cϠ) ->(bÉ ->cϩ<=iϻ) ->q (gL r) M),(pτ) \/ ∃n∈ns.take b, ∃w∈hŸ,z=h+n*w,(∀ (p:gg) (ns:ā),ń ->ns.Perm ks ->kĽ ->Q bİ (dB H p (.lst gì))),Lqj ř ϒ Lq1 nĴ jž jϴ rfl,Lqj ř ϒ Lq1 nĴ jž (LqNp (LqNt AN) LqNs) rfl,#[sm _ _ i2.xz,λt ht=>jÛ fΘ iÒ kö,i2.nd,i2.qt,i2.xl],(aK T.first_column (gP T) hr (aa (dF (jN rfl) ŋ T.iM Boot.«list» kϹ) gŅ)),(show _<=iæ by exact Lqi Ĝ mĸ jÖ ö Lq2 l0 rfl),∀v u s2 x y H2,Inv X aj σ H2 s2 ->bġ ->Ł ->R x y H2 ->wpAny Ϥ X.A (f v u) Q X.xe s2,λc r=>if r=true then do let ok <- isTrue c env (eval c env);lŕ else lø,∀ {H':Hp},jϏ -> ∀b∈fp,lq Ϻ [] H' b,a ρ hϞ λx M1=>b ρ M1 λy M2=>M2 p=some bł /\ ∃k,x=gC k /\ q č (um M2 p (.dK [(k,y)])),(um (um (um (um M' e1 (.dK (f8 st))) q1 bł) q2 (.dK [(aΗ,W.v (V.int 1))])) q1 (.dK [(.inl Ĥ,wr q2)])),(by exact Lqi Ĝ ι mϣ ϣ π gœ rfl),(by exact Lqi Ĝ ι mϤ ϣ π gœ rfl),(by exact Lqj ř ϯ Lq2 nĖ ν fä rfl),wpAny_comprehension_free (use:=none) rfl hs uN S.kind S.loc pŭ,Lqi ŵ oϡ oÁ ö Lq4 l0 rfl,(by exact Lqj ř Lq0 Lq1 nĚ (.a Lq3 ϰ) (LqNp hq LqNs) rfl),fin _ _ _ (dD _ (by exact λe=>Lqf [_] ϶ ϖ (LqIp n0 ŭ) rfl)) (cY _ n0),(by exact qΟ),(by exact Lqi ř ι mΦ ϣ ν gœ rfl),(by exact Lqi ř ι mϑ ϣ ν gœ rfl),{s with heap:=qŭ,toks:=tk},(mΓ==0 && aϢ==1 && (mÅ - iĠ)==items.size)=true,ah (ah (cg h₃ (λx s₄ h₄=>ah (cg h₄ (λ_ s₅ h₅=>aD (aD #[rfl,h₅])) hϐ)) hϐ)),λe=>Lqf Ĝ oΧ jϹ (LqIp l kŇ) rfl,(by have:=fB ga eΞ;exact qĴ),{cls:= hϦ,data:= .fields (List.toArray [.none, .bool false, jϓ,rawInt 0, .none, .none])},ϻ,(by exact Lqj Ĝ ϒ Lq1 (.a lÇ ö) ξ (LqNp hu Ϡ) rfl),cD Ϲ (by exact qĊ),bxr.2 z x (by have:=fB ni.ga hx;exact qĴ),[fϊ,ζ,Τ,jç,"_law_handed","_law_crew","_law_early","_law_form","_law_again"],[(Ϗ,wr ol),(ϐ,wr op),(gņ,wi f),(hÕ,aű),(fύ,bÖ)].lookup,((oë) \/ qČ),((oë) \/ qč),#[ok.mod,ok.kind,ok.glob,ok.blt,ok.above,ok.inj,ok.has,ok.Zk,ok.hd,ok.frames,ok._h,ok.exf,ok.bs,ok.Mq,ok.JO,ok.GQ,ok.sI,ok.Ug],(by exact qϗ),LqIx pΑ pΒ,LqIx (Lqi Û kß Lq0 ö ö LqI0 rfl) (Lqi Û Lq0 kß ö ö LqI0 rfl),Lqi Ĝ mĶ ι eİ ϣ (LqIp (LqIe ü) ((LqIe ü))) rfl,M3 t'.o=some (.ins S t'.ds [(ī,wr t'.ol),(Ĭ,wr t'.op),(ĭ,wi t'.c),(ŕ,wi t'.len),(aŮ,wi t'.foot)]),Lqj ŵ ι Lq2 (.a ς ι) jΚ (LqNp hz (LqNp cñ ((LqNd TU)))) rfl,Lqi Κ (.a mΦ dÁ) eþ oÀ Lq5 this rfl,(by exact Lqj ř Lq0 Lq1 nė nĘ (LqNp (LqNk iR c2) LqNs) rfl),forIn iZ true qϝ,forIn gk true qϝ,#[hn b hb,?_,?_, .inl hb,oŷ,pΜ],ig.imp x v _ M' _ H2 _ _ oc r (hs i x ys M' hx hI) λρ3 M3 σ3 H3 h3 t3 o3=>ic.imp ρ3 M3 σ3 H3 _ _ o3 h3 λb M4 H4 h4 t4 m4=> ?_,(by exact Lqi ř mĸ jÖ (.a ö ϕ) χ fÍ rfl),Lqj Û ϵ kĜ lϱ eê lϳ rfl,aS #[rfl,_,_,rfl,by exact pŞ,by omega,by omega,g4,λj hj hjn=>EG _ j hj hjn e],dE (T.item Ϻ rfl rfl rfl jH i [] s4 _ H4 ύ I4 (tZ OJ) gZ go) ?_,(by exact Lqi ř Lq0 (.s jÓ Lq2) lě (.a Lq3 ο) (LqIp w0 (LqIp uK this)) rfl),#[dĲ,Bh p2 p7 ∅ ⋯ ⋯ ⋯ ⋯ ⋯ ⋯ D2 λu ms M' mb fu hu D' s'=>jc (k u ms M' mb (fre s2 D2 fu) hu D' (s2.trans s'))],LqIx (Lqi [_] ö lď ö ö LqI0 rfl) (Lqi [_] lď ö ö ö LqI0 rfl),bM.mp hn j i (by simp;exact Nat.lt_of_lt_of_le hj kğ) ⇑hi (by exact Nat.lt_of_lt_of_le hj (iϵ)),dE (T.done Ϻ rfl rfl rfl jH i [] s4 _ H4 ύ I4 (tZ OJ) gZ stop) ?_,(cĚ).filterMap qų=(aϸ).map cx,LqIx (Lqi Û hϭ Α ö ö LqI0 rfl) (Lqi Û Α hϭ ö ö LqI0 rfl),Lqj ř ϯ Lq2 ně χ (LqNp cÀ lŸ) rfl,dâ /\ ∃pl,jS (bċ) gŷ (Sg less cŴ lo ó) lľ (Runs less cŴ pl 0 lo),[dĚ,"zip","dict_itemiterator","dict_reverseitemiterator","odict_iterator","itertools.zip_longest","itertools.pairwise"].contains n,(by exact Lqj Ĝ cŬ (.a ξ cŬ) ϣ ξ oĔ rfl),(by exact Lqi ŵ mĸ ς (.a jÖ ö) (.a ς Lq2) (LqIp Tq l0) rfl),λi c ik=>ik=bG /\ cM λlo hi=>kM hî (lo<=hi) (hi<=n) (hi - lo<=n - i) (∀i,i<lo ->cÅ) mϨ,Lqj Ĝ (.a (.a (.a ϒ (.m 3 Lq1)) aĳ) ñ) Lq2 (.a (.a (.a Lq0 (.m 3 ϑ)) aĳ) ñ) Lq2 this rfl,(names.map λ(n,k)=>if(hĚ && lΑ && lö) then(n,NameKind.cell) else(n,k)).lookup x,ak (by exact LqIx (Lqi Ĝ Lq0 eŴ π Lq1 bĨ rfl) (Lqi Ĝ Α Lq2 Lq0 τ Ŏ rfl)),∀ (i:Nat) a zs,ws[i]? =ĉ ->hņ -> ∃BA:ā,BA.Perm (du (pf P a)) /\ zs=BA.map λsh=>nF (a,sh,look (pf P a) sh*n % p),(by exact Lqi Ĝ Lq0 mϣ mΑ jΙ lϤ rfl),λρ M σ H q Q o h k=>ia.imp ρ M σ H _ _ o h (by rintro x M1 v H1 ⟨b,e,h1⟩ t1 m1 r1;exact by subst e;show#[b,r1.eq,iĸ]),(gH (gT (bH jO ŋ T.fZ Boot.«isinstance» (aa ē qĉ)))),(gH (gT (bH jO ŋ T.fZ Boot.«isinstance» (aa Ė qĉ)))),∀b∈ch,oÌ /\ hÿ /\ qÚ,(by exact Lqi ř Lq0 mΦ mΑ jΗ lϤ rfl),(by exact Lqj Ĝ Lq0 bϯ (.a Lq1 lí) (.a Ē ϰ) (LqNp hp8 (LqNp Md ((LqNe l2)))) rfl),(by exact Lqj Ĝ Ϣ Lq0 nΚ (.a Lq2 ϱ) (LqNp (LqNk hj c) LqNs) rfl),a ρ M λx M1=>d ρ M1 λy M2=>cM λ aš ż=>fU (x=wr l) (M2 l=kϑ) (aŦ ->q y M2) (∀m,bÀ ->q (wi m) M2),⟨ü,Lqi Ĝ ϒ (.a Œ Lq2) (.a Lq0 kĜ) ξ (LqIp ú (Ϭ)) rfl⟩,(show la<=iæ by exact qΟ),∀j (g1:j<its.toArray.size) (g2:j<its'.toArray.size),SeqAt.EqAt A.in1 s its.toArray[j] its'.toArray[j] ((nϳ) j),(by exact LqNt (Lqj Ĝ ñ Lq0 (.a ξ iï) jΙ (LqNp cÝ lϳ) rfl)),#[p,r1.eq, .inl #[ks, .inl hk],ib.imp ρ M1 σ H1 _ _ Β h1 λy M2 u H2 h2 t2 m2 r2=>ic.imp ρ M2 σ H2 _ _ kώ h2 ?_],(by exact Lqi Κ oϡ oϢ gϻ Lq4 q rfl),∀m bG,fæ ->1<=m ->m<=eX ->Sg less Ū lo (lo+m) ->lķ ->nŽ ->Q (some m) bG,∀v h' tk,lĒ ->pϮ ->R (.ok (.ret v)) lε,Lqi Κ Lq0 oÆ Ϙ (.a Lq5 oϥ) (LqIp l0 hlp) rfl,(by exact Lqj ř nΙ Lq2 (.a ϑ lÎ) χ (LqNp hk (cÑ)) rfl),#[aı,"dict.items",PySem.F.plainAttrs_dict,PySem.F.slot_dict_items,PySem.F.type_dict_items,t1,t2,Calls.callWith_builtin rfl (PySem.evalArgs_none ?_)],(dq.of (sc:=bm sW) (N:= qÌ) (own:= [ĭ]) (fr:= [0,3]) (N':= jű)),wpAny _ _ (if qϬ then _ else _) _ _ s,LqNt (Lqj Ĝ ñ ι (.a ϓ ϣ) jŻ (LqNp hq oĔ) rfl),(by exact Lqj ř lϺ Lq1 nĠ jς (LqNp jb (LqNp hk ií)) rfl),ah (wpAny_callSpecial?_slot (name:=Str.ofString fĥ) ht.typeIs dz (wpAny_call_entry dz ht.typeIs entry_tuple_getitem ?_ (args_tuple_getitem _ _))),call_meetsIn PySem.F.slot_dict_items dd.typeIs PySem.F.entry_dict_items (PySem.F.args_dict_items_1 _) (meets_dict_items gτ d Ky) #[#[vs,dd],?_],(by exact Lqi Ĝ ö jÖ (.a ö (.a ö gϰ)) (.a Lq1 jϹ) (LqIp k0 (LqIp k0 (LqIp w0 uK))) rfl),(qϕ) \/ ∃w∈kĕ c,z=h+e*w,aS #[rfl,_,_,rfl,by omega,g2,by omega,λj hj=>mono j _ (by exact Lqj Ĝ Lq0 ξ ϒ lÌ hj rfl) ū e,g5],∀ (l q:gg) (f g e:W),qΩ Ϗ=some (wr l),∀ (l q:gg) (f g e:W),qΩ ϐ=some (wr q),lf qų (by rw[ab];show big QK) (λM3 s3=>s3 _ _ av) ?_ λt ht0=> ?_,yJ (t':=tk+1) I (λb o hb xm q=>hϧ (hk b o hb xm q)) fe fj #[by rw[c8];change 2<=bĩ;decide,[.int i tk,u], .cons Ĺ gΑ,?_],(LqNt (Lqj ŵ ι ν (.a eå ϑ) jτ (LqNp cÝ (LqNp g1 lĽ)) rfl)),(by exact Lqj ŵ ϒ Lq1 (.a ν (.a gŤ Lq0)) mž (LqNp hn (LqNp hxn ií)) rfl),codeAny dę callerA nø qŹ s₁,hN _ _ #[_,_,_,rfl,rfl,yE hn,aI uD (by exact Lqj Û ϒ ϑ Lq0 Lq1 hl rfl),ķ,λk hk=>(Au hk).elim (λe=>#[z,aù,e.symm]) (jm k)],(by exact rô),LqIx (Lqi Ĝ jϸ Ϫ ö ö LqI0 rfl) (Lqi Ĝ Ϫ jϸ ö ö LqI0 rfl),LqIx qė qĘ,LqIx (Lqi Ĝ kÌ kê ö ö LqI0 rfl) (Lqi Ĝ kË (.s Lq0 τ) ö ö LqI0 rfl),(by exact Lqi ř mΦ eϺ (.a (.a Lq0 (.m 14 ν)) Lq1) (.a eϺ (.m 13 ν)) (LqIp ae9 Ni.2) rfl),show i=eç by exact LqNx (Lqj ř Lq0 Lq1 (.a ϒ lÄ) (.a lÄ ϑ) fϪ rfl) h1,um qϠ x pÏ,(by exact Lqi Κ oϡ oÁ (.a ö gϻ) eÿ fÍ rfl),(λn s'=>gm λi ys H'=>fU (Inv Ϻ [] jϦ H' s') gÖ jϏ (W i n ys H')),λy M2=>c ρ M2 λz M3=> ∃kvs k,iϱ /\ aŋ /\ qΜ,(by exact Lqi Ĝ ö mϣ oŧ (.a Lq0 jΙ) (LqIp e0 lϤ) rfl),(LqNp hz (LqNp f1 ((LqNt (Lqj ŵ ι ν (.a eå gŴ) jτ (LqNp cÝ (LqNp g1 Ϡ)) rfl))))),wpAny Ϥ X.A (eĜ) (λv s₁=>wpAny Ϥ X.A (eĝ) (λu s₂=>wpAny Ϥ X.A (f v u) Q X.xe s₂) X.xe s₁) X.xe s,(by exact Lqi ř Lq0 oÁ oŧ (.a Lq3 jž) nŒ rfl),(by exact Lqi ř ö mΦ oŧ mΟ (LqIp e0 (LqIp ep0 hŴ)) rfl),Sm M' (rĊ),LqNx (Lqj Ĝ Lq0 Lq1 π τ (LqNt (pŞ)) rfl) (Lqj Ĝ Lq0 Lq1 υ ξ LqNs rfl),(by exact Lqi ϗ oϡ ψ (.a oÁ ö) jΒ (LqIp afA l0) rfl),(by exact Lqj ř ϯ Lq2 ně χ (LqNp hk (pϪ)) rfl),#[I.ok,I.os,I.bare,#[I.base.keep,I.base.slot,λb u h1 h2 h3=> ?_,I.base.there,λb xs h=> ?_,λb o' u h=> ?_,λb ps h=> ?_],I.loc,I.cell,?_,λx c h=> ?_,dĄ,λb u h=> ?_,I.len],gm λCr dr zv=>kM (M r=jŧ) (xU K Cr=True) (dJ K Cr ī =True) (dJ K Cr Ĭ =True) (zv.lookup Ϗ=eϵ) (zv.lookup ϐ=some (wr rp)),show x+ -sh*s=bΖ by rw[Int.neg_mul,bU s sh];exact rÒ,#[λi m vs H'=>gϋ /\ eŦ /\ cM λys M'=>jS (I i ys M') (bC H1 H') (cϏ) (db K H' ys vs) (H' p=gĂ),#[_,rfl,dg _,[],_,h0,tp,m1.sC hp db.nil,db.nil,cw],?_],(qű)=(λy M2=>c ρ M2 λz M3=> ∃k,aŋ /\ ∃kvs,iϱ /\ lĂ),(show lp<=nĒ by exact rï),LqIx qδ qδ,wpAny_pyNext_range_end eġ st (by have:n<=i:=hg;exact Lqi Û Α ö Lq0 Lq1 (jϑ) rfl) qþ,(∃m',m'<n /\ W ß m' Rt H9) ->∃m,m<n /\ gm λi ys H'=>fU (Inv Ϻ [] jϦ H' s9) (tn i s9.heap) jϏ (dŐ),ah (dE (wpAny_comprehension_free (use:=nú) (Q:=lΔ) rfl hs uN S.kind S.loc pŭ) λ_ s' hq=>aD (aD hq)),#[s.heap.objs.size,_,_,_,its.toArray.size,_,_,jł,rfl,pŲ,oĿ,λi v s' Q' E' e hq=> ?_,λs' hm=> ?_],c9 p (rĊ) e1 q1 st kź,aN (wpS_modify (aS #[À,pl++ [bĊ],rfl, qŴ,n2,#[B3.perm,B3.kd,B3.fl],?_,Runs.app.mpr #[lo,R3,rfl,n1,s3,rfl]])),∀ (aj:ω) (s:fk) (σ:St) (H:Hp) (x:V) (xs:Ä) (v:fi) (us:ã) (Q:VK),ϙ ->bġ ->bč ->r x xs H Q ->wpAny Ϥ X.A (call fģ (v::us)) gÏ X.xe s,ah (wpAny_callSpecial?_slot (name:=Str.ofString "__next__") hj.typeIs F.slot_tuple_iterator_next (wpAny_call_entry F.slot_tuple_iterator_next hj.typeIs F.entry_tuple_iterator_next ?_ (F.args_tuple_iterator_next_1 _))),(by exact Lqi Κ Lq0 oϥ (.a ö (.a ö (.a ö eþ))) (.a Lq4 (.a Lq2 (.a Lq3 eú))) (LqIp k0 (LqIp w0 (LqIp hE0 (LqIp afB this)))) rfl),(λ_ _ _ _=>(dZ (n:=2) rfl (a9 (aV (i:=0) pς rfl Ζ) (a9 (aV (i:=1) pς rfl Ζ) c5)))),(qŒ).push qϰ,um qϠ x pÏ x=some pÏ,∃I:jĹ,fU (I 0 ρ M1) (oŜ) (∀i x ρ M,Ψ ->bŝ ->g x ρ M λρ2 M2=>b {D with nx:=I ß,ct:=I ß,bk:=D.nx} ρ2 M2) (nό),(λok s₃=>if aϬ then wpAny Χ A (dŏ) (λx s₄=>wpAny Χ A (call lù [gh,x]) (λ_ s₅=> ∃m,m<n /\ I m s₅) ύ s₄) ύ s₃ else jĴ),∀ (s3:fk) (H3:Hp),Inv X aj σ H3 s3 ->(∀b∈fp,lq X aj H3 b) -> ∀ (D:gg) (σ':St) (H':Hp) (s':fk) (t:Nat),D<s3.heap.objs.size ->Inv mÇ [] σ' H' s' ->Q (.ref D) H' ->RR (.ref D) s3.heap.objs.size dŎ s',(hs bú (base+j) qÆ (by exact Lqj Ĝ ι π Lq1 Lq2 iR rfl) (by exact Lqj Ĝ ϯ π ϑ Lq2 hj rfl)),(fg be rfl (d_ ē) qř (aG (mH İ Ė ė (bJ gV (bJ eV (oZ İ Ė ė aA mϜ) Ę) ĕ) rfl))),#[by rw[aH Qp,aý,aH NN,aý];show av,by rw[aH LX];show av,(λt ht=>by rw[bϞ,aH XG,dÏ];show av),Q0,(λt ht=>by rw[bϞ];show#[by simp,λz hz=>by rw[ae.mp hz];show#[⋯,by change aϢ <p;lia]]),by simp,by simp[ca,wY,NN,JT]],⟨Lqi ŵ Ņ Lq1 (.a ν (.a bĺ bύ)) (.a Lq0 (.a eϛ Lq4)) (LqIp TU hŏ) rfl,Lqi ŵ Lq0 Lq1 (.a ν (.a eϜ Lq4)) jϜ (LqIp hh2 hŐ) rfl⟩,#[À,(l1++ [(u1,u2,power' a₀.size (2*s1+S') (2*s1+S'+S'+n) a₀.size)])++ [bĊ],rfl, qŴ,n2,#[B4.perm,B4.kd,B4.fl],?_,Runs.app.mpr #[lo,z7 R4,rfl,n1,s4,rfl]],f9 (λi ρ M'=>gm λ e϶ (m:Pt)=>kM (ρ= [ε,eÉ,dŻ,o1,o2]) (M'=um M d (.dK aŗ)) (jĻ) (m.length<=i) (∀x,ŏ=dM (ps.take i) x % p) (∀k∈eű, ∃q∈ps,aÜ)) #[none,none,[],rfl,rfl,List.nodup_nil,Â,λx=>by simp[look,dM],by simp] ?_ ?_ ?_,aN (wpS_mono (c6 (I:=λ_ c gZ=>rÔ) (Q:=λc gZ=>rÔ) ?_ (λc gZ h=>h) #[rfl,pl,cS,B3,s3,p3,R3]) ?_),(by exact LqNx (Lqj ŵ Lq0 Lq1 (.a Lq2 (.a (.a Lq0 (.a ϕ ñ)) Lq4)) (.a ϑ (.a Lq4 lÄ)) oÛ rfl) (Lqj ŵ Lq0 Lq1 (.a ϒ (.a Lq2 lÕ)) (.a Lq3 (.a (.a Lq1 (.a gŤ ñ)) Lq2)) (LqNp cķ (LqNp LqNs (cÑ))) rfl)),show Ã+(sb+m - ač)=sb+m by exact LqNx (Lqj ŵ Ϫ ς jι ς rĀ rfl) (Lqj ŵ ι jο ι jΘ LqNs rfl),Ϩ /\ ∀p,ţ -> ∃I:kĿ,fU mĩ qġ (∀i x ys M,Ψ ->bş ->g x gĈ M λρ2 M2=>c ρ2 M2 λb M3=>if ò then el ρ2 M3 λy M4=>iϲ /\ I ß cϚ mÊ else fŊ) oö,(dN (bL iX Ė aA Ĕ) (aG (bo (fA rfl (dq.of (sc:=bm j6) (N:= qξ) (own:= [bϭ]) (fr:= [0,1]) (N':= nϦ)) qÒ (λ_ _ _ _=>(aV (i:=0) (by change(nϦ:Ĉ).Nodup;decide+kernel) rfl Ζ)) fH Ϝ (λ_ _ _ _=>(aK T.tz (oo T) hr (aa ē (aa Ė lϢ))))))) cj),#[_,(ax (dN (bL o0 Ė aA Ĕ) (aG (bo (aK T.repeated oH hr (aa ĕ (aa (aK T.backward (rG T) hr lϟ) kε))))) cj) (ax qΕ (ax (dN (bL iX ė aA Ĕ) (aG (bo (cT (aa aA (aa (aK T.timed (uo T) hr (aa ĕ (aa Ę gō))) ar))))) cj) (ax (rD (i:=5) (n1:=2) rfl nd rfl eŌ (dq.of (sc:=bm ju) (N:= oď) (own:= [į,Ŧ,"k"]) (fr:= [3,2]) (N':= nŔ)) (iw Ę) (λ_ _ _ _=>(dZ (n:=2) rfl (a9 (aV (i:=0) që rfl Ζ) (a9 (aV (i:=1) që rfl Ζ) c5)))) ⋯ (ER kŸ kŸ) Ϝ (λ_ _ _ _=>(gf ŋ T.gF gŏ)) (λ_ _ _ _=>(aV (i:=2) që rfl Ζ)) nΓ Ϝ (λ_ _ _ _=>(cT (aa (bJ eV ĕ kĒ) gŅ))) rfl) (aG (bo (cT (aa kĒ (aa (aK T.tidy aΖ hr lϧ) ar))))))))),?_])
inductive Lqx|v (i:Nat)|n (k:Nat)|a (x y:Lqx)|s (x y:Lqx)|m (k:Nat)(x:Lqx)|g (x:Lqx)
def Lqat:Ĳ→Nat→Int|[],_=>0|x::_,0=>x|_::l,i+1=>Lqat l i
def Lqx.I (c:Ĳ):Lqx→Int|v i=>Lqat c i|n k=>dÚ|aÀ=>x.I c+y.I c|s x y=>x.I c-y.I c|m k x=>dÚ*x.I c|g x=> -x.I c
def Lqbt:bô→Nat→Nat|[],_=>0|x::_,0=>x|_::l,i+1=>Lqbt l i
def Lqx.N (c:bô):Lqx→Nat|v i=>Lqbt c i|n k=>k|aÀ=>x.N c+y.N c|m k x=>k*x.N c|s _ _=>0|g _=>0
def Lqx.ok:Lqx→Bool|v _=>true|n _=>true|aÀ=>x.ok&&y.ok|m _ x=>x.ok|s _ _=>false|g _=>false
def Lqd:Ĳ→Ĳ→Int|aÁ,aÂ=>p*x+Lqd ps xs|_,_=>0
def Lqa:Ĳ→Ĳ→Ĳ|aÁ,q::qs=>(p+q)::Lqa ps qs|[],q=>q|p,[]=>p
def Lqu:Nat→Ĳ|0=>[1]|i+1=>0::Lqu i
def Lqx.p:Lqx→Ĳ×Int|v i=>(Lqu i,0)|n k=>([],dÚ)|aÀ=>(Lqa x.p.1 y.p.1,x.p.2+y.p.2)|s x y=>(Lqa x.p.1 (y.p.1.map (-1*·)),x.p.2-y.p.2)|m k x=>(x.p.1.map (dÚ*·),dÚ*x.p.2)|g x=>(x.p.1.map (-1*·),-x.p.2)
theorem Lqda:∀(p q c:Ĳ),Lqd (Lqa p q) c=Lqd p c+Lqd q c
 |[],q,c=>by simp[Lqa,Lqd]
 |aÁ,[],c=>by simp[Lqa,Lqd]
 |aÁ,q::qs,[]=>by simp[Lqa,Lqd]
 |aÁ,q::qs,x::c=>by
  have:=Lqda ps qs c
  simp only[Lqa,Lqd,this,Int.add_mul];omega
theorem Lqdm (k:Int):∀(p c:Ĳ),Lqd (p.map (k*·)) c=k*Lqd p c
 |[],c=>by simp[Lqd]
 |aÁ,[]=>by simp[Lqd]
 |aÁ,x::c=>by
  have:=Lqdm k ps c
  simp only[List.map,Lqd,this,Int.mul_add,Int.mul_assoc]
theorem Lqdu:∀(i:Nat)(c:Ĳ),Lqd (Lqu i) c=Lqat c i
 |0,[]=>rfl
 |0,x::c=>by cases c<;>simp[Lqu,Lqd,Lqat]
 |i+1,[]=>rfl
 |i+1,x::c=>by
  have:=Lqdu i c
  simp[Lqu,Lqd,Lqat,this]
theorem Lqx.sound (c:Ĳ):∀e:Lqx,e.I c=Lqd e.p.1 c+e.p.2
 |v i=>by simp[I,p,Lqdu]
 |n k=>by simp[I,p,Lqd]
 |aÀ=>by simp only[I,p,Lqda,b϶,sound c y];omega
 |s x y=>by simp only[I,p,Lqda,Lqdm,b϶,sound c y];omega
 |m k x=>by simp only[I,p,Lqdm,b϶,Int.mul_add]
 |g x=>by simp only[I,p,Lqdm,b϶];omega
theorem Lqdz:∀(p c:Ĳ),p.all (·==0)=true→Lqd p c=0
 |[],c,_=>by simp[Lqd]
 |aÁ,[],_=>by simp[Lqd]
 |aÁ,x::c,h=>by
  simp only[List.all_cons,Bool.and_eq_true,beq_iff_eq] at h
  simp[Lqd,h.1,Lqdz ps c h.2]
def Lqx.z (e:Lqx):Bool:=e.p.1.all (·==0)&&decide (0≤e.p.2)
theorem Lqx.nn {e:Lqx}(h:e.z=true)(c:Ĳ):0≤e.I c:=by
 simp only[z,Bool.and_eq_true,decide_eq_true_eq] at h
 rw[sound,Lqdz _ c h.1];omega
theorem Lqi (c:Ĳ)(a b l r:Lqx)(h:fá)(k:jŶ=true):a.I c≤b.I c:=by
 have:=Lqx.nn k c
 simp only[Lqx.I] at this;omega
theorem Lqf (c:Ĳ)(l r:Lqx)(h:fá)(k:jĀ=true):False:=by
 have:0≤l.I c-r.I c-1:=Lqx.nn k c
 omega
def Lqp:bô→Ĳ:=List.map Int.ofNat
theorem Lqbu:∀(c:bô)(i:Nat),Lqat aΜ i=Int.ofNat (Lqbt c i)
 |[],_=>rfl
 |x::c,0=>rfl
 |x::c,i+1=>Lqbu c i
theorem Lqx.up (c:bô):∀e:Lqx,e.ok=true→e.I aΜ=Int.ofNat (e.N c)
 |v i,_=>Lqbu c i
 |n k,_=>rfl
 |aÀ,h=>by
  simp only[ok,Bool.and_eq_true] at h
  simp only[I,N,up c x h.1,up c y h.2];rfl
 |m k x,h=>by
  simp only[I,N,up c x h];rfl
theorem Lqj (c:bô)(a b l r:Lqx)(h:fâ)(k:(jŶ&&(a.ok&&b.ok&&eÞ))=true):a.N c≤b.N c:=by
 simp only[Bool.and_eq_true] at k
 have:=Lqi aΜ a b l r (by rw[Lqx.up c l k.2.2.1,Lqx.up c r k.2.2.2];exact ië) k.1
 rw[Lqx.up c a k.2.1.1,Lqx.up c b k.2.1.2] at this
 exact Int.ofNat_le.mp this
theorem Lqg (c:bô)(l r:Lqx)(h:fâ)(k:(jĀ&&eÞ)=true):False:=by
 simp only[Bool.and_eq_true] at k
 exact Lqf aΜ l r (by rw[Lqx.up c l k.2.1,Lqx.up c r k.2.2];exact ië) k.1
section
variable {a b c d:Int}
theorem LqI0:ě≤0:=Int.le_refl 0
theorem LqIv (h:Ù)(e:decide (b≤c)=true):a≤c:=Int.le_trans h (of_decide_eq_true e)
theorem LqIk (h:Ù)(h':a≠b):a<b:=by omega
theorem LqIq (h:a<b):aΝ:=h
theorem LqIl (h:aΝ):a<b:=h
theorem LqIw (h:¬Ù):aΞ:=Int.not_le.mp h
theorem LqIz (h:¬a<b):aÃ:=Int.not_lt.mp h
theorem LqIe (h:a=b):Ù:=Int.le_of_eq h
theorem LqId (h:a=b):aÃ:=Int.le_of_eq h.symm
theorem LqIp (h:Ù)(h':c≤d):a+c≤b+d:=Int.add_le_add h h'
theorem LqIx (h:Ù)(h':aÃ):a=b:=Int.le_antisymm h h'
theorem LqIn (h:aΞ):¬Ù:=Int.not_le.mpr h
theorem LqIm (h:aÃ):¬a<b:=Int.not_lt.mpr h
universe e
section
variable {a b c d:Nat}
theorem LqN0:(0:Nat)≤0:=Nat.le_refl 0
theorem LqNs:a≤a-b+b:=by omega
theorem LqNt (h:aÃ):a-b+b≤a:=by omega
theorem LqNu (h:Ù):a-b≤0:=by omega
theorem LqNv (h:Ù)(e:Nat.ble b c=true):a≤c:=Nat.le_trans h (Nat.le_of_ble_eq_true e)
theorem LqNk (h:Ù)(h':a≠b):a<b:=by omega
theorem LqNq (h:a<b):aΝ:=h
theorem LqNl (h:aΝ):a<b:=h
theorem LqNw (h:¬Ù):aΞ:=Nat.not_le.mp h
theorem LqNz (h:¬a<b):aÃ:=Nat.not_lt.mp h
theorem LqNe (h:a=b):Ù:=fϤ
theorem LqNd (h:a=b):aÃ:=Nat.le_of_eq h.symm
theorem LqNp (h:Ù)(h':c≤d):a+c≤b+d:=Nat.add_le_add h h'
theorem LqNx (h:Ù)(h':aÃ):a=b:=Nat.le_antisymm h h'
theorem LqNn (h:aΞ):¬Ù:=Nat.not_le.mpr h
theorem LqNm (h:aÃ):¬a<b:=Nat.not_lt.mpr h
universe e
abbrev Lq0:=Lqx.v 0
abbrev Lq1:=Lqx.v 1
abbrev Lq2:=Lqx.v 2
abbrev Lq3:=Lqx.v 3
abbrev Lq4:=Lqx.v 4
abbrev Lq5:=Lqx.v 5
abbrev Lq6:=Lqx.v 6
abbrev Lq7:=Lqx.v 7
abbrev Lq8:=Lqx.v 8
abbrev Lq9:=Lqx.v 9
namespace TS
open PySem PyProof.Rows
def LE (less:Υ)(x y:iy):Prop:=fϥ
structure Ord (less:jā):Prop where
 Zn: ∀x y,fã ->fϥ
 trans: ∀x y z,dÛ ->LE less y z ->LE less x z
def Ord.refl (O:ĳ)(x:iy):LE less x x:=by
 unfold LE;cases h:less x x with
 | false=>rfl
 | true=>show(O.Zn x x h).symm.trans h▸rfl
theorem Ord.le (O:ĳ)(h:fã):dÛ:=O.Zn x y h
def Ord.XQ (O:ĳ)(h:dÛ)(h':less y z=true):less x z=true:=by
 cases e:less x z with
 | true=>rfl
 | false=>have:=O.trans z x y e h;unfold LE at this;rw[h'] at this;cases this
def di (xs:Ú)(i:Nat):iy:=(aþ).getD fϦ
def Lq (h:bϷ):aþ =some bϸ:=by unfold di;rw[iΒ];rfl
def kG (h:aþ =ys[j]?):aΟ=di ys j:=by unfold di;rw[h]
def zg (h:bϷ):aΟ∈xs.toList:=by unfold di;rw[iΒ];simp
def Sg (less:Υ)(xs:Ú)(lo hi:Nat):Prop:= ∀i j,aÄ ->i<=j ->j<hi ->lϭ
def Ng (less:Υ)(xs:Ú)(lo hi:Nat):Prop:= ∀i j,aÄ ->i<=j ->j<hi ->LE less (di xs j) bϸ
structure SB (kd:SortKind)(a₀:dÜ)(st:SortSt):Prop where
 perm:(bõ).Perm a₀
 kd:eß
 fl:dÝ=none
theorem SB.size {kd:SortKind}{st:jo}(h:Ι):gŠ=a₀.size:=h.perm.size_eq
theorem SB.mem {kd:SortKind}{st:jo}(h:Ι)(hi:dÞ):gš∈a₀.toList:=(Array.perm_iff_toList_perm.mp h.perm).mem_iff.mp (zg (by rw[h.size];show hi))
theorem SB.arr {kd:SortKind}{st:jo}(h:Ι)(hp:xs.Perm Ũ):SB kd a₀ (setArr st xs):=#[hp.trans h.perm,h.kd,h.fl]
def jY (prog:Program)(w:World)(A:Around)(E:Φ)(s:fk)(kd:SortKind)(a₀:Ú)(less:Υ):Prop:=∀ (x y:iy) (st:jo) (Q:iΓ),x∈a₀.toList ->y∈a₀.toList ->eß ->Q (some (less x y)) st ->wpS Χ A E s (lt' x y) Q st
def wp_elem {st:jo}(hi:bϷ)(h:Q bϸ st):wpS Χ A E s (elem' xs i) Q st:=by rw[elem'_eq,Lq hi];show aS h
def wp_lt (L:Ϸ){st:jo}(B:Ι)(hi:dÞ)(hj:j<a₀.size)(h:Q (some (less (gš) (di Ũ j))) st):wpS Χ A E s (ltAt' i j) Q st:=by rw[ltAt'_eq];exact gŢ;show aN (wp_elem (by rw[B.size];show hi) (aN (wp_elem (by rw[B.size];show hj) (L _ _ _ _ (B.mem hi) (B.mem hj) B.kd h))))
def wp_rev {st:jo}(h:Q () (setArr st (mirror Ũ i j ((j - i) / 2)))):wpS Χ A E s (reverseSlice' i j) Q st:=by rw[reverseSlice'_eq];show wpS_modify h
def fN (hj:j<=xs.size)(k:Nat):di mŏ k=if dß then di xs (i+j - 1 - k) else aΡ:=by have e:=getElem?_mirror_all (i:=i) hj k;by_cases c:dß;rw[ak c] at e ⊢;show kG e;rw[ai c] at e ⊢;show kG e
def oC (hs:LV<xs.size)(hd:d<=LV)(k:Nat):di (bubble xs LV d) k=if k=LV - d then di xs LV else if hź then di xs (k - 1) else aΡ:=by have e:=getElem?_bubble hs d hd k;by_cases c:k=LV - d;rw[ak c] at e ⊢;show kG e;rw[ai c] at e ⊢;by_cases c':hź;rw[ak c'] at e ⊢;show kG e;rw[ai c'] at e ⊢;show kG e
def Lu (lo a eX:Nat):StateT jo Sem AscSt:=forIn [a:eX] ((none,a):AscSt) λ_ c=>do
 let x <- ltAt' (bö) (bö - 1)
 match x with
 | aÿ=>if ò then pure (ForInStep.done (none,c.snd)) else pure (ForInStep.yield (none,c.snd+1))
 | _=>pure (ForInStep.done (bϺ,c.snd))
def zJ (lo n eX:Nat):kė:=do
 reverseSlice' lo ó
 let c <- Lu lo n eX
 match c.fst with
 | ô=>aĀ
 | none=>hŻ
def Ff (lo n eX:Nat):StateT jo Sem DescSt:=forIn [n:eX] ((none,n,0):DescSt) λ_ c=>do
 let x <- ltAt' (eà) (eà - 1)
 match x with
 | aÿ=>
  if ò then
   if eá then do
    pŻ
    oū
   else oū
  else do
   let y <- ltAt' (eà - 1) (eà)
   match y with
   | aā=>
    if d=true then pure (ForInStep.done (none,c.snd.fst,c.snd.snd))
    else pure (ForInStep.yield (none,dá,dà))
   | _=>pĦ
 | _=>pĦ
def Ak (lo n eX:Nat):kė:=do
 liftM (rule "list.sort.descending-run")
 let c <- Ff lo aÅ eX
 match c.fst with
 | ô=>aĀ
 | none=>
  if eá then do
   pŻ
   iì
  else iì
theorem MV (lo eX:Nat):gţ=(do
  let c <- Lu lo 1 eX
  match c.fst with
  | ô=>aĀ
  | none =>
   if(c.snd==eX)=true then hŻ
   else if c.snd >1 then do
    let x <- ltAt' lo (bö - 1)
    match x with
    | aÿ=>if ò then hŻ else do
     reverseSlice' lo (bö)
     fϧ
    | _=>bϻ
   else fϧ):=by
 rw[countRun'_eq]
 dsimp only
 unfold Ak zJ Ff Lu
 congr 1
 funext c
 let⟨r,n⟩:=c
 cases r with
 | some r=>rfl
 | none =>
  dsimp only;split;rfl;split;congr 1;funext x;cases x with
  | none=>rfl
  | some b=>
   dsimp only;split;rfl;congr 1;funext _r;congr 1;funext _u;congr 1;congr 1;funext s2;let⟨r2,n2,q2⟩:=s2;cases r2 with
   | some r2=>rfl
   | none=>dsimp only;split;congr 1;funext _v;congr 1;funext _w;congr 1;funext s3;let⟨r3,n3⟩:=s3;cases r3<;>rfl;congr 1;funext _w;congr 1;funext s3;let⟨r3,n3⟩:=s3;cases r3<;>rfl
  congr 1;funext _u;congr 1;congr 1;funext s2;let⟨r2,n2,q2⟩:=s2;cases r2 with
  | some r2=>rfl
  | none=>dsimp only;split;congr 1;funext _v;congr 1;funext _w;congr 1;funext s3;let⟨r3,n3⟩:=s3;cases r3<;>rfl;congr 1;funext _w;congr 1;funext s3;let⟨r3,n3⟩:=s3;cases r3<;>rfl
def sK (lo hi:Nat)(xs ys:Ú):Prop:= ∀k,k<lo \/ hi<=k ->di ys k=aΡ
theorem sK.refl {lo hi:Nat}:sK lo hi xs xs:=cŦ
theorem sK.trans {lo hi:Nat}(a:sK lo hi xs ys)(b:sK lo hi ys zs):sK lo hi xs zs:=λk h=>(b k h).trans (a k h)
def wp_ascL (O:ĳ)(L:Ϸ){st:jo}{lo a eX:Nat}(hn:hë)(ha:1<=a)(han:a<=eX)(B:Ι)(hs:Sg less Ũ lo (lo+a))(h: ∀n,a<=n ->n<=eX ->Sg less Ũ lo ó ->(n=eX \/ less (di Ũ ó) lŶ=true) ->Q (none,n) st): wpS Χ A E s (Lu lo a eX) Q st:=by
 unfold Lu;exact c6 (I:=λx c bG=>bG=st /\ c=(none,x) /\ Sg less Ũ lo aĂ) ?step ?fin #[rfl,rfl,hs];case fin=>
  rintro c bG ⟨rfl,rfl,i0⟩
  rw[show max a eX=eX by lia] at i0 ⊢
  show h eX han õ i0 ũ
 case step=>
  rintro x c bG hax hxn ⟨rfl,rfl,i0⟩
  dsimp only
  exact aN (wp_lt L B qϣ rā ?_)
  cases e:pĳ with
  | true=>simp![b_];show aS (h x hax lϮ i0 (.inr e))
  | false=>simp![aF,bw];exact aS #[rfl,rfl,iΔ];by_cases c:j<Á;show fϩ;have:j=Á:= qο;subst this;by_cases c2:aă;subst c2;show ĵ;show O.trans _ _ _ (i0 i cŨ hi rÃ (by exact LqNt (Lqj Ĝ ñ ι lϯ jŷ (LqNp ha mó) rfl))) e
def wp_tailL (O:ĳ)(L:Ϸ){st:jo}{lo n eX:Nat}(hn:hë)(h1:1<=n)(L_:n<=eX)(B:Ι)(hs:mô)(h: rí): wpS Χ A E s (zJ lo n eX) Q st:=by
 unfold zJ;have hsz:À<=gŠ:=by rw[B.size];exact Lqj ř ι Lq2 jŸ ν (LqNp hn L_) rfl
 exact aN (wp_rev ?_);have B':SB kd a₀ (setArr st oϨ):=B.arr jŹ;exact aN (wp_ascL O L hn h1 L_ B' ?_ λm hm1 QN hsm _=>aS (h m _ B' (by exact Nat.le_trans h1 hm1) QN hsm rfl ?_));intro i j hi iR hj;change LE less (di oϨ i) (di oϨ j);rw[aĄ,aĄ,ak (by exact ⟨hi,lÃ⟩),ak (by exact ⟨iî,hj⟩)];show hs _ _ (by exact Lqj ŵ Lq0 Lq1 (.a ϓ (.a Lq3 (.a Lq0 eå))) (.a eå nę) (LqNp hj hí) rfl) ∅ ∅;intro k hk;change di oϨ k=_;rw[aĄ,ø]
def qI (O:ĳ){lo i m:Nat}(hj:m<=xs.size)(hli:aÄ)(hs:Ng less xs lo m)(he: ∀k,i<=k ->k<m ->LE less (aΡ) (di xs (m - 1))):Ng less (mirror xs i m ((m - i) / 2)) lo m:=by intro a b ha KU hb;rw[fN hj,fN hj];by_cases c1:i<=a;rw[ak (by exact ⟨Nat.le_trans c1 KU,hb⟩),ak (by exact ⟨c1,Nat.lt_of_le_of_lt KU hb⟩)];exact O.trans _ _ _ (he (i+m - 1 - b) (by exact Lqj ŵ Lq0 Lq1 (.a ϓ (.a Lq3 eå)) oŊ (LqNp hb hí) rfl) ∅) (hs _ _ ∅ ∅ (by exact LqNt (Lqj Û ñ Lq0 lϰ ι (LqNp hb Ϡ) rfl)));rw[ai (show ¬(i<=a /\ a<m) by lia)];by_cases c2:i<=b;rw[ak (by exact ⟨c2,hb⟩)];show hs _ _ fç (by exact Lqj Κ Lq0 Lq1 (.a ϓ (.a ϒ jź)) (.a Lq5 oŊ) (LqNp hb (LqNp cÀ hí)) rfl) ∅;rw[ø];show hs _ _ fç (by exact KU) (by exact hb)
theorem oh {lo hi i j:Nat}(hj:j<=xs.size)(h1:aÄ)(h2:j<=hi):sK lo hi xs mŏ:=λk hk=>by rw[fN hj,ø]
def wp_descL (O:ĳ)(L:Ϸ){st:jo}{lo n eX:Nat}(hn:hë)(h1:1<=n)(L_:n<=eX)(B:Ι)(hs:mô)(h: ∀m wX bG,fæ ->n<=m ->m<=eX ->Ng less Ū lo (lo+m) ->wX+1<=m ->(∀i,lo+m - (wX+1) <=i ->i<lo+m ->LE less (di Ū i) (di Ū (lo+m - 1))) ->lķ ->nŽ ->Q (none,m,wX) bG): wpS Χ A E s (Ff lo n eX) Q st:=by
 unfold Ff;exact c6 (I:=λx c bG=> ∃wX,Lx (c=(none,x,wX)) (fæ) (Ng less Ū lo aĂ) (wX+1<=x) (∀i,fè <=i ->i<Á ->LE less (di Ū i) lŷ) (lķ) (nŽ)) ?step ?fin #[0,rfl,B,hs, pż,λi h1 h2=>by rw[show i=À - 1 by exact LqNx (Lqj ř Lq0 Lq1 nė nĘ fϪ rfl) h1];show ĵ,rfl,sK.refl];case fin=>
  rintro c bG ⟨wX,rfl,B',i0,hq,he,hp,ho⟩
  rw[show max n eX=eX by lia] at i0 hq he ⊢
  show h eX wX bG B' L_ õ i0 hq he hp ho
 case step =>
  rintro x c bG hax hxn ⟨wX,rfl,B',i0,hq,he,hp,ho⟩
  dsimp only
  have hsz:Á<=(bø).size:=by rw[B'.size];exact Lqj ř ι Lq2 nĖ ν fä rfl
  exact aN (wp_lt L B' qϣ rā ?_)
  cases e:pĳ with
  | true =>simp![b_];by_cases KA:wX >0;rw [ak KA];exact aN (wp_rev (aS #[0,rfl,B'.arr jŹ,?_, qĭ,λi h1 h2=>by rw[rĉ];show ĵ,hp,ho.trans (oh hsz qϦ (by exact Lqj Ĝ ι π ϑ Lq2 hxn rfl))]));have hm:=qI O (i:=fè) hsz qϦ i0 he;intro i j hi iR hj;by_cases c:j<Á;show fϫ;have:j=Á:= qο;subst this;by_cases c2:aă;subst c2;show ĵ;exact O.trans _ _ _ ?_ (hm i cŨ hi rÃ rĄ);change LE less (di qæ aĂ) (di qæ cŨ);rw[aĄ,aĄ,ø,ak (by exact ⟨Lqj ŵ Lq0 Lq1 (.a ö (.a lÅ ς)) (.a Lq2 (.a ς ϑ)) (LqNp ϔ (LqNp (LqNt (Lqj Ĝ ϒ ξ lϱ τ lϲ rfl)) LqNs)) rfl,rô⟩)];show O.trans _ _ _ (O.le e) (i0 _ _ ∅ ∅ rĄ);rw[ai KA];exact aS #[0,rfl,B',iΔ, qĭ,λi h1 h2=>by rw[rĉ];show ĵ,hp,ho];by_cases c:j<Á;show fϩ;have:j=Á:= qο;subst this;by_cases c2:aă;subst c2;show ĵ;show O.trans _ _ _ (O.le e) (i0 i cŨ hi rÃ (by exact LqNt (Lqj Ĝ ñ ι lϯ jŷ (LqNp h1 mó) rfl)))
  | false =>
   simp![aF,bw];exact aN (wp_lt L B' rā qϣ ?_);cases e2:less lŷ kĘ with
   | true=>simp![b_];show aS (h x wX bG B' hax lϮ i0 hq he hp ho)
   | false=>simp![aF,bw];exact aS #[wX+1,rfl,B',iΔ, (by exact Lqj Û ϵ ϑ ϒ Lq1 hq rfl),fϬ,hp,ho];by_cases c:j<Á;show fϩ;have:j=Á:= qο;subst this;by_cases c2:aă;subst c2;show ĵ;show O.trans _ _ _ e2 (i0 i cŨ hi rÃ rĄ);rw[show eç=Á by exact LqNx (Lqj Ĝ Lq0 ξ ϒ ϰ (LqNt (Lqj Û ñ ϱ ϣ ι oĔ rfl)) rfl) (Lqj Ĝ ι Lq2 ϱ ϓ LqNs rfl)];by_cases c:aă;subst c;show ĵ;show O.trans _ _ _ (he i ∅ ∅) e
def wp_partL (O:ĳ)(L:Ϸ){st:jo}{lo n eX:Nat}(hn:hë)(L_:n+1<=eX)(B:Ι)(hs:Ng less Ũ lo (lo+aÅ))(h: rí): wpS Χ A E s (Ak lo n eX) Q st:=by
 unfold Ak;exact mõ;exact aN (wp_descL O L hn (by exact pΖ) L_ B hs λm wX bG B' hm1 QN i0 hq he hp ho=> ?_);dsimp only;have hsz:lo+m<=(bø).size:=by rw[B'.size];exact Lqj ř ι Lq2 jŸ ν (LqNp hn QN) rfl
 by_cases KA:wX >0;rw[ak KA];exact aN (wp_rev (wp_tailL O L hn qΑ QN (B'.arr jŹ) (qI O hsz qϦ i0 he) λm2 m8 b1 b2 b3 b4 b5 b6=>h m2 m8 b1 b2 b3 b4 fé (ho.trans ((oh hsz qϦ (by exact Lqj Ĝ ι π Lq1 Lq2 QN rfl)).trans b6))));rw[ai KA];show wp_tailL O L hn qΑ QN B' i0 λm2 m8 b1 b2 b3 b4 b5 b6=>h m2 m8 b1 b2 b3 b4 fé (ho.trans b6)
def wp_run (O:ĳ)(L:Ϸ){st:jo}{lo eX:Nat}(hn:hë)(h1:1<=eX)(B:Ι)(h: rí): wpS Χ A E s (gţ) Q st:=by
 rw[MV];exact aN (wp_ascL O L hn (ap 1) h1 B (λi j hi iR hj=>by rw[show i=j by exact LqNx iR (Lqj Ĝ Lq0 Lq1 lÆ ϰ (LqNp hi hj) rfl)];show ĵ) λn TL TK Yb hor=> ?_);dsimp only;by_cases L_:n=eX;rw[ak ⇑L_];show nŗ;rw [ai ⇑L_];have f7:=hor.resolve_left L_;have hsz:À<=gŠ:=by rw[B.size];exact Lqj ř ι Lq2 jŸ ν (LqNp hn TK) rfl
 by_cases tE:n >1;rw [ak tE];exact aN (wp_lt L B (by exact Lqj Ĝ ϒ Lq1 lÇ ξ (LqNp hn h1) rfl) (by exact Lqj ŵ ϒ Lq1 oŋ mž (LqNp hn (LqNp TK ((qŽ)))) rfl) ?_);cases e:less (di Ũ lo) lŶ with
 | true=>simp![b_];show nŗ
 | false=>simp![aF,bw];have hng:mô:=λi j hi iR hj=>O.trans _ _ _ (O.trans _ _ _ (Yb j cŧ (by exact iî) (by exact Lqj ř Lq0 Lq1 nė nĘ fϭ rfl) qϏ) e) (Yb lo i õ hi nž);exact aN (wp_rev (wp_partL O L hn (by exact LqNk TK L_) (B.arr jŹ) ?_ λm2 m8 b1 b2 b3 b4 b5 b6=>h m2 m8 b1 b2 b3 b4 b5 ((oh hsz lÈ (by exact Lqj Ĝ ι π Lq1 Lq2 TK rfl)).trans b6)));have hm:=qI O (i:=lo) hsz õ hng λk _ _=>Yb k cŧ ∅ ∅ qϏ;intro i j hi iR hj;by_cases c:j<À;show fϫ;have:j=À:= qο;subst this;by_cases c2:i=À;subst c2;show ĵ;exact O.trans _ _ _ ?_ (hm i cŧ hi rÃ qϏ);change LE less (di oϨ ó) (di oϨ cŧ);rw[aĄ,aĄ,ø,ak (by exact ⟨Lqj Ĝ Lq0 Lq1 lÉ ϲ (LqNp TL LqNs) rfl,qŽ⟩)];show O.trans _ _ _ (O.le f7) (hng _ _ ∅ ∅ qϏ)
 rw[ai tE];have abG:n=1:= (by exact LqNx (LqNz tE) TL);subst abG;exact wp_partL O L hn (by exact LqNk h1 L_) B (iΔ) h;by_cases c:i=j;subst c;show ĵ;rw[show i=lo+1 - 1 by exact LqNx (Lqj ř Lq0 Lq1 (.a ϓ (.a ϒ ϕ)) (.a (.a Lq3 ið) ϲ) (LqNp hj (LqNp (LqNk iR c) LqNs)) rfl) (Lqj Ĝ Lq0 Lq1 lÆ ϰ (LqNp hi ((LqNt (pΖ)))) rfl),show j=lo+1 by exact LqNx (Lqj Û Lq0 ϑ ϒ (.a Lq1 ið) hj rfl) (Nat.lt_of_le_of_lt hi (LqNk iR c))];show O.le f7
def wp_bin (O:ĳ)(L:Ϸ){st:jo}{lo n ok:Nat}(hn:À<=a₀.size)(dU:ok<=n)(B:Ι)(hs:Sg less Ũ lo (lo+ok))(h: ∀bG,fæ ->mö ->lķ ->nŘ ->cÂ):wpS Χ A E s (binarySort' lo n ok) Q st:=by
 rw[binarySort'_eq];exact aN (wpS_mono (c6 (I:=λk c bG=>dâ /\ fæ /\ Sg less Ū lo (lo+aΤ) /\ lķ /\ nŘ) (Q:=λc bG=>dâ /\ fæ /\ mö /\ lķ /\ nŘ) ?step ?fin ?init) ?post);case post=>
  rintro c bG ⟨rfl,B',i0,hp,ho⟩
  show aS (h bG B' i0 hp ho)
 case init=>
  exact#[rfl,B,iΔ,rfl,sK.refl]
  by_cases c:ok=0
  rw[show i=j by lia];show ĵ
  show hs i j hi iR ∅
 case fin=>
  rintro c bG ⟨hc,B',i0,hp,ho⟩
  exact#[hc,B',?_,hp,ho]
  rwa [show min (max (max ok 1) n) n=n by lia] at i0
 case step=>
  rintro k c bG hak hkn ⟨rfl,B',i0,hp,ho⟩
  rw[show aΤ=k by lia] at i0
  have hk:lo+k<a₀.size:= (by exact Lqj ř ϯ Lq2 nĖ ν (LqNp hn hkn) rfl)
  exact aN (wpS_mono (c6 (I:=λx c ik=>ik=bG /\ cM λl r=>kM fϮ (l<=r) (r<=k) (r - l<=k - x) pϳ (∀i,r<=i ->pŽ)) (Q:=λc ik=>ik=bG /\ cM λl r=>fU fϮ (l<=k) pϳ (∀i,l<=i ->pŽ)) ?istep ?ifin ?iinit) ?ipost)
  case iinit=>show#[rfl,0,k,rfl, (by exact få), lÈ, lÈ,λi hi=> ∅,λi h1 h2=> ∅]
  case ifin=>
   rintro c ik ⟨rfl,l,r,rfl,hlr,hrk,hm,yO,Vg⟩
   have:l=r:= ∅
   subst this
   show lÊ
  case istep=>
   rintro x c ik _ hxk ⟨rfl,l,r,rfl,hlr,hrk,hm,yO,Vg⟩
   dsimp only
   by_cases Hu:l≥r
   rw[ak Hu]
   have:l=r:= (by exact LqNx hlr Hu)
   subst this
   show aS lÊ
   rw[ai Hu]
   exact aN (wp_lt L B' hk ∅ ?_)
   cases e:less kě (di cũ (lo+cÄ)) with
   | true=>simp![b_];exact aS #[rfl,l,cÄ,rfl, ∅, ∅, ∅,yO,fϬ];show O.trans _ _ _ (O.le e) (i0 _ _ qÆ (by exact Lqj Ĝ ι π Lq1 Lq2 h1 rfl) (by exact Lqj Ĝ ϯ π ϑ Lq2 h2 rfl))
   | false=>simp![aF,bw];exact aS #[rfl,cÄ+1,r,rfl, ∅, (by exact hrk), ∅,λi h1=> ?_,Vg];show O.trans _ _ _ (i0 aą (lo+cÄ) qÆ (by exact Lqj Ĝ ι π ϑ ϓ h1 rfl) ∅) e
  case ipost=>
   rintro c ik ⟨rfl,l,r,rfl,Ov,yO,Vg⟩
   change wpS _ _ _ _ (do moveDown' aĆ (lo+l);nä) _ _
   rw[moveDown'_eq]
   have hks:lo+k< (arrOf ik).size:=by rw[B'.size];show hk
   exact aN (wpS_modify (aS #[rfl,B'.arr (bubble_perm _ _ _),?_,hp,ho.trans dã]))
   .rw[show min Ü n=k+1 by lia];intro i j hi iR hj;change LE less (di oŌ i) (di oŌ j);rw[nå,nå,show lo+k - gŦ=lo+l by lia];have abH: ∀i,aÄ ->i<lo+l ->LE less (di cũ i) kě:=λi h1 h2=>by have:=yO bù (by exact Lqj ř ϒ Lq1 nĚ jż (LqNp h2 ((LqNt h1))) rfl);rwa [show lo+bù=i by exact LqNx (Lqj Ĝ ι Lq2 ο Lq2 (LqNt h1) rfl) pŔ] at this
    have abR: ∀i,lo+l<=i ->i<lo+k ->LE less kě (di cũ i):=λi h1 h2=>by have:=Vg bù (by exact Lqj ř Lq0 Lq1 jŽ jž (LqNp h1 LqNs) rfl) (by exact Lqj ř ϒ Lq1 nĚ jż (LqNp h2 (qŸ)) rfl);rwa [show lo+bù=i by exact LqNx (Lqj Ĝ ι Lq2 ο Lq2 qŸ rfl) pŔ] at this
    repeat' split
    all_goals first
    | (exfalso;lia)
    | show ĵ
    | show abH _ fë ∅
    | show abR _ ∅ ∅
    | show i0 _ _ ∅ ∅ ∅
   change di oŌ j=_
   rw[nå,ø,ø]
def OF:Bool ->iy ->Ú ->Nat ->Nat ->Nat ->kė:=sortPriv% PySem.Builtin.gallop
def mLo:nϧ:=sortPriv% PySem.Builtin.mergeLo
def mHi:nϧ:=sortPriv% PySem.Builtin.mergeHi
abbrev dS (st:jo)(g:Nat):jo:=SortSt.mk' (kindOf st) Ũ (eä) g (dÝ)
def bey (left:Bool)(key:iy)(arr:Ú)(base i:Nat):StateT jo Sem (fI Bool):=do
 let x <- elem' arr bú
 if left then lt' x key else return(<- lt' key x).map (!·)
def wp_gal0 {st:jo}(Bf:Nat ->Bool)(hh:gM<n)(hb: ∀i,i<n -> ∀Q':iΓ,Q' (some (Bf i)) st ->wpS Χ A E s (bey left key arr base i) Q' st)(mono: ∀i j,i<=j ->j<n ->Bf j=true ->cÅ)(h: ∀k,k<=n ->(∀i,i<k ->cÅ) ->(∀i,k<=i ->i<n ->cŪ) ->fì): wpS Χ A E s (OF left key arr base n gM) Q st:=by
 have EG: ∀i j,i<=j ->j<n ->cŪ ->Bf j=false:=λi j iR hj e=>by
  cases e2:Bf j with
  | false=>rfl
  | true=>rw[mono i j iR hj e2] at e;cases e
 exact aN (hb gM hh _ ?_);dsimp only;cases hB:Bf gM with
 | true =>
  simp![b_];exact aN (wpS_mono (c6 (I:=λi c bG=>bG=st /\ cM λla f=>jS gŧ (i+1<=f) ać (gM+la<n) hż) (Q:=λc bG=>bG=st /\ cM λla f=>jS gŧ ać (gM+la<n) hż (n - gM<=f \/ (gM+f<n /\ Bf (gM+f)=false))) ?_ ?_ #[rfl,0,1,rfl,by exact pŅ,by exact pŅ,by exact Lqj Û (.a ϖ ñ) Lq1 ϒ Lq1 hh rfl,hB]) ?_);rintro i c bG _ hi ⟨rfl,la,f,rfl,h1,h2,h3,h4⟩;dsimp only;by_cases c1:f≥n - gM;rw[aÆ];show nΗ;rw[aÇ];exact aN (hb _ (by exact rÓ) _ ?_);cases e:Bf (gM+f) with
  | true=>simp![eE,aF,bw];show aS #[rfl,f,2*f+1,rfl,by exact rÉ,by exact qø,by exact rÓ,e]
  | false=>simp![Bool.not_false,b_];show aS #[rfl,la,f,rfl,h2,h3,h4, .inr #[by exact rÓ,e]]
  rintro c bG ⟨rfl,la,f,rfl,h1,h2,h3,h4⟩;show#[rfl,la,f,rfl,h2,h3,h4, .inl (by exact Nat.le_of_lt (Nat.lt_of_le_of_lt hì oώ))];rintro c bG ⟨rfl,la,f,rfl,h2,h3,h4,h5⟩;dsimp only;exact aN (wpS_mono (c6 (I:=rÙ) (Q:=qϑ) ?_ ?_ #[rfl,_,_,rfl,by omega,by exact Lqj ř ι Lq2 (.a Lq1 eé) χ (LqNp kğ lŸ) rfl,by omega,λi hi=>mono i (gM+la) (by exact Lqj Ĝ Lq0 ξ ϒ lÌ hi rfl) h3 h4,λi hi jm=> ?_]) ?_);rintro i c ik _ hi ⟨rfl,lo,rL,rfl,g1,g2,g3,g4,g5⟩;dsimp only;by_cases c1:lo≥rL;rw[aÆ];have:lo=rL:=by exact LqNx g1 c1
  subst this;show aS kξ;rw[aÇ];exact lĹ;cases e:jſ with
  | true=>simp![b_];show rû
  | false=>simp![aF,bw];show rÊ
  rintro c ik ⟨rfl,lo,rL,rfl,g1,g2,g3,g4,g5⟩;have:lo=rL:=by omega
  subst this;show kξ;obtain h5 | ⟨h5,h6⟩:=h5;omega;show EG (gM+f) i ū jm h6;rintro c ik ⟨rfl,lo,rL,rfl,g2,g4,g5⟩;show hŽ
 | false =>
  simp![aF,bw];exact aN (wpS_mono (c6 (I:=λi c bG=>bG=st /\ cM λla f=>jS gŧ (i+1<=f) ać (la<=gM) jă) (Q:=λc bG=>bG=st /\ cM λla f=>jS gŧ ać (la<=gM) jă (gM+1<=f \/ (f<=gM /\ Bf (gM - f)=true))) ?_ ?_ #[rfl,0,1,rfl,by exact pŅ,by exact pŅ,by exact få,hB]) ?_);rintro i c bG _ hi ⟨rfl,la,f,rfl,h1,h2,h3,h4⟩;dsimp only;by_cases c1:f≥gM+1;rw[aÆ];show nΗ;rw[aÇ];exact aN (hb _ pÑ _ ?_);cases e:Bf (gM - f) with
  | false=>simp![aF,bw];show aS #[rfl,f,2*f+1,rfl,by exact rÉ,by exact qø,by exact pϖ,e]
  | true=>simp![b_];show aS #[rfl,la,f,rfl,h2,h3,h4, .inr #[by exact pϖ,e]]
  rintro c bG ⟨rfl,la,f,rfl,h1,h2,h3,h4⟩;show#[rfl,la,f,rfl,h2,h3,h4, .inl (by exact Nat.lt_trans hh oώ)];rintro c bG ⟨rfl,la,f,rfl,h2,h3,h4,h5⟩;dsimp only;exact aN (wpS_mono (c6 (I:=rÙ) (Q:=qϑ) ?_ ?_ #[rfl,_,_,rfl,by omega,by exact Nat.le_of_lt (oÉ),by omega,dä,λi hi jm=>EG (gM - la) i fë jm h4]) ?_);rintro i c ik _ hi ⟨rfl,lo,rL,rfl,g1,g2,g3,g4,g5⟩;dsimp only;by_cases c1:lo≥rL;rw[aÆ];have:lo=rL:=by exact LqNx g1 c1
  subst this;show aS kξ;rw[aÇ];exact lĹ;cases e:jſ with
  | true=>simp![b_];show rû
  | false=>simp![aF,bw];show rÊ
  rintro c ik ⟨rfl,lo,rL,rfl,g1,g2,g3,g4,g5⟩;have:lo=rL:=by omega
  subst this;show kξ;obtain h5 | ⟨h5,h6⟩:=h5;omega;show mono i (gM - f) ū pÑ h6;rintro c ik ⟨rfl,lo,rL,rfl,g2,g4,g5⟩;show hŽ
def wp_galL (O:ĳ)(L:Ϸ){st:jo}(B:eß)(hk:hž)(hm: pž)(hh:gM<n)(hs:lĺ)(h: ∀k,k<=n ->(∀i,i<k ->lŹ=true) ->(∀i,k<=i ->i<n ->LE less key (gŨ)) ->fì): wpS Χ A E s (OF true key arr base n gM) Q st:=by exact wp_gal0 (λi=>lŹ) hh iΕ (λi j iR hj e=>O.XQ rĭ e) h;unfold bey;exact lϴ;simp![b_];show L _ _ _ _ (hm i hi).2 hk B hq
def wp_galR (O:ĳ)(L:Ϸ){st:jo}(B:eß)(hk:hž)(hm: pž)(hh:gM<n)(hs:lĺ)(h: ∀k,k<=n ->(∀i,i<k ->LE less (gŨ) key) ->(∀i,k<=i ->i<n ->lź=true) ->fì): wpS Χ A E s (OF false key arr base n gM) Q st:=by exact wp_gal0 (λi=> ! lź) hh iΕ (λi j iR hj e=> ?_) (λk h1 h2 h3=>h k h1 (dä) λi h4 h5=> ?_);unfold bey;exact lϴ;simp![aF,bw];show aN (L _ _ _ _ hk (hm i hi).2 B (aS hq));simp![Bool.not_eq_true'] at e ⊢;show O.trans _ _ _ rĭ e;have:=h2 i hi;simp![Bool.not_eq_true'] at this;show this;have:=h3 i h4 h5;simpa using this
structure MI (less:jā)(al bl o:List Keyed)(i j:Nat):Prop where
 pm:o.Perm (cÆ++cÇ)
 so:o.Pairwise Ś
 ba: ∀x∈o, mø
 bb: ∀x∈o, mù
section
variable {less:Υ}{al bl o:fh iy}{i j:Nat}
theorem MI.swap (h:iΖ):MI less bl al o j i:=mϩ
def take_add {α:Type}(l:Ý)(i k:Nat):l.take aÈ=bû++(bü).take k:=by rw[List.take_add]
def MI.OS (h:iΖ)(sa:jγ)(k:Nat)(hk: ∀x∈iñ, mù):MI less al bl (o++iñ) aÈ j:=by
 have sd:(cÈ).Pairwise Ś:=nř;have e:iñ++al.drop aÈ=cÈ:=by rw[<- List.drop_drop,bA]
 have Sb:=sd;rw[<- e,cW] at Sb;exact fϯ;rw[take_add,cA];exact mſ;rw[cA];show List.Perm.append_left _ e_;rw[cW];show#[h.so,Sb.1,λx hx y hy=>h.ba x hx y (List.mem_of_mem_take hy)];intro x hx y hy;obtain hx | hx:=bý;show h.ba x hx y (by rw[<- e];show a_ _ hy);show Sb.2.2 x hx y hy;intro x hx y hy;obtain hx | hx:=bý;show fϰ;show eë
def MI.fin (h:iΖ)(sa:jγ)(sb:jδ)(hk: ∀x∈cÉ, mø):(kπ).Perm (al++bl) /\ (kπ).Pairwise Ś:=by
 symm;rw[cA];exact mſ;have e1:pϋ:=by rw[bA,bA]
 exact lŻ;rw[cA,cA];exact lż;rw[<- cA];show e_;rw[cW,cW];exact#[#[h.so,sb.sublist kο,h.bb],nř,hï];obtain hx | hx:=bý;show h.ba x hx y hy;show eë
structure MH (less:jā)(al bl t:List Keyed)(i j:Nat):Prop where
 pm:t.Perm (cÈ++cÉ)
 so:t.Pairwise Ś
 ba: ∀x∈t, ∀y∈cÆ,då
 bb: ∀x∈t, mú
theorem MH.swap (h:iΗ):MH less bl al t j i:=mϩ
def MH.OS (h:iΗ)(sa:jγ)(Yx:k<=i)(hk: ∀x∈iò, mú):MH less al bl (iò++t) k j:=by
 have sd:(cÆ).Pairwise Ś:=nŚ;have e0:(cÆ).take k=al.take k:=by rw[List.take_take,Nat.min_eq_left Yx]
 have e:al.take k++iò=cÆ:=by rw[<- e0,bA]
 have Sb:=sd;rw[<- e,cW] at Sb;have e3:al.drop k=iò++cÈ:=by
  have:=bA i al;have e4:al.drop k=(cÆ++cÈ).drop k:=by rw[this]
  rw[e4];by_cases c:i<=al.length;rw[List.drop_append_of_le_length gũ];have z:cÈ= []:=List.drop_eq_nil_of_le (by exact Nat.le_of_lt (LqNw c));rw[z,List.append_nil,List.append_nil]
 exact fϯ;rw[e3,cA];show mû;rw[cW];show#[Sb.2.1,h.so,λx hx y hy=>h.ba y hy x (by rw[<- e];show a_ _ hx)];intro x hx y hy;obtain hx | hx:=bý;show Sb.2.2 y hy x hx;show h.ba x hx y (by rw[<- e];show List.mem_append_left _ hy);intro x hx y hy;obtain hx | hx:=bý;show eë;show fϰ
def MH.fin (h:iΗ)(sa:jγ)(sb:jδ)(hk: ∀x∈cÆ, ∀y∈cÇ,dÛ):(cÆ++cÇ++t).Perm (al++bl) /\ (cÆ++cÇ++t).Pairwise Ś:=by
 symm;exact(mû).trans ?_;have e1:pϋ:=by rw[bA,bA]
 exact lŻ;rw[cA,cA];exact lż;rw[<- cA, <- cA];show List.Perm.append_right _ e_;rw[cW,cW];exact#[#[nŚ,sb.sublist kς,hk],h.so,hï];obtain hx | hx:=bý;show h.ba y hy x hx;show h.bb y hy x hx
universe e
abbrev R5:=cŭ×Ú×fí
abbrev R6:=cŭ×Ú×Nat×fí
abbrev R7:=cŭ×Ú×Nat×Nat×fí
section
variable (a b:Ú)
abbrev Ml (o:Ú)(i j:Nat):Ú:=o++ió++iô
abbrev U7 (o:Ú)(i j:Nat):Ú:=o++iô++ió
def SW (mg:Nat)(o:Ú)(i j ac bc:Nat):StateT jo Sem (ForInStep R6):=do
 let x <- cÊ
 let y <- cË
 let g <- lt' x y
 match g with
 | aĈ=>
  if g=true then do
   let x <- cÊ
   if iõ then pure (.done (næ,Ķ,i,j+1,0,bc+1))
   else if bc+1≥mg then pure (.done mü)
   else pure (.yield mü)
  else do
   let x <- cË
   if jĄ then pure (.done (nç,Ķ,i+1,j,ac+1,0))
   else if ac+1≥mg then pure (.done mý)
   else pure (.yield mý)
 | _=>pure (.done (some fϱ,o,i,j,ac,bc))
def _o (mg ac bc:Nat)(o:Ú)(i j:Nat):mþ:=do
 let x <- cË
 if jĄ then pure (.done (nç,Ķ,i+1,j,mg,ac,bc))
 else if nϨ then pure (.done mγ)
 else pure (.yield mγ)
def _q (mg ac bc:Nat)(o:Ú)(i j:Nat):mþ:=do
 let x <- cÊ
 if iõ then qÙ
 else do
  let y <- cË
  let r <- OF true y b Þ (b.size - Þ) 0
  match r with
  | ù=>
   if k >0 then
    if(j+1+k==b.size)=true then pure (.done (some (Ml a b (nĜ) i aΥ),nĜ,i,j+1+k,mg,ac,k))
    else _o a b mg ac k (nĜ) i aΥ
   else _o a b mg ac k cŮ i Þ
  | _=>qÙ
def _t (mg ac bc:Nat)(o:Ú)(i j:Nat):mþ:=do
 iΘ
 let x <- cÊ
 let r <- OF false x a i (a.size - i) 0
 match r with
 | ù=>
  if k >0 then
   if(i+k+1==a.size)=true then pure (.done (some (U7 a b (ją) aÈ j),ją,i+k,j,mg,k,bc))
   else if(i+k==a.size)=true then pure (.done (some (Ml a b (ją) aÈ j),ją,i+k,j,mg,k,bc))
   else _q a b mg k bc (ją) aÈ j
  else _q a b mg k bc o i j
 | _=>pure (.done (some fϱ,o,i,j,mg,ac,bc))
def Xt (c:R5):StateT jo Sem (ForInStep R5):=do
 let d <- forIn [:fî] (nś:R6) λ_ d=>SW a b cÌ d.2.1 aΦ aΧ.1 cÍ.1 cÍ.2
 match d.1 with
 | ô=>pņ
 | none=>do
  mϪ
  let e <- forIn [:fî] (pϴ:R7) λ_ e=>if dæ >1 then _t a b (dæ - 1) dç.1 dç.2 aÉ aΨ cÎ else _t a b dæ dç.1 dç.2 aÉ aΨ cÎ
  match e.1 with
  | ô=>pş
  | none=>do
   nè
   pū
universe e
def vo {f g:jε}(h: eí):(m >>=f)=(m >>=g):=by rw[funext h]
def G_ {f g:jε}(e:m=m')(h: eí):(m >>=f)=(m' >>=g):=by rw[e,funext h]
def Gu [dè]{x y x' y':α}(h:x=x')(h':y=y'):(if c then x else y)=(if c then x' else y'):=by rw[h,h']
def GJ {r:Std.Legacy.Range}{f g:Nat ->β ->StateT σ Sem (ForInStep β)}(h: ∀i c,f i c=g i c):forIn r c f=forIn r c g:=by rw[funext λi=>funext (h i)]
section
variable (a b:Ú)
theorem Gf:mLo a b=(do
  liftM (rule "list.sort.merge-lo")
  let x <- elem' b 0
  if(1==b.size)=true then pure (Ml a b #[x] 0 1)
  else if(0+1==a.size)=true then pure (U7 a b #[x] 0 1)
  else do
   let g <- get
   let c <- forIn [:fî] ((none, #[x],0,1,gallopOf g):R5) λ_ c=>Xt a b c
   match c.1 with
   | ô=>aĀ
   | none=>oθ):=by
 exact iΙ
 exact pħ
 exact lϵ
 let⟨r,d⟩:=d
 cases r with
 | some r=>rfl
 | none =>
  exact nſ;exact Gu ?_ ?_<;>
  .refine l϶;cases r with
   | none=>rfl
   | some k=>
    exact Gu (Gu rfl dê) ?_<;>
    .exact nΘ;cases r<;>rfl
  let⟨r,e⟩:=e;cases r<;>rfl
 let⟨r,c⟩:=c
 cases r<;>rfl
abbrev Mm (o:Ú)(i j:Nat):Ú:=fï++fð++o.reverse
abbrev Vt (o:Ú)(i j:Nat):Ú:=fð++fï++o.reverse
def RL (mg:Nat)(i j:Nat)(o:Ú)(ac bc:Nat):StateT jo Sem (ForInStep (nϩ)):=do
 let x <- gŪ
 let y <- gū
 let g <- lt' x y
 match g with
 | aĈ=>
  if g=true then do
   let x <- gū
   if gŬ then pure (.done (nŜ,á,j,Ķ,ac+1,0))
   else if ac+1≥mg then pure (.done mδ)
   else pure (.yield mδ)
  else do
   let x <- gŪ
   if gŭ then pure (.done (nŝ,i,à,Ķ,0,bc+1))
   else if bc+1≥mg then pure (.done mε)
   else pure (.yield mε)
 | _=>pure (.done (some fϲ,i,j,o,ac,bc))
abbrev S7:=cŭ×Nat×Nat×Ú×fí
def _p (mg ac bc:Nat)(i j:Nat)(o:Ú):mÿ:=do
 let x <- gū
 if gŬ then pure (.done (nŜ,á,j,Ķ,mg,ac,bc))
 else if nϨ then pure (.done né)
 else pure (.yield né)
def _s (mg ac bc:Nat)(i j:Nat)(o:Ú):mÿ:=do
 let x <- gŪ
 if gŭ then pure (.done (nŝ,i,à,Ķ,mg,ac,bc))
 else do
  let y <- gū
  let r <- OF true y b 0 aΩ (à - 1)
  match r with
  | ù=>
   if cÏ >0 then
    if(k==1)=true then pure (.done (some (Vt a b (oê) i k),i,k,oê,mg,ac,cÏ))
    else if dë then pure (.done (some (Mm a b (oê) i k),i,k,oê,mg,ac,cÏ))
    else _p a b mg ac (cÏ) i k (oê)
   else _p a b mg ac (cÏ) i aΩ cŮ
  | _=>pure (.done (some (Mm a b cŮ i aΩ),i,à,Ķ,mg,ac,bc))
def _x (mg ac bc:Nat)(i j:Nat)(o:Ú):mÿ:=do
 iΘ
 let x <- gŪ
 let r <- OF false x a 0 i ĝ
 match r with
 | ù=>
  if i - k >0 then
   if dë then pure (.done (some (Mm a b (lŽ) k j),k,j,lŽ,mg,i - k,bc))
   else _s a b mg (i - k) bc k j (lŽ)
  else _s a b mg (i - k) bc i j o
 | _=>pure (.done (some fϲ,i,j,o,mg,ac,bc))
abbrev S5:=cŭ×Nat×Nat×Ú×Nat
def Nx (c:S5):StateT jo Sem (ForInStep S5):=do
 let d <- forIn [:fî] (nś:nϩ) λ_ d=>RL a b cÌ d.2.1 aΦ aΧ.1 cÍ.1 cÍ.2
 match d.1 with
 | ô=>pņ
 | none=>do
  mϪ
  let e <- forIn [:fî] (pϴ:S7) λ_ e=>if dæ >1 then _x a b (dæ - 1) dç.1 dç.2 aÉ aΨ cÎ else _x a b dæ dç.1 dç.2 aÉ aΨ cÎ
  match e.1 with
  | ô=>pş
  | none=>do
   nè
   pū
theorem Gg:mHi a b=(do
  liftM (rule "list.sort.merge-hi")
  let x <- elem' a eï
  if(ců==0)=true then pure (Mm a b #[x] eï b.size)
  else if(b.size==1)=true then pure (Vt a b #[x] eï b.size)
  else do
   let g <- get
   let c <- forIn [:fî] ((none,ců,b.size, #[x],gallopOf g):S5) λ_ c=>Nx a b c
   match c.1 with
   | ô=>aĀ
   | none=>oθ):=by
 exact iΙ
 exact pħ
 exact lϵ
 let⟨r,d⟩:=d
 cases r with
 | some r=>rfl
 | none =>
  exact nſ;exact Gu ?_ ?_<;>
  .refine l϶;cases r with
   | none=>rfl
   | some k=>
    exact Gu dê ?_<;>
    .exact nΘ;cases r<;>rfl
  let⟨r,e⟩:=e;cases r<;>rfl
 let⟨r,c⟩:=c
 cases r<;>rfl
universe e
def ja (h:bϷ):xs.toList[i]? =some bϸ:=by rw[<- Lq h];simp
def GU (h:bϷ):hð=aΟ::xs.toList.drop ß:=by have h':iö:= ⇑h;have e:=ja h;rw[ao h'] at e;rw[dQ h',bF e]
def zI (h:bϷ):(hð).take 1= [aΟ]:=by rw[GU h];rfl
def ka (h:y∈hð): ∃k,d6 (i<=k) (k<xs.size) (y=aΡ):=by let⟨n,hn⟩:=aϊ;rw[d7] at hn;have hl:=eð;have uL:dì:= â;rw[ja uL] at hn;show#[i+n, qÆ,uL,eñ]
def ya (h:y∈(hð).take k): ∃n,fU (i<=n) (n<i+k) (cÐ) dí:=by let⟨n,hn⟩:=aϊ;rw[List.getElem?_take] at hn;split at hn;rename_i hk;rw[d7] at hn;have hl:=eð;have uL:dì:= â;rw[ja uL] at hn;show#[i+n, qÆ, (by exact Lqj Ĝ ϯ π ϑ Lq2 hk rfl),uL,eñ];cases hn
def nE (O:ĳ)(h:mĀ)(iR:i<=j)(hj:j<xs.size):lϭ:=by
 by_cases c:i=j;subst c;show ĵ;rw[bM] at h;have rL:iö:=by simp;exact lÃ
 have jW:j<xs.toList.length:= ⇑hj;have:=h i j rL jW (by exact LqNk iR c);have e1:=ja (xs:=xs) (i:=i) nž;have e2:=ja hj;rw[ao rL] at e1;rw[ao jW] at e2;rwa [bF e1,bF e2] at this
theorem yg (O:ĳ)(h:mĀ)(hn:i+n<=xs.size):Sg less xs i (i+n):=λx y _ hxy hy=>nE O h hxy (by exact Nat.lt_of_lt_of_le hy hn)
def A0 (xs:Ú)(i k:Nat):(xs.extract i aÈ).toList=(hð).take k:=by rw[Array.toList_extract,List.extract_eq_take_drop];congr 1;exact rĔ
def tI (xs:Ú)(i:Nat):(xs.extract i xs.size).toList=hð:=by rw[Array.toList_extract,List.extract_eq_take_drop];show nê
section
variable {prog:Program}{w:World}{A:Around}{E:Φ}{s:fk}{kd:SortKind}{a₀:Ú}{less:Υ}
structure xQ (less:jā)(a₀ a b:dÜ):Prop where
 sa:a.toList.Pairwise Ś
 sb:b.toList.Pairwise Ś
 ma: ∀i,bþ ->di a i∈a₀.toList
 mb: ∀i,i<b.size ->di b i∈a₀.toList
 na:1<=a.size
 nb:1<=b.size
 h0:less (di b 0) (di a 0)=true
 hl: ∀j,bÿ ->less bĀ (di a eï)=true
def vq (less:Υ)(a b r:Ú):Prop:=r.toList.Perm (a.toList++b.toList) /\ r.toList.Pairwise Ś
structure JL (less:jā)(a b o:dÜ)(i j:Nat):Prop where
 mi:oÊ
 hi:i+1<a.size
 hj:bÿ
variable {a b:Ú}
def yn (T:ϝ)(h:oÊ)(hj:b.size<=j \/ a.size<=i):vq less a b fϱ:=by
 unfold vq Ml;rw[cQ,cQ,tI,tI];have:=h.swap.fin T.sb T.sa λx hx y hy=>by obtain hj | hj:=hj;let⟨k,h1,h2,_⟩:=aÊ;lia;let⟨k,h1,h2,_⟩:=ka hx;lia
 show lĻ
def ym (O:ĳ)(T:ϝ)(h:oÊ)(hi:i+1=a.size):vq less a b (U7 a b o i j):=by unfold vq U7;rw[cQ,cQ,tI,tI];exact në;let⟨k,h1,h2,rfl⟩:=ka hx;let⟨k',Ue,Mj,rfl⟩:=aÊ;rw[show k'=ců by exact LqNx (Lqj Ĝ Lq0 Lq1 lÍ ϲ (LqNp Mj LqNs) rfl) (Lqj ř Lq0 Lq1 (.a Lq2 lÎ) (.a ϕ ξ) (LqNp (LqNd hi) (LqNp Ue ((LqNt (Lqj Û ñ Lq0 lϰ ι (LqNp (LqNe hi) Ϡ) rfl))))) rfl)];show O.le (T.hl k h2)
def Ck (O:ĳ)(T:ϝ){o:Ú}(h:oÊ)(hj:bÿ)(hc:bþ ->LE less bĀ bā):MI less a.toList b.toList (o.push bĀ).toList i Þ:=by have:=(h.swap.OS T.sb 1 λx hx y hy=>by rw[zI hj] at hx;rw[bĂ];let⟨k,h1,h2,rfl⟩:=aÊ;show O.trans _ _ _ oĕ (nE O T.sa h1 h2)).swap;rw[zI hj] at this;rwa [Array.toList_push]
def Jd (O:ĳ)(T:ϝ){o:Ú}(h:oÊ)(hi:bþ)(hc:bÿ ->lļ):MI less a.toList b.toList (o.push bā).toList ß j:=by
 have:=h.OS T.sa 1 λx hx y hy=>by rw[zI hi] at hx;rw[bĂ];let⟨k,h1,h2,rfl⟩:=aÊ;show O.trans _ _ _ oĕ (nE O T.sb h1 h2)
 rw[zI hi] at this;rwa [Array.toList_push]
def UM (less:Υ)(a b:Ú)(st:jo)(N:Nat)(r:eì)(bG:jo):Prop:=hſ /\ (oϹ \/ (lD λo i j c=>d6 (r= .done fϳ \/ r= .yield fϳ) (hγ) (aĉ)))
def wp_p3L (O:ĳ)(T:ϝ){st bG:jo}(hg: gŮ)(J:hγ)(hc:lļ)(hN:aĉ):wpS Χ A E s (_o a b mg ac bc o i j) iø bG:=by
 unfold _o;have hi:=J.hi;exact qŧ;have m:=Jd O T J.mi qċ λ_=>hc;by_cases c:eò;rw[aό];show aS #[hg, .inl #[_,_,rfl,ym O T m c]];rw[aύ];have J':JL less a b (o.push bā) ß j:=#[m, jĆ,J.hj]
 split;show aS #[hg, .inr #[_,_,_,_, Ĵ,J', qí]];show aS #[hg, .inr #[_,_,_,_, ĸ,J', qí]]
def wp_p2L (O:ĳ)(L:Ϸ)(T:ϝ){st bG:jo}(hk:eó)(hg: gŮ)(J:hγ)(hc:kĠ=true)(hN:aĉ):wpS Χ A E s (_q a b mg ac bc o i j) iø bG:=by
 unfold _q;have hi:=J.hi;have hj:=J.hj;exact iù;have m:=Ck O T J.mi hj λ_=>O.le hc;by_cases c:j+1=b.size;rw[aό];show aS #[hg, .inl #[_,_,rfl,mϫ]];rw [aύ];exact qŧ;exact aN (wp_galL O L hk qŀ (λk hk=>#[rð,T.mb _ rð]) rå (yg O T.sb (by exact Lqj Ĝ ϳ Lq2 lÐ Lq2 cÑ rfl)) hδ);dsimp only;by_cases ck:k >0;rw[ak ck];have m2:MI less a.toList b.toList (o.push bĀ++kτ).toList i aΥ:=by rw[cQ,A0];exact(m.swap.OS T.sb k hï).swap;let⟨n,n1,n2,n3,rfl⟩:=ya hx;let⟨k',k1,k2,rfl⟩:=aÊ;have:=h2 (cÒ) ∅;rw[show j+1+(cÒ)=n by exact LqNx (Lqj Ĝ ϳ Lq2 lÐ Lq2 (LqNt n1) rfl) qĕ] at this;show O.trans _ _ _ (O.le this) (nE O T.sa k1 k2)
 by_cases c2:j+1+k=b.size;rw[bă];show aS #[hg, .inl #[_,_,rfl,yn T m2 (.inl (by exact LqNd c2))]];rw[bĄ];show wp_p3L O T hg #[m2,hi, ∅] (h3 k õ ∅) (by exact Lqj ř Lq0 nĝ lϸ jζ eô rfl);rw[ai ck];have:k=0:= oı;subst this;show wp_p3L O T hg mő (h3 0 õ rå) (by exact Lqj Ĝ Lq0 ϰ Lq0 ξ hN rfl)
def wp_p1L (O:ĳ)(L:Ϸ)(T:ϝ){st bG:jo}(hk:eß)(hg: gŮ)(J:hγ)(hN:aĉ):wpS Χ A E s (_t a b mg ac bc o i j) iø bG:=by
 unfold _t;have hi:=J.hi;have hj:=J.hj;exact iú;have KL: jθ:=by let⟨g,rfl⟩:=hg;show#[mg,rfl]
 have vT:jć:=by let⟨g,rfl⟩:=hg;show hk
 exact iù;exact aN (wp_galR O L vT dî (λk hk=>#[rĖ,T.ma _ rĖ]) (by exact Lqj Ĝ Ϣ Lq0 nΚ jι (LqNp hi LqNs) rfl) (yg O T.sa (by exact Lqj Ĝ ι Lq2 ο Lq2 pϪ rfl)) hδ);dsimp only;have _Z:i+k<a.size:=by by_cases c:i+k<a.size;show c;have:=h2 (ců - i) ∅;rw[show i+(ců - i)=ců by lia] at this;unfold LE at this;rw[T.hl j hj] at this;cases this
 have QL:=h3 k õ (by exact Lqj ř ϒ Lq1 (.a lÑ Lq3) jž (LqNp _Z LqNs) rfl);by_cases ck:k >0;rw[ak ck];have m2:MI less a.toList b.toList (ją).toList aÈ j:=by rw[cQ,A0];exact J.mi.OS T.sa k hï;let⟨n,n1,n2,n3,rfl⟩:=ya hx;let⟨k',k1,k2,rfl⟩:=aÊ;have:=h2 (n - i) ∅;rw[show i+(n - i)=n by exact LqNx (Lqj Ĝ ι Lq2 ο Lq2 (LqNt n1) rfl) pŔ] at this;show O.trans _ _ _ this (nE O T.sb k1 k2)
 by_cases c2:i+k+1=a.size;rw[bă];show aS #[KL, .inl #[_,_,rfl,ym O T m2 c2]];rw[bĄ,ai (by simp;exact λe=>Lqg Ĝ (.a ϯ Lq2) jι (LqNp _Z cŰ) rfl)];show wp_p2L O L T vT KL #[m2, (by exact LqNk _Z c2),hj] QL (by exact Lqj ř Lq0 jζ lϸ jμ eô rfl);rw[ai ck];have:k=0:= oı;subst this;show wp_p2L O L T vT KL J QL hN
def wp_one1 (O:ĳ)(L:Ϸ)(T:ϝ)(hk:eó)(J:hγ)(h1: oϏ)(h2: ∀o i' j' c,JL less a b o i' j' ->aË=i+j+1 ->Q (.done hò) bG /\ Q (.yield hò) bG): wpS Χ A E s (SW a b mg o i j ac bc) Q bG:=by
 unfold SW;have hi:=J.hi;have hj:=J.hj;exact aN (wp_elem hj (aN (wp_elem qċ (aN (L _ _ _ _ dî qŀ hk ?_)))));dsimp only;cases e:kĠ with
 | true=>simp![b_];exact iù;have m:=Ck O T J.mi hj λ_=>O.le e;by_cases c:j+1=b.size;rw[aό];show aS (h1 _ _ (mϫ));rw[aύ];have:=h2 _ i Þ (0,bc+1) mő (by exact LqNx (Lqj Û ϱ ϯ ö ö LqN0 rfl) (Lqj Û ϯ ϱ ö ö LqN0 rfl));split;show cÓ;show cÔ
 | false=>simp![aF,bw];exact qŧ;have m:=Jd O T J.mi qċ λ_=>e;by_cases c:eò;rw[aό];show aS (h1 _ _ (ym O T m c));rw[aύ];have:=h2 _ ß j (ac+1,0) #[m, jĆ,hj] (by exact LqNx (Lqj Û ϳ ϯ ö ö LqN0 rfl) (Lqj Û ϯ ϳ ö ö LqN0 rfl));split;show cÓ;show cÔ
def wp_mLo (O:ĳ)(L:Ϸ)(T:ϝ){st:jo}(hk:eß)(h: nΜ):wpS Χ A E s (mLo a b) Q st:=by
 rw[Gf];have na:=T.na;have nb:=T.nb;exact mõ;exact aN (wp_elem pſ ?_);have h': lϹ:=mā;have m:MI less a.toList b.toList (#[di b 0]:Ú).toList 0 1:=by
  have m0:MI less a.toList b.toList (#[]:Ú).toList 0 0:=nŞ
  show Ck O T m0 pſ λ_=>O.le T.h0
 by_cases c:1=b.size;rw[aό];show aS (h' _ (mϫ));rw[aύ];by_cases c2:0+1=a.size;rw[bă];show aS (h' _ (ym O T m c2));rw[bĄ];exact gŢ;exact aN (wpS_mono (c6 (I:=λn c bG=>hſ /\ lD λo i j mg=>d6 (c=(none,o,i,j,mg)) (hγ) (n+1<=i+j)) (Q:=qÇ) ?_ ?_ #[#[dï,rfl],_,0,1,_,rfl,#[m, ∅, (by exact LqNk nb c)], lÈ]) ?_)
 .rintro n c bG _ hn ⟨hg,o,i,j,mg,rfl,J,hN⟩;unfold Xt;dsimp only;have vT:eó:=by let⟨g,rfl⟩:=hg;show hk
  exact aN (wpS_mono (c6 (I:=λx c m8=>m8=bG /\ lD λo' i' j' d=>d6 jν kġ (aË=i+j+x)) (Q:=λc m8=>m8=bG /\ qϵ) ?_ ?_ #[rfl,o,i,j,_,rfl,J,rfl]) ?_);rintro x c m8 _ hx ⟨rfl,o',i',j',⟨ac,bc⟩,rfl,J',Uc⟩;dsimp only;exact wp_one1 O L T vT J' oË λo2 i2 j2 c J2 h2=>#[#[rfl, .inr #[o2,i2,j2,c,rfl,J2, (by exact Lqj ϗ ϯ ν (.a jξ (.a lÒ ö)) (.a ψ jο) (LqNp cÕ (LqNp (LqNd h2) Ϡ)) rfl)]],#[rfl,o2,i2,j2,c,rfl,J2, (by exact LqNx (Lqj ϗ ι nĞ (.a ψ ι) (.a jο lÒ) mĂ rfl) (Lqj ϗ nğ ς (.a Ϫ lÒ) (.a ψ ς) mă rfl))]]
  rintro c m8 ⟨rfl,o',i',j',d,rfl,J',Uc⟩;show#[rfl, .inr #[o',i',j',d,rfl,J', (by exact Lqj ϗ ϯ ν pϗ oì (LqNp na (LqNp cÕ oϩ)) rfl)]]
  .rintro c m8 ⟨rfl,⟨x,d,rfl,hr⟩ | ⟨o',i',j',⟨ac,bc⟩,rfl,J',Uc⟩⟩;show iΚ
   .dsimp only;exact mõ;exact aN (wpS_mono (c6 (I:=λx c rf=>hε /\ qČ) (Q:=λc rf=>hε /\ qϵ) ?_ ?_ #[hg,o',i',j',_,rfl,J',Uc]) ?_)
    .rintro x c rf _ hx ⟨Gz,o3,i3,j3,⟨mg3,ac3,bc3⟩,rfl,J3,Mi⟩;dsimp only;split;all_goals
      exact wpS_mono (wp_p1L O L T hk Gz J3 Mi) ?_
      rintro r gZ ⟨TV,⟨x,c,rfl,hr⟩ | ⟨o,i,j,c,rfl | rfl,J4,h4⟩⟩
      show#[TV, iû]
      show#[TV, .inr #[o,i,j,c,rfl,J4,h4]]
      show#[TV,o,i,j,c,rfl,J4,h4]
    rintro c rf ⟨Gz,o3,i3,j3,d,rfl,J3,Mi⟩;show#[Gz, .inr #[o3,i3,j3,d,rfl,J3,Mi]];rintro c rf ⟨Gz,⟨x,d,rfl,hr⟩ | ⟨o3,i3,j3,⟨mg3,ac3,bc3⟩,rfl,J3,Mi⟩⟩;show iΜ;dsimp only;exact aN (wpS_modify (aS #[?_,o3,i3,j3,_,rfl,J3, (by exact Lqj ŵ ϵ ξ (.a ϒ lÓ) (.a ς ξ) eø rfl)]));let⟨g,rfl⟩:=Gz;show Ĺ
 rintro c bG ⟨hg,o,i,j,mg,rfl,J,hN⟩;have:=J.hi;have:=J.hj;lia;rintro c bG ⟨⟨g,rfl⟩,x,d,rfl,hr⟩;show fó
universe e
def wD (h:y∈hó): ∃n,d6 (n<i) (cÐ) dí:=by let⟨n,hn⟩:=aϊ;rw[List.getElem?_take] at hn;split at hn;have hl:=eð;have uL:cÐ:= â;rw[ja uL] at hn;show#[n, ∅,uL,eñ];cases hn
def DV (h:y∈kυ k): ∃n,fU (k<=n) (n<i) (cÐ) dí:=by rw[List.drop_take] at h;let⟨n,h1,h2,h3,e⟩:=ya h;show#[n,h1, ∅,h3,e]
def _d (h0:1<=i)(h:i<=xs.size):kυ ĝ= [di xs ĝ]:=by rw[List.drop_take,show i - ĝ=1 by lia,zI (by exact Nat.lt_of_lt_of_le (LqNt h0) h)]
def oz (xs:Ú)(k i:Nat):(xs.extract k i).toList=kυ k:=by rw[Array.toList_extract,List.extract_eq_take_drop,List.drop_take]
def Fb (xs:Ú)(i:Nat):(xs.extract 0 i).toList=hó:=by rw[oz,List.drop_zero]
section
variable {prog:Program}{w:World}{A:Around}{E:Φ}{s:fk}{kd:SortKind}{a₀:Ú}{less:Υ}
structure JH (less:jā)(a b o:dÜ)(i j:Nat):Prop where
 mi:oϐ
 hi:1<=i
 hj:2<=j
 ia:cØ
 jb:cÙ
variable {a b:Ú}
def oW (T:ϝ)(h:oϐ)(hj:i=0 \/ j=0):vq less a b fϲ:=by unfold vq Mm;rw[cQ,cQ,Fb,Fb,Array.toList_reverse];exact në;obtain hj | hj:=hj;subst hj;simp at hx;subst hj;simp at hy
def sX (O:ĳ)(T:ϝ)(h:oϐ)(hj:j=1):vq less a b (Vt a b o i j):=by
 unfold vq Vt;rw[cQ,cQ,Fb,Fb,Array.toList_reverse];have:=h.swap.fin T.sb T.sa λx hx y hy=>by let⟨n,n1,n2,rfl⟩:=wD hx;let⟨k,k1,k2,rfl⟩:=wD hy;rw[show n=0 by exact LqNx (Lqj Û Lq0 ö lÐ gů (LqNp (LqNe hj) n1) rfl) ϔ];show O.trans _ _ _ (O.le T.h0) (nE O T.sa (dg _) k2)
 show lĻ
def yp (O:ĳ)(T:ϝ){o:Ú}(h:oϐ)(h1:1<=i)(hi:cØ)(hj:cÙ)(hc:1<=j ->nϪ):MH less a.toList b.toList (o.push fϵ).toList.reverse ĝ j:=by
 have:=h.OS T.sa (k:=á) lĸ λx hx y hy=>by rw[_d h1 hi] at hx;rw[bĂ];let⟨k,k1,k2,rfl⟩:=wD hy;show O.trans _ _ _ (nE O T.sb (show k<=à by exact qŁ) (by exact Nat.lt_of_lt_of_le qζ hj)) qΡ
 rw[_d h1 hi] at this;rw[Array.toList_push,List.reverse_append];show this
def Eu (O:ĳ)(T:ϝ){o:Ú}(h:oϐ)(h1:1<=j)(hi:cØ)(hj:cÙ)(hc:1<=i ->nϫ):MH less a.toList b.toList (o.push fϴ).toList.reverse i aΩ:=by have:=(h.swap.OS T.sb (k:=à) lĸ λx hx y hy=>by rw[_d h1 hj] at hx;rw[bĂ];let⟨k,k1,k2,rfl⟩:=wD hy;show O.trans _ _ _ (nE O T.sa (show k<=á by exact qŁ) (by exact Nat.lt_of_lt_of_le qζ hi)) qΡ).swap;rw[_d h1 hj] at this;rw[Array.toList_push,List.reverse_append];show this
def Eo (o x:Ú):(o++x.reverse).toList.reverse=x.toList++o.toList.reverse:=by rw[cQ,Array.toList_reverse,List.reverse_append,List.reverse_reverse]
def UL (less:Υ)(a b:Ú)(st:jo)(N:Nat)(r:eî)(bG:jo):Prop:=hſ /\ (oϹ \/ (lD λi j o c=>d6 (r= .done f϶ \/ r= .yield f϶) (hζ) (aĊ)))
def wp_p3H (O:ĳ)(T:ϝ){st bG:jo}(hg: gŮ)(J:hζ)(hc:nϪ)(hN:aĊ):wpS Χ A E s (_p a b mg ac bc i j o) iü bG:=by
 unfold _p;have hi:=J.hi;have ia:=J.ia;exact pŬ;have m:=yp O T J.mi J.hi J.ia J.jb λ_=>hc;by_cases c:á=0;rw[aό];show aS #[hg, .inl #[_,_,rfl,gŰ]];rw[aύ];have J':JH less a b (o.push fϵ) ĝ j:=#[m, mϬ,J.hj, oŬ,J.jb]
 split;show aS #[hg, .inr #[_,_,_,_, Ĵ,J', qΤ]];show aS #[hg, .inr #[_,_,_,_, ĸ,J', qΤ]]
def wp_p2H (O:ĳ)(L:Ϸ)(T:ϝ){st bG:jo}(hk:eó)(hg: gŮ)(J:hζ)(hc:nϫ)(hN:aĊ):wpS Χ A E s (_s a b mg ac bc i j o) iü bG:=by
 unfold _s;have hi:=J.hi;have hj:=J.hj;have ia:=J.ia;have jb:=J.jb;exact qŢ;have m:=Eu O T J.mi oϪ ia jb λ_=>hc;by_cases c:à=1;rw[aό];show aS #[hg, .inl #[_,_,rfl,sX O T m c]];rw [aύ];exact pŬ;have sg:=yg O T.sb (i:=0) (n:=à) (by exact Lqj Ĝ Ϙ Lq1 υ ξ (LqNp jb ií) rfl);exact aN (wp_galL O L hk pŠ (λk hk=>#[rõ,T.mb _ rõ]) ∅ sg hδ);dsimp only;simp![Nat.zero_add] at h2 h3;by_cases ck:cÏ >0;rw[ak ck];have m2:MH less a.toList b.toList (o.push fϴ++mŐ).toList.reverse i k:=by rw[Eo,oz];exact(m.swap.OS T.sb fô hï).swap;let⟨n,n1,n2,n3,rfl⟩:=DV hx;let⟨k',k1,k2,rfl⟩:=wD hy;show O.trans _ _ _ (nE O T.sa (show k'<=á by exact qŁ) oō) eù
 by_cases c2:k=1;rw[bă];show aS #[hg, .inl #[_,_,rfl,sX O T m2 c2]];rw[bĄ];by_cases c3:k=0;rw[ak ⇑c3];show aS #[hg, .inl #[_,_,rfl,oW T m2 (.inr c3)]];rw[ai ⇑c3];show wp_p3H O T hg #[m2,hi, ∅,ia, (by exact Nat.le_trans h1 (nì))] (O.le (h2 (k - 1) (by exact LqNt (Nat.pos_of_ne_zero c3)))) (by exact Lqj ŵ ι Lq2 mζ jτ (LqNp hN mą) rfl);rw[ai ck];show wp_p3H O T hg pχ (O.le (h2 (à - 1) ∅)) (by exact Lqj ř ι Lq2 jŸ ν mĄ rfl)
def wp_p1H (O:ĳ)(L:Ϸ)(T:ϝ){st bG:jo}(hk:eß)(hg: gŮ)(J:hζ)(hN:aĊ):wpS Χ A E s (_x a b mg ac bc i j o) iü bG:=by
 unfold _x;have hi:=J.hi;have hj:=J.hj;have ia:=J.ia;have jb:=J.jb;exact iú;have KL: jθ:=by let⟨g,rfl⟩:=hg;show#[mg,rfl]
 have vT:jć:=by let⟨g,rfl⟩:=hg;show hk
 exact qŢ;have sg:=yg O T.sa (i:=0) (n:=i) (by exact Lqj Û Ϙ Lq1 Lq0 Lq1 ia rfl);exact aN (wp_galR O L vT qŞ (λk hk=>#[qΥ,T.ma _ qΥ]) (by exact LqNt hi) sg hδ);dsimp only;simp![Nat.zero_add] at h2 h3;by_cases ck:i - k >0;rw[ak ck];have m2:MH less a.toList b.toList (lŽ).toList.reverse k j:=by rw[Eo,oz];exact J.mi.OS T.sa fô hï;let⟨n,n1,n2,n3,rfl⟩:=DV hx;let⟨k',k1,k2,rfl⟩:=wD hy;show O.trans _ _ _ (nE O T.sb (show k'<=à by exact qŁ) qý) (O.le eù)
 by_cases c2:k=0;rw[bă];show aS #[KL, .inl #[_,_,rfl,oW T m2 (.inl c2)]];rw[bĄ];show wp_p2H O L T vT KL #[m2, (by exact jυ),hj, (by exact Nat.le_trans h1 ia),jb] (h2 (k - 1) (by exact LqNt (jυ))) (by exact Lqj ř ι Lq2 jπ ν (LqNp hN h1) rfl);rw[ai ck];show wp_p2H O L T vT KL J (h2 ĝ (by exact Lqj ř ϒ Lq1 nĠ (.a ö jχ) (LqNp (LqNz ck) (LqNp cÚ LqNs)) rfl)) hN
def wp_two1 (O:ĳ)(L:Ϸ)(T:ϝ)(hk:eó)(J:hζ)(h1: oϏ)(h2: ∀i' j' o c,JH less a b o i' j' ->aË+1=i+j ->Q (.done hô) bG /\ Q (.yield hô) bG): wpS Χ A E s (RL a b mg i j o ac bc) Q bG:=by
 unfold RL;have hi:=J.hi;have hj:=J.hj;have ia:=J.ia;have jb:=J.jb;exact aN (wp_elem qý (aN (wp_elem oō (aN (L _ _ _ _ qŞ pŠ hk ?_)))));dsimp only;cases e:less fϴ fϵ with
 | true=>simp![b_];exact pŬ;have m:=yp O T J.mi hi ia jb λ_=>O.le e;by_cases c:á=0;rw[aό];show aS (h1 _ _ (gŰ));rw[aύ];have:=h2 ĝ j _ (ac+1,0) #[m, mϬ,hj, oŬ,jb] (by exact LqNx (Lqj Ĝ ϯ τ ϒ Lq2 cÚ rfl) (Lqj Ĝ ι (.a τ ñ) Lq0 ϓ LqNs rfl));split;show cÓ;show cÔ
 | false=>simp![aF,bw];exact qŢ;have m:=Eu O T J.mi oϪ ia jb λ_=>e;by_cases c:à=1;rw[aό];show aS (h1 _ _ (sX O T m c));rw[aύ];have:=h2 i aΩ _ (0,bc+1) pχ (by exact LqNx (Lqj Ĝ ϯ π ϑ Lq2 oΔ rfl) (Lqj Ĝ ι lÇ Lq1 ϓ LqNs rfl));split;show cÓ;show cÔ
def wp_mHi (O:ĳ)(L:Ϸ)(T:ϝ){st:jo}(hk:eß)(h: nΜ):wpS Χ A E s (mHi a b) Q st:=by
 rw[Gg];have na:=T.na;have nb:=T.nb;exact mõ;exact aN (wp_elem (by exact LqNt na) ?_);have h': lϹ:=mā;have m:MH less a.toList b.toList (#[di a eï]:Ú).toList.reverse eï b.size:=by
  have m0:MH less a.toList b.toList (#[]:Ú).toList.reverse a.size b.size:=nŞ
  show yp O T m0 (by exact na) õ õ λ_=>O.le (T.hl _ (by exact LqNt nb))
 by_cases c:ců=0;rw[aό];show aS (h' _ (gŰ));rw[aύ];by_cases c2:b.size=1;rw[bă];show aS (h' _ (sX O T m c2));rw[bĄ];exact gŢ;exact aN (wpS_mono (c6 (I:=λn c bG=>hſ /\ lD λi j o mg=>d6 (c=(none,i,j,o,mg)) (hζ) (i+j+n<fî)) (Q:=qÇ) ?_ ?_ #[#[dï,rfl],_,_,_,_,rfl,#[m, mϬ, (by exact Lqj [_] ý Lq0 ið Lq0 (LqNk nb (Ne.symm c2)) rfl), lĸ, lÈ], (by exact Lqj Ĝ (.a lÔ ñ) τ ϒ Lq2 (LqNt na) rfl)]) ?_)
 .rintro n c bG _ hn ⟨hg,i,j,o,mg,rfl,J,hN⟩;unfold Nx;dsimp only;have vT:eó:=by let⟨g,rfl⟩:=hg;show hk
  exact aN (wpS_mono (c6 (I:=λx c m8=>m8=bG /\ lD λi' j' o' d=>d6 jψ kĢ (aË+x=i+j)) (Q:=λc m8=>m8=bG /\ q϶) ?_ ?_ #[rfl,i,j,o,_,rfl,J,rfl]) ?_);rintro x c m8 _ hx ⟨rfl,i',j',o',⟨ac,bc⟩,rfl,J',Uc⟩;dsimp only;exact wp_two1 O L T vT J' oË λi2 j2 o2 c J2 h2=>#[#[rfl, .inr #[i2,j2,o2,c,rfl,J2, (by exact Lqj ϗ ϯ ν (.a jω (.a ϯ ö)) (.a ν jω) (LqNp cÖ (LqNp (LqNe h2) Ϡ)) rfl)]],#[rfl,i2,j2,o2,c,rfl,J2, (by exact LqNx (Lqj ϗ nğ ς (.a jΑ ϯ) mθ mĂ rfl) (Lqj ϗ ι nĞ (.a ι ψ) (.a jΒ (.a ν ñ)) mă rfl))]]
  rintro c m8 ⟨rfl,i',j',o',d,rfl,J',Uc⟩;show#[rfl, .inr #[i',j',o',d,rfl,J', (by exact Lqj ϗ ϯ ν pϗ oì (LqNp na (LqNp cÖ oϩ)) rfl)]]
  .rintro c m8 ⟨rfl,⟨x,d,rfl,hr⟩ | ⟨i',j',o',⟨ac,bc⟩,rfl,J',Uc⟩⟩;show iΚ
   .dsimp only;exact mõ;exact aN (wpS_mono (c6 (I:=λx c rf=>hε /\ qč) (Q:=λc rf=>hε /\ q϶) ?_ ?_ #[hg,i',j',o',_,rfl,J',Uc]) ?_)
    .rintro x c rf _ hx ⟨Gz,i3,j3,o3,⟨mg3,ac3,bc3⟩,rfl,J3,Mi⟩;dsimp only;split;all_goals
      exact wpS_mono (wp_p1H O L T (N:=i+j - 1) hk Gz J3 ∅) ?_
      rintro r gZ ⟨TV,⟨x,c,rfl,hr⟩ | ⟨i4,j4,o4,c,rfl | rfl,J4,h4⟩⟩
      show#[TV, iû]
      show#[TV, .inr #[i4,j4,o4,c,rfl,J4, ∅]]
      show#[TV,i4,j4,o4,c,rfl,J4, ∅]
    rintro c rf ⟨Gz,i3,j3,o3,d,rfl,J3,Mi⟩;show#[Gz, .inr #[i3,j3,o3,d,rfl,J3,Mi]];rintro c rf ⟨Gz,⟨x,d,rfl,hr⟩ | ⟨i3,j3,o3,⟨mg3,ac3,bc3⟩,rfl,J3,Mi⟩⟩;show iΜ;dsimp only;exact aN (wpS_modify (aS #[?_,i3,j3,o3,_,rfl,J3, (by exact Lqj ϗ (.a nğ ñ) ς (.a (.a jΑ ñ) ϯ) mθ eø rfl)]));let⟨g,rfl⟩:=Gz;show Ĺ
 rintro c bG ⟨hg,i,j,o,mg,rfl,J,hN⟩;have:=J.hi;have:=J.hj;lia;rintro c bG ⟨⟨g,rfl⟩,x,d,rfl,hr⟩;show fó
universe e
def DI (xs:Ú)(at_:Nat)(l:fh (iy×Nat)):Ú:=l.foldl (λa (p,j)=>a.setIfInBounds (at_+j) p) xs
theorem BH (at_ n:Nat): ∀ (ms:fh iy) (k:Nat) (xs:Ú),gű<=xs.size ->(DI xs at_ (ms.zipIdx k))[n]? =if at_+k<=n /\ n<gű then ms[dð]? else xs[n]?
 | [],k,xs,h=>by rw[eû];rfl
 | p ::ms,k,xs,h=>by rw[aT] at h;change(DI (xs.setIfInBounds (at_+k) p) at_ (ms.zipIdx Ü))[n]? =_;rw[BH at_ n ms Ü _ (by rw[Array.size_setIfInBounds];exact Lqj ř (.a ϱ Lq2) Lq3 nğ Lq3 h rfl)];rw[aT];by_cases c:n=at_+k;subst c;rw[ø,ak (by exact ⟨fê,Lqj Ĝ ϯ nğ ö Lq2 ϔ rfl⟩),Array.getElem?_setIfInBounds_self_of_lt (by exact Lqj ř ϯ Lq2 (.a (.a ι ϕ) ö) ν (LqNp h Ϡ) rfl)];simp;rw[Array.getElem?_setIfInBounds_ne (aZ c)];by_cases c2:cÛ <=n /\ n<cÛ+ms.length;rw[ak c2,ak (by exact ⟨pϵ,Lqj ř ϒ nę ϒ (.a ϰ Lq3) c2.2 rfl⟩),show dð=(n - (cÛ))+1 by exact LqNx (Lqj ŵ Lq0 ϑ (.a jΓ Lq4) (.a Lq4 nġ) (LqNp (LqNt (pϵ)) LqNs) rfl) (Lqj ŵ ϒ Lq1 (.a Lq2 (.a Lq0 lÕ)) (.a jΔ Lq2) (LqNp LqNs ((LqNt c2.1))) rfl),List.getElem?_cons_succ];rw[ai c2,ø]
def Hy (h:fõ<=xs.size):mĆ=iý++(ms++xs.toList.drop (fõ)):=by
 apply List.ext_getElem?;intro n;have e:=BH at_ n ms 0 xs (by exact Lqj Ĝ lÖ Lq2 ι Lq2 h rfl);rw[Nat.add_zero] at e;have e':mĆ[n]? =(iΝ)[n]? :=by simp
 rw[e',e];have hx: ∀k:Nat,xs.toList[k]? =xs[k]? :=λk=>Array.getElem?_toList ..;by_cases c1:n<at_;rw[ø,br (by rw[bv];simp;lia),List.getElem?_take,aÆ,hx];have lt:(iý).length=at_:=by rw[bv];simp;lia
 rw[a6 (by exact Nat.le_trans (LqNe lt) (LqNz c1)),lt];by_cases c2:n<fõ;rw[ak (by exact ⟨LqNz c1,c2⟩),br (by exact Lqj ř ϒ Lq1 nĚ jż (LqNp c2 ((LqNt (LqNz c1)))) rfl)];rw[ø,a6 (by exact Lqj ř Lq0 Lq1 jŽ jž (LqNp (LqNz c2) LqNs) rfl),d7,hx];congr 1;lia
def three (l:fh iy)(i j k:Nat)(iR:i<=j)(hjk:j<=k)(hk:k<=l.length):l=bû++(hθ++(lϻ)):=by
 have e1:lϻ=bĈ:=by rw[List.drop_take];have:=bA (k - j) (bĈ);rw[List.drop_drop,show j+(k - j)=k by exact LqNx (Lqj Ĝ ι Lq2 ο Lq2 (LqNt hjk) rfl) pŔ] at this;show this
 have e2:hθ++bĈ=bü:=by rw[List.drop_take];have:=bA (j - i) (bü);rw[List.drop_drop,show i+(j - i)=j by exact LqNx (Lqj Ĝ ι Lq2 ο Lq2 (LqNt iR) rfl) pŔ] at this;show this
 rw[e1,e2,bA]
def K7 (O:ĳ){i j lo hi:Nat}(h:hõ)(h1:aÄ)(h2:j<=hi)(h3:hi<=xs.size):(fϷ).toList.Pairwise Ś:=by
 rw[bM];intro x y hx hy hxy;have e: ∀n (hn:n< (fϷ).toList.length),(fϷ).toList[n]=dñ:=λn hn=>by
  have TM:n< jΕ:=by rw[dh] at hn;show hn
  rw[Array.size_extract] at TM;unfold di;rw[getElem?_pos xs (i+n) ∅];simp
 rw[e x hx,e y hy];have Tp:y< jΕ:=by rw[dh] at hy;show hy
 rw[Array.size_extract] at Tp;show h _ _ (by exact Lqj Ĝ Lq0 ξ ϖ ξ lϳ rfl) (by exact Lqj Ĝ ι π ϑ Lq2 hxy rfl) ∅
def mY (h:n< jΕ):di (fϷ) n=dñ:=by unfold di;rw[Array.size_extract] at h;rw[Array.getElem?_extract,ak eü]
abbrev Rn:=fí
theorem Tb (i:Nat):mergeAt' i=(do
 let s <- get
 let (some cű,some (sb,nb,_)):=((dò)[i]?,(dò)[i+1]?) | unsupported "internal:list.sort.pending"
 set (setPending s (((dò).setIfInBounds i fö).eraseIdxIfInBounds ß))
 let some k <- OF false (<- elem' cÜ sb) cÜ sa na 0 | return false
 let (sa,na):=(Ã,aċ)
 if na==0 then return true
 let some nb <- OF true (<- elem' cÜ (sa+na - 1)) cÜ sb nb (nb - 1) | return false
 if nb==0 then return true
 let x:=hι sa sb
 let y:=hι sb aώ
 let r <- if na<=nb then mLo x y else mHi x y
 modify λs=>setArr s (DI cÜ sa r.toList.zipIdx)
 return lž):=rfl
def Mu {st:σ}(h:Q ⟨⟩ v):wpS M A E s (set v:StateT σ Sem PUnit) Q st:=by unfold wpS;rw[StateT.run_set];show aD #[rfl,h]
def wp_mAt (O:ĳ)(L:Ϸ){st:jo}{l1 l2:aÌ}(B:Ι)(hp:eä=(l1++cű::dó::l2).toArray)(hi:dô)(Og:sb=sa+na)(h1:1<=na)(h2:1<=nb)(hz:sb+nb<=a₀.size)(s1:Sg less Ũ sa sb)(s2:Sg less Ũ sb aώ)(h: ∀bG,fæ ->eã=mϭ ->Sg less Ū sa aώ ->sK sa aώ Ũ Ū ->cÂ):oŎ:=by
 subst hi;rw[Tb];exact gŢ;have p1:(eä)[l1.length]? =some cű:=by rw[hp];simp
 have p2:(eä)[dõ]? =some dó:=by rw[hp];simp[a6]
 rw[p1,p2];dsimp only;exact aN (Mu ?_);have hpd:((eä).setIfInBounds l1.length fö).eraseIdxIfInBounds (dõ)=mϭ:=by rw[hp];simp![List.setIfInBounds_toArray,List.eraseIdxIfInBounds_toArray];congr 1;rw[List.set_append_right _ _ õ,Nat.sub_self,List.set_cons_zero];rw[List.eraseIdx_append_of_length_le (by exact fø),show dõ - l1.length=1 by exact LqNx (Lqj Û Lq0 ñ ι ϑ (LqNt (fø)) rfl) (Lqj Û ñ Lq0 ϑ ι LqNs rfl)];rfl
 rw[hpd];let FS:jo:=setPending st mϭ
 have B1:SB kd a₀ FS:=#[B.perm,B.kd,B.fl]
 have hsz:=B.size;change wpS _ _ _ _ _ Q FS;exact aN (wp_elem (by exact Lqj ř ϒ Lq1 nĢ jΗ ní rfl) ?_);exact aN (wp_galR O L B.kd (B.mem (by exact Lqj Ĝ ϒ Lq1 lÉ τ (LqNp h2 hz) rfl)) (λk hk=>#[∅,B.mem (by exact Lqj Κ ϯ Lq2 (.a μ (.a ñ (.a eæ ϑ))) (.a Lq4 (.a Lq5 ν)) (LqNp cÝ (LqNp h2 eý)) rfl)]) pż (by rw[<- Og];show s1) λk g1 g2 g3=> ?_);dsimp only;by_cases c1:aċ=0;rw [ak ⇑c1];exact oϑ;change oŭ;by_cases c2:j<sb;show gŲ;by_cases c3:sb<=i;show gų;have:=g2 (i - sa) ∅;rw[show sa+(i - sa)=i by exact LqNx (Lqj Ĝ ι Lq2 ο Lq2 cÚ rfl) pŔ] at this;show O.trans _ _ _ this (s2 sb j õ (by exact LqNz c2) hj);rw [ai ⇑c1];exact aN (wp_elem ∅ ?_);rw[show Ã+(aċ) - 1=aČ by lia];exact aN (wp_galL O L B.kd (B.mem (by exact Lqj ř ϒ Lq1 (.a ñ (.a ν Lq0)) jž (LqNp h2 (LqNp hz ií)) rfl)) (λk hk=>#[(by exact Lqj ŵ ϯ Lq2 oŏ jΘ (LqNp hz (LqNp cŲ hk)) rfl),B.mem (by exact Lqj ř ϯ Lq2 nĖ ν eý rfl)]) (by exact LqNt h2) s2 λm f1 f2 f3=> ?_);dsimp only;by_cases c2:m=0;rw [bă];exact oϑ;change oŭ;by_cases c2:j<sb;show gŲ;by_cases c3:sb<=i;show gų;have:=f3 (j - sb) ∅ ∅;rw[show sb+(j - sb)=j by exact LqNx (Lqj Ĝ ι Lq2 ο Lq2 (LqNt (LqNz c2)) rfl) pŔ] at this;show O.trans _ _ _ (s1 i (aČ) hi (by exact Lqj Ĝ Lq0 Lq1 lÍ ϲ (LqNp (LqNw c3) LqNs) rfl) rê) this;rw [bĄ];have Od:(mć).size=aċ:=by rw[Array.size_extract];lia
 have Kt:(mĈ).size=m:=by rw[Array.size_extract];lia
 have T:xQ less a₀ (mć) (mĈ):=by exact#[K7 O s1 qÆ õ (by exact Lqj ř Lq0 Lq1 nĢ jΗ ní rfl),K7 O s2 õ (by exact Lqj Ĝ ι π Lq1 Lq2 f1 rfl) (by exact Nat.le_trans hz cŲ),dä,dä, (by exact oϒ), (by exact Nat.le_trans (jυ) (LqNd Kt)),?_,dã];rw[mY hi];rw[Od] at hi;show B.mem ∅;rw[mY hi];rw[Kt] at hi;show B.mem (by exact Lqj ŵ ϯ Lq2 oŏ jΚ (LqNp hz (LqNp f1 hi)) rfl);rw[mY (by exact Lqj Û Ϣ Lq0 ϑ ι (LqNp (LqNd Kt) lĽ) rfl),mY (by exact Lqj Û Ϣ Lq0 ϑ ι (LqNp (LqNd Od) (kχ)) rfl)];show g3 k õ (by exact Lqj Ĝ ϒ Lq1 (.a ñ υ) τ (LqNp kχ ((LqNt g1))) rfl);rw[mY hj,mY (by exact LqNt (oϒ))];rw[Kt] at hj;rw[Od,show Ã+(aċ - 1)=aČ by lia];show f2 j hj
 have fin : ∀ (r:Ú) (g:Nat),vq less (mć) (mĈ) r ->wpS Χ A E s (do modify λs=>setArr s (DI cÜ ač r.toList.zipIdx);return lž) Q cÞ:=by
  rintro r g ⟨rp,rs⟩;have rl:r.toList.length=sb+m - ač:=by
   rw[rp.length_eq,aO];have e1:(mć).toList.length=aċ:=by rw[dh];show Od
   have e2:(mĈ).toList.length=m:=by rw[dh];show Kt
   rw[e1,e2];exact LqNx (Lqj ϗ ι Lq2 (.a ς (.a eþ (.a Lq6 Lq1))) (.a Lq6 (.a Lq4 (.a Lq2 (.a Lq3 Lq5)))) (LqNp cÝ (LqNp (LqNt g1) LqNs)) rfl) (Lqj ϗ Lq0 ξ (.a Lq3 (.a Lq4 (.a Lq0 ψ))) (.a eÿ (.a (.a Lq1 Lq6) χ)) (LqNp (LqNe Og) (LqNp LqNs (rĀ))) rfl)
  have wl:=Hy (xs:=bõ) (at_:=Ã) (ms:=r.toList) (by rw[rl,hsz];exact Lqj ϗ Ϫ Lq3 oϺ mι rď rfl);rw[rl,rĵ] at wl;have wa: ∀n,oŮ=if Ã<=n /\ n<sb+m then(r.toList[n - ač]?).getD fϦ else di Ũ n:=λn=>by have e:=BH ač n r.toList 0 Ũ (by rw[rl,hsz];exact Lqj ϗ (.a lÔ Lq2) Lq3 oϺ mι rď rfl);rw[Nat.add_zero,rl,rĵ] at e;unfold di;rw[e];split<;>rfl
  have wm: ∀n,Ã<=n ->n<sb+m -> ∃n',d6 (Ã<=n') (n'<sb+m) (oŮ=di Ũ n'):=λn n1 n2=>by rw[wa,ak #[n1,n2],aĎ];have hm:=rp.mem_iff.mp (cH (l:=r.toList) (n:=n - ač) ∅);obtain hm | hm:=ay.mp hm;rw[oz] at hm;let⟨q,q1,q2,q3,e⟩:=DV hm;show#[q,q1, (by exact Lqj Ĝ ϒ ξ ϵ ξ (LqNp q2 lĽ) rfl),e];rw[oz] at hm;let⟨q,q1,q2,q3,e⟩:=DV hm;show#[q, (by exact Lqj ŵ ι Lq2 mζ (.a Lq4 χ) (LqNp cÝ (LqNp g1 q1)) rfl),q2,e]
  exact iú;exact aN (wpS_get (aS ?_));have ef:(failedOf (setArr cÞ (DI (arrOf cÞ) ač r.toList.zipIdx))).isNone=true:=by change(dÝ).isNone=true;rw[B.fl];rfl
  rw[ef];exact h _ #[?_,B.kd,B.fl] rfl (iΔ) (λn hn=> ?_);change(nΞ).Perm a₀;exact Array.Perm.trans ?_ B.perm;rw[Array.perm_iff_toList_perm,wl];have e3:=three (bõ).toList ač sb (sb+m) (by exact Lqj ř ι Lq2 jŸ ν (LqNp cÝ g1) rfl) qÆ (by simp;exact Lqj ŵ ι Lq2 (.a μ (.a Lq4 Lq1)) jΘ (LqNp hz (LqNp cŲ f1)) rfl);exact List.Perm.trans ?_ (List.Perm.of_eq e3.symm);exact lż;rw[<- cA];exact List.Perm.append_right _ ?_;rw[oz,oz] at rp;show rp;change LE less (di (nΞ) i) (di (nΞ) j);have N9: ∀x y,sa<=x ->x<Ã ->Ã<=y ->pĨ:=λx y x1 x2 y1 y2=>by by_cases c:y<sb;show s1 x y x1 pó c;have:=g2 (x - sa) (by exact Lqj ř ϒ Lq1 nĚ jż (LqNp x2 ((LqNt x1))) rfl);rw[show sa+(x - sa)=x by exact LqNx (Lqj Ĝ ι Lq2 ο Lq2 (LqNt x1) rfl) pŔ] at this;show O.trans _ _ _ this (s2 sb y õ hμ y2)
  have abl: ∀x y,Ã<=x ->x<sb+m ->sb+m<=y ->pĨ:=λx y x1 x2 y1 y2=>by by_cases c:x<sb;have:=f3 (y - sb) (by exact Lqj ř Lq0 Lq1 jŽ jž (LqNp y1 LqNs) rfl) ∅;rw[show sb+(y - sb)=y by exact LqNx (Lqj Ĝ ι Lq2 ο Lq2 (LqNt (Lqj Ĝ Lq0 Lq1 lÇ ξ (LqNp y1 lĽ) rfl)) rfl) pŔ] at this;show O.trans _ _ _ (s1 x (aČ) (by exact Lqj Ĝ Lq0 Lq1 lË ξ (LqNp x1 Ϡ) rfl) (by exact Lqj Ĝ Lq0 Lq1 lÍ ϲ (LqNp c LqNs) rfl) rê) this;show s2 x y hμ pó y2
  by_cases i1:i<Ã;have ei:=wa i;rw[ø] at ei;rw[ei];by_cases j1:j<Ã;have ej:=wa j;rw[ø] at ej;rw[ej];show s1 i j hi iR (by exact Lqj ŵ ϒ Lq1 oŋ mž (LqNp cÝ (LqNp g1 j1)) rfl);by_cases j2:j<sb+m;let⟨n',n1,n2,e⟩:=wm j (by exact LqNz j1) j2;rw[e];show N9 i n' hi i1 n1 (by exact Lqj ř ϒ ξ lÎ jΜ (LqNp f1 n2) rfl);have ej:=wa j;rw[ø] at ej;rw[ej];show N9 i j hi i1 (by exact Lqj Κ ι Lq2 (.a μ (.a Lq1 (.a eæ ñ))) (.a Lq4 (.a Lq3 eĀ)) (LqNp cÝ (LqNp g1 (LqNp (LqNz j2) lĽ))) rfl) hj;by_cases i2:i<sb+m;by_cases j2:j<sb+m;rw[wa i,wa j,ak (by exact ⟨aϏ,i2⟩),ak (by exact ⟨Nat.le_trans (aϏ) iR,j2⟩),aĎ,aĎ];by_cases cij:i=j;subst cij;show ĵ;show bM.mp rs _ _ ∅ ∅ (by exact Lqj Κ ϒ Lq1 (.a ϓ (.a (.a Lq0 ς) Lq5)) (.a Lq5 (.a Lq2 jΔ)) (LqNp (LqNk iR cij) (LqNp (LqNt (aϏ)) LqNs)) rfl);let⟨n',n1,n2,e⟩:=wm i (by exact aϏ) i2;have ej:=wa j;rw[ø] at ej;rw[e,ej];show abl n' j n1 n2 (by exact LqNz j2) hj;have ei:=wa i;have ej:=wa j;rw[ø] at ei ej;rw[ei,ej];show s2 i j (by exact Lqj Ĝ Lq0 Lq1 lÇ ξ (LqNp (LqNz i2) lĽ) rfl) iR hj;change oŮ=_;rw[wa n,ø]
 by_cases c3:aċ<=m;rw[ak c3];show aN (wp_mLo O L T B.kd jĈ);rw[ai c3];show aN (wp_mHi O L T B.kd jĈ)
def Runs (less:Υ)(xs:Ú):aÌ ->Nat ->Nat ->Prop
 | [],lo,hi=>lo=hi
 | (a,n,_)::r,lo,hi=>a=lo /\ 1<=n /\ Sg less xs lo ó /\ Runs less xs r ó hi
theorem Runs.le {less:Υ}{xs:Ú}: ∀ {l:aÌ} {lo hi:Nat},jĉ ->lo+l.length<=hi
 | [],lo,hi,h=>fϤ
 | cų,lo,hi,h=>by have:=Runs.le h.2.2.2;have:=h.2.1;rw[aT];lia
theorem Runs.app {less:Υ}{xs:Ú}: ∀ {l1 l2:aÌ} {lo hi:Nat},Runs less xs (l1++l2) lo hi↔ ∃m,Runs less xs l1 lo m /\ Runs less xs l2 m hi
 | [],l2,lo,hi=>#[λh=>#[lo,rfl,h],(by rintro ⟨m,e,h⟩;exact by cases e;show h)]
 | cų,l2,lo,hi=>by symm;rintro⟨h1,h2,h3,h4⟩;let⟨m,a1,a2⟩:=Runs.app.mp h4;show#[m,#[h1,h2,h3,a1],a2];rintro⟨m,⟨h1,h2,h3,a1⟩,a2⟩;show#[h1,h2,h3,Runs.app.mpr #[m,a1,a2]]
theorem Runs.out {less:Υ}{xs ys:Ú}{e1 e2:Nat}(o:fϸ): ∀ {l:aÌ} {lo hi:Nat},(hö) ->jĉ ->Runs less ys l lo hi
 | [],lo,hi,_,h=>h
 | cų,lo,hi,hc,⟨h1,h2,h3,h4⟩=>by have:=Runs.le h4;exact#[h1,h2,iΔ,Runs.out o ∅ h4];rw[o i ∅,o j ∅];show h3 i j hi iR hj
theorem ID {e1 e2 lo hi:Nat}(o:fϸ)(hc:hö)(h:hõ):Sg less ys lo hi:=λi j hi iR hj=>by rw[o i ∅,o j ∅];show h i j hi iR hj
def HU {l:Ý}(h:2<=l.length):gm λl1 x y=>l=l1++ aÍ:=by exact#[l.take (eā),l[eā],l[eĂ],?_];have:=bA (eā) l;rw[dQ (by exact Lqj Û ϒ Lq1 gŵ Lq1 bĉ rfl),dQ (by exact Lqj Û ϵ Lq1 gŵ Lq1 bĉ rfl),List.drop_eq_nil_of_le (by exact Lqj Û Lq0 lϷ Lq0 gŶ LqNs rfl)] at this;have e:eā+1=eĂ:= (by exact LqNx (Lqj Ĝ ϒ Lq1 (.a gŵ Lq2) ϲ (LqNp bĉ LqNs) rfl) (Lqj Ĝ Lq0 ϑ lÆ (.a gŶ Lq2) (LqNp LqNs ((LqNt (Lqj [_] ñ Lq0 ý Lq0 h rfl)))) rfl));simp![e] at this;show this.symm
theorem Ed {α:Type}{l:Ý}(h:aϐ): ∃l1 x,l=l1++ [x]:=#[l.dropLast,l.getLast h,(List.dropLast_concat_getLast h).symm]
def Ar (l1:aÌ)(x:Rn)(f:Rn ->Rn):(l1++ [x]).modify l1.length f=l1++ [f x]:=by
 induction l1 with
 | nil=>rfl
 | cons a l ih=>rw[List.cons_append,aT,List.modify_succ_cons,ih];rfl
def wp_mR (O:ĳ)(L:Ϸ){st:jo}{x y:Rn}{i lo:Nat}(B:Ι)(hp:eä=(eă).toArray)(hi:dô)(hz:fù)(R:Runs less Ũ (eă) 0 lo)(h: ∀bG z,fæ ->eã=(l1++z::l2).toArray ->Runs less Ū (l1++z::l2) 0 lo ->sK 0 lo Ũ Ū ->cÂ):oŎ:=by let⟨sa,na,pw⟩:=x;let⟨sb,nb,pw2⟩:=y;let⟨m,r1,rfl,h1,s1,rfl,h2,s2,r2⟩:=Runs.app.mp R;have Ow:=r2.le;exact wp_mAt O L B hp hi rfl h1 h2 (by exact Lqj Κ Ϫ Lq3 (.a Lq4 (.a (.a Ϫ Lq5) ö)) jź (LqNp hz (LqNp Ow Ϡ)) rfl) s1 s2 λbG B' QH s' o'=>h bG _ B' QH ?_ λk hk=>o' k ∅;exact Runs.app.mpr #[_,r1.out o' fú,rfl, (by exact Lqj Û ñ ι iï ι lϳ rfl),?_,?_];rw[<- Nat.add_assoc];show s';rw[<- Nat.add_assoc];show r2.out o' (.inr õ)
def z7 {a n p q lo hi:Nat}(h:Runs less xs (l1++ [(a,n,p)]) lo hi):Runs less xs (l1++ [(a,n,q)]) lo hi:=by let⟨m,r1,h1,h2,h3,h4⟩:=Runs.app.mp h;show Runs.app.mpr #[m,r1,h1,h2,h3,h4]
def wp_sort (O:ĳ)(L:Ϸ){st:jo}(B:Ι)(hp0:eä= #[])(h2:2<=a₀.size)(h: ∀bG,(bø).Perm a₀ ->hø ->Sg less Ū 0 a₀.size ->Q () bG):wpS Χ A E s sortRuns' Q st:=by
 rw[sortRuns'_eq];exact gŢ;dsimp only;simp![B.size];generalize minRun' a₀.size a₀.size 0=mr;exact aN (wpS_mono (c6 (I:=λx c bG=>cM λlo pl=>kM (c=(none,lo)) (x<=lo) (fù) (fæ) (kψ) (Runs less Ū pl 0 lo)) (Q:=λc bG=> ∃pl,fU (c=(none,a₀.size)) (fæ) (kψ) (nγ)) ?step ?fin #[0,[],rfl,Â,dg _,B,hp0,rfl]) ?post);case fin=>
  rintro c bG ⟨lo,pl,rfl,h1,Mj,B',hp,R⟩
  have:eĄ:= (by exact LqNx Mj (Nat.le_trans kĞ h1))
  subst this
  show hν
 case step =>
  rintro x c bG _ hx ⟨lo,pl,rfl,h1,Mj,B',hp,R⟩
  dsimp only
  by_cases c1:lo≥a₀.size
  rw[aÆ]
  have:eĄ:= (by exact LqNx Mj c1)
  subst this
  show aS hν
  rw[aÇ]
  exact aN (wp_run O L (by exact Lqj Ĝ ι Lq2 ο Lq2 (LqNt (kģ)) rfl) (by exact Lqj Ĝ ñ Lq0 lÏ jι (LqNp cÀ LqNs) rfl) B' λm m8 B2 m1 m2 s2 p2 o2=> ?_)
  dsimp only
  have R2:Runs less (arrOf m8) pl 0 lo:=R.out o2 fú
  by_cases c2:m<mr
  rw [ak c2]
  exact mõ
  exact aN (wp_bin O L ∅ ∅ B2 s2 λrf B3 s3 p3 o3=> ?_)
  simp![eE,aF,bw]
  have R3:=R2.out o3 fú
  have n1:1<=kω:= ∅
  have n2:lo+kω<=a₀.size:= ∅
  rw[p2,hp] at p3
  clear o3
  revert s3 n1 n2
  generalize kω=n
  intro s3 n1 n2
  exact gŢ
  cases hb:jĊ with
  | none=>dsimp only;exact rģ;change mμ;rw[p3];simp
  | some q=>
   let⟨s1,S',p1⟩:=q;dsimp only;have cS:bċ:=λe=>by subst e;rw[p3] at hb;simp at hb
   exact rĳ;rintro y c gZ _ hy ⟨rfl,yw,ne4,B4,s4,p4,R4⟩;exact gŢ;by_cases c2:iΞ >1;rw[ak c2];have hl:eć:=by rw[p4] at c2;simp at c2;exact oϻ
   let⟨l1,u,v,e4⟩:=HU hl;have e5:nģ:=by rw[p4,e4];simp
   have e6:pÀ:=by rw[e5,p4,e4];simp
   rw[e6];let⟨u1,u2,u3⟩:=u;dsimp only;split;show mĉ;subst e4;exact qţ;simp![eE,aF,bw];show pā;rw[ai c2];show mĉ;rintro c gZ ⟨rfl,yw,ne4,B4,s4,p4,R4⟩;dsimp only;exact oĲ;let⟨l1,fϹ,rfl⟩:=Ed ne4;exact rı;change pϺ;rw[p4];simp![List.modify_toArray,List.push_toArray,aU];congr 2;rw[aO,bW,Nat.add_sub_cancel];show Ar l1 _ _
  rw [ai c2]
  have s3:=s2
  have n1:=m1
  have n2:lo+m<=a₀.size:= ∅
  have p3:pendingOf m8=pl.toArray:=by rw[p2,hp]
  have B3:=B2
  have R3:=R2
  clear p2 o2 B2 R2 s2 m1 m2 c2
  revert s3 n1 n2
  generalize m=n
  intro s3 n1 n2
  revert p3 B3 R3 s3
  generalize m8=rf
  intro p3 B3 R3 s3
  exact gŢ
  cases hb:jĊ with
  | none=>dsimp only;exact rģ;change mμ;rw[p3];simp
  | some q=>
   let⟨s1,S',p1⟩:=q;dsimp only;have cS:bċ:=λe=>by subst e;rw[p3] at hb;simp at hb
   exact rĳ;rintro y c gZ _ hy ⟨rfl,yw,ne4,B4,s4,p4,R4⟩;exact gŢ;by_cases c2:iΞ >1;rw[ak c2];have hl:eć:=by rw[p4] at c2;simp at c2;exact oϻ
   let⟨l1,u,v,e4⟩:=HU hl;have e5:nģ:=by rw[p4,e4];simp
   have e6:pÀ:=by rw[e5,p4,e4];simp
   rw[e6];let⟨u1,u2,u3⟩:=u;dsimp only;split;show mĉ;subst e4;exact qţ;simp![eE,aF,bw];show pā;rw[ai c2];show mĉ;rintro c gZ ⟨rfl,yw,ne4,B4,s4,p4,R4⟩;dsimp only;exact oĲ;let⟨l1,fϹ,rfl⟩:=Ed ne4;exact rı;change pϺ;rw[p4];simp![List.modify_toArray,List.push_toArray,aU];congr 2;rw[aO,bW,Nat.add_sub_cancel];show Ar l1 _ _
 case post =>
  rintro c bG ⟨pl,rfl,B',hp,R⟩
  dsimp only
  have Ow:=R.le
  exact aN (wpS_mono (c6 (I:=λx c gZ=>dâ /\ ∃pl,fU gŷ lľ nϬ (eĈ \/ pl.length+x<=a₀.size)) (Q:=λc gZ=>dâ /\ ∃pl,d6 gŷ nϬ (eĈ)) ?_ ?_ #[rfl,pl,B',hp,R, .inr (by exact Lqj Û ϖ Lq1 Ϙ Lq1 Ow rfl)]) ?_)
  rintro x c gZ _ hx ⟨rfl,yw,B4,p4,R4,hl⟩
  exact gŢ
  have esz:iΞ=yw.length:=by rw[p4];simp
  by_cases c1:iΞ<=1
  rw[aÆ]
  show aS #[rfl,yw,B4,R4, (by exact Nat.le_trans (LqNd esz) c1)]
  rw [aÇ]
  generalize afC:Option.any _ _=cnd
  have mk: ∀k,k+2<=yw.length -> ∀ (Q':ForInStep (fû) ->jo ->Prop),(∀bG pl,fæ ->kψ ->nγ ->(eĈ \/ pl.length+(x+1) <=a₀.size) ->Q' (.yield cÃ) bG) ->wpS Χ A E s (do
    let b <- mergeAt' k
    if(!b)=true then pure (ForInStep.done ((some (),()):fû)) else nä) Q' gZ:=by
   intro k hk Q' hQ
   have e:=bA k yw
   rw[dQ (by exact Lqj Û ϒ Lq1 gŵ Lq1 hk rfl),dQ (by exact Lqj Û ϵ Lq1 gŵ Lq1 hk rfl)] at e
   have vT:(yw.take k).length=k:=by rw[bv];lia
   rw[<- e] at p4 R4
   exact aN (wp_mR O L B4 p4 vT.symm õ R4 kΒ)
   simp![eE,aF,bw]
   exact aS (hQ _ _ B5 p5 R5 (.inr ?_))
   rw[aO,vT,aT,List.length_drop]
   lia
  cases cnd with
  | true=>simp![b_];show mk (kΑ - 1) (by exact Lqj ř gŵ Lq1 (.a Lq2 (.a Lq0 (.a Lq3 ý))) jς (LqNp (LqNe esz) (LqNp hì (pϡ))) rfl) _ oŐ
  | false=>simp![aF,bw];show mk (kΑ) (by exact Nat.le_trans pϡ (LqNe esz)) _ oŐ
  rintro c gZ ⟨rfl,yw,B4,p4,R4,hl⟩
  show#[rfl,yw,B4,R4, ∅]
  rintro c gZ ⟨rfl,yw,B4,R4,hl⟩
  exact aS (h _ B4.perm B4.fl ?_)
  match yw,R4,hl with
  | [],R4,_=>show absurd R4 (by change ¬(0=a₀.size);exact λe=>Lqg [_] (.a ý Lq0) ϖ (LqNp h2 cŰ) rfl)
  | [(u1,u2,u3)],⟨_,_,h3,h4⟩,_=>have h4:0+u2=a₀.size:=h4;rw[h4] at h3;show h3
  | _::_::_,_,hl=>simp at hl
def Ge (h:Heap)(a:gg)(vs:ã):Heap:=((h.update a (Obj.mapSeq λ_=> #[])).push (seqObj aϑ vs.toArray 0)).push (seqObj ÿ #[] 0)
def NP (ho:ĺ=nĤ):(Ge h a vs).get? a=some (seqObj ÿ #[] (if((#[]:aÎ)).size==vs.toArray.size then n else n+1)):=by have ha:=aM ho;unfold Ge;rw[Heap.get?_push_ne _ _ _ (by rw[size_push',Heap.size_update];show a7 (dW ha)),Heap.get?_push_ne _ _ _ (by rw[Heap.size_update];show a7 ha)];show mν
def Iy (O:ĳ)(ho:fü=nĤ)(hsz:iΟ)(hk:2<=vs.length -> ∀ (Q:SortKind ->bϹ),Q kd mŒ ->wpAny Χ A (keyKind' vs.toArray) Q E mŒ)(L:jY prog w A E mŒ kd (cŵ) less)(h: ∀ (us:ã),us.Perm vs ->us.Pairwise (λx y=>less (y,y) (x,x)=false) ->P jċ {s with heap:=sortedHeap s.heap a vs us.toArray}): pϻ:=by
 rw[list_sort_plain];exact ah (listItems_at ho rfl ?_);exact ah (listUpdate_at ho rfl ?_ (hsz:= ⇑hsz));exact ah (seqEpoch_at (mν) rfl ?_);exact ah (wpAny_newTuple ?_);exact ah (wpAny_newList ?_);exact d8 ?_;have TF:=NP ho;change wpAny Χ A _ P E mŒ;dsimp only;have fin: ∀xs:Ú,xs.Perm (cŵ) ->Sg less xs 0 hξ ->P jċ {s with heap:=sortedHeap s.heap a vs (xs.map aď)}:=by
  intro xs hp hs;have hl:xs.toList.Perm (vs.zip vs):=by rw[<- pairsOf_toList];show Array.perm_iff_toList_perm.mp hp
  have AM: ∀p,p∈xs.toList ->p.1=p.2 /\ p.1∈vs:=λp QH=>mem_zip_self (hl.mem_iff.mp QH);have:=h kĤ ?_ ?_;have e:(jČ).toArray=xs.map aď:=by apply Array.toList_inj.mp;simp
  rwa [e] at this;have h1:=hl.map (λp:iy=>p.2);rwa [List.map_snd_zip õ] at h1;rw[bM];intro i j hi hj iR;have rL:bϷ:= ⇑hi;have jW:j<xs.size:= ⇑hj;have h1:=hs i j (dg _) (Nat.le_of_lt iR) (by rw[<- hp.size_eq];show jW);have e1:aΟ=(kĤ[i],kĤ[i]):=by rw[List.getElem_map];have hm:=zg rL;have e:=ja rL;rw[ao ⇑rL] at e;have e:=bF e;rw[e];show lØ
  have e2:di xs j=(kĤ[j],kĤ[j]):=by rw[List.getElem_map];have hm:=zg jW;have e:=ja jW;rw[ao ⇑jW] at e;have e:=bF e;rw[e];show lØ
  rw[e1,e2] at h1;show h1
 have afP:vs.toArray.size=vs.length:=by simp
 by_cases h2:vs.toArray.size<2;rw[ak h2,ak h2];exact cŶ;rw[StateT.run_pure];exact cŶ;dsimp only;exact lſ;exact ah (listUpdate_at TF rfl ?_ (hsz2:=by rw[Array.size_map];change hξ<=_;rw[pairsOf_size];exact Lqj Ĝ Lq0 ϑ (.a Lq0 (.a ϓ ö)) (.a Lq2 (.a ý Lq1)) (LqNp (LqNd afP) (LqNp h2 Ϡ)) rfl));simp![bne_self_eq_false,aF,bw];exact aD (fin (cŵ) (hο) ?_);intro i j _ iR hj;have:i=j:=by rw[pairsOf_size] at hj;exact LqNx iR (Lqj ř Lq0 Lq1 (.a Lq2 (.a ϕ lϱ)) (.a Lq3 (.a ý τ)) (LqNp (LqNd afP) (LqNp h2 (LqNp hj Ϡ))) rfl)
 subst this;show ĵ;rw[ai h2,ai h2];exact ah (hk (by exact nĥ) _ ?_);exact ah (cg (wp_sort O L (st:=SortSt.mk' kd (vs.toArray.zip vs.toArray) #[] 7 none) (Q:=λ_ bG=>(bø).Perm (cŵ) /\ hø /\ Sg less Ū 0 hξ) #[hο,rfl,rfl] rfl (by rw[pairsOf_size];exact nĥ) λbG a1 a2 a3=>#[a1,a2,a3]) ?_ cŷ);rintro⟨⟨⟩,bG⟩ s' ⟨rfl,hp,hf,hs⟩;dsimp only;exact lſ;exact ah (listUpdate_at TF rfl ?_ (hsz2:=by exact aI (Nat.le_of_eq ((Array.size_map ..).trans (hp.size_eq.trans (pairsOf_size _)))) ?_;exact Lqj Û Lq0 ϑ Lq0 Lq1 hsz rfl));rw[hf];simp![bne_self_eq_false,aF,bw];show aD (fin _ hp hs)
def uC (x y:iy):Bool:=decide (numOf x.1<numOf y.1)
def aa4:Ord uC:=by exact#[λx y h=> ?_,λx y z h1 h2=> ?_];unfold uC at*;rw[cy] at h;show cG (by exact LqIm (fϻ));unfold LE uC at*;rw[decide_eq_false_iff_not] at*;exact LqIm (Int.le_trans cß (LqIz h2))
def ltI {a₀:Ú}(h0:IntKeys a₀):jY prog w A E s oneType' a₀ uC:=by
 intro x y st Q hx hy hk hq;let⟨n,t,e1⟩:=h0 x hx;let⟨m,u,e2⟩:=h0 y hy;rw[lt'_eq];exact gŢ;rw[hk,keyLt'_oneType,e1,e2];exact aN (wpS_lift (wpAny_attempt (oneLt_int cÁ)));have e:uC x y=decide (n<m):=by unfold uC;rw[e1,e2];rfl
 rw[e] at hq;show aS hq
def wJ (ho:fü=nĤ)(hI:fý)(hsz:iΟ)(h: ∀ (out:aÎ) (NI:ā),IntsAre out.toList NI ->NI.Perm ns ->NI.Pairwise cŸ ->P jċ {s with heap:=sortedHeap s.heap a vs out}): pϻ:=by
 exact Iy aa4 ho hsz (kd:=oneType') (λh2 Q hq=> ?_) (ltI hI.intKeys) λus hp hs=> ?_;let⟨v₁,v₂,rest,rfl⟩:gm λv₁ v₂ rest=>vs=hù:=by
  match vs,h2 with
  | [],h2=>simp at h2
  | [_],h2=>simp at h2
  | hù,_=>show#[v₁,v₂,rest,rfl]
 rw[keyKind_ints hI];show aD hq;have yR: ∀v,v∈us -> ∃n t,v= .int n t:=λv hv=>hI.all v (hp.mem_iff.mp hv);exact h us.toArray (us.map numOf) ⇑(intsAre_map us yR) ?_ ?_;have:=hp.map numOf;rwa [hI.nums] at this;rw[cz];exact hs.imp λ{x y} e=> ?_;unfold uC at e;rw[decide_eq_false_iff_not] at e;simp only at e;exact LqIz e
universe TS
namespace L2
open PySem PySem.Spec PyProof.Rows
abbrev cL:=Sum Int Str
def pF:cL ->fi ->Bool
 | aĐ,v=>Value.isInt k v
 | ađ,v=>Value.isStrOf x v
def abk (w:World):cL ->Int
 | aĐ=>hashInt k
 | ađ=>hashStr w x
theorem eY: ∀ {k:cL} {v:fi},dö ->(cM λi t=>k=Sum.inl i /\ v=fþ) \/ (cM λx t=>k=Sum.inr x /\ v=fÿ)
 | aĒ,v,h=>by let⟨t,e⟩:=Value.isInt_shape (k:=i) (v:=v) h;show .inl #[i,t,rfl,e]
 | ađ,v,h=>by let⟨t,e⟩:=Value.isStrOf_shape (x:=x) (v:=v) h;show .inr #[x,t,rfl,e]
def Go (i:Int)(t:Tok):pF (aĒ) (bČ)=true:=by simp[pF,Value.isInt]
def Gn (x:Str)(t:Tok):pF (ađ) (.str x t)=true:=by simp[pF,Value.isStrOf]
def Tl (a b:Int):nĦ=(a==b):=by by_cases e:a=b;subst e;simp;have h:¬lÙ:=λq=>e gŸ;rw[cG h];show(beq_eq_false_iff_ne.mpr e).symm
def Ti (a b:Str):decide (gÁ=Sum.inr b)=eĊ:=by by_cases e:a=b;subst e;simp;have h:¬gÁ=Sum.inr b:=λq=>e (Sum.inr.inj q);rw[cG h,cG e]
theorem Tk (a:Int)(b:Str):decide (gÀ=Sum.inr b)=false:=cG hú
theorem Tj (a:Str)(b:Int):decide (gÁ=Sum.inl b)=false:=cG hú
def cV (prog:Program)(w:World):PySem.KeyKind prog w cL where
 is:=pF
 hash:=abk w
 inj :=λv a b ha hb=>by
  rcases eY ha with⟨i,t,rfl,rfl⟩ | ⟨x,t,rfl,rfl⟩
  rcases eY hb with⟨j,u,rfl,e⟩ | ⟨y,u,rfl,e⟩
  injection e with e1 _;rw[e1];show nomatch e
  rcases eY hb with⟨j,u,rfl,e⟩ | ⟨y,u,rfl,e⟩
  show nomatch e
  injection e with e1 _;rw[e1]
 byValue:=λk v h=>by rcases eY h with⟨i,t,rfl,rfl⟩ | ⟨x,t,rfl,rfl⟩ <;>rfl
 pyHash:=λhv h=>by
  rcases eY hv with⟨i,t,rfl,rfl⟩ | ⟨x,t,rfl,rfl⟩
  show wpAny_pyHash_int h;show wpAny_pyHash_str h
 eqBool:=λhu hv h=>by
  rcases eY hu with⟨i,t,rfl,rfl⟩ | ⟨x,t,rfl,rfl⟩
  rcases eY hv with⟨j,u,rfl,rfl⟩ | ⟨y,u,rfl,rfl⟩
  rw[Tl] at h;show wpAny_eqBool_int h;rw[Tk] at h;show SeqAt.EqAt.int_str i t y u _ _ _ _ h;rcases eY hv with⟨j,u,rfl,rfl⟩ | ⟨y,u,rfl,rfl⟩
  rw[Tj] at h;show SeqAt.EqAt.str_int x t j u _ _ _ _ h;rw[Ti] at h;show wpAny_eqBool_str h
 «strs» :=λk x t v h=>by
  rcases eY h with⟨i,u,rfl,e⟩ | ⟨y,u,rfl,e⟩
  show nomatch e
  injection e with e1 _;subst e1;cases v<;>rfl
theorem At (prog:Program)(w:World)(i:Int)(t:Tok):gÂ (aĒ) (bČ)=true:=Go i t
theorem As (prog:Program)(w:World)(x:Str)(t:Tok):gÂ (ađ) (.str x t)=true:=Gn x t
set_option genInjectivity true in
inductive V where
  | fD | bl (b:Bool) | int (i:Int) | str (x:Str) | Dm (b:Array UInt8) | E2 (b:UInt64) | ref (a:Addr) | ty (n:String)
 deriving DecidableEq
def RelV:V ->fi ->Prop
 | .fD,u=>eċ
 | ä,u=>gÃ
 | Ă,u=> jč
 | aē,u=> ∃t,u=fÿ
 | .Dm b,u=> kĥ
 | .E2 b,u=> kĦ
 | Ā,u=>Μ
 | .ty n,u=>gÄ
abbrev cR:Ä ->eČ:=Paired RelV
theorem cR.length (r:bč):xs.length=us.length:=gŹ
theorem cR.get: ∀ {xs:Ä} {us:ã} {i:Nat} {x:V},bč ->Ψ -> ∃u,us[i]? =þ /\ ļ
 | _,_,_,_, .nil,e=>by simp at e
 | _,_,0,_, .cons r _,e=>by simp at e;subst e;show#[_,rfl,r]
 | _,_,i+1,x, cà,e=>by let⟨u,h1,h2⟩:=cR.get (i:=i) (x:=x) t Å;show#[u, ⇑h1,h2]
theorem cR.set {x:V}{u:fi}(r:ļ): ∀ {xs:Ä} {us:ã} (i:Nat),bč ->cR (xs.set i x) (us.set i u)
 | _,_,_, .nil=> .nil
 | _,_,0, cà=> cá
 | _,_,i+1, .cons q t=> .cons q (cR.set r i t)
theorem cR.append: ∀ {xs ys:Ä} {us ws:ã},bč ->cR ys ws ->cR (xs++ys) (us++ws)
 | _,_,_,_, .nil,s=>s
 | _,_,_,_, cá,s=> .cons r (cR.append t s)
theorem cR.take: ∀ {xs:Ä} {us:ã} (n:Nat),bč ->cR (xs.take n) (us.take n)
 | _,_,0,_=> .nil
 | _,_,_+1, .nil=> .nil
 | _,_,n+1, cá=> .cons r (cR.take n t)
theorem cR.drop: ∀ {xs:Ä} {us:ã} (n:Nat),bč ->cR (xs.drop n) (us.drop n)
 | _,_,0,r=>r
 | _,_,_+1, .nil=> .nil
 | _,_,n+1, cà=>cR.drop n t
def lI:fI V ->fI fi ->Prop
 | ă,þ=>Ľ
 | none,none=>True
 | _,_=>False
def KV {κ:Type}:cŹ ->dù ->Prop:=Paired λ(p:κ×V) (q:κ×fi)=>aϓ /\ eč
def kV:cL ->V
 | aĒ=> Ă
 | ađ=> aē
set_option genInjectivity true in
inductive HO where
 /-- a list -/
 | lst (xs:Ą)
 /-- a tuple (never changes) -/
 | tup (xs:Ą)
 /-- a dict VF keys are ints and texts;one VF keys are tuples of ints and texts (UZ empty one is both) -/
 | dK (kvs:eĎ) | dT (kvs:hπ)
 /-- a set of ints:its members,its size -/
 | set (S:Int ->Bool) (n:Nat)
 /-- an instance of UZ class at C,its dict at dx,its attributes -/
 | ins (C dx:Addr) (fs:fĀ)
 /-- UZ dict of UZ instance at x -/
 | own (x:Addr)
 /-- UZ dict of an exception -/
 | xd (fs:fĀ)
 /-- a bound method,f of x -/
 | met (f x:Addr)
 /-- a range object lo,lo+1, .. below hi -/
 | Ho (lo hi:Int)
 /-- a Wc afK is known to UZ object (UZ aaQ;a dict while a loop walks it):read,never written while it is so -/
 | nM (o:Obj) (u:HO)
 /-- a code Xx table -/
 | Pu (ps:dú)
 /-- any other Wc,by afG is true of its one object (a def of afu own:af6 a S n:=HO.ext λh=> ..) -/
 | ext (φ:dû)
abbrev Hp:=gg ->fI HO
def dB (H:Hp)(a:gg)(o:HO):Hp:=λb=>if b=a then ą else H b
def cw:dB H a o a=ą:=by unfold dB;rw[Ć]
def bS (h:b≠a):dB H a o b=H b:=by unfold dB;rw[Æ]
def XC {H:Hp}(h:cź)(h':cŻ)(d:o≠u):a≠b:=by intro e;subst e;rw[h] at h';show d (bF h')
def d3 {H:Hp}(h:cź)(h':ľ):a≠b:=by intro e;subst e;rw[h] at h';cases h'
def wo (h:Heap)(a:gg)(its:aÎ):Prop:= ∃o,gź /\ jĎ /\ ∃n,iÿ /\ dü
theorem wo.t (x:wo h a its):IsTup h a its:=let ⟨o,e,c,n,d,_⟩:=x;#[o,e,c,n,d]
theorem wo.lt (x:wo h a its):fĂ:=let ⟨_,e,_⟩:=x;Ç
theorem wo.new (h:Heap)(its:aÎ):wo (h.push {cls:= fā,data:= .seq its}) h.objs.size its:=mÀ
section
variable (P:Program)(w:World)
def fm (H:Hp)(h:Heap)(a:gg):HO ->Prop
 | .lst xs=>Ϩ /\ cM λ dý aϔ=>câ /\ ĺ=pĂ
 | aϕ=>Ϩ /\ ∃its:ã,câ /\ wo h a its.toArray
 | .dK kvs=>qň
 | .dT kvs=>jď /\ jΝ /\ ∃xs:iĀ,Paired (λ(p:aÐ×V) (q:fă)=>pΗ) kvs xs /\∃o es ep,gź /\ o.ExactDict /\ iΡ /\ es.toList=xs.map (entryOfKey (iā)) /\ (xs.map ć).Nodup
 | .set S n=>h.SetOf (intKind P w) a S n
 | eĐ=>H dx=fĄ /\ gŻ /\ dx≠a /\ ĺ=some hû /\∃mA,dþ /\ (mĊ) /\ mϮ
 | .own _=> ∃o,gź
 | .xd fs=> ∃mA,h.Ns1 a mA /\ mĊ
 | .Ho lo hi=>gm λt u v=>ĺ=some qĮ
 | .nM o u=>gź /\ fm H h a u
 | .Pu ps=>ĺ=nΟ
 | .met f x=>ĺ=some (W.methodObj ŀ bď)
 | .ext φ=>φ h /\ (∃o,gź) /\ ∀h1 h2:Heap,φ h1 ->(∀o,h1.get? a=ą ->h2.get? a=ą) ->φ h2
def nV (H:Hp)(h:Heap):Prop:= ∀a o,cź ->gÅ
universe e
def fm.lt (x:gÅ):fĂ:=by
 cases o with
 | lst xs=>let⟨_,_,_,_,e⟩:=x;show Ç
 | tup xs=>let⟨_,_,_,p⟩:=x;show p.lt
 | dK kvs=>let⟨_,_,_,_,o,_,_,e,_⟩:=x;show Ç
 | dT kvs=>let⟨_,_,_,_,o,_,_,e,_⟩:=x;show Ç
 | set S n=>let⟨o,_,_,_,e,_⟩:=x;show Ç
 | ins C dx fs=>let⟨_,_,_,e,_⟩:=x;show Ç
 | own y=>let⟨_,e⟩:=x;show Ç
 | xd fs=>let⟨_,⟨_,_,_,e,_⟩,_⟩:=x;show Ç
 | Ho lo hi=>let⟨_,_,_,e⟩:=x;show Ç
 | nM ob u=>let⟨e,_⟩:=x;show Ç
 | Pu ps=>show nî
 | met f y=>show nî
 | ext φ=>let⟨_,⟨_,e⟩,_⟩:=x;show Ç
theorem Paired.Ta {α β:Type}{F G:α ->β ->Prop}: ∀ {l₁:Ý} {l₂:fh β},Paired F l₁ l₂ ->(∀a b,F a b ->G a b) ->Paired G l₁ l₂
 | _,_, .nil,_=> .nil
 | _,_, cá,f=> .cons (f _ _ r) (Paired.Ta t f)
def fm.tY (x:gÅ)(k: ∀b u,(b=a \/ H b=fĄ) ->nş)(ho: ∀b,H b=fĄ ->H' b=fĄ)(ht: pÁ):fm P w H' h' a o:=by
 induction o with
 | lst xs=>let⟨z,its,n,r,e⟩:=x;show#[z,its,n,r,iĂ]
 | tup xs=>let⟨z,its,r,ob,e,c⟩:=x;show#[z,its,r,ob,iĂ,c]
 | dK kvs=>let⟨z,y,vs,r,ob,es,ep,e,c⟩:=x;show#[z,y,vs,r,ob,es,ep,iĂ,c]
 | dT kvs=>let⟨z,y,xs,r,ob,es,ep,e,c⟩:=x;show#[z,y,xs,Paired.Ta r λp q z=>lĿ,ob,es,ep,iĂ,c]
 | set S n=>let⟨ob,es,ep,t,e,c⟩:=x;show#[ob,es,ep,t,iĂ,c]
 | ins C dx fs=>let⟨d,z,ne,e,mA,⟨od,es,ep,e2,c⟩,r⟩:=x;show#[ho _ d,z,ne,iĂ,mA,#[od,es,ep,k _ _ (.inr d) e2,c],r]
 | own y=>let⟨ob,e⟩:=x;show#[ob,iĂ]
 | xd fs=>let⟨mA,⟨od,es,ep,e,c⟩,r⟩:=x;show#[mA,#[od,es,ep,iĂ,c],r]
 | Ho lo hi=>let⟨t,u,v,e⟩:=x;show#[t,u,v,iĂ]
 | nM ob u ih=>let⟨e,q⟩:=x;show#[iĂ,ih q]
 | Pu ps=>have e:ĺ=nΟ:=x;change cä=nΟ;show iă
 | met f y=>have e:ĺ=nΡ:=x;change cä=nΡ;show iă
 | ext φ=>let⟨p,⟨o,e⟩,st⟩:=x;show#[st _ _ p λo q=>k _ _ ũ q,#[o,iĂ],st]
theorem nV.lt (x:Ŭ)(e:cź):fĂ:=(x a o e).lt
def nV.fresh {a:gg}(x:Ŭ)(e:gÇ):bđ:=by
 cases q:H a with
 | none=>rfl
 | some u=>show absurd (b7 (x.lt q) e) aĔ
theorem nV.kept (x:Ŭ)(k: oĳ):nV P w H h':=λa o e=>(x a o e).tY (λb u _ q=>aϗ) cŽ cž
theorem nV.laid {a:gg}(x:Ŭ)(k: oĳ)(hp:gÇ)(new:fm P w cſ h' a o):nV P w cſ h':=λb u e=>by have hn:=x.fresh hp;by_cases hb:b=a;subst hb;rw[cw] at e;cases e;show new;rw[aÑ] at e;show(x b u e).tY (λc v _ q=>k c v q) (λc q=>by rw[eđ];show q) λc xs q=>by rw[eđ];show q
def Rd (H:Hp)(a:gg)(u:HO):Prop:=H a=þ \/ ∃o,H a=gÈ
def Rd.ok (r:Rd H a u)(x:Ŭ):gÉ:=by obtain r | ⟨o,r⟩:=r;show x a u r;let⟨_,q⟩:=x a _ r;show q
def Zz:fI HO ->Prop
 | some (aĕ)=>True
 | some (.dK _)=>True
 | some (.dT _)=>True
 | some (.set _ _)=>True
 | some (.ins _ _ _)=>True
 | some (.ext _)=>True
 | _=>False
theorem nV.write (ok:Ŭ)(mu:bĒ)(he:lÚ)(k: pÒ)(Vh: jΞ)(new:fm P w dĀ h' x o'):nV P w dĀ h':=λb u q=>by
 have Xz: ∀c y,H c=some (.own y) ->c≠x:=λc y r z=>by subst z;rw[r] at mu;show mu
 have aa7: ∀c xs,iĄ ->c≠x:=λc xs r z=>by subst z;rw[r] at mu;show mu
 by_cases hb:b=x;subst hb;rw[cw] at q;cases q;show new;rw [aÑ] at q;by_cases Ua:b=e;have q':H b=some bē:=by obtain z | z:=he;show absurd (Ua.trans z) hb;rw[Ua];show z
 rw[q] at q';cases q';let⟨v,hv⟩:=Vh;show#[v,by rw[Ua];show hv];exact(ok b u q).tY (λc v hc r=>k c v ?_ r) (λc r=>by rw[bS (Xz c b r)];show r) λc xs r=>by rw[bS (aa7 c xs r)];show r
 obtain rfl | hc:=hc;show Ua;rintro rfl;obtain z | z:=he;show Xz c b hc z;rw[hc] at z;cases z;show hb rfl
structure Un (fs ex:cå)(H H':Hp)(h h':Heap):Prop where
 keep: ∀b o,gż ->ľ ->b∉fs ->aĖ ->hü
 slot: ∀b o,gż ->ľ ->b∈fs ->aĖ -> oí
 free: ∀b o,gż ->ľ ->aĖ ->cæ
 there: ∀b o,gż ->aĖ -> ∃o',hς
 vE: pÁ
 sJ: pÓ
 vH: pϘ
section
variable {fs GI ex ex':å}{H H1 H2:Hp}{h h1 h2 h':Heap}{a x e:gg}{o:HO}
def Un.any (u:Un fs ex H H1 h h1)(q:bĐ=Ğ)(n:ľ)(hx:aĖ): ∃sl,h1.get? b=some {ob with slots:=sl}:=by by_cases hb:b∈fs;show u.slot b ob q n hb hx;show#[ob.slots,u.keep b ob q n hb hx]
theorem Un.kept (k: oĳ):Un fs ex H H h h':=#[λb ob q _ _ _=>bĔ,λb ob q _ _ _=>#[ob.slots,bĔ],λ_ _ _ n _=>n,λb ob q _=>#[ob,bĔ],cž,λ_ _ _ q=>q,λ_ ps q=>#[#[],by rw[q];simp]]
theorem Un.refl:Un fs ex H H h h:=Un.kept cž
theorem Un.laid (k: oĳ)(hp:gÇ)(hn:bđ):Un fs ex H cſ h h' where
 keep:=λb u q _ _ _=>aϗ
 slot:=λb u q _ _ _=>#[u.slots,aϗ]
 free:=λb u q n _=>by rw[bS (a7 (b7 (aM q) hp))];show n
 there:=λb u q _=>#[u,aϗ]
 vE:=λb xs q=>by rw[eđ];show q
 sJ:=λb u xs q=>by rw[eđ];show q
 vH:=λb ps q=>#[#[],by rw[eđ,q];simp]
def Un.write (mu:bĒ)(he:lÚ)(k: pÒ)(Vh: jΞ):Un fs ex H cγ h h':=by
 have hx: ∀b,ľ ->b≠x:=λb n z=>by subst z;rw[n] at mu;show mu
 have hb: ∀b,ľ ->b≠e:=λb n z=>by subst z;obtain r | r:=he;show hx b n r;rw[n] at r;cases r
 have hm: ∀b u,cŻ ->¬Zz (þ) ->b≠x:=λb u q nm z=>by subst z;rw[q] at mu;show nm mu
 exact#[λb u q n _ _=>hý,λb u q n _ _=>#[u.slots,hý],λb u q n _=>by rw[bS (hx b n)];show n,λb u q _=> ?_,λb xs q=>by rw[jĐ];show q,λb u xs q=>by rw[jĐ];show q,λb ps q=>#[#[],by rw[jĐ,q];simp]];by_cases Ua:b=e;subst Ua;show Vh;show#[u,k b u Ua q]
universe e
def _b (h:Heap)(H:Hp):å:=(kħ).filter λa=>(H a).isSome
def yP (h:Heap)(H:Hp):Heap:=W.hideAll h bĕ
theorem Gy (h:Heap)(H:Hp):(yP h H).objs.size=h.objs.size:=W.hideAll_size _ _
theorem KJ (e:gż)(n:ľ):gŽ=ą:=W.hideAll_get _ e λhm=>by have q:(H b).isSome=true:=(aL.mp hm).2;rw[n] at q;simp at q
def NG (e:gŽ=ą):gż /\ ľ:=by
 have e':gż:=W.of_hideAll bĕ e;exact#[e',?_];cases q:H b with
 | none=>rfl
 | some x=>have hm:b∈_b h H:=aL.mpr #[cI.mpr (aM e'),by simp[q]];have z:gŽ=none:=W.hideAll_none bĕ hm;rw[z] at e;cases e
def OV (g h:Heap)(L:gg):ω:=(kħ).filterMap λa=>if a=L \/ (g.get? a).isSome=true then none else(ĺ).map λo=>(a,o)
def rest (g h:Heap)(L d:gg):ω:=(OV g h L).filter λp=>decide (p.1≠d)
structure Mod (K:PySem.W.Frag)(mg:ią)(base:Heap):Prop where
 XU:cç
 glob:kĨ
 blt: ∃mb,base.Ns builtinsNs mb /\ oϔ
 nolimit:base.NoLimit
structure Cx where
 prog:Program
 w:World
 K:PySem.W.Frag
 mg:ią
 base:Heap
 A:Around
 N:bĖ
 s₀:Shared
 H₀:Hp
 env:Env
 outer:bė
 stack:bė
 ex:cå
 fn:Str ->Bool
 calm:Bool
 pn:hþ
 xe:jΟ
def Dd (l:aė):å:=l.filterMap (·.frame)
abbrev Cx.fs (X:Cx):å:=Dd X.outer
def Vis (sc:Scope)(x:Str):Prop:=hτ=dā \/ mċ \/ hτ=cε
def Loc (sc:Scope)(x:Str):Prop:=pΘ
def Look (env:Env)(h:Heap)(m:dĂ)(x:Str)(u:fi):Prop:=(eē=dā /\ m x=þ) \/ ((eē=cδ \/ eē=cε) /\ ∃c,lŀ /\ h.IsCell c (þ))
structure Cx.Ok (X:Cx):Prop where
 mod:iΤ
 kind:X.env.scope.kind= .function
 glob:X.env.globals=mainGlobals
 blt:X.env.builtins=builtinsNs
 above:X.s₀.heap.objs.size<=X.env.locals
 inj: ∀x y c,mÁ ->X.env.cells.lookup y=aĘ ->x=y
 has: ∀x,(gË=cδ \/ gË=cε) -> ∃c,mÁ
 Zk: ∀x c,dă ->mÁ ->X.s₀.heap.objs.size<=c
 hd:Ŷ ->X.A.handled=none
 frames:X.A.frames=some X.stack
 _h:X.stack=X.outer \/ (X.stack=X.env::X.outer /\ X.env.frame=some X.env.locals)
 exf: ∀b∈X.ex,hÿ /\ oő
 bs: ∀b o,jĒ ->lŁ /\ fć
 Mq:X.base.objs.size<=X.s₀.heap.objs.size
 JO: ∀b o,jĒ ->b∉X.ex
 GQ: ∀b∈X.ex,bĘ
 sI:X.s₀.heap.FunFrames X.base X.outer
 Ug: ∀b∈X.fs,fć
structure Inv (X:Cx)(aj:hþ)(σ:List (Option V))(H:Hp)(s:Shared):Prop where
 ok:X.Ok
 os:s.os=X.s₀.os
 bare:gÌ
 base:Un X.fs X.ex X.H₀ H X.s₀.heap s.heap
 loc: ∃m,lÛ /\ ∀ (i:Nat) (x:Str) (v:V),gſ ->jΡ ->hυ -> ∃u,Ľ /\ Look X.env s.heap m x u
 cell: ∀x c,mÁ -> ∃v,hχ
 free:H X.env.locals=none
 jI: ∀x c,mÁ ->H c=none
 pin: ∀p∈bĚ,qθ
 dU:nV X.prog X.w H s.heap
 len:σ.length=X.N.length
theorem Cx.Ok.aa9 {X:Cx}(ok:X.Ok)(e:jĒ):bĘ:=λhb=>by have:=(ok.sI.mem hb).1;rw[e] at this;cases this
theorem Inv.bs (I:ϙ): ∀b o,jĒ ->jē /\ ľ:=λb o e=>#[I.base.keep b o gγ.1 gγ.2 (I.ok.aa9 e) gδ,I.base.free b o gγ.1 gγ.2 gδ]
theorem Inv.bk (I:ϙ): ∀b o,jĒ ->jē:=λb o e=>(I.bs b o e).1
theorem Inv.mod (I:ϙ):iΤ:=I.ok.mod
theorem Inv.pH (I:ϙ):X.K.In s.heap:=I.ok.mod.XU.keeps I.bk
theorem Inv.fr (I:ϙ): ∃m,Fr X.base X.env.locals s.heap m:=
 let ⟨m,hn,_⟩:=I.loc
 #[m,hn,I.bk,jΤ]
theorem Inv.lt (I:ϙ):X.env.locals<s.heap.objs.size:=let ⟨_,hn,_⟩:=I.loc;hn.lt
theorem Inv.sz (I:ϙ):X.s₀.heap.objs.size<=s.heap.objs.size:=aI I.ok.above (Nat.le_of_lt I.lt)
theorem Inv.aa8 (I:ϙ){a:gg}(h:iΥ):a∉X.fs:=λhb=>by let⟨_,o,ho,_⟩:=gÍ;show absurd (b7 (aM ho) (aI I.sz h)) aĔ
theorem Inv.Uw (I:ϙ): ∀x c,mÁ ->c≠X.env.locals:=λx c e z=>by let⟨v,o,ho,hd⟩:=eĔ;let⟨m,⟨o',es,ep,Om,nk,_⟩,_⟩:=I.loc;rw[z,Om] at ho;cases ho;rw[nk] at hd;cases hd
def Inv.sI (I:ϙ):s.heap.FunFrames X.base X.outer:=by
 have all: ∀ (l:aė),(∀b∈Dd l,b∈X.fs) ->X.s₀.heap.FunFrames X.base l ->s.heap.FunFrames X.base l:=by
  intro l;induction l with
  | nil=>intro _ _;trivial
  | cons env r ih=>intro hs hl;let⟨hk,⟨L,o,hf,hn,ho,hd⟩,hr⟩:=hl;have hL:L∈X.fs:=hs L (by unfold Dd;rw[List.filterMap_cons,hf];show aQ);let⟨sl,e⟩:=I.base.slot L o ho (I.ok.Ug L hL) hL λz=>I.ok.GQ L z hL;show#[hk,#[L,_,hf,hn,e,hd],ih (λb hb=>hs b (by unfold Dd;rw[List.filterMap_cons,hf];show aC _ hb)) hr]
 show all X.outer (λ_ hb=>hb) I.ok.sI
def Inv.stack (I:ϙ):s.heap.FunFrames X.base X.stack:=by obtain e | ⟨e,hf⟩:=I.ok._h;rw[e];show I.sI;rw[e];let⟨m,hn,_⟩:=I.loc;exact .cons (by rw[I.ok.kind];decide) hf hn ?_ I.sI;show Heap.get?_none_of_le (jΤ)
theorem Inv.B8 (I:ϙ): ∀b∈cζ,b∈X.env.locals::X.fs:=λb hb=>by obtain e | ⟨e,hf⟩:=I.ok._h;rw[e] at hb;show aC _ hb;rw[e] at hb;unfold Dd at hb;rw[List.filterMap_cons,hf] at hb;show hb
theorem Inv.D7 (I:ϙ): ∀b∈cζ,ľ:=λb hb=>by obtain e | hb:=az.mp (I.B8 b hb);rw[e];show I.free;let⟨_,o,ho,_⟩:=gÍ;show I.base.free b o ho (I.ok.Ug b hb) λz=>I.ok.GQ b z hb
def Inv.step {ch:å}(I:ϙ)(Mf: râ)(keep: ∀b o,hÿ ->bĘ ->aę ->jē ->ľ ->hü)(slot: ∀b o,hÿ ->b∈X.fs ->aę ->jē ->ľ -> oí)(free: ∀b o,aę ->jē ->ľ ->cæ)(there: ∀b o,aę ->jē -> ∃o',hς)(vE: pÁ)(sJ: pÓ)(vH: pϘ)(ns: ∀m,lÛ ->h'.Ns X.env.locals m)(dU:iΦ)(hg:AllBare g'): pψ:=by
 have neL: ∀b o,lŁ ->hÿ:=λb o e=>lł;have _G: ∀b o,lŁ ->b∉X.ex ->aę:=λb o e hx hb=>by obtain z | z:=(Mf b hb).1;show hx z;show absurd (b7 aĚ z) aĔ
 have cellK: ∀x c,mÁ -> ∀v,hχ ->h'.IsCell c v:=(by rintro x c e v ⟨o,ho,hd⟩;exact by have XE:c∉ch:=mœ;by_cases hc:c∈X.fs;let⟨sl,q⟩:=slot c o eĕ hc XE ho eĖ;show#[_,q,hd];show#[o,keep c o eĕ hc XE ho eĖ,hd])
 exact#[I.ok,I.os,hg,#[jĔ,jĔ,λb o e n hx=> ?_,gε,λb xs e=>vE b xs (I.base.vE b xs e),λb o xs e=>sJ b o xs (I.base.sJ b o xs e),λb ps e=> ?_],?_,eė,?_,eė,dĄ,dU,I.len];show keep b o dą hb fĊ mÂ lÜ;let⟨sl,e1⟩:=lŃ;let⟨sl',e2⟩:=slot b _ dą hb fĊ e1 lÜ;show#[sl',e2];let⟨o',e1⟩:=jΥ;show free b o' fĊ e1 lÜ;let⟨o',e1⟩:=jΥ;show there b o' fĊ e1;let⟨m1,e1⟩:=I.base.vH b ps e;let⟨m2,e2⟩:=vH b _ e1;show#[m1++m2,by rw[e2,Array.append_assoc]];let⟨m,hn,hl⟩:=I.loc;exact#[m,ns m hn,jΦ];let⟨u,r,l⟩:=hl i x v e1 e2 e3;exact#[u,r,?_];obtain l | ⟨k,c,e,z⟩:=l;show .inl l;show .inr #[k,c,e,cellK x c e _ z];let⟨v,z⟩:=eĔ;show#[v,cellK x c e v z];let⟨m,⟨o,_,_,ho,_⟩,_⟩:=I.loc;show free _ o (jΧ) ho I.free;let⟨v,o,ho,hd⟩:=eĔ;show free c o (mœ) ho eĖ;let⟨e,n,ne,nf,d⟩:=cθ;have XE:p.1∉ch:=λz=>(Mf p.1 z).2.2.2 p hp rfl;show#[keep p.1 p.2 ne nf XE e n,free p.1 p.2 XE e n,ne,nf,d]
def Inv.un (I:ϙ)(u:Un X.fs [] H H' s.heap h')(dU:iΦ):oĴ:=by let⟨m,ić,_⟩:=bĜ;let⟨sl,hL⟩:=u.any ho I.free ś;show I.step (g':=s.gens) (d':=s.drawn) (ch:= []) iĈ (λb o _ hb _ e n=>u.keep b o e n hb ś) (λb o _ hb _ e n=>u.slot b o e n hb ś) (λb o _ e n=>u.free b o e n ś) (λb o _ e=>u.there b o e ś) u.vE u.sJ u.vH qł dU I.bare
def Inv.call (I:ϙ)(u:Un (cζ) ch H H' s.heap h')(dU:iΦ)(hg:AllBare g')(Mf: râ): pψ:=by let⟨m,ić,_⟩:=bĜ;let⟨sl,hL⟩:=u.any ho I.free jΧ;show I.step (ch:=ch) Mf (λb o hL hb hc e n=>u.keep b o e n (λz=>(az.mp (I.B8 b z)).elim hL hb) hc) (λb o _ _ hc e n=>u.any e n hc) (λb o hc e n=>u.free b o e n hc) (λb o hc e=>u.there b o e hc) u.vE u.sJ u.vH qł dU hg
def Inv.turned (I:ϙ)(k: ∀b o,pÂ)(hn:H it=none)(hL:it≠X.env.locals)(h1:it∈X.ex \/ X.s₀.heap.objs.size<=it)(h2: ∀x c,mÁ ->c≠it)(h3: ∀p∈bĚ,p.1≠it):oĖ:=by
 have nit: ∀b u,cŻ ->b≠it:=λb u e z=>by rw[z,hn] at e;cases e
 exact I.step (g':=s.gens) (d':=s.drawn) (ch:= [it]) (ŷ) (λb o _ _ hc e _=>mξ) (λb o _ _ hc e _=>#[o.slots,mξ]) (λ_ _ _ _ n=>n) (λb o hc e=>#[o,mξ]) (cŷ) (λ_ _ _ e=>e) (λb ps e=>#[#[],by rw[e];simp]) (dĆ) (eĘ) I.bare;have e:b=it:=by simpa using hb
 subst e;show#[h1,hL,h2,h3];let⟨o,es,ep,ho,r⟩:=hm;show#[o,es,ep,k _ o (aZ hL) ho,r];exact(I.dU b u e).tY (λc v hc q=>k c v ?_ q) cŽ cž;obtain z | z:=hc;rw[z];show nit b u e;show nit c _ z
theorem Inv.tok (I:ϙ)(t:Nat):Inv X aj σ H {s with toks:=t}:=I.un (h':=s.heap) (t':=t) Un.refl I.dU
theorem Inv.kept (I:ϙ)(k: ∀b u,oï):oĖ:=I.un (Un.kept k) (I.dU.kept k)
theorem Inv.laid {a:gg}(I:ϙ)(k: ∀b u,oï)(hp:iΥ)(new:fm X.prog X.w cſ h' a o): Inv X aj σ cſ lγ:=I.un (Un.laid k hp (I.dU.fresh hp)) (I.dU.laid k hp new)
theorem Inv.write (I:ϙ)(mu:bĒ)(he:lÚ)(k: ∀b u,b≠e ->oï)(Vh: jΞ)(new:fm X.prog X.w cγ h' x o):Inv X aj σ cγ lγ:=I.un (Un.write mu he k Vh) (I.dU.write mu he k Vh new)
theorem Inv.weak (I:ϙ)(hl:σ'.length=σ.length)(w: ∀ (i:Nat) v,σ'[i]? =fĈ ->jΡ):Inv X aj σ' H s:=#[I.ok,I.os,I.bare,I.base,let ⟨m,hn,uL⟩:=I.loc;#[m,hn,λi x v e1 e2 e3=>uL i x v e1 (w i v e2) e3],I.cell,I.free,I.jI,I.pin,I.dU,hl.trans I.len]
theorem Inv.Ex (I:ϙ)(h: ∀p∈Ey,qθ):Inv X Ey σ H s:=#[I.ok,I.os,I.bare,I.base,I.loc,I.cell,I.free,I.jI,λp hp=>gζ (λz=>I.pin p (List.mem_append_left _ z)) (h p),I.dU,I.len]
def Aq {N:Ĉ}(hN:N.Nodup){i j:Nat}(a:N[i]? =û)(b:N[j]? =û):i=j:=by let⟨h1,e1⟩:=am.mp a;let⟨h2,e2⟩:=am.mp b;show(List.getElem_inj hN).mp iĉ
def qx (I:ϙ)(hN:X.N.Nodup)(hi:gſ)(hx:hψ)(r:Ľ)(h: ∀s',nħ ->(∃a,Heap.SameBut a s.heap s'.heap /\ (a=X.env.locals \/ jđ=ĉ)) ->aϘ)(hf:pĩ:=by first | show Ĵ | show ĸ | assumption):nϭ:=by
 let⟨m,hn,hl⟩:=bĜ;have abU:(X.env.scope.kind== .class || (X.env.scope.kind== .module && X.env.locals !=X.env.globals))=false:=by rw[I.ok.kind];rfl
 have hiσ:i<σ.length:=by rw[I.len];show eę
 have Uw:=I.Uw;have tracked: ∀ {a:gg} {h':Heap},(∃o,fü=ą /\ bđ) ->lÝ ->nV X.prog X.w H h':=λ{a h'} ha hs b ob e=>by let⟨_,_,QT⟩:=ha;exact(I.dU b ob e).tY (λc w' hc q=>(hs.2 c ?_).trans q) cŽ cž;rintro rfl;obtain rfl | hc:=hc;rw[QT] at e;cases e;rw[QT] at hc;cases hc
 obtain hk | hk:=hx;exact wpAny_storeName_local hk hn (λh' TM hs=> ?_) abU;let⟨oL,_,_,hoL,_⟩:=id hn;exact h _ #[I.ok,I.os,I.bare,qι,#[_,TM,kĩ],λy c e=> ?_,I.free,I.jI,dĄ,tracked #[oL,hoL,I.free] hs, ⇑I.len] #[_,hs, Ĵ];show oŒ mÂ;let⟨sl,e1⟩:=lŃ;show#[sl,oŒ e1];let⟨o',e1⟩:=jΥ;show#[o',oŒ e1];by_cases hj:j=i;subst hj;rw[hi] at e1;cases e1;rw[mÃ] at e2;cases e2;show#[u,r, .inl #[hk,by simp]];rw[mČ] at e2;let⟨u',r',q⟩:=iĊ;exact dć;rcases q with⟨k,e⟩ | ⟨k,c,e,z⟩
 exact .inl #[k,?_];have:y≠x:=λe=>hj (Aq hN e1 (e▸hi));simp[this,e];show .inr #[k,c,e,kΓ];let⟨w',z⟩:=I.cell y c e;show#[w',kΓ];let⟨e,n,ne,nf,d⟩:=cθ;show#[(hs.2 p.1 ne).trans e,n,ne,nf,d];have hfn:dă:=by obtain z | z:=hf;show z;rw[z] at hk;cases hk
 let⟨c,hc⟩:=I.ok.has x (.inl hk);let⟨w',z⟩:=I.cell x c hc;exact wpAny_storeName_cell I.ok.kind hk hc z (λh' Vp hs=> ?_);let⟨oc,hoc,abE⟩:=id z;exact h hΑ #[I.ok,I.os,I.bare,qι,#[m,hn.sameBut hs (aZ (Uw x c hc)),kĩ],λy c' e=> ?_,I.free,I.jI,dĄ,tracked #[oc,hoc,I.jI x c hc] hs, ⇑I.len] #[c,hs, .inr hc];show pĖ mÂ;let⟨sl,e1⟩:=lŃ;show#[sl,pĖ e1];let⟨o',e1⟩:=jΥ;show#[o',pĖ e1];by_cases hj:j=i;subst hj;rw[hi] at e1;cases e1;rw[mÃ] at e2;cases e2;show#[u,r, .inr #[.inl hk,c,hc,Vp]];rw[mČ] at e2;let⟨u',r',q⟩:=iĊ;exact dć;obtain q | ⟨k,c',e,z'⟩:=q;show aě;exact .inr #[k,c',e,z'.sameBut hs ?_];rintro rfl;show hj (Aq hN e1 (I.ok.inj _ _ _ e hc▸hi));by_cases hcc:c'=c;subst hcc;show#[_,Vp];let⟨w2,z2⟩:=I.cell y c' e;show#[w2,z2.sameBut hs hcc];let⟨e,n,ne,nf,d⟩:=cθ;exact#[(hs.2 p.1 ?_).trans e,n,ne,nf,d];intro q;rw[q,hoc] at e;have q':oc=p.2:=bF e;show d w' (by rw[<- q'];show abE)
theorem oO (I:ϙ)(hN:X.N.Nodup)(hi:gſ)(hx:hψ)(r:Ľ)(h: ∀s',nħ ->aϘ)(hf:pĩ:=by first | show Ĵ | show ĸ | assumption):nϭ:=qx I hN hi hx r (λs' I' _=>h s' I') hf
def Inv.Zj (I:ϙ)(ho:s'.os=s.os)(u:Un (cζ) ch H H' s.heap s'.heap)(dU:nV X.prog X.w H' s'.heap)(hg:gθ)(Mf: râ):hΒ:=by let⟨h',g',d',t',o'⟩:=s';have e:o'=s.os:=ho;subst e;show I.call (g':=g') (t':=t') (d':=d') u dU hg Mf
abbrev XK:=fi ->aÒ ->Ş
abbrev St:=fh (fI V)
abbrev VK:=fċ
abbrev TE:=St ->gÎ
abbrev TT:=St ->mο
abbrev TA:=St ->Hp ->(hā) ->Prop
structure Bz where
 nx:Ω
 rt:VK
 bk:Ω:=eĚ
 ct:Ω:=eĚ
abbrev TS:=Bz ->Ω
def EP (X:Cx)(aj:ω)(σ:St)(Q:VK)(u:fi)(s':fk):Prop:=cM λv H'=>d6 (hΒ) (Ľ) (aĜ)
def TP (X:Cx)(aj:ω)(σ:St)(Q:hĀ)(b:Bool)(s':fk):Prop:= ∃H',hΒ /\ Q b H'
def AP (X:Cx)(aj:ω)(σ:St)(Q:hā)(us:ã)(s':fk):Prop:=cM λvs H'=>d6 (hΒ) (bĞ) (Q vs H')
def SP (X:Cx)(aj:ω)(D:Bz)(f:Flow)(s':fk):Prop:=
 match f with
 | .next=>cM λσ' H'=>iċ /\ dĈ
 | .brk=>cM λσ' H'=>iċ /\ dĉ
 | .cont=>cM λσ' H'=>iċ /\ dĊ
 | .ret u=>gm λv σ' H'=>d6 (iċ) (Ľ) (D.rt v H')
def PE (X:Cx)(e:Expr)(t:TE):Prop:=∀ (aj:ω) (s:fk) (σ:St) (H:Hp) (Q:VK),ϙ ->bğ ->wpAny Ϥ X.A (eě) gÏ X.xe s
def PT (X:Cx)(e:Expr)(t:TT):Prop:=∀ (aj:ω) (s:fk) (σ:St) (H:Hp) (Q:hĀ),ϙ ->bğ ->wpAny Ϥ X.A (isTrue e X.env (eě)) gÐ X.xe s
def PW (X:Cx)(e:Expr)(t:TT):Prop:=∀ (nA:Sem fi) (aj:ω) (s:fk) (σ:St) (H:Hp) (Q:hĀ),ϙ ->bğ ->wpAny Ϥ X.A (hΓ) gÐ X.xe s
theorem PW.pt (h:PW X e t):PT X e t:=h _
def PA (X:Cx)(es:ğ)(t:TA):Prop:=∀ (pos:Pos) (aj:ω) (s:fk) (σ:St) (H:Hp) (Q:hā),ϙ ->bğ ->wpAny Ϥ X.A (spliced (mπ)) (AP X aj σ Q) X.xe s
def PS (X:Cx)(st:Stmt)(t:TS):Prop:=∀ (aj:ω) (s:fk) (σ:St) (H:Hp) (D:Bz),ϙ ->bĠ ->wpAny Ϥ X.A (exec st X.env) dċ X.xe s
def BF (X:Cx)(st:aϙ)(t:TS):Prop:=∀ (aj:ω) (s:fk) (σ:St) (H:Hp) (D:Bz),ϙ ->bĠ ->wpAny Ϥ X.A (execs st X.env) dċ X.xe s
theorem dE {Q Q':α ->bϹ}(h:wpAny M A t Q E s)(hQ: ∀a s,Q a s ->Q' a s):wpAny M A t Q' E s:=cg h hQ cι
section
variable {X:Cx}
def bin (ha:ş)(hb:cè){σ:St}{R:V ->fċ}(I:ϙ)(h:oĵ){f:fi ->fi ->Sem α}(hf: qϜ): rĐ:=by exact lδ;rintro v s1 ⟨x,H1,I1,r1,q1⟩;exact dE lÞ ?_;rintro u s2 ⟨y,H2,I2,r2,q2⟩;show mč
def MJ (i:Nat):TE:=λσ H Q=> ∃v,jΡ /\ Q v H
def tC (v:V):TE:=λ_ H Q=>Q v H
def Sx {pos:Pos}(hN:gſ)(hv:hυ)(hd:ϸ:=by decide)(GA:nĨ:=by decide):lń:=by
 intro aj s σ H Q I h;let⟨v,e,h⟩:=h;let⟨m,hn,hl⟩:=I.loc;let⟨u,r,l⟩:=hl i x v hN e hv;have fin:EP X aj σ Q u s:=eĞ
 rcases l with⟨hk,hm⟩ | ⟨hk,c,hc,QV⟩
 show wpAny_Name (wpAny_loadName_local I.ok.kind hk hn hm fin) hd;obtain hk | hk:=hk;show wpAny_Name (wpAny_loadName_cell I.ok.kind hk hc QV fin) hd;show wpAny_Name (wpAny_loadName_free I.ok.kind hk hc QV fin GA) hd
theorem aA {i j pos}:PE X (.Constant bĢ j pos) (tC bĢ):=λ_ _ _ H _ I h=>wpAny_Constant_int #[Ă,H,aϚ,Ĺ,h]
theorem gv {b j pos}:PE X (.Constant (.bool b) j pos) (tC aϛ):=λ_ _ _ H _ I h=>Constant_bool #[ä,H,I,rfl,h]
theorem Jp {j pos}:PE X (.Constant .none j pos) (tC .fD):=λ_ _ _ H _ I h=>Constant_none #[.fD,H,I,rfl,h]
def Gl (X:Cx)(x:Str):Prop:=gË=some .globalImplicit
theorem tq {σ:St}(I:ϙ)(hg:aĝ)(hm:aĞ=þ)(h:Q u s)(hd:ϸ:=by decide):pΙ:=Calls.Name_function_global I.ok.kind hg (Calls.loadGlobal_global oΕ hm h) hd
def iI {E:Φ}{σ:St}{pos:Pos}(I:ϙ)(hg:aĝ)(hm:dČ)(hv:gÊ=þ)(h:Q u s)(hn:gž :=by decide)(hd:ϸ:=by decide):pΙ:=by let⟨mb,h1,h2⟩:=I.mod.blt;show Calls.Name_function_global I.ok.kind hg (Calls.loadGlobal_builtin oΕ hm (by rw[I.ok.blt];show h1.keeps I.bk) ((h2 x hn).trans hv) h) hd
theorem sZ (hg:aĝ)(hm:aĞ=þ)(r:Ľ)(hd:ϸ:=by decide):lŅ:=λ_ _ _ H _ I h=>tq I hg hm eĞ hd
theorem kS {pos:Pos}(hg:aĝ)(hm:dČ)(hv:gÊ=þ)(r:Ľ)(hn:gž :=by decide)(hd:ϸ:=by decide):lŅ:=λ_ _ _ H _ I h=>iI I hg hm hv eĞ hn hd
variable {a b:Expr}{ta tb:TE}{pos:Pos}
def PC (X:Cx)(op:CmpOp)(a b:Expr)(t:TE):Prop:=∀ (aj:ω) (s:fk) (σ:St) (H:Hp) (Q:VK),ϙ ->bğ ->wpAny Ϥ X.A (eĜ) (λv s₁=>wpAny Ϥ X.A (eĝ) (λu s₂=>wpAny Ϥ X.A (compareOp op v u) gÏ X.xe s₂) X.xe s₁) X.xe s
def JQ (b:Expr)(h:op≠ .In)(h2:eğ):lß:=by
 have e1:jĖ:=by cases op<;>first | rfl | show eĠ
 have e2:kΔ:=by cases op<;>first | rfl | show fč
 cases b<;>simp[behindInMarks,e1,e2]
def tB (t:TE):TT:=λσ H Q=>t σ H λx H1=> ∃c,bģ /\ Q c H1
def Cm (h:PC X op a b t)(h1:lß:=by first | show JQ _ ⋯ ⋯ | rfl):PT X lņ (tB t):=by intro aj s σ H Q I hw;exact wpAny_isTrue_Compare1 (dE jė λv s1 h1=>dE h1 λu s2 h2=>dE h2 ?_) h1;rintro c s3 ⟨x,H1,I1,r1,q1⟩;let⟨d,rfl,q⟩:=q1;cases r1;show fĎ
def gT (h:PE X e t)(he: ∀nA,hΓ=(do let v <- nA;standAt e.pos;kĪ):=by intro _;rfl):PT X e (tB t):=by intro aj s σ H Q I hw;exact isTrue_plain (dE jė ?_) (he _);rintro v s1 ⟨x,H1,I1,r1,q1⟩;let⟨d,rfl,q⟩:=q1;cases r1;show fĎ
variable {tA _e:TT}{rest:ğ}
def Wp (t u:TT):TT:=λσ H Q=>t σ H λc H1=>if ağ then u σ H1 Q else Q false H1
def tOr (t u:TT):TT:=λσ H Q=>t σ H λc H1=>if ağ then Q true H1 else u σ H1 Q
def Wl (t:TT):TT:=λσ H Q=>t σ H hΕ
def mG (ha:cé):PW X (.BoolOp .And [a] pos) tA:=by
 intro wh aj s σ H Q I h;exact isTrue_and oð;cases c with
 | true=>show isTrue_and_nil e
 | false=>show e
def jz (ha:cé):PW X (.BoolOp .Or [a] pos) tA:=by
 intro wh aj s σ H Q I h;exact isTrue_or oð;cases c with
 | false=>show isTrue_or_nil e
 | true=>show e
def qD (ha:cé)(hb:PW X mĎ _e):PW X mϯ (Wp tA _e):=by
 intro wh aj s σ H Q I h;exact isTrue_and mď;rintro c s1 ⟨H1,I1,q1⟩;cases c with
 | true=>show lŇ
 | false=>show dč
def j7 (ha:cé)(hb:PW X mÄ _e):PW X mς (tOr tA _e):=by
 intro wh aj s σ H Q I h;exact isTrue_or mď;rintro c s1 ⟨H1,I1,q1⟩;cases c with
 | true=>show dč
 | false=>show lŇ
def gH (ha:cé):PT X jΩ (Wl tA):=by intro aj s σ H Q I h;show isTrue_not (ha aj s σ H (hΕ) I h)
def PJ (ta tb:TE):TE:=λσ H Q=>ta σ H λx H1=> ∃c,bģ /\ if ağ then cμ else Q (.bl false) H1
def Wi (ta tb:TE):TE:=λσ H Q=>ta σ H λx H1=> ∃c,bģ /\ if ağ then Q (bĤ) H1 else cμ
def Py (ta:TE):TE:=λσ H Q=>ta σ H λx H1=> ∃c,bģ /\ Q (.bl (!c)) H1
theorem uj {op}(h:PE X a t):PE X (.BoolOp op [a] pos) t:=λaj s σ H Q I hw=>BoolOp_one (h aj s σ H Q I hw)
def yx (ha:ş)(hb:PE X mĎ tb):PE X mϯ (PJ ta tb):=by
 intro aj s σ H Q I h;exact BoolOp_and mď;rintro v s1 ⟨x,H1,I1,r1,q1⟩;let⟨c,rfl,q1⟩:=q1;cases r1;exact cZ ?_;cases c with
 | true=>show kī
 | false=>show#[.bl false,H1,I1,rfl,q1]
def Xc (ha:ş)(hb:PE X mÄ tb):PE X mς (Wi ta tb):=by
 intro aj s σ H Q I h;exact BoolOp_or mď;rintro v s1 ⟨x,H1,I1,r1,q1⟩;let⟨c,rfl,q1⟩:=q1;cases r1;exact cZ ?_;cases c with
 | false=>show kī
 | true=>show#[bĤ,H1,I1,rfl,q1]
def Sy (ha:ş):PE X jΩ (Py ta):=by intro aj s σ H Q I h;exact UnaryOp_ mď;rintro v s1 ⟨x,H1,I1,r1,q1⟩;let⟨c,rfl,q1⟩:=q1;cases r1;show not_of (cZ #[.bl (!c),H1,I1,rfl,q1])
def tIf (t:TT)(ta tb:TE):TE:=λσ H Q=>t σ H λc H1=>if ağ then ta σ H1 Q else cμ
def Jr (hc:PT X c tA)(ha:ş)(hb:cè):PE X (.IfExp c a b pos) (tIf tA ta tb):=by
 intro aj s σ H Q I h;exact wpAny_IfExp mĐ;rintro d s1 ⟨H1,I1,q1⟩;cases d with
 | true=>show ha aj s1 σ H1 Q I1 q1
 | false=>show kī
universe e
def ip (K:iQ)(H:Hp)(a:gg)(xs:Ä):Prop:=Rd H a cê \/gm λ(o:Obj) (its:aÎ) aϔ=>kM (cν=ą) (o.cls= eď) (dü) (iÿ) jĘ iČ
def jT (K:iQ)(H:Hp)(a:gg)(xs:Ä):Prop:=Rd H a ŝ \/gm λ(o:Obj) (its:aÎ) aϔ=>kM (cν=ą) (jĎ) (dü) (iÿ) jĘ iČ
def afd:fi ->fI V
 | .none=>some .fD
 | .bool b=>some aϛ
 | .int i _=>some bĢ
 | .str x _=>some bĥ
 | .bytes b _=>some (.Dm b)
 | .float b _=>some (.E2 b)
 | Ā=>fď
 | .type n=>some (.ty n)
 | _=>none
def RelV.abs (r:ļ):afd u=û:=by
 cases x with
 | fD=>cases r;rfl
 | bl _=>cases r;rfl
 | int _=>let⟨t,rfl⟩:=r;rfl
 | str _=>let⟨t,rfl⟩:=r;rfl
 | Dm _=>let⟨t,rfl⟩:=r;rfl
 | E2 _=>let⟨t,rfl⟩:=r;rfl
 | ref _=>cases r;rfl
 | ty _=>cases r;rfl
theorem RelV.inj {x y:V}{u:fi}(r:ļ)(q:Ł):x=y:=bF (r.abs.symm.trans q.abs)
theorem cR.inj: ∀ {xs ys:Ä} {us:ã},bč ->cR ys us ->xs=ys
 | _,_,_, .nil, .nil=>rfl
 | _,_,_, cá, .cons r' t'=>by rw[bĦ,cR.inj t t']
theorem ip.of {K:iQ}(h:ič):dĎ:= .inl (aĠ)
theorem jT.of {K:iQ}(h:H a=gÆ):dď:= .inl (aĠ)
def Inv.list {σ:St}(I:ϙ)(h:fĐ): ∃its:ã,d6 dĐ (PlainL s.heap a its.toArray) jϊ:=by obtain h | ⟨o,its,n,hk,hc,hd,hs,hz,r⟩:=h;let⟨z,its,n,r,e⟩:=cë;show#[its,r,#[_,n,e,rfl,rfl,rfl],z];exact#[its.toList,r,#[o,n,dđ,hc,hd, ⇑hs],?_];have e:=r.length;simp![dh] at e;exact là
def Inv.tuple {σ:St}(I:ϙ)(h:fđ): ∃its:ã,d6 dĐ (IsTup s.heap a its.toArray) jϊ:=by obtain h | ⟨o,its,n,hk,hc,_,hs,hz,r⟩:=h;let⟨z,its,r,p⟩:=cë;show#[its,r,p.t,z];exact#[its.toList,r,#[o,dđ,hc,n, ⇑hs],?_];have e:=r.length;simp![dh] at e;exact là
def Inv.RN {σ:St}(I:ϙ)(h:fđ): ∃its:ã,d6 dĐ (wo s.heap a its.toArray) jϊ:=by obtain h | ⟨o,its,n,hk,hc,hd,hs,hz,r⟩:=h;let⟨z,its,r,p⟩:=cë;show#[its,r,p,z];exact#[its.toList,r,#[o,dđ,hc,n, ⇑hs,hd],?_];have e:=r.length;simp![dh] at e;exact là
def Inv.list_inj {σ:St}(I:ϙ)(h:fĐ)(h':ip X.K H a ys):xs=ys:=by let⟨its,r,⟨o,n,e,_,_,d⟩,_⟩:=I.list h;let⟨its',r',⟨o',n',e',_,_,d'⟩,_⟩:=I.list h';rw[e] at e';cases e';rw[d] at d';injection d' with d1 _;have:its=its':= mŔ;subst this;show bĦ
def Inv.qv {σ:St}(I:ϙ)(h:fđ)(h':jT X.K H a ys):xs=ys:=by let⟨its,r,⟨o,e,_,n,d⟩,_⟩:=I.tuple h;let⟨its',r',⟨o',e',_,n',d'⟩,_⟩:=I.tuple h';rw[e] at e';cases e';rw[d] at d';injection d' with d1 _;have:its=its':= mŔ;subst this;show bĦ
abbrev Cx.vD (X:Cx)(E:Φ):Cx:= {X with xe:=E}
abbrev Cx.S1 (X:Cx):Cx:=X.vD eĚ
theorem Cx.Ok.vD {X:Cx}(ok:X.Ok)(E:Φ):(X.vD E).Ok:=qϷ
theorem Cx.Ok.lM {X:Cx}(ok:(X.vD E).Ok):X.Ok:=qϷ
theorem Inv.vD {σ:St}(I:ϙ)(E:Φ):kĬ:=#[I.ok.vD E,I.os,I.bare,I.base,I.loc,I.cell,I.free,I.jI,I.pin,I.dU,I.len]
theorem Inv.lM {σ:St}(I:kĬ):ϙ:=#[I.ok.lM,I.os,I.bare,I.base,I.loc,I.cell,I.free,I.jI,I.pin,I.dU,I.len]
def SP.lM (h:SP (X.vD E) aj D f s'):SP X aj D f s':=by
 cases f with
 | next=>let⟨σ',H',I,q⟩:=h;show hĂ
 | brk=>let⟨σ',H',I,q⟩:=h;show hĂ
 | cont=>let⟨σ',H',I,q⟩:=h;show hĂ
 | ret u=>let⟨v,σ',H',I,r,q⟩:=h;show#[v,σ',H',I.lM,r,q]
theorem BF.S1 {st:aϙ}(h:BF X.S1 st t):BF X st t:=λaj s σ H D I hw=>cg (h aj s σ H D (I.vD _) hw) (λ_ _ q=>q.lM) λ_ _ z=>False.elim z
section
variable {X:Cx}{st:Stmt}{rest:aϙ}{t u:TS}{e:Expr}{te:TE}{pos:Pos}
def Pz:TS:=λD σ H=>D.nx σ H
def RT (t u:TS):TS:=λD σ H=>t hă σ H
theorem cj:BF X [] Pz:=λ_ _ σ H _ I h=>wpAny_execs_nil dĒ
def ax (h1:cì)(h2:BF X rest u):BF X (st::rest) (RT t u):=by
 intro aj s σ H D I h;exact wpAny_execs_cons (dE (h1 aj s σ H hă I h) fĒ);cases f with
 | next=>let⟨σ',H',I',q⟩:=q;show h2 aj s1 σ' H' D I' q
 | ret v=>show q
 | brk=>show q
 | cont=>show q
def aG (h1:cì):BF X [st] t:=by
 intro aj s σ H D I h;exact wpAny_execs_cons (dE (h1 aj s σ H D I h) fĒ);cases f with
 | next=>show wpAny_execs_nil q
 | ret v=>show q
 | brk=>show q
 | cont=>show q
def PH:TS:=λD σ H=>D.ct σ H
theorem Ad:PS X (.Continue pos) PH:=λ_ _ σ H _ I h=>wpAny_Continue dĒ
def Inv.quiet {σ:St}(I:ϙ):interactive X.env=false:=by simp[interactive,I.ok.kind]
def PD (te:TE):TS:=λD σ H=>te σ H λ_ H1=>D.nx σ H1
def fO (he:cí)(hs:swapsWith e none pos.line X.env=cξ:=by rfl):PS X (.Expr e pos) (PD te):=by intro aj s σ H D I h;show wpAny_Expr_any (dE ję (by rintro v s1 ⟨x,H1,I1,r1,q1⟩;exact #[σ,H1,I1,q1])) I.quiet hs
def Wg (te:TE):TS:=λD σ H=>te σ H D.rt
def bo (he:cí):PS X (.Return (aġ) pos) (Wg te):=by intro aj s σ H D I h;show wpAny_Return_some (dE ję (by rintro v s1 ⟨x,H1,I1,r1,q1⟩;exact #[x,σ,H1,I1,r1,q1]))
def Pw:TS:=λD _ H=>D.rt .fD H
theorem Nc:PS X (.Return none pos) Pw:=λ_ _ σ H _ I h=>wpAny_Return_none #[.fD,σ,H,I,rfl,h]
def Wn (c:TT)(t u:TS):TS:=λD σ H=>c σ H λb H1=>if ò then t D σ H1 else u D σ H1
def dN (hc:PT X c tc)(ha:BF X a t)(hb:BF X b u):PS X (.If c a b pos) dē:=by
 intro aj s σ H D I h;exact wpAny_If mĐ;rintro d s1 ⟨H1,I1,q1⟩;cases d with
 | true=>show ha aj s1 σ H1 D I1 q1
 | false=>show hb aj s1 σ H1 D I1 q1
def Ih:TS:=gÒ
theorem Ac:PS X st Ih:=λ_ _ _ _ _ _ h=>h.elim
universe e
abbrev TG:=V ->nĩ
abbrev Ms:=Ä ->nĩ
def PG (X:Cx)(qw:Expr)(t:TG):Prop:=∀ (aj:ω) (s:fk) (σ:St) (H:Hp) (v:V) (u:fi) (Q:Ω),ϙ ->Ľ ->t v σ H Q ->wpAny Ϥ X.A (assign qw X.env u) pĪ X.xe s
def PGs (X:Cx)(ts:ğ)(t:Ms):Prop:=∀ (aj:ω) (s:fk) (σ:St) (H:Hp) (vs:Ä) (us:ã) (Q:Ω),ϙ ->bĞ ->t vs σ H Q ->wpAny Ϥ X.A (assignInOrder ((assignEach ts X.env).map aď) us) pĪ X.xe s
abbrev Lz:=nδ
def Zv (X:Cx)(t:Lz):Prop:=∀ (aj:ω) (s:fk) (σ:St) (H:Hp) (o i v:V) (ov iv u:fi) (Q:Ş),ϙ ->RelV o ov ->RelV i iv ->Ľ ->t o i v H Q ->wpAny Ϥ X.A (setItem ov iv u) (λ_ s'=> ∃H',hΒ /\ Q H') X.xe s
def lx (i:Nat):TG:=λv σ H Q=>Q (hω) H
def aV (hN:X.N.Nodup)(hi:gſ)(hx:hψ)(hf:pĩ:=by first | show Ĵ | show ĸ | assumption):PG X fČ aĢ:=by intro aj s σ H v u Q I r h;show wpAny_assign_Name (oO I hN hi hx r (λs' I'=>#[_,H,I',h]) hf)
def OH:Ms:=λvs σ H Q=>vs= [] /\ Q σ H
def xn (t:TG)(u:Ms):Ms:=λvs σ H Q=>cM λv r=>vs=v::r /\ t v σ H λσ' H'=>u r σ' H' Q
def c5:PGs X [] OH:=by intro aj s σ H vs us Q I r h;let⟨e,h⟩:=h;subst e;cases r;show assignInOrder_nil dĒ
def a9 (h1:PG X e t)(h2:PGs X es u)(hs:(assignEach aϜ X.env).map aď=assign e X.env::(iΧ).map aď:=by rfl):PGs X aϜ (xn t u):=by
 intro aj s σ H vs us Q I r h;let⟨v,vr,e1,h⟩:=h;subst e1;cases r with
 | cons r rr=>rw[hs];exact assignInOrder_cons (dE (h1 aj s σ H _ _ _ I r h) ?_);rintro _ s1 ⟨σ1,H1,I1,q1⟩;show h2 aj s1 σ1 H1 _ _ Q I1 rr q1
def OG (K:iQ)(n:Nat)(t:Ms):TG:=λv σ H Q=>cM λa xs=>fU dĔ (dď) (xs.length=n) (t xs σ H Q)
def dZ {pos:Pos}{k:Nat}(hc:Ŷ)(h:PGs X es t)(hn:(iΧ).length=n:=by rfl)(gD:(iΧ).findIdx? ć=none:=by rfl):PG X (.Tuple es k pos) (OG X.K n t):=by intro aj s σ H v u Q I r hw;let⟨a,xs,e1,hq,hl,hw⟩:=hw;subst e1;cases r;let⟨its,rv,ht,hz⟩:=cο;exact assign_Tuple_tuple eġ ht (by simp[hn, <- hl,rv.length]) gD eĢ;have I1:mϰ:=I.kept (t':=s.toks) λb o e=>hx b o dĕ e;show h aj _ σ H xs _ Q I1 ⇑rv hw
def YU (to ti:TE)(t:Lz):TG:=λv σ H Q=>to σ H λo H1=>ti σ H1 λi H2=>t o i v H2 λH3=>Q σ H3
theorem oe (ho:PE X o to)(hi:PE X i ti)(hs:Zv X t)(ha: ∀v,assign jĚ X.env v=(do
  let ov <- holding [v] (eģ)
  let iv <- holding [v,ov] (eval i X.env)
  standAt pos
  holding [v,ov,iv] (setItem ov iv v)
  release [v,ov,iv] []):=by intro _;rfl):PG X jĚ (YU to ti t):=by
 intro aj s σ H v u Q I r h
 rw[ha]
 exact ah (d8 mđ);rintro ov s1 ⟨x,H1,I1,r1,q1⟩
 exact ah (d8 (mτ));rintro iv s2 ⟨y,H2,I2,r2,q2⟩
 exact ah (wpAny_standAt (ah (d8 (dE (hs aj s2 σ H2 x y v ov iv u _ I2 r1 r2 r q2) ?_))));rintro _ s3 ⟨H3,I3,q3⟩
 show wpAny_release #[σ,H3,I3,q3]
def FP (te:TE)(g:TG):TS:=λD σ H=>te σ H λx H1=>g x σ H1 D.nx
def gI {pos:Pos}(he:cí)(hg:PG X tg g)(hs:swapsWithSole [tg] e pos.line X.env=cξ:=by rfl)(hw:swappedStores [tg] e X.env=bϻ:=by rfl)(h1:(assignEach [tg] X.env).map aď= [assign tg X.env]:=by rfl):PS X (.Assign [tg] e pos) (FP te g):=by intro aj s σ H D I h;exact wpAny_Assign_stores mĒ hs hw;rintro v s1 ⟨x,H1,I1,r1,q1⟩;rw[h1];show dE (hg aj s1 σ H1 x v _ I1 r1 q1) λ_ s2 q=>q
def Su {pos:Pos}(hN:X.N.Nodup)(hi:gſ)(hx:hψ)(he:cí)(hs:swapsWith e iΨ pos.line X.env=cξ:=by rfl)(hf:pĩ:=by first | show Ĵ | show ĸ | assumption): PS X (.Assign [cς] e pos) (FP te aĢ):=by intro aj s σ H D I h;exact wpAny_Assign_Name mĒ hs;rintro v s1 ⟨y,H1,I1,r1,q1⟩;show oO I1 hN hi hx r1 (λs2 I2=>#[_,H1,I2,q1]) hf
def Wh (i j:Nat)(ta:TA):TS:=λD σ H=>ta σ H λvs H1=>cM λv w=>vs= [v,w] /\ D.nx ((hω).set j (some w)) H1
def Sv {kt k2 pt2}(hc:Ŷ)(hN:X.N.Nodup)(hi:gſ)(hj:X.N[j]? =aģ)(iR:i≠j)(hx:oÍ)(hy:X.env.scope.names.lookup y=dā)(ha:fē)(hw:swappedStores oñ jϋ X.env=pure (some aÍ))(hs:swapsWithSole oñ jϋ pos.line X.env=cξ:=by rfl): PS X (.Assign oñ jϋ pos) (Wh i j ta):=by
 intro aj s σ H D I h;rw[exec_Assign_arm];exact jό;rw[hs];exact cŶ;rw[ai ⋯];exact ah (Tuple_ (dE (ha _ aj s σ H _ I h) ?_));rintro us s1 ⟨vs,H1,I1,r1,q1⟩;let⟨v,w,e1,q1⟩:=q1;subst e1;let⟨u1,u2,rfl,rv,vJ⟩:cM λu1 u2=>d6 (us= [u1,u2]) (RelV v u1) (RelV w u2):=by
  cases r1 with
  | cons p q=>
   cases q with
   | cons p' q'=>cases q';show#[_,_,rfl,p,p']
 exact dY ?_ (by change dĖ;decide);have I2:Inv X aj σ H1 {s1 with heap:=s1.heap.push {cls:= fā,data:= .seq [u1,u2].toArray}}:=nϮ;rw[hw];exact cŶ;change wpAny Ϥ X.A (do rule "assign.swapped-stores";let items <- unpackItems (kĭ) 2 none;assignInOrder pÔ items.reverse;gÓ) _ _ _;exact ah (eZ (ah (unpackItems_tuple (items:= (List.toArray [u1,u2])) eġ (IsTup.new s1.heap _) λh' gQ=> ?_)));have I3:=I2.kept (h':=h') (t':=s1.toks) λb o e=>gQ b o dĕ e;change wpAny _ _ (assignInOrder pÔ [u2,u1] >>=λ_=>gÓ) _ _ _;exact ah (assignInOrder_cons (wpAny_bindName (oO I3 hN hj (.inl hy) vJ (λs2 I4=> ?_) (.inr hy))));exact assignInOrder_cons (wpAny_bindName (oO I4 hN hi (.inl hx) rv (λs3 I5=>assignInOrder_nil aϒ) (.inr hx)));rw[List.set_comm _ _ (aZ iR)] at I5;show#[_,H1,I5,q1]
def Ib (c:TT)(tb:TS):TS:=λD σ H=> ∃W:Nat ->Ω,(∃m,W m σ H) /\ ∀m σ H,W m σ H ->c σ H λb H1=>if ò then ∃N:Ω,(∀σ' H',N σ' H' -> ∃m',m'<m /\ W m' σ' H') /\ tb mŕ σ H1 else D.nx σ H1
def oY (hp:oů)(hc:PT X c tc)(hb:eĤ):PS X (.While c body [] pos) (Ib tc tb):=by
 intro aj s σ H D I h;let⟨W,dė,turn⟩:=h;exact wpAny_While (codeAny_whileLoop (λn s'=>cM λσ' H'=>iċ /\ W n σ' H') ?_ m0 #[σ,H,I,w0]);rintro n s1 ⟨σ1,H1,I1,w1⟩;exact wpAny_passesOwn hp (dE (hc aj s1 σ1 H1 _ I1 (turn n σ1 H1 w1)) ?_);rintro b s2 ⟨H2,I2,q2⟩;cases b with
 | true=>
  let⟨N,hN,q2⟩:=q2;rw[Ć];exact wpAny_passesOwn hp (dE (hb aj s2 σ1 H2 _ I2 q2) λf s3 q3=> ?_);cases f with
  | next=>let⟨σ3,H3,I3,n3⟩:=q3;let⟨m',hm,w3⟩:=eĥ;show jύ
  | cont=>let⟨σ3,H3,I3,n3⟩:=q3;let⟨m',hm,w3⟩:=eĥ;show jύ
  | brk=>show q3
  | ret v=>show q3
 | false=>rw[ai bn];show wpAny_execs_nil #[σ1,H2,I2,q2]
structure It where
 go:Nat ->Ş
 Pb:Nat ->Hp ->fċ
 stop:Nat ->Ş
def lq (X:Cx)(aj:ω)(H:Hp)(b:gg):Prop:=ľ /\ hÿ /\ bĘ /\ oÌ /\ qÚ
def Inv.yU {σ:St}{b:gg}(I:ϙ)(hb:s.heap.objs.size<=b)(hn:cæ):eĦ:=by exact#[hn,Nat.ne_of_gt (b7 I.lt hb),I.aa8 hb, .inr (aI I.sz hb),gÔ,fĔ];let⟨v,q⟩:=eĔ;show absurd (b7 q.lt iĎ) aĔ;show absurd (b7 (aM (cθ).1) iĎ) aĔ
structure vZ (P:Program)(w:World)(K:PySem.W.Frag)(tg:Expr)(J:It)(fp:cå)(it:Addr)(tn:hΖ):Prop where
 mem:it∈fp
 obj: ∀i h,tn i h -> ∀b∈fp, ∃o,gż /\ kĮ
 keep: ∀i h h',tn i h ->(∀b∈fp, ∀o,gż ->hü) ->tn i h'
 item: ∀ (X:Cx),X.prog=P ->X.w=w ->X.K=K ->Ŷ -> ∀ (i:Nat) (aj:hþ) (s:Shared) (σ:St) (H:Hp) (E:jΟ),ϙ ->(jώ) ->dĘ ->bħ ->wpAny dę X.A (hĄ) (λr s1=> ∃u,r=þ /\wpAny dę X.A nï (λ_ s2=>cM λx H'=>jS iΩ (ļ) (fĕ) (tn ß s2.heap) jϏ) E s1) E s
 done: ∀ (X:Cx),X.prog=P ->X.w=w ->X.K=K ->Ŷ -> ∀ (i:Nat) (aj:hþ) (s:Shared) (σ:St) (H:Hp) (E:jΟ),ϙ ->(jώ) ->dĘ ->cτ ->wpAny dę X.A (hĄ) (λr s1=>r=none /\ Inv X aj σ H s1) E s
 self: ∀ (A:Around) (i:Nat) (s:Shared) (Q:jΟ) (E:jΟ),dĘ ->Q cî s ->wpAny dę A (pyIter cî) Q E s
abbrev TI:=St ->Hp ->(gÕ) ->Prop
def PIE (X:Cx)(aj:ω)(σ:St)(tg:Expr)(R:gÕ)(Tn:fi)(s2:fk):Prop:=Lw λ(it:gg) (fp:å) (tn:hΖ) (J:It) (H':Hp)=>kM (Tn= .ref it) iΩ (mϱ) (tn 0 s2.heap) (kį) (R J H')
def PI (X:Cx)(tg iter:Expr)(wi:TI):Prop:=∀ (aj:ω) (s:fk) (σ:St) (H:Hp) (R:gÕ),ϙ ->wi σ H R ->wpAny Ϥ X.A hΗ (λv s1=>wpAny Ϥ X.A (pyIter v) iď X.xe s1) X.xe s
def E1 (ho:jϐ)(hc:o.cls= .type n)(hd:o.data= .fields vs)(hn: rÕ=false)(hQ:Q () s):wpAny M A nï Q E s:=by
 unfold letOwnedTupleGo;cases tg <;>first
 | show aD hQ
 | (cases u<;>first
  | show aD hQ
  | (exact ah (wpAny_load ho ?_)
     rw[hc,hd]
     change wpAny M A (if(rÕ && vs[0]? ==some (rawInt _))=true then _ else _) Q E s
     rw[ai (by intro h;rw[hn,Bool.false_and] at h;cases h)]
     show aD hQ))
def Itl (K:iQ)(a:gg):It:=#[oϫ,λi H x H'=>H'=H /\ nŠ,λi H=> ∃xs,dĎ /\ eħ]
def Itt (K:iQ)(a:gg):It:=#[oϬ,λi H x H'=>H'=H /\ nš,λi H=> ∃xs,dď /\ eħ]
def Itr (lo:Int)(n:Nat):It:=#[λi _=>i<n,λi H x H'=>H'=H /\ x= .int aą,dě]
def FN {P:Program}{w:World}{K:iQ}{tg:Expr}(a it:gg):vZ P w K tg (Itl K a) [it] it (λi h=>h.IsListIter it a i) where
 mem:=by simp
 obj:=λi h st b hb=>by have e:b=it:= aÓ;subst e;let⟨o,e,c,d⟩:=st;show nε
 keep:=oϕ
 item:=by intro X hP hw hK hc i aj s σ H E I hf st hg;subst hP hw hK;let⟨xs,x,hq,hx⟩:=hg;let⟨its,rv,p,hz⟩:=cï;let⟨u,hu,ru⟩:=cð;let⟨f0,f1,f2,f3,f4,f5⟩:=gμ;exact wpAny_pyNext_list_item st p.isList (x:=u) ⇑hu gν;have I1:mϰ:=qÔ;let⟨o,e,c,d⟩:=id bG;show#[u,rfl,E1 (s:= hΑ) e c d ⋯ #[x,H,I1,ru,#[rfl,λys hy=>by rw[I.list_inj hy hq];show hx],bG,iϊ]]
 done:=by intro X hP hw hK hc i aj s σ H E I hf st hg;subst hP hw hK;let⟨xs,hq,hx⟩:=hg;let⟨its,rv,p,hz⟩:=cï;let⟨f0,f1,f2,f3,f4,f5⟩:=gμ;have hl:=rv.length;show wpAny_pyNext_list_end eġ st p.isList oĶ qþ
 self:=λ_ _ _ _ _ st h=>wpAny_pyIter_listiter st h
def BN {P:Program}{w:World}{K:iQ}{tg:Expr}(a it:gg):vZ P w K tg (Itt K a) [it] it (λi h=>h.IsTupleIter it a i) where
 mem:=by simp
 obj:=λi h st b hb=>by have e:b=it:= aÓ;subst e;let⟨o,e,c,d⟩:=st;show nε
 keep:=oϕ
 item:=by intro X hP hw hK hc i aj s σ H E I hf st hg;subst hP hw hK;let⟨xs,x,hq,hx⟩:=hg;let⟨its,rv,p,hz⟩:=cο;let⟨u,hu,ru⟩:=cð;let⟨f0,f1,f2,f3,f4,f5⟩:=gμ;exact wpAny_pyNext_tuple_item st oœ (x:=u) ⇑hu gν;have I1:mϰ:=qÔ;let⟨o,e,c,d⟩:=id bG;show#[u,rfl,E1 (s:= hΑ) e c d ⋯ #[x,H,I1,ru,#[rfl,λys hy=>by rw[I.qv hy hq];show hx],bG,iϊ]]
 done:=by intro X hP hw hK hc i aj s σ H E I hf st hg;subst hP hw hK;let⟨xs,hq,hx⟩:=hg;let⟨its,rv,p,hz⟩:=cο;let⟨f0,f1,f2,f3,f4,f5⟩:=gμ;have hl:=rv.length;show wpAny_pyNext_tuple_end eġ st oœ oĶ qþ
 self:=λ_ _ _ _ _ st h=>wpAny_pyIter_tupleiter st h
def BO {P:Program}{w:World}{K:iQ}{tg:Expr}(it:gg)(lo:Int)(n:Nat):vZ P w K tg (Itr lo n) [it] it (λi h=>IsRangeIter h it (lo+aϝ*1) iϋ 1) where
 mem:=by simp
 obj :=λi h st b hb=>by have e:b=it:= aÓ;subst e;show pϙ
 keep:=nŢ
 item:=by intro X hP hw hK hc i aj s σ H E I hf st hg;subst hP hw hK;let⟨f0,f1,f2,f3,f4,f5⟩:=gμ;have W:=Walks.range (prog:=X.prog) (w:=X.w) eġ it lo 1 n;exact oι;let⟨t,rfl⟩:=hv;have I1:oė:=pė;exact#[_,rfl,E1 (s:= lε) (n:= hą) bG rfl rfl ⋯ #[.int aą,H,I1,#[t,?_],cυ,bG,iϊ]];rw[dA]
 done:=by intro X hP hw hK hc i aj s σ H E I hf st hg;subst hP hw hK;let⟨f0,f1,f2,f3,f4,f5⟩:=gμ;show rĞ
 self:=oΖ
def Kp (K:iQ)(tl:TE):TI:=λσ H R=>tl σ H λx H1=> ∃a,d6 Ÿ jĜ (R (Itl K a) H1)
def X2 (K:iQ)(tl:TE):TI:=λσ H R=>tl σ H λx H1=> ∃a,d6 Ÿ jĝ (R (Itt K a) H1)
def d_ (hl:cò):PI X tg l (Kp X.K tl):=by intro aj s σ H R I h;exact lζ;rintro v s1 ⟨x,H1,I1,r1,q1⟩;let⟨a,e,dĝ,q⟩:=q1;subst e;cases r1;let⟨its,rv,p,hz⟩:=I1.list hq;exact wpAny_pyIter_list p.isList ?_;exact#[s1.heap.objs.size,iό,_,_,H1,rfl,nϮ,FN a _,jϒ,ŷ,q];have e:iύ:= aÓ;subst e;show nĪ
def iw (hl:cò):PI X tg l (X2 X.K tl):=by intro aj s σ H R I h;exact lζ;rintro v s1 ⟨x,H1,I1,r1,q1⟩;let⟨a,e,dĝ,q⟩:=q1;subst e;cases r1;let⟨its,rv,p,hz⟩:=dĞ;exact wpAny_pyIter_tuple (show mŖ from p) ?_;exact#[s1.heap.objs.size,iό,_,_,H1,rfl,nϮ,BN a _,jϒ,ŷ,q];have e:iύ:= aÓ;subst e;show nĪ
def I0 {σ:St}{lo hi:Int}(I:ϙ)(h1: có <=lo)(h2:lo<aĥ)(h3: có <=hi)(h4:hi<aĥ)(q:R (Itr lo gξ) H):wpAny Ϥ X.A (pyIter kΕ) iď E qϫ:=by
 exact wpAny_pyIter_range hĆ (small_one h1 h2 h3 h4) ?_;have I1:Inv X aj σ H qϫ:=I.kept gι;exact#[qΚ,[qΚ],_,_,H,rfl,I1.kept (t':=tk) gι,BO _ lo gξ,?_,ŷ,q];have e1:lo+fĖ*1=lo:=by simp
 have e2:oŰ=Builtin.Range.rangeSize lo hi 1:=by rw[rangeSize_one];split<;>lia
 change IsRangeIter _ _ (lo+fĖ*1) (oŰ) 1;rw[e1,e2];show Ŀ;have e:b=qΚ:=by simpa using hb
 subst e;show nĪ
def QA (ta:TA):TI:=λσ H R=>ta σ H λvs H1=> ∃j:Int,fU (vs= [aĦ]) (fė) (j<aĥ) (R (Itr 0 j.toNat) H1)
def gf (hg:eĨ)(hm:iđ)(ha:PA X [a] ta)(hs:starEach [a] X.env= [jĞ]:=by rfl):PI X tg (.Call hΙ [a] [] pos) (QA ta):=by
 intro aj s σ H R I h;exact Call_ (iI I hg hm boot_range oμ);rintro us s1 ⟨vs,H1,I1,r1,q1⟩;let⟨j,e,q1,q2,q⟩:=q1;subst e;cases r1 with
 | cons r rr=>cases rr;let⟨t,rfl⟩:=r;show call_range_1 (I0 I1 ∅ ∅ q1 q2 ⇑q)
def Wo (wi:TI)(g:TG)(tb:TS):TS:=λD σ H=>wi σ H λJ H1=> ∃W:Nat ->Nat ->Ω,(∃m,W 0 m σ H1) /\ ∀i m σ H,W i m σ H ->(cτ /\ D.nx σ H) \/ (bħ /\ ∃N:Ω,(∀σ' H',N σ' H' -> ∃m',m'<m /\ W ß m' σ' H') /\ ∀x H',fĕ ->g x σ H' λσ2 H2=>tb mŕ σ2 H2)
def jA (fp:å)(h:Heap):ω:=fp.filterMap λb=>(bĐ).map λo=>(b,o)
theorem gw (hb:b∈fp)(e:gż):(b,o)∈jA fp h:=List.mem_filterMap.mpr #[b,hb,by rw[e];rfl]
def Gb (hp:p∈jA fp h):p.1∈fp /\ h.get? p.1=bě:=by
 let⟨b,hb,e⟩:=List.mem_filterMap.mp hp;cases q:bĐ with
 | none=>rw[q] at e;cases e
 | some o=>rw[q] at e;have e':(b,o)=p:=bF e;subst e';show#[hb,q]
theorem Inv.pinned {σ:St}(I:ϙ)(hf: jώ)(ho: ∀b∈fp, ∃o,jē /\ kĮ):Inv X (aj++jA fp s.heap) σ H s:=I.Ex λp hp=>gζ (λz=>I.pin p (a_ _ z)) λz=>by let⟨hb,e⟩:=Gb z;let⟨f0,f1,f2,_⟩:=hf p.1 hb;let⟨o,e',d⟩:=ho p.1 hb;rw[e] at e';cases e';show#[e,f0,f1,f2,d]
theorem Inv.km {σ:St}(I:Inv X (aj++pl) σ H s):ϙ:=I.Ex λp hp=>I.pin p (a_ _ (List.mem_append_left _ hp))
def fg (hp:oů)(hc:Ŷ)(hi:gο)(hg:PG X tg g)(hb:eĤ)(hs: oŔ:=by intro _;rfl):PS X (.For tg iter body [] pos) (Wo wi g tb):=by
 intro aj s σ H D I h;exact wpAny_For pŭ hs;let⟨it,fp,tn,J,H2,e,I2,T,m8,f2,W,dė,turn⟩:=h2;subst e;have tZ: ∀ {H':Hp},jϏ -> kį:=λhn b hb=>#[hn b hb,(f2 b hb).2]
 exact codeAny_forLoop_any (λn s'=>gm λi σ' H'=>fU (iċ) gÖ jϏ (W i n σ' H')) ?_ m0 #[0,σ,H2,I2,m8,λb hb=>(f2 b hb).1,w0];rintro n s3 ⟨i,σ3,H3,I3,rf,K1,w3⟩;rcases turn i n σ3 H3 w3 with⟨stop,qn⟩ | ⟨go,N,hN,step⟩
 .exact wpAny_passesOwn hp (dE (T.done X rfl rfl rfl hc i aj s3 σ3 H3 X.xe I3 (tZ K1) rf stop) ?_);rintro r s4 ⟨hr,I4⟩;subst hr;show wpAny_execs_nil #[σ3,H3,I4,qn]
 .exact wpAny_passesOwn hp (dE (T.item X rfl rfl rfl hc i aj s3 σ3 H3 X.xe I3 (tZ K1) rf go) ?_);rintro r s4 ⟨u,hr,h4⟩;subst hr;exact wpAny_passesOwn hp (dE h4 ?_);rintro _ s5 ⟨x,H5,I5,r5,y5,U0,fr5⟩;have I5':=I5.pinned (tZ fr5) (T.obj _ _ U0);exact wpAny_passesOwn hp (dE (hg _ s5 σ3 H5 x u _ I5' r5 (step x H5 y5)) ?_);rintro _ s6 ⟨σ6,H6,I6,q6⟩;exact wpAny_passesOwn hp (dE (hb _ s6 σ6 H6 _ I6 q6) λf s7 q7=> ?_);have again: ∀ {σ7:St} {H7:Hp},Inv X (aj++jA fp s5.heap) σ7 H7 s7 ->N σ7 H7 -> ∃m,m<n /\ gm λi σ' H'=>fU (Inv X aj σ' H' s7) (tn i s7.heap) jϏ (W i m σ' H'):=λ{σ7 H7} I7 n7=>by let⟨m',hm,w7⟩:=hN σ7 H7 n7;exact#[m',hm,i+1,σ7,H7,I7.km,T.keep _ _ _ U0 λb hb o e=>oÎ.1,ŷ,w7];let⟨o,e,d⟩:=T.obj _ _ U0 b hb;show oÎ.2.1
  cases f with
  | next=>let⟨σ7,H7,I7,n7⟩:=q7;show dğ
  | cont=>let⟨σ7,H7,I7,n7⟩:=q7;show dğ
  | brk=>let⟨σ7,H7,I7,q7⟩:=q7;show#[σ7,H7,I7.km,q7]
  | ret v=>let⟨x7,σ7,H7,I7,r7,q7⟩:=q7;show#[x7,σ7,H7,I7.km,r7,q7]
abbrev R2:=V ->iĒ
def sv (X:Cx)(f:fi ->dĠ)(r:R2):Prop:=∀ (aj:ω) (s:fk) (σ:St) (H:Hp) (x y:V) (v u:fi) (Q:VK),ϙ ->bġ ->Ł ->r x y H Q ->wpAny Ϥ X.A (f v u) gÏ X.xe s
def UnR (X:Cx)(f:dĠ)(r:iĒ):Prop:=∀ (aj:ω) (s:fk) (σ:St) (H:Hp) (x:V) (v:fi) (Q:VK),ϙ ->bġ ->r x H Q ->wpAny Ϥ X.A (f v) gÏ X.xe s
def gz (X:Cx)(f:fi)(r:ϫ):Prop:=∀ (aj:ω) (s:fk) (σ:St) (H:Hp) (xs:Ä) (us:ã) (Q:VK),ϙ ->bč ->r xs H Q ->wpAny Ϥ X.A (call f us) gÏ X.xe s
def aff (X:Cx)(r:V ->mο):Prop:=∀ (aj:ω) (s:fk) (σ:St) (H:Hp) (x:V) (v:fi) (Q:hĀ),ϙ ->bġ ->r x H Q ->wpAny Ϥ X.A (truthy v) gÐ X.xe s
def Wj (r:R2)(ta tb:TE):TE:=λσ H Q=>ta σ H λx H1=>tb σ H1 λy H2=>r x y H2 Q
def tUn (r:iĒ)(ta:TE):TE:=λσ H Q=>ta σ H λx H1=>r x H1 Q
def rI (C:hć)(g:fĘ):R2:=λx y H Q=>cM λi j=>fU (cô) (y= aĦ) (C i j) (Q aϟ H)
def MZ (g:fĘ):R2:=λx y H Q=>cM λi j=>d6 (cô) (y= aĦ) (Q aϟ H)
def rU (g:aϞ):iĒ:=λx H Q=> ∃i,cô /\ Q (g i) H
def UB (ha:ş)(hb:cè){σ:St}{R:V ->fċ}(I:ϙ)(h:oĵ){f:fi ->dĠ}(hf: qϜ): rĐ:=by exact lδ;rintro v s1 ⟨x,H1,I1,r1,q1⟩;exact dE lÞ ?_;rintro u s2 ⟨y,H2,I2,r2,q2⟩;show mč
def bJ (ho:sv X (binaryOp op) r)(ha:ş)(hb:cè):PE X (.BinOp a op b pos) eĩ:=by intro aj s σ H Q I h;show wpAny_BinOp qÿ
def hU (ho:UnR X (unaryOp op) r)(ha:ş):PE X (.UnaryOp op a pos) (tUn r ta):=by intro aj s σ H Q I h;show UnaryOp_ (dE jĕ (by rintro v s1 ⟨x,H1,I1,r1,q1⟩;exact ho aj s1 σ H1 x v Q I1 r1 q1))
def _z {g:Int ->Š}(rule: ∀ (i j:Int) (t u:Tok) (s:fk) (Q:Φ) (E:Φ),C i j ->qϋ): sv X f (rI C jĠ):=by intro aj s σ H x y v u Q I rx ry h;let⟨i,j,rfl,rfl,hc,q⟩:=h;let⟨t,rfl⟩:=rx;let⟨t',rfl⟩:=ry;show rule i j t t' s _ _ hc nΤ
def Xu {g:Int ->Š}(rule: ∀ (i j:Int) (t u:Tok) (s:fk) (Q:Φ) (E:Φ),qϋ): sv X f (MZ jĠ):=by intro aj s σ H x y v u Q I rx ry h;let⟨i,j,rfl,rfl,q⟩:=h;let⟨t,rfl⟩:=rx;let⟨t',rfl⟩:=ry;show rule i j t t' s _ _ nΤ
def Nz {g:Int ->Int ->Bool}(rule: ∀ (i j:Int) (t u:Tok) (s:fk) (Q:Φ) (E:Φ),Q (.bool aϟ) s ->pω): sv X f (MZ λi j=> .bl aϟ):=by intro aj s σ H x y v u Q I rx ry h;let⟨i,j,rfl,rfl,q⟩:=h;let⟨t,rfl⟩:=rx;let⟨t',rfl⟩:=ry;show rule i j t t' s _ _ #[.bl aϟ,H,I,rfl,q]
def wv (i j:Int):Prop:=0<j /\ j<cψ
def UO (i j:Int):Prop:=0<=j /\ j<=ġ /\ i.natAbs<aħ
def iO (i j:Int):Prop:=(-(aħ) <i /\ i<aħ) \/ (-(aħ) <j /\ j<aħ)
def iO.ok (h:iO i j):IntMulOk i j:=by
 rcases h with⟨h1,h2⟩ | ⟨h1,h2⟩
 show .of_left jϔ;show .of_right jϔ
theorem eV:sv X gπ (MZ λi j=> .int (i+j)):=Xu λ_ _ _ _ _ _ _ q=>add_int q
theorem jD:sv X (binaryOp .Sub) (MZ λi j=> .int (i - j)):=Xu λ_ _ _ _ _ _ _ q=>sub_int q
theorem fS:sv X (binaryOp .Mult) (rI iO λi j=> .int (i*j)):=_z λ_ _ _ _ _ _ _ hc q=>mul_int q hc.ok
theorem o_:sv X (binaryOp .FloorDiv) (rI wv λi j=> .int (i / j)):=_z λi j _ _ _ _ _ hc q=>by have h1:ě <j:=hc.1;have h2:j<cψ:=hc.2;show floordiv_int (by exact λe=>Lqf [_] ϶ ϖ (LqIp h1 ŭ) rfl) (by rw[Int.fdiv_eq_ediv_of_nonneg i (by exact Int.le_of_lt h1)];show q) (.inl (PyProof.noPylong_small ∅))
theorem gV:sv X (binaryOp .Mod) (rI (λ_ j=>0<j) λi j=> .int (i % j)):=_z λi j _ _ _ _ _ hc q=>by have h1:ě <j:=hc;show mod_int' (by exact λe=>Lqf [_] ϶ ϖ (LqIp hc ŭ) rfl) (by rw[Int.fmod_eq_emod_of_nonneg i (by exact Int.le_of_lt hc)];show q)
theorem SU:sv X (binaryOp .Pow) (rI UO λi j=> .int (i ^ j.toNat)):=_z λ_ _ _ _ _ _ _ hc q=>pow_int_small hc.1 hc.2.1 hc.2.2 q
def unI {g:Š}(rule: ∀ (i:Int) (t:Tok) (s:fk) (Q:Φ) (E:Φ),Q (.int (g i) s.toks) kΗ ->wpAny Ϥ X.A (f (bČ)) Q E s): UnR X f (rU λi=> .int (g i)):=by intro aj s σ H x v Q I rx h;let⟨i,rfl,q⟩:=h;let⟨t,rfl⟩:=rx;show rule i t s _ _ #[.int (g i),H,aϚ,Ĺ,q]
theorem fR:UnR X (unaryOp .USub) (rU λi=> .int (-i)):=unI λ_ _ _ _ _ q=>neg_int q
def MS:V ->V ->Bool
 | .fD, .fD=>true | .fD, aĨ=>true | aĨ, .fD=>true | .fD, aÔ=>true | aÔ, .fD=>true | .fD, aĩ=>true | aĩ, .fD=>true
 | aĨ, aĨ=>true | aÔ, aÔ=>true | aĩ, aĩ=>true | .Dm _, .Dm _=>true
 | aĨ, aĩ=>true | aĩ, aĨ=>true | aÔ, aĩ=>true | aĩ, aÔ=>true
 | _,_=>false
def rEq:R2:=λx y H Q=>dġ /\ Q (.bl (eĪ)) H
def rNe:R2:=λx y H Q=>dġ /\ Q (.bl (! eĪ)) H
def Fh:decide (V.int i=V.int j)=(i==j):=by rw[Bool.eq_iff_iff];simp
def Lc:decide (V.bl i=V.bl j)=(i==j):=by rw[Bool.eq_iff_iff];simp
def Fg:decide (V.str i=V.str j)=(i==j):=by rw[Bool.eq_iff_iff];simp
def Fi:decide (V.Dm i=V.Dm j)=(i.toList==j.toList):=by rw[Bool.eq_iff_iff];cases i;cases j;simp
section
variable {X:Cx}{a b c:Expr}{ta tb tc:TE}{pos:Pos}
def dI {σ:St}(I:ϙ)(q:Q (aÕ) H)(e:k=k'):EP X aj σ Q (.bool k') s:=by subst e;show#[aÕ,H,I,rfl,q]
def iX:sv X gς rEq:=by
 intro aj s σ H x y v u Q I rx ry h;let⟨hs,q⟩:=h;cases x with
 | fD=>
  cases rx;cases y with
  | fD=>cases ry;show PySem.EqNone.eq_none_none ϥ
  | bl j=>cases ry;show PySem.EqNone.eq_none_bool ϥ
  | int j=>let⟨t',rfl⟩:=ry;show PySem.EqNone.eq_none_int ϥ
  | str j=>let⟨t',rfl⟩:=ry;show PySem.EqNone.eq_none_str ϥ
  | _=>show nζ
 | bl i=>
  cases rx;cases y with
  | fD=>cases ry;show PySem.EqNone.eq_bool_none ϥ
  | bl j=>cases ry;show eq_bool (dI I q Lc)
  | str j=>let⟨t',rfl⟩:=ry;show PySem.EqMixed.eq_bool_str ϥ
  | _=>show nζ
 | int i=>
  let⟨t,rfl⟩:=rx;cases y with
  | fD=>cases ry;show PySem.EqNone.eq_int_none ϥ
  | int j=>let⟨t',rfl⟩:=ry;show eq_int (dI I q Fh)
  | str j=>let⟨t',rfl⟩:=ry;show PySem.EqMixed.eq_int_str ϥ
  | _=>show nζ
 | str i=>
  let⟨t,rfl⟩:=rx;cases y with
  | fD=>cases ry;show PySem.EqNone.eq_str_none ϥ
  | bl j=>cases ry;show PySem.EqMixed.eq_str_bool ϥ
  | int j=>let⟨t',rfl⟩:=ry;show PySem.EqMixed.eq_str_int ϥ
  | str j=>let⟨t',rfl⟩:=ry;show eq_str (dI I q Fg)
  | _=>show nζ
 | Dm i=>
  let⟨t,rfl⟩:=rx;cases y with
  | Dm j=>let⟨t',rfl⟩:=ry;show W.eq_bytes (dI I q Fi)
  | _=>show nζ
 | _=>cases y<;>show nζ
def nG:sv X iē rNe:=by
 intro aj s σ H x y v u Q I rx ry h;let⟨hs,q⟩:=h;cases x with
 | fD=>
  cases rx;cases y with
  | fD=>cases ry;show PySem.EqNone.ne_none_none ϥ
  | bl j=>cases ry;show PySem.EqNone.ne_none_bool ϥ
  | int j=>let⟨t',rfl⟩:=ry;show PySem.EqNone.ne_none_int ϥ
  | str j=>let⟨t',rfl⟩:=ry;show PySem.EqNone.ne_none_str ϥ
  | _=>show nζ
 | bl i=>
  cases rx;cases y with
  | fD=>cases ry;show PySem.EqNone.ne_bool_none ϥ
  | bl j=>cases ry;show ne_bool (dI I q (congrArg not Lc))
  | str j=>let⟨t',rfl⟩:=ry;show PySem.EqMixed.ne_bool_str ϥ
  | _=>show nζ
 | int i=>
  let⟨t,rfl⟩:=rx;cases y with
  | fD=>cases ry;show PySem.EqNone.ne_int_none ϥ
  | int j=>let⟨t',rfl⟩:=ry;show ne_int (dI I q (congrArg not Fh))
  | str j=>let⟨t',rfl⟩:=ry;show PySem.EqMixed.ne_int_str ϥ
  | _=>show nζ
 | str i=>
  let⟨t,rfl⟩:=rx;cases y with
  | fD=>cases ry;show PySem.EqNone.ne_str_none ϥ
  | bl j=>cases ry;show PySem.EqMixed.ne_str_bool ϥ
  | int j=>let⟨t',rfl⟩:=ry;show PySem.EqMixed.ne_str_int ϥ
  | str j=>let⟨t',rfl⟩:=ry;show ne_str (dI I q (congrArg not Fg))
  | _=>show nζ
 | Dm i=>
  let⟨t,rfl⟩:=rx;cases y with
  | Dm j=>let⟨t',rfl⟩:=ry;show W.ne_bytes (dI I q (congrArg not Fi))
  | _=>show nζ
 | _=>cases y<;>show nζ
theorem o0:sv X (compareOp .Lt) (MZ λi j=> .bl (decide (i<j))):=Nz λ_ _ _ _ _ _ _ q=>lt_int q
theorem ED:sv X (compareOp .LtE) (MZ λi j=> .bl (decide (i<=j))):=Nz λ_ _ _ _ _ _ _ q=>le_int q
theorem wS:sv X (compareOp .Gt) (MZ λi j=> .bl (decide (j<i))):=Nz λ_ _ _ _ _ _ _ q=>gt_int q
theorem wT:sv X (compareOp .GtE) (MZ λi j=> .bl (decide (j<=i))):=Nz λ_ _ _ _ _ _ _ q=>ge_int q
def Ny:sv X iĔ (λx y H Q=>y= .fD /\ Q (.bl (!decide (x= .fD))) H):=by
 intro aj s σ H x y v u Q I rx ry h;let⟨rfl,q⟩:=h;cases ry;exact isnot_none_gen (dI I q ?_);cases x<;>first
 | (cases rx;rfl)
 | (let⟨t,rfl⟩:=rx;rfl)
def bT (b:Expr)(h:op≠ .In:=by decide)(h2:eğ:=by decide):lß:=by
 have e1:jĖ:=by cases op<;>first | rfl | show eĠ
 have e2:kΔ:=by cases op<;>first | rfl | show fč
 cases b<;>simp[behindInMarks,e1,e2]
def kR (ho:jϕ)(ha:ş)(hb:cè)(hm:lß):PE X lņ eĩ:=by intro aj s σ H Q I h;show wpAny_Compare1 qÿ hm
def Ig (t:TE):TT:=λσ H Q=>t σ H λx H'=> ∃k,x= aÕ /\ Q k H'
def bL (ho:jϕ)(ha:ş)(hb:cè)(hm:lß):PT X lņ (Ig eĩ):=by intro aj s σ H Q I h;exact wpAny_isTrue_Compare1 (dE jĕ λv s1 iώ=>qž) hm;rintro c s3 ⟨z,H3,I3,r3,k,e,q3⟩;subst e;cases r3;show cZ #[H3,I3,q3]
def Is (r r':R2)(ta tb tc:TE):TE:=λσ H Q=>ta σ H λx H1=>tb σ H1 λy H2=>r x y H2 λz H3=> ∃k,z= aÕ /\(if aĪ then tc σ H3 λw' H4=>r' y w' H4 Q else Q (.bl false) H3)
def Jf (ho:jϕ)(Om:sv X (compareOp op') r')(ha:ş)(hb:cè)(hc:PE X c tc)(hm:lastMarks [op,op'] [b,c]=false:=by with_unfolding_all rfl):PT X (.Compare a [op,op'] [b,c] pos) (Ig (Is r r' ta tb tc)):=by
 intro aj s σ H Q I h;exact isTrue_chain (dE jĕ λv s1 iώ=>test_link (qž)) hm;rintro d s3 ⟨z,H3,I3,r3,k,e,q3⟩;subst e;cases r3;exact cZ ?_;cases k with
 | false=>let⟨k',e',q'⟩:=q3;cases e';show ite_ff #[H3,I3,q']
 | true=>exact ite_tt (test_last (dE (hc aj s3 σ H3 _ I3 q3) λw' s4 ⟨z',H4,I4,r4,q4⟩=>dE (Om aj s4 σ H4 y z' u w' _ I4 r2 r4 q4) ?_));rintro d' s5 ⟨z2,H5,I5,r5,k2,e2,q5⟩;subst e2;cases r5;show cZ #[H5,I5,q5]
def OX (K:iQ)(x:V)(H:Hp)(k:Bool):Prop:=
 match x with
 | .fD=>k=false
 | ä=>k=b
 | Ă=>cõ
 | .str y=>oν
 | .Dm y=>oĘ
 | aī=>(∃xs,dĢ /\ gØ) \/ (∃xs,dģ /\ gØ) \/ oξ
 | _=>False
def CZ {vs:dù}(r:Ŝ):(!vs.isEmpty)= !kvs.isEmpty:=by cases r<;>rfl
def uJ (r:câ):(!its.toArray.isEmpty)= !xs.isEmpty:=by cases r<;>simp
def uB:(sizeLine:Nat) <2 ^ 63:=by rw[c8];decide
def RQ:aff X (λx H Q=> ∃k,OX X.K x H k /\ Q k H):=by
 intro aj s σ H x v Q I rx h;let⟨k,e,q⟩:=h;have hl:=uB;have hs:sizeLine=bĩ:=c8;cases x with
 | fD=>cases rx;have e':k=false:=e;subst e';show truthy_none bĪ
 | bl b=>cases rx;have e':k=b:=e;subst e';show cZ bĪ
 | int i=>let⟨t,rfl⟩:=rx;have e':cõ:=e;subst e';show PySem.P.truthy_int bĪ
 | str y=>let⟨t,rfl⟩:=rx;let⟨hy,e'⟩:oν:=e;subst e';show PySem.P.truthy_str ∅ #[H,aϚ,q]
 | Dm y=>let⟨t,rfl⟩:=rx;let⟨hy,e'⟩:oĘ:=e;subst e';show W.truthy_bytes (by exact LqNv (Nat.le_trans hy (LqNe hs)) rfl) #[H,aϚ,q]
 | ref p=>
  cases rx;have e':(∃xs,ip X.K H p xs /\ gØ) \/ (∃xs,jT X.K H p xs /\ gØ) \/ oξ:=e;rcases e' with⟨xs,hx,e'⟩ | ⟨xs,hx,e'⟩ | ⟨kvs,hx,e'⟩
  subst e';let⟨its,r,pl,hz⟩:=I.list hx;have df:=r.length;show wpAny_truthy_list pl.isList iĕ mϲ;subst e';let⟨its,r,pl,hz⟩:=cΑ;have df:=r.length;show truthy_tuple pl iĕ mϲ;subst e';let⟨hz,hS,vs,r,m⟩:jď /\ (p==sysModules)=false /\ ∃vs,Ŝ /\ s.heap.DictOf gτ p vs:=I.dU p _ hx;have df:jġ:=gŹ;show wpAny_truthy_dict hS m ∅ #[H,aϚ,by rw[CZ r];show q]
 | _=>show(show False from e).elim
def Je (ha:ş)(he: qù): PT X a (λσ H Q=>ta σ H λx H'=> ∃k,OX X.K x H' k /\ Q k H'):=by intro aj s σ H Q I h;show isTrue_plain (dE jĕ (by rintro v s1 ⟨x,H1,I1,r1,q1⟩;exact RQ aj s1 σ H1 x v Q I1 r1 q1)) (he _)
def vals1 (r:cR [x] us): lâ:=by
 cases r with
 | cons r1 r2=>cases r2;show#[_,rfl,r1]
def vals2 (r:cR aÍ us):cM λu w'=>d6 (us= [u,w']) (ļ) (RelV y w'):=by
 cases r with
 | cons r1 r2=>
  cases r2 with
  | cons r3 r4=>cases r4;show#[_,_,rfl,r1,r3]
def Ll:gz X hĈ (p϶):=by intro aj s σ H xs us Q I r h;let⟨i,rfl,q⟩:=h;let⟨u,rfl,t,rfl⟩:=Ģ;show call_abs_int λu tk=>#[.int (jϖ),H,aϚ,Ĺ,q]
def G7 (hc:Ŷ):gz X hĉ (qĀ):=by
 intro aj s σ H xs us Q I r h;let⟨i,j,rfl,q⟩:=h;let⟨u,w',rfl,⟨t,rfl⟩,⟨t',rfl⟩⟩:=vals2 r;exact max_two_ints eġ λh' tk k=>#[_,H,I.kept k,?_,q]
 by_cases hj:j >i;rw[ak hj,ak hj];show Ĺ;rw[ai hj,ai hj];show Ĺ
def G9:gz X Ν (qſ):=by
 intro aj s σ H xs us Q I r h;rcases h with⟨i,rfl,q⟩ | ⟨k,rfl,q⟩
 let⟨u,rfl,t,rfl⟩:=Ģ;show call_int_int #[Ă,H,I,Ĺ,q];let⟨u,rfl,r1⟩:=Ģ;cases r1;show call_int_bool #[.int jĢ,H,aϚ,Ĺ,q]
universe e
structure Dw (h:Heap)(x dx C:Addr)(mA:ią):Prop where
 obj:h.get? x=some (PySem.W.instObj C dx)
 ns:dþ
 ne:aĬ
def Gi {h:Heap}(n:dþ): ∃od,h.get? dx=some od /\ oò:=by
 let⟨o,es,ep,ho,hd,hk,_,hm⟩:=n;exact#[o,ho,λname=> ?_];have e:=hm name;unfold nsFind findBy at e;rw[<- Array.find?_toList] at e;unfold W.lookIn;rw[hd];dsimp only;split;rename_i y q;rw[q] at e;show gυ;rename_i q;rw[q] at e;have a:lň=false:=by rw[List.any_eq_false];intro y hy;let⟨z,t,uM⟩:=hk y (Array.mem_toList_iff.mp hy);simp[DictEntry.refKey,uM]
 have a':¬lň=true:=by rw[a];show bn
 rw[ai a'];show gυ
theorem Dw.look (I:Dw h x dx C mA): ∃od,W.InstAt h x hû C (some od) /\ oò:=
 let ⟨od,ho,hl⟩:=Gi I.ns
 #[od,#[I.obj,rfl,rfl,ho],hl]
def OD {K:iQ}(X:dĤ)(I:iϏ)(hg:lã)(hh:jģ)(ha:lä=bϺ)(hv:mA name=ă)(vQ:W.handedIn v=true)(h:Q v kΗ): wpAny Χ A (getAttr bď name aeR) Q E s:=by let⟨od,J,hl⟩:=I.look;show W.get_value X J iĖ.1 (W.findObj_own hh ha rfl (by rw[hl,hv])) vQ h
def KZ {K:iQ}(X:dĤ)(I:iϏ)(hg:lã)(hf:lä=jĤ)(ht:kİ)(hv:mA name=none)(h:Q (.ref f,[.ref x]) s): wpAny Χ A (getMethod bď name pl) Q E s:=by let⟨od,J,hl⟩:=I.look;show W.method_fn X J iĖ.1 iĖ.2 hf (beq_iff_eq.mp ht) (by change(hĊ).map dĥ=Ů;rw[hl,hv];rfl) h
def MQ {K:iQ}(X:dĤ)(I:iϏ)(hs:qā)(hp:jĥ)(ht:W.takerIn K C name=bϺ)(hh:jģ)(hw:PySem.Within mA ns)(hsz:iϐ)(h: ∀h',Dw h' x dx C (λy=>if y=name then ă else mA y) ->Heap.SameBut dx s.heap h' ->Q () {s with heap:=h',toks:=s.toks+2}): wpAny Χ A (setAttr bď name v) Q E s:=by let⟨od,J,hl⟩:=I.look;exact W.set_plain X J hs (W.osa_open (s:= kΗ) (r:=none) X J hp ht λb=> ?_);let⟨cd,hc,nk⟩:=W.any_some hh;have hx:s.heap.get? x=some #[aĭ,some dx, .plain, #[]]:=I.obj;exact ah (aD (ah (ah (wpAny_loadPart hx (ah (W.Looks.here (s:= kΗ) (W.looks_clsIn X hc) ?_))))));rw[nk];exact aD (a:=some dx) (ah (aD (aÖ)));exact wpAny_nsSet1 (s:= kΗ) I.ns λh' TK lv=> ?_;let⟨oD,esD,epD,hoD,hdD,hcD⟩:=TK.count (PySem.Within.cons name v hw);exact ah (wpAny_lookBehind hoD (by rw[hdD];show pastItsLine_dict (aI hcD (by rw[aT];exact Lqj Û ϒ ϑ Lq0 Lq1 hsz rfl))) ?_);show aD (h _ #[(lv.2 _ (aZ I.ne)).trans I.obj,TK,I.ne] lv)
def JV {K:iQ}(X:dĤ)(hm:iė)(hi:pĘ)(hf:W.typeIn K ŀ=some (.type "function"))(h:codeAny Χ (A.under (.builtin gχ #[aĭ::vs,kw])) (.call ŀ #[.ref ϩ::vs,kw]) (W.InitBack ϩ R) qñ): codeAny Χ A (.call Ń #[vs,kw]) R s:=by let⟨hh,g,d,t,os⟩:=s;show W.make_core (W.makes_of X hm) (W.looks_findIn X hi) (λself=>W.bind_fn X self hf) ũ h
def kr (f:Str)(v:V):dĦ ->dĦ
 | []=> [(f,v)]
 | (g,x)::r=>if g=f then(g,v)::r else(g,x)::kr f v r
theorem rJ (f g:Str)(v:V): ∀fs:dĦ,(cö).lookup g=if g=f then ă else fs.lookup g
 | []=>by change List.lookup g [(f,v)]=_;by_cases h:g=f;have hb:(g==f)=true:=hċ;simp![List.lookup,hb,ak h];have hb:(g==f)=false:=lŉ;simp![List.lookup,hb,Æ]
 | (k, x)::r=>by have ih:=rJ f g v r;rw[qç];by_cases hk:k=f;rw[aÙ];by_cases h:g=k;have hb:dħ:=hċ;simp![List.lookup,hb,ak (h.trans hk)];have hb:eī:=lŉ;simp![List.lookup,hb,ai (λe:g=f=>h (e.trans hk.symm))];rw[aÚ];by_cases h:g=k;have hb:dħ:=hċ;simp![List.lookup,hb,ai (λe:g=f=>hk (h.symm.trans e))];have hb:eī:=lŉ;simp![List.lookup,hb];show ih
theorem qL (f:Str)(v:V): ∀fs:dĦ,f∈kı /\ ∀g,g∈fą ->g∈kı
 | []=>#[by simp[kr],λg h=>by simp at h]
 | (k, x)::r=>by let⟨i1,i2⟩:=qL f v r;rw[qç];by_cases hk:k=f;rw[aÙ];subst hk;show#[by simp,λg h=> ⇑h];rw[aÚ];exact#[?_,λg h=> ?_];rw[aX];show aC _ i1;rw[aX] at h ⊢;obtain e | e:=aϠ;show az.mpr bī;show aC _ (i2 g e)
theorem rK (f:Str)(v:V): ∀fs:dĦ,(cö).length<=fs.length+1
 | []=>by simp[kr]
 | aØ::r=>by have ih:=rK f v r;rw[qç];by_cases hk:k=f;rw[aÙ,aT,aT];exact fø;rw[aÚ,aT,aT];exact Lqj Û ϒ lϷ Lq0 ϑ ih rfl
def lI.some_of (r:lI bę o): ∃u,o=þ /\ Ľ:=by
 cases o with
 | none=>show lå
 | some u=>show#[u,rfl,r]
def lI.none_of (r:lI none o):o=none:=by
 cases o with
 | none=>rfl
 | some u=>show lå
def GC (r:Ľ):W.handedIn u=true:=by
 cases v with
 | fD=>cases (show eċ from r);rfl
 | bl b=>cases (show gÃ from r);rfl
 | int i=>let⟨t,e⟩:=nţ;cases e;rfl
 | str x=>let⟨t,e⟩:=nŤ;cases e;rfl
 | Dm b=>let⟨t,e⟩:=(show kĥ from r);cases e;rfl
 | E2 b=>let⟨t,e⟩:=(show kĦ from r);cases e;rfl
 | ref a=>cases (show Μ from r);rfl
 | ty n=>cases (show gÄ from r);rfl
def tD (dU:Ŭ)(e:kΚ): ∃mA,jS (Dw h a dx C mA) (mĊ) (mϮ) (gŻ) (H dx=fĄ):=by
 let⟨d,z,ne,ob,mA,n,r,q⟩:=(show fm P w H h a (eĐ) from dU a _ e)
 show#[mA,#[ob,n,ne],r,q,z,d]
structure xU (K:PySem.W.Frag)(C:Addr):Prop where
 pg:PySem.W.plainGet K C Str.empty=true
 hd:PySem.W.hasDictIn K C=true
 po:PySem.W.plainOver K C=true
 sa:PySem.W.findIn K Ń fě =oű
theorem xU.get {K:iQ}{C:gg}(c:aĮ)(f:Str):W.plainGet K C f=true:=c.pg
def dJ (K:iQ)(C:gg)(f:Str):Prop:=mϳ
def dJ.Wd {K:iQ}(n:dJ K C f):W.takerIn K C f=bϺ:=by unfold W.takerIn;rw[show mϳ from n];rfl
structure LD (K:PySem.W.Frag)(C:Addr)(m:Str)(f:Addr):Prop where
 at_:PySem.W.findIn K Ń m=jĤ
 fn:mĕ
 kp:mυ
def Db {σ:St}(I:ϙ)(e:kΚ)(c:bĬ)(n:dJ X.K C f)(l:ię)(h: ∀u s',hČ ->Ľ ->Q u s'):wpAny Ϥ A (getAttr ł f b) Q E s:=by let⟨mA,O,r,_,_,_⟩:=cø;let⟨u,hu,ru⟩:=lI.some_of (v:=v) (o:=mA f) (by rw[<- l];show r f);show OD I.pH O (c.get f) c.hd n hu (GC ru) (h u _ cù ru)
def oy {σ:St}(I:ϙ)(e:kΚ)(c:bĬ)(k:eĬ)(l:hč)(h:Q (.ref g,Ļ) s):wpAny Ϥ A (getMethod ł m pl) Q E s:=by let⟨mA,O,r,_,_,_⟩:=cø;have hn:mA m=none:=lI.none_of (by rw[<- l];show r m);show KZ I.pH O (c.get m) k.at_ k.fn hn h
def B9 {σ:St}(I:ϙ)(e:kΚ)(c:bĬ)(n:dJ X.K C f)(hl:gÙ)(ry:Ł)(h: ∀s',Inv X aj σ (dB H a kΜ) s' ->aϘ):wpAny Ϥ A (setAttr ł f u) Q E s:=by
 let⟨mA,O,r,wi,_,ho⟩:=cø;have hz:(fą).length<=sizeLine:=by rw[ab,c8];exact LqNv (Nat.le_of_lt hl) rfl
 exact MQ I.pH O c.sa c.po n.Wd c.hd wi hz λh' O' sb=>h _ ?_;have hd: ∃o,h'.get? dx=ą:=let ⟨o,_,_,e',_⟩:=O'.ns;#[o,e']
 exact I.write (x:=a) (e:=dx) lθ (.inr ho) (λb q hb z=>hΘ z) hd ?_;exact#[by rw[bS O.ne];show ho,?_,O.ne,O'.obj,_,O'.ns,λg=> ?_,λg hg=> ?_];have:=rK f y fs;exact Lqj Û Lq0 cú læ (.a cú ϑ) gÚ rfl;change lI ((kr f y fs).lookup g) mχ;rw[rJ];by_cases q:g=f;rw[ak q,ak q];show ry;rw[ai q,ai q];show r g;by_cases q:g=f;rw[q];show dĨ.1;exact dĨ.2 g (wi g λz=>hg ?_);change mχ=none;rw[ai q];show z
def Inv.made {σ:St}(I:ϙ):Inv X aj σ (dB (dB H s.heap.objs.size (.own ϩ)) ϩ (lι)) qñ:=by
 have e1:(kΙ).get? s.heap.objs.size=some W.emptyDict:=aY s.heap rfl;have e2:(pΚ).get? ϩ=some (mĔ):=by have:=aY (kΙ) (o:=mĔ) rfl;rwa [dR] at this
 have e3:(kΙ).Ns s.heap.objs.size (cû):=#[W.emptyDict, #[],_,e1,rfl,(λe he=>absurd he ś),bĭ]
 have I1:=I.laid (a:=s.heap.objs.size) (o:= .own ϩ) (h':=kΙ) (t':=s.toks) hΚ õ #[_,e1];exact I1.laid (a:=iĘ) (o:= lι) (t':=s.toks) hΚ (Nat.le_of_eq (dR _ _)) ?_;have ne:s.heap.objs.size≠iĘ:=a7 aİ;exact#[by rw[bS ne,cw],dg _,ne,e2,cû,(Heap.Ns1.of_empty e3).at λo q=>aį,λ_=>True.intro,λy hy=>fĜ]
theorem OT (hb:attributeBase e f env (cΓ)=cΓ)(h:wpAny Χ A (cΓ) (λo s₁=>wpAny Χ A (getAttr o f true) Q E s₁) E s):wpAny Χ A (eval jĦ env) Q E s:=Attribute_any_ h (by rw[arm_eval_Attribute,hb])
def RU (K:iQ)(ta:TE)(f:Str):TE:=λσ H Q=>ta σ H λx H1=>Lw λa C dx fs v=>kM Ÿ lμ bĮ cΔ (ię) (Q v H1)
def WN (K:iQ)(ta tv:TE)(f:Str):TS:=λD σ H=>tv σ H λy H1=>ta σ H1 λx H2=>lD λa C dx fs=>kM Ÿ (H2 a=iϑ) bĮ cΔ (gÙ) (D.nx σ (dB H2 a kΜ))
def c7 (he:PE X e ta)(hb:pă):PE X jĦ (RU X.K ta f):=by intro aj s σ H Q I h;exact OT hb mĒ;rintro u s1 ⟨x,H1,I1,rx,a,C,dx,fs,v,ex,ea,c,n,l,q⟩;subst ex;obtain rfl:Μ:=rx;show Db I1 ea c n l λu' s2 I2 ru=>#[v,H1,I2,ru,q]
def gU (ha:cü)(hv:fĝ)(hs:swapsWith value (some (hΜ)) pos.line X.env=cξ):PS X (.Assign [hΜ] value pos) (WN X.K ta tv f):=by intro aj s σ H D I h;exact plainObj_wpAny_Assign_Attribute (dE jħ λu s1 ⟨y,H1,I1,ry,q⟩=>dE (ha aj s1 σ H1 _ I1 q) ?_) hs;rintro ov s2 ⟨x,H2,I2,rx,a,C,dx,fs,ex,ea,c,n,l,q2⟩;subst ex;obtain rfl:ov=dø:=rx;show B9 I2 ea c n l ry λs3 I3=>fĞ
theorem Qs {σ:St}(he:cí)(I:ϙ)(h:te σ H λx H1=>Lw λa C dx fs g=>kM Ÿ lμ (bĬ) (eĬ) (hč) (∀s1,Inv X aj σ H1 s1 ->wpAny Ϥ X.A (callWith pos (.ref g) Ļ nť nϯ) Q X.xe s1))(ht:pô=(do
   let ov <- eě
   hΝ
   let (f,first) <- nñ
   callWith pos f first nť nϯ)):
  wpAny Ϥ X.A (pô) Q X.xe s:=by
 exact pŕ;rintro u s1 ⟨x,H1,I1,rx,a,C,dx,fs,g,ex,ea,c,k,l,q⟩
 subst ex
 obtain rfl:Μ:=rx
 show oy I1 ea c k l (q s1 I1)
section
variable {X:Cx}{aj:ω}{σ:St}{H:Hp}{s:fk}{A:Around}{E:Φ}{Q:Φ}{c:fi}{b:Bool}
inductive qX (K:PySem.W.Frag)(H:Hp):hĎ where
 | fD:qX K H .fD iĚ
 | bl (x:Bool):qX K H (.bl x) ϋ
 | int (i:Int):qX K H bĢ Ν
 | str (x:Str):qX K H bĥ Ξ
 | E2 (x:UInt64):qX K H (.E2 x) (.type "float")
 | lst {a:Addr} {xs:Ą} (e:ič):mψ
 | nM {a:Addr} {o:Obj} {xs:Ą} (e:H a=kĳ):mψ
 | tup {a:Addr} {xs:Ą} (e:H a=gÆ):qX K H ł Ϛ
 | dK {a:Addr} {kvs:eĎ} (e:iě):mω
 | dT {a:Addr} {kvs:hπ} (e:iĜ):mω
 | ins {a C dx:Addr} {fs:fĀ} (e:kΚ) (cl:aĮ) (ha:PySem.W.findIn K Ń "__class__" =some (some mŗ)) (hn:PySem.W.specialIn K mŗ "__get__" =some (some (.builtin "getset_descriptor.__get__"))) (htk:PySem.W.takesIn K mŗ=cþ) (hm:PySem.W.mroIn K C (.type "object")=cþ):qX K H ł Ń
def Gr (I:ϙ)(rx:ļ)(ty:qX X.K H x t)(e:W.kitOne X.K t c=aÿ)(h: ∀tk,Q (.bool b) {s with toks:=tk}): wpAny Ϥ A (call kΝ [u,c]) Q E s:=by
 cases ty with
 | fD=>cases (show eċ from rx);show c_ W.kitx_none I.pH True.intro e hď h
 | bl y=>cases (show u=Value.bool y from rx);show c_ W.kitx_bool I.pH True.intro e hď h
 | int i=>let⟨t,q⟩:=(show jč from rx);cases q;show c_ W.kitx_int I.pH True.intro e hď h
 | str y=>let⟨t,q⟩:=(show ∃t,u=Value.str y t from rx);cases q;show c_ W.kitx_str I.pH True.intro e hď h
 | E2 y=>let⟨t,q⟩:=(show ∃t,u=Value.float y t from rx);cases q;show c_ W.kitx_float I.pH True.intro e hď h
 | @lst a xs ea=>
  cases mĖ;let⟨_,_,n,_,h1⟩:=(show fm X.prog X.w H s.heap a cê from dĩ)
  show pę
 | @nM a ob xs ea=>
  cases mĖ;let⟨_,_,_,n,_,h1⟩:=(show fm X.prog X.w H s.heap a (.nM ob cê) from dĩ)
  show pę
 | @tup a xs ea=>
  cases mĖ;let⟨_,_,_,p⟩:=(show fm X.prog X.w H s.heap a ŝ from dĩ)
  let⟨o,h1,h2,_⟩:=p;show c_ W.kitx_tuple I.pH cΕ e hď h
 | @dK a kvs ea=>
  cases mĖ;let⟨_,_,vs,_,p⟩:=(show fm X.prog X.w H s.heap a š from dĩ)
  let⟨o,es,ep,h1,h2,_⟩:=p;show pī
 | @dT a kvs ea=>
  cases mĖ;let⟨_,_,xs,_,o,es,ep,h1,h2,_⟩:=(show fm X.prog X.w H s.heap a cý from dĩ)
  show pī
 | @ins a C dx fs ea cl ha hn htk hm=>cases mĖ;let⟨mA,O,_⟩:=tD I.dU ea;let⟨od,J,_⟩:=O.look;show c_ (W.kitx_own (cl.get _) cl.hd ha hn htk hm) I.pH J e hď h
universe e
structure gq (k:Nat)(A:Around):Prop where
 hd:gÛ
 dp:A.depth+3*k+5<recursionLimit
 un:A.units+16*k+200<cLine
theorem gq.mono (r:aĲ)(h:j<=k):gq j A:=#[r.hd,by have:=r.dp;exact Lqj ř (.a (.a (.a Lq0 (.m 3 Lq1)) aĳ) ñ) Lq2 (.a Lq1 (.a Lq1 (.a Lq1 (.a (.a (.a Lq0 (.m 3 Lq3)) aĳ) ñ)))) (.a Lq3 (.a Lq3 χ)) (LqNp h (LqNp h (LqNp h this))) rfl,by have:=r.un;lia]
theorem gq.deeper (r:gq Ü A)(env:Env):gq k (A.deeper env):=#[r.hd,by have:=r.dp;change A.depth+1+3*k+5<_;exact rÚ,by have:=r.un;change A.units+3+16*k+200<_;exact Lqj Ĝ (.a (.a (.a (.a Lq0 (.n 3)) dĪ) bį) ñ) Lq2 pŮ Lq2 this rfl]
def CJ {A:Around}:(pĄ).depth=A.depth+1:=by first | rfl | simp[Around.under,Code.weight,Code.isCreation,Code.isGuard,Code.isCaller,Code.frames,Code.isFrame,guardIds]
def CI {A:Around}:(pĄ).units=cÿ:=by first | rfl | simp[Around.under,Code.cUnits,Code.frames,Code.isFrame]
theorem gq.make (r:gq Ü A)(C:gg)(us:ã)(kw:eį):gq k (pĄ):=#[r.hd,by have:=r.dp;rw[CJ];exact rÚ,by have:=r.un;rw[CI];exact Lqj Ĝ (.a (.a (.a ϒ dĪ) bį) ñ) Lq2 pŮ Lq2 this rfl]
def gq.depth (r:aĲ):A.depth<recursionLimit:=by have:=r.dp;exact Lqj Ĝ ϒ Lq1 (.a (.a (.a (.a Lq0 (.m 3 Lq2)) aĳ) ñ) mΑ) (.a Lq1 (.a Lq2 eİ)) (LqNp this (LqNp ϔ oĔ)) rfl
def gq.units (r:aĲ):A.units+64<cLine:=by have:=r.un;lia
def BX:TA:=λ_ H Q=>Q [] H
def Iq (ta:TE)(tr:TA):TA:=λσ H Q=>ta σ H λx H1=>tr σ H1 λxs H2=>Q (aÂ) H2
section
variable {X:Cx}{e:Expr}{es:ğ}{te:TE}{t:TA}{pos:Pos}
theorem ar:PA X [] BX:=λ_ _ _ _ H Q I h=>Calls.spliced_nil hΞ
def aa (ha:cí)(hr:cĀ)(hs:pό:=by rfl):PA X aϜ (Iq te t):=by intro pos aj s σ H Q I h;rw[hs];change wpAny _ _ (spliced (jĨ::mπ)) _ _ s;exact eB mď;rintro u s1 ⟨x,H1,I1,r1,q1⟩;show dE (hr pos aj s1 σ H1 _ I1 q1) (by rintro us s2 ⟨xs,H2,I2,r2,q2⟩;exact #[aÂ,H2,I2, .cons r1 r2,q2])
def Wf (t:TA):TE:=λσ H Q=>t σ H λxs H1=>Ϩ /\ ∀p,cā ->Q bİ (dB H1 p ŝ)
def Wm (t:TA):TE:=λσ H Q=>t σ H λxs H1=>Ϩ /\ ∀p,cā ->Q bİ (dB H1 p cê)
def cT {x1}(h:cĀ):PE X (.Tuple es x1 pos) (Wf t):=by intro aj s σ H Q I hq;exact wpAny_Tuple_spliced qŏ;have hf:lŊ:=iĐ;exact#[kĭ,dB H1 s1.heap.objs.size ŝ,pÕ,rfl,q _ hf];show#[z,us,r,mÀ]
def og (h:cĀ):PE X (.List es pos) (Wm t):=by intro aj s σ H Q I hq;exact wpAny_List_spliced qŏ;have hf:lŊ:=iĐ;exact#[kĭ,dB H1 s1.heap.objs.size cê,pÕ,rfl,q _ hf];show#[z,us,0,r,Ŀ]
universe e
abbrev Sp:=Ä ->Hp ->VK ->XK ->Prop
abbrev FK:=aė ->Hp ->fk ->XK ->Φ
structure DF (P:Program)(w:World)(K:PySem.W.Frag)(mg:ią)(base:Heap)(A:Around)(outer:bė)(s:Shared)(H:Hp):Prop where
 frames:A.frames=some outer
 mod:Mod K mg base
 bs: ∀b o,base.get? b=ą ->jē /\ ľ
 Mq:base.objs.size<=s.heap.objs.size
 sI:s.heap.FunFrames base outer
 Ug: ∀b∈Dd outer,ľ
 dU:nV P w H s.heap
 bare:gÌ
def CE (outer:aė)(P:Program)(w:World)(H:Hp)(s:fk)(Q:VK)(u:fi)(s':fk):Prop:=cM λv H'=>kM (s'.os=s.os) (gθ) (Un (Dd outer) [] H H' s.heap s'.heap) (nV P w H' s'.heap) (Ľ) (aĜ)
def CR (CX:FK)(outer:aė)(P:Program)(w:World)(H:Hp)(s:fk)(Q:VK)(E:XK)(r:Result)(s':fk):Prop:=
 match r with
 | .ok (.ret u)=>kΞ
 | .ok _=>False
 | .error e=>CX outer H s E e s'
structure cC (P:Program)(w:World)(K:PySem.W.Frag)(mg:ią)(base:Heap)(CX:FK)(k:Nat)(f:Addr)(fd:FuncData)(ps:bĖ)(sp:Sp):Prop where
 len: oΗ
 run: ∀ (A:Around) (outer:bė) (s:Shared) (H:Hp) (args:Args) (us:List Value) (vs:Ą) (Q:VK) (E:XK),aĲ ->mė ->BindsTo s fd args dĬ ->bĞ ->dī ->codeAny dę A (.call ŀ args) (CR CX outer P w H s Q E) s
theorem cC.mono {K:iQ}(F:cC P w K mg base CX j f fd ps sp)(h:j<=k): nò:=#[F.len,λA outer s H args us vs Q E hr=>F.run A outer s H args us vs Q E (hr.mono h)]
theorem cC.imp {K:iQ}(F:nò)(h: ∀vs H Q E,sp' vs H Q E ->dī):cC P w K mg base CX k f fd ps sp':=#[λvs H Q E q=>F.len vs H Q E (h _ _ _ _ q),λA outer s H args us vs Q E hr he hb hv hs=>F.run A outer s H args us vs Q E hr he hb hv (h _ _ _ _ hs)]
theorem DF.make {K:iQ}(e:mė)(C:gg)(us:ã)(kw:eį): DF P w K mg base (pĄ) outer s H:=#[by first | show e.frames | (simpa [Around.under,Code.envs,Code.isFrame,pushEnvs] using e.frames),e.mod,e.bs,e.Mq,e.sI,e.Ug,e.dU,e.bare]
theorem Inv.Y3 {σ:St}(I:ϙ):DF X.prog X.w X.K X.mg X.base X.A X.stack s H:=#[I.ok.frames,I.ok.mod,I.bs,gψ,I.stack,I.D7,I.dU,I.bare]
def Inv.after {σ:St}(I:ϙ)(h:CE X.stack X.prog X.w H s Q u s'):EP X aj σ Q u s':=by let⟨v,H',os,bare,un,dU,r,q⟩:=h;let⟨hh,g,d,t,os'⟩:=s';obtain rfl:os'=s.os:=os;show#[v,H',I.call (h':=hh) (g':=g) (d':=d) (t':=t) (ch:= []) un dU bare (λb z=>absurd z ś),r,q]
def wF (sp:Sp)(uY:Ä)(E:XK)(t:TA):TE:=λσ H Q=>t σ H λvs H1=>sp bı H1 Q E
def zK (C:gg)(m:Str)(sp:Sp)(uY:Ä)(E:XK)(ta:TE)(t:TA):TE:=λσ H Q=>ta σ H λx H1=>gm λa dx fs=>fU Ÿ lμ (hč) (t σ H1 λvs H2=>sp (x::bı) H2 Q E)
def Ii (C:gg)(sp:Sp)(uY:Ä)(E:XK)(t:TA):TE:=λσ H Q=>t σ H λvs H1=> ∀x dx,H1 x=none ->H1 dx=none ->aĬ ->sp iĝ oķ nī E
def Binds (K:iQ)(fd:FuncData)(ps:Ĉ)(ds:ã):Prop:=∀ (s:fk) (us:ã),dĤ ->lŋ ->BindsTo s fd bĲ (ps.zip bĳ)
theorem Binds.all {K:iQ}(h: ∀us:ã,iϔ ->bindArgs fd bĲ=hĐ):hđ:=λs us _ hl=>by rw[List.append_nil] at hl ⊢;show .of_eq (h us hl)
def mo (CX:FK)(X:Cx)(E:XK):Prop:= ∀ (aj:ω) (σ:St) (H:Hp) (s:fk) (e:fi) (s':fk),ϙ ->CX X.stack H s E e s' ->X.xe e s'
section
variable {X:Cx}{CX:FK}{k:Nat}{f C:gg}{fd:FuncData}{ps:Ĉ}{sp:Sp}{uY:Ä}{ds:ã}{E:XK}{x m:Str}{p pos f':Pos}{e o:Expr}{es:ğ}{ta:TE}{t:TA}
def yl {σ:St}(F:oΘ)(hr:bĴ)(hb:iĞ)(hd:bĵ)(hx:cĂ)(I:ϙ)(r:bĞ)(h:sp bı H Q E):wpAny Ϥ X.A (call ŀ us) gÏ X.xe s:=by
 have r2:cR bı bĳ:=dĭ;have hl:lŋ:=by rw[<- r2.length];show F.len _ _ _ _ h
 exact wpAny_call (codeAny_mono (F.run X.A X.stack s H bĲ bĳ bı Q E hr I.Y3 (hb s us I.pH hl) r2 h) gÝ);cases r with
 | error e=>show hx aj σ H s e s' I hq
 | ok fl=>
  cases fl with
  | ret u=>show I.after hq
  | next=>show fğ
  | brk=>show fğ
  | cont=>show fğ
def Nn (F:oΘ)(hr:bĴ)(hg:aĝ)(hm:aĞ=fĚ)(hk:lν)(hb:iĞ)(hd:bĵ)(hx:cĂ) (ha:gÞ) (C7:ϸ:=by decide) (he:pό:=by rfl) (lK:pÖ:=by rfl): PE X nŦ (wF sp uY E t):=by intro aj s σ H Q I h;exact nϰ;exact W.callWith_K (h₀:=X.base) I.ok.mod.XU hk qÍ he lK;show yl F hr hb hd hx I1 r q
def Ju (F:oΘ)(hr:bĴ)(hg:aĝ)(hm:aĞ=fĚ)(hk:lν)(hb:iĞ)(hd:bĵ)(hx:cĂ) (C7:ϸ:=by decide):PE X mŘ (wF sp uY E BX):=by intro aj s σ H Q I h;exact nϰ;show W.callWith_K0 I.pH hk (yl (us:= []) F hr hb hd hx I .nil h)
theorem Nk {pl:Sem Bool}(he:cü)(c:bĬ)(hm:eı)(F:oΘ)(hr:bĴ)(hb:iĞ)(hd:bĵ)(hx:cĂ)(ha:gÞ) (gD:pό:=by rfl) (lK:pÖ:=by rfl) (ht:pĬ=(do
   let ov <- eģ
   hΝ
   let (f,first) <- nñ
   qŮ):=by rfl):
  PE X oŕ (zK C m sp uY E ta t):=by
 intro aj s σ H Q I h
 exact pŕ;rintro u s1 ⟨x,H1,I1,rx,a,dx,fs,ex,ea,l,q⟩
 subst ex
 obtain rfl:Μ:=rx
 exact iğ
 exact W.callWith_K (first:= Ļ) (h₀:=X.base) I.ok.mod.XU hm.kp (dE (ha pos aj s1 σ H1 _ I1 q) λus s2 ⟨vs,H2,I2,r,q2⟩=>#[I2.pH,?_]) gD lK
 show yl (us:= Ā::us) (vs:= Ā::vs) F hr hb hd hx I2 (.cons rfl r) q2
theorem Jq (he:cü)(c:bĬ)(hm:eı)(F:oΘ)(hr:bĴ)(hb:iĞ)(hd:bĵ)(hx:cĂ)(ht:pÃ=(do
   let ov <- eģ
   hΝ
   let (f,first) <- nñ
   qŐ):=by rfl):
  PE X nϱ (zK C m sp uY E ta BX):=by
 intro aj s σ H Q I h
 exact pŕ;rintro u s1 ⟨x,H1,I1,rx,a,dx,fs,ex,ea,l,q⟩
 subst ex
 obtain rfl:Μ:=rx
 exact iğ
 show W.callWith_K0 (first:= Ļ) I1.pH hm.kp (yl (us:= Ļ) (vs:= Ļ) F hr hb hd hx I1 hĒ q)
structure Mk (K:PySem.W.Frag)(C f:Addr):Prop where
 makes:PySem.W.makesIn K C=true
 init:PySem.W.findIn K Ń cΒ =jĤ
 fn:mĕ
 kp:PySem.W.keepIn K Ń=true
def IN {σ:St}(M:Mk X.K C f)(F:oΘ)(hr:eĲ)(hb:iĞ)(hd:bĵ)(hx:cĂ)(I:ϙ)(r:bĞ)(h: ∀x dx,H x=none ->H dx=none ->aĬ ->sp iĝ (dB (dB H dx bē) x gÜ) nī E): wpAny Ϥ X.A (call Ń us) gÏ X.xe s:=by
 have hq:=h ϩ s.heap.objs.size (I.dU.fresh (fø)) (hΡ) (a7 aİ);have I2:=Inv.made (C:=C) I;have r2:cR (V.ref ϩ::bı) (mΒ::bĳ):= .cons rfl (dĭ);have hl:(nŧ++ds).length=ps.length:=by have e:=r2.length;rw[F.len _ _ _ _ hq] at e;show e.symm
 exact wpAny_call (JV (f:=f) I.pH M.makes M.init (beq_iff_eq.mp M.fn) (codeAny_mono (F.run _ X.stack _ _ #[nŧ,[]] (mΒ::bĳ) _ _ E (hr.make C us []) (I2.Y3.make C us []) (hb _ (nŧ) I2.pH hl) r2 hq) λr s' Yg=> ?_));cases r with
 | error e=>show hx aj σ _ _ e s' I2 Yg
 | ok fl=>
  cases fl with
  | ret u=>let⟨v,H',I3,rv,ev,q3⟩:=I2.after Yg;subst ev;show#[rv,#[V.ref ϩ,H',I3,rfl,q3]]
  | next=>show fĠ
  | brk=>show fĠ
  | cont=>show fĠ
def Nl (M:Mk X.K C f)(F:oΘ)(hr:eĲ)(hg:aĝ)(hm:aĞ=fġ)(hb:iĞ)(hd:bĵ)(hx:cĂ) (ha:gÞ) (C7:ϸ:=by decide) (he:pό:=by rfl) (lK:pÖ:=by rfl): PE X nŦ (Ii C sp uY E t):=by intro aj s σ H Q I h;exact nϰ;exact W.callWith_K (h₀:=X.base) I.ok.mod.XU M.kp qÍ he lK;show IN M F hr hb hd hx I1 r q
universe e
structure iU (N P:bĖ)(sc:Scope):Prop where
 kind:sc.kind= .function
 co:sc.isCoroutine=false
 gen:sc.isGenerator=false
 nd:N.Nodup
 pre:N.take P.length=P
 par: ∀x∈P,pΘ
 S4: ∀y∈sc.names,y.2≠ .free
theorem xK {kindOf:hΤ}{x:Str}: ∀ {binds:eį} {m:dĂ},jĩ ->bindL kindOf binds m x=m x
 | [],_,_=>rfl
 | (n,v)::r,m,h=>by
  unfold bindL;rw[xK jϗ];split;have:x≠n:=by rintro rfl;show h v aQ
  simp[this];rfl
theorem xM {kindOf:hΤ}{x:Str}: ∀ {binds:eį} {m:dĂ},jĩ ->bindC kindOf binds m x=m x
 | [],_,_=>rfl
 | (n,v)::r,m,h=>by
  unfold bindC;rw[xM jϗ];split;rfl;have:x≠n:=by rintro rfl;show h v aQ
  simp[this]
theorem xL {kindOf:hΤ}{x:Str}{v:fi}: ∀ {P:Ĉ} {vs:ã} {i:Nat} {m:dĂ},P.Nodup ->P[i]? =û ->gß ->kindOf x=dā ->bindL kindOf (bĶ) m x=ă
 | [],_,_,_,_,h,_,_=>by simp at h
 | _::_,[],_,_,_,_,h,_=>by simp at h
 | p::P,w::vs,0,m,nd,h1,h2,hk=>by simp at h1 h2;subst h1;subst h2;change bindL kindOf hΥ m p=_;unfold bindL;rw[xK oŲ,aÙ];simp
 | p::P,w::vs,i+1,m,nd,h1,h2,hk=>by change bindL kindOf hΥ m x=_;unfold bindL;show xL (i:=i) cΖ.2 ⇑h1 ⇑h2 hk
theorem xN {kindOf:hΤ}{x:Str}{v:fi}: ∀ {P:Ĉ} {vs:ã} {i:Nat} {m:dĂ},P.Nodup ->P[i]? =û ->gß ->kindOf x≠dā ->bindC kindOf (bĶ) m x=ă
 | [],_,_,_,_,h,_,_=>by simp at h
 | _::_,[],_,_,_,_,h,_=>by simp at h
 | p::P,w::vs,0,m,nd,h1,h2,hk=>by simp at h1 h2;subst h1;subst h2;change bindC kindOf hΥ m p=_;unfold bindC;rw[xM oŲ,aÚ];simp
 | p::P,w::vs,i+1,m,nd,h1,h2,hk=>by change bindC kindOf hΥ m x=_;unfold bindC;show xN (i:=i) cΖ.2 ⇑h1 ⇑h2 hk
def start (N:Ĉ)(vs:Ä):St:=pŇ
def qe (CX:FK)(P:Program)(w:World)(K:iQ)(mg:dĂ)(base:Heap)(N:Ĉ)(qual:Str)(scope:Scope)(f:gg)(cd:fi)(A:Around)(outer:aė)(s:fk)(H:Hp)(E:XK):Cx where
 prog:=P
 w:=w
 K:=K
 mg:=mg
 base:=base
 A:=põ
 N:=N
 s₀:=s
 H₀:=H
 env:=oó
 outer:=outer
 stack:=oó::outer
 ex:= []
 calm:=true
 fn:=că
 pn:= []
 xe:=λe s'=>wpAny dę (põ) (leaving (oó) e) (λ_ s''=>CX outer H s E e s'') (λe' s''=>CX outer H s E e' s'') s'
def Bj {sc:Scope}(h:mċ): ∃c,(cellsFrom n sc.names []).lookup x=aĘ:=by have q:=W.cellsFrom_some sc.names n [] (aĠ);show Option.isSome_iff_exists.mp q
def Gs {K:iQ}(S:fĢ)(hd:gÛ)(e0:mė)(hl:iϒ)(r:bĞ)(x:InCallC s s.heap.objs.size (bindL pÄ dĬ cû) (oΙ) (bindC pÄ dĬ cû) s1): Inv (pą) [] eĳ H s1:=by
 have lK:ps.length<=N.length:=by have:=congrArg List.length S.pre;rw[bv] at this;exact Nat.le_trans dį kğ
 let⟨h1,tk,rfl,hk⟩:=x.done;have XA: ∀b:gg,b∉(pą).ex:=λb z=>oΚ;exact#[#[e0.mod,S.kind,rfl,rfl,Â,λy z c h1 h2=> ?_,dİ,λy c _ h=> ?_,λ_=>hd,Around.frames_deeper e0.frames, .inr cυ,kĵ,e0.bs,e0.Mq,λb _ _=>XA b,kĵ,e0.sI,e0.Ug],
  rfl,e0.bare,Un.kept hk,#[_,x.toInCall.ns,λi y v h1 h2 h3=> ?_],λy c h=>#[_,x.cell y c h],e0.dU.fresh õ,λy c h=> ?_,pΜ,e0.dU.kept hk,?_]
 show name_of_addr x.apart (eT h1) (eT h2);have hy:jĪ=cδ \/ jĪ=cε:=hy;obtain hy | hy:=hy;show Bj hy;show absurd rfl (S.S4 _ (eT hy));show nĬ;have hi:dı:=by unfold start at h2;by_cases hi:dı;show hi;rw[bķ] at h2;rw[List.getElem?_replicate] at h2;split at h2<;>cases h2
 have ha:gß:=by
  unfold start at h2;rw[bĸ,aE] at h2;cases e:aĴ with
  | none=>rw[e] at h2;cases h2
  | some a=>rw[e] at h2;cases h2;rfl
 let⟨u,hu,rv⟩:=r.get ha;have hp:ps[i]? =aģ:=by rw[<- S.pre,List.getElem?_take_of_lt (by exact Nat.lt_of_lt_of_le hi cĄ)];show h1
 have ndP:ps.Nodup:=by rw[<- S.pre];show S.nd.sublist kς
 exact#[u,rv,?_];obtain k | k:=S.par y (au hp);show .inl #[k,xL ndP hp hu k];let⟨c,e⟩:=Bj (n:=iĘ) k;exact .inr #[aĐ,c,e,?_];have q:=x.cell y c e;rw[xN ndP hp hu (by change jĪ≠_;rw[k];decide)] at q;show q;show e0.dU.fresh (nĬ);unfold start;change _=N.length;rw[aO,ab,List.length_replicate];exact LqNx (Lqj Ĝ ι Lq2 ο Lq2 (LqNt (Nat.le_trans cĄ lK)) rfl) pŔ
def Y1 {K:iQ}{dV kV kl pm cdv ct oc:fi}(lk:cΗ=some #[oc,od, .func pů,EC])(GA:lç)(S:fĢ)(len: oΗ)(pQ: ∀ (A:Around) (outer:aė) (s:fk) (H:Hp) (vs:Ä) (Q:VK) (E:XK),gq k (A.deeper (envOfC qual scope s.heap.objs.size f cdv)) ->dī ->∃t,BF pĴ body t /\ oΜ): cC P w K mg base CX Ü f pů ps sp:=by
 exact#[len,λA outer s H args us vs Q E hr e0 hb r vR=> ?_];have hl:=len _ _ _ _ vR;have KX:dĤ:=e0.mod.XU.keeps lè;have lim:s.heap.NoLimit:=e0.mod.nolimit.keeps lè;have Yw: ∀y∈ps.zip us,kĶ=dā \/ (kĶ=cδ /\ ((oΙ).lookup y.1).isSome=true):=(by rintro ⟨n,v⟩ hy;exact by obtain q | q:=S.par n (List.of_mem_zip hy).1;show aě;show .inr #[q,W.cellsFrom_some _ _ _ (aě)])
 exact codeAny_call_function hr.depth (KX _ _ lk) rfl S.co S.gen rfl (W.codeRec_of KX GA) (hb _ _ _ _ ?_);exact wpAny_newFunctionEnv_cells S.kind Yw λenv he s1 x=> ?_;subst he;exact#[lim.keeps x.toInCall.keep,codeAny_func ?_];let⟨t,ht,hq⟩:=pQ A outer s H vs Q E (hr.deeper _) vR;have I:Inv pĴ [] eĳ H s1:=Gs S hr.hd e0 hl r x;exact cg (ht [] s1 eĳ H _ I hq) (gω) λe s' hs=>hs;have fin: ∀ {σ':St} {H':Hp} {v:V} {u:fi},Inv pĴ [] σ' H' s' ->Ľ ->aĜ ->kΞ:=λ{σ' H' v u} J rv q=>#[v,H',J.os,J.bare,J.base,J.dU,rv,q]
 cases fl with
 | ret u=>let⟨v,σ',H',J,rv,q⟩:=hs;show fin J rv q
 | next=>let⟨σ',H',J,q⟩:=hs;show fin (v:=V.fD) (u:=Value.none) J rfl q
 | brk=>let⟨_,_,_,q⟩:=hs;show eĴ
 | cont=>let⟨_,_,_,q⟩:=hs;show eĴ
section
variable {X:Cx}{x:Str}{p pos:Pos}{e:Expr}{es:ğ}{t:TA}{id T:String}{r:ϫ}
def tCB (r:ϫ)(t:TA):TE:=λσ H Q=>t σ H λvs H1=>r vs H1 Q
def bH (hc:gz X fģ r)(hg:aĝ)(hm:dČ)(hv:gÊ=some fģ)(ha:gÞ)(hn:gž :=by decide)(C7:ϸ:=by decide) (he:pό:=by rfl) (lK:pÖ:=by rfl):pØ:=by intro aj s σ H Q I h;exact oų;show PyProof.Rows.callWith_builtin1 qΘ he lK
def dF (hc:gz X cą r)(hg:aĝ)(hm:dČ)(hv:gÊ=some cą)(ha:gÞ)(hn:gž :=by decide)(C7:ϸ:=by decide) (he:pό:=by rfl) (lK:pÖ:=by rfl):pØ:=by intro aj s σ H Q I h;exact oų;show bY qΘ he lK
universe e
universe L2
namespace HT
open PySem PyProof.Rows
def gi (n d:Nat):Ċ ->Nat
 | none=>d
 | ă=>oϭ
theorem IK (n d:Nat):gi n d none=d:=rfl
def MU (n d k:Nat):gi n d (some ģ)=aΤ:=by change(if ģ <0 then(ģ+Ġ).toNat else min (k:Int).toNat n)=aΤ;rw[ai (by exact LqIm ϭ),Int.toNat_natCast]
def Se (n d:Nat)(hd:d<=n)(o:Ċ):gi n d o<=n:=by
 cases o with
 | none=>show hd
 | some v=>change(oϭ) <=n;by_cases hv:v<0;rw[ak hv];lia;rw[ai hv];show jĂ
def FC (v:Int)(n d:Nat):pö=((gi n d bę:Nat):Int):=by
 change pö=(((oϭ):Nat):Int)
 by_cases hv:v<0;simp![ak hv];lia;simp![ai hv];lia
def Ds (lo hi:Ċ)(n:Nat):oĸ=(jϘ,jϙ):=by
 have h1:¬(aϢ <0):= (by exact LqIm (oŴ));unfold Builtin.Slice.sliceAdjust;simp![h1,bw];exact Prod.ext ?_ ?_;cases lo with
 | none=>rfl
 | some v=>show FC v n 0
 cases hi with
 | none=>rfl
 | some v=>show FC v n n
def Cn (i j:Nat):Builtin.Slice.slicePlaces Ĥ aϣ 1=j - i:=by unfold Builtin.Slice.slicePlaces;have h1:aϢ >0:= (by exact Lqi [] Ϣ ñ ö ö LqI0 rfl);simp![h1,b_,Int.ediv_one];split<;>lia
def ua (p:IsPart v o)(h:Q o s):wpAny Χ A (Builtin.Slice.slicePartIndex v) Q E s:=by
 cases p with
 | none=>show slicePart_none h
 | int i t=>show slicePart_int h
def ko {lo hi:Ċ}{Q:Int×Int×Nat ->bϹ}(hs:mϴ)(pl:eĵ)(pu:eĶ)(h:Q (jϘ,1,gi n n hi - gi n 0 lo) s):wpAny Χ A (Builtin.Slice.sliceApplied cĆ (pure Ġ)) Q E s:=by let⟨os,TB,hcs,Vi⟩:=id hs;unfold Builtin.Slice.sliceApplied Builtin.Slice.sliceFields;exact ah (ah (wpAny_field TB Vi (x:=vl) rfl (ah (wpAny_field TB Vi (x:=vu) rfl (ah (wpAny_field TB Vi (x:= .none) rfl aϒ))))));exact ah (slicePart_none ?_);change wpAny _ _ (if(aϢ==0)=true then _ else _) _ _ s;rw[ai ⋯];exact ah (ua pl (ah (ua pu (cŶ))));change wpAny _ _ (match oĸ with | (lo,hi)=>pure (lo,aϢ,Builtin.Slice.slicePlaces lo hi 1)) _ _ s;rw[Ds lo hi n];change wpAny _ _ (pure (jϘ,aϢ,Builtin.Slice.slicePlaces jϘ jϙ 1)) _ _ s;rw[Cn];show aD h
def Jk (xs:aÎ)(i k:Nat):((List.range k).filterMap oĹ).toArray=((hð).take k).toArray:=by
 have e:(oĹ)=fĤ :=by funext m;have:lŌ=i+m:= ∅;rw[this]
 rw[e];have:=pick_run xs i k;rw[List.filterMap_map] at this;have e2:((λx=>xs[x]?) ∘ λx=>i+x)=fĤ :=rfl;rw[e2] at this;rw[this]
def pT {lo hi:Ċ}(ht:jĬ)(hs:mϴ)(pl:eĵ)(pu:eĶ)(hw:¬(pύ))(h:Q kΕ {s with heap:=s.heap.push {cls:= fā,data:= qϐ}})(hsz:items.size<=sizeLine):pš:=by
 have xj:sizeOk (qϐ):=by change(qů).toArray.size<=sizeLine;rw[aU,bv,List.length_drop,dh];exact Nat.le_trans kğ (Nat.le_trans hì hsz)
 have hj:mÅ<=items.size:=Se _ _ õ hi;let⟨os,TB,hcs,Vi⟩:=id hs;have hTs:lξ :=eķ
 unfold getItem;try with_reducible exact d8 ?_
 first | exact cŶ | skip
 exact oô;exact rö;change pŰ;exact lé;exact lê;rw[aĶ];exact iϖ;have hno:¬(qϬ):=by intro q;rw[Bool.and_eq_true,Bool.and_eq_true] at q;have q1:mΓ=0:=eq_of_beq q.1.1;have q2:mÅ - iĠ=items.size:=eq_of_beq q.2;show hw dĲ
 change ró;rw[ai hno,Jk];first
 | show pΝ
 | show ah (m:=lο) (dY (ah kΟ) xj)
 | show ah (ah (m:=lο) (dY kΟ xj))
 | show ah (pΝ)
universe HT
namespace L2
open PySem PySem.Spec PyProof.Rows
abbrev TO:=St ->Hp ->(Ċ ->Ş) ->Prop
def PO (X:Cx)(e:fI Expr)(t:TO):Prop:=∀ (aj:ω) (s:fk) (σ:St) (H:Hp) (Q:Ċ ->Ş),ϙ ->bğ ->wpAny Ϥ X.A (evalPart e X.env) (λu s'=>cM λo H'=>d6 (hΒ) (IsPart u o) (Q o H')) X.xe s
def DW:TO:=λ_ H Q=>Q none H
def Px (t:TE):TO:=λσ H Q=>t σ H λx H1=> ∃i,cô /\ Q (some i) H1
section
variable {X:Cx}{e:Expr}{te:TE}{lo hi:fI Expr}{tl th:TO}{pos p2:Pos}
def yu:PO X none DW:=by intro aj s σ H Q I h;rw[evalPart_none];show aD #[none,H,I, .none,h]
def yt (h:cí):PO X (aġ) (Px te):=by intro aj s σ H Q I hw;rw[evalPart_some];exact dE jė ?_;rintro u s1 ⟨x,H1,I1,r1,q1⟩;let⟨i,rfl,q⟩:=q1;let⟨t,rfl⟩:=r1;show#[some i,H1,I1, bČ,q]
def Zs (X:Cx)(r:nΥ):Prop:=∀ (aj:ω) (s:fk) (σ:St) (H:Hp) (x:V) (v vl vu:fi) (lo hi:Ċ) (sl:gg) (Q:VK),ϙ ->bġ ->mϴ ->eĵ ->eĶ ->r x lo hi H Q ->cM λT id=>d6 (pΞ) (eĸ) (wpAny Ϥ X.A (getItem v cĆ) gÏ X.xe s)
def tSl (r:nΥ)(te:TE)(tl th:TO):TE:=λσ H Q=>te σ H λx H1=>tl σ H1 λl H2=>th σ H2 λu H3=>r x l u H3 Q
def ui (hr:Zs X r)(he:cí)(hl:PO X lo tl)(hu:PO X hi th):PE X (.Subscript e kķ pos) (tSl r te tl th):=by intro aj s σ H Q I h;exact Subscript_ mĒ;rintro v s1 ⟨x,H1,I1,r1,q1⟩;exact wpAny_Slice (dE (hl aj s1 σ H1 _ I1 q1) λvl s2 ⟨l,H2,I2,pl,q2⟩=>dE (hu aj s2 σ H2 _ I2 q2) ?_);rintro vu s3 ⟨u,H3,I3,pu,q3⟩;rw[evalPart_none];exact aÏ;have I4:Inv X aj σ H3 qŨ:=I3.kept (t':=s3.toks) hē;let⟨T,id,hT,ht,hg⟩:=hr aj qŨ σ H3 x v vl vu l u s3.heap.objs.size Q I4 r1 (Heap.IsSliceOf.new ..) pl pu q3;change wpAny Ϥ X.A (subscriptTail e kķ v (kĸ)) gÏ X.xe qŨ;show tail_any (ops:= [kĸ,v]) ht hT hg (by with_unfolding_all rfl)
def ve (xs:Ä)(lo hi:Ċ):Ä:=qő
def si (xs:Ä)(lo hi:Ċ):(dĳ).length<=xs.length:=by unfold ve;rw[bv,List.length_drop];exact Nat.le_trans kğ hì
def aaW (K:iQ):nΥ:=λx lo hi H Q=>cM λa xs=>fU Ÿ (dď) (¬(pϢ)) (pŖ)
def Sa:Zs X (aaW X.K):=by
 intro aj s σ H x v vl vu lo hi sl Q I rx hs pl pu h;let⟨a,xs,rfl,hx,hw,q⟩:=h;cases rx;let⟨its,r,ht,hz⟩:=cΑ;have df:lπ:=by rw[aU];show r.length.symm
 exact nθ;exact HT.pT ht hs pl pu iϗ ?_ (by rw[df];show hz);rw[df];exact#[jϓ,_,I.laid (t':=s.toks) (o:= .tup (dĳ)) (hē) õ ?_,rfl,kΡ];show#[iϘ,_,qŉ,wo.new _ _]
universe e
def xg (n:Nat)(i:Int):fI Nat:=if 0<=i then(if i<n then eĹ else none) else if eĺ then some dĴ else none
def kL {α:Type}(xs:Ý)(i:Int):fI α:=(gá).bind λj=>xs[j]?
def EU (h:xg n i=aķ): seqIndex? i n=aķ /\ j<n /\ eĺ /\ i<n:=by unfold xg at h;by_cases h0:0<=i;rw[ak h0] at h;by_cases h1:i<n;rw[ak h1] at h;have e:i.toNat=j:=bF h;show#[by rw[seqIndex_of h0 h1,e], ∅, (by exact Lqi Û Ņ Lq1 ϣ ο (LqIp h0 (ϭ)) rfl),h1];rw[ai h1] at h;cases h;rw[ai h0] at h;by_cases h1: eĺ;rw[ak h1] at h;have e:dĴ=j:=bF h;show#[by rw[seqIndex_neg iĢ h1,e], ∅,h1, (by exact Int.lt_of_lt_of_le (LqIw h0) ϭ)];rw[ai h1] at h;cases h
def FG {v:α}(h:gâ): ∃j,jS (seqIndex? i xs.length=aķ) (gã) (dĵ) (-(xs.length:Int) <=i) (dĶ):=by
 unfold kL at h;cases e:gá with
 | none=>rw[e] at h;cases h
 | some j=>rw[e] at h;let⟨h1,h2,h3,h4⟩:=EU e;show#[j,h1,h,h2,h3,h4]
def gR {j:Nat}{v:α}(h:gã):kL xs aϣ=ă:=by
 have hj:dĵ:=(aϥ).1;have e:xg xs.length aϣ=aķ:=by unfold xg;rw[ak Ϲ,ak (by exact Int.ofNat_lt.mpr hj)];simp
 unfold kL;rw[e];show h
def OY (b:Expr):Prop:= ∀o i,subscripted b false o i=operate [o,i] fĦ
def ZB (X:Cx)(r:R2):Prop:=∀ (value slice:Expr) (aj:ω) (s:fk) (σ:St) (H:Hp) (x y:V) (v u:fi) (Q:VK),ϙ ->bġ ->Ł ->r x y H Q ->subscripted slice false v u=operate [v,u] (getItem v u) ->wpAny Ϥ X.A (subscriptTail value slice v u) gÏ X.xe s
def MtR (X:Cx)(id:String)(r:lō):Prop:=rĤ
section
variable {X:Cx}{a b:Expr}{ta tb:TE}{pos:Pos}
def bV (hr:ZB X r)(ha:ş)(hb:cè)(hs:OY b):PE X (.Subscript a b pos) eĩ:=by intro aj s σ H Q I h;show Subscript_ (UB ha hb I h λv u s2 x y H2 I2 rx ry q=>hr a b aj s2 σ H2 x y v u Q I2 rx ry q (hs _ _))
def So (K:iQ):R2:=λx y H Q=>lD λp xs i v=>jS dķ (y= Ă) (dĢ) (gâ) (Q v H)
def Sn (K:iQ):R2:=λx y H Q=>lD λp xs i v=>jS dķ (y= Ă) (dģ) (gâ) (Q v H)
def dm:ZB X (So X.K):=by
 intro value slice aj s σ H x y v u Q I rx ry h hs;let⟨p,xs,i,z,rfl,rfl,hq,he,q⟩:=h;cases rx;let⟨t,rfl⟩:=ry;let⟨its,r,pl,hz⟩:=cï;let⟨j,h1,h2,h3,h4,h5⟩:=FG he;let⟨w,ew,vJ⟩:=r.get h2;have hl:=r.length;have hn:=uB;have fin:hĔ:=fħ
 by_cases h0:0<=i;have hj:i.toNat=j:=by rw[seqIndex_of h0 h5] at h1;show bF h1
 show item_listR pl.isList h0 ∅ lς fin hs;have hj:(i+kĹ).toNat=j:=by rw[seqIndex_neg iĢ h4] at h1;rw[aU, <- hl];show bF h1
 show subscriptTail_builtinR (x:=w) pl.isList.typeIs slot_list_getitem.lookup (wpAny_getItem_list_neg (Q:=nó) pl.isList iĢ (by rw[aU] <;>exact Lqi Ĝ Ņ Lq1 (.a bĺ Lq2) ο (LqIp h4 ((Int.ofNat_le.mpr cĄ))) rfl) ∅ lς #[rfl,fin]) hs
def cB:ZB X (Sn X.K):=by
 intro value slice aj s σ H x y v u Q I rx ry h hs;let⟨p,xs,i,z,rfl,rfl,hq,he,q⟩:=h;cases rx;let⟨t,rfl⟩:=ry;let⟨its,r,pl,hz⟩:=cο;let⟨j,h1,h2,h3,h4,h5⟩:=FG he;let⟨w,ew,vJ⟩:=r.get h2;have hl:=r.length;have hn:=uB;have fin:hĔ:=fħ
 show subscriptTail_builtinR (x:=w) pl.typeIs slot_tuple_getitem.lookup (getItem_tuple (j:=j) (Q:=nó) pl ∅ ∅ (by rw[aU, <- hl];show h1) ⇑ew #[rfl,fin]) hs
def CH (its:ã)(n j:Nat)(u:fi):Obj.mapSeq kĺ oϓ= {cls:= eď,data:= .seq (its.set j u).toArray n}:=by simp[Obj.mapSeq]
def Inv.lst {aj:ω}{σ:St}{H:Hp}{s:fk}{p:gg}{xs:Ä}(I:ϙ)(h:iģ): cM λ dý aϔ=>d6 dĐ (fĨ=pĂ) jϊ:=by let⟨z,its,n,r,e⟩:=I.dU p _ h;show#[its,n,r,e,z]
def Inv.Tc {σ:St}{its its':ã}(I:ϙ)(h:iģ)(ho:fĨ=pĂ)(hf:f oϓ= pÅ)(r:cR ys its')(hz:iϙ)(t:Nat): Inv X aj σ (dB H p cć) {s with heap:=hΦ,toks:=t}:=by
 have e:(hΦ).get? p=some pÅ:=by rw[Heap.get?_update_self f ho (by rw[hf] <;>rfl),hf]
 exact I.write (x:=p) (e:=p) (by rw[h];trivial) ũ (λb u hb q=>(ff _ _ (aZ hb)).trans q) aĸ ?_;show#[hz,its',n',r,e]
def Qc:nδ:=λo i v H Q=>lD λp xs k j=>jS (o= aī) (i= .int k) (iģ) (xg xs.length k=aķ) (Q mę)
def jt:Zv X Qc:=by
 intro aj s σ H o i v ov iv u Q I ro ri rv h;let⟨p,xs,k,j,rfl,rfl,hp,hj,q⟩:=h;cases ro;let⟨t,rfl⟩:=ri;let⟨its,n,r,ho,hz⟩:=I.lst hp;let⟨h1,h2,h3,h4⟩:=EU hj;have hl:=r.length;have hn:=uB;have I':Inv X aj σ mę {s with heap:=s.heap.update p (Obj.mapSeq kĺ)}:=I.Tc hp ho (CH its n j u) (r.set rv j) (by rw[List.length_set];show hz) s.toks;by_cases h0:0<=k;have hk:k.toNat=j:=by rw[seqIndex_of h0 h4] at h1;show bF h1
 show W.ki_setAt ho h0 ∅ (by rw[aU, <- hl];show h4) lŎ;have hk:(k+kĹ).toNat=j:=by rw[seqIndex_neg iĢ h3] at h1;rw[aU, <- hl];show bF h1
 show W.ki_setBack ho iĢ (by rw[aU, <- hl];show h3) ∅ lŎ
def yf (lo hi:Ċ)(n:Nat):lτ.1=((HT.gi n 0 lo:Nat):Int) /\ lτ.2.1=((HT.gi n n hi:Nat):Int) /\ lτ.2.2=1:=by
 exact#[?_,?_,rfl];cases lo with
 | none=>simp[sliceBounds,HT.gi]
 | some i=>simp![sliceBounds,HT.gi,Option.getD_none,lë,b_];by_cases h:i<0;simp![h,b_] <;>lia;simp![h,bw] <;>lia
 cases hi with
 | none=>simp[sliceBounds,HT.gi]
 | some i=>simp![sliceBounds,HT.gi,Option.getD_none,lë,b_];by_cases h:i<0;simp![h,b_] <;>lia;simp![h,bw] <;>lia
def vI (its:ã)(lo hi:Ċ):slicePick its.toArray lo hi none=((its.drop (jϚ)).take (HT.gi its.length its.length hi - jϚ)).toArray:=by let⟨h1,h2,h3⟩:=yf lo hi its.toArray.size;unfold slicePick;rw[h1,h2,h3];simp![sliceRange_one,pick_run,aU] <;>rfl
def W2 (K:iQ):nΥ:=λx lo hi H Q=>cM λa xs=>d6 Ÿ (dĎ) (∀p,ń ->Q bİ (dB H p (.lst (dĳ))))
def Ef:Zs X (W2 X.K):=by intro aj s σ H x v vl vu lo hi sl Q I rx hs pl pu h;let⟨a,xs,rfl,hx,q⟩:=h;cases rx;let⟨its,r,ht,hz⟩:=I.list hx;have df:=r.length;exact#[ÿ,_,slot_list_getitem.lookup,ht.isList.typeIs,?_];exact wpAny_getItem_list_slice ht.isList hs pl pu .none ś ?_ (by rw[aU] <;>exact lŏ);rw[vI, <- df];exact#[jϓ,_,I.laid (t':=s.toks) (o:= .lst (dĳ)) (hē) õ ?_,rfl,kΡ];show#[iϘ,_,0,qŉ,Ŀ]
def Q4:V ->Bool
 | .fD=>true
 | aÔ=>true
 | aĨ=>true
 | aĩ=>true
 | _=>false
def eqV:V ->V ->Bool
 | .fD, .fD=>true
 | .bl a, ä=>a==b
 | .bl a, aĹ=>kΤ
 | aĺ, ä=>a==jĮ
 | aĺ, aĹ=>a==b
 | .str a, .str b=>a==b
 | _,_=>false
def Uo (ry:Ł)(rx:bġ)(fy:Q4 y=true)(fx:Q4 x=true):SeqAt.EqAt A s u v (eqV y x):=by
 cases y with
 | fD=>
  cases ry;cases x with
  | fD=>cases rx;show hΧ
  | bl b=>cases rx;show SeqAt.EqAt.none_bool b
  | int b=>let⟨t,rfl⟩:=rx;show SeqAt.EqAt.none_int b t
  | str b=>let⟨t,rfl⟩:=rx;show SeqAt.EqAt.none_str b t
  | _=>show nι
 | bl a=>
  cases ry;cases x with
  | fD=>cases rx;show SeqAt.EqAt.bool_none a
  | bl b=>cases rx;show SeqAt.EqAt.bool_bool a b
  | int b=>let⟨t,rfl⟩:=rx;show SeqAt.EqAt.bool_int a b t
  | str b=>let⟨t,rfl⟩:=rx;show SeqAt.EqAt.bool_str a b t
  | _=>show nι
 | int a=>
  let⟨t',rfl⟩:=ry;cases x with
  | fD=>cases rx;show SeqAt.EqAt.int_none a t'
  | bl b=>cases rx;show SeqAt.EqAt.int_bool a t' b
  | int b=>let⟨t,rfl⟩:=rx;show SeqAt.EqAt.int_int a t' b t
  | str b=>let⟨t,rfl⟩:=rx;show SeqAt.EqAt.int_str a t' b t
  | _=>show nι
 | str a=>
  let⟨t',rfl⟩:=ry;cases x with
  | fD=>cases rx;show SeqAt.EqAt.str_none a t'
  | bl b=>cases rx;show SeqAt.EqAt.str_bool a t' b
  | int b=>let⟨t,rfl⟩:=rx;show SeqAt.EqAt.str_int a t' b t
  | str b=>let⟨t,rfl⟩:=rx;show SeqAt.EqAt.str_str a t' b t
  | _=>show nι
 | _=>show absurd (show cω from fy) bn
def zf:gz X hĕ (λxs H Q=>cM λp ys=>d6 (eĻ) nô kĻ):=by intro aj s σ H xs us Q I r h;let⟨p,ys,rfl,hq,q⟩:=h;let⟨u,rfl,rx⟩:=Ģ;cases rx;have hn:=uB;obtain hq | hq:=hq;let⟨its,r',pl,hz⟩:=cï;have df:=r'.length;show Calls.call_len_list pl.isList jϛ pĵ;let⟨its,r',pl,hz⟩:=cο;have df:=r'.length;show len_tuple pl jϛ pĵ
def ze:gz X ό (λxs H Q=>cM λp ys=>d6 (eĻ) nô oϮ):=by
 intro aj s σ H xs us Q I r h;let⟨p,ys,rfl,hq,q⟩:=h;let⟨u,rfl,rx⟩:=Ģ;cases rx;have fin: ∀ (its:ã),cR ys its ->iϙ -> ∀ (h':Heap) (c':Nat),(∀b o',fĉ=some o' ->hς) ->lì=some {cls:= eď,dict:=none,data:= .seq its.toArray c',slots:= #[]} ->EP X aj σ Q kΕ hΑ:=λits r' hz h' c' kp e=>#[jϓ,_,I.laid (t':=s.toks) kp õ (show fm X.prog X.w _ h' _ cć from#[hz,its,c',r',e]),rfl,kΡ]
 obtain hq | hq:=hq;let⟨its,r',pl,hz⟩:=cï;have df:=r'.length;let⟨o,ho,hc,n,hd⟩:=pl.isList;show call_list_seq p ũ ho hc hd oę pÙ;let⟨its,r',pl,hz⟩:=cο;have df:=r'.length;let⟨o,ho,hc,n,hd⟩:=pl;show call_list_seq p (ĸ) ho hc hd oę pÙ
def vY:gz X Ϛ (λxs H Q=>cM λp ys=>eĻ /\ ((fĩ /\ oΝ) \/ (fĪ /\ Q bİ H))):=by
 intro aj s σ H xs us Q I r h;let⟨p,ys,rfl,h⟩:=h;let⟨u,rfl,rx⟩:=Ģ;cases rx;rcases h with⟨hq,q⟩ | ⟨hq,q⟩
 let⟨its,r',pl,hz⟩:=cï;have df:=r'.length;exact call_tuple_list pl.isList (λh' kp=> ?_) pÙ;have I1:mϰ:=I.kept (t':=s.toks) kp;have I2:Inv X aj σ (dB H h'.objs.size cĉ) {s with heap:=h'.push {cls:= fā,data:= hĖ}}:=I1.laid (t':=s.toks) (gι) õ (show fm X.prog X.w _ _ _ cĉ from#[hz,its,r',wo.new _ _]);show#[hΨ,_,I2,rfl,q _ (iĐ)];let⟨its,r',pl,hz⟩:=cο;show call_tuple_same pl #[aī,H,I,rfl,q]
def tyV (K:iQ)(T:String)(x:V)(H:Hp):Prop:=match x with
 | aĩ=>T= "str"
 | aĨ=>T= "int"
 | aī=>(T= ÿ /\ ∃xs,dĢ) \/ (T= aϑ /\ ∃o,d6 (K.lookup p=ą) (jĎ) (dü)) \/(T= aı /\ ((∃kvs,H p=ϊ) \/ ∃kvs,H p=some cý)) \/ (T= "set" /\ ∃S n,H p=some (.set S n))
 | _=>False
def RK {σ:St}(I:ϙ)(r:bġ)(ty:tyV X.K T x H): eĸ /\ ∀a,v= Ā -> ∃ob,fü=Ğ /\ eļ:=by
 cases x with
 | str z=>let⟨t,rfl⟩:=r;cases (show T= "str" from ty);show#[typeIs_str s z t,λ_ e=>nomatch e]
 | int i=>let⟨t,rfl⟩:=r;cases (show T= "int" from ty);show#[typeIs_int s i t,λ_ e=>nomatch e]
 | ref p =>
  cases r;rcases ty with⟨rfl,xs,hq⟩ | ⟨rfl,o,hk,hc,hd⟩ | ⟨rfl,hk⟩ | ⟨rfl,S,n,hk⟩
  let⟨its,_,pl,_⟩:=cï;exact#[pl.isList.typeIs,λa e=> ?_];cases e;let⟨o,n,e,c,hd,_⟩:=pl;show#[o,e,hd];exact#[#[o,I.pH p o hk,hc],λa e=> ?_];cases e;show#[o,I.pH _ o hk,hd];have z: ∃o,fĨ=ą /\ o.ExactDict:=by
   rcases hk with⟨kvs,hk⟩ | ⟨kvs,hk⟩
   let⟨_,_,_,_,o,_,_,e,ex,_⟩:=dĸ;show#[o,e,ex];let⟨_,_,_,_,o,_,_,e,ex,_⟩:=dĸ;show#[o,e,ex]
  let⟨o,e,ex⟩:=z;exact lυ;cases e2;show fī;let⟨o,_,_,_,e,ex,_⟩:=dĸ;exact lυ;cases e2;show fī
 | _=>show False.elim ty
def tBM (K:iQ)(T:String)(r:lō)(to:TE)(t:TA):TE:=λσ H Q=>to σ H λx H1=>tyV K T x H1 /\ t σ H1 λxs H2=>r x xs H2 Q
variable {o e:Expr}{es:ğ}{to:TE}{t:TA}{name:Str}{f' gX:Pos}{T id:String}{r:lō}
def Ai (pa:PlainAttrs T)(slot:Slot T name id)(hty:typeOf fģ=pure (.type "method_descriptor"))(hm:MtR X id r)(ho:PE X o to)(ha:gÞ) (AQ:attributeBase o name X.env (eģ)=eģ:=by rfl) (abT:((backTo gX (kĴ)).all eĽ && pű && decide ((e::es).length+([]:fh Keyword).length+(if([]:fh Keyword).isEmpty then 0 else 1) <30))=true:=by rfl) (AO:lχ:=by rfl) (hs:pό:=by rfl) (Tx:oŖ=false:=by rfl): PE X (.Call (.Attribute o name f') aϜ [] gX) (tBM X.K T r to t):=by intro aj s σ H Q I h;exact wpAny_Call_method_late AQ abT AO rfl mđ;rintro v s1 ⟨x,H1,I1,r1,ty,q1⟩;let⟨h1,h2⟩:=RK I1 r1 ty;exact#[T,id,pa,slot,hty,h1,h2,?_];have hA:=ha gX aj s1 σ H1 _ I1 q1;rw[hs] at hA ⊢;exact Calls.callWith_builtin (by change(false || oŖ)=false;rw[Tx] <;>rfl) (Calls.evalArgs_plain ?_);show dE hA (by rintro us s2 ⟨vs,H2,I2,r2,q2⟩;exact hm aj s2 σ H2 x vs v us Q I2 r1 r2 q2)
universe e
def MtM (X:Cx)(id:String)(r:lō):Prop:=rĤ
def cR.one: ∀ {x:V} {us:ã},cR [x] us -> lâ :=by intro x us h;cases h with | cons r t=>cases t;show#[_,rfl,r]
def cR.two: ∀ {x y:V} {us:ã},cR aÍ us ->cM λu v=>d6 (us= [u,v]) (ļ) (bĽ) :=by intro x y us h;cases h with | cons r t=>cases t with | cons q t=>cases t;show#[_,_,rfl,r,q]
def Inv.Td {σ:St}{its its':ã}(I:ϙ)(hH:iĥ)(e:pϫ)(hf:f its.toArray=its'.toArray)(hv:cR ys its')(hz:iϙ): Inv X aj σ iĤ {s with heap:=s.heap.update l gå,toks:=t'}:=by have q:=PySem.IsL.update e f;rw[hf] at q;exact I.write (x:=l) (e:=l) (by rw[hH];show trivial) ũ (λb' u hb hu=>(ff s.heap gå (aZ hb)).trans hu) #[_,q] ?_;show#[hz,its',_,hv,q]
theorem Inv.abe {σ:St}(I:ϙ)(hv:cR ys its)(hz:iϙ): Inv X aj σ (dB H s.heap.objs.size cć) {s with heap:=s.heap.push {cls:= eď,data:= hĖ},toks:=t'}:=I.laid hΩ õ #[hz,its,0,hv,Ŀ]
theorem Inv.fresh {σ:St}(I:ϙ):kΥ:=hΡ
def Inv.Gh {σ:St}(I:ϙ)(hH:iĥ):Ϩ /\ cM λ dý aϔ=>d6 dĐ (xs.length=its.length) (pϫ):=by let⟨z,its,n,r,e⟩:=I.dU l _ hH;show#[z,its,n,r,r.length,e]
def JN (h:dĹ):Builtin.List.listTooLong n=false:=by unfold Builtin.List.listTooLong;show cG (by exact LqNm h)
def Et:lō:=λx vs H Q=>gm λl xs y=>jS dĺ (vs= [y]) (iĥ) jį (Q .fD (dB H l (.lst (xs++ [y]))))
def jp:MtM X fĬ Et:=by intro aj s σ H x vs v us Q I rx rv h;let⟨l,xs,y,rfl,rfl,hH,hz,q⟩:=h;cases rx;let⟨u,rfl,ru⟩:=rv.one;let⟨z,its,n,r,hl,e⟩:=aϦ;exact call_meets F.slot_list_append cΘ F.entry_list_append (F.args_list_append_2 _ _) (PySem.list_append l its.toArray n u pϣ) #[e,?_];exact#[.fD,_,I.Td (its':=its++ [u]) hH e ś (r.append gΑ) ?_,rfl,q];rw[aO,bW];exact hz
def M_:lō:=λx vs H Q=>lD λl b xs zs=>kM dĺ (vs= [aļ]) (iĥ) (H b=gæ) mϵ (Q .fD (dB H l gΒ))
def U5:MtM X "list.extend" M_:=by
 intro aj s σ H x vs v us Q I rx rv h;let⟨l,b,xs,zs,rfl,rfl,hH,hB,hz,q⟩:=h;cases rx;let⟨u,rfl,ru⟩:=rv.one;cases ru;let⟨z,its,n,r,hl,e⟩:=aϦ;let⟨z2,CU,n2,r2,TU,e2⟩:=I.Gh hB;have hsz:nõ<=sizeLine:=by rw[aU,aU];exact rÁ
 have Yr:¬(!its.toArray.isEmpty && Builtin.List.listTooLong (nõ))=true:=by rw[JN hsz,Bool.and_false];show bn
 exact call_meets F.slot_list_extend cΘ F.entry_list_extend (F.args_list_extend_2 _ _) (AutoSeq1.list_extend_list_list_0 l its.toArray n b CU.toArray n2 Yr (by rw[aU];exact Lqj ř Lq0 Lq1 (.a ν ϖ) jϜ (LqNp hz nŨ) rfl) (by exact Lqj Ĝ ι ϓ ι Lq2 hsz rfl)) #[e,e2,?_];exact#[.fD,_,I.Td (its':=its++CU) hH e ś fĭ ?_,rfl,q];rw[aO];exact hz
def W8:R2:=λx y H Q=>lD λl b xs zs=>kM dĺ dĻ (iĥ) (H b=gæ) mϵ (∀p,ń ->Q bİ (dB H p gΒ))
def Cu:sv X gπ W8:=by
 intro aj s σ H x y v u Q I rx ry h;let⟨l,b,xs,zs,rfl,rfl,hH,hB,hz,q⟩:=h;cases rx;cases ry;let⟨z,its,n,r,hl,e⟩:=aϦ;let⟨z2,CU,n2,r2,TU,e2⟩:=I.Gh hB;exact PySem.P.add_list e e2 ?_ (by rw[aU,aU];exact rÁ);have ea:its.toArray++CU.toArray=(its++CU).toArray:=by simp
 rw[ea];show#[aĽ,_,I.abe (t':=s.toks) fĭ (by rw[aO];exact hz),rfl,q _ I.fresh]
section
variable {κ:Type} [gç]
def jd (kvs:cŹ)(k:κ):fI V:=oο
def im (kvs:cŹ)(k:κ)(v:V):cŹ:=qΦ
def rX (kvs:cŹ)(k:κ):cŹ:=nũ
def tR {k:κ}(e:aÛ):dļ=bě:=by simp[jd,dC,e]
def tS {k:κ}(e:¬aÛ):dļ=jd r k:=by simp[jd,dC,e]
theorem zC (k:κ): ∀kvs:cŹ,m϶=hϊ
 | []=>rfl
 | p::r=>by rw[List.any_cons];by_cases e:aÛ;simp![tR e,cc e,Bool.true_or,Option.isSome_some];rw[tS e,cG e,Bool.false_or];show zC k r
def iY (kvs:cŹ)(k:κ)(v:V):iϚ<=eľ:=by unfold im;split;rw[ab];exact fø;rw[aO,aT,List.length_nil];exact Lqj [_] lϸ ϒ ö ö LqN0 rfl
def lI.mR (r:lI o u):o.isSome=u.isSome:=by
 cases o with
 | none=>cases u with
  | none=>rfl
  | some _=>show lå
 | some _=>cases u with
  | none=>show lå
  | some _=>rfl
def lI.getD (r:lI o u)(rd:RelV d d'):RelV (o.getD d) (u.getD d'):=by
 cases o with
 | none=>cases u with
  | none=>show rd
  | some _=>show lå
 | some _=>cases u with
  | none=>show lå
  | some _=>show r
def KV.val (r:Ŝ)(k:κ):lI (bľ) (eĿ):=by
 unfold KV at r;induction r with
 | nil=>show True.intro
 | @cons p q ps qs h t ih=>
  let⟨h1,h2⟩:=h;by_cases e:aÛ;have e':aÜ:=gΓ;have b:hϋ=some q.2:=by simp[valueAt,dC,e']
  rw[tR e,b];show h2;have e':¬aÜ:=iϛ;have b:hϋ=valueAt qs k:=by simp[valueAt,dC,e']
  rw[tS e,b];show ih
def KV.any (r:Ŝ)(k:κ):m϶=mĚ:=by
 unfold KV at r;induction r with
 | nil=>rfl
 | cons h t ih=>rw[List.any_cons,List.any_cons,ih,h.1]
def KV.Si (r:Ŝ)(k:κ)(ry:Ł): KV oϖ (vs.map λkv=>if aľ then(kv.1,u) else kv):=by
 unfold KV at r ⊢;induction r with
 | nil=>show .nil
 | @cons p q ps qs h t ih=>rw[aX,aX];exact dĽ;let⟨h1,h2⟩:=h;by_cases e:aÛ;rw[È,ak (gΓ)];show#[h1,ry];rw[É,ai (iϛ)];show bĿ
def KV.put (r:Ŝ)(k:κ)(ry:Ł):KV eŀ (stored vs k u):=by unfold im stored;rw[r.any k];by_cases e:(mĚ)=true;rw[È,È];show r.Si k ry;rw[É,É];show Paired.snoc r #[rfl,ry]
def KV.drop (r:Ŝ)(k:κ):KV (rX kvs k) (without vs k):=by
 unfold KV at r ⊢;unfold rX without;induction r with
 | nil=>show .nil
 | @cons p q ps qs h t ih=>
  let⟨h1,h2⟩:=h;rw[List.filter_cons,List.filter_cons];by_cases e:aÛ;have a:¬jϞ:=by simp[e]
  have b:¬jϟ:=by simp[gΓ]
  rw[ai a,ai b];show ih;have e':¬aÜ:=iϛ;have a:jϞ:=by simp[e]
  have b:jϟ:=by simp[e']
  rw[ak a,ak b];show .cons bĿ ih
def KV.keys {vs:dù}(r:Ŝ):gè=fĮ:=by
 unfold KV at r;induction r with
 | nil=>rfl
 | cons h t ih=>rw[aX,aX,ih,h.1]
theorem KV.length {vs:dù}(r:Ŝ):jġ:=gŹ
theorem La (kvs:cŹ)(k:κ):(rX kvs k).length<=kvs.length:=aĿ
universe e
def pG (r:fį):(cV P w).is k u=true:=by
 cases k with
 | inl i=>let⟨t,e⟩:=nţ;subst e;show At P w i t
 | inr x=>let⟨t,e⟩:=nŤ;subst e;show As P w x t
theorem xh {P:Program}{w:World}: ∀ {ks:aÐ} {us:ã},cR dľ us ->ItemsAre bĎ ks us
 | [],_,r=>by rw[List.map_nil] at r;cases r;show .nil
 | k::ks,_,r=>by
  rw[aX] at r;cases r with
  | cons h t=>show .cons (pG h) (xh t)
abbrev KT (H:Hp):fİ ->iĀ ->Prop:=Paired λp q=>pΗ
def KT.val (r:dĿ)(k:aÐ):lI (bľ) (kΦ):=by
 induction r with
 | nil=>show True.intro
 | @cons p q ps qs h t ih=>
  let⟨h1,_,h2⟩:=h;by_cases e:aÛ;have e':aÜ:=gΓ;have b:gΔ=some q.2:=by simp[atKey,dC,e']
  rw[tR e,b];show h2;have e':¬aÜ:=iϛ;have b:gΔ=atKey qs k:=by simp[atKey,dC,e']
  rw[tS e,b];show ih
def KT.Si (r:dĿ)(k:aÐ)(ry:Ł): KT H oϖ (xs.map (putAt k u)):=by
 induction r with
 | nil=>show .nil
 | @cons p q ps qs h t ih=>rw[aX,aX];exact dĽ;let⟨h1,h2,h3⟩:=h;unfold putAt;by_cases e:aÛ;rw[È,ak (gΓ)];show#[h1,h2,ry];rw[É,ai (iϛ)];show#[h1,h2,h3]
def KT.put (r:dĿ)(k:aÐ)(hb:lψ)(ry:Ł): KT H eŀ (storedH xs k b u):=by
 have e:m϶=iϜ:=by rw[zC,(r.val k).mR,Option.isSome_map]
 unfold im storedH;rw[e];by_cases q:iϜ=true;rw[ak q,ak q];show r.Si k ry;rw[ai q,ai q];show Paired.snoc r #[rfl,hb,ry]
theorem KT.keeps (r:dĿ)(ht: ∀b ys,H b=some cĉ ->H' b=some cĉ):KT H' kvs xs:=Paired.Ta r λ_ _ z=>lĿ
theorem Qb (ok:Ŭ)(e:Rd H a u):gÉ:=e.ok ok
theorem p8 (ok:Ŭ)(e:hė):qň:=
 show fm P w H h a š from Qb ok e
theorem A4 (ok:Ŭ)(e:iě):qň:=p8 ok bī
def uI (ok:Ŭ)(e:H a=some (.tup dľ)):(iā).is h ks a:=by
 let⟨_,its,r,o,h1,h2,n,h3,_⟩:=(show fm P w H h a (.tup dľ) from ok a _ e)
 show#[o,its.toArray,n,h1,h2,h3, ⇑(xh r)]
def xx (ok:Ŭ)(e:hĘ):qΒ:=by
 let⟨z,y,xs,r,o,es,ep,h1,h2,h3,h4,h5⟩:=(show fm P w H h a cý from Qb ok e)
 exact#[z,y,xs,r,o,es,ep,h1,h2,h3,h4,Ź,h5];have all: ∀ {l:fİ} {m:iĀ},KT H l m -> ∀x∈m,(iā).is h x.1 x.2.1:=by
  intro l m q;induction q with
  | nil=>intro x hx;show nomatch hx
  | @cons p q ps qs hq t ih=>intro x hx;obtain e | hx:=bŀ;subst e;show uI ok (by rw[<- hq.1];show hq.2.1);show ih x hx
 show all r x hx
theorem Y4 (ok:Ŭ)(e:iĜ):qΒ:=xx ok bī
def sQ (H:Hp)(a:gg)(y:V)(r:fI V):Prop:=(cM λkvs k=>d6 (hė) bŁ (r=bľ)) \/ gm λkvs k b=>fU (hĘ) dĻ (lψ) (r=bľ)
def LP (H:Hp)(a:gg)(y v:V)(H':Hp):Prop:=(cM λkvs k=>fU (iě) bŁ jϠ (H'=lŐ)) \/gm λkvs k b=>jS (iĜ) dĻ (lψ) jϠ (H'=dB H a (.dT (cΙ)))
theorem sQ.k {k:cL}(e:iě):sQ H a (kV k) (bľ):= .inl #[kvs,k, .inl e,rfl,rfl]
theorem LP.k {k:cL}(e:iě)(hl:iϝ):LP H a (kV k) v (lŐ):= .inl #[kvs,k,e,rfl,hl,rfl]
def Inv.big {σ:St}(I:ϙ):sysModules<s.heap.objs.size:=by have h:mainGlobals<s.heap.objs.size:=(jΨ).lt;show Nat.lt_trans ⋯ h
def GX {σ:St}(hu:gΕ)(I:ϙ)(g:sQ H a y bę)(ry:Ł)(h: ∀w' s',oÐ): wpAny Ϥ A (getItem ł u) Q E s:=by
 rcases g with⟨kvs,k,e,ey,l⟩ | ⟨kvs,k,b,e,ey,eb,l⟩
 subst ey;let⟨z,hd,vs,rel,dd⟩:=cĊ;let⟨w',hw,vJ⟩:=lI.some_of (v:=v) (o:=eĿ) lő;show wpAny_getItem_of aϧ dd.mapOf hw (iϞ);subst ey;cases mě;let⟨z,hd,xs,rel,dd⟩:=cČ;let⟨w',hw,vJ⟩:=lI.some_of (v:=v) (o:=kΦ) lő;let⟨p,hp,hp2⟩:=Option.map_eq_some_iff.mp hw;exact wpAny_getItem_heap (jϡ) (uI I.dU eb) dd hp ?_;rw[hp2];show iϞ
def OP {σ:St}(hu:gΕ)(I:ϙ)(g:cΚ)(ry:Ł)(h: ∀s',hČ ->Q (.bool dŀ) s'): wpAny Ϥ A (compareOp .NotIn u ł) Q E s:=by
 rcases g with⟨kvs,k,e,ey,l⟩ | ⟨kvs,k,b,e,ey,eb,l⟩
 subst ey;let⟨z,hd,vs,rel,dd⟩:=cĊ;exact wpAny_notIn_of aϧ hd dd.mapOf ?_;rw[<- gé, <- l];show h _ cù;subst ey;cases mě;let⟨z,hd,xs,rel,dd⟩:=cČ;exact wpAny_notIn_heap (jϡ) (uI I.dU eb) hd dd ?_;have q:=gé;rw[Option.isSome_map] at q;rw[<- q, <- l];show h _ cù
theorem p9 {σ:St}(I:ϙ)(mu:Zz (H a))(hs:lÝ)(he: jϢ)(new:fm X.prog X.w dŁ h' a ob): Inv X aj σ dŁ lγ:=I.write (x:=a) (e:=a) mu ũ (λb q hb z=>(hs.2 b hb).trans z) he new
theorem u5 (z:jď)(hd:jΝ)(rel:Ŝ)(dd:h'.DictOf bĎ a vs): fm P w H' h' a š:=#[z,hd,vs,rel,dd]
def GW {σ:St}(hu:gΕ)(I:ϙ)(g:LP H a y v H')(ry:Ł)(rv:RelV v r)(h: ∀s',hΒ ->aϘ): wpAny Ϥ A (setItem ł u r) Q E s:=by
 rcases g with⟨kvs,k,e,ey,l,eH⟩ | ⟨kvs,k,b,e,ey,eb,l,eH⟩
 subst ey eH;let⟨z,hd,vs,rel,dd⟩:=cč;have hz:iΟ:=by rw[<- rel.length];show z
 have hl:mř:=by have:=iY kvs k v;exact qļ
 exact wpAny_setItem_pairs (hsz:=hz) aϧ dd iĦ;have he: jϢ:=let ⟨q,_,_,hq,_⟩:=GV;aϨ
 show p9 I lθ hs he (u5 hl hd (rel.put k rv) GV);subst ey eH;cases mě;let⟨z,hd,xs,rel,dd⟩:=Y4 I.dU e;have hz:Ϩ:=by rw[<- Paired.length rel];show z
 have hl:mř:=by have:=iY kvs k v;exact qļ
 exact wpAny_setItem_heap (hsz:=hz) (jϡ) (uI I.dU eb) dd iĦ;let⟨q,es,ep,hq,h2,h3,h4,_,h5⟩:=GV;exact p9 I lθ hs aϨ #[hl,hd,_,(rel.put k eb rv).keeps λc ys ec=> ?_,q,es,ep,hq,h2,h3,h4,h5];rw[bS (XC ec e hď)];show ec
def GY {σ:St}(I:ϙ)(e:iě)(ry:fį)(l:hϊ=true)(h: ∀s',Inv X aj σ (dB H a (.dK (rX kvs k))) s' ->aϘ): wpAny Ϥ A (delItem ł u) Q E s:=by
 let⟨z,hd,vs,rel,dd⟩:=cč;exact wpAny_delItem_slot dd.typeIs ⋯ PySem.F.slot_dict_delitem (call_meetsIn PySem.F.slot_dict_delitem dd.typeIs PySem.F.entry_dict_delitem (PySem.F.args_dict_delitem_2 _ _) (meets_dict_delitem_pairs gτ a aϧ) #[vs,dd,by rw[<- rel.length];show z,by rw[<- gé];show l,iĦ]);have he: jϢ:=let ⟨q,_,_,hq,_⟩:=GV;aϨ
 show p9 I lθ hs he (u5 (aI (La kvs k) z) hd (rel.drop k) GV)
def Zx (i:Expr):Prop:= ∀ov iv,subscripted i false ov iv=operate [ov,iv] (getItem ov iv)
def MK {T id:String}(hl:pΞ)(hs:Zx slice)(h:wpAny Χ A (eval value env) (λo s₁=>wpAny Χ A (eval slice env) (λi s₂=>s₂.TypeIs o T /\ wpAny Χ A fĦ Q E s₂) E s₁) E s): wpAny Χ A (eval (.Subscript value slice pos) env) Q E s:=by
 exact Subscript_ (cg h (λo s₁ h₁=>cg h₁ (λi s₂ h₂=> ?_) cι) cι);let⟨hT,h₂⟩:=h₂;unfold subscriptTail;exact aÖ;rw[getitemInPython_of_ne hT.not_modules];exact ah (wpAny_specialOf hT hl ?_);have fin:wpAny Χ A (subscripted slice false o i) (λr s₃=>wpAny Χ A (letTemporaryGo value o r >>=λ_=>aĀ) Q E s₃) E s₂:=by rw[hs o i];show wpAny_operating (cg h₂ (λr s₃ h₃=>ah (wpAny_letTemporaryGo (aD h₃))) cι)
 first
 | show dł
 | show ah (dł)
 | show ah fin
def A6 {σ:St}(I:ϙ)(g:cΚ):lî :=by
 rcases g with⟨kvs,k,e,_,_⟩ | ⟨kvs,k,b,e,_,_,_⟩
 let⟨_,_,vs,_,dd⟩:=cĊ;show dd.typeIs;let⟨_,_,xs,_,dd⟩:=cČ;show dd.typeIs
def PF (td ty:TE):TE:=λσ H Q=>td σ H λx H1=>ty σ H1 λy H2=>cM λa v=>d6 Ÿ (sQ H2 a y bę) (Q v H2)
def DY (ty td:TE):TE:=λσ H Q=>ty σ H λy H1=>td σ H1 λx H2=>cM λa o=>d6 Ÿ (sQ H2 a y o) (Q (.bl dŀ) H2)
def P8 (td ty tv:TE):TS:=λD σ H=>tv σ H λv H1=>td σ H1 λx H2=>ty σ H2 λy H3=>cM λa H4=>d6 Ÿ (LP H3 a y v H4) (D.nx σ H4)
def P9 (td ty:TE):TS:=λD σ H=>td σ H λx H1=>ty σ H1 λy H2=>gm λa kvs k=>jS Ÿ (H2 a=ϊ) bŁ (hϊ=true) (D.nx σ (dB H2 a (.dK (rX kvs k))))
def fP (hu:hό)(ho:cĎ)(hi:cď)(hs:Zx i):PE X jĚ (PF td ty):=by intro aj s σ H Q I h;exact MK PySem.F.slot_dict_getitem.lookup hs qį;rintro iv s2 ⟨y,H2,I2,ry,a,v,ex,g,q2⟩;subst ex;obtain rfl:Μ:=rx;show#[A6 I2 g,GX hu I2 g ry λw' s3 I3 vJ=>#[v,H2,I3,vJ,q2]]
def qF (hu:hό)(hi:cď)(ho:cĎ):PC X .NotIn i o (DY ty td):=by intro aj s σ H Q I h;exact dE jğ λiv s1 ⟨y,H1,I1,ry,q1⟩=>dE lï ?_;rintro u s2 ⟨x,H2,I2,rx,a,ov,ex,g,q2⟩;subst ex;obtain rfl:Μ:=rx;show OP hu I2 g ry λs3 I3=>#[.bl (!ov.isSome),H2,I3,rfl,q2]
def mH (hu:hό)(ho:cĎ)(hi:cď)(hv:fĝ)(hs:swapsWith value (some (hύ)) pos.line X.env=cξ): PS X (.Assign [hύ] value pos) (P8 td ty tv):=by intro aj s σ H D I h;exact wpAny_Assign_Subscript (dE jħ λr s1 ⟨v,H1,I1,rv,q1⟩=>dE lï λu s2 ⟨x,H2,I2,rx,q2⟩=>dE (hi aj s2 σ H2 _ I2 q2) ?_) hs;rintro iv s3 ⟨y,H3,I3,ry,a,H4,ex,g,q3⟩;subst ex;obtain rfl:Μ:=rx;show GW hu I3 g ry rv λs4 I4=>#[σ,H4,I4,q3]
def Nd (ho:cĎ)(hi:cď):PS X (.Delete [.Subscript o i BS] pos) (P9 td ty):=by intro aj s σ H D I h;exact wpAny_Delete (wpAny_deleteEach_cons (wpAny_delete_Subscript qį));rintro iv s2 ⟨y,H2,I2,ry,a,kvs,k,ex,e,ey,l,q2⟩;subst ex ey;obtain rfl:Μ:=rx;show GY I2 e ry l λs3 I3=>wpAny_deleteEach_nil fĞ
theorem A5 (h:Heap)(hb:sysModules<h.objs.size):fm P w H (h.push nϲ) h.objs.size bł:=#[dg _,beq_eq_false_iff_ne.mpr (aZ (a7 hb)),[], .nil,Heap.DictOf.new h]
def Io:TE:=λ_ H Q=> ∀p,ń ->Q bİ hώ
theorem jC:PE X (.Dict [] [] pos) Io:=λaj s σ H Q I h=>wpAny_Dict_empty #[jϓ,_,I.laid (a:=s.heap.objs.size) (o:= .dK []) (t':=s.toks) hΩ õ hϏ,rfl,h _ (hΡ)]
def BW:dŃ ->St ->Hp ->(jϣ) ->Prop
 | [],_,H,Q=>Q [] H
 | (tk,tv)::r,σ,H,Q=>tk σ H λx H1=>tv σ H1 λy H2=>BW r σ H2 λps H3=>Q ((x,y)::ps) H3
abbrev VV:fh (V×V) ->dń ->Prop:=Paired λp q=>RelV p.1 q.1 /\ eč
def PPs (X:Cx)(pos:Pos)(keys:fh (fI Expr))(tP:ğ)(MD:dŃ):Prop:=∀ (aj:ω) (s:fk) (σ:St) (H:Hp) (Q:jϣ),ϙ ->BW MD σ H Q ->wpAny Ϥ X.A (evalPairs (pairTrees keys tP X.env pos)) (λvs s'=>cM λps H'=>d6 (hΒ) (VV ps vs) (Q ps H')) X.xe s
theorem Nf:PPs X pos [] [] []:=λaj s σ H Q I h=>pairTrees_nil_walk hΞ
theorem Ji (hk:PE X k tk)(hv:PE X v tv)(hr:PPs X pos ks vs MD): PPs X pos (ù::ks) (aÝ) ((tk,tv)::MD):=λaj s σ H Q I h=>pairTrees_cons_walk (dE (hk aj s σ H _ I h) (by rintro u s1 ⟨x,H1,I1,rx,q1⟩;exact dE (hv aj s1 σ H1 _ I1 q1) (by rintro w2 s2 ⟨y,H2,I2,ry,q2⟩;exact dE (hr aj s2 σ H2 _ I2 q2) (by rintro ws s3 ⟨ps,H3,I3,rel,q3⟩;exact #[(x,y)::ps,H3,I3, .cons #[rx,ry] rel,q3]))))
def lW (kvs more:ů):ů:=more.foldl (λgh kv=>im gh kv.1 kv.2) kvs
def KV.merge: ∀ {more:ů} {rs:dŅ} {kvs:ů} {vs:dŅ},KV more rs ->Ŝ ->KV (dņ) (merged vs rs):=by
 intro more rs kvs vs r;unfold KV at r;induction r generalizing kvs vs with
 | nil=>intro q;show q
 | @cons p q ps qs h t ih=>
  intro r0;have e:KV hę (stored vs q.1 q.2):=by have:=r0.put p.1 h.2;rw[<- h.1];show this
  show ih e
theorem nK: ∀ (more kvs:ů),(dņ).length<=kvs.length+more.length
 | [],kvs=>by change kvs.length<=kvs.length+0;exact Lqj [_] Lq0 ϖ ö ö LqN0 rfl
 | p::r,kvs=>by have h1:=nK r hę;have h2:=iY kvs p.1 p.2;change(lW hę r).length<=_;rw[aT];exact Lqj ř Lq0 ϰ μ (.a χ ϑ) eŁ rfl
theorem vm {P:Program}{w:World}: ∀ {kvs:ů} {ws:dń},VV (kvs.map jİ) ws -> ∃rs,Carries bĎ ws rs /\ KV kvs rs
 | [],_,r=>by rw[List.map_nil] at r;cases r;show#[[],True.intro, .nil]
 | p ::kvs,_,r=>by
  rw[aX] at r;cases r with
  | @cons a b as bs h t=>let⟨rs,c,q⟩:=vm (P:=P) (w:=w) t;let⟨b1,b2⟩:=b;show#[(p.1,b2)::rs,#[pG h.1,rfl,c], .cons #[rfl,h.2] q]
def Il (MD:dŃ):TE:=λσ H Q=> ∀p,ń ->BW MD σ hώ λps H2=>H2 p=some bł /\ ∃kvs:ů,d6 (ps=kvs.map (jİ)) (kvs.length<=15) (Q bİ (dB H2 p (.dK (lW [] kvs))))
def Nm (h:PPs X pos keys tP MD)(yR:keys.all dĥ=true)(hl:keys.length=tP.length)(h0:keys≠ [])(h15:keys.length<=15):PE X (.Dict keys tP pos) (Il MD):=by
 intro aj s σ H Q I q;have hn:=I.dU.fresh (ap s.heap.objs.size);have I1:=I.laid (a:=s.heap.objs.size) (o:= .dK []) (h':=pÚ) (t':=s.toks) hΩ õ hϏ;exact wpAny_Dict_walk (knd:=fę) yR hl h0 h15 (dE (h aj _ σ _ _ I1 (q _ hn)) ?_);rintro ws s2 ⟨ps,H2,I2,rel,e,kvs,ep,lk,q2⟩;subst ep;let⟨rs,c,rk⟩:=vm (P:=X.prog) (w:=X.w) rel;let⟨z,hd,vs0,r0,dd⟩:=A4 I2.dU e;cases r0;exact#[rs,c,dd,λh' GV hs=>#[jϓ,_,?_,rfl,q2]];have hz:(lW [] kvs).length<=sizeLine:=by have h1:=nK kvs [];rw[List.length_nil] at h1;rw[c8];exact Lqj Û Lq0 (.n bĩ) ο (.a (.n 15) gΖ) (LqNp lk h1) rfl
 have he: ∃q,lì=aŀ:=let ⟨q,_,_,hq,_⟩:=GV;aϨ
 show p9 I2 lθ hs he (u5 hz hd (rk.merge .nil) GV)
structure M1 (X:Cx)(o:Expr)(m:Str)(f':Pos)(e:Expr)(gX:Pos):Prop where
 base:pĆ
 zw:((mΔ).all eĽ && pű && decide (([e]:List Expr).length+lð+oŵ <30))=true
 line:lχ
 trees:mΔ= [jĨ]
structure M2 (X:Cx)(o:Expr)(m:Str)(f':Pos)(e f:Expr)(gX:Pos):Prop where
 base:pĆ
 zw:((nö).all eĽ && pű && decide (([e,f]:List Expr).length+lð+oŵ <30))=true
 line:lχ
 trees:nö= [jĨ,(false,eval f X.env)]
def IsD (H:Hp)(a:gg):Prop:=(∃kvs,hė) \/ ∃kvs,hĘ
def yI {σ:St}(I:ϙ)(d:IsD H a): lî /\ (∀b,dø= aļ -> ∃ob,fĉ=Ğ /\ eļ) /\ jΝ:=by
 rcases d with⟨kvs,e⟩ | ⟨kvs,e⟩
 let⟨_,hd,vs,_,dd⟩:=cĊ;exact lω;cases q;let⟨ob,_,_,h1,h2,_⟩:=dd;show gΗ;let⟨_,hd,xs,_,dd⟩:=cČ;exact lω;cases q;let⟨ob,_,_,h1,h2,_⟩:=dd;show gΗ
def Uv {σ:St}(hu:gΕ)(I:ϙ)(g:cΚ)(ry:Ł)(rd:RelV d r)(h: ∀w' s',hČ ->RelV (o.getD d) w' ->Q w' s'): wpAny Ϥ A (call (.builtin "dict.get") [Ā,u,r]) Q E s:=by
 rcases g with⟨kvs,k,e,ey,l⟩ | ⟨kvs,k,b,e,ey,eb,l⟩
 subst ey;let⟨z,hd,vs,rel,dd⟩:=cĊ;exact call_meetsIn PySem.F.slot_dict_get dd.typeIs PySem.F.entry_dict_get mϷ (meets_dict_get_default gτ a aϧ hd r) #[_,dd.mapOf,iĨ];rw[l];show iϟ;subst ey;cases mě;let⟨z,hd,xs,rel,dd⟩:=cČ;exact call_meetsIn PySem.F.slot_dict_get dd.typeIs PySem.F.entry_dict_get mϷ (meetsH_dict_get_default (tupleKind gτ) a b hd r) #[jϡ,k,xs,uI I.dU eb,dd,iĨ];rw[l];show iϟ
def Ip (td ty tx:TE):TE:=λσ H Q=>td σ H λx H1=> ∃a,d6 Ÿ (IsD H1 a) (ty σ H1 λy H2=>tx σ H2 λz H3=> ∃o,sQ H3 a y o /\ Q (o.getD z) H3)
def oZ (hu:hό)(ho:cĎ)(he:PE X e ty)(hf:PE X f tx)(m:M2 X o "get" f' e f gX):PE X (.Call (.Attribute o "get" f') [e,f] [] gX) (Ip td ty tx):=by intro aj s σ H Q I h;exact wpAny_Call_method m.base m.zw m.line PySem.F.plainAttrs_dict PySem.F.slot_dict_get PySem.F.type_dict_get mđ;rintro u s1 ⟨x,H1,I1,rx,a,ex,d,q1⟩;subst ex;obtain rfl:Μ:=rx;let⟨t1,t2,_⟩:=yI I1 d;exact dŇ;rw[m.trees];exact Calls.callWith_builtin rfl (Calls.evalArgs_plain (eB (dE lñ λiv s2 iϠ=>eB (dE lò λfv s3 ⟨z,H3,I3,rz,ov,g,q3⟩=>jı))));show Uv hu I3 g ry rz λw' s4 I4 vJ=>#[_,H3,I4,vJ,q3]
universe L2
namespace Att
open PySem PySem.W PySem.Calls PyProof.Rows
def sF: ∀ (ns:ā) (vs:ã),WellAll P h vs iĩ ->fý:=by
 intro ns;induction ns with
 | nil=>intro vs w;rw[List.map_nil] at w;cases w;show .nil
 | cons n ns ih=>
  intro vs w;rw[aX] at w;cases w with
  | cons a b=>cases a;show .cons _ _ (ih _ b)
def FW {l:OpenLaw}(hn:fĲ)(Ol:l.row.toRowW.claim.pre args=true)(X5:WellAll P h RG args): gm λa vs ns=>jS (RG= [dø]) (args= [WData.list iĩ]) (ĺ=some oŶ) (fý) (eŃ):=by
 have _T:WShape.hasAll [] args [.list .int]=true:=gΘ.1;have hc:l.pre.holds [] {args:=args}=true:=gΘ.2;let⟨d,r,rfl,h1,h2⟩:=hasAllW_cons _T;obtain rfl:=hasAllW_nil h2;let⟨xs,rfl,h3⟩:=hasW_list h1;let⟨ns,rfl⟩:=items_int h3;have df:eŃ:=by
  unfold OpenLaw.pre at hc;have h4:(WTm.not (.lt (.lit (.int Ġ)) (.len (.arg 0)))).holds [] {args:= [.list (ns.map .int)]}=true:=by have h4:=(holds_andW hc).1;rw[hn] at h4;show h4
  have h5:=condW_of h4 (w_not (w_lt w_lit (w_len_list (w_arg rfl))));rw[ab] at h5;exact Nat.le_of_not_lt λq=> ?_;have q':Ġ < ((ns.length:Nat):Int):= (by exact Int.ofNat_lt.mpr q);first
  | (rw[cc q'] at h5;show absurd h5 ⋯)
  | (simp at h5;lia)
 cases X5 with
 | cons w1 w2=>
  cases w2;cases w1 with
  | list ho yR=>show#[_,_,ns,rfl,rfl,ho,sF ns _ yR,df]
theorem F6 (l:OpenLaw)(args:fh WData):l.row.toRowW.claim.post args eń args=true:=postW_of (r:=l.row.toRowW) (X:=eŅ) (show WShape.has [] eń .bool=true by first | rfl | decide | simp[WShape.has,WShape.arms,WShape.armsAll]) (show(WTm.eq .res (.lit eń)).value [] {args:=args,res:=some eń,after:=args}=some (.bool eŅ) from w_eq_bool (w_res rfl) w_lit) rfl
def Bm {l:OpenLaw}(hn:fĲ)(YI:jϤ)(call: ∀ (w:World) (s₀ s₁:fk) (mg mb:dĂ) (fa:gg) (o:Obj) (pm cd kl:fi) (a:gg) (vs:ã) (ns:ā),Ground q w6 [] XP w s₀ mg mb s₁.heap ->YP w s₁.heap ->s₁.heap.get? fa=ą ->o.data= .func (docDef d.name d.params d.body d.scope pm cd kl) ->s₁.heap.CodeRec cd d.name ->ló ->pϬ ->fý ->eŃ ->gë ->codeAny (model l.prog w) callerA nø qŹ s₁): WalkO q w6 XP YP l.row.toRowW d [] lŒ:=by intro w s₀ s₁ mg mb G Y fa o pm cd kl dV kV ho hd GA hD hmg hg args RG as Ol afZ Yf X5 yO;obtain rfl:dV= .none:=Dflts.none hD YI;obtain rfl:kV= .none:=Dflts.noKw hD;let⟨a,vs,ns,rfl,rfl,TD,KI,df⟩:=FW hn Ol X5;exact enter_call (codeAny_mono (call w s₀ s₁ mg mb fa o pm cd kl a vs ns G Y ho (fd_plain hd) GA hmg TD KI df hg) gÝ);let⟨rfl,h2,h3,h4⟩:=hq;show#[.inl #[cΜ, cΜ,[],rfl,bĭ, cΜ,F6 l _,λ_=>#[List.Pairwise.nil,λ_ hm=>(nomatch hm)]],h2,h3,h4]
universe Att
namespace L2
open PySem PySem.Spec PyProof.Rows
theorem mx: ∀ {vs:ã} {ns:ā},fý ->cR gì vs
 | _,_, .nil=> .nil
 | _,_, .cons n t h=> .cons bŃ (mx h)
def UG (H:Hp):Prop:= ∀b,ľ \/ ∃o xs,H b=kĳ
def J7 {K:iQ}(KX:K.In s₁.heap)(QK:s₁.heap.Ns mainGlobals mg)(hb:s₁.heap.Ns builtinsNs mb)(Vq: oϔ)(abI:s₁.heap.NoLimit)(hg:gë)(ha:pϬ)(hi:fý)(hl:iϐ)(hr:eŇ)(F: ∀base:Heap,cç ->kĨ ->cC P w K mg base CX k fa fd [x] sp)(YN: pÆ)(vR: ∀H:Hp,UG H ->kΧ ->sp Ļ H jĲ gÒ)(hCX: ∀H e s',CX [] H s₁ (gÒ) e s' ->False): rĂ:=by
 have rv:=mx hi;have abf:=hi.length;have core : ∀H:Hp,UG H ->kΧ ->nV P w H s₁.heap ->(∀b,H b≠none ->b=a) ->(H a≠none ->cν=none) ->rĂ:=by
  intro H hO hS dU hA hK;have FE: ∀ {b:gg} {o:Obj},kΨ ->ľ ->(gí).get? b=ą:=λe n=>KJ e n;have XA: ∀ {b:gg} {o:Obj} {es:eň} {ep:Nat},kΨ ->iΡ ->ľ:=λ{b o es ep} e d=>by
   cases q:H b with
   | none=>rfl
   | some u=>have e':b=a:=hA b gΙ;subst e';rw[ha] at e;cases e;have d':Data.seq vs.toArray _=Data.dict es ep:=d;cases d'
  have _E: ∀ {b:gg} {m:dĂ},s₁.heap.Ns b m ->(gí).Ns b m:=λ{b m} ⟨o,es,ep,e,d,r⟩=>#[o,es,ep,FE e (XA e d),d,r]
  have hKb:K.In (gí):=λb o e=>FE (KX b o e) (by
   cases q:H b with
   | none=>rfl
   | some u=>have e':b=a:=hA b gΙ;subst e';rw[hK gΙ] at e;cases e)
  have hM:Mod K mg (gí):=#[hKb,_E QK,#[mb,_E hb,Vq],let ⟨mc,h1,h2⟩:=abI;#[mc,_E h1,h2]]
  have e0:DF P w K mg (gí) callerA [] s₁ H:=#[rfl,hM,λb o e=>NG e,Nat.le_of_eq (Gy _ _),trivial,λb hb=>absurd (show gà from hb) ś,dU, .of_eq hg]
  exact codeAny_mono ((F _ hKb (_E QK)).run callerA [] s₁ H fϺ Ļ Ļ _ _ hr e0 (YN s₁ ł) hĒ (vR H hO hS)) λr s' h=> ?_;cases r with
  | error e=>show(hCX H e s' h).elim
  | ok fl =>
   cases fl with
   | next=>show eŉ
   | brk=>show eŉ
   | cont=>show eŉ
   | ret u=>
    let⟨v,H',os,bare,un,abD,r',q⟩:=h;have q':v= bĤ:=q;subst q';obtain rfl:u=Value.bool true:=r';exact#[rfl,OldK.of_keep eŊ,os,bare];cases q:H b with
    | none=>show un.keep b o e q (by intro z;show oΚ) ś
    | some u=>obtain z | ⟨ob,xs,z⟩:=hO b;rw[q] at z;cases z;have z2:=un.sJ b ob _ z;let⟨e1,_⟩:=dU b _ z;let⟨e2,_⟩:=abD b _ z2;rw[e] at e1;cases e1;show e2
 cases hk:cν with
 | some o=>have e:=KX a o hk;rw[ha] at e;cases e;exact core (cû) (λ_=> Ĵ) (.inr #[_,vs.toArray,_,hk,rfl,rfl,rfl,by rw[aU,abf];show hl, ⇑rv]) (λb u z=>by have z':(none:fI HO)=þ:=z;cases z') (λb z=>eŋ) λz=>eŋ
 | none=>exact core (λb=>if b=a then some (.nM oŶ (.lst gì)) else none) (λb=> ?_) (.inl (.inr #[oŶ,Ć])) (λb u z=> ?_) (λb z=> ?_) λ_=>hk;by_cases hb:b=a;show .inr #[_,_,ak hb];show .inl (ai hb);by_cases hb:b=a;have z':=(ak hb).symm.trans z;cases z';subst hb;show#[ha,by rw[ab];show hl,vs,_,rv,ha];have z':=(ai hb).symm.trans z;cases z';by_cases hb:b=a;show hb;show absurd (ai hb) z
def Mv {l:W.OpenLaw}{K:dň}{CX:World ->FK}{sp:World ->Sp}(hn:fĲ)(TK:dĹ)(YI:jϤ)(hr:eŇ)(hY: pÛ)(F : ∀ (w:World) (mg:dĂ) (fa:gg) (h:Heap),(cΝ).In h ->iϡ ->ló ->∃ fd:FuncData,(pÆ) /\∀base:Heap,(cΝ).In base ->kĨ ->cC l.prog w (cΝ) mg base (CX w) k fa fd [x] (sp w))(vR: ∀ (w:World) (H:Hp) (a:gg) (ns:ā),eŃ ->UG H ->ip (cΝ) H a gì ->sp w Ļ H jĲ gÒ)(hCX: ∀ (w:World) (H:Hp) (s:fk) (e:fi) (s':fk),CX w [] H s (gÒ) e s' ->False): pώ:=by exact Att.Bm hn YI λw s₀ s₁ mg mb fa o pm cd kl a vs ns G Y ho hd GA hmg TD KI df hg=> ?_;have KX:=hY w _ Y;let⟨fd,hb,hF⟩:=F w mg fa _ KX G.T.g hmg;show J7 KX G.T.g G.T.b G.T.builtins G.T.nolimit hg TD KI (aI df TK) hr hF hb (λH hO hS=>vR w H a ns df hO hS) λH e s'=>hCX w H s₁ e s'
nonrec def gl (s:Stmt):Arguments:=match s with
 | .FunctionDef _ a _ _ _ _ _ _ _ _=>a
 | _=> {posonlyargs:= [],args:= [],vararg:=none,kwonlyargs:= [],kw_defaults:= [],kwarg:=none,defaults:= []}
nonrec def fC (s:Stmt):aϙ:=match s with
 | .FunctionDef _ _ b _ _ _ _ _ _ _=>b
 | _=> []
nonrec def bm (s:Stmt):Scope:=match s with
 | .FunctionDef _ _ _ _ _ _ sc _ _ _=>sc
 | _=> {kind:= .function,names:= [],isGenerator:=false,isCoroutine:=false}
abbrev f_:FK:=λ_ _ _ _ _ _=>False
abbrev E0:XK:=gÒ
theorem Aj:mo f_ X E0:=λ_ _ _ _ _ _ _ h=>h.elim
structure Hf (K:PySem.W.Frag)(x qual:Str)(st:Stmt)(f:Addr)(fd:FuncData):Prop where
 ex:FJ λ(oc:Value) (od:dŉ) (kV kl pm:Value) (an:dŉ) (cdv ct:Value)=> ∃ (EC:Array (eĒ)),d6 (fd=PySem.W.fnOf x qual aϩ aϪ aϫ .none kV kl pm an cdv ct) (cΗ=some #[oc,od, .func fd,EC]) (PySem.W.codeIn K cdv qual=true)
 kp:mυ
def Hf.ok {K:iQ}{st:Stmt}(F:iϢ)(S:gΚ)(len: oΗ)(pQ: ∀ (cdv:fi) (A:Around) (outer:aė) (s:fk) (H:Hp) (vs:Ä) (Q:VK) (E:XK),gq k (A.deeper (envOfC qual aϫ s.heap.objs.size f cdv)) ->dī ->∃t,qÞ /\ oΜ):cC P w K mg base f_ Ü f fd ps sp:=by let⟨oc,od,kV,kl,pm,an,cdv,ct,EC,rfl,lk,GA⟩:=F.ex;exact Y1 lk GA S len λA outer s H vs Q E hr vR=> ?_;let⟨t,h,q⟩:=pQ cdv A outer s H vs Q E hr vR;show#[t,h.S1,q]
def Hf.binds {K:iQ}{st:Stmt}(F:iϢ)(h: ∀ (kV kl pm:fi) (an:aÒ) (cdv ct:fi) (us:ã),iϔ ->bindArgs pϤ bĲ=hĐ):hđ:=by let⟨oc,od,kV,kl,pm,an,cdv,ct,EC,rfl,lk,GA⟩:=F.ex;show .all (h kV kl pm an cdv ct)
theorem qQ {K:iQ}{st:Stmt}{kV kl pm cdv ct:fi}(l:cΗ=some #[oc,od, .func pϤ,EC])(c:lç)(k:lô):Hf K x qual st f pϤ:=#[#[oc,od,kV,kl,pm,an,cdv,ct,EC,rfl,l,c],k]
theorem fL (hr:aĲ):gΕ:=Nat.lt_of_le_of_lt (Nat.add_le_add_left (by decide:1<=64) _) hr.units
theorem pv {X:Cx}(i:Nat){pos:Pos}(hN:gſ:=by rfl)(hv:hυ:=by first | show Or.inl rfl | show Or.inr eŌ | show Or.inr (Or.inr rfl))(hd:ϸ:=by decide)(GA:nĨ:=by decide):lń:=Sx hN hv hd GA
def gy (H H':Hp):Prop:= mϸ
section
variable {κ:Type} [gç]
theorem EE: ∀ {l:fh κ} {k:κ},l.Nodup ->¬k∈l ->(l++ [k]).Nodup
 | [],k,_,_=>by simp
 | a::r,k,h,hk=>by let⟨h1,h2⟩:=bN.mp h;change(a::(r++ [k])).Nodup;exact bN.mpr #[λm=> ?_,EE h2 λm=>hk (az.mpr (Or.inr m))];obtain q | q:=ay.mp m;show h1 q;show hk (az.mpr (Or.inl (ae.mp q).symm))
universe e
def dG {α:Type}{c:α}{l:fh (Str×α)}:((y,c)::l).lookup x=if x=y then aĘ else l.lookup x:=by by_cases h:x=y;subst h;simp[List.lookup_cons];rw[Æ,List.lookup_cons];have:(x==y)=false:= ⇑h;rw[this]
theorem li {env:Env}: ∀ (names:iĪ) (gh:eō),(∀y∈names,oϗ) ->(∀x c,dŊ=aĘ ->lŀ) ->∃cl,fU ((forIn names gh λx s=>if(x.snd==NameKind.free)=true then(do let c <- cellOf env x.fst;pure (ForInStep.yield ((x.fst,c)::s)):Sem _) else pure (ForInStep.yield s))=(pure cl:Sem (eō))) pň (∀x,(dŊ).isSome=true ->(dŋ).isSome=true) (∀y∈names,oĚ)
 | [],gh,_,h2=>#[gh,rfl,h2,λ_ h=>h,lœ]
 | (n, k)::r,gh,h1,h2=>by
  by_cases hk:k=NameKind.free;subst hk;let⟨c,hc⟩:=h1 (n, .free) aQ rfl;have Mj: ∀x c',((n,c)::gh).lookup x=some c' ->iĆ=some c':=λx c' e=>by rw[dG] at e;by_cases hx:x=n;rw[ak hx] at e;cases e;rw[hx];show hc;rw[aÞ] at e;show h2 x c' e
  let⟨cl,e1,e2,e3,e4⟩:=li r ((n,c)::gh) lõ Mj;exact#[cl,?_,e2,λx hx=>e3 x ?_,gî];rw[List.forIn_cons];have:cellOf env n=pure c:=by unfold cellOf;rw[hc]
  simp![beq_self_eq_true,b_,this,pure_bind];show e1;rw[dG];by_cases gQ:x=n;rw[ak gQ];rfl;rw[ai gQ];show hx;obtain rfl | hy:=bń;exact e3 n ?_;rw[dG,Ć];rfl;show e4 y hy hf;let⟨cl,e1,e2,e3,e4⟩:=li r gh lõ h2;exact#[cl,?_,e2,e3,gî];rw[List.forIn_cons];have:(hĚ)=false:= ⇑hk;simp![this,aF,bw,pure_bind];show e1;obtain rfl | hy:=bń;show absurd hf hk;show e4 y hy hf
def lg (h: ∀y∈scope.names,oϗ): ∃cl,d6 (closureFor scope env=pure cl) pň (pδ):=by let⟨cl,e1,e2,_,e4⟩:=li scope.names [] h (λ_ _ e=>by simp at e);exact#[cl,?_,e2,e4];simp![closureFor];rw[e1,pure_bind]
theorem jy {env:Env}: ∀ {names:iĪ} {x:Str} {k:NameKind},rÛ=ù ->gï=ù \/ (k= .cell /\ gï=cε)
 | [],_,_,h=>by simp at h
 | (n, j)::r,x,k,h=>by
  have ih:= @jy env r x k;rw[aX] at h;by_cases hc:qě;simp![hc,b_] at h;rw[dG] at h;rw[dG];by_cases hx:x=n;rw[ak hx] at h ⊢;cases h;have hj:j=NameKind.free:=by rw[Bool.and_eq_true,Bool.and_eq_true] at hc;show eq_of_beq hc.1.1
  show .inr #[rfl,by rw[hj]];rw[aÞ] at h ⊢;show ih h;simp![hc,aF,bw] at h;rw[dG] at h;rw[dG];by_cases hx:x=n;rw[ak hx] at h ⊢;show aĠ;rw[aÞ] at h ⊢;show ih h
theorem jj {env:Env}: ∀ {names:iĪ} {x:Str},gï=cε ->rÛ=cδ \/rÛ=cε
 | [],_,h=>by simp at h
 | (n,j)::r,x,h=>by have ih:= @jj env r x;rw[aX];rw[dG] at h;by_cases hc:qě;simp![hc,b_];rw[dG];by_cases hx:x=n;rw[ak hx];show Ĵ;rw[aÞ] at h ⊢;show ih h;simp![hc,aF,bw];rw[dG];by_cases hx:x=n;rw[ak hx] at h ⊢;cases h;show ĸ;rw[aÞ] at h ⊢;show ih h
abbrev bX (X:Cx)(N':Ĉ)(scope:Scope)(cl:eō)(fp:å)(s3:fk)(H3:Hp):Cx:={X with N:=N',s₀:=s3,H₀:=H3,env:=oĺ,outer:=X.stack,stack:=X.stack,ex:=fp,fn:=λ_=>false,pn:= [],xe:=eĚ}
def lH (own:Nat)(fr:ċ)(σ:St):St:=kΩ++fr.map λj=>fĳ
structure dq (X:Cx)(own:bĖ)(fr:bô)(N':bĖ)(scope:Scope):Prop where
 kind:jϥ
 names:N'=own++mÆ
 len:mΕ
 nd:N'.Nodup
 uw: mϹ
 loc: qÀ
 Vw: ∀x∈mÆ,mϺ
 free: ∀y∈scope.names,cΞ ->hě=cδ \/ hě=cε
theorem pU {N:Ĉ}: ∀ {fr:ċ} {k:Nat} {x:Str},(lŔ).length=fr.length ->(lŔ)[k]? =û -> ∃j,fr[k]? =aķ /\ N[j]? =û
 | [],_,_,_,e=>by simp at e
 | j ::r,k,x,hl,e=>by
  cases hj:N[j]? with
  | none=>rw[List.filterMap_cons,hj] at hl;have:=List.length_filterMap_le eŎ r;simp![aT] at hl;lia
  | some y=>
   rw[List.filterMap_cons,hj] at hl e;simp![aT,Nat.add_right_cancel_iff] at hl;cases k with
   | zero=>simp at e;show#[j,by simp,by rw[hj,e]]
   | succ k=>show pU (k:=k) hl Å
def AI {σ:St}{fp:å}(S:jĳ)(I:ϙ)(oJ: pŉ)(pO: pδ)(yQ: jώ)(TW: mĜ)(QK:h'.Ns s.heap.objs.size (cû))(hk: oϘ): Inv (bX X N' scope cl fp s H) [] jϦ H {s with heap:=h',toks:=t}:=by
 have look: ∀x,(compEnvC scope cl s.heap.objs.size X.env).kindOf x=(iϤ).names.lookup x:=bĭ
 have YW:(mÆ).length=fr.length:=by have:=S.len;rw[S.names,aO] at this;exact LqNx (Lqj Ĝ Lq0 Lq1 υ τ dŌ rfl) (Lqj Ĝ Lq0 Lq1 υ τ dį rfl)
 exact#[#[I.ok.mod,?_,I.ok.glob,I.ok.blt,Â,λx y c e1 e2=>I.ok.inj x y c (oJ _ _ e1) (oJ _ _ e2),Ź,(λx c z _=>nomatch z),I.ok.hd,I.ok.frames, Ĵ,λb hb=>#[?_,oŷ],I.bs,gψ,λb o e hb=> ?_,λb hb hz=> ?_,I.stack,I.D7],
  rfl,I.bare,Un.kept hk,#[_,QK,jΦ],eė,hΡ,λx c e=>I.jI x c cΟ,pΜ,I.dU.kept hk,?_]
 change(iϤ).kind=_
 show S.kind
 have gQ:mϺ:=by obtain hx | hx:=hx;obtain q | ⟨_,q⟩:=jy hx;show absurd rfl (S.uw _ (eT q));show q;obtain q | ⟨q,_⟩:=jy hx;show q;cases q
 show Option.isSome_iff_exists.mp (pO _ (eT gQ) rfl)
 show a7 (TW b hb)
 obtain z | z:=gΜ.1
 show I.ok.JO b o e z
 show absurd (b7 aĚ (aI I.ok.Mq z)) aĔ
 obtain q | q:=az.mp (I.B8 b hz)
 show dō.1 q
 show dō.2.1 q
 -- a aba value
 have e1:(own++mÆ)[i]? =û:=by rw[<- S.names];show e1
 unfold lH at e2
 by_cases hi:eŏ
 rw[bĸ,List.getElem?_replicate,ak hi] at e2
 cases e2
 rw [bķ,List.length_replicate] at e2
 rw[bķ] at e1
 let⟨j,ej,ex⟩:=pU YW e1
 rw[aE,ej] at e2
 have e2:fĳ=ă:= ⇑e2
 have e2':σ[j]? =fĈ:=by
  cases q:σ[j]? with
  | none=>rw[q] at e2;cases e2
  | some w=>rw[q] at e2;simp at e2;rw[e2]
 have hf:=S.Vw x (au e1)
 have hm:=eT hf
 let⟨m,_,hl⟩:=I.loc
 have vis:hυ:=by obtain q | q:=gΝ;show .inr (aě);show .inr (.inr q)
 let⟨u,r,l⟩:=hl j x v ex e2' vis
 exact#[u,r, .inr bŅ]
 show jj hf
 rcases l with⟨k,_⟩ | ⟨_,c,ec,z⟩
 obtain q | q:=gΝ
 rw[k] at q;cases q
 rw[k] at q;cases q
 let⟨c',ec'⟩:=Option.isSome_iff_exists.mp (pO _ hm rfl)
 have:=oJ _ _ ec'
 rw[ec] at this
 cases this
 show#[c,ec',z.keeps hk]
 let⟨v,z⟩:=I.cell x c cΟ
 show#[v,z.keeps hk]
 change(iϣ).length=N'.length
 unfold lH
 rw[aO,List.length_replicate,ab,S.len]
def LB (X:Cx)(cs:ğ)(t:TT):Prop:=∀ (aj:ω) (s:fk) (σ:St) (H:Hp) (Q:hĀ),ϙ ->bğ ->wpAny Ϥ X.A (forIn cs true λc r=>if r=true then do let ok <- isTrue c X.env (eŐ);lŕ else lø) gÐ X.xe s
def We:TT:=λ_ H Q=>Q true H
theorem d9:LB X [] We:=λaj s σ H Q I h=>wpAny_tests_nil #[H,I,h]
theorem oX (h:PT X c t):LB X [c] t:=λaj s σ H Q I q=>wpAny_tests_one (h aj s σ H Q I q)
theorem G2 (I:gΞ)(turn : ∀n s,aß ->wpAny Χ A (cĐ) (λr s₁=>match r with
   | none=>iĬ
   | ă=>wpAny Χ A (letOwnedTupleGo qw it v) (λ_ s₀=>wpAny Χ A (assign qw env v) (λ_ s₂=>
    wpAny Χ A (rÄ) rī ύ s₂)
    ύ s₀) ύ s₁) ύ s)(n:Nat)(h:aß):codeAny Χ A (.compLoop oŗ 0 it gh env) R s:=by
 exact oÑ
 change wpAny _ A ((compTurn oŗ 0 it gh env).onRaise oŸ) _ _ s
 exact gð
 rw[compTurn_list]
 exact qĜ
 cases r with
 | none=>show aD h₁
 | some v=>
  exact pÜ;exact pÝ;exact pĚ;cases Xv with
  | false=>show gñ
  | true=>show qϭ
def Wk (σ0 σ2:St):Prop:=σ2.length=σ0.length /\ ∀ (i:Nat) v,σ0[i]? =fĈ ->σ2[i]? =fĈ
def LR (own:Nat)(g:TG):Prop:= ∀ (c:St) (v:V) (H:Hp) (Q:Ω),g v mĝ H Q ->g v mĝ H λσ2 H2=>Wk mĝ σ2 /\ Q σ2 H2
def fH:LR 1 (lx 0):=by
 intro c v H Q h;exact#[kϊ,h];cases i with
 | zero=>simp at e
 | succ i=>simpa using e
def iC {K:iQ}:LR 2 (OG K 2 (xn (lx 0) (xn (lx 1) OH))):=by
 rintro c v H Q ⟨a,xs,e,hs,hl,x,r,rfl,y,r',rfl,rfl,h⟩;exact#[a,_,e,hs,hl,x,_,rfl,y,_,rfl,rfl,kϊ,h];match i with
 | 0=>simp at e
 | 1=>simp at e
 | i+2=>simpa using e
def Ri (J:It)(own:Nat)(fr:ċ)(g:TG)(tc:TT)(te:TE)(σ:St)(p:gg)(H1:Hp)(Q:VK):Prop:=∃ W :mĞ,nμ /\ ∀i m ys H',dŐ ->H' p=gò /\(mΖ \/ (J.go i H' /\ ys.length<sizeLine /\ ∀x H2,gó ->g x gô H2 λσ2 H3=>tc σ2 H3 λb H4=>if ò then te σ2 H4 λy H5=> ∃zs,H5 p=gæ /\ iĭ /\ ∃m',m'<m /\ W ß m' (zs++ [y]) (dB H5 p (.lst (zs++ [y]))) else nĭ))
def Ir (wi:TI)(own:Nat)(fr:ċ)(g:TG)(tc:TT)(te:TE):TE:=λσ H Q=>wi σ H λJ H1=> ∀p,cā ->Ri J own fr g tc te σ p H1 Q
theorem mX {σ:St}{σ':St}(I3:hĜ)(yQ: jώ)(Ic:Inv (bX X N' scope cl fp s3 H) Ey σ' H' s'):hΒ:=I3.Zj (ch:=fp) Ic.os Ic.base Ic.dU Ic.bare λb hb=>#[gΜ.1,dō.1,gΜ.2.1,gΜ.2.2]
def mW {σ:St}{C:gg}{σ':St}(I3:hĜ)(hC:C=s3.heap.objs.size)(J:iċ)(hn:H' C=none)(hs:Heap.SameBut C s'.heap h'):Inv X aj σ' H' {s' with heap:=h'}:=by subst hC;exact J.turned (t':=s'.toks) (it:=s3.heap.objs.size) (λb o hb e=>hs.extBut b o hb e) hn (iĮ) (.inr I3.sz) (gÔ) fĔ;let⟨v,q⟩:=I3.cell x c e;show absurd q.lt jĵ;show absurd (aM (I3.pin p hp).1) jĵ
def vj {σ:St}{RR:mğ}(jH:Ŷ)(S:jĳ)(hg: oπ)(hw:gΡ)(hc: oΞ)(he: oΟ)(oJ: pŉ)(pO: pδ)(I:ϙ)(T:mϱ)(st:dő)(yQ: jώ)(h: ∀p,ń ->Ri J own.length fr g tc te σ p H Q)(fin: rĬ): wpAny Ϥ X.A eő (λgh s₃=>wpAny Ϥ X.A qú (λLk s₄=>codeAny Ϥ X.A (.compStart oŘ 0 cî gh nΨ) hϑ s₄) E s₃) E s:=by
 exact dY ?_;have hf:kΥ:=hΡ;let⟨W,dė,turn⟩:=h _ hf;generalize e3:qŤ=s3;have RW:nΩ:=by rw[<- e3];show dR ..
 have up3: pć:=λb o e=>by rw[<- e3];show aĤ
 have I3:pÇ:=by rw[<- e3];show qß
 have Uf: mĜ:=λb hb=>by let⟨o,e,_⟩:=hϒ;show Ç
 have C6: pĮ:=pϚ
 exact qĎ;have old: pÞ:=oŹ;have Ic:=qŻ;have FS:tn 0 h₁:=oϯ;have tZ: qϞ:=λhn b hb=>by exact rÆ;change jϨ;rw[RW];show a7 (eŒ);show fĴ
 have loop:codeAny Ϥ X.A (.compLoop oŘ 0 cî kΕ (oĺ)) oϙ pε:=by
  exact G2 rČ ?_ m0 oÒ;rintro n s4 ⟨i,ys,H4,I4,gZ,OJ,w4⟩;let⟨GF,alt⟩:=hϓ;rcases alt with⟨stop,q⟩ | ⟨go,hsz,step⟩
  .exact rÐ;rintro r s5 ⟨hr,I5⟩;subst hr;show pζ
  exact rË;rintro r s5 ⟨u,hr,h5⟩;subst hr;exact dE h5 ?_;rintro _ s6 ⟨x,H6,I6,r6,y6,RZ,fr6⟩;have I6':=nį;have PK:=lΒ;exact oĻ;rintro _ s7 ⟨σ7,H7,I7,wk,q7⟩;have again: ∀ {H9:Hp} {s9:fk} {Rt:Ä},Inv Ϻ iϥ σ7 H9 s9 ->rğ:=λ{H9 s9 Rt} I9 gõ=>by exact#[m',hm,i+1,Rt,H9,eœ ?_ wk.2,qÈ,ŷ,w9];show wk.1.symm;let⟨o,e,d⟩:=hϔ;show oř
  exact nξ;rintro ok s8 ⟨H8,I8,q8⟩;cases ok with
  | false=>simp![aF,bw] at q8 ⊢;let⟨zs,q8⟩:=q8;show again I8 q8
  | true=>simp![b_] at q8 ⊢;exact dE (he s3 _ _ s8 σ7 H8 _ I8 q8) ?_;rintro y s9 ⟨yv,H9,I9,ry,zs,hp9,hz9,q9⟩;exact dE (jp _ s9 σ7 H9 kΕ [yv] kΕ [y] (λv H'=>H'=dB H9 s.heap.objs.size (.lst (zs++ [yv]))) I9 rfl gΥ #[_,zs,yv,rfl,rfl,hp9,hz9,rfl]) ?_;rintro v s10 ⟨_,VB,I10,_,e10⟩;subst e10;show again I10 q9
 show pĶ
theorem Cx.Ok.cellsOf (ok:X.Ok)(S:jĳ): ∀y∈scope.names,cΞ -> ∃c,X.env.cells.lookup y.1=aĘ:=λy hy hf=>ok.has y.1 (S.free y hy hf)
def fA (jH:Ŷ)(S:jĳ)(hi:gο)(hg: pø)(hw:gΡ)(hc: pĈ)(he: pĉ)(hs: oŔ:=by intro _;rfl):PE X oŘ mŚ:=by intro aj s σ H Q I h;let⟨cl,uN,oJ,pO⟩:=iϦ;rw[eval_ListComp];exact qϤ;let⟨it,fp,tn,J,H2,e,I2,T,m8,f2,h2⟩:=h2;subst e;exact vj (RR:=qÎ) jH S cΡ hw cΤ cΥ oJ pO I2 T m8 f2 h2 ?_;intro s3 H3 I3 f3 D σ' H' s' t hD Ic q;let⟨m,hn,_⟩:=Ic.loc;exact oÔ;show nŪ
def n_ {pos FT jU:Pos}(jH:Ŷ)(hN:X.N.Nodup)(hx:gſ)(hl:hψ)(S:jĳ)(hi:gο)(hg: pø)(hw:gΡ)(hc: pĈ)(he: pĉ)(hsw:swapsWith oŘ iΨ FT.line X.env=pure true)(hs: oŔ:=by intro _;rfl)(hf:pĩ:=by first | show Ĵ | show ĸ | assumption):PS X (.Assign [cς] oŘ FT) (FP mŚ aĢ):=by
 intro aj s σ H D I h;let⟨cl,uN,oJ,pO⟩:=iϦ;rw[nİ];exact lΓ;change wpAny _ X.A (do let _ <- comprehension oŘ scope X.env _ eő false hΗ (nú)) _ _ s;exact rĠ;let⟨it,fp,tn,J,H2,e,I2,T,m8,f2,h2⟩:=h2;subst e;exact vj (RR:=qϓ) jH S cΡ hw cΤ cΥ oJ pO I2 T m8 f2 h2 ?_;intro s3 H3 I3 f3 Da σ' H' s' t hD Ic q;let⟨m,hn,_⟩:=Ic.loc;have I5:=dŒ;change pŗ;exact qŰ;let⟨a,sb,ha⟩:=Og;have cS:jϩ:=by obtain rfl | ha:=ha;show iĮ;let⟨v,z⟩:=gö;show hϕ
 exact pϥ
set_option genInjectivity true in
inductive Dt where
 | fD | bl (b:Bool) | int (i:Int) | str (x:Str) | tup (l:List Dt) | lst (l:List Dt)
mutual
def Rep (K:iQ)(H:Hp):Dt ->V ->Prop
 | .fD,v=>v= .fD
 | ä,v=>v= ä
 | Ă,v=>v= Ă
 | aē,v=>v= aē
 | Č,v=>cM λa vs=>d6 dĔ (dœ) (dŔ)
 | aŁ,v=>cM λa vs=>d6 dĔ (ip K H a vs) (dŔ)
def iF (K:iQ)(H:Hp):aà ->Ä ->Prop
 | [],vs=>vs= []
 | d::r,vs=>cM λv t=>d6 (vs=v::t) (dŕ) (iF K H r t)
end
mutual
def uV:Dt ->Dt ->Bool
 | .fD, .fD=>true
 | .bl a, ä=>a==b
 | .bl a, aĹ=>kΤ
 | aĺ, ä=>a==jĮ
 | aĺ, aĹ=>a==b
 | .str a, .str b=>a==b
 | .tup a, .tup b=>yW a b
 | .lst a, .lst b=>yW a b
 | _,_=>false
def yW:aà ->aà ->Bool
 | [],[]=>true
 | aÂ,y::ys=>uV x y && yW xs ys
 | _,_=>false
end
mutual
def oB:Dt ->Nat
 | Č=>kD l+1
 | aŁ=>kD l+1
 | _=>0
def kD:aà ->Nat
 | []=>0
 | d::r=>max (oB d) (kD r)
end
theorem iF.length {K:iQ}{H:Hp}: ∀ {l:aà} {vs:Ä},dŔ ->l.length=vs.length
 | [],_,h=>by simp![iF] at h;subst h;rfl
 | d::r,vs,h=>by simp![iF] at h;let⟨v,t,rfl,_,h⟩:=h;simp[iF.length h]
theorem iF.at {K:iQ}{H:Hp}: ∀ {l:aà} {vs:Ä} {j:Nat} {d:Dt},dŔ ->fĵ -> ∃v,gø /\ dŕ
 | [],_,_,_,_,e=>by simp at e
 | d::r,vs,j,d',h,e=>by
  simp![iF] at h;let⟨v,t,rfl,h1,h⟩:=h;cases j with
  | zero=>simp at e;subst e;show dŖ
  | succ j=>simpa using iF.at (j:=j) h Å
theorem pZ: ∀ {l:aà} {d:Dt},d∈l ->oB d<=kD l
 | [],_,h=>by simp at h
 | x::r,d,h=>by simp![kD];obtain rfl | h:=aϠ;show iϧ;show aI (pZ h) kĞ
theorem k9: ∀ (a b:aà),yW a b=((List.range (min a.length b.length)).all (λj=>uV (a.getD j .fD) (b.getD j .fD)) && a.length==b.length)
 | [],[]=>rfl
 | [],y::ys=>by simp[yW]
 | aÂ,[]=>by simp[yW]
 | aÂ,y::ys=>by
  have e:min gù gú=min xs.length ys.length+1:=by simp![aT];lia
  rw[yW,k9 xs ys,e,List.range_succ_eq_map,List.all_cons,List.all_map];have e2:(gù==gú)=(xs.length==ys.length):=by simp
  rw[e2,Bool.and_assoc];rfl
mutual
theorem kA: ∀d:Dt,uV d d=true
 | .fD=>rfl
 | ä=>by simp[uV]
 | Ă=>by simp[uV]
 | aē=>by simp[uV]
 | Č=>by simp![uV];show qR l
 | aŁ=>by simp![uV];show qR l
theorem qR: ∀l:aà,yW l l=true
 | []=>rfl
 | aÂ=>by simp![yW,kA x,qR xs,Bool.and_self]
end
def Un.sqT {K:iQ}(h: oς)(q:dď):jT K H' a xs:=by obtain q | q:=q;show .inl (h _ _ q);show .inr q
section
variable {X:Cx}{aj:ω}{σ:St}{H:Hp}{s:fk}
mutual
theorem Rep.inj (I:ϙ): ∀ (d e:Dt) (v:V),Rep X.K H d v ->Rep X.K H e v ->d=e
 | .fD,e,v,h1,h2=>by simp![Rep] at h1;subst h1;cases e<;>simp![Rep] at h2<;>first | rfl | (cases h2;done) | (let⟨_,_,q,_⟩:=h2;cases q)
 | ä,e,v,h1,h2=>by simp![Rep] at h1;subst h1;cases e<;>simp![Rep] at h2<;>first | (cases h2;rfl) | (cases h2;done) | (let⟨_,_,q,_⟩:=h2;cases q)
 | aĹ,e,v,h1,h2=>by simp![Rep] at h1;subst h1;cases e<;>simp![Rep] at h2<;>first | (cases h2;rfl) | (cases h2;done) | (let⟨_,_,q,_⟩:=h2;cases q)
 | .str b,e,v,h1,h2=>by simp![Rep] at h1;subst h1;cases e<;>simp![Rep] at h2<;>first | (cases h2;rfl) | (cases h2;done) | (let⟨_,_,q,_⟩:=h2;cases q)
 | Č,e,v,h1,h2=>by
  simp![Rep] at h1;let⟨a,vs,rfl,hs,hr⟩:=h1;cases e<;>simp![Rep] at h2<;>first | (cases h2;done) | skip
  let⟨a',V4,q,i0,qP⟩:=h2;cases q;have:=I.qv hs i0;subst this;rw[jϪ];let⟨a',V4,q,i0,qP⟩:=h2;cases q;let⟨its,_,ht,_⟩:=cΦ;let⟨its',_,hl,_⟩:=cē;show pŊ
 | aŁ,e,v,h1,h2=>by
  simp![Rep] at h1;let⟨a,vs,rfl,hs,hr⟩:=h1;cases e<;>simp![Rep] at h2<;>first | (cases h2;done) | skip
  let⟨a',V4,q,i0,qP⟩:=h2;cases q;let⟨its,_,ht,_⟩:=cΧ;let⟨its',_,hl,_⟩:=cĔ;show pŊ;let⟨a',V4,q,i0,qP⟩:=h2;cases q;have:=I.list_inj hs i0;subst this;rw[jϪ]
theorem iF.inj (I:ϙ): ∀ (l m:aà) (vs:Ä),fĶ ->iF X.K H m vs ->l=m
 | [],m,vs,h1,h2=>by
  simp![iF] at h1;subst h1;cases m with
  | nil=>rfl
  | cons _ _=>simp![iF] at h2;let⟨_,_,q,_⟩:=h2;cases q
 | d ::r,m,vs,h1,h2=>by
  simp![iF] at h1;let⟨v,t,rfl,h1,h3⟩:=h1;cases m with
  | nil=>simp![iF] at h2;cases h2
  | cons d' r'=>simp![iF] at h2;let⟨v',t',q,h4,h5⟩:=h2;cases q;rw[Rep.inj I d d' v h1 h4,iF.inj I r r' t h3 h5]
end
def iF.items (h:fĶ)(r:cR vs its)(hj:j<its.length):Rep X.K H (eŔ) (fķ) /\ RelV (fķ) its[j] /\ eŔ∈l:=by
 have e1:=h.length;have e2:=r.length;have hl:cΨ:= (by exact Nat.lt_of_lt_of_le hj (Nat.le_trans (LqNd e2) (LqNd e1)));let⟨v,hv,hr⟩:=h.at (ao hl);let⟨u,hu,ru⟩:=r.get hv;have e3:eŔ=l[j]:=by simp[List.getD,hl]
 have e4:fķ=v:=by simp[List.getD,hv]
 rw[ao hj] at hu;cases hu;rw[e3,e4];show#[hr,ru,cH hl]
def Rep.vF (I:ϙ)(h:Rep X.K H bŇ x)(r:ļ):cM λa i=>u= Ā /\ IsTup s.heap a i:=by simp![Rep] at h;let⟨a,vs,rfl,hs,hr⟩:=h;cases r;let⟨its,_,ht,_⟩:=cΦ;show#[a,_,rfl,ht]
def Rep.vO (I:ϙ)(h:Rep X.K H (aŁ) x)(r:ļ):cM λa i=>u= Ā /\ s.heap.IsList a i:=by simp![Rep] at h;let⟨a,vs,rfl,hs,hr⟩:=h;cases r;let⟨its,_,ht,_⟩:=cĔ;show#[a,_,rfl,ht.isList]
def K9 (I:ϙ)(n:Nat): ∀ (A:Around) (d e:Dt) (x y:V) (u v:fi),oB d<=n ->A.units+n<cLine ->fĸ ->fĹ ->ļ ->bĽ ->SeqAt.EqAt A s u v (ał):=by
 induction n using Nat.strongRecOn with
 | _ n ih=>
 intro A d e x y u v hn hu h1 h2 r1 r2;cases d<;>cases e;case tup.tup l m=>
  have Ue:=h1
  have Mj:=h2
  simp![Rep] at h1 h2
  let⟨a,vs,rfl,hs,hr⟩:=h1
  let⟨b,ws,rfl,i0,qP⟩:=h2
  cases r1;cases r2
  by_cases KU:a=b
  subst KU
  rw[jϫ,kA]
  show hΧ
  let⟨its,rv,ht,_⟩:=cΦ
  let⟨its',FX,pL,_⟩:=cΧ
  exact lú
  simp![uV]
  simp![oB] at hn
  match n,hn,hu,ih with
  | Ê,hn,hu,ih=>
   have z:=SeqAt.RcAt.tuples (A:=A) (s:=s) (e:=nϳ) ht pL ∅ λj g1 g2=>by let⟨q1,q2,q3⟩:=lû;let⟨q4,q5,q6⟩:=lü;exact pį;have:=pZ q3;exact qŃ;change hϖ;exact qγ
   rw[k9,hr.length,qP.length,rv.length,FX.length];simpa using z
 case lst.lst l m=>
  have Ue:=h1
  have Mj:=h2
  simp![Rep] at h1 h2
  let⟨a,vs,rfl,hs,hr⟩:=h1
  let⟨b,ws,rfl,i0,qP⟩:=h2
  cases r1;cases r2
  by_cases KU:a=b
  subst KU
  rw[jϫ,kA]
  show hΧ
  let⟨its,rv,ht,_⟩:=cĔ
  let⟨its',FX,pL,_⟩:=cē
  exact lú
  simp![uV]
  simp![oB] at hn
  by_cases hl:kļ
  match n,hn,hu,ih with
  | Ê,hn,hu,ih=>
   have z:=SeqAt.RcAt.lists (A:=A) (s:=s) (e:=nϳ) ht.isList pL.isList â ∅ λj g1 g2=>by let⟨q1,q2,q3⟩:=lû;let⟨q4,q5,q6⟩:=lü;exact pį;have:=pZ q3;exact qŃ;change hϖ;exact qγ
   rw[k9,hr.length,qP.length,rv.length,FX.length,hl];simpa [hl] using z
  have z:=SeqAt.RcAt.lists_lengths (A:=A) (s:=s) ht.isList pL.isList â ϻ
  have hf:mϻ:= â
  rw[k9,hr.length,qP.length,rv.length,FX.length,hf,Bool.and_false]
  show z
 case tup.lst=>let⟨a,i,rfl,h⟩:=gû;let⟨b,j,rfl,h'⟩:=gü;show SeqAt.EqAt.tuple_list h h' ϻ
 case lst.tup=>let⟨a,i,rfl,h⟩:=gý;let⟨b,j,rfl,h'⟩:=gþ;show SeqAt.EqAt.list_tuple h h' ϻ
 case tup.fD=>let⟨a,i,rfl,h⟩:=gû;simp![Rep] at h2;subst h2;cases r2;show SeqAt.EqAt.tuple_none h ϻ
 case lst.fD=>let⟨a,i,rfl,h⟩:=gý;simp![Rep] at h2;subst h2;cases r2;show SeqAt.EqAt.list_none h ϻ
 case fD.tup=>let⟨a,i,rfl,h⟩:=gþ;simp![Rep] at h1;subst h1;cases r1;show SeqAt.EqAt.none_tuple h ϻ
 case fD.lst=>let⟨a,i,rfl,h⟩:=gü;simp![Rep] at h1;subst h1;cases r1;show SeqAt.EqAt.none_list h ϻ
 case tup.bl=>let⟨a,i,rfl,h⟩:=gû;simp![Rep] at h2;subst h2;cases r2;show SeqAt.EqAt.tuple_bool _ h ϻ
 case lst.bl=>let⟨a,i,rfl,h⟩:=gý;simp![Rep] at h2;subst h2;cases r2;show SeqAt.EqAt.list_bool _ h ϻ
 case bl.tup=>let⟨a,i,rfl,h⟩:=gþ;simp![Rep] at h1;subst h1;cases r1;show SeqAt.EqAt.bool_tuple _ h ϻ
 case bl.lst=>let⟨a,i,rfl,h⟩:=gü;simp![Rep] at h1;subst h1;cases r1;show SeqAt.EqAt.bool_list _ h ϻ
 case tup.int=>let⟨a,i,rfl,h⟩:=gû;simp![Rep] at h2;subst h2;let⟨t,rfl⟩:=r2;show SeqAt.EqAt.tuple_int _ _ h ϻ
 case lst.int=>let⟨a,i,rfl,h⟩:=gý;simp![Rep] at h2;subst h2;let⟨t,rfl⟩:=r2;show SeqAt.EqAt.list_int _ _ h ϻ
 case int.tup=>let⟨a,i,rfl,h⟩:=gþ;simp![Rep] at h1;subst h1;let⟨t,rfl⟩:=r1;show SeqAt.EqAt.int_tuple _ _ h ϻ
 case int.lst=>let⟨a,i,rfl,h⟩:=gü;simp![Rep] at h1;subst h1;let⟨t,rfl⟩:=r1;show SeqAt.EqAt.int_list _ _ h ϻ
 case tup.str=>let⟨a,i,rfl,h⟩:=gû;simp![Rep] at h2;subst h2;let⟨t,rfl⟩:=r2;show SeqAt.EqAt.tuple_str _ _ h ϻ
 case lst.str=>let⟨a,i,rfl,h⟩:=gý;simp![Rep] at h2;subst h2;let⟨t,rfl⟩:=r2;show SeqAt.EqAt.list_str _ _ h ϻ
 case str.tup=>let⟨a,i,rfl,h⟩:=gþ;simp![Rep] at h1;subst h1;let⟨t,rfl⟩:=r1;show SeqAt.EqAt.str_tuple _ _ h ϻ
 case str.lst=>let⟨a,i,rfl,h⟩:=gü;simp![Rep] at h1;subst h1;let⟨t,rfl⟩:=r1;show SeqAt.EqAt.str_list _ _ h ϻ
 all_goals (simp![Rep] at h1 h2;subst h1 h2;show Uo r1 r2 rfl rfl)
universe e
universe L2
namespace L2
open PySem PySem.Spec PyProof.Rows
def afy:Dt ->Bool
 | aŃ=>true
 | aĕ=>true
 | _=>false
def kO:Dt ->Dt ->Bool
 | aŃ, aŃ=>true
 | aĕ, aĕ=>true
 | _,_=>false
def W1 {σ:St}(I:ϙ)(hs:dŗ)(hn:bň)(hu:hĝ)(h1:fĸ)(h2:fĹ)(r1:ļ)(r2:bĽ): SeqAt.RcAt A s u v (ał) /\ SeqAt.RcNeAt A s u v (! ał):=by
 cases d with
 | tup l=>
  cases e with
  | tup m=>
   simp![Rep] at h1 h2;let⟨a,vs,rfl,hs,hr⟩:=h1;let⟨b,ws,rfl,i0,qP⟩:=h2;cases r1;cases r2;let⟨its,rv,ht,_⟩:=cΦ;let⟨its',FX,pL,_⟩:=cΧ;simp![uV];simp![oB] at hn;have he: ré:=λj g1 g2=>by let⟨q1,q2,q3⟩:=lû;let⟨q4,q5,q6⟩:=lü;exact pß;have:=pZ q3;exact oļ;change iİ;exact qť
   have z:=SeqAt.RcAt.tuples (A:=A) (s:=s) ht pL qĖ he;have z':=SeqAt.RcNeAt.tuples (A:=A) (s:=s) ht pL qĖ he;rw[k9,hr.length,qP.length,rv.length,FX.length];show#[⇑z, ⇑z']
  | _=>cases hs
 | lst l =>
  cases e with
  | lst m=>
   simp![Rep] at h1 h2;let⟨a,vs,rfl,hs,hr⟩:=h1;let⟨b,ws,rfl,i0,qP⟩:=h2;cases r1;cases r2;let⟨its,rv,ht,_⟩:=cĔ;let⟨its',FX,pL,_⟩:=cē;simp![uV];simp![oB] at hn;by_cases hl:kļ;have he: ré:=λj g1 g2=>by let⟨q1,q2,q3⟩:=lû;let⟨q4,q5,q6⟩:=lü;exact pß;have:=pZ q3;exact oļ;change iİ;exact qť
   have z:=SeqAt.RcAt.lists (A:=A) (s:=s) ht.isList pL.isList â qĖ he;have z':=SeqAt.RcNeAt.lists (A:=A) (s:=s) ht.isList pL.isList â qĖ he;rw[k9,hr.length,qP.length,rv.length,FX.length,hl];show#[by simpa [hl] using z,by simpa [hl] using z'];have z:=SeqAt.RcAt.lists_lengths (A:=A) (s:=s) ht.isList pL.isList â qĖ;have z':=SeqAt.RcNeAt.lists_lengths (A:=A) (s:=s) ht.isList pL.isList â qĖ;have hf:mϻ:= â;rw[k9,hr.length,qP.length,rv.length,FX.length,hf,Bool.and_false];show#[z,z']
  | _=>cases hs
 | _=>cases hs
def W7 (K:iQ):R2:=λx y H Q=>cM λd e=>jS (dŗ) (bň) fĺ fĻ (Q (.bl (ał)) H)
def W3 (K:iQ):R2:=λx y H Q=>cM λd e=>jS (dŗ) (bň) fĺ fĻ (Q (.bl (! ał)) H)
def SV (hu:iı):sv X gς (W7 X.K):=by intro aj s σ H x y v u Q I r1 r2 h;let⟨d,e,h0,hn,h1,h2,q⟩:=h;show mÈ.1 X.prog X.w X.xe _ iĲ
def JE (hu:iı):sv X iē (W3 X.K):=by intro aj s σ H x y v u Q I r1 r2 h;let⟨d,e,h0,hn,h1,h2,q⟩:=h;show mÈ.2 X.prog X.w X.xe _ iĲ
def gq.u60 (r:aĲ):hĝ:=by have:=r.units;exact Lqj Û mĠ Lq1 (.a (.a Lq0 (.n 64)) ñ) Lq1 this rfl
theorem pJ: ∀ {ns:ā} {us:ã},cR gì us ->IntsAre us ns
 | [],_,h=>by cases h;show .nil
 | n ::r,_,h=>by
  cases h with
  | cons h1 h2=>let⟨t,rfl⟩:=h1;show .cons n t (pJ h2)
theorem mS: ∀ {ks:ā} {vs:ã},iϨ ->(∀ (j:Nat) (v:fi),gø ->cM λ ģ (t:Tok)=>ks[j]? =ù /\ v= .int k t) ->IntsAre vs ks
 | [],[],_,_=> .nil
 | [],_::_,h,_=>by simp at h
 | _::_,[],h,_=>by simp at h
 | k::ks,aÝ,h,hv=>by let⟨k',t,e1,e2⟩:=hv 0 v rfl;simp at e1;subst e1 e2;show .cons k t (mS ⇑h λj u e=> ⇑(hv Þ u Å))
def Ab:ϫ:=λxs H Q=>gm λ(d:gg) (kvs:ů) dŘ=>jS (xs= [ań]) (H d=ϊ) nÀ jϬ qϖ
def gE (hc:Ŷ):gz X iϩ Ab:=by
 intro aj s σ H xs us Q I r h;let⟨d,kvs,ks,rfl,hd,hk,YT,q⟩:=h;let⟨u,rfl,ru⟩:=Ģ;cases ru;have hh:jĶ:=cπ;let⟨hz,lo,vs,rel,dd⟩:=A4 I.dU hd;let⟨ep,uO⟩:=dd.dictAt;have df:iϨ:=by have e1:=congrArg List.length hk;rw[ab,ab] at e1;rw[<- rel.length,e1]
 exact qħ;unfold Builtin.«sorted»;exact oĽ;exact ah (W.kdu_collect (A:=X.A.in1) (W.kdl_dict (knd:=fę) (kvs:=vs) (ep:=ep) lo) hh uO (by rw[<- rel.length];show hz) λh' tk gh KG GF=> ?_);have hl:gh.toList.length=ks.length:=by rw[dh,GF.1,df]
 have hI:IntsAre gh.toList ks:=mS hl λj v e=>by
  let⟨k,x,hx,Yx⟩:=GF.2 j v oě;have Yv:(gè)[j]? =ù:=by
   have:(fĮ)[j]? =ù:=by rw[aE,hx];rfl
   rw[<- rel.keys] at this;show this
  rw[hk,aE] at Yv;cases e2:ks[j]? with
  | none=>rw[e2] at Yv;cases Yv
  | some n=>
   rw[e2] at Yv;cases Yv;have abL:pF (Sum.inl n) v=true:=Yx;rcases eY abL with⟨i,t,e3,e4⟩ | ⟨x,t,e3,e4⟩
   cases e3;show#[n,t,rfl,e4];cases e3
 exact ah (wpAny_newList ?_ iϪ);have ho:(oź).get? h'.objs.size=some nο:=Ŀ;exact ah (d8 (wpAny_call_entry slot_list_sort dř entry_list_sort (TS.wJ (s:= {s with heap:=oź,toks:=tk}) ho hI iϪ mΗ) iĳ));let⟨ee,KS⟩:=mÉ;have I':oė:=I.kept (t':=tk) KG;exact aD #[_,rfl, hΨ,_,I'.laid (t':=tk) (o:= iϫ) gΦ õ ?_,rfl,nı];have f7:gÿ:=aM hb;rw[oΡ];show aq _ hb;exact nû;rw[ab,a2.length_eq];show YT
def dq.of {X:Cx}{sc scope:Scope}{N own N':Ĉ}{fr:ċ}(hsc:X.env.scope=sc:=by show rfl)(hN:X.N=N:=by show rfl)(kind:jϥ:=by show rfl)(names:N'=own++lŔ:=by decide+kernel)(len:mΕ:=by show rfl)(nd:N'.Nodup:=by decide+kernel) (uw: mϹ:=by decide+kernel) (loc: qÀ:=by decide+kernel) (Vw: ∀x∈lŔ,mϺ:=by decide+kernel) (free: ∀y∈scope.names,cΞ ->iϬ=cδ \/ iϬ=cε:=by first | decide+kernel | show of_decide_eq_true rfl):jĳ:=by subst hN hsc;show#[kind,names,len,nd,uw,loc,Vw,free]
structure iN (K:PySem.W.Frag)(mg:ią)(x:Str)(ps:bĖ)(st:Stmt)(f:Addr)(fd:FuncData):Prop where
 at_:mg x=fĚ
 fn:Hf K x x st f fd
 bd:hđ
theorem aK {st:Stmt}{p pos:Pos}(C:lý)(F:oΤ)(hr:gq j X.A)(ha:gÞ)(hk:k<=j:=by decide)(hg:aĝ:=by rfl)(C7:ϸ:=by decide)(he:pό:=by rfl)(lK:pÖ:=by rfl): PE X nŦ (wF sp [] E0 t):=Nn F (hr.mono hk) hg C.at_ C.fn.kp C.bd .nil Aj ha C7 he lK
theorem F8 {st:Stmt}(C:lý)(F:oΤ)(hr:bĴ)(hg:aĝ)(C7:ϸ:=by decide):PE X mŘ (wF sp [] E0 BX):=Ju F hr hg C.at_ C.fn.kp C.bd .nil Aj C7
theorem cE (h:ń):gy H (dB H p o):=λb u e=>by rw[bS (d3 e h)];show e
def bC (H H':Hp):Prop:= oς
theorem bC.refl (H:Hp):bC H H:=cΩ
theorem bC.trans (a:bC H H1)(b:bŊ):bC H H2:=lþ
theorem gy.ts (a:gy H H'):ĥ:=λb xs h=>by obtain h | ⟨o,h⟩:=h;show .inl (a _ _ h);show .inr #[o,a _ _ h]
inductive Zr (K:PySem.W.Frag)(H:Hp):hĎ where
 | of {x:V} {t:Value} (h:qX K H x t):Zr K H x t
 | tup {a:Addr} {xs:Ą} (h:dď):Zr K H ł Ϛ
 | lst {a:Addr} {xs:Ą} (h:dĎ):Zr K H ł ό
def W6 (K:iQ):ϫ:=λxs H Q=>lD λx T t b=>fU (xs= [x, .ty T]) (Zr K H x t) (kľ=aÿ) (Q aϛ H)
def jO:gz X kΝ (W6 X.K):=by
 intro aj s σ H xs us Q I r h;let⟨x,T,t,b,rfl,ty,e,q⟩:=h;let⟨u,w',rfl,ru,vJ⟩:=vals2 r;cases vJ;cases ty with
 | of ty=>show Gr I ru ty e nÁ
 | tup hs=>cases ru;let⟨its,rv,⟨o,h1,h2,_⟩,_⟩:=cΦ;show c_ W.kitx_tuple I.pH cΕ e hď nÁ
 | lst hs=>cases ru;let⟨its,rv,ht,_⟩:=cĔ;let⟨o,h1,h2,_⟩:=ht.isList;show c_ W.kitx_list I.pH cΕ e hď nÁ
universe L2
namespace L2
open PySem PyProof.Rows PyProof.V PySem.Calls PySem.Spec
def ZH (a C:gg)(h:Heap):Prop:= ∃o,gź /\ o.cls= aĭ
universe L2
namespace WL
open PySem L2
set_option genInjectivity true in
inductive W where
 | v (x:V) | tup (l:aŅ)
set_option genInjectivity true in
inductive MO where
 | lst (l:aŅ) | dK (kvs:eŕ) | ins (C dx:Addr) (fs:List (Str×W)) | exc (C:Addr) | fz (o:Obj) (ks:eĎ) (kvs:eŕ)
abbrev Mp:=gg ->fI MO
abbrev eI:=fh (Ë)
abbrev WK:=W ->Ţ
abbrev WE:=eI ->gĀ
abbrev WT:=eI ->Mp ->(hĞ) ->Prop
abbrev WA:=eI ->Mp ->(hğ) ->Prop
abbrev WG:=W ->nĲ
abbrev OW:=Ì ->nĲ
abbrev zx:=W ->iĴ
abbrev zy:=jϭ
abbrev WI:=eI ->Mp ->(mΘ) ->Prop
structure kI where
 nx:ώ
 rt:WK
 bk:ώ:=eĚ
 ct:ώ:=eĚ
abbrev WS:=kI ->ώ
@[reducible] def wi (i:Int):W:= dś
@[reducible] def wb (b:Bool):W:= cϊ
@[reducible] def wr (a:gg):W:= .v ł
@[reducible] def ws (x:Str):W:= .v bĥ
@[reducible] def wn:W:= aņ
def um (M:Mp)(a:gg)(o:MO):Mp:=λb=>if b=a then ą else M b
def av:um M a o a=ą:=by unfold um;rw[Ć]
def aH (h:b≠a):um M a o b=M b:=by unfold um;rw[Æ]
def q_:um (um M a o) a u=um M a u:=by funext b;unfold um;split<;>rfl
def cO {M:Mp}(h:M a=ą)(h':M b=none):a≠b:=by intro e;subst e;rw[h] at h';cases h'
def Sm (M M':Mp):Prop:= ∀b o,lÿ
theorem Sm.refl (M:Mp):Sm M M:=cΩ
theorem Sm.trans {M M1 M2:Mp}(a:Sm M M1)(b:Sm M1 M2):aϭ:=lþ
def Sm.free (a:Ħ)(h:M' p=none):ņ:=by
 cases e:M p with
 | none=>rfl
 | some o=>rw[a p o e] at h;cases h
theorem bR (h:ņ):Sm M (um M p o):=λb u e=>by rw[dŜ];show e
theorem Sm.um (a:Ħ)(h:ņ):Sm M dŝ:=λb u e=>by rw[dŜ];show a b u e
mutual
def WR (K:iQ)(H:Hp):W ->V ->Prop
 | .v x,v=>v=x
 | Č,v=>pİ
def db (K:iQ)(H:Hp):Ì ->Ä ->Prop
 | [],vs=>vs= []
 | x::r,vs=>cM λv t=>d6 (vs=v::t) (Ű) (db K H r t)
end
mutual
theorem WR.ts {K:iQ}{H H':Hp}(a:ĥ): ∀ (x:W) (v:V),Ű ->dŞ
 | .v x,v,h=>by simp![WR] at h ⊢;show h
 | Č,v,h=>by simp![WR] at h ⊢;let⟨p,vs,e,hs,hr⟩:=h;show#[p,vs,e,Un.sqT a hs,db.ts a l vs hr]
theorem db.ts {K:iQ}{H H':Hp}(a:ĥ): ∀ (l:Ì) (vs:Ä),ź ->db K H' l vs
 | [],vs,h=>by simp![db] at h ⊢;show h
 | x::r,vs,h=>by simp![db] at h ⊢;let⟨v,t,e,h1,h2⟩:=h;show#[v,t,e,WR.ts a x v h1,db.ts a r t h2]
end
theorem db.length {K:iQ}{H:Hp}: ∀ {l:Ì} {vs:Ä},ź ->iĵ
 | [],_,h=>by simp![db] at h;subst h;rfl
 | d::r,vs,h=>by simp![db] at h;let⟨v,t,rfl,_,h⟩:=h;simp[db.length h]
theorem db.at {K:iQ}{H:Hp}: ∀ {l:Ì} {vs:Ä} {j:Nat} {d:W},ź ->fĵ -> ∃v,gø /\ cϋ
 | [],_,_,_,_,e=>by simp at e
 | d::r,vs,j,d',h,e=>by
  simp![db] at h;let⟨v,t,rfl,h1,h⟩:=h;cases j with
  | zero=>simp at e;subst e;show dŖ
  | succ j=>simpa using db.at (j:=j) h Å
theorem db.mk {K:iQ}{H:Hp}: ∀ {l:Ì} {vs:Ä},iĵ ->(∀ (j:Nat) d v,fĵ ->gø ->cϋ) ->ź
 | [],vs,h,_=>by simp![db];show dy.mp h
 | d::r,[],h,_=>by simp at h
 | d::r,aÝ,h,k=>by simp![db];show#[v,vs,rfl,k 0 d v rfl rfl,db.mk ⇑h λj x u e1 e2=>k Þ x u ⇑e1 ⇑e2]
def db.back {j:Nat}(h:ź)(e:gø): ∃d,fĵ /\ cϋ:=by
 have hl:=h.length;have hj:cΨ:=by have:=cĕ.1;exact Nat.lt_of_lt_of_le this cĄ
 let⟨u,hu,r⟩:=h.at (j:=j) (d:=l[j]) aϮ;rw[e] at hu;cases hu;show#[_,ao hj,r]
def db.snoc {K:iQ}{H:Hp}{l:Ì}{vs:Ä}{d:W}{v:V}(h:ź)(hr:cϋ):db K H (l++ [d]) (vs++ [v]):=by
 have hl:=h.length;exact db.mk (by simp[hl]) iĶ;by_cases hj:cΨ;rw[br hj] at e1;rw[oΥ] at e2;let⟨w,hw,r⟩:=aϯ;rw[e2] at hw;cases hw;show r;rw[jϮ] at e1;rw[oϚ,hl] at e2;cases hk:j - l.length with
 | zero=>rw[hk] at e1 e2;simp at e1 e2;subst e1 e2;show hr
 | succ k=>rw[hk] at e1;simp at e1
def db.append (h:ź)(h':db K H m us):db K H (l++m) (vs++us):=by have hl:=h.length;have uL:=h'.length;exact db.mk (by simp[hl,uL]) iĶ;by_cases hj:cΨ;rw[br hj] at e1;rw[oΥ] at e2;let⟨w,hw,r⟩:=aϯ;rw[e2] at hw;cases hw;show r;rw[jϮ] at e1;rw[oϚ,hl] at e2;let⟨w,hw,r⟩:=h'.at e1;rw[e2] at hw;cases hw;show r
def db.drop (n:Nat)(h:ź):db K H (l.drop n) (vs.drop n):=by exact oτ;rw[d7] at e1 e2;let⟨w,hw,r⟩:=aϯ;rw[e2] at hw;cases hw;show r
def db.take (n:Nat)(h:ź):db K H (l.take n) (vs.take n):=by exact oτ;rw[List.getElem?_take] at e1 e2;split at e1;rename_i hj;rw[ak hj] at e2;let⟨w,hw,r⟩:=aϯ;rw[e2] at hw;cases hw;show r;cases e1
def db.set (n:Nat)(h:ź)(hr:cϋ):db K H (l.set n d) (vs.set n v):=by have hl:=h.length;exact oτ;rw[List.getElem?_set] at e1 e2;split at e1;rename_i hj;rw[ak hj] at e2;split at e1;split at e2;cases e1;cases e2;show hr;cases e2;cases e1;rename_i hj;rw[ai hj] at e2;let⟨w,hw,r⟩:=aϯ;rw[e2] at hw;cases hw;show r
def db.nil:db K H [] []:=by simp![db]
def db.cons {K:iQ}{H:Hp}{x:W}{v:V}{l:Ì}{vs:Ä}(h:Ű)(r:ź):db K H (x::l) (aÝ):=by simp![db];show#[v,vs,rfl,h,r]
def WR.v:WR K H (.v x) x:=by simp![WR]
def WR.eq {x v:V}(h:WR K H (.v x) v):v=x:=by simpa only[WR] using h
def WR.tup {K:iQ}{H:Hp}{l:Ì}{v:V}(h:WR K H bŇ v):pİ:=by simpa only[WR] using h
def WR.Qr (h:dœ)(r:ź):WR K H bŇ ł:=by simp![WR];show#[a,vs,rfl,h,r]
def KR (K:iQ)(H:Hp){κ:Type}:cό ->cŹ ->Prop:=Paired λp q=>aϓ /\ gā
theorem KR.ts {K:iQ}{H H':Hp}{κ:Type}(a:ĥ): ∀ {l:cό} {vs:cŹ},dş ->KR K H' l vs
 | _,_, .nil=> .nil
 | _,_, hϗ=> .cons #[e,r.ts a] (KR.ts a t)
def MR (K:iQ)(H:Hp)(a:gg):MO ->Prop
 | aŁ=> ∃vs,H a=gĂ /\ ź
 | .dK kvs=> ∃ks,H a=some (.dK ks) /\ fļ
 | eĐ=> ∃ks,H a=some (.ins C dx ks) /\ eŖ
 | .exc C=>H a=some (.ext (ZH a C))
 | eŗ=>H a=some (.nM o (.dK ks)) /\ fļ
def MR.some (h:cύ): ∃u,H a=þ:=by
 cases o with
 | lst l=>let⟨_,e,_⟩:=h;show aĸ
 | dK l=>let⟨_,e,_⟩:=h;show aĸ
 | ins C d l=>let⟨_,e,_⟩:=h;show aĸ
 | exc C=>show#[_,h]
 | fz o l l2=>show#[_,h.1]
def MR.mv (t:ĥ)(e:H' a=H a)(h:cύ):MR K H' a o:=by
 cases o with
 | lst l=>let⟨vs,e1,r⟩:=h;show kό
 | dK l=>let⟨vs,e1,r⟩:=h;show kό
 | ins C d l=>let⟨vs,e1,r⟩:=h;show kό
 | exc C=>show e.trans h
 | fz o l l2=>show#[e.trans h.1,h.2.ts t]
def iD (K:iQ)(M:Mp)(H:Hp):Prop:= ∀a o,M a=ą ->cύ
def iD.fresh (h:Ň)(hp:ń):ņ:=by
 cases e:M p with
 | none=>rfl
 | some o=>let⟨u,hu⟩:=(h p o e).some;rw[hp] at hu;cases hu
theorem iD.new (h:Ň)(hp:ń):iD K M (dB H p u):=λa o e=>by have:=h a o e;let⟨w,hw⟩:=this.some;show this.mv Ϧ (bS (d3 hw hp))
theorem DN (h:cź)(hn: ∀xs,o≠ aϕ)(hf: ∀b xs,o≠ .nM b ŝ):gΧ:=λb xs r=>by
 have nb:b≠a:=λe=>by subst e;obtain r | ⟨w,r⟩:=r;rw[h] at r;cases r;show hn _ rfl;rw[h] at r;cases r;show hf _ _ rfl
 unfold Rd;rw[bS nb];show r
theorem iD.put (h:Ň)(t:gΧ)(new:MR K cώ a o):iD K (um M a o) cώ:=λb x e=>by by_cases hb:b=a;subst hb;rw[av] at e;cases e;show new;rw[aH hb] at e;show(h b x e).mv t (aÑ)
theorem iD.sC (h:Ň)(hp:ń)(r:ź):iD K hϘ (dB H p cĖ):=h.put Ϧ #[vs,cw,r.ts Ϧ]
theorem nW (h:ič):gΧ:=DN h iĈ λ_ _ z=>nomatch z
theorem oM (h:hϙ):gΧ:=DN h iĈ λ_ _ z=>nomatch z
theorem RO (h:H a=some (.ins C d xs)):gΧ:=DN h iĈ λ_ _ z=>nomatch z
theorem iD.putL (h:Ň)(e:ič)(r:ź):iD K (um M a (aŁ)) (dB H a cĖ):=h.put (nW e) #[vs,cw,r.ts (nW e)]
theorem iD.putD (h:Ň)(e:hϙ)(r:dş):iD K (um M a (.dK l)) (dB H a (.dK vs)):=h.put aŇ #[vs,cw,gă]
def Mr (K:iQ)(H:Hp)(ρ:eI)(σ:St):Prop:=ρ.length=σ.length /\ ∀ (i:Nat) x,jϯ -> ∃v,jΡ /\ Ű
theorem Mr.ts (t:ĥ)(h:eŘ):Mr K H' ρ σ:=#[h.1,λi x e=>let ⟨v,a,r⟩:=h.2 i x e;#[v,a,r.ts t]]
structure Ok (K:PySem.W.Frag)(ρ:eI)(M:Mp)(σ:St)(H:Hp):Prop where
 env:eŘ
 hp:Ň
theorem Ok.mv (o:gĄ)(t:ĥ)(m:cϏ):Ok K ρ M' σ H':=#[o.env.ts t,m]
def Mr.set (h:eŘ)(i:Nat)(r:Ű):Mr K H (hϚ) (hω):=by exact#[by simp[h.1],λj y e=> ?_];rw[List.getElem?_set] at e ⊢;split at e;rename_i hj;rw[ak hj];split at e;rename_i f7;rw[ak (by rw[<- h.1];show f7)];cases e;show#[v,rfl,r];cases e;rename_i hj;rw[ai hj];show h.2 j y e
section
variable (K:iQ)
class IE (t:TE) (w:outParam WE):Prop where
 imp: ∀ (ρ:eI) (M:Mp) (σ:St) (H:Hp) (q:WK) (Q:VK),gĄ ->bŌ ->qÁ ->bğ
class IT (t:TT) (w:outParam WT):Prop where
 imp: ∀ (ρ:eI) (M:Mp) (σ:St) (H:Hp) (q:hĞ) (Q:hĀ),qŊ
class IA (t:TA) (w:outParam WA):Prop where
 imp: ∀ (ρ:eI) (M:Mp) (σ:St) (H:Hp) (q:aŅ ->Ţ) (Q:Ą ->Ş),gĄ ->bŌ ->(∀x M' v H',q x M' ->ĥ ->cϏ ->db K H' x v ->aĜ) ->bğ
class IG (t:TG) (w:outParam WG):Prop where
 imp: ∀ (x:W) (v:V) (ρ:eI) (M:Mp) (σ:St) (H:Hp) (q:ώ) (Q:Ω),gĄ ->Ű ->qũ
class IGs (t:Ms) (w:outParam OW):Prop where
 imp: ∀ (x:aŅ) (v:Ą) (ρ:eI) (M:Mp) (σ:St) (H:Hp) (q:ώ) (Q:Ω),gĄ ->db K H x v ->qũ
structure zo (H:Hp)(D':kI)(D:Bz):Prop where
 nx: ∀ρ' M' σ' H',D'.nx ρ' M' ->ĥ ->iķ ->dĈ
 rt: ∀x M' v H',D'.rt x M' ->ĥ ->cϏ ->dŞ ->D.rt v H'
 bk: ∀ρ' M' σ' H',D'.bk ρ' M' ->ĥ ->iķ ->dĉ
 ct: ∀ρ' M' σ' H',D'.ct ρ' M' ->ĥ ->iķ ->dĊ
class IS (t:TS) (w:outParam WS):Prop where
 imp: ∀ (ρ:eI) (M:Mp) (σ:St) (H:Hp) (D':kI) (D:Bz),gĄ ->w D' ρ M ->dŠ ->bĠ
class IR (r:R2) (w:outParam zx):Prop where
 imp: ∀ (x y:W) (v u:V) (M:Mp) (H:Hp) (q:WK) (Q:VK),Ň ->Ű ->cϐ ->w x y M q ->qÁ ->r v u H Q
class IU (r:iĒ) (w:outParam (iĴ)):Prop where
 imp: ∀ (x:W) (v:V) (M:Mp) (H:Hp) (q:WK) (Q:VK),Ň ->Ű ->qĽ
class IC (r:Ą ->gÎ) (w:outParam zy):Prop where
 imp: ∀ (x:aŅ) (v:Ą) (M:Mp) (H:Hp) (q:WK) (Q:VK),Ň ->db K H x v ->qĽ
universe e
theorem zo.mv (e:dŠ)(t:ĥ):zo K H' D' D:=#[λa b c d h s=>e.nx a b c d h dš,λa b c d h s=>e.rt a b c d h dš,λa b c d h s=>e.bk a b c d h dš,λa b c d h s=>e.ct a b c d h dš]
universe WL
namespace WL
open PySem L2
section
variable {K:iQ}
def iq (i:Nat):WE:=λρ M q=>match ρ[i]? with
 | some bŋ=>æ
 | _=>False
def Rx (h:iq i ρ M q): ∃x,jϯ /\ æ:=by unfold iq at h;split at h;rename_i x e;show#[x,e,h];show h.elim
instance {i:Nat}:IE K (MJ i) (iq i) where
 imp:=λρ M σ H q Q o h k=>let ⟨x,e,h⟩:=Rx h;let ⟨v,e',r⟩:=o.env.2 i x e;#[v,e',k x M v H h Ż o.hp r]
def wC (x:W):WE:=λ_ M q=>æ
instance {v:V}:IE K (tC v) (wC (.v v)) where
 imp:=λρ M σ H q Q o h k=>k (.v v) M v H h Ż o.hp WR.v
def wOp (r:zx)(a b:WE):WE:=λρ M q=>oľ
instance {r:R2}{w:zx}{ta tb:TE}{a b:WE} [ir:IR K r w] [ia:IE K ta a] [ib:IE K tb b]:IE K eĩ (wOp w a b) where
 imp:=λρ M σ H q Q o h k=>ia.imp ρ M σ H _ _ o h λx M1 v H1 h1 t1 m1 r1=>ib.imp ρ M1 σ H1 _ _ Β h1 λy M2 u H2 h2 t2 m2 r2=>ir.imp x y v u M2 H2 _ _ m2 cϑ r2 h2 qà
def wUn (r:iĴ)(a:WE):WE:=λρ M q=>kύ
instance {r:iĒ}{w:iĴ}{ta:TE}{a:WE} [ir:IU K r w] [ia:IE K ta a]:IE K (tUn r ta) (wUn w a) where
 imp:=λρ M σ H q Q o h k=>ia.imp ρ M σ H _ _ o h λx M1 v H1 h1 t1 m1 r1=>ir.imp x v M1 H1 _ _ m1 r1 h1 λz M3 v3 H3 h3 t3 m3 r3=>k z M3 v3 H3 h3 (t1.trans t3) m3 r3
def wI (C:hć)(g:fĘ):zx:=λx y M q=> ∃i j,aň /\ y=wi j /\ C i j /\ hġ
def wI0 (g:fĘ):zx:=λx y M q=>cM λi j=>d6 (aň) (y=wi j) (hġ)
def wU (g:aϞ):iĴ:=λx M q=> ∃i,aň /\ gą
instance {C:hć}{g:fĘ}:IR K (rI C g) (wI C g) where
 imp:=by rintro x y v u M H q Q m r1 r2 ⟨i,j,rfl,rfl,c,h⟩ k;show#[i,j,r1.eq,r2.eq,c,mΙ]
instance {g:fĘ}:IR K (MZ g) (wI0 g) where
 imp:=by rintro x y v u M H q Q m r1 r2 ⟨i,j,rfl,rfl,h⟩ k;show#[i,j,r1.eq,r2.eq,mΙ]
instance {g:aϞ}:IU K (rU g) (wU g) where
 imp:=by rintro x v M H q Q m r1 ⟨i,rfl,h⟩ k;show#[i,r1.eq,mΙ]
def wEq:zx:=λx y M q=>cM λa b=>fU (x= .v a) (y= .v b) fĽ (q (wb (eĊ)) M)
def wNe:zx:=λx y M q=>cM λa b=>fU (x= .v a) (y= .v b) fĽ (q (wb (! eĊ)) M)
instance:IR K rEq wEq where
 imp:=by rintro x y v u M H q Q m r1 r2 ⟨i,j,rfl,rfl,c,h⟩ k;cases r1.eq;cases r2.eq;show#[c,mΙ]
instance:IR K rNe wNe where
 imp:=by rintro x y v u M H q Q m r1 r2 ⟨i,j,rfl,rfl,c,h⟩ k;cases r1.eq;cases r2.eq;show#[c,mΙ]
def HB (a:WE):WT:=λρ M q=>a ρ M λx M1=> ∃k,x=wb k /\ q k M1
instance {t:TE}{a:WE} [ia:ň]:IT K (Ig t) (HB a) where
 imp:=rß
instance {t:TE}{a:WE} [ia:ň]:IT K (tB t) (HB a) where
 imp:=rß
def V1 (a b:WT):WT:=λρ M q=>a ρ M λc M1=>if ağ then cė else q false M1
def wOr (a b:WT):WT:=λρ M q=>a ρ M λc M1=>if ağ then q true M1 else cė
def VP (a:WT):WT:=λρ M q=>lā
instance {t u:TT}{a b:WT} [ia:bō] [ib:IT K u b]:IT K (Wp t u) (V1 a b) where
 imp:=λρ M σ H q Q o h k=>ia.imp ρ M σ H _ _ o h λc M1 H1 h1 t1 m1=>by
  cases c with
  | true=>simp![b_] at h1 ⊢;show qń
  | false=>simp![aF,bw] at h1 ⊢;show iĹ
instance {t u:TT}{a b:WT} [ia:bō] [ib:IT K u b]:IT K (tOr t u) (wOr a b) where
 imp:=λρ M σ H q Q o h k=>ia.imp ρ M σ H _ _ o h λc M1 H1 h1 t1 m1=>by
  cases c with
  | false=>simp![aF,bw] at h1 ⊢;show qń
  | true=>simp![b_] at h1 ⊢;show iĹ
instance {t:TT}{a:WT} [ia:bō]:IT K (Wl t) (VP a) where
 imp:=λρ M σ H q Q o h k=>ia.imp ρ M σ H _ _ o h λc M1 H1 h1 t1 m1=>iĹ
def Pn (a b:WE):WE:=λρ M q=>a ρ M λx M1=> ∃c,aŉ /\ if ağ then cė else q cϒ M1
def VM (a b:WE):WE:=λρ M q=>a ρ M λx M1=> ∃c,aŉ /\ if ağ then q (aϰ) M1 else cė
def Pf (a:WE):WE:=λρ M q=>a ρ M λx M1=> ∃c,aŉ /\ gĆ
instance {t u:TE}{a b:WE} [ia:ň] [ib:bŎ]:IE K (PJ t u) (Pn a b) where
 imp:=λρ M σ H q Q o h k=>ia.imp ρ M σ H _ _ o h λx M1 v H1 eř t1 m1 r1=>by
  subst e;exact fĿ;cases c with
  | true=>simp![b_] at h1 ⊢;show qź
  | false=>simp![aF,bw] at h1 ⊢;show lŗ
instance {t u:TE}{a b:WE} [ia:ň] [ib:bŎ]:IE K (Wi t u) (VM a b) where
 imp:=λρ M σ H q Q o h k=>ia.imp ρ M σ H _ _ o h λx M1 v H1 eř t1 m1 r1=>by
  subst e;exact fĿ;cases c with
  | false=>simp![aF,bw] at h1 ⊢;show qź
  | true=>simp![b_] at h1 ⊢;show lŗ
instance {t:TE}{a:WE} [ia:ň]:IE K (Py t) (Pf a) where
 imp:=λρ M σ H q Q o h k=>ia.imp ρ M σ H _ _ o h (by rintro x M1 v H1 ⟨c,e,h1⟩ t1 m1 r1;exact by subst e;show#[c,r1.eq,lŗ])
def wIf (c:WT)(a b:WE):WE:=λρ M q=>c ρ M λc M1=>if ağ then a ρ M1 q else cė
instance {tc:TT}{t u:TE}{c:WT}{a b:WE} [ic:cĘ] [ia:ň] [ib:bŎ]:IE K (tIf tc t u) (wIf c a b) where
 imp:=λρ M σ H q Q o h k=>ic.imp ρ M σ H _ _ o h λc M1 H1 h1 t1 m1=>by
  cases c with
  | true=>simp![b_] at h1 ⊢;show ia.imp ρ M1 σ H1 _ _ Β h1 pθ
  | false=>simp![aF,bw] at h1 ⊢;show qź
def HP (r r':zx)(a b c:WE):WE:=λρ M q=>a ρ M λx M1=>b ρ M1 λy M2=>r x y M2 λz M3=> ∃k,z=wb k /\ if aĪ then c ρ M3 λy' M4=>r' y y' M4 λz' M5=>q z' M5 else q cϒ M3
def Rz:WA:=λ_ M q=>q [] M
def tO (a:WE)(r:WA):WA:=λρ M q=>oυ
instance:IA K BX Rz where
 imp:=λρ M σ H q Q o h k=>k [] M [] H h Ż o.hp db.nil
instance {t:TE}{u:TA}{a:WE}{b:WA} [ia:ň] [ib:bŏ]:IA K (Iq t u) (tO a b) where
 imp:=λρ M σ H q Q o h k=>ia.imp ρ M σ H _ _ o h λx M1 v H1 h1 t1 m1 r1=>ib.imp ρ M1 σ H1 _ _ Β h1 λy M2 u H2 h2 t2 m2 r2=>k _ M2 _ H2 h2 fľ m2 (db.cons cϑ r2)
def VH (a:WA):WE:=λρ M q=>a ρ M λxs M1=>Ϩ /\ q ŝ M1
def VR (a:WA):WE:=λρ M q=>a ρ M λxs M1=>Ϩ /\ ∀p,ţ ->mġ
instance {t:TA}{a:WA} [ia:bŐ]:IE K (Wf t) (VH a) where
 imp:=λρ M σ H q Q o h k=>ia.imp ρ M σ H _ _ o h (by rintro x M1 v H1 ⟨hl,h1⟩ t1 m1 r1;exact #[by rw[r1.length];show hl,λp hp=>k _ M1 _ _ h1 mś (m1.new hp) (WR.Qr cϓ (r1.ts Ϧ))])
instance {t:TA}{a:WA} [ia:bŐ]:IE K (Wm t) (VR a) where
 imp:=λρ M σ H q Q o h k=>ia.imp ρ M σ H _ _ o h (by rintro x M1 v H1 ⟨hl,h1⟩ t1 m1 r1;exact #[by rw[r1.length];show hl,λp hp=>k _ _ _ _ (iĺ) mś (m1.sC hp r1) WR.v])
def VS:zx:=λx y M q=>lD λa l i u=>jS bő (y=wi i) iϮ (fł) (q u M)
def RD:zx:=λx y M q=>gm λl i u=>fU (cę) (y=wi i) (fł) (q u M)
def db.kL (r:ź)(e:fł): ∃v,L2.kL vs i=ă /\ WR K H u v:=by
 unfold L2.kL at e ⊢;rw[r.length];cases h:fŃ with
 | none=>rw[h] at e;cases e
 | some j=>rw[h] at e;show r.at e
instance:IR K (So K) VS where
 imp:=by rintro x y v u M H q Q m r1 r2 ⟨a,l,i,z,rfl,rfl,hl,e,h⟩ k;let⟨vs,hv,r⟩:=ŉ;let⟨v',e',r'⟩:=r.kL e;show#[a,vs,i,v',r1.eq,r2.eq,Ŋ,e',mĢ]
instance:IR K (Sn K) RD where
 imp:=by rintro x y v u M H q Q m r1 r2 ⟨l,i,z,rfl,rfl,e,h⟩ k;let⟨a,vs,rfl,hv,r⟩:=r1.tup;let⟨v',e',r'⟩:=r.kL e;show#[a,vs,i,v',rfl,r2.eq,hv,e',mĢ]
def qS (xs:Ì)(lo hi:Ċ):Ì:=qő
def db.cut (lo hi:Ċ)(r:ź):db K H eŚ (ve vs lo hi):=by unfold qS ve;rw[r.length];show(r.drop _).take _
universe e
abbrev WO:=eI ->Mp ->(Ċ ->Ţ) ->Prop
class IO (K:PySem.W.Frag) (t:TO) (w:outParam WO):Prop where
 imp: ∀ (ρ:eI) (M:Mp) (σ:St) (H:Hp) (q:cϔ ->Ţ) (Q:cϔ ->Ş),qŊ
abbrev Vz:=W ->Ċ ->Ċ ->gĀ
class ISl (K:PySem.W.Frag) (r:V ->cϔ ->cϔ ->gÎ) (w:outParam Vz):Prop where
 imp: ∀ (x:W) (v:V) (lo hi:cϔ) (M:Mp) (H:Hp) (q:WK) (Q:VK),Ň ->Ű ->w x lo hi M q ->qÁ ->r v lo hi H Q
section
variable {K:iQ}
def DK:WO:=λ_ M q=>q none M
def Pe (a:WE):WO:=λρ M q=>a ρ M λx M1=> ∃i,aň /\ fń
instance:IO K DW DK where
 imp:=pà
instance {t:TE}{a:WE} [ia:ň]:IO K (Px t) (Pe a) where
 imp:=λρ M σ H q Q o h k=>ia.imp ρ M σ H _ _ o h (by rintro x M1 v H1 ⟨i,e,h1⟩ t1 m1 r1;exact by subst e;show#[i,r1.eq,iĹ])
def wSl (r:Vz)(a:WE)(lo hi:WO):WE:=λρ M q=>pΟ
instance {r:nΥ}{w:Vz}{t:TE}{tl th:TO}{a:WE}{lo hi:WO} [ir:ISl K r w] [ia:ň] [il:IO K tl lo] [ih:IO K th hi]:IE K (tSl r t tl th) (wSl w a lo hi) where
 imp:=λρ M σ H q Q o h k=>ia.imp ρ M σ H _ _ o h λx M1 v H1 h1 t1 m1 r1=>il.imp ρ M1 σ H1 _ _ Β h1 λl M2 H2 h2 t2 m2=>ih.imp ρ M2 σ H2 _ _ kώ h2 λu M3 H3 h3 t3 m3=>ir.imp x v l u M3 H3 _ _ m3 jϰ h3 λy M4 v4 H4 h4 t4 m4 r4=>k y M4 v4 H4 h4 (mΚ t4) m4 r4
def VJ:Vz:=λx lo hi M q=>cM λa l=>d6 bő iϮ (∀p,ņ ->nϴ)
instance:ISl K (W2 K) VJ where
 imp:=by rintro x v lo hi M H q Q m r1 ⟨a,l,rfl,hl,h⟩ k;let⟨vs,hv,r⟩:=ŉ;show#[a,vs,r1.eq,Ŋ,λp hp=>k _ _ _ _ iĻ Ϧ (m.sC hp (dŤ)) WR.v]
def wCB (r:zy)(a:WA):WE:=λρ M q=>lŘ
instance {r:ϫ}{w:zy}{t:TA}{a:WA} [ir:IC K r w] [ia:bŐ]:IE K (tCB r t) (wCB w a) where
 imp:=λρ M σ H q Q o h k=>ia.imp ρ M σ H _ _ o h λx M1 v H1 h1 t1 m1 r1=>ir.imp x v M1 H1 _ _ m1 r1 h1 pΡ
abbrev gA:=jϭ
def gG (K:iQ)(p:gA):Sp:=λvs H Q _=>gm λ(xs:Ì) (M:Mp) (q:WK)=>fU (db K H xs vs) (Ň) (p xs M q) qÁ
def HQ (p:gA)(a:WA):WE:=λρ M q=>a ρ M λxs M1=>p xs M1 q
instance {p:gA}{E:XK}{t:TA}{a:WA} [ia:bŐ]:IE K (wF bŒ [] E t) (HQ p a) where
 imp:=λρ M σ H q Q o h k=>ia.imp ρ M σ H _ _ o h λx M1 v H1 h1 t1 m1 r1=>#[x,M1,q,by rw[List.append_nil];show r1,m1,h1,pΡ]
def okW (F:iϢ)(S:gΚ)(len: oĜ)(pQ: ∀ (cdv:fi) (A:Around) (outer:aė) (s:fk) (H:Hp) (E:XK),qè ->cM λt w'=>d6 (qÞ) (IS K t w') (∀vs M q,bœ ->w' {nx:=λ_ M'=>aϱ,rt:=q} (pŇ) M)): oŚ:=by
 exact Hf.ok F S ((by rintro vs H Q E ⟨xs,M,q,r,m,h,_⟩;exact by rw[r.length];show len xs M q h)) nū;let⟨t,w',h1,h2,h3⟩:=kϏ;let⟨xs,M,q,r,m,h,k'⟩:=h;exact#[t,h1,h2.imp _ M _ H _ _ #[#[?_,eŜ],m] (h3 xs M q h) #[λρ' M' σ' H' h ts o=>k' _ M' _ H' h ts o.hp WR.v,λx M' v H' h ts m' r'=>k' x M' v H' h ts m' r',iϯ,iϯ]];have:=r.length;simp[L2.start,this];have hl:=r.length;unfold L2.start;by_cases hi:dĶ;rw[bĸ,aE] at e;cases ex:aþ with
 | none=>rw[ex] at e;cases e
 | some y=>rw[ex] at e;cases e;let⟨v,hv,rv⟩:=r.at ex;exact#[v,?_,rv];rw[br (by simp;exact Nat.lt_of_lt_of_le hi cñ),aE,hv];rfl
 rw[bķ,List.getElem?_replicate] at e;split at e<;>cases e
def W5 (K:iQ):ϫ:=λxs H Q=>cM λp ys=>d6 (eĻ) mģ kĻ
theorem fw:gz X hĕ (W5 X.K):=zf
def RC:zy:=λxs M q=>(cM λa l=>d6 eŝ iϮ (hϜ)) \/ ∃l,eŞ /\ hϜ
def db.one (h:db K H [x] vs): ∃v,vs= [v] /\ Ű:=by simp![db] at h;let⟨v,t,rfl,h1,rfl⟩:=h;show dŖ
def db.two (h:db K H aÍ vs):cM λv u=>d6 (vs= [v,u]) (Ű) (cϐ):=by simp![db] at h;let⟨v,t,rfl,h1,u,t',rfl,h2,rfl⟩:=h;show#[v,u,rfl,h1,h2]
instance:IC K (W5 K) RC where
 imp :=by
  rintro xs v M H q Q m r1 h k;rcases h with⟨a,l,rfl,hl,h⟩ | ⟨l,rfl,h⟩
  let⟨v,rfl,r⟩:=r1.one;cases r.eq;let⟨vs,hv,rr⟩:=ŉ;exact#[a,vs,rfl, .inl cϕ,mĤ];rw[rr.length];show WR.v;let⟨v,rfl,r⟩:=r1.one;let⟨a,vs,rfl,hv,rr⟩:=r.tup;exact#[a,vs,rfl, .inr hv,mĤ];rw[rr.length];show WR.v
def W_:ϫ:=p϶
theorem ij:gz X hĈ W_:=Ll
def V3:zy:=λxs M q=> ∃i,cϖ /\ nü
instance:IC K W_ V3 where
 imp:=by rintro xs v M H q Q m r1 ⟨i,rfl,h⟩ k;let⟨v,rfl,r⟩:=r1.one;cases r.eq;show oõ
def Qg:ϫ:=qĀ
theorem vn (hc:Ŷ):gz X hĉ Qg:=G7 hc
def Pg:zy:=λxs M q=>cM λi j=>gΨ /\ ný
instance:IC K Qg Pg where
 imp:=by rintro xs v M H q Q m r1 ⟨i,j,rfl,h⟩ k;let⟨v,u,rfl,r,r'⟩:=r1.two;cases r.eq;cases r'.eq;show#[i,j,rfl,mΙ]
def Er (K:iQ):ϫ:=λxs H Q=>cM λp ys=>d6 (eĻ) mģ oϮ
theorem lj:gz X ό (Er X.K):=ze
def xW:zy:=λxs M q=> ∃l,pŘ /\ ∀p,ņ ->q č hϘ
instance:IC K (Er K) xW where
 imp :=by
  rintro xs v M H q Q m r1 ⟨l,hx,h⟩ k;rcases hx with⟨a,rfl,hl⟩ | rfl
  let⟨v,rfl,r⟩:=r1.one;cases r.eq;let⟨vs,hv,rr⟩:=ŉ;show#[a,vs,rfl, .inl cϕ,qé];let⟨v,rfl,r⟩:=r1.one;let⟨a,vs,rfl,hv,rr⟩:=r.tup;show#[a,vs,rfl, .inr hv,qé]
def Aa (K:iQ):ϫ:=λxs H Q=>cM λp ys=>eĻ /\ ((dť /\ oΝ) \/ (dŦ /\ Q bİ H))
theorem i_:gz X Ϛ (Aa X.K):=vY
def zB:zy:=λxs M q=> ∃l,pŘ /\ q bŇ M
instance:IC K (Aa K) zB where
 imp :=by
  rintro xs v M H q Q m r1 ⟨l,hx,h⟩ k;rcases hx with⟨a,rfl,hl⟩ | rfl
  let⟨v,rfl,r⟩:=r1.one;cases r.eq;let⟨vs,hv,rr⟩:=ŉ;show#[a,vs,rfl, .inl #[Ŋ,λp hp=>k _ M _ _ h Ϧ (bŔ) (WR.Qr cϓ (rr.ts Ϧ))]];let⟨v,rfl,r⟩:=r1.one;let⟨a,vs,rfl,hv,rr⟩:=r.tup;show#[a,vs,rfl, .inr #[hv,k _ M _ H h Ż m (WR.Qr hv rr)]]
theorem db.ints {H:Hp}: ∀ {ns:ā} {vs:Ä},db K H dŧ vs ->vs=eņ
 | [],vs,h=>by simpa only[List.map_nil,db] using h
 | n::r,vs,h=>by simp![aX,db] at h;let⟨v,t,rfl,h1,h2⟩:=h;rw[db.ints h2,h1.eq];rfl
theorem db.ofInts {H:Hp}: ∀ (ns:ā),db K H dŧ gì
 | []=>db.nil
 | n::r=>db.cons WR.v (db.ofInts r)
def _a (M:Mp):W ->fI fi
 | .v (aĨ)=>some Ν
 | .v (aÔ)=>some ϋ
 | .v (aĩ)=>some Ξ
 | aņ=>some iĚ
 | aŃ=>some Ϛ
 | .v ł=>match M a with
  | some (aĕ)=>some ό
  | _=>none
 | _=>none
def VT (K:iQ):zy:=λxs M q=>lD λx T t b=>fU (xs= gΩ) (_a M x=aŊ) (kľ=aÿ) (q (wb b) M)
def RJ (m:Ň)(r:Ű)(e:_a M x=aŊ):Zr K H v t:=by
 cases x with
 | tup l=>let⟨a,vs,rfl,hv,rr⟩:=r.tup;cases e;show .tup hv
 | v y =>
  cases r.eq;cases v with
  | int i=>cases e;show .of bĢ
  | bl i=>cases e;show .of (.bl i)
  | str i=>cases e;show .of (.str i)
  | fD=>cases e;show .of .fD
  | ref a=>
   simp![_a] at e;cases ha:M a with
   | none=>rw[ha] at e;cases e
   | some o=>
    rw[ha] at e;cases o with
    | lst l=>cases e;let⟨vs,hv,_⟩:=m a _ ha;show .lst cϕ
    | dK l=>cases e
    | ins C d l=>cases e
    | exc C=>cases e
    | fz o l l2=>cases e
  | Dm _=>cases e
  | E2 _=>cases e
  | ty _=>cases e
instance:IC K (W6 K) (VT K) where
 imp:=by rintro xs v M H q Q m r1 ⟨x,T,t,b,rfl,ht,e,h⟩ k;let⟨v,u,rfl,r,r'⟩:=r1.two;cases r'.eq;show#[v,T,t,b,rfl,RJ m r ht,e,mΙ]
universe e
section
variable {K:iQ}
abbrev WM:=W ->jϭ
class IM (K:PySem.W.Frag) (r:V ->Ą ->gÎ) (w:outParam WM):Prop where
 imp: ∀ (x:W) (v:V) (ys:aŅ) (us:Ą) (M:Mp) (H:Hp) (q:WK) (Q:VK),Ň ->Ű ->db K H ys us ->w x ys M q ->qÁ ->r v us H Q
def IsL (M:Mp)(x:W):Prop:=cM λa l=>x=wr a /\ hϛ
def IsL.ty (m:Ň)(r:Ű)(h:IsL M x):tyV K ÿ v H:=by let⟨a,l,rfl,hl⟩:=h;cases r.eq;let⟨vs,hv,_⟩:=ŉ;show .inl #[rfl,vs,Ŋ]
def wBM (r:WM)(a:WE)(b:WA):WE:=λρ M q=>a ρ M λx M1=>IsL M1 x /\ mĥ
instance {r:lō}{w:WM}{t:TE}{u:TA}{a:WE}{b:WA} [ir:IM K r w] [ia:ň] [ib:bŏ]:IE K (tBM K ÿ r t u) (wBM w a b) where
 imp:=λρ M σ H q Q o h k=>ia.imp ρ M σ H _ _ o h (by rintro x M1 v H1 ⟨hl,h1⟩ t1 m1 r1;exact #[hl.ty m1 r1,ib.imp ρ M1 σ H1 _ _ Β h1 λy M2 u H2 h2 t2 m2 r2=>ir.imp x v y u M2 H2 _ _ m2 cϑ r2 h2 qà])
def DL:WM:=λx ys M q=>gm λa l y=>jS bő (ys= [y]) iϮ iϰ (q wn (um M a hĢ))
instance:IM K Et DL where
 imp:=by rintro x v ys us M H q Q m r1 r2 ⟨a,l,y,rfl,rfl,hl,hn,h⟩ k;cases r1.eq;let⟨u,rfl,r⟩:=r2.one;let⟨vs,hv,rr⟩:=ŉ;show#[a,vs,u,rfl,rfl,hv,by rw[rr.length];show hn,k _ _ _ _ h (nW hv) (m.putL hv (rr.snoc r)) WR.v]
def V0:zx:=λx y M q=>lD λa b l l'=>kM bő (y=wr b) iϮ (M b=some (.lst l')) mΜ (∀p,ņ ->nþ)
instance:IR K W8 V0 where
 imp:=by rintro x y v u M H q Q m r1 r2 ⟨a,b,l,l',rfl,rfl,hl,uL,hn,h⟩ k;cases r1.eq;cases r2.eq;let⟨vs,hv,rr⟩:=ŉ;let⟨V4,vQ,Qa⟩:=m b _ uL;show#[a,b,vs,V4,rfl,rfl,hv,vQ,by rw[rr.length,Qa.length];show hn,λp hp=>k _ _ _ _ iĻ Ϧ (m.sC hp (rr.append Qa)) WR.v]
def Mw (M:Mp):W ->dŨ
 | aņ,k=>k=false
 | cϊ,k=>k=b
 | dś,k=>cõ
 | .v (.str y),k=>oν
 | .v ł,k=>(∃l,hϛ /\ fŅ) \/ (∃l,M a=eş /\ fŅ)
 | Č,k=>fŅ
 | _,_=>False
def Ie (K:iQ)(ta:TE):TT:=λσ H Q=>ta σ H λx H'=> ∃k,OX K x H' k /\ Q k H'
theorem ku (ha:ş)(he: qù:=by intro _;rfl):PT X a (Ie X.K ta):=Je ha he
def HA (a:WE):WT:=λρ M q=>a ρ M λx M1=> ∃k,Mw M1 x k /\ q k M1
def db.isEmpty (r:ź):jķ:=by have:=r.length;cases l<;>cases vs<;>simp_all
def KR.isEmpty {vs:ů}(r:dş):jķ:=by cases r<;>rfl
def Mw.ok (m:Ň)(r:Ű)(h:Mw M x k):OX K v H k:=by
 cases x with
 | tup l=>let⟨a,vs,rfl,hv,rr⟩:=r.tup;show .inr (.inl #[vs,hv,by rw[rr.isEmpty];show h])
 | v y =>
  cases r.eq;cases v with
  | ref a=>
   rcases h with⟨l,hl,e⟩ | ⟨l,hl,e⟩
   let⟨vs,hv,rr⟩:=ŉ;show .inl #[vs,Ŋ,by rw[rr.isEmpty];show e];let⟨vs,hv,rr⟩:=ŉ;show .inr (.inr #[vs,hv,by rw[rr.isEmpty];show e])
  | _=>first | show h | show(show False from h).elim
instance {t:TE}{a:WE} [ia:ň]:IT K (Ie K t) (HA a) where
 imp:=λρ M σ H q Q o h k=>ia.imp ρ M σ H _ _ o h (by rintro x M1 v H1 ⟨b,hb,h1⟩ t1 m1 r1;exact #[b,hb.ok m1 r1,iĸ])
def gC:cL ->W
 | aĐ=>wi k
 | ađ=>ws x
def fX (kvs:ű)(k:cL):Ë:=oο
def kq (kvs:ű)(k:cL)(v:W):ű:=qΦ
def xy (kvs:ű)(k:cL):ű:=nũ
theorem KR.keys {H:Hp}: ∀ {l:ű} {vs:ů},dş ->fĮ=eŠ
 | _,_, .nil=>rfl
 | _,_, hϗ=>by rw[aX,aX,KR.keys t,e]
theorem KR.length {H:Hp}{κ:Type}: ∀ {l:cό} {vs:cŹ},dş ->iĵ
 | _,_, .nil=>rfl
 | _,_, cà=>by rw[aT,aT,KR.length t]
theorem KR.val {H:Hp}(k:cL): ∀ {l:ű} {vs:ů},dş ->(fX l k=none /\ jd vs k=none) \/ cM λx v=>d6 (fX l k=û) (jd vs k=ă) (Ű)
 | _,_, .nil=> .inl cυ
 | (k1,x)::l,(k2,v)::vs, hϗ=>by have e:k1=k2:=e;subst e;unfold fX jd;rw[dC,dC];by_cases hk:k1=k;simp![hk,decide_true];show .inr #[x,v,rfl,rfl,r];simp![hk,decide_false];show KR.val k t
theorem KR.map {H:Hp}{k:cL}{x:W}{v:V}(rx:Ű): ∀ {l:ű} {vs:ů},dş ->KR K H (l.map (λkv=>if aľ then(kv.1,x) else kv)) (vs.map oÏ)
 | _,_, .nil=> .nil
 | (k1,y)::l,(k2,u)::vs, hϗ=>by have e:k1=k2:=e;subst e;rw[aX,aX];exact .cons ?_ (KR.map rx t);by_cases hk:k1=k;rw[aÙ,aÙ];show cě;rw[aÚ,aÚ];show bŕ
theorem KR.append {H:Hp}{k:cL}{x:W}{v:V}(rx:Ű): ∀ {l:ű} {vs:ů},dş ->KR K H (l++ [aØ]) (vs++ [(k,v)])
 | _,_, .nil=> jĸ
 | _,_, cá=> .cons r (KR.append rx t)
def KR.put (rx:Ű)(r:dş):KR K H (kq l k x) (im vs k v):=by
 have ek:mŜ=mĚ:=by
  have:=r.keys;have e1:mŜ=(eŠ).any hϝ:=by rw[List.any_map];rfl
  have e2:(mĚ)=(fĮ).any hϝ:=by rw[List.any_map];rfl
  rw[e1,e2,this]
 unfold kq im;rw[ek];split;show KR.map rx r;show KR.append rx r
theorem KR.drop {H:Hp}{k:cL}: ∀ {l:ű} {vs:ů},dş ->KR K H (xy l k) (rX vs k)
 | _,_, .nil=> .nil
 | (k1,y)::l,(k2,u)::vs, hϗ=>by have e:k1=k2:=e;subst e;unfold xy rX;rw[List.filter_cons,List.filter_cons];by_cases hk:k1=k;simp![hk,ne_eq,not_true,decide_false,aF,bw];show KR.drop t;simp![ne_eq,hk,not_false_eq_true,decide_true,b_];show .cons bŕ (KR.drop t)
def mP (r:gϊ):v=kV k:=by cases k<;>show r.eq
def Pl:WE:=λ_ M q=> ∀p,ņ ->q č hϞ
instance:IE K Io Pl where
 imp:=λρ M σ H q Q o h k=>λp hp=>k _ _ _ _ jϱ Ϧ (o.hp.put Ϧ gć) WR.v
def HM (a b:WE):WE:=λρ M q=>a ρ M λx M1=>b ρ M1 λy M2=>lD λp kvs k z=>jS bŖ jϲ bŗ (bŘ=aŌ) (q z M2)
instance {t u:TE}{a b:WE} [ia:ň] [ib:bŎ]:IE K (PF t u) (HM a b) where
 imp :=λρ M σ H q Q o h k=>ia.imp ρ M σ H _ _ o h λx M1 v H1 h1 t1 m1 r1=>ib.imp ρ M1 σ H1 _ _ Β h1 λy M2 u H2 ⟨p,kvs,ky,z,e1,e2,e3,e4,h2⟩ t2 m2 r2=>by
  subst e1 e3;let⟨ks,hk,rr⟩:=m2 p _ e2;rcases cĜ with⟨n1,_⟩ | ⟨x',v',n1,n2,rx⟩
  rw[n1] at e4;cases e4;rw[n1] at e4;cases e4;exact#[p,v',r1.eq,?_,k _ M2 _ H2 h2 fľ m2 rx];rw[mP r2, <- n2];show sQ.k hk
def xY (a b:WE):WE:=λρ M q=>a ρ M λy M1=>b ρ M1 λx M2=>gm λp kvs k=>fU bŖ jϲ bŗ (mΝ)
def KR.some (k:cL)(r:dş):(jd vs k).isSome=(fX l k).isSome:=by rcases r.val k with⟨a,b⟩ | ⟨x,v,a,b,_⟩ <;>rw[a,b] <;>rfl
instance {t u:TE}{a b:WE} [ia:ň] [ib:bŎ]:IE K (DY t u) (xY a b) where
 imp:=λρ M σ H q Q o h k=>ia.imp ρ M σ H _ _ o h λy M1 v H1 h1 t1 m1 r1=>ib.imp ρ M1 σ H1 _ _ Β h1 λx M2 u H2 ⟨p,kvs,ky,e1,e2,e3,h2⟩ t2 m2 r2=>by subst e1 e3;let⟨ks,hk,rr⟩:=m2 p _ e2;exact#[p,jd ks ky,r2.eq,by rw[mP r1];show sQ.k hk,k _ M2 _ H2 h2 fľ m2 ?_];rw[rr.some];show WR.v
def BJ (a b c:WE):WE:=λρ M q=>a ρ M λx M1=> ∃p,d6 bŖ mĦ (b ρ M1 qű)
instance {t u s:TE}{a b c:WE} [ia:ň] [ib:bŎ] [ic:bř]:IE K (Ip t u s) (BJ a b c) where
 imp:=λρ M σ H q Q o h k=>ia.imp ρ M σ H _ _ o h λx M1 v H1 lř t1 m1 r1=>by
  subst e;let⟨ks,hk,rr⟩:=cĝ;exact rë;rintro z M3 u3 H3 ⟨kvs,ky,e2,e3,h3⟩ t3 m3 r3;subst e3;let⟨ks,hk,rr⟩:=cĞ;exact#[jd ks ky,by rw[fņ];show sQ.k hk,k _ M3 _ H3 h3 lĀ m3 ?_];rcases cĜ with⟨n1,n2⟩ | ⟨x',v',n1,n2,rx⟩
  rw[n1,n2];show r3;rw[n1,n2];show rx
universe e
section
variable {K:iQ}
def HR (i:Nat):WG:=λx ρ M q=>q (hϚ) M
instance {i:Nat}:IG K aĢ (HR i) where
 imp:=λx v ρ M σ H q Q o r h k=>k _ M _ H h Ż #[o.env.set i r,o.hp]
def RH:OW:=λxs ρ M q=>xs= [] /\ q ρ M
def Pp (a:WG)(b:OW):OW:=λxs ρ M q=>cM λx r=>xs=x::r /\ nÂ
instance:IGs K OH RH where
 imp:=λx v ρ M σ H q Q o r h k=>by let⟨rfl,h⟩:=h;show#[by simpa only[db] using r,k _ M _ H h Ż o]
instance {t:TG}{u:Ms}{a:WG}{b:OW} [ia:IG K t a] [ib:IGs K u b]:IGs K (xn t u) (Pp a b) where
 imp:=λx v ρ M σ H q Q o r h k=>by let⟨y,rest,rfl,h⟩:=h;simp![db] at r;let⟨v1,t1,rfl,r1,r2⟩:=r;show#[v1,t1,rfl,ia.imp y v1 ρ M σ H _ _ o r1 h λρ' M' σ' H' h' ts o'=>ib.imp rest t1 ρ' M' σ' H' _ _ o' (r2.ts ts) h' λρ2 M2 σ2 H2 h2 V_ o2=>k ρ2 M2 σ2 H2 h2 (ts.trans V_) o2]
def V5 (n:Nat)(a:OW):WG:=λx ρ M q=> ∃l,d6 (cę) (cϗ) eš
instance {n:Nat}{t:Ms}{a:OW} [ia:IGs K t a]:IG K (OG K n t) (V5 n a) where
 imp:=λx v ρ M σ H q Q o r h k=>by let⟨l,rfl,hl,h⟩:=h;let⟨a',vs,rfl,hv,rr⟩:=r.tup;show#[a',vs,rfl,hv,by rw[rr.length];show hl,ia.imp l vs ρ M σ H _ _ o rr h k]
abbrev Ly:=W ->W ->W ->Mp ->(Ţ) ->Prop
class ZC (K:PySem.W.Frag) (t:Lz) (w:outParam Ly):Prop where
 imp: ∀ (x y z:W) (v u r:V) (M:Mp) (H:Hp) (q:Ţ) (Q:Ş),Ň ->Ű ->cϐ ->WR K H z r ->w x y z M q ->(∀M' H',q M' ->ĥ ->cϏ ->Q H') ->t v u r H Q
def Pd:Ly:=λx y z M q=>lD λa l k j=>jS bő (y=wi k) iϮ (xg l.length k=aķ) (q (um M a iļ))
instance:ZC K Qc Pd where
 imp:=by rintro x y z v u r M H q Q m r1 r2 r3 ⟨a,l,i,j,rfl,rfl,hl,e,h⟩ k;let⟨vs,hv,rr⟩:=ŉ;show#[a,vs,i,j,r1.eq,r2.eq,hv,by rw[rr.length];show e,k _ _ h (nW hv) (m.putL hv (rr.set j r3))]
def V6 (a b:WE)(s:Ly):WG:=λx ρ M q=>pŋ
instance {t u:TE}{s:Lz}{a b:WE}{w:Ly} [ia:ň] [ib:bŎ] [is:ZC K s w]:IG K (YU t u s) (V6 a b w) where
 imp:=λx v ρ M σ H q Q o r h k=>ia.imp ρ M σ H _ _ o h λy M1 v1 H1 h1 t1 m1 r1=>ib.imp ρ M1 σ H1 _ _ Β h1 λz M2 v2 H2 h2 t2 m2 r2=>is.imp y z x v1 v2 v M2 H2 _ _ m2 cϑ r2 (r.ts fľ) h2 λM3 H3 h3 t3 m3=>k ρ M3 σ H3 h3 lĀ nŬ
def PY:WS:=λD ρ M=>cğ
instance:IS K Pz PY where
 imp:=λρ M σ H D' D o h e=>e.nx ρ M σ H h Ż o
def MT (a b:WS):WS:=λD ρ M=>a {D with nx:=b D} ρ M
instance {t u:TS}{a b:WS} [ia:bŚ] [ib:IS K u b]:IS K (RT t u) (MT a b) where
 imp:=λρ M σ H D' D o h e=>ia.imp ρ M σ H _ _ o h #[λρ' M' σ' H' h' ts o'=>ib.imp ρ' M' σ' H' D' D o' h' (e.mv ts),e.rt,e.bk,e.ct]
def P_:WS:=λD ρ M=>D.ct ρ M
instance:IS K PH P_ where
 imp:=λρ M σ H D' D o h e=>e.ct ρ M σ H h Ż o
def PZ (a:WE):WS:=λD ρ M=>lŚ
instance {t:TE}{a:WE} [ia:ň]:IS K (PD t) (PZ a) where
 imp:=λρ M σ H D' D o h e=>ia.imp ρ M σ H _ _ o h λx M1 v H1 h1 t1 m1 r1=>e.nx ρ M1 σ H1 h1 t1 Β
def WF (a:WE):WS:=λD ρ M=>dũ
instance {t:TE}{a:WE} [ia:ň]:IS K (Wg t) (WF a) where
 imp:=λρ M σ H D' D o h e=>ia.imp ρ M σ H _ _ o h λx M1 v H1 h1 t1 m1 r1=>e.rt x M1 v H1 h1 t1 m1 r1
def PX:WS:=λD _ M=>D.rt wn M
instance:IS K Pw PX where
 imp:=λρ M σ H D' D o h e=>e.rt wn M .fD H h Ż o.hp WR.v
def _k (c:WT)(a b:WS):WS:=λD ρ M=>c ρ M λk M1=>if aĪ then a D ρ M1 else b D ρ M1
instance {tc:TT}{t u:TS}{c:WT}{a b:WS} [ic:cĘ] [ia:bŚ] [ib:IS K u b]:IS K dē (_k c a b) where
 imp:=λρ M σ H D' D o h e=>ic.imp ρ M σ H _ _ o h λk M1 H1 h1 t1 m1=>by
  cases k with
  | true=>simp![b_] at h1 ⊢;show ia.imp ρ M1 σ H1 D' D Β h1 (e.mv t1)
  | false=>simp![aF,bw] at h1 ⊢;show ib.imp ρ M1 σ H1 D' D Β h1 (e.mv t1)
def WW (a:WE)(g:WG):WS:=λD ρ M=>mŝ
instance {t:TE}{g:TG}{a:WE}{w:WG} [ia:ň] [ig:bś]:IS K (FP t g) (WW a w) where
 imp:=λρ M σ H D' D o h e=>ia.imp ρ M σ H _ _ o h λx M1 v H1 h1 t1 m1 r1=>ig.imp x v ρ M1 σ H1 _ _ Β r1 h1 λρ2 M2 σ2 H2 h2 t2 o2=>e.nx ρ2 M2 σ2 H2 h2 fľ o2
def WH (i j:Nat)(a:WA):WS:=λD ρ M=>a ρ M λxs M1=>cM λx y=>xs= aÍ /\ oχ
instance {i j:Nat}{t:TA}{a:WA} [ia:bŐ]:IS K (Wh i j t) (WH i j a) where
 imp:=λρ M σ H D' D o h e=>ia.imp ρ M σ H _ _ o h (by rintro xs M1 v H1 ⟨x,y,ex,h1⟩ t1 m1 r1;exact by subst ex;let⟨v1,v2,rfl,q1,q2⟩:=r1.two;show#[v1,v2,rfl,e.nx _ M1 _ H1 h1 t1 #[((o.env.ts t1).set i q1).set j q2,m1]])
def Cb (a b c:WE):WS:=λD ρ M=>c ρ M λz M1=>a ρ M1 λx M2=>b ρ M2 λy M3=>gm λp kvs k=>jS bŖ (iϱ) bŗ jϠ oÕ
instance {t u s:TE}{a b c:WE} [ia:ň] [ib:bŎ] [ic:bř]:IS K (P8 t u s) (Cb a b c) where
 imp :=λρ M σ H D' D o h e=>ic.imp ρ M σ H _ _ o h λz M1 v1 H1 h1 t1 m1 r1=>ia.imp ρ M1 σ H1 _ _ Β h1 λx M2 v2 H2 h2 t2 m2 r2=>ib.imp ρ M2 σ H2 _ _ kώ h2 λy M3 v3 H3 ⟨p,kvs,k,e1,e2,e3,hl,h3⟩ t3 m3 r3=>by subst e1 e3;let⟨ks,hk,rr⟩:=cĞ;have ts:=oM (u:= hģ) hk;exact#[p,_,r2.eq,?_,e.nx ρ _ σ (dB H3 p (hģ)) h3 nπ (o.mv nπ (m3.putD hk (KR.put jϰ rr)))];rw[mP r3];show LP.k hk (by rw[rr.length];show hl)
def Cc (a b:WE):WS:=λD ρ M=>a ρ M λx M1=>b ρ M1 λy M2=>gm λp kvs k=>jS bŖ jϲ bŗ (hϟ=true) nϋ
instance {t u:TE}{a b:WE} [ia:ň] [ib:bŎ]:IS K (P9 t u) (Cc a b) where
 imp :=λρ M σ H D' D o h e=>ia.imp ρ M σ H _ _ o h λx M2 v2 H2 h2 t2 m2 r2=>ib.imp ρ M2 σ H2 _ _ (o.mv t2 m2) h2 (by rintro y M3 v3 H3 ⟨p,kvs,k,e1,e2,e3,hl,h3⟩ t3 m3 r3;exact by subst e1 e3;let⟨ks,hk,rr⟩:=cĞ;have ts:=oM (u:= .dK (rX ks k)) hk;show#[p,ks,k,r2.eq,hk,mP r3,by rw[rr.some];show hl,e.nx ρ _ σ _ h3 lă (o.mv lă (m3.putD hk rr.drop))])
def He (K:iQ)(H1:Hp)(J:It)(xs:Ì)(keep:Ţ):Prop:=∀i M H,bC H1 H ->Ň ->aō ->(dŪ ->cτ) /\ (dĶ ->bħ) /\ ∀v H',dĶ ->J.Pb i H v H' ->ĥ /\ iD K M H' /\ ∃x,Ψ /\ dŞ
class II (K:PySem.W.Frag) (t:TI) (w:outParam WI):Prop where
 imp: ∀ (ρ:eI) (M:Mp) (σ:St) (H:Hp) (q:aŅ ->kϋ) (R:gÕ),gĄ ->bŌ ->(∀xs keep J M' H',q xs keep M' ->ĥ ->cϏ ->He K H' J xs keep ->R J H') ->t σ H R
def Kj (a:WE):WI:=λρ M q=>a ρ M λx M1=>cM λp l=>d6 bŖ (M1 p=fŁ) (q l lΕ M1)
def XX (a:WE):WI:=λρ M q=>a ρ M λx M1=> ∃l,cę /\ q l dū M1
def gj (lo:Int)(n:Nat):Ì:=oΦ
def Ki (a:WA):WI:=λρ M q=>a ρ M λxs M1=> ∃j:Int,fU (xs= [wi j]) (fė) (j<aĥ) nĳ
def Gq:He K H1 (Itl K p) l lΕ:=by intro i M H ts m hk;let⟨vs,hv,rr⟩:=m p _ hk;have hl:=rr.length;exact#[λh=>#[vs,Ŋ, oś],nϵ,hĤ];let⟨rfl,y⟩:=y;have:=y vs cϕ;let⟨d,hd,r⟩:=rr.back this;show jϳ
def Km (hv:eţ)(rr:eŤ):He K H1 (Itt K p) l dū:=by intro i M H ts m _;have vQ:=eť;have Qa:=rr.ts ts;have hl:=Qa.length;exact#[λh=>#[vs,vQ, oś],nÄ,hĤ];let⟨rfl,y⟩:=y;have:=y vs vQ;let⟨d,hd,r⟩:=Qa.back this;show jϳ
def Kn:He K H1 (Itr lo n) (aϲ) dū:=by
 intro i M H ts m _;have hl:iľ:=by simp[gj]
 rw[hl];exact oϛ;let⟨rfl,y⟩:=y;exact#[cĠ,m,wi aą,?_,by rw[y];show WR.v];simp[gj,hi]
instance {t:TE}{a:WE} [ia:ň]:II K (Kp K t) (Kj a) where
 imp:=λρ M σ H q R o h k=>ia.imp ρ M σ H _ _ o h (by rintro x M1 v H1 ⟨p,l,e,hp,h1⟩ t1 m1 r1;exact by subst e;let⟨vs,hv,rr⟩:=cĝ;show#[p,r1.eq,#[vs,Ŋ],k l _ _ M1 H1 h1 t1 m1 Gq])
instance {t:TE}{a:WE} [ia:ň]:II K (X2 K t) (XX a) where
 imp:=λρ M σ H q R o h k=>ia.imp ρ M σ H _ _ o h (by rintro x M1 v H1 ⟨l,e,h1⟩ t1 m1 r1;exact by subst e;let⟨p,vs,rfl,hv,rr⟩:=r1.tup;show#[p,rfl,#[vs,hv],k l _ _ M1 H1 h1 t1 m1 (Km hv rr)])
instance {t:TA}{a:WA} [ia:bŐ]:II K (QA t) (Ki a) where
 imp:=λρ M σ H q R o h k=>ia.imp ρ M σ H _ _ o h (by rintro xs M1 v H1 ⟨j,e,h0,h1,h2⟩ t1 m1 r1;exact by subst e;let⟨v,rfl,r⟩:=r1.one;cases r.eq;show#[j,rfl,h0,h1,k _ _ _ M1 H1 h2 t1 m1 Kn])
def WJ (it:WI)(g:WG)(b:WS):WS:=λD ρ M=>it ρ M λxs keep M1=> rĪ
instance {ti:TI}{g:TG}{t:TS}{it:WI}{w:WG}{b:WS} [ii:cϙ] [ig:bś] [ib:IS K t b]:IS K (Wo ti g t) (WJ it w b) where
 imp :=λρ M σ H D' D o h e=>ii.imp ρ M σ H _ _ o h λxs keep J M1 H1 h1 t1 m1 ok=>by let⟨I,h0,hk,hs,hd⟩:=h1;exact#[λi m σ' H'=>gϋ /\ eŦ /\ cM λρ' M'=>d6 (I i ρ' M') (bC H1 H') (iķ),#[_,rfl,dg _,ρ,M1,h0,cĠ,o.mv t1 m1],?_];rintro i m σ' H' ⟨rfl,hi,ρ',M',hI,ts,o'⟩;let⟨k1,k2,k3⟩:=ok i M' H' ts o'.hp (hk i ρ' M' hi hI);by_cases f7:dĶ;exact .inr #[k2 f7,λσ2 H2=>cM λρ2 M2=>d6 (I ß ρ2 M2) (bŊ) jĺ,(by rintro σ2 H2 ⟨ρ2,M2,a,b,c⟩;exact #[xs.length - ß, qϸ,rfl,f7,ρ2,M2,a,b,c]),fŇ];let⟨ty,my,x,hx,r⟩:=eŧ;replace ts:=dŬ;exact ig.imp x v ρ' M' σ' H2 _ _ (o'.mv ty my) r (hs i x ρ' M' hx hI) λρ3 M3 σ3 H3 h3 t3 o3=>ib.imp ρ3 M3 σ3 H3 _ _ o3 h3 #[pá,λa b c d h t=>e.rt a b c d h nŭ,λa b c d h t=>e.nx a b c d h nŭ,pá];have e':dŭ:= mĨ;subst e';show .inl #[k1 rfl,e.nx ρ' M' σ' H' (hd ρ' M' hI) fň o']
def Ca (c:WT)(b:WS):WS:=λD ρ M=> ∃I:jĹ,(∃m,bŞ) /\ ∀m ρ M,bŞ ->c ρ M λk M1=>if aĪ then b {D with nx:=nύ,ct:=nύ,bk:=D.nx} ρ M1 else cϘ
instance {tc:TT}{t:TS}{c:WT}{b:WS} [ic:cĘ] [ib:IS K t b]:IS K (Ib tc t) (Ca c b) where
 imp :=λρ M σ H D' D o ⟨I,⟨m,h0⟩,hs⟩ e=>by
  exact#[λm σ' H'=>cM λρ' M'=>d6 (I m ρ' M') (ĥ) (iķ),#[m,ρ,M,h0,cĠ,o],?_];rintro m σ' H' ⟨ρ',M',hI,ts,o'⟩;exact ic.imp ρ' M' σ' H' _ _ o' (hs m ρ' M' hI) λk M1 H1 h1 t1 m1=> ?_;cases k with
  | true=>simp![b_] at h1 ⊢;exact#[λσ2 H2=> ∃m',m'<m /\ cM λρ2 M2=>d6 (I m' ρ2 M2) (bC H H2) jĺ,λσ2 H2 h=>h,ib.imp ρ' M1 σ' H1 _ _ fŉ h1 #[qĠ,λa b c d h t=>e.rt a b c d h (j϶),λa b c d h t=>e.nx a b c d h (j϶),qĠ]]
  | false=>simp![aF,bw] at h1 ⊢;show e.nx ρ' M1 σ' H1 h1 (dů) fŉ
def no (own:Nat)(fr:ċ)(ρ:eI):eI:=kΩ++fr.map λj=>(ρ[j]?).join
def Mr.Vw (own:Nat)(fr:ċ)(h:eŘ):Mr K H gĈ gô:=by
 unfold no lH;exact#[by simp,eŜ];by_cases hi:i<own;rw[bĸ,List.getElem?_replicate,ak hi] at e;cases e;rw [bķ,List.length_replicate,aE] at e;rw[bķ,List.length_replicate,aE];cases ej:fr[i - own]? with
 | none=>rw[ej] at e;cases e
 | some j=>
  rw[ej] at e;simp![Option.map_some,Option.some.injEq] at e ⊢;cases er:ρ[j]? with
  | none=>rw[er] at e;cases e
  | some z=>rw[er] at e;simp![Option.join_some] at e;subst e;let⟨v,ev,r⟩:=h.2 j x er;show#[v,by rw[ev];rfl,r]
def Pm (it:WI)(own:Nat)(fr:ċ)(g:WG)(c:WT)(el:WE):WE:=λρ M q=>it ρ M λxs keep M1=>rĶ
instance {ti:TI}{own:Nat}{fr:ċ}{g:TG}{tc:TT}{te:TE}{it:WI}{w:WG}{c:WT}{el:WE} [ii:cϙ] [ig:bś] [ic:cĘ] [ie:IE K te el]:IE K (Ir ti own fr g tc te) (Pm it own fr w c el) where
 imp :=λρ M σ H q Q o h k=>ii.imp ρ M σ H _ _ o h λxs keep J M1 H1 h1 t1 m1 ok=>by
  intro p hp;let⟨hz,h1⟩:=h1;let⟨I,h0,hk,hs,hd⟩:=iĺ;have tp:=mΞ;exact rĚ;rintro i m vs H' ⟨rfl,hi,ys,M',hI,ts,m',rv,hv⟩;exact#[hv,?_];let⟨kp,hMp,hyl⟩:=hĥ;let⟨k1,k2,k3⟩:=iϳ;by_cases f7:dĶ;exact .inr #[k2 f7,by rw[rv.length];exact pâ,fŇ];let⟨ty,my,x,hx,r⟩:=eŧ;replace ts:=dŬ;have oc:oĝ:=oĞ
  exact rÇ;cases b with
  | true=>simp![b_] at h4 ⊢;exact ie.imp ρ3 M4 σ3 H4 _ _ fŋ h4 ?_;rintro z M5 u H5 ⟨h5,h6⟩ t5 m5 r5;let⟨Po,Ku,MW⟩:=m5 p _ h5;have aaN:=kŀ;have t6:=nW (u:= .lst (Po++ [u])) Ku;show#[Po,Ku,by rw[MW.length];exact pâ,_, qϸ,rfl,f7,_,_,h6,(ts.trans aaN).trans t6,m5.putL Ku (MW.snoc r5),(MW.snoc r5).ts t6,cw]
  | false=>simp![aF,bw] at h4 ⊢;let⟨Po,Ku,MW⟩:=m4 p _ lĄ.1;show#[Po,_, qϸ,rfl,f7,_,_,h4,kŁ,m4,MW,Ku]
  have e':dŭ:= mĨ;subst e';show pϏ
def Rw:WT:=λ_ M q=>q true M
instance:IT K We Rw where
 imp:=pà
universe e
section
variable {K:iQ}
theorem iD.sub (s:Ħ)(m:iD K M' H):Ň:=λa o e=>m a o (s a o e)
def _A (F:iϢ)(S:gΚ)(len: oĜ)(pQ: ∀ (cdv:fi) (A:Around) (outer:aė) (s:fk) (H:Hp) (E:XK),qè ->∃t,qÞ /\ ∃w',IS K t w' /\ ∀vs M q,bœ ->w' {nx:=λ_ M'=> ∃M0,bŠ /\ q wn M0,rt:=λx M'=> ∃M0,bŠ /\ q x M0} (pŇ) M): oŚ:=by
 have h:=okW (K:=K) (P:=P) (w:=w) (mg:=mg) (base:=base) (k:=k) (p:=λvs M q=> ∃q',p vs M q' /\ q=λx M'=> ∃M0,bŠ /\ q' x M0) F S ((by rintro vs M q ⟨q',h,_⟩;exact len vs M q' h)) λcdv A outer s H E hr=>by let⟨t,h1,w',h2,h3⟩:=kϏ;exact#[t,w',h1,h2,?_];rintro vs M q ⟨q',h,rfl⟩;show h3 vs M q' h
 exact h.imp λvs H Q E ⟨xs,M,q,r,m,hp,hk⟩=>#[xs,M,_,r,m,#[q,hp,rfl],?_]
 rintro x M' v H' ⟨M0,s,hq⟩ ts m' r';show hk x M0 v H' hq ts (m'.sub s) r'
def G1 {xs:Ì}{keep:Ţ}{M1:Mp}{g:WG}{c:WT}{el:WE}{q:WK}(f:W ->Ë)(hz:Ϩ)(kx: jϷ)(hs: ∀ (i:Nat) x,Ψ -> ∀ (M:Mp) (N:hĦ),aϳ ->N (f x) M ->g x gĈ M λρ2 M2=>c ρ2 M2 λb M3=>if ò then nÅ else N none M3)(hq: pι): rĶ:=by
 exact#[hz,λp hp=>#[λi ys M=>iϴ /\ ys=kϐ,gĉ,?_,?_,?_]];rintro i ys M hi ⟨rfl,rfl⟩;exact#[eŨ,av,aI (List.length_filterMap_le _ _) ?_];rw[bv];exact iϵ;rintro i x ys M hx ⟨rfl,rfl⟩;exact hs i x hx _ (λo M4=>match o with
 | aģ=>M4 p=some nÿ /\ (um M4 p oÖ=um M1 p oÖ /\ kϐ++ [y]=mË)
 | none=>M4=um M1 p nÿ /\ kϐ=mË) aϴ ?_
 have e:fŌ=cġ++ [x]:=by rw[bj,hx];rfl
 cases hf:f x with
 | none=>show#[rfl,by rw[e,List.filterMap_append];simp[hf]]
 | some y=>show#[av,q_,by rw[e,List.filterMap_append];simp[hf]]
 rintro ys M ⟨rfl,rfl⟩;rw[bD];show aϵ
mutual
def Bc:W ->fI Dt
 | aņ=>some .fD
 | cϊ=>some aϛ
 | dś=>some bĢ
 | .v bĥ=>some bĥ
 | .v _=>none
 | Č=>(kE l).map .tup
def kE:Ì ->fI (aà)
 | []=>some []
 | x::r=>match Bc x,kE r with
  | aā,some l=>some (d::l)
  | _,_=>none
end
mutual
theorem IY {H:Hp}: ∀ (x:W) (d:Dt) (v:V),Bc x=aā ->Ű ->dŕ
 | .v y,d,v,e,r=>by cases r.eq;cases y<;>simp![Bc,Option.some.injEq,reduceCtorEq] at e<;>subst e<;>simp![Rep]
 | Č,d,v,e,r=>by
  let⟨a,vs,rfl,hv,rr⟩:=r.tup;simp![Bc] at e;cases hd:kE l with
  | none=>rw[hd] at e;cases e
  | some ds=>rw[hd] at e;cases e;simp![Rep];show#[a,vs,rfl,hv,yo l ds vs hd rr]
theorem yo {H:Hp}: ∀ (l:Ì) (ds:aà) (vs:Ä),eũ ->ź ->iF K H ds vs
 | [],ds,vs,e,r=>by simp![kE] at e;cases e;simp![db] at r;simp![iF];show r
 | x ::l,ds,vs,e,r=>by
  simp![kE] at e;cases hx:Bc x with
  | none=>rw[hx] at e;cases e
  | some d=>
   cases hl:kE l with
   | none=>rw[hx,hl] at e;cases e
   | some ds'=>rw[hx,hl] at e;cases e;simp![db] at r;let⟨v,t,rfl,r1,r2⟩:=r;simp![iF];show#[v,t,rfl,IY x d v hx r1,yo l ds' t hl r2]
end
def DR (M:Mp)(x:W)(d:Dt):Prop:=Bc x=aā \/ gm λa l ds=>fU bő iϮ (eũ) (d= .lst ds)
def DR.rep (m:Ň)(r:Ű)(h:bš):dŕ:=by obtain h | ⟨a,l,ds,rfl,hl,e,rfl⟩:=h;show IY x d v h r;cases r.eq;let⟨vs,hv,rr⟩:=ŉ;simp![Rep];show#[a,vs,rfl,Ŋ,yo l ds vs e rr]
def VU:zx:=λx y M q=>cM λd e=>jS (bš) (DR M y e) (dŗ) (bň) (q (wb (ał)) M)
def RA:zx:=λx y M q=>cM λd e=>jS (bš) (DR M y e) (dŗ) (bň) (q (wb (! ał)) M)
instance:IR K (W7 K) VU where
 imp:=by rintro x y v u M H q Q m r1 r2 ⟨d,e,h1,h2,h3,h4,h⟩ k;show qÂ
instance:IR K (W3 K) RA where
 imp:=by rintro x y v u M H q Q m r1 r2 ⟨d,e,h1,h2,h3,h4,h⟩ k;show qÂ
instance {r r':R2}{t u s:TE}{a b c:WE}{w w':zx} [ir:IR K r w] [ir':IR K r' w'] [ia:ň] [ib:bŎ] [ic:bř]:IE K (Is r r' t u s) (HP w w' a b c) where
 imp :=λρ M σ H q Q o h k=>ia.imp ρ M σ H _ _ o h λx M1 v H1 h1 t1 m1 r1=>ib.imp ρ M1 σ H1 _ _ Β h1 λy M2 u H2 h2 t2 m2 r2=>ir.imp x y v u M2 H2 _ _ m2 cϑ r2 h2 λz M3 v3 H3 ⟨kk,e,h3⟩ t3 m3 r3=>by
  subst e;exact#[kk,r3.eq,?_];cases kk with
  | true=>simp![b_] at h3 ⊢;show ic.imp ρ M3 σ H3 _ _ nŬ h3 λy4 M4 v4 H4 h4 t4 m4 r4=>ir'.imp y y4 u v4 M4 H4 _ _ m4 (r2.ts (dŰ)) r4 h4 λz5 M5 v5 H5 h5 t5 m5 r5=>k z5 M5 v5 H5 h5 ((mΚ t4).trans t5) m5 r5
  | false=>simp![aF,bw] at h3 ⊢;show k _ M3 _ H3 h3 lĀ m3 WR.v
def HC:zy:=λxs M q=>gm λ(d:gg) (kvs:ű) dŘ=>jS eŪ (iŀ) nÀ jϬ qό
instance:IC K Ab HC where
 imp:=by rintro xs v M H q Q m r1 ⟨d,kvs,ks,rfl,hd,hk,hl,h⟩ k;let⟨v,rfl,r⟩:=r1.one;cases r.eq;let⟨vs,hv,rr⟩:=m d _ hd;show#[d,vs,ks,rfl,hv,by rw[rr.keys];show hk,hl,qπ]
def Qh:ϫ:=qſ
theorem G8:gz X Ν Qh:=G9
def Pk:zy:=λxs M q=>(∃i,cϖ /\ q (wi i) M) \/ ∃k,xs= [wb k] /\ q (wi jĢ) M
instance:IC K Qh Pk where
 imp:=by
  rintro xs v M H q Q m r1 h k;rcases h with⟨i,rfl,h⟩ | ⟨b,rfl,h⟩ <;>let⟨v,rfl,r⟩:=r1.one<;>cases r.eq
  show .inl oõ;show .inr #[b,rfl,mΙ]
universe e
universe WL
namespace WL
open PySem L2
theorem FH {l:Ý}:kL (a::l) 0=ĉ:=gR (j:=0) ŋ
theorem afF {l:Ý}:kL (a::b::l) 1=aÿ:=gR (j:=1) ŋ
theorem afE {l:Ý}:kL (a::b::c::l) 2=aĘ:=gR (j:=2) ŋ
theorem afD {l:Ý}:kL (a::b::c::d::l) 3=aā:=gR (j:=3) ŋ
def afx:xg (n+1+1) 1=some 1:=by unfold xg;rw[ak (by exact oŴ),aŎ];rfl
def afw:xg (n+1+1+1) 2=some 2:=by unfold xg;rw[ak (by exact Lqi [] ö ý ö ö LqI0 rfl),aŎ];rfl
def afv:xg (n+1+1+1+1) 3=some 3:=by unfold xg;rw[ak (by exact Lqi [] ö (.n 3) ö ö LqI0 rfl),aŎ];rfl
def FF {a:α}(h0:0<=i)(h:l[i.toNat]? =ĉ):kL l i=ĉ:=by have e:((i.toNat:Nat):Int)=i:= (by exact LqIx (LqIe (Int.toNat_of_nonneg h0)) Ϭ);rw[<- e];show gR h
theorem jc {P:Ţ}(h:P M): ∃M0,Sm M0 M /\ P M0:=#[M,cĢ,h]
def NB (d:gg)(M M':Mp):Prop:= ∀b,aá ->M' b=M b
theorem NB.refl (d:gg)(M:Mp):NB d M M:=cŦ
theorem NB.trans {M M1 M2:Mp}(a:NB d M M1)(b:NB d M1 M2):NB d M M2:=λc n=>(b c n).trans (a c n)
theorem NB.put:NB d M (um M d o):=λb n=>aH n
def Dr (M:Mp)(d l:gg):Prop:=lD λ ż (i c s:Int)=>fU (M d=some (.lst [wr l,wi i,wi c,Í])) (M l=kϑ) (0<=i) (d≠l)
def Dr.put (h:bŢ)(hp:ņ):hϠ:=by let⟨ns,i,c,s,h1,h2,h3,h4⟩:=h;show#[ns,i,c,s,by rw[aH (cO h1 hp)];show h1,by rw[aH (cO h2 hp)];show h2,h3,h4]
def Dr.Ss (h:bŢ)(hd:p≠d)(hl:p≠l):hϠ:=by let⟨ns,i,c,s,h1,h2,h3,h4⟩:=h;show#[ns,i,c,s,by rw[aH hd.symm];show h1,by rw[aH hl.symm];show h2,h3,h4]
def Dr.ne (h:bŢ)(hp:ņ):p≠d /\ p≠l:=by let⟨ns,i,c,s,h1,h2,h3,h4⟩:=h;show#[(cO h1 hp).symm,(cO h2 hp).symm]
def cx (q:Ō):W:= .tup [wi q.1,aŏ]
def cK (l:fō):W:= .tup cϛ
def pairs_at {l:fō}{i:Nat}(h:cϛ[i]? =û): ∃q,ç =aŀ /\ x=cx q:=by
 rw[aE] at h;cases e:ç with
 | none=>rw[e] at h;cases h
 | some q=>rw[e] at h;cases h;show eū
def pI {l:ā}{i:Nat}(h:kł): ∃n,ç =some n /\ x=wi n:=by
 rw[aE] at h;cases e:ç with
 | none=>rw[e] at h;cases h
 | some q=>rw[e] at h;cases h;show eū
def lT (h:(aϲ)[i]? =û):i<n /\ x=wi aą:=by unfold gj at h;rw[aE] at h;by_cases hi:i<n;rw[kŃ] at h;cases h;show cģ;rw[mÌ] at h;cases h
def mF:iľ:=by simp[gj]
def lstK (o:fI MO)(k:dű):Prop:= ∃l,o=fŁ /\ k l
def k_ (o:fI MO)(k:ű ->Prop):Prop:= ∃l,o=eş /\ k l
def vL {α:Type}(o:fI α)(k:α ->Prop):Prop:= ∃a,o=ĉ /\ k a
def jg (C Q:Prop):Prop:=C /\ Q
def iK (b:Bool)(A B:Prop):Prop:=if ò then A else B
def ux (M:Mp)(k:gg ->Prop):Prop:= ∀p,ņ ->k p
def Bk (p:gA)(xs:Ì)(M:Mp)(q:WK):Prop:=p xs M q
def U' (x:W)(M:Mp)(q:hĞ):Prop:= ∃k,x=wb k /\ q k M
def iu (x:W)(k:gg ->Prop):Prop:= ∃a,x=wr a /\ k a
def tupK (x:W)(k:dű):Prop:= ∃l,cę /\ k l
def HW (M:Mp)(x:W)(k:dŨ):Prop:= ∃b,Mw M x b /\ k b
def qM (x:W)(k:cL ->Prop):Prop:= ∃y,x=gC y /\ k y
def YZ (xs:Ì)(keep:Ţ)(g:WG)(b:WS)(D:kI)(ρ:eI)(M1:Mp):Prop:= rĪ
def vk (xs:Ì)(keep:Ţ)(own:Nat)(fr:ċ)(g:WG)(c:WT)(el:WE)(ρ:eI)(M1:Mp)(q:WK):Prop:=rĶ
def Hz (c:WT)(b:WS)(D:kI)(ρ:eI)(M:Mp):Prop:=fŎ
def abc:lstK (fŁ) k=k l:=by apply propext;symm;(· rintro⟨_,h,k⟩;cases h;show k);(· intro h;show Ų)
def aeV:k_ (eş) k=k l:=by apply propext;symm;(· rintro⟨_,h,k⟩;cases h;show k);(· intro h;show Ų)
def aa5 {k:α ->Prop}:vL bŋ k=k x:=by apply propext;symm;(· rintro⟨_,h,k⟩;cases h;show k);(· intro h;show Ų)
def afb:jg True Q=Q:=by simp[jg]
def abn:iK true A B=A:=by simp[iK]
def abo:iK false A B=B:=by simp[iK]
def afz:U' (.v (aÕ)) M q=q k M:=by apply propext;symm;(· rintro⟨_,h,k⟩;cases h;show k);(· intro h;show Ų)
def aaV:iu fŏ k=k x:=by apply propext;symm;(· rintro⟨_,h,k⟩;cases h;show k);(· intro h;show Ų)
def aaI:tupK (.tup x) k=k x:=by apply propext;symm;(· rintro⟨_,h,k⟩;cases h;show k);(· intro h;show Ų)
def aaJ:HW M fŐ k=k (i !=0):=by apply propext;symm;(· rintro⟨_,h,z⟩;cases h;show z);(· intro h;show Ų)
def aaK:HW M (.v (.bl i)) k=k i:=by apply propext;symm;(· rintro⟨_,h,z⟩;cases h;show z);(· intro h;show Ų)
def abj:qM fŐ k=k (aĒ):=by apply propext;symm;(· rintro⟨y,h,z⟩;cases y<;>cases h;show z);(· intro h;show#[aĒ,rfl,h])
theorem aam {r:eI}:iq 0 (Ť) M q=æ:=rfl
theorem aal {r:eI}:iq 1 (x0::Ť) M q=æ:=rfl
theorem aak {r:eI}:iq 2 (x0::x1::Ť) M q=æ:=rfl
theorem aaj {r:eI}:iq 3 (x0::x1::x2::Ť) M q=æ:=rfl
theorem aai {r:eI}:iq 4 (x0::x1::x2::x3::Ť) M q=æ:=rfl
theorem aah {r:eI}:iq 5 (x0::x1::x2::x3::x4::Ť) M q=æ:=rfl
theorem aag {r:eI}:iq 6 (x0::x1::x2::x3::x4::x5::Ť) M q=æ:=rfl
theorem aaf {r:eI}:iq 7 (x0::x1::x2::x3::x4::x5::x6::Ť) M q=æ:=rfl
theorem aae {r:eI}:iq 8 (x0::x1::x2::x3::x4::x5::x6::x7::Ť) M q=æ:=rfl
theorem aad {r:eI}:iq 9 (x0::x1::x2::x3::x4::x5::x6::x7::x8::Ť) M q=æ:=rfl
theorem ZW {r:eI}:iq 10 (x0::x1::x2::x3::x4::x5::x6::x7::x8::x9::Ť) M q=æ:=rfl
theorem ZV {r:eI}:iq 11 (x0::x1::x2::x3::x4::x5::x6::x7::x8::x9::sx::Ť) M q=æ:=rfl
theorem ZU {r:eI}:iq 12 (x0::x1::x2::x3::x4::x5::x6::x7::x8::x9::sx::tM::Ť) M q=æ:=rfl
theorem ZT {r:eI}:iq 13 (x0::x1::x2::x3::x4::x5::x6::x7::x8::x9::sx::tM::vC::Ť) M q=æ:=rfl
theorem ZS {r:eI}:iq 14 (x0::x1::x2::x3::x4::x5::x6::x7::x8::x9::sx::tM::vC::xV::Ť) M q=æ:=rfl
theorem ZR {r:eI}:iq 15 (x0::x1::x2::x3::x4::x5::x6::x7::x8::x9::sx::tM::vC::xV::zA::Ť) M q=æ:=rfl
theorem ZQ {r:eI}:iq 16 (x0::x1::x2::x3::x4::x5::x6::x7::x8::x9::sx::tM::vC::xV::zA::BG::Ť) M q=æ:=rfl
theorem ZP {r:eI}:iq 17 (x0::x1::x2::x3::x4::x5::x6::x7::x8::x9::sx::tM::vC::xV::zA::BG::FL::Ť) M q=æ:=rfl
theorem ZO {r:eI}:iq 18 (x0::x1::x2::x3::x4::x5::x6::x7::x8::x9::sx::tM::vC::xV::zA::BG::FL::Hw::Ť) M q=æ:=rfl
theorem ZN {r:eI}:iq 19 (x0::x1::x2::x3::x4::x5::x6::x7::x8::x9::sx::tM::vC::xV::zA::BG::FL::Hw::Mt::Ť) M q=æ:=rfl
theorem ZM {r:eI}:iq 20 (x0::x1::x2::x3::x4::x5::x6::x7::x8::x9::sx::tM::vC::xV::zA::BG::FL::Hw::Mt::Ru::Ť) M q=æ:=rfl
theorem ZL {r:eI}:iq 21 (x0::x1::x2::x3::x4::x5::x6::x7::x8::x9::sx::tM::vC::xV::zA::BG::FL::Hw::Mt::Ru::VD::Ť) M q=æ:=rfl
theorem ZK {r:eI}:iq 22 (x0::x1::x2::x3::x4::x5::x6::x7::x8::x9::sx::tM::vC::xV::zA::BG::FL::Hw::Mt::Ru::VD::x21::Ť) M q=æ:=rfl
theorem ZJ {r:eI}:iq 23 (x0::x1::x2::x3::x4::x5::x6::x7::x8::x9::sx::tM::vC::xV::zA::BG::FL::Hw::Mt::Ru::VD::x21::x22::Ť) M q=æ:=rfl
theorem afJ:wC x ρ M q=æ:=rfl
theorem afm:wOp r a b ρ M q=oľ:=rfl
theorem afj:wUn r a ρ M q=kύ:=rfl
def afI:wI C g fŐ (dų) M q=jg (C i j) (hġ):=by apply propext;symm;(· rintro⟨_,_,h1,h2,k⟩;cases h1;cases h2;show k);(· intro h;show hħ)
def afp:wI0 g fŐ (dų) M q=hġ:=by apply propext;symm;(· rintro⟨_,_,h1,h2,k⟩;cases h1;cases h2;show k);(· intro h;show hħ)
def afH:wU g fŐ M q=gą:=by apply propext;symm;(· rintro⟨_,h,k⟩;cases h;show k);(· intro h;show Ų)
def afq:wEq fŐ (dų) M q=q (wb (eŬ)) M:=by apply propext;symm;(· rintro⟨_,_,h1,h2,_,k⟩;cases h1;cases h2;simpa using k);(· intro h;show lą)
def afn:wNe fŐ (dų) M q=q (wb (! eŬ)) M:=by apply propext;symm;(· rintro⟨_,_,h1,h2,_,k⟩;cases h1;cases h2;simpa using k);(· intro h;show lą)
theorem ZX:HB a ρ M q=a ρ M λx M1=>U' x M1 q:=rfl
theorem aaC:V1 a b ρ M q=a ρ M λc M1=>iK c dŴ (q false M1):=rfl
theorem afl:wOr a b ρ M q=a ρ M λc M1=>iK c (q true M1) dŴ:=rfl
theorem aar:VP a ρ M q=lā:=rfl
theorem Z8:Pn a b ρ M q=a ρ M λx M1=>U' x M1 λc M1=>iK c dŴ (q cϒ M1):=rfl
theorem aaq:VM a b ρ M q=a ρ M λx M1=>U' x M1 λc M1=>iK c (q (aϰ) M1) dŴ:=rfl
theorem Z0:Pf a ρ M q=a ρ M λx M1=>U' x M1 λc M1=>gĆ:=rfl
theorem afo:wIf c a b ρ M q=c ρ M λc M1=>iK c (a ρ M1 q) dŴ:=rfl
theorem VZ:HP r r' a b c ρ M q=a ρ M λx M1=>b ρ M1 λy M2=>r x y M2 λz M3=>U' z M3 λk M3=>iK k (c ρ M3 λy' M4=>r' y y' M4 q) (q cϒ M3):=rfl
theorem aas:Rz ρ M q=q [] M:=rfl
theorem Z5:tO a r ρ M q=oυ:=rfl
theorem aan:VH a ρ M q=a ρ M λxs M1=>jg jϊ (q ŝ M1):=rfl
theorem aat:VR a ρ M q=a ρ M λxs M1=>jg jϊ (ux M1 λp=>mġ):=rfl
def aax:VS fŏ fŐ M q=lstK aâ λl=>kń:=by apply propext;symm;(· rintro⟨_,l,_,u,h1,h2,h3,h4,k⟩;cases h1;cases h2;show#[l,h3,u,h4,k]);(· rintro⟨l,h3,u,h4,k⟩;show#[_,l,_,u,rfl,rfl,h3,h4,k])
def aaw:RD bŇ fŐ M q=kń:=by apply propext;symm;(· rintro⟨_,_,u,h1,h2,h4,k⟩;cases h1;cases h2;show#[u,h4,k]);(· rintro⟨u,h4,k⟩;show#[_,_,u,rfl,rfl,h4,k])
theorem UR:DK ρ M q=q none M:=rfl
def Oc (x:W)(k:cχ):Prop:= ∃i,aň /\ k i
def abp:Oc fŐ k=k i:=by apply propext;symm;(· rintro⟨_,h,k⟩;cases h;show k);(· intro h;show Ų)
theorem ZZ:Pe a ρ M q=a ρ M λx M1=>Oc x λi=>fń:=rfl
theorem afk:wSl r a lo hi ρ M q=pΟ:=rfl
def aao:VJ fŏ lo hi M q=lstK aâ λl=>ux M λp=>nϴ:=by apply propext;symm;(· rintro⟨_,l,h1,h3,k⟩;cases h1;show#[l,h3,k]);(· rintro⟨l,h3,k⟩;show gό)
theorem afr:wCB r a ρ M q=lŘ:=rfl
theorem Z7:HQ p a ρ M q=a ρ M λxs M1=>Bk p xs M1 q:=rfl
def aav:RC [dŲ] M q=lstK aâ λl=>hϜ:=by apply propext;symm;(· rintro(⟨_,l,h1,h2,k⟩ | ⟨_,h1,_⟩);(· cases h1;show cĤ);cases h1);(· rintro⟨l,h3,k⟩;show .inl gό)
def aau:RC [Č] M q=hϜ:=by apply propext;symm;(· rintro(⟨_,l,h1,h2,k⟩ | ⟨_,h1,k⟩);(· cases h1);cases h1;show k);(· intro k;show .inr #[l,rfl,k])
def aaD:V3 [dś] M q=nü:=by apply propext;symm;(· rintro⟨_,h,k⟩;cases h;show k);(· intro h;show Ų)
def Z2:Pg [dś, dų] M q=ný:=by apply propext;symm;(· rintro⟨_,_,h,k⟩;cases h;show k);(· intro h;show eŭ)
def UT:xW [dŲ] M q=lstK aâ λl=>nώ:=by apply propext;symm;(· rintro⟨l,⟨_,h1,h2⟩ | h1,k⟩;(· cases h1;show cĤ);cases h1);(· rintro⟨l,h3,k⟩;show lĆ)
def US:xW [Č] M q=nώ:=by apply propext;symm;(· rintro⟨l,⟨_,h1,h2⟩ | h1,k⟩;(· cases h1);cases h1;show k);(· intro k;show#[l, ĸ,k])
def Ry:zB [dŲ] M q=lstK aâ λl=>q bŇ M:=by apply propext;symm;(· rintro⟨l,⟨_,h1,h2⟩ | h1,k⟩;(· cases h1;show cĤ);cases h1);(· rintro⟨l,h3,k⟩;show lĆ)
def aay:VT K gΩ M q=vL (_a M x) λt=>vL (kľ) λb=>q (wb b) M:=by apply propext;symm;(· rintro⟨_,_,t,b,h1,h2,h3,k⟩;cases h1;show#[t,h2,b,h3,k]);(· rintro⟨t,h2,b,h3,k⟩;show#[_,_,t,b,rfl,h2,h3,k])
theorem Qx:W.kitOne K Ν Ν=cþ:=rfl
theorem N6:W.kitOne K Ν ϋ=Ů:=rfl
theorem Qw:W.kitOne K Ν Ξ=Ů:=rfl
theorem L6:W.kitOne K Ν Ϛ=Ů:=rfl
theorem N5:W.kitOne K Ν ό=Ů:=rfl
theorem N8:W.kitOne K ϋ Ν=cþ:=rfl
theorem L8:W.kitOne K ϋ ϋ=cþ:=rfl
theorem N7:W.kitOne K ϋ Ξ=Ů:=rfl
theorem Kd:W.kitOne K ϋ Ϛ=Ů:=rfl
theorem L7:W.kitOne K ϋ ό=Ů:=rfl
theorem Qv:W.kitOne K Ξ Ν=Ů:=rfl
theorem NX:W.kitOne K Ξ ϋ=Ů:=rfl
theorem Qu:W.kitOne K Ξ Ξ=cþ:=rfl
theorem L3:W.kitOne K Ξ Ϛ=Ů:=rfl
theorem NW:W.kitOne K Ξ ό=Ů:=rfl
theorem Gm:W.kitOne K iĚ Ν=Ů:=rfl
theorem ET:W.kitOne K iĚ ϋ=Ů:=rfl
theorem Gk:W.kitOne K iĚ Ξ=Ů:=rfl
theorem CO:W.kitOne K iĚ Ϛ=Ů:=rfl
theorem ES:W.kitOne K iĚ ό=Ů:=rfl
theorem LZ:W.kitOne K Ϛ Ν=Ů:=rfl
theorem Kb:W.kitOne K Ϛ ϋ=Ů:=rfl
theorem LY:W.kitOne K Ϛ Ξ=Ů:=rfl
theorem Hq:W.kitOne K Ϛ Ϛ=cþ:=rfl
theorem Ka:W.kitOne K Ϛ ό=Ů:=rfl
theorem N1:W.kitOne K ό Ν=Ů:=rfl
theorem L5:W.kitOne K ό ϋ=Ů:=rfl
theorem NY:W.kitOne K ό Ξ=Ů:=rfl
theorem Kc:W.kitOne K ό Ϛ=Ů:=rfl
theorem L4:W.kitOne K ό ό=cþ:=rfl
def afs:wBM r a b ρ M q=a ρ M λx M1=>iu x λp=>lstK aŐ λ_=>mĥ:=by unfold wBM IsL iu lstK;congr 1;funext x M1;apply propext;symm;(· rintro⟨⟨p,l,h1,h2⟩,k⟩;show#[p,h1,l,h2,k]);(· rintro⟨p,h1,l,h2,k⟩;show#[#[p,l,h1,h2],k])
def UW:DL fŏ [y] M q=lstK aâ λl=>jg iϰ (q wn (um M x hĢ)):=by apply propext;symm;(· rintro⟨_,l,_,h1,h2,h3,h4,k⟩;cases h1;cases h2;show#[l,h3,h4,k]);(· rintro⟨l,h3,h4,k⟩;show#[_,l,_,rfl,rfl,h3,h4,k])
def aaA:V0 fŏ (.v (.ref y)) M q=lstK aâ λl=>lstK (M y) λl'=>jg mΜ (ux M λp=>nþ):=by apply propext;symm;(· rintro⟨_,_,l,l',h1,h2,h3,h4,h5,k⟩;cases h1;cases h2;show#[l,h3,l',h4,h5,k]);(· rintro⟨l,h3,l',h4,h5,k⟩;show#[_,_,l,l',rfl,rfl,h3,h4,h5,k])
theorem VI:HA a ρ M q=a ρ M λx M1=>HW M1 x λk=>q k M1:=rfl
theorem Z3:Pl ρ M q=ux M λp=>q č hϞ:=rfl
def Z4:HM a b ρ M q=a ρ M λx M1=>b ρ M1 λy M2=>iu x λp=>qM y λk=>k_ aő λkvs=>vL (bŘ) λz=>q z M2:=by unfold HM iu qM k_ vL;congr 1;funext x M1;congr 1;funext y M2;apply propext;symm;(· rintro⟨p,kvs,k,z,h1,h2,h3,h4,h⟩;show#[p,h1,k,h3,kvs,h2,z,h4,h]);(· rintro⟨p,h1,k,h3,kvs,h2,z,h4,h⟩;show#[p,kvs,k,z,h1,h2,h3,h4,h])
def UV:xY a b ρ M q=a ρ M λy M1=>b ρ M1 λx M2=>iu x λp=>qM y λk=>k_ aő λkvs=>mΝ:=by unfold xY iu qM k_;congr 1;funext x M1;congr 1;funext y M2;apply propext;symm;(· rintro⟨p,kvs,k,h1,h2,h3,h⟩;show#[p,h1,k,h3,kvs,h2,h]);(· rintro⟨p,h1,k,h3,kvs,h2,h⟩;show#[p,kvs,k,h1,h2,h3,h])
def VX:BJ a b c ρ M q=a ρ M λx M1=>iu x λp=>k_ aŐ λ_=>b ρ M1 λy M2=>c ρ M2 λz M3=>qM y λk=>k_ (M3 p) λkvs=>lĂ:=by
 unfold BJ iu qM k_;congr 1;funext x M1;apply propext;symm;rintro⟨p,h1,⟨kvs,h2⟩,h⟩;exact#[p,h1,kvs,h2,?_];have e:rě:=by funext y M2;congr 1;funext z M3;apply propext;symm;rintro⟨a,b,c,d,e⟩;show eŮ;rintro⟨b,d,a,c,e⟩;show eů
 rw[<- e];show h;rintro⟨p,h1,kvs,h2,h⟩;exact#[p,h1,#[kvs,h2],?_];have e:rě:=by funext y M2;congr 1;funext z M3;apply propext;symm;rintro⟨a,b,c,d,e⟩;show eŮ;rintro⟨b,d,a,c,e⟩;show eů
 rw[e];show h
theorem ce:fő=a {nx:=b D,rt:=D.rt,bk:=D.bk,ct:=D.ct} ρ M:=rfl
theorem _j:PY D ρ M=cğ:=rfl
theorem _n:P_ D ρ M=D.ct ρ M:=rfl
theorem _m:PZ a D ρ M=lŚ:=rfl
theorem aaR:WF a D ρ M=dũ:=rfl
theorem _i:PX D ρ M=D.rt wn M:=rfl
theorem aft:_k c a b D ρ M=c ρ M λk M1=>iK k (a D ρ M1) (b D ρ M1):=rfl
theorem aaU:WW a g D ρ M=mŝ:=rfl
def V8 (xs:Ì)(k:W ->bţ):Prop:=cM λx y=>xs= aÍ /\ k x y
def aaH:V8 aÍ k=k x y:=by apply propext;symm;(· rintro⟨_,_,h,z⟩;cases h;show z);(· intro h;show eŭ)
theorem aaS:WH i j a D ρ M=a ρ M λxs M1=>V8 xs λx y=>oχ:=rfl
def WU:Cb a b c D ρ M=c ρ M λz M1=>a ρ M1 λx M2=>b ρ M2 λy M3=>iu x λp=>qM y λk=>k_ (M3 p) λkvs=>jg jϠ oÕ:=by unfold Cb iu qM k_ jg;congr 1;funext z M1;congr 1;funext x M2;congr 1;funext y M3;apply propext;symm;(· rintro⟨p,kvs,k,h1,h2,h3,h4,h⟩;show#[p,h1,k,h3,kvs,h2,h4,h]);(· rintro⟨p,h1,k,h3,kvs,h2,h4,h⟩;show#[p,kvs,k,h1,h2,h3,h4,h])
theorem aaT:WJ it g b D ρ M=it ρ M λxs keep M1=>kŅ:=rfl
theorem WD:fŎ=fŒ:=rfl
theorem Z9:HR i x ρ M q=q (hϚ) M:=rfl
def aaG:RH [] ρ M q=q ρ M:=by simp[RH]
def Z_:Pp a b (x::r) ρ M q=nÂ:=by apply propext;symm;(· rintro⟨_,_,h,k⟩;cases h;show k);(· intro h;show eŭ)
def aaE:V5 n a bŇ ρ M q=jg (cϗ) eš:=by apply propext;symm;(· rintro⟨_,h,k,l⟩;cases h;show#[k,l]);(· rintro⟨h,l⟩;show#[_,rfl,h,l])
theorem aaF:V6 a b s x ρ M q=pŋ:=rfl
def ZY:Pd fŏ fŐ z M q=lstK aâ λl=>vL (fŃ) λj=>q (um M x iļ):=by apply propext;symm;(· rintro⟨_,l,_,j,h1,h2,h3,h4,k⟩;cases h1;cases h2;show#[l,h3,j,h4,k]);(· rintro⟨l,h3,j,h4,k⟩;show#[_,l,_,j,rfl,rfl,h3,h4,k])
def _P:Kj a ρ M q=a ρ M λx M1=>iu x λp=>lstK aŐ λl=>q l lΕ M1:=by unfold Kj iu lstK;congr 1;funext x M1;apply propext;symm;(· rintro⟨p,l,h1,h2,h⟩;show#[p,h1,l,h2,h]);(· rintro⟨p,h1,l,h2,h⟩;show#[p,l,h1,h2,h])
theorem abm:XX a ρ M q=a ρ M λx M1=>tupK x λl=>q l dū M1:=rfl
def Cv (xs:Ì)(k:bţ):Prop:= ∃x,xs= [x] /\ k x
def aa6:Cv [x] k=k x:=by apply propext;symm;(· rintro⟨_,h,k⟩;cases h;show k);(· intro h;show Ų)
def _O:Ki a ρ M q=a ρ M λxs M1=>Cv xs λx=>Oc x λj=>jg (lś) nĳ:=by unfold Ki Cv Oc jg;congr 1;funext x M1;apply propext;symm;(· rintro⟨j,h1,h2,h3,h⟩;show#[_,h1,j,rfl,#[h2,h3],h]);(· rintro⟨_,h1,j,rfl,⟨h2,h3⟩,h⟩;show#[j,h1,h2,h3,h])
theorem Z6:Pm it own fr g c el ρ M q=it ρ M λxs keep M1=>nĀ:=rfl
theorem aac:Rw ρ M q=q true M:=rfl
def sl1:(1<=sizeLine)=True:=by rw[c8];decide
def sl2:(dĖ)=True:=by rw[c8];decide
def sl3:(3<=sizeLine)=True:=by rw[c8];decide
def sl4:(dŵ)=True:=by rw[c8];decide
def sl0:(0<=sizeLine)=True:=by simp
def d4 [dè](h1:c ->A)(h2:¬c ->B):iK (decide c) A B:=by unfold iK;by_cases h:c;rw[ak (cc h)];show h1 h;rw[ai ⇑h];show h2 h
def Ko [dè](h1:¬c ->A)(h2:c ->B):iK (!decide c) A B:=by unfold iK;by_cases h:c;rw[ai ⇑h];show h2 h;rw[ak ⇑h];show h1 h
def yH (h1:ò ->A)(h2:b=false ->B):iK b A B:=by
 unfold iK;cases b with
 | true=>rw[Ć];show h1 rfl
 | false=>rw[eû];show h2 rfl
theorem lf {M1:Mp}(f:W ->Ë)(hz:Ϩ)(kx: jϷ)(hs: ∀ (i:Nat) x,Ψ -> ∀ (M:Mp) (N:hĦ),aϳ ->N (f x) M ->g x gĈ M qû)(hq: pι):nĀ:=G1 f hz kx hs hq
universe WL
namespace WL
def Yl (f:ώ)(ρ:eI)(M:Mp):Prop:=f ρ M
theorem kh (h:f ρ M):Yl f ρ M:=h
theorem eU:fő=a {nx:=Yl (b D),rt:=D.rt,bk:=D.bk,ct:=D.ct} ρ M:=rfl
theorem C3 (Mid:ώ)(rest: ∀ρ M,Mid ρ M ->R D ρ M)(h: ∀N:ώ,(∀ρ M,Mid ρ M ->N ρ M) ->_k c a b {nx:=N,rt:=D.rt,bk:=D.bk,ct:=D.ct} ρ M):MT (_k c a b) R D ρ M:=h _ rest
theorem f9 (I:jĹ)(h0:I 0 ρ M1)(hk: oŜ)(hs: ∀i x ρ M,Ψ ->bŝ -> ∀N:ώ,(∀ρ' M',I ß ρ' M' ->N ρ' M') ->g x ρ M λρ2 M2=>b nÆ ρ2 M2)(hd: nό):kŅ:=#[I,h0,hk,λi x ρ M hx hI=>hs i x ρ M hx hI _ cΩ,hd]
theorem sR (I:jĹ)(m:Nat)(h0:bŞ)(hs: ∀m ρ M,bŞ -> ∀N:ώ,(∀m' ρ' M',m'<m ->dŮ ->N ρ' M') ->c ρ M λk M1=>iK k (b nÆ ρ M1) (cϘ)):fŒ:=#[I,#[m,h0],λm ρ M hI=>hs m ρ M hI _ λm' _ _ hm h=>#[m',hm,h]]
universe WL
namespace WL
open L2
def Sd:WS:=gÒ
instance {K:iQ}:IS K Ih Sd where
 imp:=λ_ _ _ _ _ _ _ h _=>h.elim
universe WL
namespace WP
open PySem L2 WL
abbrev Pt:=fō
def look:gĊ
 | [],_=>0
 | q::r,x=>if aã then q.2 else bŤ
def cX (p:Int)(l:Pt):Prop:=(∀q∈l,0<q.2 /\ q.2<p) /\ mÍ
def dM:gĊ
 | [],_=>0
 | q::r,x=>(lć)+aŒ
def gS (a b:Pt)(x:Int):dM aœ x=aŔ+dM b x:=by
 induction a with
 | nil=>simp[dM]
 | cons q r ih=>rw[List.cons_append,dM,dM,ih];exact rą
def oN (a:Pt)(q:Ō)(x:Int):dM (a++ [q]) x=aŔ+lć:=by rw[gS];simp[dM]
def fJ (h: hĨ):bť=0:=by
 induction l with
 | nil=>rfl
 | cons q r ih=>rw[look,iŁ,mĪ]
def sT (h: hĨ):dM l x=0:=by
 induction l with
 | nil=>rfl
 | cons q r ih=>rw[dM,iŁ,mĪ];rfl
def tV (h:mÍ)(x:Int):dM l x=bť:=by
 induction l with
 | nil=>rfl
 | cons q r ih=>rw[cu] at h;rw[dM,look,ih h.2];by_cases e:aã;rw[È,È,fJ];exact qύ;intro z hz;have:=bŦ;lia;rw[É,É];exact qώ
def uA (hp:0<p)(h:aŕ)(x:Int):0<=bť /\ bť<p:=by
 induction l with
 | nil=>rw[look];exact kņ
 | cons q r ih=>rw[look];split;have:=h.1 q ś;exact nā;show ih oψ
theorem cX.tail {r:Pt}(h:cX p (q::r)):cX p r:=oψ
theorem cX.nil:cX p []:=#[lœ,List.Pairwise.nil]
theorem s_ {p p':Int}: ∀ {a b:Pt},cX p a ->cX p' b ->(∀x,ō=bŧ) ->a=b
 | [],[],_,_,_=>rfl
 | [],q::r,_,hb,h=>by have:=h q.1;rw[look,look,Ć] at this;have:=hb.1 q ś;lia
 | q::r,[],ha,_,h=>by have:=h q.1;rw[look,look,Ć] at this;have:=ha.1 q ś;lia
 | q ::r,q'::r',ha,hb,h=>by
  have pa:=ha.1 q ś;have pb:=hb.1 q' ś;have sa:=(cu.mp ha.2).1;have sb:=(cu.mp hb.2).1;have e1:q.1=q'.1:=by obtain l | l | l:=Int.lt_trichotomy q.1 q'.1;have e:=h q.1;rw[look,Ć,look,qŋ,fJ (λz hz=>by have:=sb z hz;exact qϮ)] at e;lia;show l;have e:=h q'.1;rw[look,qŋ,fJ (λz hz=>by have:=a϶;exact qϮ),look,Ć] at e;lia
  have e2:q.2=q'.2:=by have e:=h q.1;rw[look,Ć,look,ak e1.symm] at e;show e
  have e:r=r':=s_ ha.tail hb.tail λx=>by by_cases hx:aã;rw[fJ (λz hz=>by have:=a϶;exact λe=>Lqf Ĝ nĵ jϹ oø rfl),fJ (λz hz=>by have:=sb z hz;exact λe=>Lqf ř (.a Lq0 nĝ) mΟ (LqIp (LqIe e1) oø) rfl)];have e:=h x;rwa [look,aÞ,look,ø] at e
  rw[e,Prod.ext e1 e2]
def jR (p:Int):Pt ->Int ->Int ->Pt
 | [],x,s=>if s % p=0 then [] else [(x,s % p)]
 | q::r,x,s=>if x<q.1 then(if s % p=0 then q::r else(x,s % p)::q::r) else if x=q.1 then(if dŷ=0 then r else(x,dŷ)::r) else q::jR p r x s
def lu (p:Int)(ps:Pt):Pt:=ps.foldl (λa q=>jR p a q.1 q.2) []
def xP (h:z∈cϜ):aä \/ z∈l:=by
 induction l with
 | nil=>rw[jR] at h;split at h;cases h;left;rw[aϷ]
 | cons q r ih=>rw[jR] at h;split at h;split at h;show aŖ;obtain h | h:=aϠ;left;rw[h];show aŖ;split at h;split at h;show hϡ;obtain h | h:=aϠ;left;rw[h];show hϡ;obtain h | h:=aϠ;show hϡ;obtain h | h:=ih h;show aĠ;show hϡ
def CG {p s:Int}(hp:0<p)(h:¬s % p=0):0<s % p /\ s % p<p:=by have:=dD s qς;have:=cY s hp;lia
def Hc (hp:0<p)(h:aŕ):cX p (cϜ):=by
 induction l with
 | nil=>rw[jR];split;show cX.nil;rename_i hs;show#[λq hq=>by rw[bŨ];show bũ,by simp]
 | cons q r ih=>have sa:=dŶ.1;rw[jR];split;rename_i hx;split;show h;rename_i hs;exact#[dŸ,cu.mpr #[dŸ,h.2]];obtain rfl | hz:=bŪ;show bũ;show bŦ;obtain rfl | hz:=bŪ;show hx;have:=a϶;change x<z.1;exact Int.lt_trans hx this;split;rename_i hx;split;show h.tail;rename_i hs;exact#[dŸ,cu.mpr #[dŸ,h.tail.2]];obtain rfl | hz:=bŪ;show bũ;show h.1 z fœ;have:=a϶;change x<z.1;exact Int.lt_of_le_of_lt cĦ this;rename_i h1 h2;have ih':=ih h.tail;exact#[dŸ,cu.mpr #[dŸ,ih'.2]];obtain rfl | hz:=bŪ;show h.1 z ś;show ih'.1 z hz;obtain e | hz:=xP hz;exact Int.lt_of_lt_of_le (LqIk cß eŰ) Ŏ;show a϶
def CL (hp:0<p)(h:aŕ)(y:Int):look (cϜ) y=if y=x then(bť+s) % p else look l y:=by
 induction l with
 | nil=>rw[jR];by_cases hs:s % p=0;rw[ak hs];simp[look,hs];rw[ai hs];by_cases e:y=x;subst e;simp[look];rw[É];simp[look,aZ e]
 | cons q r ih=>
  have sa:=dŶ.1;have qr:=h.1 q ś;rw[jR];split;rename_i hx;have hn:fŕ=0:=fJ (λz hz=>by obtain rfl | hz:=bŪ;exact λe=>Lqf Û ϳ ο (LqIp hx ŭ) rfl;have:=a϶;exact λe=>Lqf Ĝ oΧ jϹ (LqIp hx kŇ) rfl);rw[hn,bQ];split;rename_i hs;by_cases e:y=x;rw[È,e,hn,hs];rw[É];by_cases e:y=x;rw[È,look,ak e.symm];rw[É,look,cħ];split;rename_i hx;have hq:fŕ=q.2:=by rw[look,ak hx.symm]
  rw[hq];split;rename_i hs;by_cases e:y=x;rw[È,hs,fJ (λz hz=>by have:=a϶;lia)];rw[É,look,ø];by_cases e:y=x;rw[È,look,ak e.symm];rw[É,look,cħ,look,ø];rename_i h1 h2;rw[look,ih h.tail];by_cases e:y=x;rw[È,È,ø];conv=>rhs;rw[look,ai (by exact λe=>Lqf Û ϱ ο (LqIp cß ((LqIk Ŏ h2))) rfl)]
  rw[É,É,look]
def pj (p:Int)(ps:Pt)(q:Ō):lu p (ps++ [q])=jR p cĨ q.1 q.2:=by unfold lu;rw[List.foldl_append];rfl
def gB {α:Type}{P:Ý ->Prop}(h0:P [])(h1: ∀l a,P l ->P (l++ [a]))(l:Ý):P l:=by
 have key: ∀n:Nat, ∀l:Ý,cϗ ->P l:=by
  intro n;induction n with
  | zero=>intro l hl;rw[dy.mp hl];show h0
  | succ n ih=>
   intro l hl;have cS:aϐ:=by intro e;rw[e] at hl;cases hl
   rw[<- List.dropLast_concat_getLast cS];show h1 _ _ (ih _ (by rw[List.length_dropLast];exact LqNx (Lqj Ĝ Lq0 Lq1 lÆ lÏ (LqNp cĄ ((LqNt (Lqj Û ñ Lq0 lϰ ι nŨ rfl)))) rfl) (Lqj Ĝ Lq0 Lq1 lÍ ϲ (LqNp cñ LqNs) rfl)))
 show key _ l rfl
def ix (hp:0<p)(ps:Pt):cX p cĨ:=by
 induction ps using gB with
 | h0=>show cX.nil
 | h1 l a ih=>rw[pj];show Hc hp ih
def lZ (hp:0<p)(ps:Pt)(x:Int):look cĨ x=dM ps x % p:=by
 induction ps using gB with
 | h0=>simp[lu,look,dM]
 | h1 l a ih=>rw[pj,CL hp (ix hp l),oN];by_cases e:x=a.1;subst e;rw[Ć,Ć,ih,Int.emod_add_emod];rw[É,cħ,ih,bE]
def Hd:(cϜ).length<=l.length+1:=by
 induction l with
 | nil=>rw[jR];split<;>simp
 | cons q r ih=>rw[jR];split;split<;>simp;split;split<;>simp<;>exact Lqj [_] Lq0 ϵ ö ö LqN0 rfl;simp;show ih
def tf (p:Int)(ps:Pt):hĩ<=ps.length:=by
 induction ps using gB with
 | h0=>simp[lu]
 | h1 l a ih=>rw[pj,aO];show aI Hd (by simp;show ih)
def JM (h:z∈aϸ): ∃q∈ps,q.1=z.1:=by
 induction ps using gB generalizing z with
 | h0=>simp[lu] at h
 | h1 l a ih=>rw[pj] at h;obtain e | h:=xP h;show#[a,by simp,e.symm];let⟨q,h1,h2⟩:=ih h;show#[q,by simp[h1],h2]
def f8 (m:Pt):ű:=m.map λq=>(hĪ,aŏ)
def ng (m:Pt)(x v:Int):Pt:=if nĂ then oğ else dź
def qj {m:Pt}:nĂ↔hī:=by rw[List.any_eq_true,ag];symm;rintro⟨q,hq,e⟩;show fŖ;rintro⟨q,hq,e⟩;show fŖ
def yK (a b:Int):nĦ=eĊ:=by simp
def sY (m:Pt)(x v:Int):kq aŗ bū (wi v)=f8 (bŬ):=by
 unfold kq ng;have e:((f8 m).any λkv=>mī)=m.any iϷ:=by unfold f8;rw[List.any_map];congr 1;funext q;show yK _ _
 rw[e];split;unfold f8;rw[aJ,aJ];apply bK;intro q _;change(if hĪ=Sum.inl x then(hĪ,wi v) else(dŹ,aŏ))=((Sum.inl (mÎ).1:cL),wi (mÎ).2)
 by_cases hq:aã;rw[ak (by rw[hq]),ak hq];rw[ai (λz=>hq (Sum.inl.inj z)),ai hq];unfold f8;rw[aR];rfl
def xZ (m:Pt)(x:Int):ił=(mÏ).map λq=>aŏ:=by
 unfold fX f8;rw[List.find?_map,Option.map_map];have e:((λkv:cL×W=>mī) ∘ λq:Ō=>(hĪ,aŏ))=iϷ:=by funext q;show yK _ _
 rw[e];rfl
def mV:(mÏ)=none /\ ŏ=0 /\ hĬ \/ ∃q,(mÏ)=aŀ /\ ŏ=q.2:=by
 induction m with
 | nil=>show .inl #[rfl,rfl,by simp]
 | cons q r ih=>
  rw[dC,look];by_cases e:aã;simp![e,decide_true];show .inr #[q,rfl,by simp];simp![e,decide_false,bw];rcases ih with⟨h1,h2,h3⟩ | h
  show .inl #[h1,h2,by rw[aX,az,not_or];show#[aZ e,h3]];show aŖ
def tG (m:Pt)(x:Int):(ił).getD (wi 0)=wi (ŏ):=by rw[xZ];rcases hĭ with⟨h1,h2,_⟩ | ⟨q,h1,h2⟩ <;>rw[h1,h2] <;>rfl
def tQ (h:hī):ił=some (wi (ŏ)):=by
 rw[xZ];rcases hĭ with⟨_,_,h3⟩ | ⟨q,h1,h2⟩
 show absurd h h3;rw[h1,h2];rfl
def AB (m:Pt):(f8 m).map ć=(eű).map Sum.inl:=by unfold f8;rw[aJ,aJ];rfl
def xf:jϺ=if hī then eű else eű++ [x]:=by unfold ng;by_cases h:hī;rw[fŗ,ak h,aJ];apply bK;intro q _;change(mÎ).1=q.1;split<;>rfl;rw[jϻ,Æ,aR];rfl
def yE (h:jĻ):(jϺ).Nodup:=by rw[xf];by_cases e:hī;rw[È];show h;rw[É];show EE h e
def uD:(bŬ).length<=m.length+1:=by unfold ng;split;rw[ab];exact fø;simp
def qJ:look (bŬ) y=mÐ:=by
 unfold ng;by_cases h:hī;rw [fŗ];have key: ∀m:Pt,look (oğ) y=if y=x /\ hī then v else bŭ:=by
  intro m;induction m with
  | nil=>simp[look]
  | cons q r ih=>
   rw[aX,look,look,ih];by_cases hq:aã;by_cases hy:y=x;subst hy;simp[hq];simp[hq,hy,aZ hy];by_cases hy:y=x;subst hy;have:(y∈(q::r).map ć)=(y∈eŲ):=by rw[aX,az];simp[aZ hq]
   simp![this,hq,bw];simp[hq,hy]
 rw[key];simp[h];rw [jϻ];have key: ∀m:Pt,hĬ ->look (dź) y=mÐ:=by
  intro m;induction m with
  | nil=>intro _;by_cases e:y=x;simp[look,e];simp[look,e,aZ e]
  | cons q r ih=>intro hn;rw[aX,az,not_or] at hn;rw[List.cons_append,look,look,ih hn.2];by_cases e:y=x;subst e;simp[aZ hn.1];simp[e]
 show key m h
def U1 (m:Pt)(ns:ā):Pt:=ns.filterMap λx=>if ŏ=0 then none else some (x,ŏ)
theorem Av {m:Pt}{x:Int}: ∀ {ns:ā},ns.Nodup ->look (U1 m ns) x=if x∈ns then ŏ else 0
 | [],_=>rfl
 | n ::r,h=>by rw[bN] at h;have ih:=Av (m:=m) (x:=x) h.2;unfold U1 at ih ⊢;rw[List.filterMap_cons];by_cases e:bŮ=0;rw[È];change look (fŘ) x=_;rw[ih];by_cases hx:x=n;subst hx;rw[ai h.1,ak ś,e];simp[hx];rw[É];change look ((n,bŮ)::fŘ) x=_;rw[look,ih];by_cases hx:x=n;subst hx;rw[Ć,ak ś];rw[cϝ];simp[hx]
def wH {ns:ā}(h1:kĽ)(h2:ns.Nodup):ns.Pairwise cĩ:=by exact(List.Pairwise.and h1 h2).imp ?_;rintro a b ⟨h,n⟩;exact LqIk h n
def Eg (hp:0<p)(hn:jĻ)(ht: ∀x,ŏ=dM ps x % p)(dP:ns.Perm (eű))(hs:kĽ):U1 m ns=aϸ:=by have nd:=dP.nodup_iff.mpr hn;have st:=wH hs nd;exact s_ (p:=p) bŅ (ix hp ps) ķ;intro q hq;let⟨x,hx,e⟩:=List.mem_filterMap.mp hq;split at e;cases e;rename_i h0;cases e;have:=ht x;have:=dD (dM ps x) qς;have:=cY (dM ps x) hp;change 0<ŏ /\ ŏ<p;lia;unfold U1;exact List.Pairwise.filterMap _ ?_ st;intro a b KU c hc d hd;split at hc<;>cases hc;split at hd<;>cases hd;show KU;rw[Av nd,lZ hp];split;show ht x;rename_i hx;rw[<- ht x,fJ];intro q hq e;show hx (dP.mem_iff.mpr (by rw[<- e];show List.mem_map_of_mem hq))
def hV {ks:ā}: ∀ {l:ā},pù:=by
 induction ks with
 | nil=>intro l _ _;simp
 | cons k r ih=>
  intro l hn hs;rw[bN] at hn;have hk:k∈l:=hs k ś;have:=ih (l:=l.erase k) hn.2 λz hz=>by have hzk:z≠k:=iŃ;show pĊ
  rw[mÑ] at this;have:0<l.length:=lŜ;rw[aT];lia
def O1 (_:Pt):Prop:=True
theorem zw:O1 ps:=trivial
theorem OL (h:ps.length<64):O1 ps:=trivial
def Au (h:k∈jϺ):k=x \/ k∈eű:=by rw[xf] at h;split at h;show aŖ;obtain h | h:=ay.mp h;show aŖ;show .inl (aϷ)
universe WP
namespace WQ
open PySem L2 WL WP
def Xe:gA:=λxs M q=>gm λ bů Ġ=>jS (xs= [wr d,wi n]) cϞ (0<n) (n<cψ) (∀ (r:Int) (M':Mp),0<=r ->r<n ->cĪ ->cī ->q (wi r) M')
def pP:gA:=λxs M q=>cM λ bů=>d6 eŪ cϞ (∀ (p:Int) (M':Mp),lΖ ->cĪ ->cī ->q (Î) M')
def Qj:gA:=λxs M q=>gm λ aŘ Ĩ (ps:Pt)=>kM (xs= [Î,wr a]) (M a=kϒ) è (O1 ps) (ps.length<=Ő) (q (cK cĨ) M)
def Jw:gA:=λxs M q=>Lw λ bů (p most jf:Int)=>qk (xs= [wr d,Î,wi most,wi jf]) cϞ ař bŰ (0<=most) (most<63) (0<=jf) (jf<cĬ /\ ∀ (ps:Pt) (M':Mp),gύ <=most ->pú ->cĪ ->cī ->q (cK cĨ) M')
def pAt:gA:=λxs M q=>cM λ bű (x:Int)=>xs= [aś,wi x] /\ q (wi (cϟ)) M
def mv (qi:Int)(l:Pt):Pt:=l.map λz=>eų
def SJ:gA:=λxs M q=>cM λ bű (b:Int)=>d6 (xs= [aś,wi b]) kň (q (cK (mv b pat)) M)
def aa0:gA:=λxs M q=> ∃i:Int,cϖ /\ fř
def SN:gA:=λxs M q=>cM λ Ĩ bű=>fU (xs= [Î,aś]) (cX p pat) kň gώ
def SS:gA:=λxs M q=>gm λ Ĩ bŲ=>kM (xs= [Î,cK a,cK b]) è (O1 aœ) (a.length<=aϹ) (b.length<=aϹ) (q (cK (lu p aœ)) M)
def tm (n:Int)(l:Pt):Pt:=l.map λz=>(z.1,z.2*n)
def SD:gA:=λxs M q=>gm λ Ĩ aŝ Ġ=>kM (xs= [Î,cK a,wi n]) è (O1 (tm n a)) (a.length<=ġ) (mÒ) (q (cK (lu p (tm n a))) M)
theorem big (h:n<=Ő):dĹ:=aI h iŅ
theorem qV (h:n<=Ő):n<sizeLine:=Nat.lt_of_le_of_lt h iŅ
theorem CD:(mv b l).length=l.length:=ab _
def _J:mv 0 l=l:=by
 unfold mv;have:(λz:Ō=>(z.1+0,z.2))=id:=by funext z;rw[bE];rfl
 rw[this,List.map_id]
def _M:look (mv b l) x=look l (x - b):=by
 induction l with
 | nil=>rfl
 | cons q r ih=>change look kÀ x=_;rw[look,look,ih];by_cases e:q.1+b=x;rw[È,rÜ];rw[É,ø]
def tU:dM (tm n l) x=dM l x*n:=by
 induction l with
 | nil=>simp[tm,dM]
 | cons q r ih=>change dM ((q.1,q.2*n)::tm n r) x=_;rw[dM,dM,ih,Int.add_mul];split<;>simp
def x_ (hp:0<p)(a:Pt)(x:Int):dM (lu p a) x=aŔ % p:=by rw[tV (ix hp a).2,lZ hp]
def BU:dM (mv b l) x=dM l (x - b):=by
 induction l with
 | nil=>rfl
 | cons q r ih=>change dM kÀ x=_;rw[dM,dM,ih];by_cases e:q.1+b=x;rw[È,rÜ];rw[É,ø]
theorem Uj (h:O1 a):O1 (tm n a):=trivial
def Lg (q:Ō):Bc (cx q)=some (lŝ):=by simp[cx,Bc,kE]
theorem vb: ∀l:Pt,kE cϛ=some où
 | []=>rfl
 | q::r=>by rw[aX,kE,Lg,vb r];rfl
def uk (l:Pt):Dt:= .tup où
def Ft (l:Pt):Bc (cK l)=some (uk l):=by rw[cK,Bc,vb];rfl
theorem oA: ∀l:Pt,kD où <=1
 | []=>by simp[kD]
 | q::r=>by rw[aX,kD];have:=oA r;simp![oB,kD];lia
def Ec (K:iQ):Sp:=λvs H Q _=>cM λ aŘ ż=>d6 gČ (kΧ) (∀ (d l:gg) (ms:ā) (H':Hp),d≠l ->H' d=some (.lst [aĻ, .int 0, .int 0, .int 11]) ->H' l=some (.lst (eŵ)) ->Q (ań) H')
def zR (K:iQ):Sp:=λvs H Q _=>cM λ aŘ ż=>d6 gČ (kΧ) (∀H',Q (bĤ) H')
def Xw (F:iϢ)(S:iU N [z] aϫ)(hN:2<=N.length)(pQ: ∀ (cdv:fi) (A:Around) (outer:aė) (s:fk) (H:Hp) (E:XK),qè ->∃ R,BF pγ aϪ (RT (FP (wF (Ec K) [] E0 (Iq (MJ 0) BX)) (lx 1)) R) /\∃w',IS K R w' /\ ∀d l M,bŢ ->w' {nx:=eĚ,rt:=λx _=>x=aϰ} pŌ M): cC P w K mg base f_ Ü f fd [z] (zR K):=by
 exact Hf.ok F S ((by rintro vs H Q E ⟨a,ns,h,_,_⟩;exact by rw[h];rfl)) nū;let⟨R,h1,w',h2,h3⟩:=kϏ;let⟨a,ns,rfl,hs,hq⟩:=h;exact#[_,h1,?_];let⟨n,hn⟩: ∃n,N.length=n+2:=#[eŶ, (by exact LqNx LqNs (LqNt hN))]
 have e0:L2.start N [V.ref a]=some (V.ref a)::none::List.replicate n none:=by unfold L2.start;rw[hn];rfl
 rw[e0];exact#[_,rfl,a,ns,rfl,hs,λd l ms H' cS hd hl=> ?_];change R _ _ H';exact h2.imp pŌ (um (um (cû) l iņ) d (.lst [wr l,wi 0,wi 0,wi 11])) _ H' _ _ #[#[?_,λi y e=> ?_],eŊ] (h3 d l _ #[ms,0,0,11,av,by rw[aH aϺ,av],⋯,cS]) #[iϯ,λy M' v H2 e _ _ r=> ?_,iϯ,iϯ];simp[hn];match i with
 | 0=>simp at e
 | 1=>simp at e;subst e;show#[ań,rfl,WR.v]
 | i+2=>simp[List.getElem?_replicate] at e
 by_cases hb:b=d;subst hb;rw[av] at e;cases e;show#[_,hd,db.cons WR.v (db.cons WR.v (db.cons WR.v (db.cons WR.v db.nil)))];rw[aH hb] at e;by_cases xm:b=l;subst xm;rw[av] at e;cases e;show#[_,hl,db.ofInts ms];rw[aH xm] at e;cases e;subst e;rw[r.eq];show hq H2
abbrev Rd:=aϻ
def gL (r:Rd):W:= .tup [wi r.1,cK r.2]
def jn (p:Int)(a b:Rd):Rd:=(a.1+b.1,lu p hϢ)
def bk (p:Int)(a:Rd):Rd:=(-a.1,lu p (tm Ï (fŚ)))
def Jv:gA:=λxs M q=>Zq λ bů (p en most jf:Int)=>qk (xs= [wr d,Î,wi en,wi most,wi jf]) cϞ ař bŰ (0<=en) (en<cĬ) (0<=most) (fU (most<63) (0<=jf) (jf<cĬ) (∀ (g:Int) (ps:Pt) (M':Mp), -en<=g ->g<=en ->gύ <=most ->pú ->cĪ ->cī ->q (gL dŽ) M'))
def Nv:gA:=λxs M q=>gm λ Ĩ (a b:Rd)=>kM (xs= [Î,gL a,gL b]) è (O1 hϢ) kÁ (b.2.length<=ġ) (q (gL (jn p a b)) M)
def Xr:gA:=λxs M q=>cM λ Ĩ aŞ=>kM hϣ è (O1 (fŚ)) kÁ (∀z∈a.2,iń) (q (gL bų) M)
def Jz:gA:=λxs M q=>cM λ Ĩ aŞ=>fU hϣ (bŴ) (cϠ<=aş) gώ
def SG:gA:=λxs M q=>xs= [] /\ q (gL aŠ) M
def vd (r:Rd):Bc (gL r)=some lĈ:=by rw[gL,Bc,kE,kE,Ft,kE];rfl
def Us (r:Rd):oB lĈ <=50:=by
 simp![oB,kD];have:oB (uk r.2) <=2:=by unfold uk;rw[oB];have:=oA r.2;exact pû
 lia
def XB (e:a=b)(h:q cϒ M):RA (gL a) (gL b) M q:=by subst e;show#[_,_, dž, dž,rfl,Us a,by rw[kA];show h]
theorem Kh (hp:0<p)(a b:Rd):cX p (jn p a b).2:=ix hp _
theorem Uz (hp:0<p)(a:Rd):cX p bų.2:=ix hp _
def UA (p:Int)(a:Rd):hϤ<=cϠ:=by exact aI bŵ ?_;rw[tm,ab,CD];exact fê
theorem Sj {a b:Rd}(h1:a.1=b.1)(h2:a.2=b.2):a=b:=Prod.ext h1 h2
def RS (hp:0<p)(a:Rd)(x:Int):dM bų.2 x=(gϏ) % p:=by rw[bk,x_ hp,tU,BU];congr 1;rw[Int.mul_neg_one,Int.sub_neg]
theorem Ct (hp:0<p)(ha:cX p a)(hb:cX p b)(h: ∀x,aŔ=dM b x):a=b:=s_ ha hb λx=>by rw[<- tV ha.2, <- tV hb.2];show h x
theorem zV (h:cX p a)(hp:aŚ): mÒ:=λz hz=>by have:=bŦ;exact ⟨i϶,Int.lt_trans ú hp⟩
inductive ZI where
 | go (k:Int) | turn (k:Int)
def Y5 (s:aϻ):ZI ->aϻ
 | .go k=>(s.1+k,s.2)
 | .turn k=>(s.1,s.2++ [(s.1,k)])
def Rv (ds:fh ZI)(s:aϻ):aϻ:=ds.foldl Y5 s
universe WQ
namespace WL
open PySem PySem.Spec PyProof.Rows L2
theorem oE (bt:hĮ): ∀k,PySem.argBest bt k<=k
 | 0=>Â
 | k+1=>by unfold PySem.argBest;split;show Â;show Nat.le_succ_of_le (oE bt k)
theorem ss (val:cĭ): ∀k j,j<=k ->val j<=pĞ
 | 0, j, h => by have:j=0:=by exact LqNx h ϔ
                 subst this;show Ð
 | k + 1,j,h=>by
  have ih:=ss val k;unfold PySem.argBest;by_cases hb:val Ü >pĞ;rw[ak (cc hb)];obtain h' | h':=cϡ;have:=qá;exact Int.le_of_lt (Int.lt_of_le_of_lt this hb);have:j=k+1:=by exact cĮ
  subst this;show Ð;rw[ai aÓ];obtain h' | h':=cϡ;show qá;have:j=k+1:=by exact cĮ
  subst this;exact LqIz hb
theorem sq (val:cĭ): ∀k j,j<=k ->pċ <=val j
 | 0, j, h => by have:j=0:=by exact LqNx h ϔ
                 subst this;show Ð
 | k + 1,j,h=>by
  have ih:=sq val k;unfold PySem.argBest;by_cases hb:val Ü <pċ;rw[ak (cc hb)];obtain h' | h':=cϡ;have:=qá;exact Int.le_of_lt (Int.lt_of_lt_of_le hb this);have:j=k+1:=by exact cĮ
  subst this;show Ð;rw[ai aÓ];obtain h' | h':=cϡ;show qá;have:j=k+1:=by exact cĮ
  subst this;exact LqIz hb
def lE (ns:ā)(m:Int):Prop:=m∈ns /\ ∀x∈ns,x<=m
def gN (ns:ā)(m:Int):Prop:=m∈ns /\ ∀x∈ns,m<=x
def W4 (K:iQ):ϫ:=λxs H Q=>cM λ aš ż=>fU gč lŞ (bŶ) (∀m,lE ns m ->Q (.int m) H)
def Qf (K:iQ):ϫ:=λxs H Q=>cM λ aš ż=>fU gč lŞ (bŶ) (∀m,bÀ ->Q (.int m) H)
section
variable {X:Cx}
def mQ {ns:ā}(rv:cR gì its)(e:gϐ =ă): ∃t,v= .int (dſ) t /\ dγ:=by
 have e':gϑ:= Å;have df:=rv.length;have hi:dγ:=by have:=eŷ;rw[ab] at df;exact nĶ
 let⟨w',hw,vJ⟩:=rv.get (i:=i) (x:= .int ns[i]) kÂ;rw[e'] at hw;cases hw;let⟨t,rfl⟩:=vJ;show#[t,by simp[List.getD,hi],hi]
def Q1 {ns:ā}(h:dγ):dſ=ns[i]:=by simp[List.getD,h]
def Ln (hn:bŶ):lE ns (ns.getD (qâ) 0):=by
 have hl:dε:=lΗ;have hb:=oE (oĠ) gϒ;have hi:qâ <ns.length:=by exact qď
 exact hϥ;rw[Q1 hi];show cH hi;let⟨j,hj,rfl⟩:=lΘ;have:=ss iŇ gϒ j qż;have e:dδ=ns[j]:=by simp[List.getD,hj]
 simp![e] at this;show this
def Bl (hn:bŶ):gN ns (ns.getD (qÛ) 0):=by
 have hl:dε:=lΗ;have hb:=oE (oú) gϒ;have hi:qÛ <ns.length:=by exact qď
 exact hϥ;rw[Q1 hi];show cH hi;let⟨j,hj,rfl⟩:=lΘ;have:=sq iŇ gϒ j qż;have e:dδ=ns[j]:=by simp[List.getD,hj]
 simp![e] at this;show this
def Vx (hc:Ŷ):gz X hĉ (W4 X.K):=by
 intro aj s σ H xs us Q I r h;let⟨l,ns,rfl,hs,hn,q⟩:=h;let⟨u,rfl,ru⟩:=Ģ;cases ru;let⟨its,rv,ht,hz⟩:=cĔ;have hh:jĶ:=cπ;have df:lΙ:=by have:=rv.length;rw[ab] at this;simpa using this.symm
 have f7:iň:=by let⟨_,e,_⟩:=ht.isList;show Ç
 exact PySem.call_max_walkS ?_;exact mΡ;exact#[s.heap.objs.size,_,_,_,its.toArray.size,_,_,oĠ,rfl,pŲ,oĿ,ŷ,?_,PySem.CmpOf.ints_gt iŇ oŝ,hį];change mĬ;rw[dR];obtain rfl | hb:=bŷ;show dc _;rw[ő];show dW f7;rw[df];show lΗ;have hk: pČ:=qĐ;rw[hİ];let⟨t,rfl,_⟩:=bÂ;rw[df];show#[aĨ,H,kϓ,bŃ,q _ (Ln hn)]
def G5 (hc:Ŷ):gz X hı (Qf X.K):=by
 intro aj s σ H xs us Q I r h;let⟨l,ns,rfl,hs,hn,q⟩:=h;let⟨u,rfl,ru⟩:=Ģ;cases ru;let⟨its,rv,ht,hz⟩:=cĔ;have hh:jĶ:=cπ;have df:lΙ:=by have:=rv.length;rw[ab] at this;simpa using this.symm
 have f7:iň:=by let⟨_,e,_⟩:=ht.isList;show Ç
 exact PySem.call_min_walkS ?_;exact mΡ;exact#[s.heap.objs.size,_,_,_,its.toArray.size,_,_,oú,rfl,pŲ,oĿ,ŷ,?_,qĝ,hį];change mĬ;rw[dR];obtain rfl | hb:=bŷ;show dc _;rw[ő];show dW f7;rw[df];show lΗ;have hk: pČ:=qĐ;rw[hİ];let⟨t,rfl,_⟩:=bÂ;rw[df];show#[aĨ,H,kϓ,bŃ,q _ (Bl hn)]
variable {K:iQ}
def VQ:zy:=λxs M q=>cM λ aŘ ż=>fU eŝ mŞ (bŶ) (∀m,bÀ ->q (wi m) M)
instance:IC K (Qf K) VQ where
 imp:=by rintro xs v M H q Q m r1 ⟨a,ns,rfl,hl,hn,h⟩ k;let⟨v,rfl,r⟩:=r1.one;cases r.eq;let⟨vs,hv,rr⟩:=ŉ;cases rr.ints;show#[a,ns,rfl,Ŋ,hn,λx hx=>k _ M _ H (h x hx) Ż m WR.v]
universe e
universe WL
namespace WQ
open PySem L2 WL WP
def prc (p s:Int):Int:=if p - s<s then p - s else s
def D9 (a:Rd):ā:=0::a.1::bÃ ć
def Zp (i:Int):Int:=jϖ
def fwv (p:Int)(a:Rd)(lo hi:Int):Int:=2*(hi - lo) - Zp a.1+(bÃ λz=>prc p z.2).sum
def gN.uniq (h:gN ns a)(h':gN ns b):a=b:=by have:=h.2 b h'.1;have:=h'.2 a h.1;lia
def lE.uniq (h:lE ns a)(h':lE ns b):a=b:=by have:=h.2 b h'.1;have:=h'.2 a h.1;lia
universe WQ
namespace WL
open PySem PySem.Spec PyProof.Rows L2
def Mx:Pk [cϊ] M q=q (wi jĮ) M:=by apply propext;symm;rintro(⟨_,h,k⟩ | ⟨_,h,k⟩);cases h;cases h;show k;intro h;show .inr Ų
universe WL
namespace WQ
open PySem L2 WL WP
def vU (e n x:Int):Bool:=decide (x.fmod e=0) && (decide (0<=x.fdiv e) && decide (x.fdiv e<n))
universe WQ
namespace EN
open PySem PySem.Spec PyProof.Rows L2
open Sem (wp)
open AutoSeq1 (wpAny_loadPart')
def CC (hj:lĉ)(ht:jļ)(hx:bÁ =û)(hQ: ∀h',h'.IsTupleIter j t ß ->Heap.SameBut j s.heap h' ->Q x hΑ):pϭ:=by let⟨oj,QI,hcj,OA⟩:=id hj;let⟨ot,hot,_,nt,hdt⟩:=ht;unfold Builtin.SmallTypes.nextOf;exact rĥ;change oû;exact oŞ;change pϦ;rw[pμ];change oü;exact oω;change oŀ;exact mΥ;simp![Int.toNat_natCast,hx];exact ah (wpAny_setField QI OA ś (aD #[x,rfl,aD (hQ _ ?_ (kŉ))]));show#[_,Heap.get?_update_self _ QI (Obj.isFreed_of_fields (Obj.data_mapFields OA _)),(Obj.cls_mapFields ..).trans hcj,by rw[Obj.data_mapFields OA];simp[rawInt]]
def Gc (hh:gÛ)(hj:lĉ)(ht:jļ)(hx:bÁ =none)(hE: ∀h' e,Heap.ExtBut j s.heap h' ->(∃o,h'.get? e=ą /\ o.cls= kÃ) ->E (.ref e) hΑ):pϭ:=by
 let⟨oj,QI,hcj,OA⟩:=id hj;let⟨ot,hot,_,nt,hdt⟩:=ht;unfold Builtin.SmallTypes.nextOf;exact rĥ;change oû;exact oŞ;change pϦ;rw[pμ];change oü;exact oω;change oŀ;exact mΥ;simp![Int.toNat_natCast,hx];exact ah (eZ (ah (wpAny_setField QI OA ś ?_)));change wpAny _ _ (newExc (kÃ) [] >>=_) _ _ _;exact aÖ;simp![newExc,newTuple];exact ah (dY ?_ gĎ);exact ah (m:=firstArgMember _ _) (wpAny_of_eq (a:=Value.none) (by first | rfl | (simp![firstArgMember];rfl)) ?_);exact dY ?_ gĎ;simp![raiseNew];exact ah (wpAny_handled ?_);first | rw[show iŉ from hh] | rw[hh]
 exact ah (aD (wpAny_throw ?_));show hE _ _ (((kŉ).extBut.push _).push _) #[_,Ŀ,rfl]
theorem Lb {prog:Program}{w:World}{A:Around}(hh:gÛ)(j t:gg)(cS:t≠j)(its:aÎ): Draws prog w A j [j,t] its.size (λi v=>gϑ) (λi h=>h.IsTupleIter j t i /\ h.IsTuple t its) where
 live:=λ_ _ st=>let ⟨o,ho,_⟩:=st.1;#[o,ho]
 frame:=λ_ _ _ st hk=>#[let ⟨o,ho,r⟩:=st.1;#[o,hk j ś o ho,r],let ⟨o,ho,r⟩:=st.2;#[o,hk t ś o ho,r]]
 item:=λi s Q E hi st hQ=>by exact CC st.1 st.2 (x:=its[i]) fś λh' jW i0=> ?_;show hQ _ h' s.toks fś #[jW,st.2.extBut i0.extBut cS] i0
 done:=λs Q E st hE=>Gc hh st.1 st.2 ś hE
theorem S_ (t:gg)(its:aÎ)(n:Nat)(dct:aÒ)(sl:iP (fI fi)): Meets (Builtin.«enumerate.__new__» #[[hϦ, aĵ],[]]) (λ_ R s=>fŜ=some {cls:= fā,dict:=dct,data:= cż,slots:=sl} /\R (.ok (.ret (.ref qτ))) {s with heap:=rĨ}):= .of_wp λprog w A R s h=>by
 let⟨hp,g,d,tk,os⟩:=s;let⟨hl,h⟩:=h;have pM:=sub_enumerate;have hL:Heap.IsTuple (Shared.heap #[hp,g,d,tk,os]) t its:=#[_,hl,rfl,n,rfl]
 wp_walk using iŊ;exact wpAny_stack_any λst=>aÏ;split;rename_i c _ _ _ _ _;cases (c==Value.type dĚ);wp_walk using iŊ,kÄ;show Ų;wp_walk using iŊ,kÄ;show Ų;wp_walk using iŊ,kÄ;show Ų
def Dl (hL:jļ)(h: ∀h',IsEnum h' ϩ s.heap.objs.size 0 .none ->h'.IsTupleIter s.heap.objs.size t 0 ->h'.objs.size=s.heap.objs.size+2 ->(oϘ) ->Q (.ref ϩ) hΑ):wpAny Χ A (call (hϦ) [aĵ]) Q E s:=by
 let⟨⟨c,dct,dt,sl⟩,hl,hc,n,hd⟩:=hL;replace hc:c= fā :=hc;replace hd:dt= cż:=hd;subst hc hd;exact callType_new F.called_enumerate ⋯ (F.typeCall_enumerate_1 _) (F.newCall_enumerate_1 _) (λobj=>F.args_object_init_2 obj _) F.entry_enumerate_new (S_ t its n dct sl) #[hl,?_];have hz:qτ=iĘ:=dR ..;change _ /\ _;rw[hz];have he:IsEnum (rĨ) ϩ s.heap.objs.size 0 .none:=by have q:=aY (qŒ) (o:= qϰ) rfl;rw[hz] at q;show q
 exact#[#[_,he,rfl],h _ he #[_,aq _ (Ŀ),rfl,rfl] (by rw[dR,hz]) λb o x=>aq _ (aq _ x)]
universe EN
namespace EN
open PySem PySem.Spec PyProof.Rows L2 WL
def yJ {σ:L2.St}(I:ϙ)(k: ∀b o,b≠e ->b≠j ->oî)(fe:lq X aj H e)(fj:lq X aj H j)(new:fm X.prog X.w nķ h' s.heap.objs.size ŝ):Inv X aj σ nķ lγ:=by
 have YE:kΥ:=hΡ;have ne: ∀ {b u},cŻ ->gď:=λ{b u} q=>#[d3 q fe.1,d3 q fj.1]
 have nm: ∀ {b:gg},b∉ [e,j] ->gď:=λ{b} q=> ⇑q;exact I.call (ch:= [e,j]) (g':=s.gens) (d':=s.drawn) #[λb o q n _ hc=>mÓ,λb o q n _ hc=>#[o.slots,mÓ],λb o q n hc=> ?_,λb o q hc=>#[o,mÓ],λb ys q=> ?_,λb o u q=> ?_,λb ps q=>#[#[],?_]] ?_ I.bare ?_;rw[bS (a7 (aM q))];show n;rw[eŸ];show q;rw[eŸ];show q;rw[eŸ,q];simp;intro b u q;by_cases hb:b=s.heap.objs.size;subst hb;rw[cw] at q;cases q;show new;rw[aÑ] at q;exact(I.dU b u q).tY (λc v hc r=> ?_) (λc r=>by rw[eŹ];show r) λc ys r=>by rw[eŹ];show r
 obtain rfl | hc:=hc;show k _ v (ne q).1 (ne q).2 r;show k _ v (ne hc).1 (ne hc).2 r;intro b hb;obtain rfl | hb:=bŷ;show#[bŹ.1,fe.2.1,bŹ.2.1,bŹ.2.2];rw[ő];show#[bź.1,fj.2.1,bź.2.1,bź.2.2]
def LF (K:iQ)(a:gg):It:=#[oϬ,λi H v H'=>cM λp x=>fU (ń) (H'=lĊ) (v= aī) (nš),λi H=> ∃xs,dď /\ dŪ]
def LG (K:iQ)(a:gg):It:=#[oϫ,λi H v H'=>cM λp x=>fU (ń) (H'=lĊ) (v= aī) (nŠ),λi H=> ∃xs,dĎ /\ dŪ]
def BQ {P:Program}{w:World}{K:iQ}{vW:ğ}{x1}{pos:Pos}(a e j:gg)(TX:e≠j):vZ P w K iŋ (LF K a) [e,j] e (λi h=>mÔ /\ h.IsTupleIter j a i) where
 mem:=by simp
 obj:=λi h st b hb=>by let⟨eź,o,hj,c,d⟩:=st;obtain rfl | hb:=bŷ;show lċ;rw[ő];show nϏ
 keep:=λi h h' st k=>by let⟨eź,o,hj,r⟩:=st;show pč
 item := by
  intro X hP hw hK hc i aj s σ H E I hf st hg;subst hP hw hK;let⟨xs,x,hq,hx⟩:=hg;let⟨its,rv,p,hz⟩:=cο;let⟨eź,hj⟩:=st;have fe:=hf e ś;have fj:=gĐ;have vU:mē:=p;have ha:a≠j:=λz=>by let⟨o,h1,c1,_⟩:=vU;let⟨o2,h2,c2,_⟩:=hj;rw[z] at h1;rw[h1] at h2;cases h2;rw[c1] at c2;simp at c2
  have hae:a≠e:=λz=>by let⟨o,h1,c1,_⟩:=vU;rw[z] at h1;rw[he] at h1;cases h1;simp at c1
  have hi:iŌ:=by have:=eŻ;have:=rv.length;simp;lia
  exact wpAny_pyNext_enum_itemD qÃ he #[hj,vU] hi TX jĽ nĸ;exact pķ;let⟨u,hu,ru⟩:=cð;have eu:u=y:=by have:gϐ =þ:= ⇑hu;rw[hy] at this;show gđ
  subst eu;have QU:jľ:=jĿ;exact#[jϓ,oý,rÿ,rfl,#[_,x,hΡ,rfl,rfl,λys Kt=>by rw[I.qv Kt hq];show hx],hϨ,ŷ];show oþ;let⟨eż,_⟩:=gD;show nă;have:ľ:=dĜ;rw[bS (bŻ)];show this;let⟨o,h1,_⟩:=hj;obtain rfl | hb:=bŷ;show QU z.symm;rw[ő] at z;show nς
 done:=by
   intro X hP hw hK hc i aj s σ H E I hf st hg;subst hP hw hK;let⟨xs,hq,hx⟩:=hg;let⟨its,rv,p,hz⟩:=cο;let⟨eź,hj⟩:=st;have vU:mē:=p;have ha:a≠j:=λz=>by let⟨o,h1,c1,_⟩:=vU;let⟨o2,h2,c2,_⟩:=hj;rw[z] at h1;rw[h1] at h2;cases h2;rw[c1] at c2;simp at c2
   let⟨f0,f1,f2,f3,f4,f5⟩:=gĐ;have hl:iō:=by have:=rv.length;simp;exact qĂ
   exact wpAny_pyNext_enum_endD qÃ he fŝ qă
 self:=qÄ
def BR {P:Program}{w:World}{K:iQ}{vW:ğ}{x1}{pos:Pos}(a e j:gg)(TX:e≠j):vZ P w K iŋ (LG K a) [e,j] e (λi h=>mÔ /\ h.IsListIter j a i) where
 mem:=by simp
 obj:=λi h st b hb=>by let⟨eź,o,hj,c,d⟩:=st;obtain rfl | hb:=bŷ;show lċ;rw[ő];show nϏ
 keep:=λi h h' st k=>by let⟨eź,o,hj,r⟩:=st;show pč
 item := by
  intro X hP hw hK hc i aj s σ H E I hf st hg;subst hP hw hK;let⟨xs,x,hq,hx⟩:=hg;let⟨its,rv,p,hz⟩:=cï;let⟨eź,hj⟩:=st;have fe:=hf e ś;have fj:=gĐ;have vU:mÕ:=p.isList;have ha:a≠j:=λz=>by let⟨o,h1,c1,_⟩:=vU;let⟨o2,h2,c2,_⟩:=hj;rw[z] at h1;rw[h1] at h2;cases h2;rw[c1] at c2;simp at c2
  have hae:a≠e:=λz=>by let⟨o,h1,c1,_⟩:=vU;rw[z] at h1;rw[he] at h1;cases h1;simp at c1
  have hi:iŌ:=by have:=eŻ;have:=rv.length;simp;lia
  exact wpAny_pyNext_enum_itemD qî he #[hj,vU] hi TX jĽ nĸ;exact pķ;let⟨u,hu,ru⟩:=cð;have eu:u=y:=by have:gϐ =þ:= ⇑hu;rw[hy] at this;show gđ
  subst eu;have QU:jľ:=jĿ;exact#[jϓ,oý,rÿ,rfl,#[_,x,hΡ,rfl,rfl,λys Kt=>by rw[I.list_inj Kt hq];show hx],hϨ,ŷ];show oþ;let⟨eż,_⟩:=gD;show nă;have:ľ:=dĜ;rw[bS (bŻ)];show this;let⟨o,h1,_⟩:=hj;obtain rfl | hb:=bŷ;show QU z.symm;rw[ő] at z;show nς
 done:=by
   intro X hP hw hK hc i aj s σ H E I hf st hg;subst hP hw hK;let⟨xs,hq,hx⟩:=hg;let⟨its,rv,p,hz⟩:=cï;let⟨eź,hj⟩:=st;have vU:mÕ:=p.isList;have ha:a≠j:=λz=>by let⟨o,h1,c1,_⟩:=vU;let⟨o2,h2,c2,_⟩:=hj;rw[z] at h1;rw[h1] at h2;cases h2;rw[c1] at c2;simp at c2
   let⟨f0,f1,f2,f3,f4,f5⟩:=gĐ;have hl:iō:=by have:=rv.length;simp;exact qĂ
   exact wpAny_pyNext_enum_endD qî he fŝ qă
 self:=qÄ
def Kr (K:iQ)(tl:TA):TI:=λσ H R=>tl σ H λvs H1=> ∃a,d6 gČ jĝ (R (LF K a) H1)
def Ks (K:iQ)(tl:TA):TI:=λσ H R=>tl σ H λvs H1=> ∃a,d6 gČ jĜ (R (LG K a) H1)
def Jm (et:iϸ)(hg:Gl X dĚ)(hm:kŊ)(ha:dθ)(hs:oş:=by rfl):PI X tg oġ (Kr X.K tl):=by subst et;intro aj s σ H R I h;exact qĢ;rintro us s1 ⟨vs,H1,I1,r1,q1⟩;let⟨a,e,dĝ,q⟩:=q1;subst e;let⟨v,rfl,rv1⟩:=vals1 r1;cases rv1;let⟨its,rv,ht,hz⟩:=dĞ;exact Dl (show mŖ from ht) kŋ;have I2:nĹ:=lČ;exact kϔ;exact#[_,oÿ,_,_,H1,rfl,I2,BQ a (iϹ) s1.heap.objs.size jŀ,fŞ,ŷ,q];obtain rfl | hb:=bŷ;show pĎ;rw[ő];show nĪ
def Ag (et:iϸ)(hg:Gl X dĚ)(hm:kŊ)(ha:dθ)(hs:oş:=by rfl):PI X tg oġ (Ks X.K tl):=by subst et;intro aj s σ H R I h;exact qĢ;rintro us s1 ⟨vs,H1,I1,r1,q1⟩;let⟨a,e,dĝ,q⟩:=q1;subst e;let⟨v,rfl,rv1⟩:=vals1 r1;cases rv1;let⟨its,rv,ht,hz⟩:=I1.list hq;exact call_enumerate_list ht.isList kŋ;have I2:nĹ:=lČ;exact kϔ;exact#[_,oÿ,_,_,H1,rfl,I2,BR a (iϹ) s1.heap.objs.size jŀ,fŞ,ŷ,q];obtain rfl | hb:=bŷ;show pĎ;rw[ő];show nĪ
universe EN
namespace WL
open PySem PySem.Spec PyProof.Rows L2 EN
section
variable {X:Cx}
def W' (K:iQ):ϫ:=λxs H Q=>cM λ aš eŽ=>d6 gč lč (Q (.bl (cį)) H)
def W9 (K:iQ):ϫ:=λxs H Q=>cM λ aš eŽ=>d6 gč lč (Q (.bl (bs.any id)) H)
def Kl {bs:bÄ}(rv:cR (dι) its)(e:gϐ =ă):v= .bool (gϕ) /\ dμ:=by
 have e':gϑ:= Å;have df:=rv.length;have hi:dμ:=by have:=eŷ;rw[ab] at df;exact nĶ
 let⟨w',hw,vJ⟩:=rv.get (i:=i) (x:= .bl bs[i]) kÂ;rw[e'] at hw;cases hw;cases vJ;show#[by simp[List.getD,hi],hi]
def F4 (bs:bÄ):(jŁ).all (jł)=cį:=by apply Bool.eq_iff_iff.mpr;rw[de,de];symm;intro h x hx;let⟨i,hi,rfl⟩:=lΘ;have:=h i (cI.mpr hi);simpa [List.getD,hi] using this;intro h i hi;rw[cI] at hi;have:=h bs[i] (cH hi);simpa [List.getD,hi] using this
def F3 (bs:bÄ):(jŁ).any (jł)=bs.any id:=by apply Bool.eq_iff_iff.mpr;rw[List.any_eq_true,List.any_eq_true];symm;rintro⟨i,hi,h⟩;rw[cI] at hi;show#[bs[i],cH hi,by simpa [List.getD,hi] using h];rintro⟨x,hx,h⟩;let⟨i,hi,rfl⟩:=lΘ;show#[i,cI.mpr hi,by simpa [List.getD,hi] using h]
def qU (hc:Ŷ):gz X (.builtin "all") (W' X.K):=by
 intro aj s σ H xs us Q I r h;let⟨l,bs,rfl,hs,q⟩:=h;let⟨u,rfl,ru⟩:=Ģ;cases ru;let⟨its,rv,ht,hz⟩:=cĔ;have hh:jĶ:=cπ;have df:lΚ:=by have:=rv.length;rw[ab] at this;simpa using this.symm
 have f7:iň:=by let⟨_,e,_⟩:=ht.isList;show Ç
 exact PySem.call_all_walkS (mΡ);exact rġ;let⟨rfl,_⟩:=Kl rv e;show cZ hq;have hk: pČ:=qĐ;rw[hİ,df,F4];show oĢ
def G' (hc:Ŷ):gz X (.builtin "any") (W9 X.K):=by
 intro aj s σ H xs us Q I r h;let⟨l,bs,rfl,hs,q⟩:=h;let⟨u,rfl,ru⟩:=Ģ;cases ru;let⟨its,rv,ht,hz⟩:=cĔ;have hh:jĶ:=cπ;have df:lΚ:=by have:=rv.length;rw[ab] at this;simpa using this.symm
 have f7:iň:=by let⟨_,e,_⟩:=ht.isList;show Ç
 exact PySem.call_any_walkS (mΡ);exact rġ;let⟨rfl,_⟩:=Kl rv e;show cZ hq;have hk: pČ:=qĐ;rw[hİ,df,F3];show oĢ
variable {K:iQ}
theorem db.bools {H:Hp}: ∀ {bs:bÄ} {vs:Ä},db K H dν vs ->vs=dι
 | [],vs,h=>by simpa only[List.map_nil,db] using h
 | n::r,vs,h=>by simp![aX,db] at h;let⟨v,t,rfl,h1,h2⟩:=h;rw[db.bools h2,h1.eq];rfl
def V2:zy:=λxs M q=>cM λ aŘ eŽ=>d6 eŝ (M a=kϕ) (jŃ)
def aaB:zy:=λxs M q=>cM λ aŘ eŽ=>d6 eŝ (M a=kϕ) (q (wb (bs.any id)) M)
instance:IC K (W' K) V2 where
 imp:=by rintro xs v M H q Q m r1 ⟨a,ns,rfl,hl,h⟩ k;let⟨v,rfl,r⟩:=r1.one;cases r.eq;let⟨vs,hv,rr⟩:=ŉ;cases rr.bools;show pď
instance:IC K (W9 K) aaB where
 imp:=by rintro xs v M H q Q m r1 ⟨a,ns,rfl,hl,h⟩ k;let⟨v,rfl,r⟩:=r1.one;cases r.eq;let⟨vs,hv,rr⟩:=ŉ;cases rr.bools;show pď
def gx (l:Ì):Ì:=(List.range l.length).map λ aϝ=> .tup [wi i,l.getD i wn]
def yX {i:Nat}(h:cϢ =û): ∃y,ç =aģ /\ x= fş:=by unfold gx at h;rw[aE] at h;by_cases hi:i<l.length;rw[kŃ] at h;cases h;show#[l[i],ao hi,by simp[List.getD,hi]];rw[mÌ] at h;cases h
def uW:fŠ=l.length:=by simp[gx]
def ON {i:Nat}(h:ç =aģ):cϢ =some (fş):=by let⟨hi,rfl⟩:=aϥ;unfold gx;rw[aE,kŃ];simp[List.getD,hi]
def CS (a:WA):WI:=λρ M q=>a ρ M λxs M1=> ∃l,eŞ /\ kϖ
def CT (a:WA):WI:=λρ M q=>a ρ M λxs M1=>cM λp l=>d6 (xs= [wr p]) (M1 p=fŁ) (oØ)
def AR {i:Nat}(m:Ň)(rr:ź)(hi:aĴ =û)(hp:ń): bC H (lĊ) /\ iD K M (lĊ) /\ ∃z,cϢ =aŌ /\ WR K (lĊ) z bİ:=by let⟨d,hd,r⟩:=rr.back hi;have ts:=L2.gy.ts (cE (o:= gϓ) hp);show#[ts,bŔ,_,ON hd,WR.Qr cϓ (db.cons WR.v (db.cons (r.ts ts) db.nil))]
def CW (hv:eţ)(rr:eŤ): ∀i M H,bC H1 H ->Ň ->True ->(fŠ=i ->(LF K p).stop i H) /\ (hĲ ->(LF K p).go i H) /\ ∀v H',hĲ ->(LF K p).Pb i H v H' ->pϐ:=by intro i M H ts m _;have vQ:=eť;have Qa:=rr.ts ts;have hl:=Qa.length;rw[uW];exact#[λh=>#[vs,vQ, qĨ],nÄ,hĤ];let⟨q,x,hq,rfl,rfl,y⟩:=y;show AR m Qa (y vs vQ) hq
def CY: ∀i M H,bC H1 H ->Ň ->M p=fŁ ->(fŠ=i ->(LG K p).stop i H) /\ (hĲ ->(LG K p).go i H) /\ ∀v H',hĲ ->(LG K p).Pb i H v H' ->pϐ:=by intro i M H ts m hk;let⟨vs,hv,rr⟩:=m p _ hk;have hl:=rr.length;rw[uW];exact#[λh=>#[vs,Ŋ, qĨ],nϵ,hĤ];let⟨q,x,hq,rfl,rfl,y⟩:=y;show AR m rr (y vs cϕ) hq
instance {t:TA}{a:WA} [ia:bŐ]:II K (Kr K t) (CS a) where
 imp:=λρ M σ H q R o h k=>ia.imp ρ M σ H _ _ o h (by rintro xs M1 v H1 ⟨l,e,h1⟩ t1 m1 r1;exact by subst e;let⟨v,rfl,r⟩:=r1.one;let⟨p,vs,rfl,hv,rr⟩:=r.tup;show#[p,rfl,#[vs,hv],k _ _ _ M1 H1 h1 t1 m1 (CW hv rr)])
instance {t:TA}{a:WA} [ia:bŐ]:II K (Ks K t) (CT a) where
 imp:=λρ M σ H q R o h k=>ia.imp ρ M σ H _ _ o h (by rintro xs M1 v H1 ⟨p,l,e,hp,h1⟩ t1 m1 r1;exact by subst e;let⟨v,rfl,r⟩:=r1.one;cases r.eq;let⟨vs,hv,rr⟩:=cĝ;show#[p,rfl,#[vs,Ŋ],k _ _ _ M1 H1 h1 t1 m1 CY])
def Kk:CS a ρ M q=a ρ M λxs M1=>Cv xs λx=>tupK x λl=>kϖ:=by unfold CS Cv tupK;congr 1;funext xs M1;apply propext;symm;rintro⟨l,h,k⟩;show#[_,h,l,rfl,k];rintro⟨_,h,l,rfl,k⟩;show#[l,h,k]
def AG:CT a ρ M q=a ρ M λxs M1=>Cv xs λx=>iu x λp=>lstK aŐ λl=>oØ:=by unfold CT Cv iu lstK;congr 1;funext xs M1;apply propext;symm;rintro⟨p,l,h,h2,k⟩;show#[_,h,p,rfl,l,h2,k];rintro⟨_,h,p,rfl,l,h2,k⟩;show#[p,l,h,h2,k]
universe e
universe WL
namespace WL
open PySem L2
def Dh {M1:Mp}(hz:Ϩ)(h: ∀p,ţ -> ∃I:kĿ,fU mĩ qġ (∀i x ys M,Ψ ->bş -> ∀N:hğ,(∀ys M,I ß ys M ->N ys M) ->g x gĈ M λρ2 M2=>c ρ2 M2 λb M3=>iK b (el ρ2 M3 λy M4=>iϲ /\ N cϚ mÊ) (N ys M3)) oö):nĀ:=by exact#[hz,dĄ];let⟨I,h0,h1,h2,h3⟩:=h p hp;show#[I,h0,h1,λi x ys M hx hI=>h2 i x ys M hx hI _ λ_ _ z=>z,h3]
theorem BK {bs:bÄ}(h:M x=kϕ)(k:jŃ):V2 [wr x] M q:=#[x,bs,rfl,h,k]
universe WL
namespace WQ
open PySem L2 WL WP
def Rs (p:Int)(l:ā):Prop:=(∀x∈l,0<=x /\ x<p) /\ ∀x,l.getLast? =û ->x≠0
def Lv (row:ā)(k:Nat)(x:Int):ā:=row.set k (row.getD k 0+x)
def im (row:ā)(o:Nat)(l:ā)(n:Nat):ā:=(eŢ).foldl (λr i=>Lv r (o+i) (l.getD i 0)) row
def XI (row:ā)(k:Nat)(x:Int)(b:ā):Nat ->ā
 | 0=>row
 | j+1=>Lv (XI row k x b j) (k+j) (x*b.getD j 0)
def pw (p s:Int):cĭ
 | 0=>1
 | n+1=>pw p s n*s % p
def JA:gA:=λxs M q=>cM λ cİ=>jS (xs= [Î,Í]) lΖ (0<s) (s<p) (∀r,0<r ->r<p ->r*s % p=1 ->q (wi r) M)
def Sq: ∀ (p s:Int),lΖ ->0<s ->s<p ->0<jń /\ jń<p /\ jń*s % p=1:=by intro p s hp h0 h1;have hs:s=1 \/ s=2 \/ s=3 \/ s=4 \/ s=5 \/ s=6:= ∅;obtain rfl | rfl | rfl | rfl:=hp <;>obtain rfl | rfl | rfl | rfl | rfl | rfl:=hs <;>first | decide | lia
universe WQ
namespace WL
open PySem L2 PySem.Spec PyProof.Rows
abbrev WX:=gg ->Ţ
def up (e:WX):WX:=λC M'=> ∃M0,bŠ /\ e C M0
universe WL
namespace WL
open PySem L2
def S3:W ->Bool
 | .v x=>gϖ
 | aŃ=>false
def Qd:R2:=λx y H Q=>y= .fD /\ Q (.bl (! gϖ)) H
def VN:zx:=λx y M q=>y=wn /\ q (wb (!S3 x)) M
instance {K:iQ}:IR K Qd VN where
 imp:=by
  rintro x y v u M H q Q m r1 r2 ⟨rfl,h⟩ k;exact#[r2.eq,mĤ];cases x with
  | v x=>rw[r1.eq];show WR.v
  | tup l=>let⟨a,vs,rfl,_⟩:=r1.tup;show WR.v
theorem JC:sv X iĔ Qd:=Ny
theorem K8 (hx:bš)(hy:DR M y d)(hd:bň)(hs:dξ)(h:fř):VU x y M q:=nτ
theorem S8 (hx:bš)(hy:DR M y d)(hd:bň)(hs:dξ)(h:q cϒ M):RA x y M q:=nτ
def Y6 {α:Type}(f:aŢ)(g:α ->Dt):Prop:= ∀a,Bc (f a)=some (g a)
theorem vc {α:Type}{f:aŢ}{g:α ->Dt}(h:Y6 f g): ∀l:Ý,kE (bÅ)=some cı
 | []=>rfl
 | a::l=>by rw[aX,kE,h a,vc h l];rfl
theorem uZ {α:Type}{g:α ->Dt}{n:Nat}(h: ∀a,oB (g a) <=n): ∀l:Ý,kD cı <=n
 | []=>by simp[kD]
 | a::l=>by rw[aX,kD];have:=h a;have:=uZ h l;lia
theorem DR.list {l:Ý}(h:Y6 f g)(ha:M a=some (.lst (bÅ))):DR M (wr a) (.lst cı):= .inr #[a,_,_,rfl,ha,vc h l,rfl]
universe WL
namespace L2
open PySem PySem.Spec PyProof.Rows
def Keeps (S:Nat ->Prop)(g:TG):Prop:= ∀ (σ:St) (v:V) (H:Hp) (Q:Ω),g v σ H Q ->g v σ H λσ2 H2=>(σ2.length=σ.length /\ ∀i,¬S i ->σ2[i]? =σ[i]?) /\ Q σ2 H2
def pD (h:S n):Keeps S (lx n):=by intro σ v H Q q;exact#[kŌ,q];rw[List.getElem?_set_ne];intro e;subst e;show hi h
def ER {K:iQ}(h:S n)(h':S m):Keeps S (OG K 2 (xn (lx n) (xn (lx m) OH))):=by rintro σ v H Q ⟨a,xs,e,hs,hl,x,r,rfl,y,r',rfl,rfl,q⟩;exact#[a,_,e,hs,hl,x,_,rfl,y,_,rfl,rfl,kŌ,q];rw[List.getElem?_set_ne,List.getElem?_set_ne];intro e;subst e;show hi h;intro e;subst e;show hi h'
def FD (h:gô[i]? =fĈ):own<=i:=by unfold lH at h;obtain c | c:=eM i own;rw[br ⇑c,List.getElem?_replicate,ak c] at h;cases h;show c
def inW (DJ:TI)(g2:TG)(vG:TT)(te:TE)(σ2:St)(p:gg)(H4:Hp)(N:hā):Prop:=DJ σ2 H4 λJ2 H5=> ∃Z:mĞ,(∃m zs,Z 0 m zs H5) /\ ∀j k zs H6,Z j k zs H6 ->H6 p=gæ /\((J2.stop j H6 /\ N zs H6) \/ (J2.go j H6 /\ iĭ /\ ∀y H7,J2.Pb j H6 y H7 ->g2 y σ2 H7 λσ3 H8=>vG σ3 H8 λc H9=>if ağ then te σ3 H9 λz VB=> ∃ws,VB p=some (.lst ws) /\ ws.length<sizeLine /\ ∃k',k'<k /\ Z Þ k' (ws++ [z]) (dB VB p (.lst (ws++ [z]))) else ∃ws k',lĎ))
def Li (J:It)(own:Nat)(fr:ċ)(g:TG)(tc:TT)(DJ:TI)(g2:TG)(vG:TT)(te:TE)(σ:St)(p:gg)(H1:Hp)(Q:VK):Prop:=∃ W :mĞ,nμ /\ ∀i m ys H',dŐ ->H' p=gò /\(mΖ \/ (J.go i H' /\ ∀x H2,gó ->g x gô H2 λσ2 H3=>tc σ2 H3 λb H4=>if ò then inW DJ g2 vG te σ2 p H4 λzs H5=> ∃m',m'<m /\ W ß m' zs H5 else nĭ))
def BY (wi:TI)(own:Nat)(fr:ċ)(g:TG)(tc:TT)(DJ:TI)(g2:TG)(vG:TT)(te:TE):TE:=λσ H Q=>wi σ H λJ H1=> ∀p,cā ->Li J own fr g tc DJ g2 vG te σ p H1 Q
abbrev w_ (i9 tg iter:Expr)(iZ:ğ)(ki dw:Expr)(gk:ğ)(scope:Scope)(pos:Pos):Expr:= pĸ
def MC (i9 tg iter:Expr)(iZ:ğ)(ki dw:Expr)(gk:ğ)(scope:Scope)(pos:Pos)(it gh:fi)(env:Env): pų=(do
 standAt iter.pos
 let r <- cĐ
 match r with
 | none=>iŎ
 | ă=>do
  kϗ
  gϗ
  let ok <- rÄ
  if aϬ then do
   let x <- dο
   gĒ
   let x <- lΜ
   let i2 <- holding [x] cϣ
   let _ <- runOwn pϑ env
   again pΤ
  else again pΤ):=by rfl
def MB (i9 tg iter:Expr)(iZ:ğ)(ki dw:Expr)(gk:ğ)(scope:Scope)(pos:Pos)(it gh:fi)(env:Env): pŴ=(do
 gĒ
 let r <- cĐ
 match r with
 | none=>iŎ
 | ă=>do
  kϘ
  gϘ
  let ok <- rÅ
  if aϬ then do
   ((do let _ <- call lù [gh, <- dŏ]):Sem Unit)
   again pΥ
  else again pΥ):=by rfl
def Iw (h0:qŌ)(h:wpAny Χ A (pyIter it) (λit' s'=>codeAny Χ A (.compLoop n϶ 1 it' gh env) R s') (notedBy Χ A env λx s'=>R (.error x) s') s): codeAny Χ A (.compStart n϶ 1 it gh env) R s:=by
 exact codeAny_of_tree ?_;change wpAny _ _ ((compStart n϶ 1 it gh env).onRaise (λx=>do gΟ;standAt theWindowsPlace)) _ _ s;exact wpAny_notedAt ?_;unfold compStart;change wpAny _ _ (ask >>=_) _ _ s;exact ah (wpAny_askSetting (wpAny_ite ?_));split;first
 | show ah (aD (kÅ))
 | show kÅ
 first
 | show ah (eZ (qĄ))
 | (exact ah (eZ ?_);change wpAny _ _ (gĒ >>=_) _ _ s;show qĄ)
theorem NR (I:gΞ)(turn : ∀n s,aß ->wpAny Χ A (cĐ) (λr s₁=>match r with
   | none=>iĬ
   | ă=>wpAny Χ A (kϘ) (λ_ s₀=>wpAny Χ A (gϘ) (λ_ s₂=>
    wpAny Χ A (rÅ) rī ύ s₂)
    ύ s₀) ύ s₁) ύ s)(n:Nat)(h:aß):qŌ:=by
 exact oÑ
 change wpAny _ A ((pŴ).onRaise oŸ) _ _ s
 exact gð
 rw[MB]
 exact qĜ
 cases r with
 | none=>show aD h₁
 | some v=>
  exact pÜ;exact pÝ;exact pĚ;cases Xv with
  | false=>show gñ
  | true=>show qϭ
theorem NS (I:gΞ)(hs: ∀x,lΜ=pure x)(turn : ∀n s,aß ->wpAny Χ A (cĐ) (λr s₁=>match r with
   | none=>iĬ
   | ă=>wpAny Χ A (kϗ) (λ_ s₀=>wpAny Χ A (gϗ) (λ_ s₂=>
    wpAny Χ A (rÄ) (λok s₃=>if aϬ then wpAny Χ A (dο) (λx s₄=>wpAny Χ A cϣ (λi2 s₅=>codeAny Χ (A.mark none) pϑ (λr s₆=>match r with | .ok _=> ∃m,m<n /\ I m s₆ | .error _=>False) s₅) ύ s₄) ύ s₃ else jĴ) ύ s₂)
    ύ s₀) ύ s₁) ύ s)(n:Nat)(h:aß):codeAny Χ A pΤ R s:=by
 exact oÑ
 change wpAny _ A ((pų).onRaise oŸ) _ _ s
 exact gð
 rw[MC]
 exact qĜ
 cases r with
 | none=>show aD h₁
 | some v=>
  exact pÜ;exact pÝ;exact pĚ;cases Xv with
  | false=>show gñ
  | true=>
   exact ah (cg h₃ (λx s₄ h₄=> ?_) hϐ);exact jό;rw[hs];exact ah (aD (ah (d8 (cg h₄ (λi2 s₅ h₅=> ?_) hϐ))));exact ah (wpAny_runOwn ?_);exact codeAny_mono h₅ λr s' z=> ?_;cases r with
   | ok f=>show aD #[rfl,z]
   | error e=>show z.elim
def sj {σ:St}{RR:mğ}(jH:Ŷ)(S:jĳ)(hg: oπ)(TL:gē)(hw:iϺ)(hc: oΞ)(YB: ∀s3 H3,oĀ)(YD: ∀s3 H3,nϐ)(X6:nϷ)(QW: ∀s3 H3,nϑ)(he: oΟ)(lv: ∀s3 H3 x,pΦ)(oJ: pŉ)(pO: pδ)(I:ϙ)(T:mϱ)(st:dő)(yQ: jώ)(h: ∀p,ń ->Li J own.length fr g tc DJ g2 vG te σ p H Q)(fin: rĬ): wpAny Ϥ X.A eő (λgh s₃=>wpAny Ϥ X.A qú (λLk s₄=>codeAny Ϥ X.A (.compStart n϶ 0 cî gh nΨ) hϑ s₄) E s₃) E s:=by
 exact dY ?_;have hf:kΥ:=hΡ;let⟨W,dė,turn⟩:=h _ hf;generalize e3:qŤ=s3;have RW:nΩ:=by rw[<- e3];show dR ..
 have up3: pć:=λb o e=>by rw[<- e3];show aĤ
 have I3:pÇ:=by rw[<- e3];show qß
 have Uf: mĜ:=λb hb=>by let⟨o,e,_⟩:=hϒ;show Ç
 have C6: pĮ:=pϚ
 exact qĎ;have old: pÞ:=oŹ;have Ic:=qŻ;have FS:tn 0 h₁:=oϯ;have tZ: qϞ:=λhn b hb=>by exact rÆ;change jϨ;rw[RW];show a7 (eŒ);show fĴ
 have loop : codeAny Ϥ X.A (.compLoop n϶ 0 cî kΕ (oĺ)) oϙ pε:=by
  exact NS rČ (lv s3 H) ?_ m0 oÒ;rintro n s4 ⟨i,ys,H4,I4,gZ,OJ,w4⟩;let⟨GF,alt⟩:=hϓ;rcases alt with⟨stop,q⟩ | ⟨go,step⟩
  .exact rÐ;rintro r s5 ⟨hr,I5⟩;subst hr;show pζ
  exact rË;rintro r s5 ⟨u,hr,h5⟩;subst hr;exact dE h5 ?_;rintro _ s6 ⟨x,H6,I6,r6,y6,RZ,fr6⟩;have I6':=nį;have PK:=lΒ;exact oĻ;rintro _ s7 ⟨σ7,H7,I7,wk,q7⟩;have wk1: ∀ (j:Nat) v,jϦ[j]? =fĈ ->kō:=λj v e=>by rw[wk.2 j (by have:=FD e;lia)];show e
  have wk2: ∀j,n1<=j ->j<own.length -> ∀v,σ7[j]? ≠fĈ:=λj h1 h2 v e=>by rw[wk.2 j ∅] at e;have:=FD e;exact Lqg Û ϳ ο (LqNp h2 this) rfl
  have again: ∀ {σ9:St} {H9:Hp} {s9:fk} {Rt:Ä},σ9.length=σ7.length ->(∀ (j:Nat) v,kō ->σ9[j]? =fĈ) ->Inv Ϻ iϥ σ9 H9 s9 ->rğ:=λ{σ9 H9 s9 Rt} hl9 hv9 I9 gõ=>by exact#[m',hm,i+1,Rt,H9,eœ ?_ λj v e=>hv9 j v (wk1 j v e),qÈ,ŷ,w9];rw[hl9,wk.1];let⟨o,e,d⟩:=hϔ;show oř
  exact nξ;rintro ok s8 ⟨H8,I8,q8⟩;cases ok with
  | false=>simp![aF,bw] at q8 ⊢;let⟨zs,q8⟩:=q8;show again rfl (cŷ) I8 q8
  | true =>
   simp![b_] at q8 ⊢;exact dE (YB s3 _ _ s8 σ7 H8 _ I8 q8) λv2 s9 h9=>dE h9 λTn s10 h10=> ?_;let⟨AH,YY,tn2,J2,VB,e10,I10,T2,Ww,f10,Z,⟨mz,z0,BC⟩,V9⟩:=h10;subst e10;have Iv: ∀ {H':Hp},kÆ -> ∀b∈YY,lq Ϻ iϥ H' b:=λhn b hb=>#[hn b hb,(f10 b hb).2]
   have Qt:codeAny Ϥ X.A (.compLoop n϶ 1 (.ref AH) kΕ (oĺ)) (λr s₆=>match r with
   | .ok _=> ∃m,m<n /\ gm λi ys H'=>fU (Inv Ϻ [] jϦ H' s₆) (tn i s₆.heap) jϏ (dŐ)
   | .error _=>False) s10:=by
    exact NR (λk s'=>gm λj zs H'=>fU (Inv Ϻ iϥ σ7 H' s') (tn2 j s'.heap) kÆ (Z j k zs H')) ?_ mz #[0,z0,VB,I10,Ww,λb hb=>(f10 b hb).1,BC]
    rintro k s11 ⟨j,zs,H11,I11,Wv,YX,z11⟩
    let⟨afS,afc⟩:=V9 j k zs H11 z11
    rcases afc with⟨Wq,qN⟩ | ⟨go2,hsz2,Wu⟩
    exact dE (T2.done Ϻ rfl rfl rfl jH j _ s11 _ H11 ύ I11 (Iv YX) Wv Wq) ?_;rintro r s12 ⟨hr,I12⟩
    subst hr
    show again rfl (cŷ) I12 qN
    exact dE (T2.item Ϻ rfl rfl rfl jH j _ s11 _ H11 ύ I11 (Iv YX) Wv go2) ?_;rintro r s12 ⟨u2,hr,h12⟩
    subst hr
    exact dE h12 ?_;rintro _ s13 ⟨x2,H13,I13,r13,y13,R1,aeQ⟩
    have afh:=I13.pinned (Iv aeQ) (T2.obj _ _ R1)
    have aaO:=X6 _ x2 H13 _ (Wu x2 H13 y13)
    exact dE (YD s3 _ _ s13 _ H13 x2 u2 _ afh r13 aaO) ?_;rintro _ s14 ⟨σ14,H14,I14,VE,q14⟩
    have Rj: ∀ {H9:Hp} {s9:fk} {ws:Ä},Inv Ϻ (iϥ++jA YY s13.heap) σ14 H9 s9 ->(∃k',lĎ) ->∃m,m<k /\ gm λj zs H'=>fU (Inv Ϻ iϥ σ7 H' s9) (tn2 j s9.heap) kÆ (Z j m zs H'):=λ{H9 s9 ws} I9 ⟨k',vT,z9⟩=>by exact#[k',vT,j+1,ws,H9,eœ VE.1.symm λa v e=> ?_,T2.keep _ _ _ R1 pě,ŷ,z9];rw[VE.2 a λhS=>wk2 a hS.1 hS.2 v e];show e;let⟨o,e,d⟩:=T2.obj _ _ R1 b hb;show oř
    exact dE (QW s3 _ _ s14 σ14 H14 _ I14 q14) ?_;rintro ok2 s15 ⟨H15,I15,U4⟩
    cases ok2 with
    | false=>simp![aF,bw] at U4 ⊢;let⟨ws,U4⟩:=U4;show Rj I15 U4
    | true=>simp![b_] at U4 ⊢;exact dE (he s3 _ _ s15 σ14 H15 _ I15 U4) ?_;rintro y s16 ⟨yv,H16,I16,ry,ws,abB,abu,q16⟩;exact dE (jp _ s16 σ14 H16 kΕ [yv] kΕ [y] (λv H'=>H'=dB H16 s.heap.objs.size (.lst (ws++ [yv]))) I16 rfl gΥ #[_,ws,yv,rfl,rfl,abB,abu,rfl]) ?_;rintro v s17 ⟨_,H17,I17,_,e17⟩;subst e17;show Rj I17 q16
   change codeAny _ X.A _ _ s10;show Iw Qt (T2.self _ 0 _ _ _ Ww Qt)
 show pĶ
def Jt {pos:Pos}(jH:Ŷ)(S:jĳ)(hi:gο)(hg: pø)(TL:gē)(hw:iϺ)(hc: pĈ)(YB: pĹ)(YD: pĐ)(X6:nϷ)(QW: pđ)(he: pĉ)(hs: oŔ:=by intro _;rfl)(lv: qą:=by intro _ _ _ _ _;rfl):PE X (pĸ) oÙ:=by intro aj s σ H Q I h;let⟨cl,uN,oJ,pO⟩:=iϦ;rw[eval_ListComp];exact qϤ;let⟨it,fp,tn,J,H2,e,I2,T,m8,f2,h2⟩:=h2;subst e;exact sj (RR:=qÎ) jH S cΡ TL hw cΤ (YB cl fp) (YD cl fp) X6 (QW cl fp) cΥ (lv cl fp) oJ pO I2 T m8 f2 h2 ?_;intro s3 H3 I3 f3 D σ' H' s' t hD Ic q;let⟨m,hn,_⟩:=Ic.loc;exact oÔ;show nŪ
def rD {pos FT jU:Pos}(jH:Ŷ)(hN:X.N.Nodup)(hx:gſ)(hl:hψ)(S:jĳ)(hi:gο)(hg: pø)(TL:gē)(hw:iϺ)(hc: pĈ)(YB: pĹ)(YD: pĐ)(X6:nϷ)(QW: pđ)(he: pĉ)(hsw:swapsWith (pĸ) iΨ FT.line X.env=pure true)(hs: oŔ:=by intro _;rfl)(lv: qą:=by intro _ _ _ _ _;rfl)(hf:pĩ:=by first | show Ĵ | show ĸ | assumption): PS X (.Assign [cς] (pĸ) FT) (FP oÙ aĢ):=by
 intro aj s σ H D I h;let⟨cl,uN,oJ,pO⟩:=iϦ;rw[nİ];exact lΓ;change wpAny _ X.A (do let _ <- comprehension n϶ scope X.env _ eő false hΗ (nú)) _ _ s;exact rĠ;let⟨it,fp,tn,J,H2,e,I2,T,m8,f2,h2⟩:=h2;subst e;exact sj (RR:=qϓ) jH S cΡ TL hw cΤ (YB cl fp) (YD cl fp) X6 (QW cl fp) cΥ (lv cl fp) oJ pO I2 T m8 f2 h2 ?_;intro s3 H3 I3 f3 Da σ' H' s' t hD Ic q;let⟨m,hn,_⟩:=Ic.loc;have I5:=dŒ;change pŗ;exact qŰ;let⟨a,sb,ha⟩:=Og;have cS:jϩ:=by obtain rfl | ha:=ha;show iĮ;let⟨v,z⟩:=gö;show hϕ
 exact pϥ
universe L2
namespace WL
open PySem L2
section
variable {K:iQ}
def To (zp:Ì)(h_:Ţ)(g2:WG)(c2:WT)(el:WE)(ρ2:eI)(p:gg)(ys:Ì)(M4:Mp)(N:hğ):Prop:=∃I2:kĿ,fU (I2 0 ys M4) (∀j zs M,ež ->I2 j zs M ->h_ M /\ M p=gæ /\ iĭ) (∀j y zs M,zp[j]? =aģ ->I2 j zs M ->g2 y ρ2 M λρ3 M5=>c2 ρ3 M5 λb M6=>if ò then el ρ3 M6 λz M7=>M7 p=gæ /\ I2 Þ (zs++ [z]) (um M7 p (.lst (zs++ [z]))) else I2 Þ zs M6) (∀zs M,I2 zp.length zs M ->N zs M)
def za (xs:Ì)(keep:Ţ)(own:Nat)(fr:ċ)(g:WG)(c:WT)(AH:WI)(g2:WG)(c2:WT)(el:WE)(ρ:eI)(M1:Mp)(q:WK):Prop:= ∀p,ţ -> ∃I:kĿ,fU mĩ (∀i ys M,eŦ ->bş ->aō /\ iĿ) (∀i x ys M,Ψ ->bş ->g x gĈ M λρ2 M2=>c ρ2 M2 λb M3=>if ò then AH ρ2 M3 λzp h_ M4=>To zp h_ g2 c2 el ρ2 p ys M4 (I ß) else fŊ) oö
def HN (it:WI)(own:Nat)(fr:ċ)(g:WG)(c:WT)(AH:WI)(g2:WG)(c2:WT)(el:WE):WE:=λρ M q=>pϛ
theorem VY:HN it own fr g c AH g2 c2 el ρ M q=pϛ:=rfl
instance {ti:TI}{own:Nat}{fr:ċ}{g:TG}{tc:TT}{ti2:TI}{g2:TG}{vG:TT}{te:TE}{it:WI}{w:WG}{c:WT}{AH:WI}{w2:WG}{c2:WT}{el:WE} [ii:cϙ] [ig:bś] [ic:cĘ] [ii2:II K ti2 AH] [ig2:IG K g2 w2] [ic2:IT K vG c2] [ie:IE K te el]: IE K (BY ti own fr g tc ti2 g2 vG te) (HN it own fr w c AH w2 c2 el) where
 imp := λρ M σ H q Q o h k=>ii.imp ρ M σ H _ _ o h λxs keep J M1 H1 h1 t1 m1 ok=>by
  intro p hp;let⟨I,h0,hk,hs,hd⟩:=iĺ;have tp:=mΞ;exact rĚ;rintro i m vs H' ⟨rfl,hi,ys,M',hI,ts,m',rv,hv⟩;exact#[hv,?_];let⟨kp,hMp⟩:=hĥ;let⟨k1,k2,k3⟩:=iϳ;by_cases f7:dĶ;exact .inr #[k2 f7,fŇ];let⟨ty,my,x,hx,r⟩:=eŧ;replace ts:=dŬ;have oc:oĝ:=oĞ
  exact rÇ;cases b with
  | true=>
   simp![b_] at h4 ⊢;exact ii2.imp ρ3 M4 σ3 H4 _ _ fŋ h4 λzp h_ J2 M5 H5 h5 t5 m5 ok2=> ?_;let⟨I2,h20,Ht,lv,Vm⟩:=h5;have tt5:=ts.trans (kŀ);have at5: ∀ {M6:Mp} {H6:Hp} {zs:Ì},M6 p=gæ ->iD K M6 H6 -> ∃vs,H6 p=gĂ /\ db K H6 zs vs:=λh m=>by let⟨vs,hv,rr⟩:=m p _ h;show#[vs,hv,rr]
   let⟨Po,Ku,MW⟩:=at5 (Ht 0 ys M5 (dg _) h20).2.1 m5;exact#[λj m vs H'=>m=zp.length - j /\ ež /\ cM λzs M'=>jS (I2 j zs M') (bC H5 H') (cϏ) (db K H' zs vs) (H' p=gĂ),#[_,Po,rfl,dg _,ys,M5,h20,cĠ,m5,MW,Ku],?_];rintro j m2 vs6 H6 ⟨rfl,hj,zs,M6,hI2,V',m6,rv6,hv6⟩;exact#[hv6,?_];let⟨NV,af5,hzl⟩:=Ht j zs M6 hj hI2;let⟨a1,a2,a3⟩:=ok2 j M6 H6 V' m6 NV;by_cases AN:j<zp.length;exact .inr #[a2 AN,by rw[rv6.length];show hzl,λu7 H7 y7=> ?_];let⟨ty7,my7,x7,hx7,r7⟩:=a3 u7 H7 AN y7;have o7:Ok K ρ3 M6 σ3 H7:=#[o3.env.ts ((t4.trans t5).trans (eſ)),my7]
   exact ig2.imp x7 u7 ρ3 M6 σ3 H7 _ _ o7 r7 (lv j x7 zs M6 hx7 hI2) λρ8 M8 σ8 H8 h8 t8 o8=>ic2.imp ρ8 M8 σ8 H8 _ _ o8 h8 λb9 M9 H9 h9 t9 m9=> ?_;cases b9 with
   | true=>simp![b_] at h9 ⊢;exact ie.imp ρ8 M9 σ8 H9 _ _ (o8.mv t9 m9) h9 ?_;rintro z M10 u VB ⟨h10,h11⟩ t10 m10 r10;let⟨Mz,Kv,IP⟩:=m10 p _ h10;have t11:=nW (u:= .lst (Mz++ [u])) Kv;exact#[Mz,Kv,by rw[IP.length];show hzl,_,?_,rfl,AN,_,_,h11,((nŮ).trans t10).trans t11,m10.putL Kv (dπ),(dπ).ts t11,cw];exact qϘ
   | false=>simp![aF,bw] at h9 ⊢;let⟨Mz,Kv,IP⟩:=at5 (Ht Þ zs M9 AN h9).2.1 m9;exact#[Mz,_,?_,rfl,AN,_,_,h9,nŮ,m9,IP,Kv];exact qϘ
   have e':j=zp.length:= (by exact LqNx hj (LqNz AN));subst e';exact .inl #[a1 rfl,_,?_,rfl,f7,zs,M6,Vm zs M6 hI2,tt5.trans V',m6,rv6,hv6];exact qϗ
  | false=>simp![aF,bw] at h4 ⊢;let⟨Po,Ku,MW⟩:=m4 p _ lĄ;exact#[Po,_,?_,rfl,f7,_,_,h4,kŁ,m4,MW,Ku];exact qϗ
  have e':dŭ:= mĨ;subst e';show pϏ
def lX {α:Type}{f:aŢ}{l:Ý}{i:Nat}(h:(bÅ)[i]? =û): ∃a,ç =ĉ /\ x=f a:=by
 rw[aE] at h;cases e:ç with
 | none=>rw[e] at h;cases h
 | some a=>rw[e] at h;cases h;show eγ
def G3 {α β:Type}{l:Ý}{fW:aŢ}(dH:α ->fh β)(gW:aţ)(eW:α ->aţ){M1:Mp}(hz:(l.map iŏ).sum<sizeLine)(kx: jϷ)(hs: ∀a∈l, ∀M,aϳ -> ∀ (B:eI ->mΘ) (N0:Ţ),(∀ρ2 h_,(∀M',bż ->h_ M') ->(∀b∈dH a, ∀M',bż -> ∀N:hĦ,N (some (eW a b)) M' ->qŪ) ->B ρ2 ((dH a).map gW) h_ M) ->qΓ)(hq: ∀p,ţ ->q č (um M1 p (.lst (l.map kŎ).flatten))): pä:=by
 intro p hp;have df: ∀k:Ý,(k.map kŎ).flatten.length=(k.map iŏ).sum:=λk=>by rw[List.length_flatten,aJ];congr 1;apply bK;intro a _;simp
 have xj: ∀i:Nat,oā<=(l.map iŏ).sum:=λi=>by
  have e:(l.map iŏ)=(gĔ iŏ)++((bü).map iŏ):=by rw[<- aR,bA]
  rw[e,List.sum_append];exact pŞ
 exact#[λi ys M=>iϴ /\ ys=oϰ,gĉ,?_,?_,?_];rintro i ys M hi ⟨rfl,rfl⟩;show#[eŨ,av];rintro i x ys M hx ⟨rfl,rfl⟩;let⟨a,ha,rfl⟩:=lX hx;have e:mÖ:=by rw[bj,ha];rfl
 have eF:pĒ=oϰ++(dH a).map aŤ:=by rw[e,aR,List.flatten_append];simp
 have eS:(iŐ iŏ).sum=oā+fš:=by rw[e,aR,List.sum_append];simp
 exact hs a bÆ _ aϴ (λρ2 zp h_ M4=>To zp h_ g2 c2 el ρ2 p oϰ M4 λys M=>iϴ /\ ys=pĒ) (λM=>M=um M1 p (.lst oϰ) /\ oϰ=pĒ) ?_;intro ρ2 h_ Ht lv;exact#[λj zs M=>M=um M1 p (.lst zs) /\ zs=qï,gĉ,?_,?_,?_];rintro j zs M hj ⟨rfl,rfl⟩;exact#[Ht _ aϴ,av,?_];rw[aO,df,ab,bv];have b3:=xj ß;rw[eS] at b3;exact Lqj ŵ ϯ Lq2 (.a ϕ (.a eå Lq1)) jΚ (LqNp hz (LqNp b3 (kğ))) rfl;rintro j y zs M hy ⟨rfl,rfl⟩;let⟨b,hb,rfl⟩:=lX hy;have e2:dς Þ=dς j++ [b]:=by rw[bj,hb];rfl
 exact lv b (au hb) _ aϴ (λo M4=>match o with
 | aŌ=>M4 p=some qİ /\ (um M4 p qō=um M1 p qō /\ qï++ [z]=qĒ)
 | none=>M4=um M1 p qİ /\ qï=qĒ) ?_
 show#[av,q_,by rw[e2,aR];simp];rintro zs M ⟨rfl,rfl⟩;show#[rfl,by rw[eF,ab,bD]];rintro ys M ⟨rfl,rfl⟩;rw[ab,bD];show aϵ
def qh {α:Type}{l:Ý}{fW:aŢ}(pr:α ->Bool)(eW:aŢ){M1:Mp}(hz:iő)(kx: jϷ)(hs: ∀a∈l, ∀ (M:Mp) (N:hĦ),aϳ ->N (if pr a=true then dτ else none) M ->qυ)(hq: ∀p,ţ ->q č (um M1 p (.lst ((l.filter pr).map eW)))):oģ:=by
 exact#[by rw[ab];show hz,λp hp=>#[λi ys M=>iϴ /\ ys=mş,gĉ,?_,?_,?_]];rintro i ys M hi ⟨rfl,rfl⟩;exact#[eŨ,av,?_];rw[ab];exact aI (aĿ) ?_;rw[bv];exact iϵ;rintro i x ys M hx ⟨rfl,rfl⟩;let⟨a,ha,rfl⟩:=lX hx;have e:mÖ:=by rw[bj,ha];rfl
 exact hs a bÆ _ (λo M4=>match o with
 | aģ=>M4 p=some oÚ /\ (um M4 p oΑ=um M1 p oΑ /\ mş++ [y]=nĺ)
 | none=>M4=um M1 p oÚ /\ mş=nĺ) aϴ ?_
 cases hf:pr a with
 | false=>rw[eû];show#[rfl,by rw[e,List.filter_append];simp[hf]]
 | true=>rw[Ć];show#[av,q_,by rw[e,List.filter_append];simp[hf]]
 rintro ys M ⟨rfl,rfl⟩;rw[ab,bD];show aϵ
def iB {α:Type}{l:Ý}{fW:aŢ}(eW:aŢ){M1:Mp}(hz:iő)(kx: jϷ)(hs: ∀a∈l, ∀ (M:Mp) (N:hĦ),aϳ ->N (dτ) M ->qυ)(hq: ∀p,ţ ->q č (um M1 p hϩ)):oģ:=by exact qh (că) eW hz kx (λa ha M N s h=>hs a ha M N s ⇑h) dĄ;have e:l.filter (că)=l:=List.filter_eq_self.mpr cŦ;rw[e];show aϵ
theorem FZ (lo:Int)(n:Nat):aϲ=oΦ:=rfl
universe e
def Jx:gA:=gÒ
theorem K2:cC P w K mg base CX k f fd ps (gG K Jx):=#[(by rintro vs H Q E ⟨_,_,_,_,_,h,_⟩;exact h.elim),λA outer s H args us vs Q E hr=>by
 intros;rename_i h;first
 | (let⟨_,_,_,_,_,h,_⟩:=h;show h.elim)]
universe WL
namespace WQ
open PySem L2 WL WP
def iE (f:Š)(e:Int):Nat ->Š
 | 0,_=>0
 | n+1,x=>cϤ+f cĲ
def lN (f:Š)(e:Int):Nat ->Š
 | 0,_=>0
 | n+1,x=>cϥ - hϪ
def m7 (f:Š)(e n x:Int):Int:=if n<0 then lN f e cϦ x else iE f e n.toNat x
def wG (f:Š)(e n x:Int):m7 f e aÅ x=m7 f e n x+f cĲ:=by
 unfold m7;by_cases h:n<0;rw[ak h];let⟨m,hm⟩: ∃m:Nat,cϦ=m+1:=#[cϦ - 1, ∅]
 have en:n= -(aϤ+1):= ∅;have ex:bÇ=x+hϫ:=by rw[en,Int.mul_neg];push_cast;exact LqIx (Lqi Û hϬ ι ö ö LqI0 rfl) (Lqi Û ι hϬ ö ö LqI0 rfl)
 rw[hm,lN,ex];by_cases h1:n+1<0;rw[ak h1,show(-aÅ).toNat=m by lia];exact qϹ;rw[ai h1,show dυ=0 by lia];have:m=0:= ∅;subst this;simp![iE,lN];exact rÎ;rw[Æ,ai (by exact LqIm (Lqi [_] ö ϒ ö Lq0 bŽ rfl)),show dυ=n.toNat+1 by lia,iE];have:kÈ:= (by exact LqIx (LqIe (Int.toNat_of_nonneg bŽ)) Ϭ);rw[this]
theorem FQ (f:Š)(e:Int): ∀ (n:Nat) (x:Int),m7 f e n x+m7 f e (-n) cĲ=0
 | 0,x=>rfl
 | n + 1,x=>by
  have ih:=FQ f e n x;have h1:=wG f e n x;have h2:=wG f e (-cĳ) (x - e*cĳ);have e1:(-(cĳ:Int))+1= -Ġ:= (by exact LqIx (Lqi Û jŅ Œ ϑ Lq0 (LqId kÉ) rfl) (Lqi Û Ņ (.a Œ ñ) Lq1 ϒ (LqIe kÉ) rfl));rw[e1] at h2;have e2:((cĳ):Int)=Ġ+1:= (by exact LqIx (LqIe kÉ) (LqId kÉ));rw[e2] at h2 ⊢;have e3:x - e*dχ - e* -dχ=x:=by rw[Int.mul_neg];exact LqIx (Lqi Û lΝ Lq0 ö ö LqI0 rfl) (Lqi Û Lq0 lΝ ö ö LqI0 rfl)
  rw[e3] at h2;have sh: ∀ (m:Nat) (z:Int),lN f e m (z - e)=lN f e m z - f z+f (z+e*m):=by
   intro m;induction m with
   | zero=>intro z;simp![lN];rw[Int.ofNat_zero,dX,bE];exact rÎ
   | succ m ihm=>
    intro z;have a1:z - e+hϫ=z+e*m:=by
     push_cast;rw[Int.mul_add,dA];exact LqIx (Lqi Ĝ (.a Α τ) π ö ö LqI0 rfl) (Lqi Ĝ ι (.a eε ξ) ö ö LqI0 rfl)
    rw[lN,ihm,lN,a1];exact LqIx (Lqi ř (.s kÊ Lq2) (.a (.s eζ Lq1) Lq3) ö ö LqI0 rfl) (Lqi ř (.a kË Lq1) (.s (.a eε Lq3) Lq3) ö ö LqI0 rfl)
  have hs:=sh aÅ cĲ;have lv:m7 f e (-dχ) (x - e*dχ)=lN f e aÅ (bÇ - e):=by unfold m7;rw[ak (by exact Lqi [_] (.a (.g ϒ) ñ) ö ö Lq0 ϭ rfl),show(- -dχ).toNat=n+1 by lia];congr 1;rw[Int.mul_add,dA];exact LqIx (Lqi Ĝ kÌ kË ö ö LqI0 rfl) (Lqi Ĝ kË kÌ ö ö LqI0 rfl)
  have hs3:m7 f e (-Ġ) cĲ=iŒ:=by unfold m7;by_cases h0:n=0;subst h0;rfl;rw[aŎ,show(- -Ġ).toNat=n by lia]
  have hs4:lN f e aÅ cĲ=iŒ - f (bÇ+e*(cĳ:Int)):=rfl;have e5:bÇ+e*(cĳ:Int)=x+e:=by push_cast;rw[Int.mul_add,dA];exact LqIx (Lqi Ĝ (.a Α ξ) π ö ö LqI0 rfl) (Lqi Ĝ ι (.a eε τ) ö ö LqI0 rfl)
  rw[lv,hs,hs4,e5,h1];rw[hs3] at ih;exact LqIx (Lqi ř pÈ ö π ö (LqIe ih) rfl) (Lqi ř ö pÈ ö π (LqId ih) rfl)
theorem zM {f g:Š}{e:Int}(h: ∀x,g x= -f (x+e)): ∀ (n:Nat) (x:Int),iE g (-e) n x=cϥ
 | 0,_=>rfl
 | Ê,x=>by
  rw[iE,lN,zM h n x,h];have:x - -e*n+e=x+e*(cĳ:Int):=by rw[Int.neg_mul];push_cast;rw[Int.mul_add,dA];exact LqIx (Lqi Ĝ lΞ jϸ ö ö LqI0 rfl) (Lqi Ĝ jϸ lΞ ö ö LqI0 rfl)
  rw[this];exact rÒ
theorem zN {p:Int}{f g:Š}{e:Int}(h: ∀x,f x % p=bÈ): ∀ (n:Nat) (x:Int),cϤ % p=iE g e n x % p
 | 0,_=>rfl
 | n+1,x=>by rw[iE,iE,bu,zN h n x,h, <- bu]
theorem tX (f:Š)(x:Int): ∀n:Nat,iE f 0 n x=f x*n
 | 0=>by simp[iE]
 | n+1=>by rw[iE,tX f x n,bP,Int.sub_zero];push_cast;rw[Int.mul_add,dA]
structure mq (p:Int)(a:Rd)(n:Int)(r:Rd):Prop where
 en:r.1=a.1*n
 pt:cX p r.2
 at_: ∀x,dM r.2 x=m7 (dM a.2) a.1 n x % p
theorem mq.eq (hp:0<p)(h:cϧ)(h':mq p a n r'):r=r':=Sj (h.en.trans h'.en.symm) (Ct hp h.pt h'.pt λx=>(h.at_ x).trans (h'.at_ x).symm)
def mq.NH (hp:0<p)(hn:n<0)(h:mq p bų (-n) r):cϧ:=by exact#[?_,h.pt,ķ];rw[h.en];change -a.1* -n=a.1*n;rw[Int.neg_mul_neg];rw[h.at_];unfold m7;rw[ai (by exact LqIm (pı)),ak hn];change iE (dM bų.2) (-a.1) cϦ x % p=_;rw[<- zM (f:=dM a.2) (g:=λx=> gϏ) (bĭ)];show zN (λy=>by rw[RS hp,oĂ]) _ _
def oV (e:Int)(n:Nat)(q:Ō):Pt:=iĽ λ ħ=>(q.1+e*k,q.2)
def lY (e:Int)(n:Nat)(l:Pt):Pt:=(l.map (oV e n)).flatten
theorem zF (e x:Int)(q:Ō): ∀n:Nat,dM (bž) x=iE (dM [q]) e n x
 | 0=>rfl
 | Ê=>by
  have:oV e aÅ q=bž++ [(q.1+e*n,q.2)]:=by unfold oV;rw[List.range_succ,aR];rfl
  rw[this,gS,zF e x q n,iE];congr 1;simp![dM];by_cases c:q.1+e*n=x;rw[ak c,ak (by exact LqIx (Lqi Ĝ Lq0 eŴ π Lq1 (LqIe c) rfl) (Lqi Ĝ Α Lq2 Lq0 τ (LqId c) rfl))];rw[ai c,ø]
theorem zO (f g:Š)(e x:Int): ∀n:Nat,iE (λy=>f y+g y) e n x=cϤ+iE g e n x
 | 0=>rfl
 | n+1=>by rw[iE,iE,iE,zO f g e x n];exact rĝ
theorem zL (e x:Int): ∀n:Nat,iE (ať) e n x=0
 | 0=>rfl
 | n+1=>by rw[iE,zL e x n];rfl
theorem zG (e:Int)(n:Nat)(x:Int): ∀l:Pt,dM (bſ) x=iE (dM l) e n x
 | []=>by have:dM ([]:Pt)=ať:=rfl;rw[this,zL];rfl
 | q ::l=>by
  have e1:nĄ:=rfl;have e2:dM (q::l)=λy=>dM [q] y+dM l y:=by funext y;have:=gS [q] l y;show this
  rw[e1,gS,zF,zG e n x l,e2,zO]
theorem uz (e:Int)(n:Nat): ∀l:Pt,(bſ).length=cϨ
 | []=>by simp[lY]
 | q::l=>by have e1:nĄ:=rfl;rw[e1,aO,uz e n l,oV,ab,ci,aT,Nat.succ_mul];exact LqNx pΓ pΓ
def Ql:gA:=λxs M q=>gm λ Ĩ aŞ Ġ=>qk kŏ è bŰ (bŴ) kÁ (0<=n) (bÉ ->n<aş /\ cϠ*n.toNat<=15000000) qϔ
def Xg:gA:=λxs M q=>gm λ Ĩ aŞ Ġ=>Lx kŏ è bŰ (bŴ) kÁ qÅ qϔ
universe WQ
namespace L2
open PySem PySem.Spec PyProof.Rows
def LW (a b c:Int):Nat:=(mŠ).toNat
def z_:LW a b Ï=(a - b).toNat:=by unfold LW Builtin.Range.rangeSize;rw[ai ⋯];split;rw[show -(-1:Int)=1 by decide,Int.ediv_one];lia;change(0:Int).toNat=_;lia
def UI (lo c:Int)(n:Nat):It:=#[λi _=>i<n,λi H x H'=>H'=H /\ x= .int bγ,dě]
def zE {P:Program}{w:World}{K:iQ}{tg:Expr}(it:gg)(lo c:Int)(n:Nat):vZ P w K tg dψ [it] it (λi h=>IsRangeIter h it (lo+aϝ*c) iϋ c) where
 mem:=by simp
 obj :=λi h st b hb=>by have e:b=it:= aÓ;subst e;show pϙ
 keep:=nŢ
 item:=by intro X hP hw hK hc i aj s σ H E I hf st hg;subst hP hw hK;let⟨f0,f1,f2,f3,f4,f5⟩:=gμ;have W:=Walks.range (prog:=X.prog) (w:=X.w) eġ it lo c n;exact oι;let⟨t,rfl⟩:=hv;have I1:oė:=pė;show#[_,rfl,E1 (s:= lε) (n:= hą) bG rfl rfl ⋯ #[.int bγ,H,I1,bŃ,cυ,bG,iϊ]]
 done:=by intro X hP hw hK hc i aj s σ H E I hf st hg;subst hP hw hK;let⟨f0,f1,f2,f3,f4,f5⟩:=gμ;show rĞ
 self:=oΖ
def Dv (a b c:Int):Prop:=c≠0 /\ c.natAbs<ġ /\ a.natAbs<1000000000 /\ b.natAbs<1000000000
def qC (h:c≠0):0<=mŠ:=by unfold Builtin.Range.rangeSize;split;split;have:=Int.ediv_nonneg (a:=b - a - 1) (b:=c) ∅ ∅;exact pü;show Ð;split;have:=Int.ediv_nonneg (a:=a - b - 1) (b:= -c) ∅ ∅;exact pü;show Ð
def zT (h:Dv a b c):Builtin.Range.small a b c=true:=by
 let⟨h0,h1,h2,h3⟩:=h;have hs:mŠ<=2000000001:=by unfold Builtin.Range.rangeSize;split;split;have:=Int.ediv_le_self (a:=b - a - 1) c ∅;lia;exact pğ;split;have:=Int.ediv_le_self (a:=a - b - 1) (-c) ∅;lia;exact pğ
 have zt:=qC (a:=a) (b:=b) h0;unfold Builtin.Range.small;simp![Builtin.Range.rangeFitsLong,Bool.and_eq_true,Bool.or_eq_true,cy,beq_iff_eq];exact#[#[#[#[dĲ, ∅, ∅], ∅, ∅], ∅, ∅], .inr ?_];split;rw[Bool.and_eq_true,cy,cy];lia;rw[Bool.and_eq_true,cy,cy];lia
def Qz (ta:TA):TI:=λσ H R=>ta σ H λvs H1=>gm λ dω=>d6 (vs= [Ă, aĦ, .int c]) (Dv i j c) (R (UI i c (LW i j c)) H1)
def F7 {tg:Expr}{p pos:Pos}(hg:eĨ)(hm:iđ)(ha:gϙ)(hs:kŐ=jĞ::jņ:=by rfl)(lv:(backTo pos (jņ)).any ć=false:=by rfl): PI X tg (.Call hΙ bÊ [] pos) (Qz ta):=by
 intro aj s σ H R I h;exact Call_ (iI I hg hm boot_range (bY nð hs lv));rintro us s1 ⟨vs,H1,I1,r1,q1⟩;let⟨i,j,c,e,rg,q⟩:=q1;subst e;cases r1 with
 | cons r rr=>
  cases rr with
  | cons r' rr=>
   cases rr with
   | cons Xa rr=>
    cases rr;let⟨t,rfl⟩:=r;let⟨t',rfl⟩:=r';let⟨RV,rfl⟩:=Xa;exact call_range_3 rg.1 ?_ (.inl (PyProof.noPylong_small (by have:=rg.2.1;exact LqNv this rfl)));exact wpAny_pyIter_range hĆ (zT rg) ?_;have I2:Inv X aj σ H1 {s1 with heap:=qŵ,toks:=s1.toks}:=kϙ;exact#[qΧ,[qΧ],_,_,H1,rfl,nϸ,zE _ i c (LW i j c),?_,ŷ,q];have e1:i+fĖ*c=i:=by simp
    have e2:nϒ=Builtin.Range.rangeSize i j c:=by unfold LW;have:=qC (a:=i) (b:=j) rg.1;lia
    change IsRangeIter _ _ (i+fĖ*c) (nϒ) c;rw[e1,e2];show Ŀ;have e:b=qΧ:=by simpa using hb
    subst e;show I2.yU õ jŇ
universe L2
namespace WL
open PySem L2
def re (lo c:Int)(n:Nat):Ì:=iĽ λ ħ=>wi (lo+ģ*c)
def zQ:(re lo c n).length=n:=by simp[re]
def step_at (h:(re lo c n)[i]? =û):i<n /\ x=wi bγ:=by unfold re at h;rw[aE] at h;by_cases hi:i<n;rw[kŃ] at h;cases h;show cģ;rw[mÌ] at h;cases h
section
variable {K:iQ}
def Qy (a:WA):WI:=λρ M q=>qΨ
def Gp:He K H1 dψ (re lo c n) dū:=by intro i M H ts m _;rw[zQ];exact oϛ;let⟨rfl,y⟩:=y;exact#[cĠ,m,wi bγ,?_,by rw[y];show WR.v];simp[re,hi]
def db.three (h:db K H [x,y,z] vs):gm λv u t=>fU (vs= [v,u,t]) (Ű) (cϐ) (WR K H z t):=by simp![db] at h;let⟨v,t,rfl,h1,u,t',rfl,h2,s,RV,rfl,h3,rfl⟩:=h;show#[v,u,s,rfl,h1,h2,h3]
instance {t:TA}{a:WA} [ia:bŐ]:II K (Qz t) (Qy a) where
 imp:=λρ M σ H q R o h k=>ia.imp ρ M σ H _ _ o h (by rintro xs M1 v H1 ⟨i,j,c,e,h0,h2⟩ t1 m1 r1;exact by subst e;let⟨v,u,s,rfl,r,r',Xa⟩:=r1.three;cases r.eq;cases r'.eq;cases Xa.eq;show#[i,j,c,rfl,h0,k _ _ _ M1 H1 h2 t1 m1 Gp])
theorem N_:Qy a ρ M q=qΨ:=rfl
universe e
universe WL
namespace HT
open PySem PySem.Spec PyProof.Rows
def nn {lo hi:Ċ}(ht:jĬ)(hs:mϴ)(pl:eĵ)(pu:eĶ)(hw:pύ)(h:Q bĹ s):pš:=by
 let⟨os,TB,hcs,Vi⟩:=id hs;have hTs:lξ :=eķ
 unfold getItem;try with_reducible exact d8 ?_
 first | exact cŶ | skip
 exact oô;exact rö;change pŰ;exact lé;exact lê;rw[aĶ];exact iϖ;have abv:qϬ:=by rw[hw.1,hw.2];simp
 change ró;rw[ak abv];exact ah (m:=Builtin.Tuple.tupleIsExact _) ?_;unfold Builtin.Tuple.tupleIsExact;exact ah (wpAny_typeOf ht.typeIs aϒ);rw[aĶ];first
 | show lΟ
 | show ah (eZ (ah kΟ))
 | show ah (ah (eZ kΟ))
 | show ah (lΟ)
universe HT
namespace L2
open PySem PySem.Spec PyProof.Rows
def Sl (K:iQ):nΥ:=λx lo hi H Q=>cM λa xs=>fU Ÿ (dď) ((pϢ) ->Q ł H) (¬(pϢ) -> pŖ)
def MM:Zs X (Sl X.K):=by
 intro aj s σ H x v vl vu lo hi sl Q I rx hs pl pu h;let⟨a,xs,rfl,hx,q1,q2⟩:=h;by_cases hw:pϢ;cases rx;let⟨its,r,ht,hz⟩:=cΑ;have df:lπ:=by rw[aU];show r.length.symm
 exact nθ;show HT.nn ht hs pl pu iϗ #[Ā,H,I,rfl,q1 hw];show Sa aj s σ H ł v vl vu lo hi sl Q I rx hs pl pu #[a,xs,rfl,hx,hw,q2 hw]
universe L2
namespace WL
open PySem L2
section
variable {K:iQ}
def VL:Vz:=λx lo hi M q=> ∃l,cę /\ kϚ
def Df (h:HT.gi l.length 0 lo=0 /\ HT.gi l.length l.length hi=l.length):qS l lo hi=l:=by unfold qS;rw[h.1,h.2,List.drop_zero,Nat.sub_zero,bD]
instance:ISl K (Sl K) VL where
 imp :=by rintro x v lo hi M H q Q m r1 ⟨l,rfl,h⟩ k;let⟨a,vs,rfl,hv,r⟩:=r1.tup;exact#[a,vs,rfl,hv,λhw=> ?_,λhw p hp=> ?_];rw[r.length] at hw;rw[Df hw] at h;show k _ M _ H h Ż m (WR.Qr hv r);show k _ M _ _ h Ϧ (bŔ) (WR.Qr cϓ ((dŤ).ts Ϧ))
def aap:VL bŇ lo hi M q=kϚ:=by apply propext;symm;rintro⟨_,h,k⟩;cases h;show k;intro h;show Ų
universe e
universe WL
namespace WQ
open PySem L2 WL WP
def cv (a b:ā):Nat ->cĭ
 | 0,_=>0
 | k+1,n=>cv a b k n+if k<=n then a.getD k 0*b.getD (n - k) 0 else 0
structure IsPart (p:Int)(one other q r:Ĳ):Prop where
 qs:Rs p q
 rs:Rs p r
 len:r.length<other.length
 ql:q.length<=one.length
 eq: ∀n,one.getD n 0 % p=(cv q other q.length n+r.getD n 0) % p
def Ob {n:Nat}{i:Int}(h0:0<=i)(h1:i<n):xg n i=eĹ:=by unfold xg;rw[ak h0,ak h1]
universe WQ
namespace L2
open PySem PySem.Spec PyProof.Rows
def Uu {σ:St}(I:ϙ)(e:iě)(ry:fį)(rd:RelV d r)(z1:iϝ)(h1: ∀v w' s',bľ=ă ->oÐ)(h2: ∀s',bľ=none ->Inv X aj σ (dB H a (.dK (im kvs k d))) s' ->Q r s'): wpAny Ϥ A (call (.builtin "dict.setdefault") [Ā,u,r]) Q E s:=by
 let⟨z,hd,vs,rel,dd⟩:=cč;have hz:iΟ:=by rw[<- rel.length];show z
 have hl:(im kvs k d).length<=sizeLine:=by have:=iY kvs k d;exact Lqj Ĝ Lq0 Lq1 lí ϰ (LqNp z1 this) rfl
 have rv:=cċ;exact call_meetsIn PySem.F.slot_dict_setdefault dd.typeIs PySem.F.entry_dict_setdefault (PySem.F.args_dict_setdefault_3 _ _ _) (kt_meets_setdefault gτ a aϧ hd r) #[vs,dd,hz,dΑ,λhn h' GV hs=> ?_];rw[hv] at rv;cases hk:bľ with
 | none=>rw[hk] at rv;show mΧ
 | some x=>rw[hk] at rv;show h1 x v _ hk cù (by first | show rv | (cases rv;assumption))
 rw[hn] at rv;cases hk:bľ with
 | some x=>rw[hk] at rv;show mΧ
 | none=>
  exact h2 _ hk ?_;have he: jϢ:=let ⟨q,_,_,hq,_⟩:=GV;aϨ
  show p9 I lθ hs he (u5 hl hd (rel.put k rd) GV)
def Im (td ty tx:TE):TE:=λσ H Q=>td σ H λx H1=> ∃a,x= Ā /\ IsD H1 a /\ ty σ H1 λy H2=>tx σ H2 λz H3=> ∃kvs k,H3 a=ϊ /\ y=kV k /\ iϝ /\(∀v,bľ=ă ->Q v H3) /\ (bľ=none ->Q z (dB H3 a (.dK (im kvs k z))))
def Js (ho:cĎ)(he:PE X e ty)(hf:PE X f tx)(m:M2 X o eι f' e f gX):PE X (.Call (.Attribute o eι f') [e,f] [] gX) (Im td ty tx):=by intro aj s σ H Q I h;exact wpAny_Call_method m.base m.zw m.line PySem.F.plainAttrs_dict PySem.F.slot_dict_setdefault PySem.F.type_dict_setdefault mđ;rintro u s1 ⟨x,H1,I1,rx,a,ex,d,q1⟩;subst ex;obtain rfl:Μ:=rx;let⟨t1,t2,_⟩:=yI I1 d;exact dŇ;rw[m.trees];exact Calls.callWith_builtin rfl (Calls.evalArgs_plain (eB (dE lñ λiv s2 iϠ=>eB (dE lò λfv s3 ⟨z,H3,I3,rz,kvs,k,ea,ey,z1,q3,q4⟩=>jı))));subst ey;show Uu I3 ea ry rz z1 (λv w' s4 hv I4 vJ=>#[_,H3,I4,vJ,q3 v hv]) λs4 hn I4=>#[z,_,I4,rz,q4 hn]
universe L2
namespace WL
open PySem L2
variable {K:iQ}
def BI (a b c:WE):WE:=λρ M q=>a ρ M λx M1=> ∃p,x=wr p /\ mĦ /\ b ρ M1 rč
instance {t u s:TE}{a b c:WE} [ia:ň] [ib:bŎ] [ic:bř]:IE K (Im t u s) (BI a b c) where
 imp :=λρ M σ H q Q o h k=>ia.imp ρ M σ H _ _ o h λx M1 v H1 lř t1 m1 r1=>by
  subst e;let⟨ks,hk,rr⟩:=cĝ;exact rë;rintro z M3 u3 H3 ⟨kvs,ky,e2,e3,hl,h3,h4⟩ t3 m3 r3;subst e3;let⟨ks,hk,rr⟩:=cĞ;have ts:=oM (u:= .dK (im ks ky u3)) hk;exact#[ks,ky,hk,fņ,by rw[rr.length];show hl,dΑ,λhn=> ?_];rcases cĜ with⟨n1,n2⟩ | ⟨x',v',n1,n2,rx⟩
  rw[n2] at hv;cases hv;rw[n2] at hv;cases hv;show k _ M3 _ H3 (h3 _ n1) lĀ m3 rx;rcases cĜ with⟨n1,n2⟩ | ⟨x',v',n1,n2,rx⟩
  show k _ _ _ _ (h4 n1) nπ (m3.putD hk (KR.put r3 rr)) (r3.ts ts);rw[n2] at hn;cases hn
def wL (o:Ë)(q:bţ)(n:Prop):Prop:=(∀x,o=û ->q x) /\ (o=none ->n)
def VW:BI a b c ρ M q=a ρ M λx M1=>iu x λp=>k_ aŐ λ_=>b ρ M1 λy M2=>c ρ M2 λz M3=>qM y λk=>k_ (M3 p) λkvs=>jg jϠ (wL (bŘ) (λx=>q x M3) (q z mħ)):=by
 unfold BI iu qM k_ jg wL;congr 1;funext x M1;apply propext;symm;all_goals
  have e: ∀p:gg,(rč)=(λy M2=>c ρ M2 λz M3=> ∃k,aŋ /\ ∃kvs,iϱ /\ qΜ):=λp=>by funext y M2;congr 1;funext z M3;apply propext;symm;rintro⟨a,b,c,d,e⟩;show eŮ;rintro⟨b,d,a,c,e⟩;show eů
 rintro⟨p,h1,⟨kvs,h2⟩,h⟩;show#[p,h1,kvs,h2,e p▸h];rintro⟨p,h1,kvs,h2,h⟩;show#[p,h1,#[kvs,h2],(e p).symm▸h]
def MN:wL bŋ q n=q x:=by apply propext;unfold wL;symm;(· intro h;show h.1 x rfl);(· intro h;show#[λy e=>by cases e;show h,λe=>nomatch e])
def MP:wL none q n=n:=by apply propext;unfold wL;symm;(· intro h;show h.2 rfl);(· intro h;show#[λy e=>(nomatch e),λ_=>h])
universe WL
namespace WL
open PySem L2
def Lh {α:Type}{l:Ý}{fW:aŢ}(eW:aŢ){M1:Mp}(hz:iő)(kx: jϷ)(hs: ∀a∈l, ∀ (M:Mp) (N:hĦ),aϳ ->(∀M',Ħ ->N (dτ) M') ->qυ)(hq: ∀p M',ţ ->bż ->M' p=some hϩ ->q č M'):oģ:=by
 exact#[by rw[ab];show hz,λp hp=>#[λi ys M=>iĿ /\ aϳ /\ ys=hϮ,#[av,bR hp,by simp],?_,?_,?_]];rintro i ys M hi ⟨h1,h2,rfl⟩;exact#[kx _ h2,h1,?_];rw[ab,bv];exact iϵ;rintro i x ys M hx ⟨h1,h2,rfl⟩;let⟨a,ha,rfl⟩:=lX hx;have e:mÖ:=by rw[bj,ha];rfl
 exact hs a bÆ _ (λo M4=>match o with
 | aģ=>nϓ /\ um M4 p ną p=some ną /\ Sm M1 (um M4 p ną) /\ hϮ++ [y]=iŐ eW
 | none=>nϓ /\ Sm M1 M4 /\ hϮ=iŐ eW) h2 λM' s'=>#[s' _ _ h1,av,λc o ec=>by rw[aH (cO ec hp)];show s' _ _ (h2 _ _ ec),by rw[e,aR];rfl]
 rintro ys M ⟨h1,h2,rfl⟩;rw[ab,bD] at h1;show hq p M hp h2 h1
universe WL
namespace WQ
open PySem L2 WL WP
def cs (n r:Int)(l:Pt):Int:=((l.filter λz=>decide (z.1 % n=r)).map aď).sum
universe WQ
namespace L2
open PySem PySem.Spec PyProof.Rows
def Jl {K:iQ}(hK:X.K=K)(hl:cò):PI X tg l (Kp K tl):=by subst hK;show d_ hl
universe L2
namespace WQ
open PySem L2 WL WP
def Oa (P:bţ)(h0:0<=y)(h1:y<xs.length)(hP: ∀x∈xs,P x)(k: ∀x,P x ->æ):RD ŝ (wi y) M q:=by have hy:y.toNat<xs.length:= ∅;show#[xs,y,xs[y.toNat],rfl,rfl,FF h0 (ao hy),k _ (hP _ (cH hy))]
abbrev Cf:=cĭ
def act:Nat ->Cf ->Cf ->Int
 | 0,f,g=>f 0*g 0
 | n+1,f,g=>f 0*g aÅ+act n (λi=>f ß) g
def co (l:ā):Cf:=λi=>l.getD i 0
def Mult (p:Int)(a g:Cf):Prop:=cM λ(E:Cf) (N:Nat)=>(∀i,N<=i ->E i % p=0) /\ ∀n,a n % p=act n E g % p
def xQ (p:Int)(a g h:Cf):Prop:=gm λ(A B:Cf) (N:Nat)=>(∀i,N<=i ->A i % p=0 /\ B i % p=0) /\ ∀n,a n % p=(act n A g+act n B h) % p
def FV (p:Int)(a:Rd)(v:Int):Prop:=cM λlo hi=>d6 (gN (D9 a) lo) (lE (D9 a) hi) (v=fwv p a lo hi)
open Classical in
noncomputable def fv (p:Int) (a:Rd):Int:=if h: ∃v,FV p a v then h.choose else 0
def names:Ĉ:= ["on","back","up","down"]
def PK (p:Int)(s:Str):Rd:=if s= "on" then(1,[]) else if s= "back" then(-1,[]) else if s= "up" then(0,bË) else(0,[(0,p - 1)])
noncomputable def jf (p:Int) (a:Rd) (s:Str):Bool:=decide (fv p (jn p a (PK p s)) >fv p a)
def RY (a b:Int):Ĉ:=List.replicate (a - b).natAbs (if a<=b then "on" else "back")
def RM (p s:Int):Ĉ:=if s<=p - s then List.replicate s.toNat "up" else List.replicate (p - s).toNat "down"
def Cd (p:Int):Int ->Pt ->Ĉ
 | _,[]=> []
 | here,Ñ=>RY here z.1++RM p z.2++Cd p z.1 r
def pairsOf (p:Int)(z:Ō):Pt:=if z.2<=p - z.2 then List.replicate z.2.toNat (z.1,1) else List.replicate (p - z.2).toNat (z.1, -1)
def aab:Int ->Pt ->Int
 | _,[]=>0
 | here,Ñ=>Zp (here - z.1)+aab z.1 r
theorem HX: ∀ {l:Pt},mÍ -> ∀z∈l,dM l z.1=z.2
 | [],_,z,h=>by cases h
 | y::r,hp,z,h=>by let⟨hy,hr⟩:=cu.mp hp;obtain rfl | h:=aϠ;rw[dM,Ć,sT λq hq=>by have:=hy q hq;exact λe=>Lqf Û ϳ ο kŇ rfl];exact qύ;rw[dM,ai (by have:=hy z h;exact λe=>Lqf Û ϳ ο (LqIp this (Ŏ)) rfl),HX hr z h];exact qώ
universe WQ
namespace L2
open PySem PySem.Spec PyProof.Rows
def Inv.freeze {σ:St}(I:ϙ)(e:H d=ă)(ho:s.heap.get? d=ą)(n1: ∀xs,HO.tup xs≠v:=by intro _ q;cases q)(n2: ∀a b,HO.nM a b≠v:=by intro _ _ q;cases q)(n3: ∀a,HO.own a≠v:=by intro _ q;cases q)(n4: ∀a,HO.Pu a≠v:=by intro _ q;cases q): Inv X aj σ (dB H d (.nM o v)) s:=by
 have ne: ∀ {b u},cŻ ->u≠v ->aá:=λ{b u} h n z=>by subst z;rw[e] at h;show fŢ
 have NM: lĐ:=λ{b} h z=>by subst z;rw[e] at h;cases h
 exact rė;have z:=lđ;rw[bS (NM z)];show z;have z:=hĴ;rw[bS (ne z (n1 _))];show z;have z:=iœ;rw[bS (ne z (n2 _ _))];show z;let⟨more,z⟩:=hĵ;show#[more,by rw[bS (ne z (n4 _))];show z];rw[gĕ];show I.free;rw[jň];show cϪ;let⟨a1,a2,a3⟩:=cθ;show nů;have ow: ∀c,H c=fţ ->iŔ=fţ:=λc r=>by rw[bS (ne r (n3 _))];show r
 have tu: ∀c xs,iĄ ->iŔ=gÆ:=λc xs r=>by rw[bS (ne r (n1 _))];show r
 by_cases hb:b=d;subst hb;rw[cw] at h;cases h;show#[ho,gϚ (eμ) ow tu];rw[aÑ] at h;show nϔ
def K0 {σ:St}(I:ϙ)(ho:iΡ)(e:lΡ): ∃vs,Ŝ /\ s.heap.DictAt gτ d vs ep:=by
 let⟨h0,_,_,vs,rel,o',es',ep',h1,h2,h3,h4⟩:=(show fm X.prog X.w H s.heap d (.nM o š) from I.dU d _ e)
 rw[h0] at h1;cases h1;rw[ho] at h3;cases h3;show#[vs,rel,o,es,h0,h2,ho,h4]
universe L2
namespace WL
open PySem L2
variable {K:iQ}
theorem uH {H:Hp}: ∀ {kvs:ű} {vs:ů},fŤ ->jġ
 | _,_, .nil=>rfl
 | _,_, cà=>by rw[aT,aT,uH t]
universe WL
namespace WQ
open PySem L2 WL WP
def Y7 (n:Int):gĊ
 | [],_=>0
 | Ñ,k=>(if z.1 % n=k then z.2 else 0)+Y7 n r k
def Bd (b:Int)(l:Pt):Prop:= ∀z∈l, -b<=z.1 /\ z.1<=b
def Y0 (F1:cC P w K mg base CX k f fd ps (gG K p1))(F2:cC P w K mg base CX k f fd ps (gG K p2))(h: ∀xs M q,p3 xs M q ->p1 xs M q \/ p2 xs M q):cC P w K mg base CX k f fd ps (gG K p3):=by exact#[λvs H Q E kÍ=> ?_,λA outer s H args us vs Q E hr e b v kÍ=> ?_];obtain h4 | h4:=dΒ;show F1.len vs H Q E iŕ;show F2.len vs H Q E iŕ;obtain h4 | h4:=dΒ;show F1.run A outer s H args us vs Q E hr e b v iŕ;show F2.run A outer s H args us vs Q E hr e b v iŕ
def fl (p:Int)(m:Nat)(f:Pt):ā:=(List.range m).map λ ħ=>Y7 m f k % p
universe WQ
namespace L2
open PySem PySem.Spec PyProof.Rows
def IV (i:Int)(n:Nat):Ä:=iĽ λ ħ=> .int dΓ
def Ik (ta:TA):TE:=λσ H Q=>ta σ H λvs H1=>cM λ cĵ=>fU (vs= [Ă, aĦ]) př lş (∀l,cĶ ->Q bļ (dB H1 l mØ))
def MA (h:ItemsOf (λj v=> ∃t,v=Value.int (i+aϣ*1) t) gh n):cR (IV i n) gh.toList:=by
 let⟨hl,hv⟩:=h;have TU:iŖ:= â;have key: ∀ (k:Nat) (l:ã) (m:Nat),l.length=m ->(∀j v,l[j]? =ă -> ∃t,v=Value.int (i+gϛ) t) ->cR (kÎ mĭ) l:=by
  intro k l;induction l generalizing k with
  | nil=>intro m hm _;subst hm;show .nil
  | cons v r ih=>intro m hm hj;subst hm;rw[aT,List.range'_succ,aX];exact oϜ;let⟨t,e⟩:=hj 0 v rfl;show#[t, Å];let⟨t,e'⟩:=pē;show mĮ
 have:=key 0 gh.toList n TU λj v e=>by let⟨t,e'⟩:=hv j v oě;show mĮ
 unfold IV;rw[List.range_eq_range'];show this
def Cs {p1 p2 Jj yr:Pos}(YC:dΔ)(QM:hϯ)(hg:eĨ)(hm:iđ)(hc:Ŷ)(ha:fē)(hs:starEach [a,b] X.env= [jĞ,jŉ]:=by rfl)(lv:starEach [b] X.env= [jŉ]:=by rfl)(ht:starEach [nϕ] X.env= [(false,eval (nϕ) X.env)]:=by rfl): PE X (.Call hϰ [nϕ] [] Jj) (Ik ta):=by
 intro aj s σ H Q I h;exact oż;rw[ht];exact qμ;rintro us s1 ⟨vs,H1,I1,r1,q1⟩;let⟨i,j,e,⟨q1,q2,q3,q4⟩,hn,q⟩:=q1;subst e;cases r1 with
 | cons r rr=>
  cases rr with
  | cons r' rr=>cases rr;let⟨t,rfl⟩:=r;let⟨t',rfl⟩:=r';exact call_range_2 (jı);have I2:Inv X aj σ H1 {s1 with heap:=s1.heap.push {cls:= fĆ,data:= .fields (List.toArray [bČ, cĴ, .int 1 s1.toks])},toks:=s1.toks+1}:=kϙ;exact call_list_range (n:=fť) fŦ hĆ (small_one q1 q2 q3 q4) (by rw[rangeSize_one];split<;>lia) ∅ mΨ;have hv:=MA items;exact#[aĽ,_,I2.laid (t':=tk) kp õ (show fm X.prog X.w _ h' _ mØ from mį),rfl,q _ jŇ];unfold IV;rw[ab,ci];show aI hn iŅ
universe L2
namespace WL
open PySem L2
variable {K:iQ}
def HJ (a:WA):WE:=λρ M q=>a ρ M λxs M1=>cM λ cĵ=>fU (gΨ) př lş (∀l,M1 l=none ->oϝ)
theorem IQ {H:Hp}(i:Int): ∀ (l:ċ),db K H (l.map λ ħ=>wi dΓ) (l.map mĭ)
 | []=>by simp![List.map_nil,db]
 | k::r=>by simp![aX,db];show#[_,_,rfl,WR.v,IQ i r]
instance {t:TA}{a:WA} [ia:bŐ]:IE K (Ik t) (HJ a) where
 imp:=λρ M σ H q Q o h k=>ia.imp ρ M σ H _ _ o h (by rintro xs M1 vs H1 ⟨i,j,ex,h1,h2,h3⟩ t1 m1 r1;exact by subst ex;let⟨v,u,rfl,r,r'⟩:=r1.two;cases r.eq;cases r'.eq;show#[i,j,rfl,h1,h2,λp hp=>k _ _ _ _ (h3 p fŀ) mś (m1.sC hp (IQ i _)) WR.v])
theorem HI:HJ a ρ M q=a ρ M λxs M1=>cM λ cĵ=>fU (gΨ) př lş (ux M1 λl=>oϝ):=rfl
universe WL
namespace WQ
open PySem L2 WL WP
theorem MF (h:Bd b l)(hy:b<y.natAbs):dM l y=0:=sT λq hq e=>by have:=h q hq;omega
universe WQ
namespace L2
open PySem PySem.Spec PyProof.Rows
theorem lU (hk:PE X k tk)(hv:PE X v tv):PE X (.Dict [ù] [v] pos) (Il [(tk,tv)]):=Nm (Ji hk hv Nf) rfl rfl ś ś
universe L2
namespace WL
open PySem L2
variable {K:iQ}
def HK (a b:WE):WE:=λρ M q=> ∀p,ņ ->qϟ
instance {tk tv:TE}{a b:WE} [ia:IE K tk a] [ib:IE K tv b]:IE K (Il [(tk,tv)]) (HK a b) where
 imp :=λρ M σ H q Q o h k=>λp hp=>by
  have t0:bC H hώ:=hĠ;have m0:iD K hϞ hώ:=o.hp.put t0 gć;exact ia.imp ρ _ σ _ _ _ (o.mv t0 m0) jϱ λx M1 v H1 h1 t1 m1 r1=> ?_;exact ib.imp ρ M1 σ H1 _ _ (o.mv (dΕ) m1) h1 ?_;rintro y M2 u H2 ⟨e1,ky,e2,h2⟩ t2 m2 r2;subst e2;let⟨ks,hk,rr⟩:=m2 p _ e1;cases rr;have ev:v=kV ky:=by
   cases ky with
   | inl i=>show r1.eq
   | inr z=>show r1.eq
  exact#[hk,bδ,by rw[ev];rfl,by simp,?_];have t3:=oM (u:= .dK (gĖ)) hk;exact k _ _ _ _ h2 (((dΕ).trans t2).trans t3) (m2.put t3 #[_,cw,?_]) WR.v;change KR K _ [(ky,y)] (gĖ);have em:gĖ= bδ:=rfl;rw[em];show .cons #[rfl,r2.ts t3] .nil
theorem tN:HK a b ρ M q=ux M λp=>qϟ:=rfl
universe WL
namespace WQ
open PySem L2 WL WP
theorem IX (p0:0<p)(h:mq p a 0 r):r=aŠ:=h.eq p0 #[by change ě=a.1*0;lia,cX.nil,λx=>by change ě=_;simp[m7,iE]]
universe WQ
namespace L2
open PySem PySem.Spec PyProof.Rows
section
variable {prog:Program}{w:World}{A:Around}{R:iį}{I:gg}{fp wr:å}{n:Nat}{P:Nat ->fi ->Prop}{St:hΖ}{kw:eį}
def J0 (W:nĻ)(bt:hĮ)(KO:mÙ)(Z:gg)(hZ:Z∉fp): ∀ (k j:Nat) (s:fk) (x:fi) (c:Nat),cÒ=k ->j+1<=n ->St Þ s.heap ->P gė x ->fŧ=some {cls:= eď,dict:=none,data:= .seq (List.toArray [x,x]) c,slots:= #[]} ->(rî) ->codeAny Χ A (.builtin cϫ #[kϛ,kw]) R s:=by
 have hw:Z∉wr:=jÀ;have nm:pō :=⋯
 intro k;induction k with
 | zero=>intro j s x c hk hj gD hP hS hR;have e0:j+1=n:= (by exact LqNx hj (Lqj Ĝ Lq0 ϑ υ (.a ö ϲ) kÏ rfl));exact nυ;rw[oă];change oΨ;exact mš;change pŎ;exact ah (wpAny_tryCatch (W.done s _ _ (e0▸gD) gϜ));have QX:=eν;change wpAny _ A.in1 (updateSeq Z (λ_=> #[]) >>=_) _ _ _;exact aÖ;exact wpAny_updateSeq QX rfl (lē);show hR x _ tk (by rw[<- e0];show hP) λb o n1 n2 e=>nϖ
 | succ k ih=>
  intro j s x c hk hj gD hP hS hR;have f7:j+1<n:= (by exact Lqj ř ϵ Lq1 (.a ϓ (.a ö lÎ)) jχ (LqNp cķ (LqNp ϔ (cÑ))) rfl);exact nυ;rw[oă];change oΨ;exact mš;change pŎ;exact ah (wpAny_tryCatch (W.item Þ s _ _ f7 gD λv h1 tk Mh Of zu=> ?_));have QX:=eν;change wpAny _ A.in1 (tryCatch (holding [v,v] (richCompare .Lt v x >>=_)) _ >>=_) _ _ _;exact ah (wpAny_tryCatch (d8 (ah (KO Þ gė v x _ _ _ Mh hP ?_))));exact ah (d8 (cZ ?_));exact lē;cases hb:bt Þ gė with
  | true=>simp![b_];exact aÖ;exact wpAny_updateSeq QX rfl (jÁ);rw[nm];exact aD #[nĆ,ih Þ _ v _ rĴ f7 nχ (by simp![argBest,hb,b_];show Mh) nć kÐ];show pý;show hR v2 h2 Wa GG pϷ
  | false=>simp![aF,bw];exact jÁ;rw[nm];exact aD #[nĆ,ih Þ _ x c rĴ f7 Of (by simp![argBest,hb,aF,bw];show hP) QX kÐ];show hR v2 h2 Wa GG λb o n1 n2 e=>Ht b o n1 n2 (dΖ)
def Ax (W:nĻ)(bt:hĮ)(KO:mÙ)(Z:gg)(hZ:Z∉fp)(gD:St 0 s.heap)(hS:fŧ=some {cls:= eď,dict:=none,data:= .seq #[] c,slots:= #[]})(h0:n=0 -> ∀h' tk,pϮ ->R (.ok (.ret d)) lε)(hR:0<n -> rî):codeAny Χ A (.builtin cϫ #[kϛ,[(nd,d)]]) R s:=by
 have hw:Z∉wr:=jÀ;have nm:pō :=⋯
 exact nυ;rw[oă];change oΨ;exact mš;change pŎ;obtain hn | hn:=Nat.eq_zero_or_pos n;subst hn;exact ah (wpAny_tryCatch (W.done s _ _ gD gϜ));exact ah (eZ ?_);show aD (h0 rfl _ tk λb o n1 n2 e=>dΖ);exact ah (wpAny_tryCatch (W.item 0 s _ _ hn gD λv h1 tk hP Of zu=> ?_));have QX:=eν;change wpAny _ A.in1 (updateSeq Z (λ_=> (List.toArray [v,v])) >>=_) _ _ _;exact aÖ;exact wpAny_updateSeq QX rfl ?_;rw[nm];exact aD #[nĆ,J0 W bt KO Z hZ _ 0 _ v _ rfl hn nχ hP nć kÐ];show pý;show hR hn v2 h2 Wa GG pϷ
def Hb (a d:fi):argsOk aå #[[a],gϝ]:=by unfold argsOk;kernel_rfl
variable {E:Φ}{s:fk}
def G6 (h:wpAny Χ A.in1 cϣ (λit t=>Rp λI fp wr n P St bt=>Lx (it= .ref I) (nĻ) (St 0 t.heap) (∀b∈fp,b<t.heap.objs.size) (mÙ) (n=0 -> ∀h' tk,pŢ ->Q d lΤ) (0<n -> ∀v h' tk,lĒ ->pŢ ->Q v lΤ)) E s): wpAny Χ A (call hı [x] gϝ) Q E s:=by
 have nm:pō :=⋯
 exact wpAny_call (codeAny_call_builtin F.plain_min F.entry_min ?_);simp![checkBuiltinCall,F.kind_min];have ha:=Hb x d;cases Yc:lŠ with
 | none=>show absurd (show(lŠ).isSome=true by kernel_rfl) (by rw[Yc];decide)
 | some sig=>
  have Mg:Bind.checkArgs aå sig #[[x],gϝ]=pure ():=by simpa only[argsOk,Yc] using ha
  simp![Mg];exact aÏ;change wpAny _ A.in1 (qð >>=_) _ _ s;exact ah (wpAny_of_eq (show qð=pure [none,aā] from rfl) ?_);exact cŶ;exact ah (cg h (λit t h₂=> ?_) cŷ);let⟨I,fp,wr,n,P,St,bt,rfl,W,gD,yQ,KO,hQ0,hQ⟩:=h₂;exact ah (dY ?_);have hZ:t.heap.objs.size∉fp:=λhm=>cq _ (yQ _ hm);rw[nm];exact aD #[nĆ,Ax W bt KO t.heap.objs.size hZ (W.frame _ _ _ gD λb _ o e=>aĤ) (Ŀ) (λhn h' tk hk=> ?_) λhn v h' tk hP hk=> ?_];show hQ0 hn h' tk oŠ;show hQ hn v h' tk hP oŠ
universe e
universe L2
namespace WL
open PySem PySem.Spec PyProof.Rows L2
def PB (K:iQ)(te td:TE):TE:=λσ H Q=>te σ H λx H1=>td σ H1 λd H2=>cM λ aš ż=>fU dĺ (ip K H2 l gì) (aŦ ->Q d H2) (∀m,bÀ ->Q (.int m) H2)
def Nj (hg:Gl X aå)(hm:X.mg aå =none)(hc:Ŷ)(ha:cí)(hd:PE X ed td)(he:iħ= [jĨ]:=by rfl):PE X (.Call (.Name aå p) [e] [#[some cĸ,ed,abi]] pos) (PB X.K te td):=by
 intro aj s σ H Q I h;exact wpAny_Call_Name_kw (iI I hg hm Boot.«min» ?_ ⋯ ⋯);exact PyProof.Rows.callWith_kw ?_ gϞ gϞ rfl rfl;rw[he];exact eB (dE jĕ λu s1 iώ=>jı);exact kws_cons (dE (hd aj s1 σ H1 _ I1 q1) λu2 s2 ⟨d,H2,I2,r2,q2⟩=>kws_nil ?_);let⟨l,ns,rfl,hs,q0,q⟩:=q2;cases r1;change wpAny _ _ (call hı [aĻ] [(cĸ,u2)]) _ _ s2;let⟨its,rv,ht,hz⟩:=I2.list hs;have hh:jĶ:=I2.ok.hd hc;have df:lΙ:=by have:=rv.length;rw[ab] at this;simpa using this.symm
 have f7:l<s2.heap.objs.size:=by let⟨_,e,_⟩:=ht.isList;show Ç
 exact G6 (mΡ);have hk: ∀h':Heap,(∀b o,b∉ [s2.heap.objs.size] ->(s2.heap.push {cls:= .type "list_iterator",data:= .fields (List.toArray [aĻ, .int 0 s2.toks])}).get? b=ą ->hü) -> ∀b o,s2.heap.get? b=ą ->hü:=λh' hk b o e=>hk b o pã bņ;exact#[s2.heap.objs.size,_,_,its.toArray.size,_,_,oú,rfl,Walks.list hh s2.heap.objs.size l (a7 f7) its.toArray,oĿ,ŷ,qĝ,λhn h' tk hm=> ?_,λhn v h' tk e hm=> ?_];change b< (s2.heap.push _).objs.size;rw[dR];obtain rfl | hb:=bŷ;show dc _;rw[ő];show dW f7;show#[d,H2,qœ,r2,q0 (dy.mp (by exact LqNx (Nat.le_trans cĈ (LqNe hn)) ϔ))];let⟨t,rfl,_⟩:=bÂ;rw[df];show#[aĨ,H2,qœ,bŃ,q _ (Bl (List.length_pos_iff.mp (by exact Nat.lt_of_lt_of_le hn (LqNe df))))]
def I_ (K:iQ):ϫ:=λxs H Q=>cM λ aŘ dŘ=>d6 (xs= Ļ) (ip K H a (ks.map V.int)) qϖ
def Dk:gz X iϩ (I_ X.K):=by
 intro aj s σ H xs us Q I r h;let⟨a,ks,rfl,hs,q⟩:=h;let⟨u,rfl,ru⟩:=Ģ;cases ru;let⟨its,rv,ht,hz⟩:=cĔ;have hI:IntsAre its ks:=pJ rv;have hl:its.length=ks.length:=by have:=rv.length;rw[ab] at this;show this.symm
 rw[ab] at hz;exact qħ;unfold Builtin.«sorted»;exact oĽ;let⟨o,ho,hc,n,hd⟩:=ht.isList;exact ah (wpAny_collect_seq a ũ ho hc hd (λh' KG=> ?_) (by simp![aU];exact Nat.le_trans cĄ hz));simp![List.toList_toArray];exact ah (wpAny_newList ?_ jÂ);have ho:(nϹ).get? h'.objs.size=some mŢ:=Ŀ;exact ah (d8 (wpAny_call_entry slot_list_sort dř entry_list_sort (TS.wJ (s:= {s with heap:=nϹ}) ho hI jÂ mΗ) iĳ));let⟨ee,KS⟩:=mÉ;have I':mϰ:=I.kept (t':=s.toks) KG;exact aD #[_,rfl, hΨ,_,I'.laid (t':=s.toks) (o:= iϫ) gΦ õ ?_,rfl,nı];have f7:gÿ:=aM hb;rw[oΡ];show aq _ hb;exact nû;rw[ab,a2.length_eq];show hz
variable {K:iQ}
def HE (a d:WE):WE:=λρ M q=>ræ
instance {t td:TE}{a d:WE} [ia:ň] [id:IE K td d]:IE K (PB K t td) (HE a d) where
 imp:=λρ M σ H q Q o h k=>ia.imp ρ M σ H _ _ o h λx M1 v H1 h1 t1 m1 r1=>id.imp ρ M1 σ H1 _ _ Β h1 (by rintro y M2 u H2 ⟨l,ns,e,hl,q0,q1⟩ t2 m2 r2;exact by subst e;cases (r1.ts t2).eq;let⟨vs,hv,rr⟩:=m2 l _ hl;cases rr.ints;show#[l,ns,rfl,Ŋ,λe=>k _ _ _ _ (q0 e) fľ m2 r2,λm hm=>k _ _ _ _ (q1 m hm) fľ m2 WR.v])
theorem Z1:HE a d ρ M q=ræ:=rfl
def HD:zy:=λxs M q=>cM λ aŘ dŘ=>d6 eŝ (M a=some (.lst (ks.map wi))) qό
instance:IC K (I_ K) HD where
 imp:=by rintro xs v M H q Q m r1 ⟨a,ks,rfl,hl,h⟩ k;let⟨v,rfl,r⟩:=r1.one;cases r.eq;let⟨vs,hv,rr⟩:=ŉ;cases rr.ints;show#[a,ks,rfl,Ŋ,qπ]
universe WL
namespace WQ
open PySem L2 WL WP
def bI (s x:Int):Int:=if s=0 then x else x % s
def hI (s x:Int):Int:=if s=0 then 0 else x / s
def fF:ā ->Int
 | []=>0
 | a::r=>oĄ
def wZ:ā ->Int
 | []=>0
 | a::r=>oą
def GK (r:ā): ∀a,(oĄ=a \/ oĄ∈r) /\ oĄ<=a /\ ∀x∈r,oĄ<=x:=by
 induction r with
 | nil=>intro a;simp
 | cons b r ih=>intro a;let⟨h1,h2,h3⟩:=ih kő;rw[List.foldl_cons];generalize List.foldl mţ kő r=z at h1 h2 h3;exact oÜ;obtain h1 | h1:=h1;split at h1;rw[h1];show .inr aQ;show .inl h1;show .inr (aC _ h1);obtain rfl | hx:=bŀ;split at h2<;>lia;show bÌ
def GN (r:ā): ∀a,(oą=a \/ oą∈r) /\ a<=oą /\ ∀x∈r,x<=oą:=by
 induction r with
 | nil=>intro a;simp
 | cons b r ih=>intro a;let⟨h1,h2,h3⟩:=ih kŒ;rw[List.foldl_cons];generalize List.foldl mŤ kŒ r=z at h1 h2 h3;exact oÜ;obtain h1 | h1:=h1;split at h1;rw[h1];show .inr aQ;show .inl h1;show .inr (aC _ h1);obtain rfl | hx:=bŀ;split at h2<;>lia;show bÌ
def fK (h:aϐ):gN l (fF l):=by
 cases l with
 | nil=>show eĠ
 | cons a r=>let⟨h1,h2,h3⟩:=GK r a;exact hϥ;obtain h1 | h1:=h1;change kϜ;rw[h1];show aQ;show aC _ h1;obtain rfl | hx:=bŀ;show h2;show bÌ
def kY (h:aϐ):lE l (wZ l):=by
 cases l with
 | nil=>show eĠ
 | cons a r=>let⟨h1,h2,h3⟩:=GN r a;exact hϥ;obtain h1 | h1:=h1;change kϜ;rw[h1];show aQ;show aC _ h1;obtain rfl | hx:=bŀ;show h2;show bÌ
def kK (s f:Int)(ns:ā):ā:=(nĈ).map (hI s)
def du (l:Pt):ā:=eŠ
def cF (s:Int)(st:Pt):Int:=kϝ
def eC (s:Int)(st:Pt):Int:=wZ (kK s cĹ (é))
def sD (s:Int)(sts:ê)(pat:Pt):Bool:=sts.all λst=>mť nÇ
theorem R9 (ht:bζ)(hp:um M t o1 p=none):Sm (um M p o2) (um (um M t o1) p o2):=λb o e=>by by_cases hb:b=p;subst hb;rw[av] at e ⊢;show e;rw[aH hb] at e ⊢;have:b≠t:=cO e ht;rw[aH this];show e
def Xp:gA:=λxs M q=>cM λ(x s:Int)=>fU (xs= [wi x,Í]) ď cϬ (q (wi bθ) M)
def JB:gA:=λxs M q=>gm λ aŘ ż bÍ=>Lx (xs= [wr a,Í]) mŞ (jÄ) ď cϬ (aŦ ->q wn M) (bŶ ->q (wi (fF (ns.map aŧ))) M)
def aa1:gA:=λxs M q=>lD λ aŘ ż (s f:Int)=>kM (xs= [wr a,Í,wi f]) mŞ (jÄ) ď cϬ (∀ (p:gg) (ms:ā),ņ ->ms.Perm (cĺ) ->kœ ->q č (um M p iņ))
def Xi:gA:=λxs M q=>cM λ bÎ bÍ=>kM iŘ (bι) (jÅ) ď cϬ (q (.tup [wi cĹ,wi (Ī)]) M)
def aaZ:gA:=λxs M q=>gm λ dΗ bű bÍ=>kM oÝ oΩ kň ď cϬ (q (wb (eο)) M)
def Nu:gA:=λxs M q=>cM λ bÎ bÍ=>kM iŘ (bι) (jÅ) ď cϬ (q (wi cĹ) M)
def cN (s:Int)(pat:Pt)(c:Int):ā:=(aŨ).filter λx=>decide (œ)
def SH:gA:=λxs M q=>gm λ bÎ (s c:Int)=>jS (xs= [Í,cK st,wi c]) (jÅ) ď cϬ (∀p,ņ ->q č (um M p (.lst ((cĻ).map wi))))
def rH (s:Int)(st:Pt):Int:=(mΩ - mÚ) / kϞ
def Xf:gA:=λxs M q=>cM λ bÎ bÍ=>kM iŘ (bι) (jÅ) ď cϬ (q (wi (bÏ)) M)
def vP (s:Int)(sts:ê)(pat:Pt):Bool:=sts.all λst=>qŦ
def Xj:gA:=λxs M q=>gm λ dΗ bű bÍ=>kM oÝ oΩ kň ď cϬ (q (wb (eπ)) M)
def kH (h:bμ):oϊ:=by
 have hl:0<ms.length:=List.length_pos_iff.mpr h;have e:xg (ms.map wi).length Ï=some (fũ):=by rw[ab];unfold xg;simp;lia
 unfold kL;rw[e];change dż[fũ]? =_;rw[aE];have:ms[fũ]? =some (fŨ):=by
  rw[<- List.getLast?_eq_getElem?];cases ms with
  | nil=>show eĠ
  | cons a r=>simp[List.getLast?_cons]
 rw[this];rfl
structure v6 (s:Int)(st:Pt)(c:Int):Prop where
 at_:c∈é
 own:bI s c=c
 ge: kŔ
 up: ∀x∈é,œ ->c<=x
 len:jÅ
 z8:lΥ
def v6.ne (h:cļ):bι:=by rintro rfl;show absurd h.at_ (by simp[du])
def v6.col (h:cļ):ĩ=c:=by
 have cS:lĔ:=by intro e;have:=List.mem_map_of_mem (f:=bI s) h.at_;rw[e] at this;cases this
 exact gN.uniq (fK cS) #[ag.mpr #[c,h.at_,h.own],Ź];let⟨y,hy,rfl⟩:=bν;show h.ge y hy
def v6.head (h:cļ):kÑ:=by
 have hm:fŪ:=lš;have hs:jŊ cĩ:=nŰ;cases e:cĻ with
 | nil=>rw[e] at hm;cases hm
 | cons a r=>
  rw[e] at hm hs;have ha:a∈cĻ:=by rw[e];show aQ
  have Mg:=aL.mp ha;have:=h.up a Mg.1 ⇑Mg.2;obtain h1 | h1:=bξ;show h1.symm;have:=(cu.mp hs).1 c h1;change a=c;lia
def pq (h:kÓ)(hn:aϐ):lE l (eς):=by
 induction l using WP.gB with
 | h0=>show absurd rfl hn
 | h1 l a _=>
  have e:(l++ [a]).getLastD 0=a:=by simp
  rw[e];exact#[by simp,Ź];obtain hx | hx:=bý;show(cW.mp h).2.2 x hx a ś;rw[bĂ];show Ð
def qT (hs:0<s):x=Ď+s*Đ:=by unfold bI hI;rw[qū,qū];have:=lŢ;exact LqIx dΘ dΙ
def v6.size (hs:Ò)(h:cļ):bÏ=Ī:=by
 have hc:=h.col;have hh:=h.head;have hm:fŪ:=lš;have vR:jŊ cŸ:=(nŰ).imp nÈ;have cS:gϟ:=λe=>by rw[e] at hm;cases hm
 have hl:=pq vR cS;unfold rH eC;rw[hc,hh];have e1:gĘ=(cĻ).map (hI s):=rfl;have AL:gĘ≠ []:=by rw[e1];simpa using cS
 exact lE.uniq ?_ (kY AL);generalize kŕ=z at hl;have hz:=aL.mp hl.1;have hzc:bI s z=c:= ⇑hz.2;rw[e1];obtain h0 | h0:=kÔ;have key: ∀x∈cĻ,Đ=(x - c) / kϞ:=λx hx=>by
  have gQ:=bο;have _Q:œ:= ⇑gQ.2;have e:=eτ;rw[_Q] at e;have e2:kϞ=s:=by split<;>lia
  rw[e2,show x - c=s*Đ by exact LqIx (Lqi Ĝ Α Lq2 Lq0 ξ bĨ rfl) (Lqi Ĝ Lq0 eŴ υ Lq1 Ŏ rfl),Int.mul_ediv_cancel_left _ (by exact λe=>Lqf [_] ϶ ϖ (LqIp h0 ŭ) rfl)]
 exact#[ag.mpr #[z,hl.1,key z hl.1],dİ];let⟨x,hx,rfl⟩:=bπ;rw[key x hx];show Int.ediv_le_ediv (by split<;>lia) (by have:=hl.2 x hx;exact Lqi Ĝ Α eυ Lq0 Lq2 this rfl);subst h0;have e3: ∀x:Int,hI 0 x=0:=λx=>rfl;have e4:z=c:=hzc;subst e4;exact#[ag.mpr #[z,hl.1,by simp[hI]],dİ];let⟨x,hx,rfl⟩:=bπ;simp[hI]
def JW (hs:Ò)(h: ∀st∈sts, ∃c,cļ):eο=eπ:=by
 unfold sD vP;rw[Bool.eq_iff_iff,de,de];have one : ∀st∈sts,(mť nÇ)=(qŦ):=λst gD=>by
  let⟨c,hc⟩:=bÐ;rw[hc.size hs,hc.col];have e1:kK s c (aŨ)=(cN s pat c).map (hI s):=rfl;rw[e1,List.all_map];rw[Bool.eq_iff_iff,de,de];have each: ∀x∈cN s pat c,(cĽ /\ Đ<Ī)↔(c<=x /\ x<c+Ī*kϞ):=λx hx=>by
   have gQ:=bο;have _Q:œ:= ⇑gQ.2;obtain h0 | h0:=kÔ;have e:=eτ;rw[_Q] at e;have e2:kϞ=s:=by split<;>lia
   rw[e2];generalize Đ=y at e ⊢;generalize Ī=z;rw[e];symm;rintro⟨a,b⟩;exact#[by have:=cD hs a;exact oϞ,?_];have:=Int.mul_lt_mul_of_pos_right b h0;rw[bU s y];exact Lqi Ĝ ϯ π ϑ Lq2 this rfl;rintro⟨a,b⟩;exact bŅ;show Int.nonneg_of_mul_nonneg_right (a:=s) (by exact Lqi Û ö Lq0 Lq1 ο a rfl) h0;rw[bU z s] at b;show Int.lt_of_mul_lt_mul_left (a:=s) (by exact Lqi Ĝ ϒ Lq1 lÑ τ b rfl) hs;subst h0;have:x=c:=_Q;subst this;simp[hI];lia
  symm;intro hh x hx;have:=hh x hx;simp![Function.comp,cy] at this ⊢;show(each x hx).mp this;intro hh x hx;have:=hh x hx;simp![Function.comp,cy] at this ⊢;show(each x hx).mpr this
 symm;intro hh st gD;rw[<- one st gD];show hh st gD;intro hh st gD;rw[one st gD];show hh st gD
def jX (d:gg)(M M':Mp):Prop:= ∀b o,aá ->lÿ
theorem jX.refl (d:gg)(M:Mp):jX d M M:=eμ
theorem jX.trans {M M1 M2:Mp}(a:jX d M M1)(b:jX d M1 M2):jX d M M2:=λc o n h=>b c o n (a c o n h)
theorem jX.nb (h:cī):cľ:=λb o n e=>(h b n).trans e
theorem jX.sm (h:Ħ):cľ:=λb o _ e=>h b o e
theorem jX.um (h:cľ)(hp:ņ):jX d M dŝ:=λb u n e=>by rw[aH (cO e hp)];show h b u n e
def kJ (s c:Int):Prop:=s=0 \/ (0<=c /\ c<s)
def kJ.own (h:aũ):bI s c=c:=by unfold bI;obtain h | ⟨h1,h2⟩:=h;rw[ak h];rw[ai (by exact λe=>Lqf Û nϗ lĕ (LqIp h1 (LqIp h2 ŭ)) rfl)];show dj h1 h2
def kJ.on (h:aũ)(k:Int):bI s (c+k*s)=c:=by have:=h.own;unfold bI at this ⊢;split;rename_i e;subst e;simp;rename_i e;rw[É] at this;rw[Int.add_mul_emod_self_right];show this
universe WQ
namespace WL
theorem NU {α:Type}{l:Ý}(h:l.length=1): ∃a,l= [a]:=List.length_eq_one_iff.mp h
def abg {l:Ý}(h:l.length=n+1):cM λa r=>l=a::r /\ r.length=n:=by
 cases l with
 | nil=>cases h
 | cons a r=>show#[a,r,rfl, ⇑h]
def JZ {α:Type}{l:Ý}(h:l.length=2): ∃a b,l= [a,b]:=by let⟨a,r,rfl,g⟩:=abg h;let⟨b,rfl⟩:=NU g;show#[a,b,rfl]
universe WL
namespace L2
open PySem
structure UN (K:PySem.W.Frag)(mg:ią)(x qual:Str)(ps:bĖ)(st:Stmt)(C f:Addr)(fd:FuncData):Prop where
 at_:mg x=fġ
 mkr:Mk K C f
 cl:aĮ
 fn:Hf K cΒ qual st f fd
 bd:hđ
theorem jB {p pos:Pos}(M:UN X.K X.mg x qual ps st C f fd)(F:oΤ)(hr:eĲ)(hg:aĝ)(ha:gÞ)(C7:ϸ:=by decide)(he:pό:=by rfl)(lK:pÖ:=by rfl): PE X nŦ (Ii C sp [] E0 t):=Nl M.mkr F hr hg M.at_ M.bd .nil Aj ha C7 he lK
universe L2
namespace WL
open PySem L2
section
variable {K:iQ}
theorem AD {H:Hp}{f:Str}{x:W}: ∀ {fs:Ž} {ks:dĦ},eŖ ->dÿ=Option.some x -> ∃v,dΚ=Option.some v /\ Ű
 | _,_, .nil,h=>by cases h
 | cĿ,(g',v)::ks, hϗ,h=>by
  cases iŚ;rw[List.lookup_cons] at h ⊢;cases hb:f==g with
  | true=>rw[hb] at h;cases h;show#[v,rfl,r]
  | false=>rw[hb] at h;show AD t h
def g_ (f:Str)(v:W):Ž ->Ž
 | []=> [(f,v)]
 | (g,x)::r=>if g=f then(g,v)::r else(g,x)::g_ f v r
theorem EM {H:Hp}{f:Str}{x:W}{v:V}(rx:Ű): ∀ {fs:Ž} {ks:dĦ},eŖ ->KR K H (g_ f x fs) (L2.kr f v ks)
 | _,_, .nil=> jĸ
 | cĿ,(g',u)::ks, hϗ=>by cases iŚ;unfold g_ L2.kr;split;show .cons cě t;show .cons bŕ (EM rx t)
theorem EO {H:Hp}: ∀ {kvs:Ž} {vs:dĦ},fŤ ->jġ
 | _,_, .nil=>rfl
 | _,_, cà=>by rw[aT,aT,EO t]
def RE (K:iQ)(a:WE)(f:Str):WE:=λρ M q=>a ρ M λx M1=>Lw λp C dx fs v=>kM bŖ (M1 p=iϑ) bĮ cΔ (ię) (q v M1)
instance {t:TE}{a:WE}{f:Str} [ia:ň]:IE K (RU K t f) (RE K a f) where
 imp:=λρ M σ H q Q o h k=>ia.imp ρ M σ H _ _ o h (by rintro x M1 v H1 ⟨p,C,dx,fs,y,ex,hp,hc,hn,hl,h1⟩ t1 m1 r1;exact by subst ex;let⟨ks,e,r⟩:=cĝ;let⟨u,hu,ru⟩:=AD r hl;show#[p,C,dx,ks,u,r1.eq,e,hc,hn,hu,k _ _ _ _ h1 t1 m1 ru])
def IL (K:iQ)(a b:WE)(f:Str):WS:=λD ρ M=>b ρ M λy M1=>a ρ M1 λx M2=>lD λp C dx fs=>kM bŖ (M2 p=iϑ) bĮ cΔ (gÙ) oŽ
instance {t u:TE}{a b:WE}{f:Str} [ia:ň] [ib:bŎ]:IS K (WN K t u f) (IL K a b f) where
 imp:=λρ M σ H D' D o h e=>ib.imp ρ M σ H _ _ o h λy M1 v1 H1 h1 t1 m1 r1=>ia.imp ρ M1 σ H1 _ _ Β h1 (by rintro x M2 v2 H2 ⟨p,C,dx,fs,ex,hp,hc,hn,hl,h2⟩ t2 m2 r2;exact by subst ex;let⟨ks,ek,r⟩:=m2 p _ hp;have ts:=RO (u:= .ins C dx (kr f v1 ks)) ek;exact#[p,C,dx,ks,r2.eq,ek,hc,hn,by rw[<- EO r];show hl,e.nx ρ _ σ _ h2 lĖ (o.mv lĖ (m2.put ts #[_,cw,KR.ts ts (EM cϑ r)]))])
def Pj (C:gg)(p:gA)(a:WA):WE:=λρ M q=>a ρ M λxs M1=> ∀x dx,cŀ ->M1 dx=none ->aĬ ->p (bς) (kŖ) mÛ
instance {C:gg}{p:gA}{E:XK}{t:TA}{a:WA} [ia:bŐ]:IE K (Ii C bŒ [] E t) (Pj C p a) where
 imp:=λρ M σ H q Q o h k=>ia.imp ρ M σ H _ _ o h λxs M1 vs H1 h1 t1 m1 r1=>λx dx hx TZ cS=>by
  have QB:dB H1 dx bē x=none:=by rw[bS aϺ];show hx
  have ts1:bC H1 iϓ:=L2.gy.ts (cE TZ);have V_:bC iϓ oķ:=L2.gy.ts (cE QB);exact#[bς,kŖ,mÛ,db.cons WR.v (by rw[List.append_nil];show r1.ts (eχ)),(m1.new TZ).put V_ gć,h1 x dx (m1.fresh hx) (m1.fresh TZ) cS,?_];rintro y M' u H' ⟨rfl,hq⟩ ts m' r';show#[r'.eq,k _ _ _ _ hq (t1.trans ((eχ).trans ts)) m' WR.v]
def C1 (o:fI MO)(k:gg ->gg ->Ž ->Prop):Prop:=gm λC dx fs=>o=iϑ /\ k C dx fs
def abq:C1 (iϑ) k=k C dx fs:=by apply propext;symm;rintro⟨_,_,_,e,h⟩;cases e;show h;intro h;show#[_,_,_,rfl,h]
def aaz:RE K a f ρ M q=a ρ M λx M1=>iu x λp=>C1 aŐ λC dx fs=>jg bĮ (jg cΔ (vL (dÿ) λv=>q v M1)):=by unfold RE iu C1 jg vL;congr 1;funext x M1;apply propext;symm;rintro⟨p,C,dx,fs,v,e1,e2,e3,e4,e5,h⟩;show#[p,e1,C,dx,fs,e2,e3,e4,v,e5,h];rintro⟨p,e1,C,dx,fs,e2,e3,e4,v,e5,h⟩;show#[p,C,dx,fs,v,e1,e2,e3,e4,e5,h]
def _l:IL K a b f D ρ M=b ρ M λy M1=>a ρ M1 λx M2=>iu x λp=>C1 aő λC dx fs=>jg bĮ (jg cΔ (jg (gÙ) oŽ)):=by unfold IL iu C1 jg;congr 1;funext y M1;congr 1;funext x M2;apply propext;symm;rintro⟨p,C,dx,fs,e1,e2,e3,e4,e5,h⟩;show#[p,e1,C,dx,fs,e2,e3,e4,e5,h];rintro⟨p,e1,C,dx,fs,e2,e3,e4,e5,h⟩;show#[p,C,dx,fs,e1,e2,e3,e4,e5,h]
theorem mw:Pj C p a ρ M q=a ρ M λxs M1=> ∀x dx,cŀ ->M1 dx=none ->aĬ ->Bk p (bς) (kŖ) mÛ:=rfl
universe e
universe WL
namespace L2
open PySem
nonrec def xi (s:Stmt)(j:Nat):Stmt:=match s with
 | .ClassDef _ _ _ b _ _ _ _ _ _ _=>b.getD j (hĶ)
 | _=> hĶ
universe L2
namespace L2
open PySem PySem.Spec PyProof.Rows
def ItI (d:gg)(o:Obj)(kvs:ů):It:=#[λi H=>i<kvs.length /\ lΡ,λi H x H'=>cM λp kv=>fU (ń) (hķ) (H'=dB H p kÕ) dķ,λi H=>fū /\ lΡ]
theorem CM: ∀ {kvs:ů} {vs:dŅ} {i:Nat} {q:cL×fi},Ŝ ->gę -> ∃p,d6 hϳ (aϓ) (eč)
 | _,_,0,_, iś,e=>by cases e;show fŬ
 | _,_,i+1,q, cà,e=>by have e':_=aŀ:=e;rw[List.getElem?_cons_succ] at e' ⊢;show CM t e'
def yG (h:pF k u=true):fį:=by
 rcases eY h with⟨i,t,rfl,rfl⟩ | ⟨x,t,rfl,rfl⟩
 show bŃ;show bŃ
def BP {P:Program}{w:World}{K:iQ}{vW:ğ}{x1}{pos:Pos}{d it:gg}{o:Obj}{kvs:ů}{es:eň}{ep:Nat}(ho:iΡ)(cS:d≠it): vZ P w K iŋ fŭ [it] it (λi h=> ∃ok ov,IsItemIter h it d i kvs.length ep ok ov) where
 mem:=by simp
 obj:=λi h st b hb=>by have e:b=it:= aÓ;subst e;let⟨ok,ov,e⟩:=st;show#[_,e,λv z=>nomatch z]
 keep:=(by rintro i h h' ⟨ok,ov,e⟩ k;exact #[ok,ov,k it ś _ e])
 item:=by
  intro X hP hw hK hc i aj s σ H E I hf st hg;subst hP hw hK;let⟨hi,hH⟩:=hg;let⟨vs,rel,hd⟩:=K0 I ho hH;have hl:=rel.length;let⟨ok,ov,st⟩:=st;rw[hl] at st hi;have fp:=gμ;let⟨⟨k,x⟩,hx⟩: ∃q,gę:=#[vs[i],by simp[hi]]
  let⟨p,hp,ep1,rp⟩:=CM rel hx;exact wpAny_pyNext_items_item st hd hx λkey h' uM abC ht hsz hk=> ?_;exact#[_,rfl,wpAny_letOwnedTupleGo_items abC gϔ];have QU:s.heap.objs.size≠it:=Nat.ne_of_gt (aM st);have rk:RelV (kV p.1) key:=by rw[ep1];show yG uM
  exact#[jϓ,dB H s.heap.objs.size (.tup eψ),EN.yJ (t':=s.toks) I (λb o hb _ q=>hϧ (hk b o hb q)) fp fp #[by rw[c8];change 2<=bĩ;decide,[key,x], .cons rk gϠ,?_],rfl,#[_,p,hΡ,hp,rfl,rfl],#[key,x,by rw[hl];show Me],ŷ];show oþ;have e:b=it:=by simpa using hb
  subst e;rw[bS (aZ QU)];show fp.1
 done:=by intro X hP hw hK hc i aj s σ H E I hf st hg;subst hP hw hK;let⟨hi,hH⟩:=hg;let⟨vs,rel,hd⟩:=K0 I ho hH;have hl:=rel.length;let⟨ok,ov,st⟩:=st;rw[hl] at st hi;let⟨f0,f1,f2,f3,f4,f5⟩:=gμ;show wpAny_pyNext_items_end eġ st hd (by simp;exact hi) qþ
 self:=λ_ _ _ _ _ st h=>let ⟨_,_,e⟩:=st;W.kcp_self e h
section
variable {X:Cx}{vW:ğ}{x1:_}{BS:Pos}{o:Expr}{td:TE}{f' gX:Pos}
def Kq (td:TE):TI:=λσ H R=>td σ H λx H1=>cM λd kvs=>d6 (x= ań) (H1 d=ϊ) (∀o,R fŭ (dB H1 d (.nM o š)))
def Af (et:iϸ)(ho:cĎ)(AQ:pţ:=by rfl)(AO:lχ:=by rfl):PI X tg (oĤ) (Kq td):=by
 subst et;intro aj s σ H R I h;exact pŵ;rintro v s1 ⟨x,H1,I1,r1,d,kvs,ex,hd,q1⟩;subst ex;obtain rfl:fŮ:=r1;let⟨t1,t2,sys⟩:=yI I1 (.inl #[kvs, .inl hd]);exact rñ;let⟨z,Ky,vs,rel,dd⟩:=p8 I1.dU (.inl hd);exact rø;let⟨ob,es,ep,g1,g2,g3,g4⟩:=dd;have da:s1.heap.DictAt gτ d vs ep:=#[ob,es,g1,g2,g3,g4]
 have hdl:d<s1.heap.objs.size:=aM g1;exact wpAny_pyIter_items (d:=d) (kvs:=vs) (ep:=ep) (knd:=fę) jϒ (da.push _) ?_;have I2:=I1.freeze hd g1;exact#[_,[_],_,ItI d ob kvs,_,rfl,I2.kept (t':=s1.toks) λb o e=>aq _ bņ,BP g3 ?_,?_,ŷ,q1 ob];change d≠(s1.heap.push _).objs.size;rw[dR];exact λe=>Lqg Û (.a ϒ ϑ) ο (LqNp hdl cŰ) rfl;rw[rel.length];show#[_,_,Ŀ];have I3:Inv X aj σ (dB H1 d (.nM ob š)) {s1 with heap:=pϧ}:=nϸ;have e:=ő;subst e;show I3.yU õ (I3.dU.fresh õ)
universe e
def Inv.aaM {σ:St}(I:ϙ)(e:lΡ)(h0: nĉ): Inv X aj σ (dB H d š) s:=by
 have ne: ∀ {b u},cŻ ->u≠ .nM o š ->aá:=λ{b u} h n z=>by subst z;rw[e] at h;show fŢ
 have NM: lĐ:=λ{b} h z=>by subst z;rw[e] at h;cases h
 exact rė;have z:=lđ;rw[bS (NM z)];show z;have z:=hĴ;rw[lΦ];show z;have z:=iœ;have nb:aá:=λz=>h0 o' u (z▸h);rw[bS nb];show z;let⟨more,z⟩:=hĵ;show#[more,by rw[lΦ];show z];rw[gĕ];show I.free;rw[jň];show cϪ;let⟨a1,a2,a3⟩:=cθ;show nů;have ow: ∀c,H c=fţ ->iŜ=fţ:=λc r=>by rw[lΧ];show r
 have tu: ∀c xs,iĄ ->iŜ=gÆ:=λc xs r=>by rw[lΧ];show r
 by_cases hb:b=d;subst hb;rw[cw] at h;cases h;have z:=gϚ (H':=dB H b š) (h':=s.heap) (eμ) ow tu;show z.2;rw[aÑ] at h;show nϔ
def PV (t:TS):TS:=λD σ H=>cM λd kvs=>H d=ϊ /\ t {D with nx:=λσ' H'=>cM λo us=>H' d=some (.nM o bτ) /\ D.nx σ' (dB H' d bτ)} σ H
def Ev {st:Stmt}(h:cì):PS X st (PV t):=by
 rintro aj s σ H D I ⟨d,kvs,hd,ht⟩;have h0: nĉ:=λo u e=>by have:=I.base.sJ d o u e;rw[hd] at this;cases this
 exact dE (h aj s σ H _ I ht) gω;cases fl with
 | next=>let⟨σ',H',I',o,us,e,q⟩:=hs;show#[σ',_,I'.aaM e h0,q]
 | ret v=>show hs
 | brk=>show hs
 | cont=>show hs
universe L2
namespace WL
open PySem L2
variable {K:iQ}
def CQ (a:WE):WI:=λρ M q=>a ρ M λx M1=>cM λd kvs=>d6 (x=wr d) (M1 d=ϊ) (qΔ)
theorem CN: ∀ {H:Hp} {kvs:ű} {vs:ů} {i:Nat} {q:cL×V},fŤ ->gę -> ∃p,d6 hϳ (aϓ) (gā)
 | _,_,_,0,_, iś,e=>by cases e;show fŬ
 | _,_,_,i+1,q, cà,e=>by have e':_=aŀ:=e;rw[List.getElem?_cons_succ] at e' ⊢;show CN t e'
def CV:He K H1 (ItI d o ks) nϘ nĊ:=by intro i M H t m hM;let⟨e1,r1⟩:=m d _ hM;have hl:=uH r1;rw[ab];exact#[λh=>#[(by exact Nat.le_trans cñ bŜ),e1],λh=>#[(by exact Nat.lt_of_lt_of_le h cĄ),e1],?_];rintro v H' hi ⟨p,kv,hp,hk,e2,e3⟩;subst e2 e3;let⟨p2,hp2,e4,rp⟩:=CN r1 hk;have ts:bC H (dB H p kÕ):=hĠ;exact#[ts,bŔ, .tup [gC p2.1,p2.2],by rw[aE,hp2];rfl,WR.Qr cϓ oĥ];rw[e4];cases kv.1<;>show WR.v
instance {t:TE}{a:WE} [ia:ň]:II K (Kq t) (CQ a) where
 imp:=λρ M σ H q R o h k=>ia.imp ρ M σ H _ _ o h (by rintro x M1 v H1 ⟨d,kvs,ex,hd,h1⟩ t1 m1 r1;exact by subst ex;let⟨ks,e,r⟩:=m1 d _ hd;exact#[d,ks,r1.eq,e,λob=>k _ _ _ _ _ (h1 ob ks) (t1.trans aŇ) (m1.put aŇ #[cw,gă]) CV])
def XY:CQ a ρ M q=a ρ M λx M1=>iu x λd=>k_ (M1 d) λkvs=> qΔ:=by unfold CQ iu k_;congr 1;funext x M1;apply propext;symm;rintro⟨d,kvs,e1,e2,h⟩;show hĸ;rintro⟨d,e1,kvs,e2,h⟩;show hĹ
def Sc (t:WS):WS:=λD ρ M=>cM λd kvs=>iŀ /\ t {D with nx:=λρ' M'=>gm λo ks us=>M' d=some (.fz o ks us) /\ D.nx ρ' (um M' d bτ)} ρ M
theorem RP (h:H a=some (.nM o (.dK xs))):gΧ:=DN h iĈ λ_ _ z=>nomatch z
instance {t:TS}{a:WS} [ia:bŚ]:IS K (PV t) (Sc a) where
 imp:=λρ M σ H D' D o ⟨d,kvs,hd,h⟩ e=>by let⟨ks,ek,r⟩:=o.hp d _ hd;exact#[d,ks,ek,ia.imp ρ M σ H _ _ o h #[?_,e.rt,e.bk,e.ct]];rintro ρ' M' σ' H' ⟨ob,us,ws,hM,hq⟩ ts ok;let⟨e1,r1⟩:=ok.hp d _ hM;have t2:=RP (u:= .dK us) e1;show#[ob,us,e1,e.nx ρ' _ σ' _ hq (ts.trans t2) (ok.mv t2 (ok.hp.put t2 #[us,cw,KR.ts t2 r1]))]
universe WL
set_option maxHeartbeats 4000000
namespace DC
open PySem PySem.Spec PyProof.Rows
def NT:typeLookup Ϛ "keys" =bϻ:=by rw[typeLookup_type,builtinLookup_eq_fast];kernel_rfl
theorem uX:entryFor table iŝ =some Builtin.«dict.update.loop» :=entryFor_of_tree (by kernel_rfl)
def kQ:plainId iŝ =true:=by decide+kernel
def NL (hx:fü=some #[fā,none, .seq xs k,sl])(hA:gÛ)(h: ∀h' tk,(oϘ) ->Q none lε):wpAny Χ A (getAttr? ł "keys") Q E s:=by
 let⟨hp,g,d,tk,os⟩:=s;have hT: ∀UY,(#[hp,g,d,UY,os]:fk).TypeIs ł aϑ :=λ_=>#[_,hx,rfl]
 have f1:=sub_AttributeError;have f3:=F.slot_tuple_getattribute.lookup;have f4:=F.slot_tuple_getattribute.bind ł;have f5:=am_tuple_getattr_none;unfold getAttr? getAttrBy? getAttrBy;repeat (any_goals (first | assumption | show hT _ | ((with_reducible change wpAny _ _ (call (Value.builtin "tuple.__getattribute__") _ _) _ _ _);exact call_meets F.slot_tuple_getattribute (hT _) am_entry_tuple_getattribute (F.args_tuple_getattribute_2 _ _) (meets_getattribute_miss_tuple a xs k sl "keys" _ NT (by decide+kernel) gĎ) #[hx,hA,λh' UY e gQ=> ?_]) | wp_step))
 let⟨t',u',he⟩:=gQ.there;change wpAny _ _ (getattributeRaised _ _ _ _ _ _ _) _ _ _;unfold getattributeRaised;repeat (any_goals (first | assumption | wp_step))
 show h h' _ gQ.keeps
section
variable {prog:Program}{w:World}{κ:Type} [gç]{knd:kϟ}{A:Around}{E:Φ}
structure Rr (knd:kϟ)(h:Heap)(its:dú)(ps:List (κ×Value)):Prop where
 len:its.size=ps.length
 at_: ∀ (i:Nat) (p:κ×Value),gě -> ∃a key,bÁ =fď /\ knd.is p.1 key=true /\ h.IsTuple a (List.toArray [key,p.2])
theorem Rr.keeps (P:Rr knd h its ps)(hk: ∀b o,b≠x ->gż ->hü)(hx: ∀o its n,h.get? x=ą ->jŋ):hĺ:=#[P.len,λi p e=>by let⟨a,key,h1,h2,o,ho,hc,n,r⟩:=P.at_ i p e;show#[a,key,h1,h2,o,hk a o (λz=>hx o _ n (z▸ho) r) ho,hc,n,r]]
def putAll (kvs:dù)(ps:dù):dù:=ps.foldl (λm p=>stored m p.1 p.2) kvs
def B0 (kvs:dù)(k:κ)(v:fi):(stored kvs k v).length<=eľ:=by unfold stored;split;simp;simp
def loop (hA:iŉ)(hn:iŞ): ∀ (k i:Nat) {s:fk} (it d:gg) (tk:Tok) (kvs:dù),ps.length - i=k ->i<=ps.length ->fū ->s.heap.IsTupleIter it t i ->jļ ->jŌ ->s.heap.DictOf knd d kvs ->d≠it ->d≠t ->t≠it ->(∀h' UY,h'.DictOf knd d (putAll kvs (cŁ)) ->(∀b o,aá ->pÂ) ->R (.ok eĉ) {s with heap:=h',toks:=UY}) ->codeAny Χ A (.builtin iŝ #[[ań, .ref it, .int i tk, .none],[]]) R s:=by
 intro k;induction k with
 | zero=>
  intro i s it d tk kvs hk hi hl vU ht hP hd n1 n2 n3 hR;have e:i=ps.length:=by exact LqNx hi (Lqj Ĝ Lq0 Lq1 υ (.a ö τ) kÏ rfl)
  exact kÖ;rw[lţ];change ož;exact ah (wpAny_pyNext_tuple_end hA vU ht (by rw[Array.getElem?_eq_none];rw[hP.len];exact LqNd e) eĢ);change wpAny _ A.in1 (Builtin.Dict.addKeywords d [] >>=_) _ _ _;exact ah (aD aϒ);have e2:cŁ= []:=List.drop_eq_nil_of_le (by exact LqNd e);exact hR h' s.toks ?_ λb o _ n4 eb=>hx b o n4 eb;rw[e2];show hd.extBut hx n1
 | succ k ih=>
  intro i s it d tk kvs hk hi hl vU ht hP hd n1 n2 n3 hR;have f7:i<ps.length:=by exact Lqj ř ϒ Lq1 (.a ϓ (.a ö eé)) jχ (LqNp cķ (LqNp ϔ (cÚ))) rfl
  let⟨p,hp⟩: ∃p,gě:=#[ps[i],ao f7]
  let⟨a,key,h1,h2,h3⟩:=hP.at_ i p hp;exact kÖ;rw[lţ];change ož;exact ah (wpAny_pyNext_tuple_item vU ht h1 λh' abM i0=> ?_);have nc: ∀o its n,jϐ ->jŋ:=λo its n eo z=>by let⟨o2,e2,_,c2⟩:=vU;rw[eo] at e2;cases e2;rw[z] at c2;cases c2
  have YQ:hĺ:=hP.keeps (λb o n4 e4=>i0.extBut b o n4 e4) nc;have nk:h'.DictOf knd d kvs:=hd.extBut i0.extBut n1;have pL:h'.IsTuple t its:=by let⟨o,ho,r⟩:=ht;show#[o,i0.extBut t o n3 ho,r]
  let⟨a',XW,Ue,Mj,h3'⟩:=YQ.at_ i p hp;let⟨oa,hoa,hca,na,hda⟩:=h3';have ea:a'=a:=by rw[h1] at Ue;cases Ue;rfl
  subst ea;have hT:(#[h',s.gens,s.drawn,s.toks,s.os]:fk).TypeIs (.ref a') aϑ :=#[oa,hoa,hca]
  change wpAny _ A.in1 (holding [.ref a'] _ >>=_) _ _ _;exact ah (d8 (ah (wpAny_tryCatch ?_)));unfold Builtin.Dict.pairItems;exact ah (wpAny_typeOf hT ?_);rw[ak ś];exact ah (wpAny_seqItems hoa hda ?_);exact aÏ;change wpAny _ A.in1 (holding [XW,p.2] (dictSet d XW p.2)) _ _ _;exact d8 (wpAny_dictSet_pairs Mj nk (λh2 Vm lv=> ?_) (by rw[c8];exact LqNv (Nat.le_of_lt (Nat.lt_of_le_of_lt hl (Nat.lt_of_lt_of_le f7 hn))) rfl));exact mÜ;have ei:(rawInt (Ĥ+1))=Value.int gϡ 0:=by simp[rawInt]
  rw[ei];have GG:Rr knd h2 its ps:=YQ.keeps (x:=d) (λb o n4 e4=>lv.extBut b o n4 e4) (λo its n eo z=>by let⟨o2,_,_,e2,_,c2,_⟩:=nk;rw[eo] at e2;cases e2;rw[z] at c2;cases c2);exact ih ß it d 0 (stored kvs p.1 p.2) (by exact LqNx (Lqj ŵ Lq0 Lq1 (.a Lq2 nļ) (.a ϑ jΘ) oÛ rfl) (Lqj ŵ Lq0 Lq1 (.a ϒ jΚ) (.a Lq3 (.a (.a Lq1 gŤ) Lq2)) (LqNp cķ (LqNp LqNs ((LqNt (Nat.le_of_lt f7))))) rfl)) f7 (by have:=B0 kvs p.1 p.2;exact Lqj Ĝ Lq0 ϑ υ ϰ gÚ rfl) ?_ ?_ GG Vm n1 n2 n3 λh3 tk3 T9 hk3=> ?_;let⟨o,ho,r⟩:=abM;show#[o,lv.extBut it o (aZ n1) ho,r];let⟨o,ho,r⟩:=pL;show#[o,lv.extBut t o (aZ n2) ho,r];exact hR h3 tk3 ?_ λb o n4 n5 eb=>hk3 b o n4 n5 (lv.extBut b o n4 (i0.extBut b o n5 eb));have:cŁ=p::ps.drop ß:=by have:=dQ f7;rw[this];rw[ao f7] at hp;cases hp;rfl
  rw[this];show T9
def jP (hA:iŉ)(hn:iŞ)(hx:fŜ=oŁ)(hP:jŌ)(h: ∀h' tk,h'.DictOf knd s.heap.objs.size (putAll [] ps) ->(oϘ) ->Q kΕ lε): wpAny Χ A (call (eĭ) [aĵ]) Q E s:=by
 exact callType_codes (Q₁:=λobj s₁=>obj= jϓ /\ s₁= {s with heap:=pÚ}) PySem.F.kt_called_dict (PySem.F.kt_typeCall_dict_1 _) PySem.F.entry_dict_init (PySem.kt_code_dict_new _ cυ) ?_;rintro obj s₁ ⟨rfl,rfl⟩;have Op:(pÚ).DictOf knd s.heap.objs.size []:=Heap.DictOf.new s.heap;have _S:(pÚ).get? t=oŁ:=aq _ hx;have f7:t<s.heap.objs.size:=aM hx;exact#[Op.typeIs,PySem.F.args_dict_init_2 _ _,?_];unfold Builtin.«dict.__init__»;exact aÖ;unfold Builtin.Dict.selfAndRest;exact ah (wpAny_notOrdered_dict Op.typeIs ?_);change wpAny _ _ (pure (s.heap.objs.size,[dζ])) _ _ _;exact aÏ;change wpAny _ _ (Builtin.Dict.updateFrom "dict.__init__" s.heap.objs.size bĹ [] .none) _ _ _;unfold Builtin.Dict.updateFrom;exact ah (wpAny_typeOf (T:= aϑ) #[_,_S,rfl] ?_);rw[aĶ];exact ah (NL _S hA λh1 _c zu=> ?_);rw[ak (show(none:fI fi).isNone=true from rfl)];exact ah (eZ (aÖ));have Ya:h1.IsTuple t its:=#[_,zu t _ _S,rfl,n,rfl]
 exact wpAny_pyIter_tuple Ya ?_;exact mÜ;have Vn:h1.DictOf knd s.heap.objs.size []:=by let⟨o,es,ep,ho,r⟩:=Op;show#[o,es,ep,zu _ _ ho,r]
 have _U:s.heap.objs.size<h1.objs.size:=by let⟨o,es,ep,ho,r⟩:=Vn;show aM ho
 have Mh:Rr knd (qľ) its ps:=#[hP.len,λi p e=>by let⟨a,key,e1,e2,o,ho,r⟩:=hP.at_ i p e;show#[a,key,e1,e2,o,aq _ (zu a o (aq _ ho)),r]]
 have ei:(rawInt 0)=Value.int fĖ 0:=rfl;rw[ei];have Kx:t≠h1.objs.size:=a7 (aM (zu t _ _S));have X_:(qľ).IsTuple t its:=let ⟨o,ho,r⟩:=Ya;#[o,aq _ ho,r]
 have vU:(qľ).IsTupleIter h1.objs.size t 0:=jϒ
 have Vm:=Vn.push qđ;exact loop (A:=A.in1) (knd:=knd) (ps:=ps) (its:=its) (t:=t) (s:= {s with heap:=qľ,toks:=_c}) hA hn ps.length 0 h1.objs.size s.heap.objs.size 0 [] (by exact LqNx hì (Lqj Û Lq0 Lq1 Lq0 gŴ LqNs rfl)) (dg _) õ vU X_ Mh Vm (a7 _U) (Nat.ne_of_gt f7) Kx λh' UY nk vT=> ?_;exact#[rfl,h h' UY ?_ λb o eb=>vT b o (a7 (aM eb)) (a7 (aM iş)) (aq _ iş)];simpa using nk
universe e
universe DC
namespace L2
open PySem PySem.Spec PyProof.Rows
section
variable {X:Cx}{aj:ω}{σ:St}{H H':Hp}{s:fk}{h':Heap}
def Inv.more (I:ϙ)(k: oϘ)(hx: mϸ)(hn: ∀b,iī ->ľ ->cæ)(dU:iΦ): oĴ:=by exact I.call (ch:= []) (g':=s.gens) (d':=s.drawn) #[λb o q n _ _=>k b o q,λb o q n _ _=>#[o.slots,k b o q],λb o q n _=>hn b (aM q) n,λb o q _=>#[o,k b o q],λb ys q=>bυ,λb o u q=>bυ,λb ps q=>#[#[],by rw[bυ];simp]] dU I.bare λb hb=>nomatch hb
def Jb (K:iQ):ϫ:=λxs H Q=> ∃ (a:gg) (vs:Ä) (ps:ů),xs= Ļ /\ dœ /\ iŞ /\ iϒ /\ qĳ /\ ∀q,H q=none ->Q (.ref q) (dB H q (oć))
theorem Jg {K:iQ}{h:Heap}(tup: ∀ {b:gg} {xs:Ä},jT K H b xs -> ∃its:ã,câ /\ h.IsTuple b its.toArray): ∀ {ps:ů} {vs:Ä} {its:ã},iϒ ->qĳ ->cR vs its ->∃qs:dŅ,KV ps qs /\ ∀ (i:Nat) q,qs[i]? =aŀ -> ∃a key,bÁ =fď /\ (fę).is q.1 key=true /\ h.IsTuple a (List.toArray [key,q.2])
 | [],vs,its,hl,_,r=>by exact#[[], .nil,eΑ];simp at e
 | aÁ,[],its,hl,_,r=>by simp at hl
 | p :: ps,aÝ,its,hl,ha,r=>by
  cases r with
  | @cons _ u _ us r1 r2=>
   let⟨qs,hq,hqs⟩:=Jg tup (ps:=ps) (vs:=vs) (its:=us) â (λi p e=> ⇑(ha ß p Å)) r2;let⟨b,hb,hs⟩:=ha 0 p rfl;have xm:v= aļ:= aÓ;subst xm;have eu:fı:=r1;subst eu;let⟨js,rj,tj⟩:=tup hs;cases rj with
   | cons k1 k2=>
    cases k2 with
    | cons k3 k4=>
     cases k4;rename_i key val;exact#[(p.1,val)::qs, .cons #[rfl,k3] hq,eΑ];cases i with
     | zero=>simp at e;subst e;show#[b,key,rfl,pG k1,tj]
     | succ i=>simpa using hqs i q Å
theorem xc: ∀ {ps:ů} {qs:dŅ} {m:ů} {n:dŅ},KV ps qs ->KV m n ->KV (nċ) (DC.putAll n qs)
 | _,_,_,_, .nil,r=>r
 | _,_,_,_, .cons ⟨e,rv⟩ t,r=>by rw[List.foldl_cons];exact xc (n:=stored _ _ _) t ?_;rw[e];show r.put _ rv
theorem w8: ∀ (ps:ů) (m:ů),(nċ).length<=m.length+ps.length
 | [],m=>by simp
 | aÁ,m=>by rw[List.foldl_cons,aT];have:=w8 ps (eω);have:=iY m p.1 p.2;omega
def jP (hc:Ŷ):gz X (eĭ) (Jb X.K):=by intro aj s σ H xs us Q I r h;let⟨a,vs,ps,rfl,hq,hn,hl,hps,q⟩:=h;let⟨u,rfl,ru⟩:=Ģ;cases ru;let⟨its,rv,⟨o,ho,hco,n,hd,hdd⟩,hz⟩:=I.RN hq;let⟨qs,hk,hqs⟩:=Jg (X:=X) (h:=s.heap) (λ{b xs} hs=>by let⟨js,rj,tj,_⟩:=cΦ;show#[js,rj,tj]) hl hps rv;have df:qs.length=ps.length:=hk.length.symm;let⟨c,dct,dat,sl⟩:=o;simp only at hco hd hdd;subst hco hd hdd;exact DC.jP (knd:=fę) (ps:=qs) oŻ (by rw[df];show hn) ho #[by have:=rv.length;simp;exact LqNx (Nat.le_trans dį (Nat.le_trans cĄ cĈ)) (Nat.le_trans (LqNe df) (Nat.le_trans cñ dŌ)),λi p e=> ⇑(hqs i p e)] λh' tk nk KG=> ?_;exact#[jϓ,_,I.laid (t':=tk) KG õ (u5 ?_ (beq_eq_false_iff_ne.mpr (aZ (a7 I.big))) (xc hk .nil) nk),rfl,kΡ];have:=w8 ps [];rw[c8];simp at this;exact LqNv (Nat.le_trans this hn) rfl
def Ja:ϫ:=λxs H Q=> ∃d kvs,xs= [ań] /\ Rd H d š /\ ∀l,bĻ ->Q bļ (dB H l (.lst kϠ))
theorem wx: ∀ {kvs:ů} {vs:dŅ} {gh:ã},Ŝ ->gh.length=vs.length ->(∀ (j:Nat) v,gh[j]? =ă -> ∃k x,vs[j]? =some aØ /\ dö) ->cR kϠ gh
 | _,_,[], .nil,_,_=> .nil
 | _,_,_::_, .nil,h,_=>by simp at h
 | _,_,[], .cons _ _,h,_=>by simp at h
 | _,_,u::us, .cons (a:=p) (b:=q) ⟨e,_⟩ t,h,hk=>by exact .cons ?_ (wx t ⇑h λj v ev=> ⇑(hk Þ v ⇑ev));let⟨k,x,e1,e2⟩:=hk 0 u rfl;simp at e1;change RelV (kV p.1) u;rw[e,e1];show yG e2
def jN (hc:Ŷ):gz X ό Ja:=by intro aj s σ H xs us Q I r h;let⟨d,kvs,rfl,hd,q⟩:=h;let⟨u,rfl,ru⟩:=Ģ;cases ru;let⟨z,Ky,vs,rel,dd⟩:=p8 I.dU hd;let⟨ep,uO⟩:=dd.dictAt;exact W.kdl_call (W.kdl_dict (knd:=fę) (kvs:=vs) (ep:=ep) Ky) eġ uO mŦ λh' tk gh c KG hg items=> ?_;have hv:cR kϠ gh.toList:=wx rel (by rw[dh];show items.1) λj v e=>items.2 j v oě;exact#[aĽ,_,I.laid (t':=tk) KG õ (show fm X.prog X.w _ h' _ (aĕ) from#[by rw[ab];show z,gh.toList,c,hv, ⇑hg]),rfl,kΡ]
universe e
section
variable {X:Cx}{o:Expr}{td:TE}{f' gX p1 Jj:Pos}
theorem ww: ∀as:å,cR gĜ (hĻ)
 | []=> .nil
 | a::r=> .cons rfl (ww r)
def DX (td:TE):TE:=λσ H Q=>td σ H λx H1=>cM λd kvs=>d6 (x= ań) (Rd H1 d š) (∀ (l:gg) (vs:Ä) (H2:Hp),cĶ ->gy H1 H2 ->H2 l=gĂ ->vs.length=kvs.length ->(∀ (i:Nat) kv,hķ -> ∃a,aĴ =fď /\ nÉ) ->(∀b u,H2 b=þ ->H1 b=þ \/ H1 b=none /\ (b=l \/ ∃xs,u= aϕ)) ->Q bļ H2)
def wR (YC:dΔ)(QM:hϯ)(hc:Ŷ)(ho:cĎ)(AQ:pţ:=by rfl)(AO:lχ:=by rfl) (ht:starEach [oĤ] X.env= [(false,eval (oĤ) X.env)]:=by rfl): PE X (.Call hϰ [oĤ] [] Jj) (DX td):=by
 intro aj s σ H Q I h;exact oż;rw[ht];exact eB (pŵ);rintro v s1 ⟨x,H1,I1,r1,d,kvs,ex,hd,q1⟩;subst ex;obtain rfl:fŮ:=r1;let⟨t1,t2,sys⟩:=yI I1 (.inl #[kvs,hd]);exact rñ;let⟨z,Ky,vs,rel,dd⟩:=p8 I1.dU hd;exact rø;exact jı;let⟨ep,uO⟩:=dd.dictAt;exact W.kdx_call (knd:=fę) (kvs:=vs) (ep:=ep) fŦ jϒ (uO.push _) mŦ λh' tk gh c as hk hg hl hG GF=> ?_;have hsz:qò=iϹ:=dR ..;generalize hL:qò=L at hg hG ⊢;have hLs:s1.heap.objs.size<L:=by exact Nat.lt_of_lt_of_le cŲ (LqNe hL)
 have _Z:as.length=kvs.length:=by rw[hl,rel.length]
 have hnd:as.Nodup:=hG.rise.imp λh=>a7 h;let H2:Hp:=λb=>if b=L then lΨ else match kvs[as.idxOf b]? with | some kv=>some kÕ | none=>H1 b
 have eL:H2 L=lΨ:=Ć;have eA: ∀ (j:Nat) a,as[j]? =ĉ -> ∃kv,hļ /\ nÉ:=λj a e=>by
  have hj:j<as.length:=cĕ.1;let⟨kv,C5⟩: ∃kv,hļ:=#[kvs[j],ao (by exact Nat.lt_of_lt_of_le hj (LqNe _Z))]
  have ej:as.idxOf a=j:=by have:=cĕ.2;rw[<- this];show hnd.idxOf_getElem j hj
  exact#[kv,C5,?_];have na:a≠L:=Nat.ne_of_gt (hG.above a (au e));change(if a=L then _ else _)=_;rw[ai na,ej,C5]
 have eO: ∀b,b≠L ->b∉as ->H2 b=H1 b:=λb n1 n2=>by change(if b=L then _ else _)=_;rw[ai n1,List.idxOf_eq_length n2,List.getElem?_eq_none (by exact LqNd _Z)]
 have out: ∀b,b<s1.heap.objs.size ->b≠L /\ b∉as:=λb hb=>#[by exact λe=>Lqg ř (.a ϒ nĝ) (.a Lq1 (.a Lq3 π)) (LqNp cŲ (LqNp (LqNe hL) (LqNp hb cŰ))) rfl,λz=>absurd (Nat.lt_trans hb (Nat.lt_trans hLs (hG.above b z))) aĔ]
 have same:gy H1 H2:=λb u e=>by let⟨n1,n2⟩:=out b (I1.dU.lt e);rw[cϭ];show e
 have keep: ∀b ob,s1.heap.get? b=Ğ ->cã=Ğ:=λb ob e=>hk b ob bņ;have dU:nV X.prog X.w H2 h':=λb u e=>by by_cases n1:b=L;subst n1;rw[eL] at e;cases e;show#[by rw[ab,_Z];show z,hĻ,c,ww as,by rw[<- GF];simpa using hg];by_cases n2:b∈as;let⟨j,hj⟩:=cr.mp n2;let⟨kv,C5,e2⟩:=eA j b hj;rw[e2] at e;cases e;let⟨key,k,x,hx,uM,ht⟩:=hG.pairs j b hj;let⟨p,hp,ep1,rp⟩:=CM rel hx;rw[C5] at hp;cases hp;exact#[by rw[c8];change 2<=bĩ;decide,[key,x], .cons (by rw[ep1];show yG uM) gϠ,_,ht,rfl,_,rfl,rfl];rw[cϭ] at e;show(I1.dU b u e).tY (λc v _ r=>keep c v r) (λc r=>same c _ r) λc ys r=>same c _ r
 exact#[.ref L,H2,I1.more (t':=tk) keep (λb u e=>same b u e) (λb hb e=>by let⟨n1,n2⟩:=out b hb;rw[cϭ];show e) dU,rfl,q1 L gĜ H2 (mϊ) same eL (by rw[ab,_Z]) (λi kv e=> ?_) eĘ];let⟨a,ha⟩: ∃a,as[i]? =ĉ:=#[as[i]'(by have:=cĕ.1;exact Nat.lt_of_lt_of_le this (LqNd _Z)),ao _]
 let⟨kv',h1,h2⟩:=eA i a ha;rw[e] at h1;cases h1;show#[a,by rw[aE,ha];rfl,h2];by_cases n1:b=L;show .inr #[by rw[n1];show mϊ, .inl n1];by_cases n2:b∈as;let⟨j,hj⟩:=cr.mp n2;let⟨kv,C5,e2⟩:=eA j b hj;rw[e2] at e;cases e;show .inr #[I1.dU.fresh (Nat.le_of_lt (Nat.lt_trans hLs (hG.above b n2))), .inr Ĺ];rw[cϭ] at e;show .inl e
def A3 (i:Int)(n:Nat):Ä:=iĽ λ ħ=> .int fů
def Ij (ta:TA):TE:=λσ H Q=>ta σ H λvs H1=>cM λ cĵ=>fU (vs= [Ă, aĦ, .int Ï]) fŰ lŤ (∀l,cĶ ->Q bļ (dB H1 l mÝ))
def FM (h:ItemsOf (λj v=> ∃t,v=Value.int (i+aϣ*Ï) t) gh n):cR (A3 i n) gh.toList:=by
 let⟨hl,hv⟩:=h;have TU:iŖ:= â;have key: ∀ (k:Nat) (l:ã) (m:Nat),l.length=m ->(∀j v,l[j]? =ă -> ∃t,v=Value.int (i - gϛ) t) ->cR (kÎ mϋ) l:=by
  intro k l;induction l generalizing k with
  | nil=>intro m hm _;subst hm;show .nil
  | cons v r ih=>intro m hm hj;subst hm;rw[aT,List.range'_succ,aX];exact oϜ;let⟨t,e⟩:=hj 0 v rfl;show#[t, Å];let⟨t,e'⟩:=pē;show mό
 have:=key 0 gh.toList n TU λj v e=>by let⟨t,e'⟩:=hv j v oě;show mό
 unfold A3;rw[List.range_eq_range'];show this
def Cq {q1 q2 Jj yr:Pos}(YC:dΔ)(QM:hϯ)(hg:eĨ)(hm:iđ)(hc:Ŷ)(ha:gϙ)(hs:kŐ= [jĞ,jŉ,jō]:=by rfl)(lv:jņ= [jŉ,jō]:=by rfl)(ht:starEach [oÞ] X.env= [(false,eval (oÞ) X.env)]:=by rfl): PE X (.Call (.Name ÿ q1) [oÞ] [] Jj) (Ij ta):=by
 intro aj s σ H Q I h;exact oż;rw[ht];exact qμ;rintro us s1 ⟨vs,H1,I1,r1,q1⟩;let⟨i,j,e,ok,hn,q⟩:=q1;subst e;cases r1 with
 | cons r rr=>
  cases rr with
  | cons r' rr=>
   cases rr with
   | cons Xa rr=>
    cases rr;let⟨t,rfl⟩:=r;let⟨t',rfl⟩:=r';let⟨RV,rfl⟩:=Xa;exact call_range_3 ⋯ (jı);have I2:Inv X aj σ H1 {s1 with heap:=s1.heap.push {cls:= fĆ,data:= .fields (List.toArray [bČ, cĴ, .int Ï RV])},toks:=s1.toks}:=kϙ;have hsz:Builtin.Range.rangeSize i j Ï=(fű:Int):=by have:=z_ (a:=i) (b:=j);have h0:=qC (a:=i) (b:=j) (c:= -1) ⋯;unfold LW at this;omega
    exact call_list_range (n:=fű) fŦ hĆ (zT ok) hsz ū mΨ;have hv:=FM items;exact#[aĽ,_,I2.laid (t':=tk) kp õ (show fm X.prog X.w _ h' _ mÝ from mį),rfl,q _ jŇ];unfold A3;rw[ab,ci];show aI hn iŅ
universe e
universe L2
namespace WL
open PySem L2
variable {K:iQ}
def RF:zy:=λxs M q=> ∃l:ű,d6 (xs= [.tup nÊ]) (l.length<=ġ) (∀p,ņ ->q č (um M p (.dK (l.foldl kÙ []))))
def WR.key {v:V}(h:gϊ):v=kV k:=by cases k<;>show h.eq
theorem Al {H:Hp}: ∀ {l:ű} {vs:Ä},db K H nÊ vs -> ∃ps:ů,d6 (dΜ) (iϒ) qĳ
 | [],vs,h=>by simp![List.map_nil,db] at h;subst h;show#[[], .nil,rfl,λi p e=>by simp at e]
 | aØ::l,vs,h=>by
  simp![aX,db] at h;let⟨v,t,rfl,h1,h2⟩:=h;let⟨ps,r,hl,hp⟩:=Al h2;let⟨b,us,rfl,hs,hr⟩:=h1.tup;let⟨u1,u2,rfl,g1,g2⟩:=hr.two;cases g1.key;exact#[(k,u2)::ps, .cons #[rfl,g2] r,by simp[hl],λi p e=> ?_];cases i with
  | zero=>simp at e;subst e;show#[b,rfl,hs]
  | succ i=>simpa using hp i p Å
theorem EQ {H:Hp}: ∀ {l:ű} {ps:ů} {m:ű} {n:ů},dΜ ->KR K H m n ->KR K H (l.foldl kÙ m) (ps.foldl kØ n)
 | _,_,_,_, .nil,r=>r
 | _,_,_,_, .cons (a:=a) (b:=b) ⟨e,rv⟩ t,r=>by rw[List.foldl_cons,List.foldl_cons];exact EQ t ?_;rw[e];show KR.put rv r
instance:IC K (Jb K) RF where
 imp:=by rintro xs v M H q Q m r1 ⟨l,rfl,hl,h⟩ k;let⟨v,rfl,r⟩:=r1.one;let⟨a,vs,rfl,hv,rr⟩:=r.tup;let⟨ps,hr,df,hp⟩:=Al rr;exact#[a,vs,ps,rfl,hv,by rw[<- uH hr];show hl,df,hp,dĄ];have ts:=L2.gy.ts (cE (o:= oć) hp);show k _ _ _ _ iĻ ts (m.put ts #[_,cw,KR.ts ts (EQ hr .nil)]) WR.v
def RB:zy:=λxs M q=>cM λd kvs=>d6 eŪ (iŀ) (∀p,ņ ->q č (um M p (.lst (kvs.map fŲ))))
theorem AE {H:Hp}: ∀ {l:ű} {vs:ů},dş ->db K H (l.map fŲ) (vs.map λkv=>kV kv.1)
 | _,_, .nil=>db.nil
 | _,_, .cons (a:=a) (b:=b) ⟨e,_⟩ t=>by exact db.cons ?_ (AE t);change WR K H (gC a.1) (kV b.1);rw[e];cases b.1<;>show WR.v
instance:IC K Ja RB where
 imp:=by rintro xs v M H q Q m r1 ⟨d,kvs,rfl,hd,h⟩ k;let⟨v,rfl,r⟩:=r1.one;cases r.eq;let⟨ks,ek,rr⟩:=m d _ hd;show#[d,ks,rfl, .inl ek,λp hp=>k _ _ _ _ iĻ Ϧ (m.sC hp (AE rr)) WR.v]
def xX (a:WE):WE:=λρ M q=>a ρ M λx M1=>cM λd kvs=>d6 (x=wr d) (M1 d=ϊ) (∀p,ţ ->pϒ)
def UU:xX a ρ M q=a ρ M λx M1=>iu x λd=>k_ (M1 d) λkvs=>ux M1 λp=>pϒ:=by unfold xX iu k_ ux;congr 1;funext x M1;apply propext;symm;rintro⟨d,kvs,e1,e2,h⟩;show hĸ;rintro⟨d,e1,kvs,e2,h⟩;show hĹ
instance {t:TE}{a:WE} [ia:ň]:IE K (DX t) (xX a) where
 imp :=λρ M σ H q Q o h k=>ia.imp ρ M σ H _ _ o h λx M1 v H1 ⟨d,kvs,ex,hd,h1⟩ t1 m1 r1=>by
  subst ex;let⟨ks,ek,rr⟩:=m1 d _ hd;exact#[d,ks,r1.eq, .inl ek,λl vs H2 hl sm el df uO Op=> ?_];have ts:bŊ:=L2.gy.ts sm;exact k _ _ _ _ (h1 l (m1.fresh hl)) fň (λb x e=> ?_) WR.v;by_cases hb:b=l;subst hb;rw[av] at e;cases e;exact#[vs,el,db.mk (by rw[df,ab,uH rr]) λj d' v' e1 e2=> ?_];rw[aE] at e1;cases e3:kvs[j]? with
  | none=>rw[e3] at e1;cases e1
  | some kv=>
   rw[e3] at e1;cases e1;let⟨_N,e4⟩: ∃_N,ks[j]? =some _N:=#[ks[j]'(by rw[<- uH rr];show(am.mp e3).1),ao _]
   let⟨p2,e5,e6,rp⟩:=CN rr e4;rw[e3] at e5;cases e5;let⟨a2,e7,e8⟩:=uO j _N e4;rw[e2] at e7;cases e7;exact WR.Qr (jT.of e8) oĥ;rw[e6];cases _N.1<;>show WR.v
  rw[aH hb] at e;have hm:=m1 b x e;let⟨u,hu⟩:=hm.some;show hm.mv ts (by rw[hu];show sm b u hu)
def Fe (i:Int)(n:Nat):Ì:=iĽ mÞ
def HH (a:WA):WE:=λρ M q=>a ρ M λxs M1=>cM λ cĵ=>fU lť fŰ lŤ (∀l,M1 l=none ->oϟ)
theorem Fd {H:Hp}(i:Int): ∀ (l:ċ),db K H (l.map mÞ) (l.map mϋ)
 | []=>by simp![List.map_nil,db]
 | k::r=>by simp![aX,db];show#[_,_,rfl,WR.v,Fd i r]
instance {t:TA}{a:WA} [ia:bŐ]:IE K (Ij t) (HH a) where
 imp:=λρ M σ H q Q o h k=>ia.imp ρ M σ H _ _ o h (by rintro xs M1 vs H1 ⟨i,j,ex,h1,h2,h3⟩ t1 m1 r1;exact by subst ex;simp![db] at r1;let⟨v1,t2,rfl,g1,v2,t3,rfl,g2,v3,t4,rfl,g3,rfl⟩:=r1;cases g1.eq;cases g2.eq;cases g3.eq;show#[i,j,rfl,h1,h2,λp hp=>k _ _ _ _ (h3 p fŀ) mś (m1.sC hp (Fd i _)) WR.v])
universe WL
namespace WQ
open PySem L2 WL WP
def GD (p:Int)(m:Pt):Prop:=jĻ /\ ∀z∈m,gċ
def iA (m:Pt)(x:Int):Pt:=m.filter λq=>decide (q.1≠x)
def K_ (m:Pt)(x:Int):xy aŗ bū=f8 bχ:=by unfold xy f8 iA;rw[List.filter_map];congr 1;apply List.filter_congr;intro q _;simp
theorem fq: ∀ {m:Pt},jĻ -> ∀x,dM m x=ŏ
 | [],_,x=>rfl
 | q ::r,h,x=>by rw[aX,bN] at h;have ih:=fq h.2 x;rw[dM,look,ih];by_cases e:aã;rw[È,È];have:bŤ=0:=fJ λz hz ez=>h.1 (ag.mpr #[z,hz,by rw[ez,e]]);rw[this];exact qύ;rw[É,É];exact qώ
def jG (h:jĻ)(hz:z∈m):look m z.1=z.2:=by
 induction m with
 | nil=>cases hz
 | cons q r ih=>rw[aX,bN] at h;rw[look];obtain rfl | qO:=bŪ;rw[Ć];rw[ai (λe=>h.1 (ag.mpr #[z,qO,e.symm]))];show ih h.2 qO
def CK (m:Pt)(x y:Int):look bχ y=if y=x then 0 else bŭ:=by
 induction m with
 | nil=>simp[iA,look]
 | cons q r ih=>unfold iA at ih ⊢;rw[List.filter_cons];by_cases e:aã;simp![e,ne_eq,not_true_eq_false,decide_false,aF,bw];rw[ih,look];by_cases ey:y=x;rw[aæ,aæ];rw[aç,aç,ai (by rw[e];show aZ ey)];simp![ne_eq,e,not_false_eq_true,decide_true,b_];rw[look,look,ih];by_cases ey:q.1=y;rw[aæ,aæ,ai (by rw[<- ey];show e)];rw[aç,aç]
def GD.range (hp:0<p)(h:aŪ)(x:Int):0<=ŏ /\ ŏ<p:=by by_cases hx: ∃z∈m,aä;let⟨z,hz,rfl⟩:=hx;rw[jG h.1 hz];have:=h.2 z hz;exact nā;rw[fJ λz hz e=>hx #[z,hz,e]];exact kņ
def GD.drop (h:aŪ)(x:Int):GD p bχ:=by exact#[h.1.sublist (List.Sublist.map _ List.filter_sublist),λz hz=>h.2 z (aL.mp hz).1]
def NQ (h:z∈bŬ):z=(x,v) \/ z∈m:=by unfold ng at h;split at h;let⟨q,hq,e⟩:=bÑ;split at e;rename_i e2;left;rw[<- e,e2];right;rw[<- e];show hq;obtain h | h:=ay.mp h;show aŖ;show .inl (aϷ)
theorem GD.put (h:aŪ)(h0:0<v)(h1:v<p):GD p (bŬ):=#[yE h.1,λz hz=>by obtain rfl | hz:=NQ hz;show#[h0,h1];show h.2 z hz]
def OB (h:eΒ):(ił).isSome=true:=by
 rw[xZ];rcases hĭ with⟨_,e,_⟩ | ⟨q,e,_⟩
 show absurd e h;rw[e];rfl
def NZ (p n:Int):Prop:= ∀y,0<y ->y<p ->y*n % p≠0
def PN (qi:Int)(b:Pt):Pt:=b.map λz=>eų
theorem DP (qi:Int): ∀ (b:Pt) (x:Int),dM (PN qi b) x=dM b (x - qi)
 | [],x=>rfl
 | Ñ,x=>by change dM (eų::PN qi r) x=_;rw[dM,dM,DP qi r x];by_cases e:aŜ=x;rw[È,rÜ];rw[É,ø]
def Xs:gA:=λxs M q=>Rp λ(h o:gg) (p qi n:Int) bŲ=>qk (xs= [Î,wr h,wr o,wi qi,wi n]) (h≠o) (M h=hϴ) (M o=some (.dK (f8 b))) è bŰ (aū) (fU (GD p b) (aŬ) (hϵ<=Ő) (∀c,aŭ ->mß ->(∀x,Ŕ=(ō+look b (x - qi)*n) % p) ->q wn (um M h eΓ)))
theorem Gj (m:Pt)(x:Int):(iA m x).length<=m.length:=aĿ
def SK (C:gg):gA:=λxs M q=>lD λ(s dx:gg) (l r:W)=>d6 (xs= [wr s,l,r]) lŦ (q wn (um M s (.ins C dx [dΝ,(Ĭ,r)])))
def Jy (R C:gg):gA:=λxs M q=>FJ λ(s dx r dr:gg) (l u f g:W)=> ∃ (e:W),jS (xs= [wr s,wr r,f,g,e]) (s≠r) lŦ (M r=some (.ins R dr [dΝ,(Ĭ,u)])) (q wn (um M s (.ins C dx [dΝ,(Ĭ,u),(ĭ,f),(ŕ,g),(aŮ,e)])))
universe WQ
namespace WL
open PySem L2
def WV:Cc a b D ρ M=a ρ M λx M1=>b ρ M1 λy M2=>iu x λp=>qM y λk=>k_ aő λkvs=>jg (hϟ=true) nϋ:=by unfold Cc iu qM k_ jg;congr 1;funext x M1;congr 1;funext y M2;apply propext;symm;rintro⟨p,kvs,k,e1,e2,e3,e4,h⟩;show#[p,e1,k,e3,kvs,e2,e4,h];rintro⟨p,e1,k,e3,kvs,e2,e4,h⟩;show#[p,kvs,k,e1,e2,e3,e4,h]
universe WL
namespace WQ
open PySem L2 WL WP
abbrev Pq:=fh (dΞ)
def lG (P:Pq):ű:=P.map λt=>((dΟ:cL),bψ)
def pf (P:Pq)(w:Int):Pt:=match mŧ with
 | aŊ=>ì
 | none=> []
def ca (rl rp:gg)(P:Pq):å:=rl::rp::hĽ
structure c9 (p:Int)(M:Mp)(rl rp:Addr)(a:Pt)(P:Pq):Prop where
 lam:M rl=hϴ
 par:M rp=some (.dK aů)
 EV: ∀t∈P,M ë=kÚ
 ga:aū
 gp: jÆ
 oq:jŎ
 Qo:(ų).Nodup
def fY (M M':Mp)(L:å):Prop:= ∀d o,cϮ ->d∉L ->M' d=ą
theorem fY.trans {M M1 M2:Mp}(h:fY M M1 L)(h':fY M1 M2 L')(hs: ∀x∈L',x∈L \/ bω):fY M M2 L:=λd o e n=>h' d o (h d o e n) λhd=>(hs d hd).elim n λz=>by rw[e] at z;cases z
theorem fY.sm (h:Ħ)(L:å):cł:=λd o e _=>h d o e
theorem iH {α β:Type}{f:α ->β}: ∀ {l:Ý},(bÅ).Nodup -> ∀ {x y:α},x∈l ->y∈l ->f x=f y ->x=y
 | [],_,x,_,hx,_,_=>by cases hx
 | z ::r,h,x,y,hx,hy,e=>by rw[aX,bN] at h;obtain ex | hx:=bŀ;obtain ey | hy:=bń;rw[ex,ey];show absurd (ag.mpr #[y,hy,by rw[<- e,ex]]) h.1;obtain ey | hy:=bń;show absurd (ag.mpr #[x,hx,by rw[e,ey]]) h.1;show iH h.2 hx hy e
theorem iL {P:Pq}(h:mŧ=aŊ):t∈P /\ aè:=pĺ
theorem GO {P:Pq}(h:mŧ=none):hľ:=λhm=>by let⟨t,ht,e⟩:=bΑ;have:=mİ;simp[e] at this
def oK (P:Pq)(w:Int):fX aů (.inl w)=(P.find? λt=>gĝ).map λt=>bψ:=by
 induction P with
 | nil=>rfl
 | cons t r ih=>
  unfold fX lG at ih ⊢;rw[aX,dC,dC];have e:decide ((dΟ:cL)=Sum.inl w)=gĝ:=yK _ _;simp![e];cases gĝ with
  | true=>rfl
  | false=>show ih
def Cj (h:hľ):kq aů (.inl w) (wr e)=lG gϢ:=by
 unfold kq;have:((lG P).any λkv=>decide (kv.1=Sum.inl w))=false:=by rw[List.any_eq_false];intro kv C5;let⟨t,ht,rfl⟩:=ag.mp C5;simp![cy,Sum.inl.injEq];show λew=>h (ag.mpr #[t,ht,ew])
 rw[this];unfold lG;rw[aR];rfl
def nZ (P:Pq)(w:Int)(c:Pt):Pq:=P.map λu=>if u.1=w then(u.1,aé,c) else u
def No (P:Pq)(w:Int)(c:Pt):lG (bΒ)=lG P:=by unfold lG nZ;rw[aJ];apply bK;intro t _;simp![Function.comp];split<;>rfl
def Bo (P:Pq)(w:Int)(c:Pt):(bΒ).map (λt=>ë)=hĽ:=by unfold nZ;rw[aJ];apply bK;intro t _;simp![Function.comp];split<;>rfl
def AF (P:Pq)(w:Int)(c:Pt):(bΒ).map ć=eΔ:=by unfold nZ;rw[aJ];apply bK;intro t _;simp![Function.comp];split<;>rfl
def j8 (t:dΞ)(P:Pq)(w:Int):pf (t::P) w=if aè then ì else aŰ:=by unfold pf;rw[dC];by_cases e:aè;simp[e];simp[e]
def EA (v:Int)(h:hĿ):pf (bΒ) v=lŧ:=by
 induction P with
 | nil=>cases h
 | cons t r ih=>
  change pf ((if aè then(t.1,ë,c) else t)::nZ r w c) v=_;by_cases e:aè;rw [È,j8,j8];by_cases ev:v=w;rw[ak (show t.1=v by rw[ev,e]),aê];rw [oϱ,aë,oϱ];by_cases hr:w∈eŲ;rw[ih hr,aë];have:nZ r w c=r:=by unfold nZ;exact(bK (g:=id) ž).trans (List.map_id r);show ai λeu=>hr (ag.mpr #[u,hu,eu])
  rw[this];rw[É,j8,j8];have hr:w∈eŲ:=by obtain z | z:=az.mp (show w∈t.1::eŲ from h);show absurd z.symm e;show z
  by_cases ev:t.1=v;rw[aê,aê,ai (λz=>e (ev.trans z))];rw[aë,aë,ih hr]
def Cp (v:Int)(h:hľ):pf gϢ v=lŧ:=by
 induction P with
 | nil=>rw[List.nil_append,j8];by_cases ev:v=w;rw[ak ev.symm,aê];rw[ai (aZ ev),aë]
 | cons t r ih=>rw[List.cons_append,j8,j8];have hr:w∉eŲ:=λz=>h (aC _ z);by_cases ev:t.1=v;rw[aê,aê,ai (λz=>h (by rw[<- z, <- ev];show aQ))];rw[aë,aë,ih hr]
def mJ (h:hľ):aŰ= []:=by
 unfold pf;cases e:mŧ with
 | none=>rfl
 | some t=>let⟨h1,h2⟩:=iL e;show absurd (ag.mpr #[t,h1,h2]) h
def qE (h:jŎ)(ht:t∈P):bΓ=ì:=by
 induction P with
 | nil=>cases ht
 | cons u r ih=>rw[aX,bN] at h;rw[j8];obtain rfl | pL:=az.mp ht;rw[Ć];rw[ai (λe=>h.1 (ag.mpr #[t,pL,e.symm]))];show ih h.2 pL
theorem c9.same (h:Ϟ)(hk: ∀d∈ų,M' d=M d):h϶:=#[(hk rl fų).trans h.lam,(hk rp fų).trans h.par,λt ht=>(hk _ på).trans (cŃ),h.ga,h.gp,h.oq,h.Qo]
def c9.mem (h:Ϟ)(hd:d∈ų): ∃kvs,iŀ:=by simp![ca,az,ag] at hd;obtain rfl | rfl | ⟨t,ht,rfl⟩:=hd;show#[_,h.lam];show#[_,h.par];show#[_,cŃ]
theorem c9.keep (h:Ϟ)(hk:cł)(hd: ∀d∈ų,d∉L):h϶:=h.same λd nk=>by let⟨kvs,e⟩:=h.mem nk;rw[e];show hk d _ e (hd d nk)
def c9.abh (h:Ϟ)(gc:aŭ):c9 p (jŏ) rl rp c P:=by have nd:=cϯ;exact#[av,?_,ſ,gc,h.gp,h.oq,h.Qo];rw[aH (λe=>nd.1 (by rw[<- e];show aQ))];show h.par;rw[aH (λe=>nd.1 (by rw[<- e];show aC _ (iŠ)))];show cŃ
def c9.set (h:Ϟ)(ht:t∈P)(gc:aŭ):c9 p (um M ë eΓ) rl rp a eΕ:=by
 have nd:=cϯ;have _H:=bN.mp nd.2;have ea:ca rl rp eΕ=ų:=by unfold ca;rw[Bo]
 exact#[?_,?_,ž,h.ga,ž,by rw[AF];show h.oq,by rw[ea];show h.Qo];rw[aH (λe=>nd.1 (by rw[e];show aC _ (iŠ)))];show h.lam;rw[aH (λe=>_H.1 (by rw[e];show iŠ)),No];show h.par;let⟨v,hv,rfl⟩:=ag.mp hu;by_cases e:v.1=t.1;rw[È];have:v=t:=iH h.oq hv ht e;rw[this];show av;rw[É,aH (λea=> ?_)];show h.EV v hv;show e (by rw[iH _H.2 hv ht ea]);let⟨v,hv,rfl⟩:=ag.mp hu;split;show gc;show h.gp v hv
def c9.new (h:Ϟ)(he:M e=none)(hw:hľ)(gc:aŭ):c9 p (um (um M e eΓ) rp (.dK (lG gϢ))) rl rp a gϢ:=by
 have nd:=cϯ;have _H:=bN.mp nd.2;have ne: ∀d∈ų,d≠e:=λd hd z=>by let⟨kvs,q⟩:=h.mem hd;rw[z,he] at q;cases q
 have erl:=ne rl fų;have erp:=ne rp fų;have ein: ∀t∈P,ë≠e:=λt ht=>ne _ på;exact#[?_,av,ž,h.ga,ž,?_,?_];rw[aH (λz=>nd.1 iš),aH erl];show h.lam;obtain hu | hu:=bΔ;rw[aH (λz=>_H.1 (by rw[<- z];show iŢ)),aH (ein u hu)];show h.EV u hu;rw[bΕ,aH (aZ erp),av];obtain hu | hu:=bΔ;show h.gp u hu;rw[bΕ];show gc;rw[aR];exact List.nodup_append.mpr #[h.oq,by simp,hï];simp at hy;subst hy;show λz=>hw (z▸hx);have:ca rl rp gϢ=ų++ [e]:=by unfold ca;rw[aR];rfl
 rw[this];exact List.nodup_append.mpr #[h.Qo,by simp,hï];simp at hy;subst hy;show ne x hx
def vx (R S:gg)(M:Mp)(o ol op:gg):Prop:=(∃d,M o=some (.ins R d [gϣ,gϤ])) \/ lD λd f g e=>M o=some (.ins S d [gϣ,gϤ,(ĭ,f),(ŕ,g),(aŮ,e)])
theorem vx.keep (h:hŀ)(k:cł)(n:o∉L):vx R S M' o ol op:=h.imp ((by rintro ⟨d,e⟩;exact #[d,k _ _ e n])) (by rintro ⟨d,f,g,e',e⟩;exact #[d,f,g,e',k _ _ e n])
def Qm (R S:gg):gA:=λxs M q=>FJ λ(r rl rp o ol op:gg) cİ=>FJ λ(sh n:Int) bŲ (P Q:Pq) (B C:Nat)=>qk (xs= [Î,Í,wr r,wr o,wi sh,wi n]) iţ (hŀ) è bŰ ď cϬ (qk (aŬ) (Ϟ) iŤ nű (hϵ<=Ő) (hϷ<=Ő) lΩ (d6 (∀t∈Q,eΖ<=C) (B+C<=Ő) (∀M' c P',iť ->(∀x,Ŕ=(ō+look b Ŵ*n) % p) ->(∀w x,hŁ=(gϥ+kŗ*n) % p) ->jŐ ->oϲ ->nψ ->mß ->mı ->mŨ ->(pŤ) ->aϱ)))
def Ez {Q:Pq}(hn:jő)(h:fŵ)(w:Int):pf (Q.take ß) w=if w=t.1 then ì else gϦ:=by
 have TJ:t.1∉kÛ:=λhm=>by rw[List.map_take] at hm;let⟨j,hj,e⟩:=lϊ;rw[bv,ab] at hj;rw[List.getElem_take] at e;let⟨hi,e2⟩:=aϥ;have:=rÏ;apply this;rw[e];simp[e2]
 rw[bj,h];let⟨t1,t2,t3⟩:=t;show Cp w TJ
theorem Ia {Q:Pq}(hn:jő)(h:fŵ):t.1∉kÛ:=λhm=>by rw[List.map_take] at hm;let⟨j,hj,e⟩:=lϊ;rw[bv,ab] at hj;rw[List.getElem_take] at e;let⟨hi,e2⟩:=aϥ;have:=rÏ;apply this;rw[e];simp[e2]
theorem GD.nil:GD p []:=#[List.nodup_nil,λz hz=>by cases hz]
theorem d5 (p0:0<p)(h:aŪ)(x:Int):ŏ % p=ŏ:=dj gĠ.1 gĠ.2
def c9.Jo (h:Ϟ)(w:Int):GD p bΗ:=by
 unfold pf;cases e:mŧ with
 | none=>show GD.nil
 | some t=>show h.gp t bΚ
def p6 (a:Int)(n:Nat):ā:=iĽ λ ħ=>a - ģ
def zD (a:Int)(n:Nat):ā:=iĽ λ ħ=>a+ģ
def tW (ns:ā)(len:Int):ā:=if gϧ then ns else qŔ
def aaY:gA:=λxs M q=>gm λ(f:gg) ż (len:Int)=>Lx (xs= [wr f,aű]) (M f=kϑ) (aŲ) (len<bÓ) (jÄ) (∀x∈ns, -bÓ<x /\ x<bÓ) (∀p M',Ħ ->M' p=some (.lst ((cń).map wi)) ->q č M')
universe WQ
namespace WL
open PySem L2
def HV (h:M x=fŁ):HW M fŏ k=k (!l.isEmpty):=by apply propext;symm;rintro⟨b,⟨l',h1,h2⟩ | ⟨l',h1,_⟩,z⟩;rw[h] at h1;cases h1;rw[h2] at z;show z;rw[h] at h1;cases h1;intro z;show#[_, .inl #[l,h,rfl],z]
theorem HG:HH a ρ M q=a ρ M λxs M1=>cM λ cĵ=>fU lť fŰ lŤ (ux M1 λl=>oϟ):=rfl
universe WL
namespace WQ
open PySem L2 WL WP
def mN {l:ā}(h:aϐ):eς∈l:=by
 induction l using WP.gB with
 | h0=>show eĠ
 | h1 l a _=>simp
def kj (len h:Int):Int:=if h<0 then h else bÔ
structure Hs (hs:Ĳ)(len:Int):Prop where
 out: ∀h∈hs,h<0 \/ len<=h
 ord: ∀ (i j:Nat) h g,j<i ->gġ ->gĢ ->¬(0<=g - Ŗ /\ g - Ŗ<=len)
 clo: ∀h∈hs, ∀y,Ŗ<=y ->y<=Ŗ+len ->y∈hs \/ gϨ
def mM:x∈p6 a n↔a - n<x /\ x<=a:=by unfold p6;rw[ag];symm;rintro⟨k,hk,rfl⟩;have:=cI.mp hk;exact ⟨Lqi Ĝ lĘ eε ϓ Lq1 (kÜ) rfl,Lqi Û Α Lq0 ö Lq1 ϭ rfl⟩;rintro⟨h1,h2⟩;show#[(a - x).toNat,cϲ, (by exact LqIx (Lqi Ĝ Α Lq2 eε Lq1 Ϭ rfl) (Lqi Ĝ Lq0 eŴ Lq2 eΘ (LqIe (Int.toNat_of_nonneg (Lqi Û ö Α Lq1 Lq0 h2 rfl))) rfl))]
def mL:x∈zD a n↔a<=x /\ x<a+n:=by unfold zD;rw[ag];symm;rintro⟨k,hk,rfl⟩;have:=cI.mp hk;exact ⟨Lqi Û Lq0 ι ö Lq1 ϭ rfl,Lqi Ĝ ϯ π ϑ Lq2 (kÜ) rfl⟩;rintro⟨h1,h2⟩;show#[(x - a).toNat,cϲ, (by exact LqIx (Lqi Ĝ ι Lq2 Lq1 (.s Lq2 Lq0) (LqIe (Int.toNat_of_nonneg (Lqi Û ö Α Lq1 Lq0 h1 rfl))) rfl) (Lqi Ĝ Lq0 ξ Α Lq2 Ϭ rfl))]
def Bn (h:(p6 a n)[i]? =û):i<n /\ x=a - i:=by unfold p6 at h;rw[aE] at h;by_cases hi:i<n;rw[kŃ] at h;cases h;show cģ;rw[oϋ] at h;cases h
def Lr (h:(zD a n)[i]? =û):i<n /\ x=a+i:=by unfold zD at h;rw[aE] at h;by_cases hi:i<n;rw[kŃ] at h;cases h;show cģ;rw[oϋ] at h;cases h
def EZ {l:ā}(h:kÓ): ∀x∈l,l.headD 0<=x:=by
 cases l with
 | nil=>intro x hx;cases hx
 | cons a r=>intro x hx;obtain rfl | hx:=bŀ;show Ð;show(cu.mp h).1 x hx
def H0 (l0:aŲ)(hs:kĽ)(hn:ns.Nodup):Hs (cń) len /\ ∀y∈ns,y∈cń \/ gϨ:=by
 unfold tW;by_cases hc:gϧ
 rw [ak hc];obtain hz | hz:=hc;subst hz;exact#[#[λh _=> ∅,kϣ,λh hh y h1 h2=> .inl ?_],λy hy=> .inl hy];have cS:g≠h:=λe=>by let⟨a1,a2⟩:=bĝ;let⟨b1,b2⟩:=bΜ;show bM.mp hn j i b1 a1 Yy (by rw[a2,b2,e])
 unfold kj;split<;>lia;have:y=h:=by unfold kj at h1 h2;split at h1<;>lia
 rw[this];show hh;subst hz;show#[#[jŒ,(λi j h g _ hi _=>by simp at hi),jŒ],(λy hy=>nomatch hy)];rw [ai hc];have hl:0<len:=by have:=hł;lia
 have cS:bŶ:=hŃ;have QP:=pq hs cS;have QR:=EZ hs;generalize fŶ=b at QP;generalize cϱ=a at QR;have mem: ∀x,x∈p6 b kÝ++zD a (0 - a).toNat↔(len<=x /\ x<=b) \/ (a<=x /\ x<0):=λx=>by rw[ay,mM,mL];symm<;>(intro h;lia)
 exact#[#[λh hh=> ?_,kϣ,λh hh y h1 h2=> ?_],dİ];rw[mem] at hh;lia;rw [List.getElem?_append] at hi hj;unfold kj;split at hi;let⟨_,e1⟩:=Bn hi;split at hj;let⟨_,e2⟩:=Bn hj;have:=(mM (a:=b) (x:=h) (n:=kÝ)).mp (au hi);split<;>lia;rename_i q1 q2;lia;let⟨r1,e1⟩:=Lr hi;split at hj;have:=(mM (a:=b) (x:=g) (n:=kÝ)).mp (au hj);split<;>lia;let⟨_,e2⟩:=Lr hj;split<;>lia;rw[mem] at hh ⊢;unfold kj at h1 h2;split at h1<;>lia;rw[mem];have:=QP.2 y hy;have:=QR y hy;lia
structure Du (s p:Int)(b:Pt)(f len foot:Int):Prop where
 ok:kJ s f
 l0:aŲ
 s0:dΦ
 ge: ∀x,eΙ ->f<=Ď
 tE: ∀x,eΙ ->bε ->lę
 top:look b (f+len*s)=1
 bot:bΝ*foot % p=1
 ft:aų /\ aŴ
def Bi (x k:Int):bI s (x+k*s)=Ď:=by unfold bI;split;rename_i e;subst e;simp;rw[Int.add_mul_emod_self_right]
def tF (h:í)(x k:Int):hI s (x+k*s)=Đ+k:=by unfold hI;rw[Æ,Æ,Int.add_mul_ediv_right _ _ h]
def pS (ok:kJ s f)(h:í)(k:Int):hI s (f+k*s)=k:=by
 rw[tF h];have:hI s f=0:=by unfold hI;rw[Æ];obtain z | ⟨z1,z2⟩:=ok;show absurd z h;show Int.ediv_eq_zero_of_lt z1 z2
 rw[this,bQ]
def qW (s0:Ò)(e:bε):x=f+Đ*s:=by obtain h | h:=kÞ;have:=qT (x:=x) h;rw[e] at this;rw[bU];show this;subst h;have:x=f:=e;rw[this];simp
def eQ (g:Š)(js:fō):Int:=js.foldr (λj r=>g j.1*j.2+r) 0
theorem cP (g:Š)(j:Ō)(js:fō):eQ g (j::js)=g j.1*j.2+eQ g js:=rfl
def wW (hp:ϴ)(hn:n % p≠0):aŬ:=by
 intro y y0 y1 e;have e2:y*(n % p) % p=0:=by rw[cJ,oĂ, <- cJ];show e
 have r0:=dD n (show p≠0 by exact λe=>Lqf Û (.a Ϣ ϳ) lĕ (LqIp y0 (LqIp y1 ŭ)) rfl);have r1:=cY n (show 0<p by exact iŦ);generalize n % p=r at hn e2 r0 r1;have key: ∀p∈([2,3,5,7]:ċ), ∀y∈eΚ, ∀r∈eΚ,y≠0 ->r≠0 ->y*r % p≠0:=⋯
 let⟨p',rfl⟩:=Int.eq_ofNat_of_zero_le (show 0<=p by exact Int.le_of_lt (iŦ));let⟨y',rfl⟩:=Int.eq_ofNat_of_zero_le (show 0<=y by exact Int.le_of_lt y0);let⟨r',rfl⟩:=Int.eq_ofNat_of_zero_le r0;exact key p' (by simp;lia) y' (cϲ) r' (cϲ) ∅ ∅ ?_;have:((y'*r' % p':Nat):Int)=0:=by push_cast;show e2
 lia
structure qo (s p f len:Int)(b a:Pt)(hs:Ĳ)(i:Nat)(c:Pt)(js:gϩ):Prop where
 rel: pΔ
 clr: ∀ (j:Nat) g,j<i ->gĢ ->look c (f+g*s)=0
 sup: ∀x,bε ->eΜ ->Đ∈hs \/ (kϤ)
 Te: nĽ
theorem qo.skip (st:lϋ)(hh:gġ)(hz:gģ=0):qo s p f len b a hs ß c js:=#[st.rel,λj g hj hg=>by obtain z | z:=aŵ;show gϪ;have:j=i:= qó;subst this;rw[hh] at hg;cases hg;show hz,st.sup,st.Te]
def iS (s x sh:Int):bI s Ŵ=Ď:=by have:=Bi (s:=s) x (-sh);rw[rę] at this;show this
def l3 (hs:í)(x sh:Int):hI s Ŵ=Đ - sh:=by have:=tF hs x (-sh);rw[rę] at this;rw[this];exact rÒ
def qo.step (F:jÇ)(H:Hs hs len)(s0:Ò)(p0:0<p)(BC:s=0 -> ∀h∈hs,h=0)(gc:aŭ)(gc':GD p c')(st:lϋ)(hh:gġ)(hn:pν)(e: ∀x,cŅ=(Ŕ+kϥ*n) % p):qo s p f len b a hs ß c' (hń):=by
 have hm:=au hh;have quiet: ∀x,kϥ=0 ->cŅ=Ŕ:=λx hx=>by rw[e,hx,bP,bE,d5 p0 gc]
 have here:look c' bÕ=0:=by
  rw[e,hn];by_cases jV:h<0;rw[ak jV];have e1:iŧ=f:=by unfold kj;rw[ak jV,bU s h];exact qϺ
  rw[e1];generalize gģ=v;have e2:v+bΝ*(-v*foot)=v - v*(bΝ*foot):=by rw[Int.neg_mul,Int.mul_neg, <- Int.mul_assoc,bU (bΝ) v,Int.mul_assoc];exact rÒ
  rw[e2,Int.sub_emod,cJ,F.bot];rw[dA,oĂ,Int.sub_self];rfl;rw[ai jV];have e1:iŧ=f+len*s:=by unfold kj;rw[ai jV,bU s (bÔ),Int.sub_mul];exact LqIx (Lqi Ĝ (.s ι eŴ) π ö ö LqI0 rfl) (Lqi Ĝ ι (.s π eυ) ö ö LqI0 rfl)
  rw[e1,F.top,Int.one_mul];rw[show gģ+ -gģ=0 by exact LqIx (Lqi [_] hϸ ö ö ö LqI0 rfl) (Lqi [_] ö hϸ ö ö LqI0 rfl)];rfl
 exact#[ķ,λj g hj hg=> ?_,gĤ,Ź];rw[e,st.rel,Int.emod_add_emod,cP,Int.add_assoc,kŘ];obtain z | z:=aŵ;rw [quiet];show gϪ;by_cases cS:look b jœ=0;show cS;exfalso;have vV:bI s jœ=f:=by rw[iS,F.ok.on]
 have hr:=F.tE _ cS vV;by_cases zt:s=0;have g0:=BC zt g (au hg);have h0:=BC zt h hm;have:=H.ord i j h g z hh hg;have l0:=F.s0 zt;subst l0;rw[g0,h0] at this;show this (by unfold kj;simp);rw[l3 zt,pS F.ok zt] at hr;show H.ord i j h g z hh hg hr;have:j=i:= qó;subst this;rw[hh] at hg;cases hg;show here;by_cases hb:kϥ=0;rw[quiet x hb] at cS;show gĥ;have vV:bI s (x - cϳ)=f:=by rw[iS];show hx
 have hr:=F.tE _ hb vV;by_cases zt:s=0;have h0:=BC zt h hm;have:Đ=0:=by unfold hI;rw[ak zt]
 left;rw[this, <- h0];show hm;rw[l3 zt] at hr;show H.clo h hm _ (by exact Lqi Û Lq0 Lq1 ö eΘ hr.1 rfl) (by exact Lqi Ĝ Lq0 ξ Α Lq2 hr.2 rfl);rw [quiet x];show st.Te x hx;by_cases hb:kϥ=0;show hb;have:=F.ge _ hb;rw[iS] at this;lia
theorem qo.low (st:qo s p f len b a hs hs.length c js)(s0:Ò): pĻ:=λx hx cS=>by obtain z | z:=gĥ;exfalso;let⟨j,hj⟩:=cr.mp z;have:=st.clr j _ (bΜ).1 hj;rw[<- qW s0 hx] at this;show cS this;show z
def Wt (Z:Int)(m:Pt):Prop:= ∀x,eΒ -> fŷ
def Wt.len (g:aŪ)(h:Wt Z m)(z0:0<=Z):m.length<=fŸ:=by
 have:=hV (l:=zD (-Z) fŸ) g.1 λk hk=>by
  let⟨z,hz,rfl⟩:=ag.mp hk;have cS:look m z.1≠0:=by rw[jG g.1 hz];have:=g.2 z hz;exact qĴ
  have:=h z.1 cS;show mL.mpr (by exact rç)
 rw[ab] at this;unfold zD at this;rw[ab,ci] at this;show this
def mT (hn:ns.Nodup)(s0:Ò):(cĺ).Nodup:=by unfold kK;have h2:(nĈ).Nodup:=hn.sublist List.filter_sublist;exact List.Pairwise.map _ (R:=λx y=>x≠y /\ bε /\ bI s y=f) (λx y h e=> ?_) ?_;show h.1 (by rw[qW s0 h.2.1,qW s0 h.2.2,e]);exact List.Pairwise.imp_of_mem (λ{x y} hx hy h=>#[h,?_,?_]) h2;simpa using(bο).2;simpa using(aL.mp hy).2
def Iu (s p f len foot:Int)(b:Pt)(g:Š)(h:Int):Š:=if g bÕ=0 then g else λx=>(g x+kϥ*(if h<0 then -(g bÕ)*foot else -(g bÕ))) % p
def Dg (s p f len foot:Int)(b:Pt)(hs:ā)(g:Š):Š:=hs.foldl (Iu s p f len foot b) g
def xI {hs:ā}(e:gġ):Dg s p f len foot b (hs.take ß) g=Iu s p f len foot b (Dg s p f len foot b dΧ g) h:=by unfold Dg;rw[bj,e,List.foldl_append];rfl
def Pc (h: jÈ)(w:Int):Wt B bΗ:=by
 unfold pf;cases e:P.find? (λu=>decide (u.1=w)) with
 | none=>intro x hx;show fŹ
 | some u=>show h u bΚ
theorem Wt.up (h:Wt Z m)(l:Z<=Z'):Wt Z' m:=λx hx=>by have:=h x hx;exact ⟨Lqi Ĝ Ņ Lq1 hϹ ι (LqIp l ü) rfl,Int.le_trans ú l⟩
def aa2 (R S:gg):gA:=λxs M q=>FJ λ(r rl rp o ds ol op:gg) Ĩ=>FJ λ(s f len foot:Int) bŲ (P Q:Pq)=>lD λ(B C Z D:Int)=>qk (xs= [Î,Í,wr r,wr o]) iţ (M o=some (.ins S ds [gϣ,gϤ,(ĭ,wi f),(ŕ,aű),(aŮ,bÖ)])) lΖ ď aŶ (len<3000000) (qk (jÇ) (Ϟ) iŤ nű (Wt Z a) (Wt D b) aŷ (qk (Z<=ġ) (0<=D) (D<=ġ) (jÈ) (∀t∈Q,Wt C ì) (0<=B) (B<=ġ) (fU (0<=C) (C<=ġ) (hϷ<=1000) (∀M' c P' js,iť ->(pΔ) ->(qģ) ->(kř) ->(pĻ) ->(nĽ) ->eΝ ->jŐ ->oϲ ->nψ ->nϚ ->(pŤ) ->(∃ms:ā,fU lũ (kœ) (aŸ=Dg s p f len foot b (cņ) bΞ) (oĦ)) ->nŲ ->aϱ))))
def Ke {P P' Q:Pq}(hn:kà)(h: pŤ):mı:=by have:=hV (l:=eΔ++eΗ) hn λk hk=>ay.mpr (h k hk);rw[ab,aO,ab,ab] at this;show this
def pC (a:Pt):(f8 a).map (fŲ)=cϴ wi:=by unfold f8 du;rw[aJ,aJ];rfl
def YS {s f x Z:Int}(s0:Ò)(s8:s<=8)(h: fŷ)(z0:0<=Z): aŹ<=Đ /\ Đ<=Z:=by
 unfold hI;split;exact ⟨Lqi [_] jŔ ö ö Lq0 z0 rfl,z0⟩;rename_i hs;have _U:1<=s:= (by exact Lqi [_] ñ Lq0 Ϣ Lq0 (jŕ) rfl);have h1:=lŢ;have h2:=dD x hs;have h3:=cY x (show 0<s by exact jŕ);generalize x / s=y at h1;generalize x % s=m at h1 h2 h3;symm;obtain q | q:=eN y (aŹ);have:s*y<=s*(-Z - 2):=bg (by exact Lqi Û Lq0 (.s Œ ý) ϒ jŖ q rfl) fż;have e:s*(-Z - 2)= -(s*Z) - 2*s:=by rw[Int.mul_sub,Int.mul_neg];lia
 have:Z<=s*Z:=by have:=a5 _U z0;exact oł
 lia;show q;obtain q | q:=eN Z y;have:s*(Z+1) <=s*y:=bg (by exact q) fż;have e:s*(Z+1)=s*Z+s:=by rw[Int.mul_add];lia
 have:Z<=s*Z:=by have:=a5 _U z0;exact oł
 lia;show q
def H_ (l0:aŲ)(hh:h∈cń):(h<0 -> ∃m∈ns,m<=h) /\ (0<=h -> ∃m∈ns,h<=m):=by
 unfold tW at hh;by_cases hc:gϧ
 rw[ak hc] at hh;show#[hϺ,hϺ];rw[ai hc,ay,mM,mL] at hh;have cS:bŶ:=hŃ;have hl:0<len:=by have:=hł;lia
 have h1:fŶ∈ns:=mN cS;have h2:cϱ∈ns:=by cases ns with | nil=>show fŽ | cons x r=>show aQ
 show#[λz=>#[_,h2, ∅],λz=>#[_,h1, ∅]]
def MG (l0:aŲ)(z0:0<=Z)(hb: ∀x∈ns, aŹ<=x /\ x<=Z)(hn:eŃ):(cń).length<=max n fž:=by
 unfold tW;by_cases hc:gϧ
 rw[ak hc];exact Nat.le_trans hn (iϧ);rw[ai hc,aO];have cS:bŶ:=hŃ;have hl:0<len:=by have:=hł;lia
 have h1:fŶ∈ns:=mN cS;have h2:cϱ∈ns:=by cases ns with | nil=>show fŽ | cons x r=>show aQ
 have b1:=hb _ h1;have b2:=hb _ h2;unfold p6 zD;rw[ab,ab,ci,ci];lia
def C_ (s0:0<s):x - s<s*Đ /\ s*Đ<=x:=by unfold hI;rw[ai qŕ];have h1:=lŢ;have h2:=dD x (show í by exact qĞ);have h3:=cY x s0;show#[(by exact Lqi ř lĘ Lq2 lė (.a χ Lq1) (LqIp (LqId h1) h3) rfl), (by exact Lqi Ĝ Lq0 Lq1 lĚ ξ (LqIp (LqIe h1) h2) rfl)]
def e9 (h:eΒ):x∈du m:=by
 rcases hĭ with⟨h1,h2,_⟩ | ⟨q,h1,h2⟩
 show absurd h2 h;have h3:=List.find?_some h1;have h4:=List.mem_of_find?_eq_some h1;exact ag.mpr #[q,h4,?_];first | show of_decide_eq_true h3 | show beq_iff_eq.mp h3 | simpa using h3
def fB (ga:aū)(h:x∈Ó):0<ō /\ ō<p:=by let⟨z,hz,rfl⟩:=bÑ;rw[jG ga.1 hz];show ga.2 z hz
def zh (s0:Ò)(hh:h∈fŻ):f+h*s∈Ó /\ bI s bÕ=f:=by let⟨x,hx,e⟩:=ag.mp hh;have h1:=eΞ;have h2:bε:= hϻ;have h3:=qW s0 h2;rw[e] at h3;rw[<- h3];show bĿ
theorem kg (h:x∈Ó)(e:bε):Đ∈fŻ:=ag.mpr #[x,aL.mpr #[h, Å],rfl]
def zc (s0:Ò):kJ s bθ:=by unfold kJ bI;by_cases h:s=0;show aĠ;rw[Æ];show .inr #[dD _ h,cY _ mύ]
structure Mn (s f m t:Int)(a:Pt):Prop where
 mn:gN (iÀ) f
 lo:iÁ
 hi:t∈fŻ
 bd: ∀h∈fŻ,m<=h /\ h<=t
def Mn.ok (h:eΟ)(s0:Ò):kJ s f:=by let⟨x,_,e⟩:=ag.mp h.mn.1;rw[<- e];show zc s0
def zP {f t m s:Int}:f+(t - m)*s+s*m=f+t*s:=by rw[Int.sub_mul,bU s m];exact LqIx (Lqi Ĝ mώ ι ö ö LqI0 rfl) (Lqi Ĝ ι mώ ö ö LqI0 rfl)
def FR (p1:1<p)(s0:Ò)(ga:aū)(N:eΟ)(Kx:kϦ)(e: nω)(YF:foot*bΝ % p=1)(f0:aų)(f1:aŴ):kϧ:=by
 have lit: ∀x,eΙ ->x+s*m∈Ó:=λx hx=>e9 λz=>hx (by rw[e,z,bP];rfl);have col: ∀x,bI s bØ=Ď:=λx=>by rw[bU];show Bi x m
 exact#[N.ok s0,by have:=dΨ;exact Lqi Û ö Α Lq1 Lq0 ú rfl,bŻ,Ź,gĦ,?_,by rw[bU];show YF,f0,f1];let⟨x,_,e1⟩:=ag.mp N.lo;let⟨y,_,e2⟩:=ag.mp N.hi;rw[<- e1, <- e2];unfold hI;rw[Ô,Ô];rfl;rw[<- col x];show N.mn.2 _ (ag.mpr #[_,lit x hx,rfl]);have h1:=N.bd _ (kg (lit x hx) ((col x).trans hc));by_cases z:s=0;have h2:=dΨ;unfold hI;rw[Ô];exact ⟨fŔ,Lqi Û ö Α Lq1 Lq0 h2.2 rfl⟩;rw[bU,tF z] at h1;exact ⟨Lqi Û ö Lq0 Lq1 ι Õ rfl,pļ⟩;rw[e,zP,bU];show Kx
def B6 (s0:Ò)(p0:0<p)(ga:aū)(N:eΟ)(nz:NZ p tn)(e: nω):0<bΝ /\ bΝ<p:=by have h1:=fB ga (zh s0 N.lo).1;have h2:=nz _ Õ h1.2;rw[e,bU s m];have h3:=dD jÉ qχ;have h4:=cY jÉ p0;exact ⟨LqIk h3 eŰ,h4⟩
def XN {a:Pt}(cS:a≠ [])(dP:ms.Perm (kK s (kŚ) (Ó)))(jk:kœ): bμ /\ Mn s (kŚ) (cϵ) (fŨ) a:=by
 have lK:Ó≠ []:=λe=>cS lό;have mn:=fK (l:=iÀ) (λe=>lK lό);let⟨x,hx,e⟩:=ag.mp mn.1;have qq:bμ:=λz=>by have:=dP.mem_iff.mpr (kg hx e);rw[z] at this;cases this
 have hl:=pq jk qq;exact#[qq,mn,dP.mem_iff.mp ?_,dP.mem_iff.mp (mN qq),λh hh=>#[EZ jk h jÊ,hl.2 h jÊ]];cases ms with | nil=>show fſ | cons x r=>show aQ
def SF (R S:gg):gA:=λxs M q=>FJ λ(r dr rl rp:gg) cİ aŝ (P:Pq)=>cM λ(B:Nat) (D:Int)=>qk (xs= [Î,Í,wr r]) (pĽ) lΖ ď aŶ (Ϟ) (a≠ []) (Lx (Wt D a) (0<=D) (D<=2000000) lΩ (B<=aϹ) hŅ (∀M' o ds ol op b Q f m t foot tn,M' o=some (.ins S ds [gϣ,gϤ,(ĭ,wi f),(ŕ,wi (t - m)),(aŮ,bÖ)]) ->c9 p M' ol op b Q ->kϧ ->eΟ ->0<tn ->tn<p ->kϦ ->(nω) ->(pæ) ->Ħ ->(∀x∈o::cϰ,bω) ->(∀t∈Q,eΖ<=B) ->(nϛ) ->q (wr o) M'))
universe WQ
namespace WL
open PySem L2
theorem PM (h:WQ.jX p M M'):WQ.jX p M dŝ:=λb u n e=>by rw[aH n];show h b u n e
def Di {α β:Type}{l:Ý}{fW:aŢ}(gW:aţ)(R:α ->dű)(n:Nat){M1:Mp}(hz:cϨ<sizeLine)(kx: ∀p M,ţ ->eΡ ->aō)(hs: ∀a∈l, ∀p M ys,ţ ->eΡ ->iĿ -> ∀ (B:eI ->mΘ) (N0:Ţ),(∀ρ2 h_ (bs:fh β) (eW:aţ) M4,WQ.jX p M M4 ->iϲ ->R a (bs.map eW) ->bs.length<=n ->(∀M',fγ ->h_ M') ->(∀b∈bs, ∀M',fγ -> ∀N:hĦ,N (some (eW b)) M' ->qŪ) ->B ρ2 (bs.map gW) h_ M4) ->qΓ)(hq: ∀p M (yss:cŇ),ţ ->eΡ ->M p=some (.lst yss.flatten) ->yss.length=l.length ->(∀ (i:Nat) a zs,ç =ĉ ->hņ ->R a zs) ->q č M): pä:=by
 intro p hp;exact#[λi ys M=>eΡ /\ iĿ /\ ∃yss:cŇ,fU (yss.length=i) (ys=yss.flatten) (ys.length<=i*n) (∀ (j:Nat) a zs,l[j]? =ĉ ->yss[j]? =some zs ->R a zs),#[PM (WQ.jX.refl p M1),av,[],rfl,rfl,dg _,λj a zs _ h=>by simp at h],?_,?_,?_];rintro i ys M hi ⟨h1,h2,_⟩;show#[kx p M hp h1,h2];rintro i x ys M hx ⟨h1,h2,yss,h3,h4,h5,h6⟩;let⟨a,ha,rfl⟩:=lX hx;have Md:=(am.mp ha).1;have jm:ß*n<=cϨ:=Nat.mul_le_mul_right _ Md;have Oy:ß*n=i*n+n:=by rw[Nat.add_mul,Nat.one_mul]
 exact hs a bÆ p M ys hp h1 h2 (λρ2 zp h_ M4=>To zp h_ g2 c2 el ρ2 p ys M4 _) (λM3=>_) ?_;intro ρ2 h_ bs eW M4 k1 k2 k3 k4 k5 k6;exact#[λj zs M'=>fγ /\ M' p=gæ /\ zs=kś,#[WQ.jX.refl p M4,k2,by simp],?_,?_,?_];rintro j zs M' hj ⟨z1,z2,rfl⟩;exact#[k5 M' z1,z2,?_];rw[aO,ab,bv];lia;rintro j y zs M' hy ⟨z1,z2,rfl⟩;let⟨b,hb,rfl⟩:=lX hy;have e2:fδ=bs.take j++ [b]:=by rw[bj,hb];rfl
 exact k6 b (au hb) M' z1 (λo M5=>match o with
 | aŌ=>oŃ /\ (WQ.jX p M4 (um M5 p nϺ) /\ um M5 p nϺ p=some nϺ /\ kś++ [z]=lώ)
 | none=>WQ.jX p M4 M5 /\ oŃ /\ kś=lώ) ?_
 show#[z2,PM z1,av,by rw[e2,aR];simp];rintro zs M' ⟨z1,z2,rfl⟩;rw[ab,bD] at*;exact#[h1.trans (k1.trans z1),z2,yss++ [bs.map eW],by simp[h3],by rw[h4];simp,?_,λj a' zs' Mg U_=> ?_];rw[aO,ab];lia;rw [List.getElem?_append] at U_;split at U_;show h6 j a' zs' Mg U_;rename_i hj;have jW:j=i:=by let⟨q1,_⟩:=am.mp U_;simp at q1;exact LqNx (Lqj ř Lq0 Lq1 kã nľ (LqNp (LqNe h3) kä) rfl) (Nat.le_trans (LqNd h3) (LqNz hj))
 subst jW;rw[ha] at Mg;cases Mg;rw[h3,Nat.sub_self] at U_;cases U_;show k3;rintro ys M ⟨h1,h2,yss,h3,h4,h5,h6⟩;rw[ab] at h3;show hq p M yss hp h1 (h4▸h2) h3 h6
universe WL
namespace WQ
open PySem L2 WL WP
abbrev oF:=Int×Ō
def nF (t:oF):W:= .tup [wi t.1,wi ë,wi ì]
def wA (p n:Int)(P:Pq):aì:=P.flatMap λt=>t.2.2.map λz=>(t.1,z.1,z.2*n % p)
def Xd:gA:=λxs M q=>Rp λ(rl rp:gg) (p n:Int) aŝ (P:Pq) (B:Nat)=>qk (xs= [Î,wr rp,wi n]) è bŰ (-1000<n) (n<1000) (Ϟ) hŅ (fU lΩ (B<=Ő) (P.length*B<=Ő) (∀t M' (tl:aì),Ħ ->bζ ->M' t=kϨ ->iŨ ->q (wr t) M'))
def HZ (g:jĻ){BA:ā}(h:BA.Perm (du m)):(BA.map nĿ).Perm (mĲ):=by
 have h1:=h.map nĿ
 have e:(du m).map (nĿ)=mĲ:=by unfold du;rw[aJ];apply bK;intro z hz;simp![Function.comp];rw[jG g hz]
 rw[e] at h1;show h1
theorem wB {p n:Int}{P:Pq}(hg: nČ): ∀ {ws:ā} {yss:cŇ},jŗ ->(rÝ) ->∃tl:aì,kå /\ tl.Perm (ws.flatMap λw=>eΤ λz=>iÂ)
 | [],[],_,_=>#[[],rfl, .nil]
 | [],_::_,h,_=>by cases h
 | _::_,[],h,_=>by cases h
 | w::ws,zs::yss,h,hR=>by let⟨BA,h1,e1⟩:=hR 0 w zs rfl rfl;let⟨tl,e2,h2⟩:=wB hg (ws:=ws) (yss:=yss) ⇑h λi a z ha hz=>hR ß a z ⇑ha ⇑hz;exact#[(BA.map λsh=>(mũ:oF))++tl,?_,?_];rw[List.flatten_cons,e2,e1,aR,aJ];rfl;rw[List.flatMap_cons];show(HZ (hg w) h1).append h2
def FO (nd:jŎ)(hg: nČ){ws:ā}(dP:ws.Perm (eΔ)){yss:cŇ}(df:jŗ)(hR: rÝ): ∃tl:aì,kå /\ iŨ:=by
 let⟨tl,e,h⟩:=wB hg df hR;exact#[tl,e,h.trans ?_];have h2:=dP.flatMap_right λw=>eΤ λz=>(iÂ:oF)
 exact h2.trans (List.Perm.of_eq ?_);unfold wA;rw[List.flatMap_def,List.flatMap_def,aJ];congr 1;apply bK;intro t ht;simp![Function.comp];rw[qE nd ht]
theorem qf (G:Š)(x:Int): ∀d:Pt,eQ G d=G x*aź+eQ G (iA d x)
 | []=>by simp[eQ,dM,iA]
 | z ::r=>by
  have ih:=qf G x r;rw[cP,ih];unfold iA;rw[List.filter_cons];by_cases e:aä;rw[ai Å];have:dM aŻ x=z.2+aŒ:=by change nŀ=_;rw[È]
  rw[this,e,Int.mul_add];show(Int.add_assoc _ _ _).symm;rw[ak Å,cP];have:dM aŻ x=aŒ:=by change nŀ=_;rw[É,bQ]
  rw[this];show Int.add_left_comm _ _ _
theorem mC (x y:Int): ∀d:Pt,dM (iA d x) y=if y=x then 0 else dM d y
 | []=>by simp[iA,dM]
 | z ::r=>by have ih:=mC x y r;have e1:dM aŻ y=lϏ+dM r y:=rfl;unfold iA at ih ⊢;rw[List.filter_cons];by_cases e:aä;rw[ai Å,ih,e1];by_cases ey:y=x;rw[aæ,aæ];rw[aç,aç,ai (λq=>ey (by rw[<- q,e])),bQ];rw[ak Å];change lϏ+_=_;rw[ih,e1];by_cases ey:y=x;rw[aæ,aæ,ai (λq=>e (by rw[q,ey]))];rfl;rw[aç,aç]
theorem me {p:Int}(G:Š): ∀ (n:Nat) (d:Pt),dΩ ->(∀x,aź % p=0) ->c϶=0
 | n,[],_,_=>gϫ
 | 0,_::_,h,_=>by simp at h
 | Ê,Ñ,h,ht=>by
  rw[qf G z.1];have hl:lŪ:=by unfold iA;rw[List.filter_cons,eû];have:=oĈ;simp![aT] at h;exact qĿ
  have ih:=me G n _ hl λx=>by rw[mC];split;rfl;show ht x
  rw[bu,ih,cJ,ht,dX];simp
theorem qg (G:Š)(b:Pt): ∀a:Pt,eQ G aœ=eQ G a+eQ G b
 | []=>by change eQ G b=0+_;rw[bQ]
 | Ñ=>by rw[List.cons_append,cP,cP,qg G b r,Int.add_assoc]
theorem vg (G:Š)(k:Int): ∀a:Pt,eQ G (tm k a)=eQ G a*k
 | []=>by change dϊ;simp
 | Ñ=>by have:tm k aŻ=(z.1,z.2*k)::tm k r:=rfl;rw[this,cP,cP,vg G k r,Int.add_mul,Int.mul_assoc]
def tL (G:Š)(h: ∀x,aŔ % p=dM b x % p):eQ G a % p=eQ G b % p:=by
 have h1:=me (p:=p) G _ (a++tm Ï b) õ λx=>by rw[gS,tU,Int.mul_neg,dA, <- Int.sub_eq_add_neg];show dL.mp (h x)
 rw[qg,vg,Int.mul_neg,dA, <- Int.sub_eq_add_neg] at h1;show dL.mpr h1
theorem y_ (x:Int): ∀js:Pt,eQ (λsh=>if x - sh=0 then 1 else 0) js=dM js x
 | []=>rfl
 | Ñ=>by rw[cP,y_ x r];change _=nŀ;by_cases e:aä;rw[È,ak (by exact LqIx (Lqi Û Α ö Lq0 Lq1 Ŏ rfl) (Lqi Û ö Α Lq1 Lq0 bĨ rfl)),Int.one_mul];rw[É,ø,bP]
def Fw (js:Pt):għ=0:=by
 induction js with
 | nil=>rfl
 | cons z r ih=>rw[cP,ih,bP];rfl
def nC (s:Int)(sts:ê)(P:Pq)(x:Int):cĭ
 | 0=>0
 | n+1=>gĨ+eQ oĉ (aż)
theorem zH {s p:Int}{sts:ê}{P P':Pq}(hP: nČ)(YQ: nŁ)(x:Int): ∀n:Nat,(∀w:Nat,w<n -> ∀y,look (bÒ) y % p=look bΗ y % p) ->nC s sts P' x n % p=gĨ % p
 | 0,_=>rfl
 | n+1,h=>by have ih:=zH (s:=s) (sts:=sts) (p:=p) hP YQ x n λw hw=>h w (by exact Lqj Û ϒ ϑ ϒ Lq1 hw rfl);rw[nC,nC,bu,ih,tL (p:=p) _ (a:=pf P' n) (b:=aż) λy=>by rw[fq (YQ n),fq (hP n)];show h n lÈ y, <- bu]
theorem NO: ∀ {a b:ā},a.Pairwise cŸ ->b.Pairwise cŸ ->a.Perm b ->a=b:=λ{a b} ha hb h=>List.Perm.eq_of_pairwise (le:=cŸ) (λx y _ _ h1 h2=> (by exact LqIx h1 h2)) ha hb h
structure Sr (s p:Int)(st:Pt)(c len D:Int):Prop where
 pat:cX p st
 ok:aũ
 l0:aŲ
 s0:dΦ
 ge: kŔ
 tE: ∀x∈é,œ ->lę
 bot:c∈é
 top:look st (bÙ)=1
 wt:Wt D st
def C9 (ok:aũ):hI s c=0:=by unfold hI;obtain h | h:=ok;rw[ak h];rw[ai (by exact λe=>Lqf Û nϗ lĕ (LqIp h.1 (LqIp h.2 ŭ)) rfl)];show Int.ediv_eq_zero_of_lt h.1 h.2
theorem Sr.HY (h:ϡ):bÙ∈é:=e9 (by rw[h.top];decide)
def Sr.DS (h:ϡ):hI s (bÙ)=len:=by by_cases z:s=0;rw[h.s0 z];unfold hI;rw[Ô];show pS h.ok z len
def Sr.uniq (h:ϡ)(h':Sr s p st c' Aw D'):c=c' /\ len=Aw:=by
 have e:c=c':=by have h1:=h.ge c' h'.bot;have h2:=h'.ge c h.bot;rw[h'.ok.own] at h1;rw[h.ok.own] at h2;exact LqIx h1 h2
 subst e;have h1:=h'.tE _ h.HY fζ;have h2:=h.tE _ h'.HY (h.ok.on Aw);rw[h.DS] at h1;rw[h'.DS] at h2;show#[rfl, (by exact LqIx h1.2 h2.2)]
def Sr.mn (h:ϡ)(s0:Ò)(N:Mn s f m t st):f=c /\ m=0 /\ t=len:=by
 have e:f=c:=gN.uniq N.mn qĩ;subst e;have b1:=N.bd _ (kg h.bot h.ok.own);have b2:=N.bd _ (kæ);rw[C9 h.ok] at b1;rw[h.DS] at b2;have vo: ∀y∈kK s f (é),0<=y /\ y<=len:=λy hy=>by let⟨x,hx,e⟩:=bπ;have:=nϻ;rw[e] at this;show this
 have b3:=vo _ N.lo;have b4:=vo _ N.hi;show#[rfl, (by exact LqIx b1.1 b3.1), (by exact LqIx b4.2 b2.2)]
def afi (s p:Int)(st:Pt)(g g':Š):Prop:=Rp λ bŲ (f len D foot:Int) (ms:ā)=>qk (aū) (look a=g) (gĩ) (Sr s p st f len D) (aų) (aŴ) (foot*look st f % p=1) (d6 lũ (kœ) (g'=Dg s p f len foot b (cņ) g))
def TkI (s p:Int)(sts:ê)(g0:Š):Nat ->(Š) ->Prop
 | 0,g=>g=g0
 | i+1,g'=> ∃g,TkI s p sts g0 i g /\ afi s p (fθ) g g'
structure v7 (s p:Int)(sts:Į)(D:Int):Prop where
 each: ∀ (i:Nat) st,ϟ ->cM λc len=>ϡ /\ len<3000000
 z8: ∀ (i j:Nat) st bG c len c' Aw,i<j ->ϟ ->hŇ ->ϡ ->Sr s p bG c' Aw D ->c<c'
structure nq (s p:Int)(sts:Į)(D Y:Int)(pat rest:Pt)(P:Pq)(n:Nat):Prop where
 chain:TkI s p sts (bΟ) n (look rest)
 low: ∀ (i:Nat) st c len,i<n ->ϟ ->ϡ -> ∀x,œ ->dϋ≠0 ->kϤ
 rel: ∀x,dϋ=(cϟ+gĨ) % p
 keys: ∀w∈eΔ,0<=w /\ w< Ġ
 still:s=0 -> ∀w x,jË ->x=0
 Ho: ∀w x,jË -> iÃ
 nd:jŎ
 gp: jÆ
def SE:gA:=λxs M q=>Rp λ(p s D Z Zm:Int) dΗ bű=>qk (xs= [Î,Í, hϱ,aś]) lΖ ď aŶ (Γ) (cX p pat) (Wt Z pat) (Lx aŷ (0<=D) (D<=aŽ) (Z+sts.length*(D+s) <=Zm) (Zm<=aŽ) (sts.length<=13) (∀t M' rest (tl:aì) P,cň ->Wt Zm rest ->nq s p sts D Zm pat rest P sts.length ->tl.Perm (wA p Ï P) ->Ħ ->bζ ->M' t=kϨ ->q (.tup [cK rest,wr t]) M'))
def Jc (h:hĬ):bŬ=dź:=by unfold ng;rw[jϻ]
def Jh (m:Pt):ű:=m.map λz=>((Sum.inl z.1:cL),wi z.2)
def yZ (m:Pt)(nd:jĻ):(Jh m).foldl kÙ []=f8 m:=by
 have key: ∀ (b a:Pt),((a++b).map ć).Nodup ->(Jh b).foldl kÙ (f8 a)=f8 aœ:=by
  intro b;induction b with
  | nil=>intro a _;rw[List.append_nil];rfl
  | cons z r ih=>
   intro a h;have hx:z.1∉a.map ć:=λhm=>by rw[aR,aX] at h;show(List.nodup_append.mp h).2.2 _ hm _ aQ rfl
   change(Jh r).foldl _ (kq (f8 a) (.inl z.1) (wi z.2))=_;rw[sY,Jc hx,ih (a++ [z]) (by rw[cA];show h),cA];rfl
 show key m [] nd
def yy (m:Pt):cK m= .tup ((Jh m).map kϡ):=by unfold cK Jh;rw[aJ];rfl
theorem iG (h:cX p m):aŪ:=#[(cz.mpr h.2).imp λh e=>by rw[e] at h;show absurd h (Int.lt_irrefl _),h.1]
theorem fQ {g:Š}: ∀ {js:Pt},(∀j∈js,g j.1=0) ->eQ g js=0
 | [],_=>rfl
 | Ñ,h=>by rw[cP,h z aQ,bP,fQ (js:=r) λj hj=>h j (aC _ hj)];rfl
theorem nq.ext (h:lĜ)(e:look b=look a):nq s p sts D Y pat b P n:=#[by rw[e];show h.chain,by rw[e];show h.low,by rw[e];show h.rel,h.keys,h.still,h.Ho,h.nd,h.gp]
def Jn (gp: jÆ)(w:Int):mà:=by
 unfold pf;cases e:mŧ with
 | none=>show List.nodup_nil
 | some t=>show(gp t bΚ).1
def GR {p a b b' c c':Int}(h1:b' % p=b % p)(h2:c' % p=c % p):(a+b+c) % p=(a+(b'+c')) % p:=by
 have h3:(b+c) % p=(b'+c') % p:=by rw[bu, <- h1, <- h2, <- bu]
 rw[Int.add_assoc,bu,h3, <- bu]
def nq.step {js:Pt}(tk:nq s p sts D Y pat c P i)(p0:0<p)(s0:Ò)(gK:Γ)(gD:ϟ)(sr:Sr s p st cl len D)(eb:gĩ)(f0:aų)(f1:aŴ)(hf:foot*look st cl % p=1)(gc:aŭ)(XD:kà)(gp': ∀t∈P',GD p ì)(ec: ∀x,cŅ=(Ŕ+eQ lŨ js) % p)(ep: qģ)(eq: pŚ)(ej:kř)(vX: ∀x,Ď=cl ->cŅ≠0 ->kϤ)(nR: ∀x,Ď<cl ->cŅ=Ŕ)(Hr: ∀w∈fŴ,hĿ \/ w=Ĥ)(BD: ∃ms:ā,d6 (ms.Perm (kK s cl (du c))) (kœ) (look c'=Dg s p cl len foot b (cņ) (aŸ)))(Ma: ∀j∈js, -Y - 1<=j.1 /\ j.1<=Y):nq s p sts D Y pat c' P' ß:=by
 have Oz:fθ=st:=by rw[bO,gD];rfl
 let⟨ms,m1,m2,m3⟩:=BD;have TJ:Ĥ∉eΔ:=λh=>by have:=(tk.keys _ h).2;exact nϜ
 have q0: ∀w,w≠Ĥ -> ∀x,nϙ=0:=λw hw x=>fQ λj _=>by rw[eq,hň]
 exact#[#[aŸ,tk.chain,#[c,b,cl,len,D,foot,ms,gc,rfl,by rw[Oz];show eb,by rw[Oz];show sr,f0,f1,by rw[Oz];show hf,m1,m2,m3]],λj bG c2 JZ hj AJ Wx x hx cS=> ?_,ķ,dό,λhs w x cS=> ?_,λw x cS=> ?_,XD,gp'];obtain z | z:=aŵ;have f7:=gK.z8 j i bG st c2 JZ cl len z AJ gD Wx sr;rw[nR x oš] at cS;show tk.low j bG c2 JZ z AJ Wx x hx cS;have:j=i:= qó;subst this;rw[gD] at AJ;cases AJ;let⟨rfl,rfl⟩:=sr.uniq Wx;show vX x hx cS;rw [ec,tk.rel,Int.emod_add_emod];have h1:=zH (s:=s) (p:=p) (sts:=sts) (Jn tk.gp) (Jn gp') x i λw hw y=>by rw[ep,q0 w (by exact λe=>Lqf Û ϱ ο (LqIp Ŏ ((Int.ofNat_lt.mpr hw))) rfl),bE,cU]
 have h2:=tL (p:=p) lϐ (a:=pf P' i) (b:=js) λy=>by
  rw[fq (Jn gp' i),ep,mJ TJ];have:eQ (λsh=>look (pf Q i) (až)) js=eQ (nË) js:=by congr 1;funext sh;rw[eq];by_cases z:až=0;rw[ak #[rfl,z],Ô];rw[ai (λq=>z q.2),Ö]
  rw[this,y_];change(0+_) % p % p=_;rw[bQ,cU]
 rw[nC,Oz,eb];show GR h1 h2;obtain z | z:=Hr w hw;have:=tk.keys w z;push_cast;exact qĵ;rw[z];push_cast;exact oħ;by_cases z:x=0;show z;exfalso;exact cS ?_;rw[ep];have h1:gϥ=0:=by by_cases y:gϥ=0;show y;show absurd (tk.still hs w x y) z
 rw[h1,fQ λj hj=>by rw[eq,ej hs j hj,ai (λq=>z (by have:=q.2;exact LqIx (Lqi [_] Lq0 ö gϬ ö (LqIe q.2) rfl) (Lqi [_] ö Lq0 ö gϬ (LqId q.2) rfl)))]];rfl;by_cases h1:gϥ=0;by_cases z: iÃ;show z;exfalso;exact cS ?_;rw[ep,h1,fQ λj hj=>by rw[eq,ai (λq=>z (by have:=Ma j hj;have:=q.2;lia))]];rfl;show tk.Ho w x h1
def nq.len (h:lĜ):P.length<=n:=by have:=hV (l:=zD 0 n) h.nd λk hk=>mL.mpr (by have:=h.keys k hk;exact qĶ);rw[ab] at this;unfold zD at this;rw[ab,ci] at this;show this
def NC {Q:Pq}(nd:jő)(h: ∀w∈eΗ,w∈ [i]):Q.length<=1:=by have:=hV (l:= [i]) nd h;rw[ab] at this;show this
def putL (s:Int)(sts:ê)(tl:aì):Pt:=tl.flatMap λt=>(kç).map λz=>(z.1+ë*s,z.2*ì)
def Sr.yV (h:ϡ):ĩ=c:=by
 have cS:lĔ:=by intro e;have:=List.mem_map_of_mem (f:=bI s) h.bot;rw[e] at this;cases this
 show gN.uniq (fK cS) qĩ
def Sr.sV (h:ϡ):Ī=len:=by
 unfold eC;rw[h.yV];have hm:len∈gĘ:=by have:=kæ;rw[h.DS] at this;show this
 have cS:gĘ≠ []:=λe=>by rw[e] at hm;cases hm
 exact lE.uniq (kY cS) #[hm,dİ];let⟨x,hx,e⟩:=bπ;have:=nϻ;rw[e] at this;show ú
def kr (s x:Int)(sts:ê)(t:oF):Int:=dM (kç) (x - ë*s)*ì
universe WQ
namespace L2
open PySem
def DH:Nat ->(eČ) ->Prop
 | 0,p=>p []
 | n+1,p=> ∀v,DH n λus=>p (v::us)
theorem DH.to: ∀ {n:Nat} {p:eČ},DH n p -> ∀us,us.length=n ->p us
 | 0,_,h,[],_=>h
 | _+1,_,h,v::us,e=>DH.to (h v) us (Nat.succ.inj e)
theorem cb {kV kl pm cdv ct:fi}(X:K.In h)(G:iϡ)(a:kŜ=jĤ)(l:cΗ=some #[oc,od, .func pΧ,EC])(c:W.codeIn K cdv x=true)(k:lô)(b: ∀ (kV kl pm:fi) (an:aÒ) (cdv ct:fi),DH ps.length λus=>bindArgs pΧ bĲ=hĐ:=by(repeat intro _);rfl): iN K mg x ps st f pΧ:=#[fι,bΡ,qĪ]
theorem Dj {kV kl pm cdv ct:fi}(X:K.In h)(G:iϡ)(a:kŜ=some (fġ))(g:pĘ)(l:cΗ=some #[oc,od, .func qÕ,EC])(c:kè)(k:lô)(h1:iė)(h2:kİ)(h3:W.keepIn K Ń=true)(h4:W.plainGet K C Str.empty=true)(h5:jģ)(h6:jĥ)(h7:qā)(b: ∀ (kV kl pm:fi) (an:aÒ) (cdv ct:fi),DH ps.length λus=>bindArgs qÕ bĲ=hĐ:=by(repeat intro _);rfl): UN K mg x q ps st C f qÕ:=#[fι,#[h1,g,h2,h3],#[h4,h5,h6,h7],bΡ,qĪ]
theorem jE (_:UN K mg x q ps st C f fd)(a:Str)(e:W.findIn K Ń a=bϺ):dJ K C a:=e
def Tg {l:W.OpenLaw}(T:iN K mg aí [p] st f fd)(hfa:mg aí =gê)(hb: ∀ (kV kl pm:fi) (an:aÒ) (cdv ct v:fi),bindArgs (W.fnOf aí aí aϩ aϪ aϫ .none kV kl pm an cdv ct) #[[v],[]]=pure [(p,v)])(ok: ∀base,cC l.prog w K mg base f_ kd f fd [p] (WQ.zR K)): ∃fd:FuncData,(∀ (s:fk) (v:fi),BindsTo s fd #[[v],[]] [(p,v)]) /\ ∀base:Heap,cç ->kĨ ->cC l.prog w K mg base f_ kd fa fd [p] (WQ.zR K):=by have e:=hfa.symm.trans T.at_;cases e;let⟨oc,od,kV,kl,pm,an,cdv,ct,EC,rfl,lk,GA⟩:=T.fn.ex;show#[_,λs v=> .of_eq (hb kV kl pm an cdv ct v),λbase _ _=>ok base]
universe L2
namespace WQ
open PySem L2 WL WP
theorem vh {p:Int}(G:Š): ∀ (n:Nat) (d:Pt),dΩ ->(∀x,G x*aź % p=0) ->c϶=0
 | n,[],_,_=>gϫ
 | 0,_::_,h,_=>by simp at h
 | Ê,Ñ,h,ht=>by
  rw[qf G z.1];have hl:lŪ:=by unfold iA;rw[List.filter_cons,eû];have:=oĈ;simp![aT] at h;exact qĿ
  have ih:=vh G n _ hl λx=>by rw[mC];split;rw[dX];rfl;show ht x
  rw[bu,ih,ht];rfl
theorem xJ (v:Int): ∀js:Pt,eQ (λ_=>v) js=v*gĪ
 | []=>by change ě=v*0;simp
 | Ñ=>by rw[cP,cP,xJ v r,Int.mul_add,Int.one_mul]
def mB (h:aź≠0):x∈d.map ć:=by exact aB λhn=>h (sT λq hq e=>hn (ag.mpr #[q,hq,e]))
def vi (G:Š)(d:Pt)(m:Int)(h: ∀y,y≠m ->G y*dM d y % p=0):c϶=G m*dM d m % p:=by rw[qf G m,bu,vh (p:=p) G _ (iA d m) õ λx=>by rw[mC];split;rw[dX];rfl;rename_i e;show h x e];rw[bE,cU]
def Sr.out (h:ϡ)(hs:í)(hk:¬(0<=k /\ k<=len)):look st (c+k*s)=0:=by exact aB λhn=>hk ?_;have:=h.tE _ bÚ (h.ok.on k);rwa [pS h.ok hs] at this
def Fy {st js:Pt}(hp:ϴ)(s0:Ò)(sr:ϡ)(low: ∀x,œ ->eQ lϐ js % p≠0 ->kϤ)(x:Int):eQ lϐ js % p=0:=by
 have p0:0<p:= ∅;by_cases z:s=0;have e: ∀x,eQ lϐ js=cŉ*gĪ:=λx=>by rw[<- xJ];congr 1;funext sh;rw[z,bP,Int.sub_zero]
 have ht:=sr.top;rw[z,dX,bE] at ht;have h0:gĪ % p=0:=by exact eΥ;have:=low c sr.ok.own (by rw[e,ht,Int.one_mul];show hn);have:=sr.s0 z;lia
 rw[e,cJ,h0,dX];rfl;have FT:0<s:= mϏ;have hmul: ∀a b:Int,c+a*s - s*b=c+bÛ*s:=λa b=>by rw[Int.sub_mul,bU s b];exact rĆ
 suffices yR: ∀y,dώ=0 by show me _ _ _ õ yR
 intro y;exact eΦ;have cS:pľ≠ []:=λe=>by have:pŶ:=oſ;rw[e] at this;cases this
 let⟨ma,mb⟩:=kY cS;let⟨la,lb⟩:=fK cS;generalize wZ _=m at ma mb;generalize fF _=k at la lb;have hm:dM js m % p≠0:= ⇑((aL.mp ma).2);have hk:gϯ:= ⇑((aL.mp la).2);have EV: ∀y,gϭ ->eΧ:=λy h=>by have:pŶ:=aL.mpr #[mB λe0=>h gϮ,cc h];show#[lb y this,mb y this]
 have out: ∀y,¬(eΧ) ->dώ=0:=λy h=>aB λh2=>h (EV y h2);have h1:=low (c+(len+m)*s) (cϷ) (by rw[vi _ js m dϏ,hmul,show len+m - m=len by exact qϺ,sr.top,Int.one_mul];show hm;rw[hmul];obtain h | h:=eN m y;rw[cJ,out y ∅,dX];rfl;rw[eΨ,bP];rfl);rw[pS sr.ok z] at h1;have hc:=fB (iG sr.pat) sr.bot;have h2:=low (c+k*s) (cϷ) (by rw[vi _ js k dϏ,hmul,Int.sub_self,bP,bE];show wW hp hk _ hc.1 hc.2;rw[hmul];obtain h | h:=eN y k;rw[cJ,out y ∅,dX];rfl;rw[eΨ,bP];rfl);rw[pS sr.ok z] at h2;have:=(EV k hk).2;exact Lqf Ĝ (.a ϯ gϰ) jΙ (LqIp h1.2 (LqIp h2.1 this)) rfl
def gO (s:Int)(sts:ê)(J:bΤ)(x:Int):cĭ
 | 0=>0
 | n+1=>gī+eQ oĉ (J n)
theorem DT (s:Int)(sts:ê)(P:Pq)(x:Int): ∀n,gĨ=gO s sts fμ x n
 | 0=>rfl
 | n+1=>by rw[nC,gO,DT s sts P x n]
theorem yd (s:Int)(sts:ê)(J J':bΤ)(x:Int): ∀n,gO s sts (gĬ) x n=gī+gO s sts J' x n
 | 0=>rfl
 | n+1=>by rw[gO,gO,gO,yd s sts J J' x n,qg];exact rĝ
theorem yb (s:Int)(sts:ê)(J:bΤ)(k x:Int): ∀n,gO s sts (gϱ) x n=gī*k
 | 0=>by change dϊ;simp
 | n+1=>by rw[gO,gO,yb s sts J k x n,vg,Int.add_mul]
theorem D_ (s:Int)(sts:ê)(x:Int): ∀n,gO s sts (bΥ) x n=0
 | 0=>rfl
 | n+1=>by rw[gO,D_ s sts x n];rfl
theorem yc {s p:Int}{sts:ê}{J:bΤ}{x:Int}{i:Nat}: ∀n,i<n ->(∀j,j<n ->j≠i ->eQ (λsh=>look (sts.getD j []) Ŵ) (J j) % p=0) ->gī % p=pĠ
 | 0,h,_=>absurd h (Nat.not_lt_zero _)
 | n + 1,h,hj=>by
  rw[gO];by_cases e:i=n;subst e;have: ∀m,m<=i ->jŘ:=λm=>by
   induction m with
   | zero=>intro _;show gϫ
   | succ m ih=>intro hm;rw[gO,bu,mŪ,hj m (by exact Lqj Û ϒ ϑ ϒ Lq1 hm rfl) (by exact λe=>Lqg Û ϳ ο (LqNp hm cŰ) rfl)];rfl
  rw[bu,fν,bQ,cU];rw[bu,yc n ∅ (λj h1 h2=>hj j (by exact Lqj Û ϒ ϑ ϒ Lq1 h1 rfl) h2),hj n lÈ (λq=>e q.symm),bE,cU]
def afg (s p:Int)(sts:ê)(D:Int)(g:Š):Prop:= ∀ (i:Nat) st c len,ϟ ->ϡ -> ∀x,œ ->bÈ≠0 ->kϤ
def Ea (hp:ϴ)(s0:Ò)(gK:Γ)(e: ∀x,bÈ=má)(low:afg s p sts D g)(x:Int):má=0:=by
 have get: oγ:=λi st h=>by rw[bO,h];rfl
 have key : ∀ (i:Nat),eΩ -> ∀x,pĠ=0:=λi=>by
  induction i using Nat.strongRecOn with
  | ind i ih=>intro hi x;let⟨c,len,sr,_⟩:=gK.each i _ bÜ;rw[gϲ];exact Fy hp s0 sr (gĤ) x;exact low i _ c len bÜ sr x hx ?_;rw[e,mū,gϲ];show cS;obtain h | h:=aŵ;show ih j h hj x;let⟨c2,JZ,sr2,_⟩:=gK.each j _ aϮ;have f7:=gK.z8 i j _ _ c len c2 JZ (by exact LqNk h eϊ) bÜ aϮ sr sr2;rw[gϳ];rw[fQ λk _=> ?_];rfl;exact eΥ;have:=sr2.ge _ bÚ;rw[iS,hx] at this;exact Lqf Û ϳ ο (LqIp f7 this) rfl
 have: ∀m,fξ ->jŘ:=λm=>by
  induction m with
  | zero=>intro _;show gϫ
  | succ m ih=>intro hm;rw[gO,bu,mŪ,key m fο];rfl
 show fπ
def UH (s p:Int)(sts:ê)(D:Int)(r:Pt):Prop:= ∀ (i:Nat) st c len,ϟ ->ϡ -> ∀x,œ ->bŤ≠0 ->kϤ
def IW {f:Š}(hp:ϴ)(s0:Ò)(gK:Γ)(h:cX p r)(h':cX p r')(l:gĭ)(l':UH s p sts D r')(e: ∀x,bŤ % p=(f x+kϩ) % p)(e': ∀x,cŊ % p=(f x+gO s sts J' x sts.length) % p):r=r':=by
 have p0:0<p:= ∅;exact s_ h h' ķ;have k: ∀x,(jř) % p=gO s sts (λi=>J i++tm Ï (J' i)) x sts.length % p:=λx=>by rw[yd,yb,Int.sub_emod,e,e', <- Int.sub_emod];congr 1;lia
 have hz:=Ea hp s0 gK k (λi st c len hi sr x hx cS=>by by_cases z:bŤ=0;by_cases z':cŊ=0;exact absurd ?_ cS;change(jř) % p=0;rw[z,z'];rfl;show l' i st c len hi sr x hx z';show l i st c len hi sr x hx z) x;rw[<- k x] at hz;have a:=uA p0 h x;have b:=uA p0 h' x;have:=Int.emod_emod_of_dvd;obtain q | q:=eN (bŤ) (cŊ);have h2:(jř+p) % p=0:=by rw[Int.add_emod_right];show hz
 rw[dj (by exact Lqi Ĝ ö kÊ (.a ö ϑ) π (LqIp a.1 b.2) rfl) (by exact Lqi Ĝ (.a kÊ ñ) Lq2 ϒ Lq1 q rfl)] at h2;lia;rw[dj (by exact Lqi Û ö Α Lq1 Lq0 q rfl) (by exact Lqi Ĝ lĘ Lq2 lϱ τ (LqIp a.2 b.1) rfl)] at hz;exact LqIx (Lqi Û Lq0 Lq1 Α ö (LqIe hz) rfl) (Lqi Û Lq0 Lq1 ö eΘ (LqId hz) rfl)
theorem nq.lowP (h:nł):gĭ:=λi st c len hi=>h.low i st c len eę hi
def nq.eqv (h:nł)(x:Int):bŤ % p=(cϟ+gO s sts fμ x sts.length) % p:=by rw[h.rel,DT,cU]
def fE (s p:Int)(sts:ê)(f:Š):Prop:= ∃J:bΤ, ∀x,f x % p=má
theorem fE.ext (h:eϋ)(e: ∀x,bÈ=f x % p):eό:=h.elim λJ hJ=>#[J,λx=>(e x).trans (hJ x)]
theorem fE.zero:fE s p sts ať:=#[bΥ,λx=>by rw[D_]]
def fE.add (h:eϋ)(h':eό):fE s p sts λx=>f x+g x:=by let⟨J,hJ⟩:=h;let⟨J',hJ'⟩:=h';show#[gĬ,λx=>by rw[yd,bu,hJ,hJ', <- bu]]
def fE.mul (h:eϋ)(k:Int):fE s p sts λx=>f x*k:=by let⟨J,hJ⟩:=h;show#[gϱ,λx=>by rw[yb,cJ,hJ, <- cJ]]
theorem y9 (G:Š)(k:Int): ∀js:Pt,eQ (λsh=>G (sh+k)) js=eQ G (mv k js)
 | []=>rfl
 | Ñ=>by have:mv k aŻ=(z.1+k,z.2)::mv k r:=rfl;rw[this,cP,cP,y9 G k r]
theorem Ix (s:Int)(sts:ê)(J:bΤ)(k x:Int): ∀n,gO s sts (gϴ) x n=gO s sts J (x - s*k) n
 | 0=>rfl
 | n+1=>by rw[gO,gO,Ix s sts J k x n, <- y9];congr 2;funext sh;rw[Int.mul_add];congr 1;exact rć
def fE.shift (h:eϋ)(k:Int):fE s p sts λx=>f (x - s*k):=by let⟨J,hJ⟩:=h;show#[gϴ,λx=>by rw[Ix,hJ]]
theorem fE.eQ {s p:Int}{sts:ê}{f:Š}(h:eϋ): ∀js:Pt,fE s p sts λx=>eQ (λsh=>f Ŵ) js
 | []=>fE.zero
 | Ñ=>((h.shift z.1).mul z.2).add (fE.eQ h r)
theorem t_ (s:Int)(sts:ê)(k:Nat)(v:Pt)(x:Int): ∀n,gO s sts (λi=>if i=k then v else []) x n=if k<n then eQ (λsh=>look (sts.getD k []) Ŵ) v else 0
 | 0=>rfl
 | Ê=>by rw[gO,t_ s sts k v x n];by_cases e:n=k;subst e;rw[Ć,ai aĔ,ak aİ,bQ];rw[É];by_cases h:k<n;rw[ak h,ak (by exact Lqj Û ϒ ϑ ϒ Lq1 h rfl)];change _+0=_;rw[bE];rw[Æ,ai (by exact LqNm (LqNk (LqNz h) e))];rfl
def fE.of (h:st∈sts):fE s p sts (look st):=by let⟨i,hi⟩:=aϊ;have hl:=eę;exact#[λj=>if j=i then bË else [],ķ];rw[t_,ak hl,bO,hi];change _=(look st (x - s*0)*1+0) % p;rw[dX,Int.sub_zero,dA,bE]
theorem fE.gO {s p:Int}{sts:ê}{sts':ê}(h: nŃ)(J:bΤ): ∀n,n<=sts.length ->fE s p sts' λx=>gī
 | 0,_=>fE.zero
 | n+1,hn=>by
  have hm:fε∈sts:=by rw[bO,ao fς];show cH _
  show(fE.gO h J n lϑ).add ((h _ hm).eQ (J n))
def fE.trans (hf:eϋ)(h: nŃ):fE s p sts' f:=by let⟨J,hJ⟩:=hf;show(fE.gO h J _ õ).ext hJ
theorem oP (s:Int)(A B:ê)(J:bΤ)(x:Int): ∀n,gO s (A++B) J x eύ=gO s A J x A.length+gO s B (λi=>J (A.length+i)) x n
 | 0 =>by
  have: ∀n,n<=A.length ->gO s (A++B) J x n=gO s A J x n:=λn=>by
   induction n with
   | zero=>intro _;rfl
   | succ n ih=>
    intro h;rw[gO,gO,ih (by exact Nat.le_of_lt h)];have e:dϐ n []=A.getD n []:=by rw[bO,bO,br eü]
    rw[e]
  rw[Nat.add_zero,fπ];change _=_+0;rw[bE]
 | Ê=>by
  have e:dϐ eύ []=B.getD n []:=by rw[bO,bO,a6 qÆ,Nat.add_sub_cancel_left]
  rw[<- Nat.add_assoc,gO,oP s A B J x n,gO,e,Int.add_assoc]
def Dq (p:Nat):Nat ->fh (ā)
 | 0=> [[]]
 | n+1=>kŝ λa:Nat=>mĳ
theorem mj {p:Nat}: ∀ {n:Nat} {v:ā},v∈aſ↔v.length=n /\ jŚ
 | 0,v=>by change v∈ [[]]↔_;rw[ae];symm;rintro rfl;show#[rfl,λa h=>by cases h];rintro⟨h,_⟩;show dy.mp h
 | n + 1,v=>by
  change v∈kŝ _↔_;rw[List.mem_flatMap];symm;rintro⟨a,ha,hv⟩;let⟨u,hu,rfl⟩:=ag.mp hv;let⟨h1,h2⟩:=mj.mp hu;have:=cI.mp ha;exact#[by rw[aT,h1],ŷ];obtain rfl | hb:=bŷ;show#[Ϲ, (by exact kÜ)];show h2 b hb;rintro⟨h1,h2⟩;cases v with
  | nil=>cases h1
  | cons a u=>have ha:=h2 a aQ;exact#[a.toNat,cϲ,ag.mpr #[u,mj.mpr #[gϵ,λb hb=>h2 b (aC _ hb)],?_]];rw[show((a.toNat:Nat):Int)=a by exact LqIx (LqIe (Int.toNat_of_nonneg ha.1)) Ϭ]
theorem vp (p:Nat): ∀n,(aſ).length=p ^ n
 | 0=>rfl
 | Ê=>by
  change(kŝ _).length=_;rw[List.length_flatMap];have:((eΚ).map λa:Nat=>(mĳ).length)=List.replicate p (p ^ n):=by exact List.eq_replicate_iff.mpr #[by simp,ŷ];let⟨a,_,rfl⟩:=bΦ;rw[ab,vp p n]
  rw[this,List.sum_replicate_nat,Nat.pow_succ,Nat.mul_comm]
theorem FI (p:Nat): ∀n,(aſ).Nodup
 | 0=>by change([[]]:fh (ā)).Nodup;simp
 | Ê=>by change(kŝ _).Nodup;rw[List.Nodup,List.pairwise_flatMap];exact#[λa _=> ?_,?_];rw[cz];show(FI p n).imp λh e=>h (List.cons.inj e).2;exact List.Pairwise.imp_of_mem (R:=(· ≠ ·)) (λ{a b} _ _ h=> ?_) List.nodup_range;intro v h1 v' h2 ev;let⟨u1,_,e1⟩:=ag.mp h1;let⟨u2,_,e2⟩:=ag.mp h2;rw[<- ev, <- e1] at e2;show h (by have:=(List.cons.inj e2).1;lia)
def JP {α:Type} [DecidableEq α]{ks:Ý}: ∀ {l:Ý},pù:=by
 induction ks with
 | nil=>intro l _ _;simp
 | cons k r ih=>
  intro l hn hs;rw[bN] at hn;have hk:k∈l:=hs k ś;have:=ih (l:=l.erase k) hn.2 λz hz=>by have hzk:z≠k:=iŃ;show pĊ
  rw[mÑ] at this;have:0<l.length:=lŜ;rw[aT];lia
def lc:ā ->gĮ ->Š
 | aÝ,g::gs,x=>v*g x+lc vs gs x
 | _,_,_=>0
def Tf (x:Int): ∀ (gs:gĮ) (v u:ā),iũ ->u.length=gs.length ->nϝ=cŋ - lc u gs x:=by
 intro gs;induction gs with
 | nil=>intro v u h1 h2;cases dy.mp h1;cases dy.mp h2;rfl
 | cons g gs ih=>
  intro v u h1 h2;cases v with
  | nil=>cases h1
  | cons a v=>
   cases u with
   | nil=>cases h2
   | cons b u=>change bÛ*g x+nϝ=a*g x+cŋ - (b*g x+lc u gs x);rw[ih v u (gϵ) (Nat.succ.inj h2),Int.sub_mul];exact LqIx (Lqi ř (.a Α eθ) (.s π eõ) ö ö LqI0 rfl) (Lqi ř (.s ι ν) (.a eε eώ) ö ö LqI0 rfl)
def Hv: ∀ {v u:ā},v.length=u.length ->(∀a∈lϒ,a % p=0) ->(jŚ) ->(∀a∈u,dϑ) ->v=u:=by
 intro v;induction v with
 | nil=>intro u h _ _ _;show(dy.mp h.symm).symm
 | cons a v ih=>
  intro u h hz hv hu;cases u with
  | nil=>cases h
  | cons b u=>
   have h1:=hz bÛ aQ;have h2:=ih hŉ (λc hc=>hz c cŌ) (λc hc=>hv c cŌ) (λc hc=>hu c cŌ);have ha:=hv a aQ;have hb:=hu b aQ;have e:a=b:=by have:=dL.mpr h1;rwa [dj ha.1 ha.2,dj hb.1 hb.2] at this
   rw[e,h2]
def Ut {p:Nat}(p2:2<=p){X:ā}(h: ∀v:ā,iũ ->(∀x∈X,cŋ % Ĩ=0) -> ∀a∈v,a % Ĩ=0):gs.length<=X.length:=by
 have p0:ě <p:= (by exact Lqi [_] Ϣ Lq0 ý Lq0 kë rfl);have key:((Dq p gs.length).map λv=>X.map λx=>cŋ % Ĩ).Nodup:=by rw[List.Nodup,cz];exact List.Pairwise.imp_of_mem (λ{v u} hv hu cS e=>cS ?_) (FI p gs.length);let⟨v1,v2⟩:=mj.mp hv;let⟨u1,u2⟩:=mj.mp hu;exact Hv (p:=p) (v1.trans u1.symm) (h _ (by rw[List.length_zipWith,v1,u1,Nat.min_self]) Ź) v2 u2;rw[Tf x gs v u v1 u1];show dL.mp (List.map_inj_left.mp e x hx)
 have:=JP (l:=Dq p X.length) key λk hk=>by let⟨v,_,rfl⟩:=ag.mp hk;exact mj.mpr #[by rw[ab],dϒ];let⟨x,_,rfl⟩:=ag.mp ha;show#[dD _ (by exact λe=>Lqf [_] gŵ Ϙ (LqIp bĨ (kë)) rfl),cY _ p0]
 rw[ab,vp,vp] at this;show(Nat.pow_le_pow_iff_right (by exact Lqj [_] ið Lq0 ý Lq0 p2 rfl)).mp this
def Q5 (s:Int)(b:Pt):Int ->Nat ->gĮ
 | _,0=> []
 | lo,n+1=>(λx=>iÄ)::g϶
def F5:Int ->ā ->Pt
 | _,[]=> []
 | lo,a::v=>jÍ
theorem tH (s:Int)(b:Pt): ∀ (n:Nat) (lo:Int),(dϔ).length=n
 | 0,_=>rfl
 | n+1,lo=>by change(g϶).length+1=_;rw[tH s b n]
theorem J1 (s:Int)(b:Pt)(x:Int): ∀ (v:ā) (n:Nat) (lo:Int),v.length=n ->lc v (dϔ) x=eQ lŨ (F5 lo v)
 | [],_,lo,rfl=>rfl
 | a::v,_,lo,rfl=>by change a*iÄ+lc v (Q5 s b aγ v.length) x=_;rw[J1 s b x v _ aγ rfl];have e:F5 lo (a::v)=jÍ:=rfl;rw[e,cP,bU]
theorem yq: ∀ (v:ā) (lo:Int), ∀z∈F5 lo v,lo<=z.1 /\ z.1<lo+v.length
 | [],_,z,h=>by cases h
 | a::v,lo,z,h=>by rw[aT];obtain rfl | h:=aϠ;show#[Ð,by change lo<lo+_;push_cast;exact Lqi Û ϒ ϱ ö Lq1 ϭ rfl];have:=yq v aγ z h;push_cast;exact ⟨i϶,Lqi Ĝ ϒ ϰ ϒ lÏ ú rfl⟩
theorem Ae {p:Int}: ∀ (v:ā) (lo:Int),(∀y,dM (F5 lo v) y % p=0) -> hŊ
 | [],_,_,a,h=>by cases h
 | b ::v,lo,ht,a,h=>by
  have e: ∀y,dM (F5 lo (b::v)) y=(if lo=y then b else 0)+dM (dϓ) y:=λy=>rfl;have h0:dM (dϓ) lo=0:=sT λq hq e=>by have:=yq v aγ q hq;exact Lqf Û ϱ ο kŞ rfl
  obtain rfl | h:=aϠ;have:=ht lo;rwa [e,Ć,h0,bE] at this;exact Ae v aγ (λy=> ?_) a h;by_cases z:lo=y;rw[<- z,h0];rfl;have:=ht y;rwa [e,Ö,bQ] at this
theorem J6 (x:Int): ∀ (v1:ā) (g1:gĮ) (v2:ā) (g2:gĮ),v1.length=g1.length ->kş=lc v1 g1 x+lc v2 g2 x
 | [],[],v2,g2,_=>by change lc v2 g2 x=0+_;rw[bQ]
 | a::v1,g::g1,v2,g2,h=>by change a*g x+kş=a*g x+lc v1 g1 x+_;rw[J6 x v1 g1 v2 g2 hŉ,Int.add_assoc]
def Rh (s:Int)(G:iÅ):gĮ:=G.flatMap λg=>jś
theorem Fu (s:Int): ∀G:iÅ,gϷ=(G.map λg=>aï).sum
 | []=>rfl
 | g::G=>by change(mĴ).length=_;rw[aO,tH,Fu s G];rfl
theorem J5 {p:Int}(s:Int): ∀ (G:iÅ) (v:ā),v.length=gϷ -> ∃J:bΤ,d6 (∀x,gϸ=gO s (eϐ) J x G.length) (∀i g,G[i]? =aĈ -> ∀z∈J i,g.2.1<=z.1 /\ z.1<g.2.1+aï) ((∀i,i<G.length -> kì) -> hŊ)
 | [],v,h=>by cases dy.mp h;show#[bΥ,λx=>rfl,λi g h=>by simp at h,λ_ a h=>by cases h]
 | g ::G,v,h=>by
  have e:Rh s (g::G)=mĴ:=rfl;rw[e,aO,tH] at h;let⟨J,h1,h2,h3⟩:=J5 (p:=p) s G (v.drop aï) (by rw[List.length_drop,h];exact rĔ);have l1:(v.take aï).length=aï:=by rw[bv,h];lia
  exact#[pť,ķ,λi u hu z hz=> ?_,λhz a ha=> ?_];have hc:=oP s [g.1] (eϐ) (pť) x G.length;have e3:(λi=>(λi:Nat=>match i with | 0=>kϪ | i+1=>J i) (eϑ+i))=J:=by funext i;change(match 1+i with | 0=>_ | i+1=>J i)=_;rw[Nat.add_comm]
  rw[e3] at hc;rw[e, <- bA aï v,J6 x _ _ _ _ (by rw[l1,tH]),bA,J1 s g.1 x _ _ _ l1,h1 x,aT,Nat.add_comm];change _=gO s ([g.1]++eϐ) _ x (eϑ+G.length);rw[hc];change _=0+eQ (λsh=>look ([g.1].getD 0 []) Ŵ) (kϪ)+_;rw[bQ];rfl;cases i with
  | zero=>cases (show g=u from by simpa using hu);have:=yq _ _ z hz;rw[l1] at this;show this
  | succ i=>show h2 i u ⇑hu z hz
  rw[<- bA aï v] at ha;obtain ha | ha:=bΧ;show Ae _ _ (hz 0 (Nat.succ_pos _)) a ha;show h3 (λi hi=>hz ß (by rw[aT];exact Lqj Û ϵ ϑ ϒ Lq1 hi rfl)) a ha
def xS (s p:Int)(bs:ê):Prop:= ∀J:bΤ,(∀x,kí % p=0) -> ∀i,dμ -> kì
def v0 (s p:Int)(sts:ê)(D:Int):Prop:= ∀ (i j:Nat) st bG c len,i<j ->ϟ ->hŇ ->Sr s p bG c len D -> ∀x,œ ->cŉ≠0 ->kϤ
def mU {sts:ê}(h:ϟ):fθ=st:=by rw[bO,h];rfl
theorem Eb {s:Int}{bs:ê}{J:bΤ}{x:Int}: ∀n,(∀i,i<n -> ∀z∈J i,look (eϒ) dϕ=0) ->gO s bs J x n=0
 | 0,_=>rfl
 | n+1,h=>by rw[gO,Eb n λi hi=>h i (by exact Lqj Û ϒ ϑ ϒ Lq1 hi rfl),fQ λz hz=>h n lÈ z hz];rfl
def vf {w h an:Nat}(hp:ϴ)(s0:0<s)(gK:Γ)(trim:an=0 \/ eϓ)(KQ:jŜ)(ind:cō)(jm: mŬ)(hw: pϓ)(ht:t∈sts)(hh:2*w<=h)(hLm: ∀st∈sts,Ī<=Lm)(hLh:Lm<=h)(a0:0<=alo)(a1:alo+an+Lm<=h)(out: ∀js:Pt,(∀z∈js,kŠ) ->(∀x,¬(kî) ->eQ lū js % p=0) -> ∀y,dώ=0): pξ<=eϔ:=by
 have p0:0<p:= ∅;have sn:í:= qŕ;have nX: ∀ (i:Nat) st,ϟ ->nÌ:=λi st hi=>by let⟨c,len,sr,_⟩:=gϺ;rw[sr.yV,sr.sV];show sr
 let G:iÅ:=qŲ
 let X:ā:=sts.flatMap λst=>oϳ
 have hX:X.length=eϔ:=by change(sts.flatMap _).length=_;rw[List.length_flatMap];have:(sts.map λst=>(oϳ).length)=List.replicate sts.length h:=List.eq_replicate_iff.mpr #[by simp,λb hb=>by let⟨a,_,rfl⟩:=bΦ;simp];rw[this,List.sum_replicate_nat]
 have hG:gϷ=pξ:=by rw[Fu];change((qŲ).map kϫ).sum=_;rw[aR,List.sum_append,aX,List.sum_cons,aJ,aJ];have:(bs.map ((kϫ) ∘ lĝ))=List.replicate bs.length (bÞ):=List.eq_replicate_iff.mpr #[by simp,λb hb=>by let⟨a,_,rfl⟩:=bΦ;rfl];rw[this,List.sum_replicate_nat,KQ,Nat.add_assoc];rfl
 rw[<- hG, <- hX];let⟨P,hP⟩: ∃P:Nat,(P:Int)=p:=#[p.toNat, (by exact LqIx (LqIe (Int.toNat_of_nonneg (Int.le_of_lt p0))) Ϭ)]
 exact Ut (p:=P) ∅ λv hv hz=> ?_;rw[hP] at hz ⊢;let⟨J,e1,e2,e3⟩:=J5 (p:=p) s G v hv;have GB:eϐ=bs++(t::mĵ):=by change(qŲ).map ć=_;rw[aR,aX,aJ,aJ];congr 1;show List.map_id _
 have GL:G.length=bs.length+(1+sts.length):=by change(qŲ).length=_;rw[aO,ab,aT,ab];exact LqNx (Lqj Û ϱ lĞ ö ö LqN0 rfl) (Lqj Û lĞ ϱ ö ö LqN0 rfl)
 let C:Š:=λx=>gO s (mĵ) (λi=>jÎ) x sts.length
 let B:Š:=λx=>eQ lū fυ
 let U:Š:=λx=>kí
 have eJ: ∀x,gϸ=U x+(B x+C x):=λx=>by rw[e1,GB,GL,oP];have:=oP s [t] (mĵ) kš x sts.length;change U x+gO s ([t]++mĵ) kš x ([t].length+sts.length)=_;rw[this];change U x+(0+eQ lū iÇ+C x)=_;rw[bQ,Nat.add_zero]
 have kU: ∀i,dμ -> ∀z∈J i,bÝ <=z.1 /\ z.1< bÝ+((bÞ:Nat):Int):=λi hi z qO=>by have:=e2 i (bs[i],bÝ,bÞ) (by change fχ[i]? =_;rw[bĸ,aE,ao hi];rfl) z qO;show this
 have kB: ∀z∈dϖ,kŠ:=λz qO=>by have:=e2 bs.length (t,alo,an) (by change fχ[bs.length]? =_;rw[a6 ś];simp) z qO;show this
 have kC: ∀i st,ϟ -> ∀z∈jÎ,0<=z.1 /\ z.1<Ī:=λi st hi z qO=>by have:=e2 iÆ nń (by change fχ[_]? =_;rw[a6 ś,ab,Nat.add_sub_cancel_left,Nat.add_comm,List.getElem?_cons_succ,aE,hi];rfl) z qO;have h2:=(cϸ).l0;exact#[ü,?_];have h3:=ú;simp![bQ] at h3;lia
 have zU: ∀x,¬(kî) ->U x=0:=λx hx=>Eb _ λi hi z qO=>aB λcS=>hx (by
  have hb:eϒ∈bs:=by rw[mU bÜ];show cH _
  have h1:=hw _ hb _ cS;rw[l3 sn] at h1;have h2:=kU i hi z qO;lia)
 have single: ∀ (c x:Int),look [(c,1)] x≠0 ->x=c:=λc x cS=>aB λhn=>cS pġ;have atC: ∀x i st,ϟ ->Ď=ĩ ->C x % p=eQ (λsh=>look fτ Ŵ) (jÎ) % p:=λx i st hi hx=>by
  have hl:=eę;have h1:=yc (s:=s) (p:=p) (sts:=mĵ) (J:=λi=>jÎ) (x:=x) (i:=i) sts.length hl λj hj Yy=>by
   have jW:sts[j]? =some sts[j]:=ao hj;rw[mU (st:= [(cF s sts[j],1)]) (by rw[aE,jW];rfl)];rw[fQ λz qO=>aB λcS=> ?_];rfl;have h2:=fψ;have h3:bI s dϕ=cF s sts[j]:=by rw[h2];show(nX j _ jW).ok.own
   rw[iS,hx] at h3;obtain q | q:=eM i j;have:=gK.z8 i j st _ _ _ _ _ q hi jW eϕ (nX j _ jW);exact Lqf Û ϱ ο (LqIp cŎ this) rfl;have:=gK.z8 j i _ st _ _ _ _ (by exact LqNk q Yy) jW hi (nX j _ jW) eϕ;exact Lqf Û ϱ ο (LqIp cŏ this) rfl
  have e4:(sts.map λst=> [(ĩ,aϢ)]).getD i []= fτ:=mU (by rw[aE,hi];rfl);rw[e4] at h1;show h1
 have dlt: ∀ (c x:Int) (js:Pt),eQ (λsh=>look [(c,1)] Ŵ) js=eQ (λsh=>if bΖ=c then 1 else 0) js:=λc x js=>by congr 1;funext sh;by_cases e:bΖ=c;rw[È,e];show Ć;rw[É];show fJ λq hq e'=>e (by rw[bŨ] at e';show e'.symm)
 have Zo : ∀i st,ϟ -> ∀x,Ď=ĩ ->(U x+B x+C x) % p=0:=λi st hi x hx=>by
  by_cases hr:kî;have:x∈X:=List.mem_flatMap.mpr #[st,au hi,ag.mpr #[gį,cϲ,by rw[show((gį:Nat):Int)=Đ by exact LqIx (LqIe (Int.toNat_of_nonneg hr.1)) Ϭ];show(qW lϓ hx).symm]];have:=hz x this;rwa [eJ, <- Int.add_assoc] at this;have hb:B x=0:=fQ λz qO=>aB λcS=>hr (by
    have h2:=kB z qO;let⟨k,hk⟩:=cr.mp ht;have hc:bI s dϕ=ĩ:=by rw[iS];show hx
    have h3:0<=hŋ /\ hŋ <=Lm:=by obtain an0 | trim:=trim;exfalso;exact Lqf Ĝ nĵ (.a Lq1 lË) (LqIp h2.1 (LqIp h2.2 ((Int.ofNat_le.mpr (LqNe an0))))) rfl;obtain q | q | q:=Nat.lt_trichotomy k i;have:=trim k i t st _ _ q hk hi eϕ _ hc cS;have:=hLm st (au hi);lia;subst q;rw[hk] at hi;cases hi;have:=(cŐ).tE _ (e9 cS) hc;have:=hLm t ht;lia;have h5:=gK.z8 i k st t _ _ _ _ q hi hk eϕ (cŐ);have:=(cŐ).ge _ (e9 cS);lia
    rw[l3 sn] at h3;exact ⟨Lqi Ĝ ö Lq0 (.a ö gŴ) (.a Lq1 (.a Lq2 eε)) (LqIp a0 (LqIp h2.1 h3.1)) rfl,Lqi Κ ϒ Lq1 (.a jο (.a gϻ (.s Lq0 Lq5))) (.a Lq1 jο) (LqIp a1 (LqIp h2.2 h3.2)) rfl⟩)
  have hc:C x % p=0:=by
   rw[hŌ,fQ λz qO=>aB λcS=>hr ?_];rfl;have h2:=fψ;have h3:hŋ=0:=by rw[h2];show iŪ
   rw[l3 sn] at h3;have:=kC i st hi z qO;have:=hLm st (au hi);lia
  rw[zU x hr,hb,bu,hc];rfl
 have hUB:fE s p sts λx=>U x+B x:=(jÏ).add ((fE.of ht).eQ _);have hzero: ∀x,(U x+B x) % p=0:=by
  let⟨J',hJ'⟩:=hUB;intro x;rw[hJ'];exact Ea hp lϓ gK hJ' (λi st c len hi sr x hx cS=> ?_) x;have e5:=sr.uniq eϕ;rw[e5.1] at hx;have h0:=Zo i st hi x hx;have Vo:C x % p≠0:=λe=>cS (by rw[bu,e,bE,cU] at h0;show h0);rw[hŌ,dlt] at Vo;have: ∃z∈jÎ,x - s*z.1=ĩ:=aB λhn=>Vo (by rw[fQ λz qO=>ai λe=>hn #[z,qO,e]];rfl);let⟨z,Va,X4⟩:=this;have h3:hŋ=0:=by rw[X4];show iŪ
  rw[l3 sn] at h3;have:=kC i st hi z Va;rw[e5.2];show#[(by exact Lqi Û ö Lq0 ϣ kÇ (LqIp cŎ ü) rfl), (by exact Lqi Ĝ ϒ Lq1 (.a eε ϓ) gΖ (LqIp cŏ ú) rfl)]
 have hB0: ∀y,kŢ=0:=out _ kB λx hx=>by have h1:=hzero x;rw[zU x hx,bQ] at h1;show h1
 have hBx: ∀x,B x % p=0:=λx=>me _ _ _ õ hB0;have hU0:=ind J λx=>by have h1:=hzero x;rw[bu,hBx,bE,cU] at h1;show h1
 exact e3 λi hi y=> ?_;rw[GL] at hi;obtain q | q | q:=Nat.lt_trichotomy i bs.length;show hU0 i q y;rw[q];show hB0 y;let⟨k,rfl⟩: ∃k,i=bs.length+(1+k):=#[i - bs.length - 1, ∅]
 have hk:sts[k]? =some sts[k]:=ao (by exact Lqj Ĝ ϒ Lq1 (.a (.a Lq2 hÀ) ñ) (.a Lq2 gů) hi rfl);have hx:bI s (dϗ+y*s)=dϗ:=(nX k _ hk).ok.on y;have h0:=Zo k _ hk _ hx;rw[bu,hzero,bQ,cU,atC _ k _ hk hx,dlt] at h0;have e6:(λsh=>if kţ=dϗ then aϢ else 0)=nË:=by
  funext sh;have e7:kţ=dϗ+(až)*s:=by rw[Int.sub_mul,bU s sh];exact rĆ
  by_cases z:až=0;rw[Ô,e7,z,ak (by exact LqIx (Lqi Û jÐ Lq0 ö ö LqI0 rfl) (Lqi Û Lq0 jÐ ö ö LqI0 rfl))];rw[Ö,e7,ai];intro e8;have:(až)*s=0:= (by exact LqIx (Lqi Û Lq0 ö ο Lq1 (LqIe e8) rfl) (Lqi Û ö Lq0 Lq1 ο (LqId e8) rfl));obtain h9 | h9:=Int.mul_eq_zero.mp this;show z h9;show sn h9
 rw[e6,y_] at h0;show h0
def v7.of (gK:Γ)(h:st∈sts):nÌ:=by let⟨i,hi⟩:=aϊ;let⟨c,len,sr,_⟩:=gϺ;rw[sr.yV,sr.sV];show sr
theorem BZ {α:Type}{f:α ->Nat}: ∀ {l:Ý} {a:α},a∈l ->f a<=(bÅ).sum
 | b::l,a,h=>by rw[aX,List.sum_cons];obtain rfl | h:=aϠ;exact pŞ;have:=BZ (f:=f) h;exact Lqj Ĝ Lq0 ξ ϖ τ mŭ rfl
def uy (hh:2*w<=h)(e:m*(bÞ)+a<=m*h):a<=2*m*w:=by
 have:m*(bÞ)+m*(2*w)=m*h:=by rw[<- Nat.mul_add];congr 1;exact LqNx (LqNt hh) LqNs
 have e2:m*(2*w)=2*m*w:=by rw[Nat.mul_left_comm,Nat.mul_assoc]
 lia
def EJ {w:Nat}(hp:ϴ)(s0:0<s)(gK:Γ)(KQ:jŜ)(ind:cō)(jm: mŬ)(hw: pϓ): nΑ<=gİ:=by
 cases hs:sts with
 | nil=>show dg _
 | cons t r=>
  rw[<- hs];have ht:t∈sts:=by rw[hs];show aQ
  have hL: qÉ:=λst h=>by have:=nÍ;have:=eϖ;lia
  have:=vf (t:=t) (w:=w) (h:=2*w+nΑ) (an:=0) (alo:=0) (Lm:=oϴ) hp s0 gK ũ KQ ind jm hw ht qĤ hL (by push_cast;exact Lqi Û Lq0 jÒ ϣ eê pĿ rfl) đ (by push_cast;exact Lqi Û Ϙ jÒ ϣ eê pĿ rfl) λjs hk _ y=>by
   have:js= []:=by
    cases js with
    | nil=>rfl
    | cons z r=>have:=hk z aQ;simp at this;lia
   rw[this];rfl
  rw[Nat.add_zero] at this;show uy qĤ this
def IZ {w:Nat}(hp:ϴ)(s0:0<s)(gK:Γ)(trim:eϓ)(KQ:jŜ)(ind:cō)(jm: mŬ)(hw: pϓ)(ht:t∈sts)(hx:look t x≠0): -lϔ <=Đ /\ Đ<=lϔ:=by
 have sn:í:= qŕ;have p0:0<p:= ∅;have hL: qÉ:=λst h=>by have:=nÍ;have:=eϖ;lia
 have gt:=iG (gK.of ht).pat;have cS:kK s bθ (du t)≠ []:=λe=>by have:=kg (e9 hx) (rfl:Ď=Ď);rw[e] at this;cases this
 let⟨ma,mb⟩:=kY cS;let⟨la,lb⟩:=fK cS;generalize wZ _=H at ma mb;generalize fF _=B at la lb;have hxH:=mb _ hō;have hxB:=lb _ hō;let⟨mh,mc⟩:=zh lϓ ma;let⟨lh,lc'⟩:=zh lϓ la;have ND:kJ s bθ:=zc lϓ;have Nx: ∀k,H<k ->kð:=λk hk=>aB λhn=>by have:=mb _ kŤ;rw[bΩ] at this;exact pϸ
 have aa3: ∀k,k<B ->kð:=λk hk=>aB λhn=>by have:=lb _ kŤ;rw[bΩ] at this;exact pϸ
 have hmul: ∀a b:Int,Ď+a*s - s*b=Ď+bÛ*s:=λa b=>by rw[Int.sub_mul,bU s b];exact rĆ
 have S:=EJ hp s0 gK KQ ind jm hw;have zS: ∀js:Pt,(∃y,gϭ) ->pľ≠ []:=(by rintro js ⟨y,hy⟩ e;exact by have:pŶ:=oſ;rw[e] at this;cases this)
 have Kf: ∀ (js:Pt) y,gϭ ->pŶ:=λjs y hy=>oſ;generalize hΛ:nΑ=Λ at hL S;symm;obtain hb | hb:=eN B 0;have :=vf (t:=t) (w:=w) (h:=(-B).toNat+Λ+2*w) (an:=(-B).toNat) (alo:=0) (Lm:=bϊ) hp s0 gK dϘ KQ ind jm hw ht rÖ hL (by push_cast;exact Lqi Ĝ Lq0 (.a ο cϹ) mΑ (.a Lq1 eİ) (LqIp ϭ pĿ) rfl) đ (by push_cast;exact Lqi Ĝ (.a Ϙ Lq1) mĶ ϣ eİ pĿ rfl) λjs hk hz y=>by
  exact eΦ;let⟨k1,k2⟩:=fK hÁ;generalize fF _=k at k1 k2;have hk0:gϯ:= iÈ;let⟨z,Va,X4⟩:=iū;have hkr:=hk z Va;rw[X4] at hkr;have h1:=hz (Ď+(B+k)*s) (by rw[bΩ];lia);rw[kť,hmul,show B+k - k=B by exact qϺ] at h1;have hv:=fB gt lh;show lğ;rw[hmul];obtain h | h:=eN y' k;have:gı:=aB λh2=>by have:=iŬ;exact pϯ
  rw[cJ,this,dX];rfl;rw[aa3 _ (by exact Lqi Ĝ (.a ké ñ) Lq0 ϑ Lq2 (LqIk h (Ne.symm ne)) rfl),bP];rfl
 rw[hΛ,Nat.add_assoc] at this;have:=uy rÖ this;lia;exact Lqi Ĝ Ņ Lq1 mâ jϹ (LqIp hxB (LqIp hb (ϭ))) rfl;obtain hb | hb:=eN bϊ H;have :=vf (t:=t) (w:=w) (h:=H.toNat+2*w) (an:=(H - Λ).toNat) (alo:=2*w) (Lm:=bϊ) hp s0 gK dϘ KQ ind jm hw ht qĥ hL (by push_cast;exact Lqi ř Lq0 jÔ (.a ϒ (.a ö hÂ)) (.a Lq3 (.a Lq2 τ)) (LqIp hb (LqIp ϭ (LqIp ϭ (Ϭ)))) rfl) (by exact Lqi [_] ö cŬ ϣ eϘ pĿ rfl) (by push_cast;exact Lqi ŵ (.a jÑ Lq2) (.a Lq3 cŬ) eú (.a (.s Lq4 Lq2) Lq3) (LqIp (LqIe (Int.toNat_of_nonneg (Lqi Û ö Α ϑ Lq0 hb rfl))) (Ϭ)) rfl) λjs hk hz y=>by
  exact eΦ;let⟨k1,k2⟩:=kY hÁ;generalize wZ _=k at k1 k2;have hk0:gϯ:= iÈ;let⟨z,Va,X4⟩:=iū;have hkr:=hk z Va;rw[X4] at hkr;have h1:=hz (Ď+(H+k)*s) (by rw[bΩ];push_cast;lia);rw[kť,hmul,show H+k - k=H by exact qϺ] at h1;have hv:=fB gt mh;show lğ;rw[hmul];obtain h | h:=eN k y';have:gı:=aB λh2=>by have:=iŬ;exact pϯ
  rw[cJ,this,dX];rfl;rw[Nx _ (by exact Lqi Ĝ ϒ ké ϓ Lq1 (LqIk h ne) rfl),bP];rfl
 rw[hΛ,Nat.add_assoc] at this;have:=uy qĥ this;lia;exact Int.le_trans hxH (Int.le_trans hb (Int.ofNat_le.mpr S))
def K3 (hp:ϴ)(s0:Ò)(gK:Γ)(h:fE s p sts A)(hz: ∀x,Ď<c ->A x % p=0)(hx: ∃x,œ /\ A x % p≠0):iŭ:=by
 let⟨J,hJ⟩:=h;let⟨x0,hx0,cS⟩:=hx;exact aB λhc=>cS ?_;have get: oγ:=λi st h=>mU h;have sr: ∀i (hi:eΩ),Sr s p aδ (dϙ) (eC s aδ) D:=λi hi=>gK.of (cH _);have later: ∀i j (hi:eΩ) (hj:j<sts.length),i<j -> ∀x,Ď<=dϙ ->eQ (λsh=>look sts[j] Ŵ) (J j)=0:=λi j hi hj iR x hx=>fQ λz _=>aB λhn=>by have h1:=(sr j hj).ge _ bÚ;rw[iS] at h1;have:=gK.z8 i j _ _ _ _ _ _ iR bÜ aϮ cő (sr j hj);exact Lqf Ĝ (.a Lq0 ϰ) jι (LqIp hx (LqIp h1 this)) rfl
 have key: ∀ (i:Nat) (hi:eΩ),dϙ <c -> ∀x,eQ (λsh=>look aδ Ŵ) aî % p=0:=λi=>by
  induction i using Nat.strongRecOn with
  | ind i ih=>intro hi f7 x;exact Fy hp s0 cő (λx hx hn=> ?_) x;exfalso;exact hn ?_;have h1:=hz x oš;rw[hJ,mū,gϲ] at h1;show h1;rw[gϳ];obtain q | q:=aŵ;have:=gK.z8 j i _ _ _ _ _ _ q aϮ bÜ (sr j hj) cő;show ih j q hj (by exact Int.lt_trans this f7) x;rw[later i j hi hj (by exact LqNk q eϊ) x (by exact LqIe hx)];rfl
 rw[hJ];have : ∀ m,fξ ->gO s sts J x0 m % p=0:=λm=>by
  induction m with
  | zero=>intro _;show gϫ
  | succ m ih=>
   intro hm;have Oq:m<sts.length:= fο;rw[gO,bu,mŪ,get m _ (ao Oq)];have h2:eQ (λsh=>look sts[m] (x0 - s*sh)) (J m) % p=0:=by obtain q | q | q:=Int.lt_trichotomy (cF s sts[m]) c;show key m Oq q x0;show absurd (ag.mpr #[_,cH Oq,q]) hc;rw[fQ λz _=>aB λhn=>by have h1:=(sr m Oq).ge _ bÚ;rw[iS] at h1;exact Lqf Ĝ nĵ jϹ (LqIp (LqIe hx0) (LqIp q h1)) rfl];rfl
   rw[h2];rfl
 show fπ
theorem tJ (F G:Š): ∀js:Pt,eQ (λt=>F t+G t) js=eQ F js+eQ G js
 | []=>rfl
 | Ñ=>by rw[cP,cP,cP,tJ F G r,Int.add_mul];exact rĝ
theorem Fv (F:Š)(k:Int): ∀js:Pt,eQ (λt=>F t*k) js=eQ F js*k
 | []=>by change dϊ;simp
 | Ñ=>by rw[cP,cP,Fv F k r,Int.add_mul];congr 1;rw[Int.mul_assoc,Int.mul_assoc,bU k]
theorem Bg (f:Š)(s x:Int)(q:Pt): ∀a:Pt,eQ (λsh=>eQ (λt=>f hŎ) q) a=eQ (λt=>eQ lϕ a) q
 | []=>by rw[show(λt:Int=>eQ lϕ [])=ať from rfl,Fw];rfl
 | Ñ=>by have e:(λt=>eQ lϕ aŻ)=λt=>f (x - s*t - s*z.1)*z.2+eQ lϕ r:=rfl;rw[cP,Bg f s x q r,e,tJ,Fv];congr 2;congr 1;funext t;congr 1;exact LqIx qę qę
theorem Fx {p:Int}{F G:Š}(h: ∀t,F t % p=G t % p): ∀js:Pt,eQ F js % p=eQ G js % p
 | []=>rfl
 | Ñ=>by rw[cP,cP,bu,Fx h r,cJ,h, <- cJ, <- bu]
def C2 (hp:ϴ)(s0:0<s)(gK:Γ)(ML:v7 s p sts' D')(ind:cō)(jm: mŬ)(df:sts.length<sts'.length)(hq: ∀st∈sts', ∃q:Pt,fE s p sts λx=>cŉ - eQ lŬ q):xS s p (bs++ [P]):=by
 have sn:í:= qŕ;intro J hJ;have vR: ∀x,(kí+oŢ) % p=0:=λx=>by
  have h1:=hJ x;rw[aO,bW,oP s bs [P] J x 1] at h1;have e:gO s [P] kš x 1=oŢ:=by change 0+eQ (λsh=>look ([P].getD 0 []) Ŵ) iÇ=_;rw[bQ];rfl
  rw[e] at h1;show h1
 have a0 : ∀ y,kŢ=0:=by
  intro y;exact eΦ;have hP:fE s p sts λx=>oŢ:=by exact((jÏ).mul Ï).ext ķ;have h1:=vR x;exact dL.mpr ?_;rw[<- h1];congr 1;lia
  have hA: ∀st∈sts',fE s p sts λx=>eQ lϐ fυ:=λst gD=>by let⟨q,hq⟩:=hq st gD;exact((hq.eQ fυ).add (hP.eQ q)).ext ķ;rw[<- Bg (look P) s x q fυ, <- tJ];congr 2;funext sh;exact qϹ
  have cS:qô≠ []:=λe=>by have:y∈qô:=oſ;rw[e] at this;cases this
  let⟨k1,k2⟩:=kY cS;generalize wZ _=m at k1 k2;have hm:dM fυ m % p≠0:= iÈ;have YL: ∀c∈hÃ,iŭ:=λc hc=>by
   let⟨st,gD,rfl⟩:=bϋ;have sr:=ML.of gD;have hmul: ∀a b:Int,ĩ+a*s - s*b=ĩ+bÛ*s:=λa b=>by rw[Int.sub_mul,bU s b];exact rĆ
   exact K3 hp lϓ gK (hA st gD) (Ź) #[ĩ+(Ī+m)*s,cϷ,?_];rw[fQ λz _=>aB λhn=>by have h1:=sr.ge _ bÚ;rw[iS] at h1;exact Lqf Û ϳ ο (LqIp hx h1) rfl];rfl;rw [vi _ fυ m eϗ,hmul,show Ī+m - m=Ī by exact qϺ,sr.top,Int.one_mul];show hm;rw [hmul];obtain h | h:=eN m y';have:dM fυ y' % p=0:=aB λh2=>by have:=k2 y' (aL.mpr #[mB λe0=>h2 gϮ,cc h2]);exact pϯ
   rw[cJ,this,dX];rfl;rw[sr.out sn ∅,bP];rfl
  have nd:(hÃ).Nodup:=by rw[List.Nodup,cz,bM];intro i j hi hj iR e;have:=ML.z8 i j _ _ _ _ _ _ iR bÜ aϮ gĲ gĲ;exact Lqf Û ϱ ο (LqIp Ŏ this) rfl
  have:=hV nd YL;rw[ab,ab] at this;exact Lqg Û ϳ ο (LqNp df this) rfl
 intro i hi y;rw[aO,bW] at hi;obtain q | q:=eM i bs.length;exact ind J (ķ) i q y;have h1:=vR x;rw[bu,me _ _ _ õ a0,bE,cU] at h1;show h1;rw[show i=bs.length by exact LqNx (Lqj Û Lq0 Lq1 ϒ ϑ hi rfl) q];show a0 y
def qp (s Z l h:Int)(a:Pt):Prop:=(∀x,eϙ -> -l<=Đ /\ Đ<=h) /\ (s=0 ->Wt Z a)
def qZ (s l h:Int)(P:Pq):Prop:= ∀w x,jË -> -l<=x /\ x<=h
theorem qp.up (x:eϚ)(hl:l<=l')(hh:h<=h'):qp s Z l' h' a:=#[λy hy=>by have:=x.1 y hy;exact qΖ,x.2]
theorem qZ.up (x:cϺ)(hl:l<=l')(hh:h<=h'):qZ s l' h' P:=λw y hy=>by have:=x w y hy;exact qΖ
theorem pR (x:Int):hI 0 x=0:=Ć
theorem qp.wt (x:eϚ)(s0:Ò)(s8:s<=8)(z0:0<=Z)(hl:l<=E)(hh:h<=E)(e0:0<=E):Wt (Z+8*(E+1)) a:=λy hy=>by by_cases z:s=0;have:=x.2 z y hy;lia;have h1:=x.1 y hy;have h2:=C_ (s:=s) (x:=y) mϏ;have h3:=bg (show hI s y<=E by exact Int.le_trans h1.2 hh) s0;have h4:=bg (show -E<=hI s y by exact Lqi Ĝ Ņ Lq1 hϹ ι (LqIp hl Õ) rfl) s0;have h5:=a5 s8 e0;rw[Int.mul_neg] at h4;exact ⟨Lqi ŵ (.g (.a Lq0 (.m 8 ϑ))) Lq2 (.a ö (.a Lq3 (.a (.g Lq4) Lq4))) (.a Lq0 (.a Lq2 (.a Lq3 (.m 8 Lq1)))) (LqIp z0 (LqIp h2.2 (LqIp h4 h5))) rfl,Lqi Κ Lq0 (.a Lq1 (.m 8 ϓ)) (.a Lq3 (.a ö (.a (.a eζ ñ) eæ))) (.a Ē (.a Lq1 (.a Lq4 (.a Lq5 (.m 8 Lq2))))) (LqIp s8 (LqIp z0 (LqIp h2.1 (LqIp h3 h5)))) rfl⟩
theorem qZ.wt (x:cϺ)(nd:jŎ)(hl:l<=E)(hh:h<=E): ∀t∈P,Wt E ì:=λt ht y hy=>by rw[<- qE nd ht] at hy;have:=x t.1 y hy;exact qΖ
def qp.cut {js:Pt}(ha:eϚ)(Vq:qp s Z lb hb b)(ec: pΔ)(hj: mϐ)(Mc:kř)(hl:l<=l')(TU:lb+jl<=l')(hh:h<=h')(hh2:hb+jh<=h'):qp s Z l' h' c:=by
 have one: ∀x,eΜ ->eϙ \/ nč:=λx hx=>by by_cases z:ō=0;exact .inr (aB λhn=>hx ?_);rw[ec,z,nŅ];rfl;show .inl z
 exact mķ;obtain q | ⟨j,jW,q⟩:=bό;have:=ha.1 x q;exact qΖ;have h1:=Vq.1 _ q;have h2:=bß;by_cases z:s=0;have h3:=Mc z j jW;rw[z,pR] at h1 ⊢;exact ⟨Lqi ř Ņ ö (.a ξ (.a Œ (.a bĺ Lq3))) (.a Lq0 mã) (LqIp TU (LqIp Õ (LqIp h2.1 (cŏ)))) rfl,Lqi ř ö Lq0 (.a ξ mã) mϑ (LqIp hh2 (LqIp h1.2 (LqIp h2.2 (cŎ)))) rfl⟩;rw[l3 z] at h1;exact rİ;obtain q | ⟨j,jW,q⟩:=bό;show ha.2 z x q;have:=Vq.2 z _ q;rw[z,bP,Int.sub_zero] at this;show this
theorem qZ.cut {js:Pt}(ha:cϺ)(Vq:qZ s lb hb Q)(ec: qģ)(hj: mϐ)(hl:l<=l')(TU:lb+jl<=l')(hh:h<=h')(hh2:hb+jh<=h'):qZ s l' h' P':=λw x hx=>by by_cases z:gϥ=0;have: ∃j∈js,look bΘ (x - j.1)≠0:=aB λhn=>hx pĔ;let⟨j,jW,q⟩:=this;have h1:=Vq w _ q;have h2:=bß;exact rİ;have:=ha w x z;exact qΖ
def qp.stood (ha:eϚ)(eb: nω)(hm:s=0 ->m=0):qp s Z (l+m) (h - m) b:=by have one: ∀x,eΙ ->look a bØ≠0:=λx hx e=>kϬ;exact mķ;have h1:=ha.1 _ (bό);by_cases z:s=0;have h2:=hm z;rw[z,pR] at h1 ⊢;lia;rw[bU,tF z] at h1;exact ⟨Lqi Ĝ iÉ Lq2 Ņ τ Õ rfl,pļ⟩;have:=ha.2 z _ (bό);rw[z,bP,bE] at this;show this
theorem qZ.stood (ha:cϺ)(eb: pæ):qZ s (l+m) (h - m) Q:=λw x hx=>by have:=ha w (x+m) (λe=>kϬ);exact ⟨Lqi Ĝ iÉ Lq2 Ņ τ ü rfl,Lqi Ĝ Lq0 eŴ π Lq1 ú rfl⟩
theorem BV {f len bl bh:Int}{js:Pt}(l0:aŲ)(hs:kœ)(hn:ms.Nodup)(hm: ∀m∈ms,bl<=m /\ m<=bh)(hj: oĦ): ∀j∈js,(bl<=j.1 /\ j.1<0) \/ (0<=j.1 /\ j.1<=bh - len):=λj jW=>by let⟨h,hh,e⟩:=bß;have H:=(H0 l0 hs hn).1.out h hh;have B:=H_ l0 hh;rw[e];unfold kj;split;rename_i z;let⟨m,h1,h2⟩:=B.1 z;have:=hm m h1;show .inl #[(by exact Int.le_trans ü h2),z];rename_i z;let⟨m,h1,h2⟩:=B.2 (by exact LqIz z);have:=hm m h1;show .inr #[∅, (by exact Lqi ř Α eυ μ χ (LqIp h2 ú) rfl)]
structure sL (s p:Int)(bB:Į)(b:Pt)(Q:Pq):Prop where
 is: ∀x,bŧ % p=nC s bB Q x bB.length % p
 key: ∀w∈eΗ,0<=w /\ w< (bB.length:Int)
def E2 (q js:Pt):Pt:=js.flatMap λj=>iÊ
theorem DQ (q:Pt)(y:Int): ∀js:Pt,dM (E2 q js) y=eQ (λsh=>dM q (až)) js
 | []=>rfl
 | j::r=>by change dM mä y=_;rw[gS,DQ q y r,cP,tU,BU]
theorem Fz (G:Š)(q:Pt): ∀js:Pt,eQ G (E2 q js)=eQ (λj=>eQ (λsh=>G (sh+j)) q) js
 | []=>rfl
 | j::r=>by change eQ G mä=_;rw[qg,Fz G q r,cP,vg, <- y9]
theorem DU {s p:Int}{bB:ê}{P P' Q:Pq}{js:Pt}(nP: nČ)(_I: nŁ)(nQ: nĎ) (ep: qģ) (x:Int): ∀n,nC s bB P' x n % p=(nC s bB P x n+eQ (λsh=>kŦ) js) % p
 | 0=>by change dϛ=(0+għ) % p;rw[Fw];rfl
 | Ê=>by
  have h1:=tL (p:=p) oß (a:=pf P' n) (b:=aż++E2 bώ js) λy=>by rw[gS,DQ,fq (_I n),fq (nP n),ep,cU];congr 2;congr 1;funext sh;rw[fq (nQ n)]
  rw[qg,Fz] at h1;have e:(λsh=>nC s bB Q Ŵ aÅ)=λsh=>kŦ+pŏ:=rfl;have e2:(λj=>eQ (λsh=>look gĳ (x - s*(sh+j))) bώ)=λsh=>pŏ:=by funext j;congr 1;funext sh;congr 1;rw[Int.mul_add];exact rć
  rw[e2] at h1;rw[nC,nC,e,tJ,bu,DU nP _I nQ ep x n,h1, <- bu];congr 1;exact rĝ
theorem wE {s p m tn:Int}{bB:ê}{P Q:Pq}(nP: nČ)(nQ: nĎ)(ep: pæ)(x:Int): ∀n,nC s bB Q x n % p=nC s bB P bØ n*tn % p
 | 0=>by change dϛ=0*tn % p;rw[bP]
 | Ê=>by
  have h1:=tL (p:=p) oß (a:=pf Q n) (b:=tm tn (mv (-m) (aż))) λy=>by rw[tU,BU,fq (nQ n),fq (nP n),ep,cU,Int.sub_neg]
  rw[vg, <- y9] at h1;have e2:(λsh=>look gĳ (x - s*(sh+ -m)))=λsh=>look gĳ (x+s*m - s*sh):=by funext sh;congr 1;rw[Int.mul_add,Int.mul_neg];exact LqIx (Lqi Ĝ (.s Lq0 (.a Lq1 bĺ)) kñ ö ö LqI0 rfl) (Lqi Ĝ ké (.s Lq0 iË) ö ö LqI0 rfl)
  rw[e2] at h1;rw[nC,nC,Int.add_mul,bu,wE nP nQ ep x n,h1, <- bu]
theorem sL.cut {js:Pt}(ha:fω)(hb:fΑ)(nP: nČ)(_I: nŁ)(nQ: nĎ)(ec: pΔ)(ep: qģ)(hk: pŤ):sL s p bB c P':=#[λx=>by rw[ec,cU,DU nP _I nQ ep,bu,ha.is,Fx (λsh=>hb.is Ŵ) js, <- bu],λw hw=>(hk w hw).elim (ha.key w) (hb.key w)]
theorem sL.stood (ha:fω)(nP: nČ)(nQ: nĎ)(eb: nω)(ep: pæ)(hk: nϛ):fΑ:=#[λx=>by rw[eb,cU,wE nP nQ ep,cJ,ha.is, <- cJ],λw hw=>ha.key w (hk w hw)]
def fE.back {js:Pt}(hc:fE s p G (aŸ))(hb:iÌ)(ec: ∀x,Ŕ=(ō+WQ.eQ lŨ js) % p):iÍ:=by exact(hc.add ((hb.eQ js).mul Ï)).ext ķ;rw[ec,Int.emod_add_emod];congr 1;lia
def fE.DM (hp:ϴ)(t0:0<tn)(t1:tn<p)(hb:iÌ)(eb: nω):iÍ:=by
 let⟨u,hu⟩: ∃u:Int,tn*u % p=1:=by obtain rfl | rfl | rfl | rfl:=hp;show#[1,by rw[show tn=1 by exact LqIx (Lqi [_] Lq0 ñ ϒ ý t1 rfl) (Lqi [_] ñ Lq0 Ϣ Lq0 t0 rfl)];rfl];have:tn=1 \/ tn=2:= ∅;obtain rfl | rfl:=this;show bϏ;show bϐ;have:tn=1 \/ tn=2 \/ tn=3 \/ tn=4:= ∅;obtain rfl | rfl | rfl | rfl:=this;show bϏ;show#[3,rfl];show bϐ;show#[4,rfl];have:tn=1 \/ tn=2 \/ tn=3 \/ tn=4 \/ tn=5 \/ tn=6:= ∅;obtain rfl | rfl | rfl | rfl | rfl | rfl:=this;show bϏ;show#[4,rfl];show#[5,rfl];show bϐ;show#[3,rfl];show#[6,rfl]
 exact((hb.shift m).mul u).ext ķ;rw[eb,cJ,cU, <- cJ,show x - s*m+s*m=x by exact LqIx pΒ pΑ,Int.mul_assoc,cJ,hu,dA,cU]
structure fV where
 c:Int
 o:Addr
 ds:Addr
 ol:Addr
 op:Addr
 len:Int
 foot:Int
 b:Pt
 Q:Pq
def fV.adr (t:fV):å:=ca t.ol t.op t.Q
def nj (L:î):ű:=nϞ
structure xR (S:Addr)(s p:Int)(M:Mp)(t:fV):Prop where
 ins:M t.o=some (.ins S t.ds qş)
 row:c9 p M t.ol t.op t.b t.Q
 lO:må
structure oG (S:Addr)(s p:Int)(M:Mp)(hd:Addr)(L:bà):Prop where
 xz:M hd=iÐ
 each: ∀t∈L,eϝ
 nd:jŝ
 qt:oń
 xl: ∀t∈L,hd∉t.adr
def iV (L:î)(t:fV):î:=L.map λu=>lĠ
def BM (L:î)(c:Int):fX aζ bą=(L.find? jÕ).map λt=>aε:=by
 have:nņ:=by unfold nj lG;rw[aJ];rfl
 rw[this,oK,List.find?_map];cases e:mŮ with
 | none=>rw[qŠ,e];rfl
 | some t=>rw[qŠ,e];rfl
theorem nY {L:î}(h:mŮ=aŊ):ï /\ að:=pĺ
theorem ub {L:î}(h:mŮ=none):c∉Δ:=λhm=>by let⟨t,ht,e⟩:=bΑ;have:=mİ;simp[e] at this
def wK {L:î}(nd:jŝ)(h:ï):nÎ=aŊ:=by
 cases e:nÎ with
 | none=>show absurd (ag.mpr #[t,h,rfl]) (ub e)
 | some u=>let⟨h1,h2⟩:=nY e;rw[iH nd h1 h h2]
def Nb (hc:að)(h:c∉Δ):kq aζ bą (aε)=nj (L++ [t]):=by
 have e1:nņ:=by unfold nj lG;rw[aJ];rfl
 rw[e1,Cj (c:= []) (by rw[aJ];show h)];unfold nj lG;rw[aR,aR,aJ, <- hc];rfl
def Na (h:t.c∈Δ):kq aζ (bϑ) (aε)=nj (iV L t):=by
 unfold kq nj iV;have e:((nϞ).any λq=>decide (q.1= bϑ))=true:=by rw[List.any_eq_true];let⟨u,hu,e⟩:=bÑ;show#[_,iŢ,by simp[e]]
 rw[È,aJ,aJ];exact fΒ;change(if hő= bϑ then(hő,aε) else(hő,wr u.o))=((Sum.inl (lĠ).c:cL),wr (lĠ).o)
 by_cases z:bá;rw[ak (by rw[z]),Ô,z];rw[ai (λq=>z gŸ),Ö]
def pE (L:î)(t:fV):(iV L t).map aθ=Δ:=by unfold iV;rw[aJ];exact fΒ;change(lĠ).c=u.c;by_cases z:bá;rw[Ô,z];rw[Ö]
def fT (h:u∈iV L t):u=t \/ (añ /\ u.c≠t.c):=by let⟨v,hv,e⟩:=bÑ;by_cases z:v.c=t.c;rw[Ô] at e;show .inl e.symm;rw[Ö] at e;subst e;show .inr #[hv,z]
theorem xR.keep (h:eϝ)(k:fY M M' F)(ho:t.o∉F)(ha: ∀x∈t.adr,x∉F):xR S s p M' t:=#[k _ _ h.ins ho,h.row.keep k ha,h.lO]
theorem xR.nd (h:eϝ)(w:Int):((pf t.Q w).map ć).Nodup:=(h.row.Jo w).1
theorem c9.Sw (h:Ϟ)(w:Int):mà:=(h.Jo w).1
def yY (h:ϛ)(ht:ï)(hu:añ)(ne:t.c≠u.c): kŧ:=by
 have sym: ∀ {L:î},L.Pairwise (mϒ) ->ï ->añ ->t≠u -> kŧ:=λ{L}=>by
  induction L with
  | nil=>intro _ h;cases h
  | cons v r ih=>intro hp h1 h2 h3;let⟨q1,q2⟩:=cu.mp hp;obtain e1 | k1:=az.mp h1;obtain e2 | k2:=az.mp h2;show absurd iĉ h3;rw[e1];show q1 u k2;obtain e2 | k2:=az.mp h2;rw[e2];show λx hx gQ=>q1 t k1 x gQ hx;show ih q2 k1 k2 h3
 show sym h.qt ht hu λe=>ne (by rw[e])
def Ro (s c:Int):Int:=if s=0 then 0 else c
def vK (s Z c:Int):Nat:=if s=0 then(Z - c+1).toNat else(s - c).toNat
def AT (hd:gg)(L:î)(rl rp:gg)(P:Pq):å:=hd::(L.flatMap (·.adr)++ų)
structure Tin (R S:Addr)(s p:Int)(M:Mp)(hd r dr rl rp:Addr)(bB:Į)(a:Pt)(P:Pq)(L:bà):Prop where
 ins:pĽ
 held:ϛ
 row:Ϟ
 qt: ∀t∈L, ∀x∈ų,x∉t.adr
 xl:hd∉ų
 md:fω
 w5: lϖ
def sL.len (h:fΑ)(nd:jő):Q.length<=bB.length:=by have:=hV (l:=zD 0 bB.length) nd λk hk=>mL.mpr (by have:=h.key k hk;exact qĶ);rw[ab] at this;unfold zD at this;rw[ab,ci] at this;show this
structure sN (s Z E EP:Int)(t:fV):Prop where
 bx:qp s Z E E t.b
 len:t.len<=E
 bp:qZ s EP EP t.Q
def Nq (R S:gg):gA:=λxs M q=>FJ λ(hd r dr rl rp:gg) dϜ=>Rp λ(K w KP:Int) cϻ aŝ (P:Pq) (L:î)=>qk (xs= [Î,Í,wr hd,wr r]) lΖ ď aŶ (nϟ) aŷ (0<=K) (qk (0<=w) (0<=KP) (hŒ) (Z+8*(2*(w+16*K)+2*K+2) <=aŽ) (KP+10*(w+18*K) <=900000) hœ (L.length<=1000) (fU (qp s Z w w a) (qZ s KP KP P) (∀t∈L,sN s Z K KP t) (∀M' L',oG S s p M' hd L' ->fY M M' (hÅ) ->(∀t∈L', ∀x∈t.adr,x∈hÅ \/ bω) ->(∀f,mů ->fE s p (L'.map aι) f) ->(∀t∈L',iÑ) ->(∀t∈L',sN s Z (2*(bâ)) (KP+(s+1)*fΓ) t) ->L'.length<=L.length+1 ->(∀c∈Δ,c∈L'.map aθ) ->aϱ)))
section
variable {s Z K w KP c c2 dr:Int}{a c1:Pt}{P P1:Pq}{L:î}{t:fV}
def eA (s K w c:Int):Int:=w+2*K*Ro s c
def eP (s K w KP c:Int):Int:=KP+Ro s c*fΓ
structure vt (s Z K w KP:Int):Prop where
 s0:Ò
 k0:0<=K
 w0:0<=w
 XT:0<=KP
 zt:hŒ
theorem vt.E0 (h:Ο):0<=2*K*s:=cD (by have:=h.k0;exact qĆ) h.s0
def vt.step (h:Ο)(hc:c<c2):gĴ<=eA s K w c2:=by unfold eA Ro;by_cases z:s=0;have:=aμ;rw[Ô,Ô];exact qϻ;rw[Ö,Ö];have:=bg lϗ qϒ;rw[Int.mul_add,dA] at this;exact qŅ
def vt.top (h:Ο)(hc:gĵ):gĴ<=bâ:=by unfold eA Ro;by_cases z:s=0;have:=aμ;rw[Ô,z];exact qϻ;rw[Ö];have:=bg aν qϒ;rw[Int.mul_add,dA] at this;exact qŅ
def vt.low (h:Ο)(hc:eϠ):w<=dÀ:=by unfold eA Ro;by_cases z:s=0;rw[Ô];lia;rw[Ö];have:=cD qϒ aν;exact oϞ
def vt.Ws (h:Ο)(hc:c<c2):mæ<=eP s K w KP c2:=by unfold eP Ro;by_cases z:s=0;have:=aμ;rw[Ô,Ô,z];lia;rw[Ö,Ö];have h0:=h.E0;have:=a5 lϗ pþ;rw[Int.add_mul,Int.one_mul] at this;exact rÂ
def vt.aaL (h:Ο)(hc:gĵ):mæ<=iŮ:=by unfold eP Ro;by_cases z:s=0;have:=aμ;rw[Ô,z];lia;rw[Ö];have h0:=h.E0;have:=a5 aν pþ;rw[Int.add_mul,Int.one_mul] at this;exact rÂ
def vt.lowP (h:Ο)(hc:eϠ):KP<=fΔ:=by unfold eP Ro;by_cases z:s=0;rw[Ô];exact Lqi ř Lq0 (.a Lq0 (.m 0 (.a ξ dÂ))) ö ö LqI0 rfl;rw[Ö];have h0:=h.E0;have:=cD aν pþ;exact oϞ
def vt.KY (h:Ο):K<=bâ:=by by_cases z:s=0;have:=aμ;rw[z];lia;have:=bg (show 1<=s by have:=h.s0;exact Lqi [_] ñ Lq0 Ϣ Lq0 (kò) rfl) qϒ;have:=h.w0;have:=h.k0;lia
def vt.ZA (h:Ο):KP<=iŮ:=by have h0:=h.E0;have:=cD h.s0 pþ;exact oϞ
theorem sN.up {E EP E' EP':Int}(h:fΕ)(h1:E<=E')(h2:EP<=EP'):sN s Z E' EP' t:=#[h.bx.up h1 h1,by have:=h.len;exact Int.le_trans this h1,h.bp.up h2 h2]
structure Zu (s Z K w KP c:Int)(a:Pt)(P:Pq)(L:bà):Prop where
 bx:qp s Z (dÀ) (dÀ) a
 bp:qZ s (fΔ) (fΔ) P
 ge: ∀u∈L,c<=u.c ->fΖ
 lt: pś
structure OZ (s Z K w KP c dr:Int)(a:Pt)(P:Pq)(L:bà)(t:fV):Prop where
 mem:ï
 at_:að
 shr:t.len<dr
 dk:dr<=K
 col: ∀x,œ ->eϙ ->cĽ /\ Đ<=dr
 bx:qp s Z kó kó a
 bt:qp s Z (kŨ) kó t.b
 bp:qZ s nŴ nŴ P
 bq:qZ s (nΒ) nŴ t.Q
 gt: mϓ
 lt: pś
structure DG (s Z K w KP c:Int)(c1:Pt)(P1:Pq)(t:fV)(la lp:Int):Prop where
 bx:qp s Z la la c1
 bp:qZ s lp lp P1
 low: pŦ
variable {p:Int}{js:Pt}{ms:ā}
def Zu.cut (h:Ο)(ph:kô)(C8:eϠ)(T':gĵ)(ht:ï)(e:að)(l0:0<=t.len)(ga:aū) (qq:kϭ) (QG:kœ) (QQ: oΒ) (ej:kř) (ec: pϜ) (ep: qı) (low: pŦ): DG s Z K w KP c c1 P1 t (dÀ+K) (fΔ+dÀ):=by
 have f:=ph.ge t ht (by exact LqId e);have hw:=h.low C8;have hk:=h.lowP C8;have w0:=h.w0;have k0:=h.k0;have hj:=BV (f:=c) (bl:= -(dÀ)) (bh:=dÀ) l0 QG nň (λm hm=>by let⟨x,hx,e1⟩:=lġ;have:=ph.bx.1 x qϯ;exact pϰ) QQ;have Mb: ∀j∈js, -(dÀ) <=j.1 /\ j.1<=dÀ:=λj jW=>by have:=bß;lia
 show#[ph.bx.cut f.bx ec Mb ej pŐ qÐ pŐ qÐ,ph.bp.cut f.bp ep Mb qķ pϝ qķ pϝ,low]
def OZ.cut (h:Ο)(ph:lϘ)(l0:0<=t.len)(ga:aū) (qq:kϭ) (QG:kœ) (QQ: oΒ) (ej:kř) (ec: pϜ) (ep: qı) (low: pŦ): DG s Z K w KP c c1 P1 t (kŨ) (nΒ):=by
 have q:=ph.shr;have hj:=BV (f:=c) (bl:=0) (bh:=dr) l0 QG nň (λm hm=>by let⟨x,hx,e1⟩:=lġ;have:=ph.col x hϻ qϯ;exact pϰ) QQ;have Mb: ∀j∈js, -0<=j.1 /\ j.1<=dr - t.len:=λj jW=>by have:=bß;lia
 show#[ph.bx.cut ph.bt ec Mb ej qΝ (by exact Lqi Ĝ (.a mĸ ö) mĸ ö ö LqI0 rfl) qΝ (by exact Lqi ř (.a mĸ eθ) mĹ ö ö LqI0 rfl),ph.bp.cut ph.bq ep Mb rì (by exact Lqi ŵ (.a oϡ ö) oϡ ö ö LqI0 rfl) rì (by exact Lqi Κ (.a oϡ (.s Lq4 Lq5)) oϢ ö ö LqI0 rfl),low]
def DG.on (h:Ο)(d:mű)(Ox:la<=gĴ)(hlp:lp<=mæ)(hc:c<c2)(Hu: mϓ)(f7: pś)(uO: pŜ):Zu s Z K w KP c2 c1 P1 L:=by have h1:=h.step hc;have h2:=h.Ws hc;exact#[d.bx.up mŲ mŲ,d.bp.up mϔ mϔ,λu hu Ow=>Hu u hu (by exact Int.lt_of_lt_of_le hc Ow),λu hu Ow=> ?_];obtain q | q | q:=kϮ;show f7 u hu q;show uO u hu q;show lĢ
def DG.turn (d:mű)(Ox:la<=kŨ)(hlp:lp<=nΒ)(tk:t.len<=K)(N:Mn s c m tt c1)(ga:GD p c1)(df:t'.len=tt - m)(Vp:t'.c=c)(lO:Du s p t.b c t.len t.foot)(hm0:s=0 ->m=0)(hbt:qp s Z (kŨ) (kŨ) t.b)(hbq:qZ s (nΒ) (nΒ) t.Q)(eb: ∀x,dϝ=look c1 bØ*tn % p)(eq: ∀w x,iů=look (pf P1 w) (x+m)*tn % p)(Hu: mϓ)(f7: pś)(AM:t'∈bã):OZ s Z K w KP c t.len t.b t.Q (bã) t':=by
 have hb: ∀h∈kK s c (du c1),0<=h /\ h<t.len:=λh hh=>by let⟨x,hx,e1⟩:=ag.mp hh;have:=d.low x hϻ qϯ;exact ⟨mŰ,Int.lt_of_le_of_lt (LqId e1) ú⟩
 have h1:=hb _ N.lo;have h2:=hb _ N.hi;have h3:=dΨ;have b1:=d.bx.stood eb hm0;have b2:=d.bp.stood (s:=s) eq;exact#[AM,Vp, (by exact Lqi ř ϒ Lq1 (.a Lq0 (.a ö ϓ)) (.a eθ eè) (LqIp (LqIe df) hŕ) rfl),tk,λx hx cS=>lO.tE x cS hx,hbt,b1.up (by exact Lqi ϗ ι mĺ (.a Lq0 (.a Lq4 gϻ)) (.a (.s jØ Lq6) (.a (.s Lq5 Lq1) Lq6)) (LqIp Ox kõ) rfl) (by exact Lqi ŵ Α mĺ ϖ (.a mĺ Lq1) (LqIp Ox Õ) rfl),hbq,b2.up (by exact Lqi [_,_,_,_,_,_,_,_,_] ι oϣ (.a Lq0 (.a Lq6 (.a Lq7 ñ))) (.a (.s oÂ Lq8) (.a (.s Lq7 Lq1) Lq8)) (LqIp hlp kõ) rfl) (by exact Lqi ϗ Α oϣ ϖ (.a oϣ Lq1) (LqIp hlp Õ) rfl),λu hu tE=> ?_,λu hu hl=> ?_];obtain e | ⟨e,_⟩:=aò;rw[e,Vp] at tE;lia;show Hu u e tE;obtain e | ⟨e,_⟩:=aò;rw[e,Vp] at hl;lia;show f7 u e hl
universe e
structure TC (R S:Addr)(s p:Int)(bB:Į)(M0:Mp)(F0:cå)(G0:Į)(L0:bà)(hd:Addr)(M:Mp)(r dr rl rp:Addr)(a:Pt)(P:Pq)(L:bà):Prop where
 lJ:nϟ
 kp:fY M0 M F0
 fr: ∀t∈L, ∀x∈t.adr,jÙ
 YV: ∀x∈ų,jÙ
 sp: ∀f,dϞ ->mů
 len:L.length=L0.length
 key:Δ=fΗ
def fY.free (k:fY M0 M F)(h:bω):x∈F \/ cœ:=by
 cases e:M0 x with
 | none=>show ĸ
 | some u=>exact .inl (eΥ);rw[k x u e hn] at h;cases h
theorem y3 (row:Ϟ)(h:kũ):x∉ų:=λhx=>by let⟨kvs,e⟩:=dÃ;rw[h] at e;cases e
def TC.cut {M0 M M2:Mp}{js:Pt}(tc:oϵ)(ht:ï)(m_:c9 p M2 rl rp c1 P1)(ec: pϜ)(ep: qı)(kp:fY M M2 (ų))(fr: ∀x∈ca rl rp P1,gğ \/ bω)(hk: ∀w∈P1.map ć,hĿ \/ iŰ): TC R S s p bB M0 F0 G0 L0 hd M2 r dr rl rp c1 P1 L:=by let⟨ins,gJ,row,qt,xl,md,w5⟩:=tc.lJ;have st:=eϡ;exact#[#[kp _ _ ins (y3 row ins),#[kp _ _ gJ.xz xl,λu hu=>(eϢ).keep kp (y3 row (eϢ).ins) (λx hx gQ=>qt u hu x gQ hx),gJ.nd,gJ.qt,gJ.xl],m_,jÚ,λhx=> ?_,md.cut (w5 t ht) row.Sw m_.Sw st.nd ec ep hk,w5],tc.kp.trans kp tc.YV,tc.fr,Ź,dϟ,tc.len,tc.key];obtain z | z:=bä;show qt u hu x z gQ;let⟨kvs,e⟩:=lŭ;rw[z] at e;cases e;obtain z | z:=fr hd hx;show xl z;rw[gJ.xz] at z;cases z;obtain z | z:=bä;show tc.YV x z;show tc.kp.free z;exact mϕ;obtain hb | hb:=bϒ;show lģ;rw[ő];show fE.back (nŵ) (fE.of (ay.mpr (.inl (iŠ)))) ec
def TC.sm {M0 M M2:Mp}(tc:oϵ)(sm:aϭ):TC R S s p bB M0 F0 G0 L0 hd M2 r dr rl rp a P L:=by let⟨i1,i2,i3,i4,i5,i6,i7⟩:=tc.lJ;show#[#[sm _ _ i1,qϙ,i3.keep fΘ kö,i4,i5,i6,i7],tc.kp.trans fΘ jÜ,tc.fr,tc.YV,tc.sp,tc.len,tc.key]
def oR (h:t'.c∈Δ):t'∈bã:=by let⟨u,hu,e⟩:=bÑ;show ag.mpr #[u,hu,È]
theorem mD (h:añ)(ne:u.c≠t'.c):u∈bã:=ag.mpr #[u,h,ai ne]
def IF (nd:jŝ)(h:oń)(hf: nŉ):(bã).Pairwise mϒ:=by unfold iV;rw[cz];have XD:mç:=cz.mp nd;exact(List.pairwise_and_iff.mpr #[h,XD] |>.imp_of_mem λ{u v} hu hv q=> ?_);by_cases z:bϓ;rw[Ô];by_cases y:v.c=t'.c;show mè;rw[ai y];show hf v hv;rw[Ö];by_cases y:v.c=t'.c;rw[ak y];show λx hx gQ=>hf u hu x gQ hx;rw[ai y];show q.1
def TC.turn (hp:ϴ)(tc:oϵ)(Vl:hd∈F0)(ht:ï)(hc:t'.c=t.c)(sm:bå)(ins:rÀ)(FY:mų)(lO:nÏ)(t0:0<tn)(t1:tn<p)(eb: oá)(eq: pĢ)(fr: mĻ)(hk: oċ)(hD:D=nj (bã))(qP:um M3 hd (.dK D) r'=none): TC R S s p bB M0 F0 G0 L0 hd (um iű r' pç) r' dx t.ol t.op t.b t.Q (bã):=by
 subst hD;let⟨_,gJ,row,qt,xl,md,w5⟩:=tc.lJ;have hdr:hd≠r':=cO av qP;have Tu:M3 r'=none:=by rw[aH (aZ hdr)] at qP;show qP
 have T9:=sm _ _ gJ.xz;have U8:fY M (um nÐ r' pç) [hd]:=λd o e nd=>by have e3:=bϔ;rw[aH (cO e3 Tu),kϯ];show e3
 have U9: ∀ {d o},M3 d=ą ->d≠hd ->um nÐ r' pç d=ą:=λe ne=>by rw[aH (cO e Tu),aH ne];show e
 have Ui: lϚ:=λx hx e=>by have:=bä;rw[e,gJ.xz] at this;cases this
 have st:=eϡ;have S6: pè:=λe hx=>by rw[bĂ,gJ.xz] at e;cases e
 have jm:t'.c∈Δ:=by rw[hc];show iŠ
 have aeS: ∀u∈L,bϓ ->u=t:=λu hu e=>iH gJ.nd hu ht (e.trans hc);have frn: nŉ:=λu hu x hx gQ=>by let⟨kvs,e⟩:=lŭ;rw[gĶ] at e;cases e
 exact#[#[av,#[by rw[aH hdr];show av,ž,by rw[pE];show gJ.nd,IF gJ.nd gJ.qt frn,gķ],st.row.keep U8 λx hx gQ=>gJ.xl t ht nÑ,jÚ,gJ.xl t ht,w5 t ht,ž],pŀ,hŗ,tc.fr t ht,dϟ,by unfold iV;rw[ab];show tc.len,by rw[pE];show tc.key];obtain e | ⟨e,_⟩:=aò;rw[e];exact#[U9 ins (Ui _ aQ),jÝ,lO];let⟨kvs,e2⟩:=FY.mem nk;rw[U9 e2 hŘ,e2];show qŶ;obtain e | ⟨e,_⟩:=aò;rw[e] at hx;show jÞ;show eϤ;obtain e | ⟨e,ne⟩:=aò;rw[e] at gQ;show frn t ht x gQ hx;show yY gJ ht e (λz=>ne (by rw[hc,z])) x hx gQ;obtain e | ⟨e,_⟩:=aò;rw[e];show mϖ;show w5 u e;obtain e | ⟨e,_⟩:=aò;rw[e] at hx;show mé;show gĸ;exact mϕ;have xm:fE s p ((bã).map aι++ [t.b]) (look t'.b):=fE.of (ay.mpr (.inl (ag.mpr #[t',oR jm,rfl])));obtain hb | hb:=bϒ;let⟨u,hu,rfl⟩:=bΦ;by_cases z:bϓ;rw[aeS u hu z];show nŵ;show fE.of (ay.mpr (.inl (ag.mpr #[u,mD hu z,rfl])));rw[ő];show fE.DM hp t0 t1 xm eb
def TC.new (hp:ϴ)(tc:oϵ)(Vl:hd∈F0)(hc:t'.c∉Δ)(sm:bå)(ins:rÀ)(FY:mų)(lO:nÏ)(t0:0<tn)(t1:tn<p)(eb: oá)(eq: pĢ)(fr: mĻ)(hk: oċ)(hD:D=nj (bϕ)): oG S s p iű hd (bϕ) /\ fY M0 iű F0 /\ (∀u∈bϕ, ∀x∈u.adr,jÙ) /\ (∀f,dϞ ->fE s p ((bϕ).map aι) f) /\ (∀u∈bϕ,sL s p bB u.b u.Q):=by
 subst hD;let⟨_,gJ,row,qt,xl,md,w5⟩:=tc.lJ;have U8:fY M (um M3 hd (.dK (nj (bϕ)))) [hd]:=λd o e nd=>by rw[kϯ];show bϔ
 have Ui: lϚ:=λx hx e=>by have:=bä;rw[e,gJ.xz] at this;cases this
 have S6: pè:=λe hx=>by rw[bĂ,gJ.xz] at e;cases e
 have frn: nŉ:=λu hu x hx gQ=>by let⟨kvs,e⟩:=lŭ;rw[gĶ] at e;cases e
 have one: ∀u∈bϕ,añ \/ u=t':=λu hu=>(bΔ).imp id ae.mp;exact#[#[av,ž,?_,?_,gķ],pŀ,hŗ,dϟ,ž];obtain e | e:=bϖ;show qŶ;rw[e];exact#[by rw[aH (Ui _ aQ)];show ins,jÝ,lO];rw[aH hŘ];rw[aR];show List.nodup_append.mpr #[gJ.nd,by simp,λx hx y hy e=>hc (by rw[List.map_singleton] at hy;rw[<- ae.mp hy, <- e];show hx)];exact cW.mpr #[gJ.qt,List.pairwise_singleton _ _,λu hu v hv x hx gQ=> ?_];rw[ae.mp hv] at gQ;show frn u hu x gQ hx;obtain e | e:=bϖ;show eϤ;rw[e] at hx;show jÞ;obtain e | e:=bϖ;show gĸ;rw[e] at hx;show mé;exact mϕ;rw[aR];obtain hb | hb:=bϒ;show lģ;rw[ő];show fE.DM hp t0 t1 (nŵ) eb;obtain e | e:=bϖ;show w5 u e;rw[e];show mϖ
def fW (s:Int)(a:Pt):W:=if bϗ then wn else wi (kŚ)
def mz (s Z K c:Int)(q:Nat):Nat:=bϘ*dϡ+q
def Ph (s Z K w KP:Int)(m:Nat)(a:Pt)(P:Pq)(L:î):Prop:=(bϗ -> pÉ) /\ (Ó≠ [] -> ∃c,c=kŚ /\ ((kô /\ m=mz s Z K c (K.toNat+1)) \/ cM λt dr=>lϘ /\ m=mz s Z K c t.len.toNat))
def MX (h:c<c2)(h1:gĵ)(h2:s=0 ->c<=Z):vK s Z c2<bϘ:=by unfold vK;by_cases z:s=0;have:=h2 z;rw[Ô,Ô];lia;have:=h1 z;rw[Ö,Ö];lia
def XH (h:vK s Z c2<bϘ)(hq:q2<=K.toNat+1):mz s Z K c2 q2<mz s Z K c q:=by unfold mz;have:=Nat.mul_le_mul_right dϡ (show vK s Z c2+1<=bϘ from h);rw[Nat.add_mul,Nat.one_mul] at this;exact Lqj ŵ ϯ ν (.a Lq1 (.a (.a Lq0 (.a Lq4 ý)) ö)) (.a gŤ ν) (LqNp hq mŭ) rfl
theorem OU {L:î}(h:Ο)(Hu: mϓ)(f7: pś)(uO: pŜ): pÉ:=λu hu=>by obtain q | q | q:=kϮ;show f7 u hu q;show uO u hu q;show lĢ
theorem Nh (h:bϗ):a= []:=List.map_eq_nil_iff.mp h
theorem Du.lit (h:jÇ)(hp:1<p):bΝ≠0:=λe=>by have:=h.bot;rw[e,bP,Int.zero_emod] at this;cases this
def Um (h:jÇ)(hp:1<p)(g:GD p b):fW s b=wi f /\ du b≠ [] /\ lĤ:=by
 have hm:=e9 (h.lit hp);have cS:du b≠ []:=λe=>by rw[e] at hm;cases hm
 have e:lĤ:=gN.uniq #[ag.mpr #[f,hm,h.ok.own],λx hx=>by let⟨y,hy,rfl⟩:=bν;show h.ge y (by have:=fB g hy;exact qĴ)] (fK ⇑cS);show#[by rw[e];show ai cS,cS,e]
def Kw (bx:eϚ)(g:aū)(hm:iÁ): -l<=m /\ m<=h:=by let⟨x,hx,e⟩:=bΑ;rw[<- e];show bx.1 x (by have:=fB g eΞ;exact qĴ)
def QD (hm:iÁ)(z:s=0):m=0:=by let⟨x,hx,e⟩:=bΑ;rw[<- e,z];show pR x
def uP (hu:M u=some kŪ)(hl:kϰ)(s0:Ò)(s8:s<=8)(h:F (fW s a) M):Bk JB [wr u,Í] M F:=by unfold fW at h;show#[u,Ó,s,rfl,hu,hl,s0, ∅,λe=>by rwa [È] at h,λe=>by rwa [É] at h]
def fV.Hx (u:fV)(b:Pt)(Q:Pq):fV:=#[u.c,u.o,u.ds,u.ol,u.op,u.len,u.foot,b,Q]
structure LL (S:Addr)(s p:Int)(bB:Į)(M0:Mp)(L0:bà)(hd:Addr)(M:Mp)(L:bà):Prop where
 held:ϛ
 w5: lϖ
 kp:fY M0 M (jß)
 fr: ∀t∈L, ∀x∈t.adr,x∈jß \/ cœ
 sp: ∀f,fE s p (L0.map aι) f ->kϱ
 key:Δ=fΗ
 ln: ∀t∈L, ∀u∈L0,t.c=u.c ->t.len=u.len
section
variable {S:gg}{s p:Int}{bB:ê}{M0 M M2:Mp}{L0 L:î}{hd:gg}{c1:Pt}{P1:Pq}{js:Pt}{u t:fV}
def Du.aeX (h:jÇ)(hf:f<fc)(e: ∀x,Ď<fc ->cŒ=bŧ):Du s p c1 f len foot:=by have at_: ∀k,look c1 (f+k*s)=look b (f+k*s):=λk=>e _ (by rw[h.ok.on];show hf);exact#[h.ok,h.l0,h.s0,Ź,gĦ,by rw[at_];show h.top,?_,h.ft];obtain q | q:=eN bθ fc;show h.ge x (by rw[<- e x q];show hx);exact Int.le_of_lt (Int.lt_of_lt_of_le hf q);show h.tE x (by rw[<- e x (by exact Int.lt_of_le_of_lt (LqIe hc) hf)];show hx) hc;have:=at_ 0;rw[bP,bE] at this;rw[this];show h.bot
def KN (hu:añ)(nd:jŝ)(hc:u'.c=u.c)(ho:u'.o=u.o):nj (iV L u')=nj L:=by
 unfold nj iV;rw[aJ];exact bK dΑ;change((Sum.inl (lϛ).c:cL),wr (lϛ).o)=((Sum.inl v.c:cL),wr v.o)
 by_cases z:v.c=u'.c;rw[Ô];have:v=u:=iH nd hv hu (z.trans hc);rw[this,hc,ho];rw[Ö]
def LL.cut (ll:lĥ)(hu:añ)(ht:ï)(f7:u.c<t.c)(m_:c9 p M2 u.ol u.op c1 P1)(ec: ∀x,cŒ=(look u.b x+nŇ) % p) (ep: ∀w x,hŔ=(look (pf u.Q w) x+oà) % p) (el: ∀x,Ď<t.c ->cŒ=look u.b x) (kp:fY M M2 u.adr) (fr: ∀x∈hÆ,x∈u.adr \/ bω) (hk: ∀w∈P1.map ć,w∈u.Q.map ć \/ iŰ): LL S s p bB M0 L0 hd M2 (iV L (dÄ)):=by
 let⟨gJ,w5,XT,zv,sp,key,ln⟩:=ll;have su:=eϢ;have st:=eϡ;have jm:u.c∈Δ:=iŢ;have XF: ∀v∈L,v.c≠u.c -> ∀x∈hÆ,x∉v.adr:=λv hv ne x hx gQ=>by obtain z | z:=bä;show yY gJ hu hv (aZ ne) x z gQ;let⟨kvs,e⟩:=(gJ.each v hv).row.mem gQ;rw[z] at e;cases e
 exact#[#[by rw[KN (u':=dÄ) hu gJ.nd rfl rfl];show kp _ _ gJ.xz (gJ.xl u hu),dΑ,by rw[pE];show gJ.nd,?_,λv hv hx=> ?_],dΑ,XT.trans kp λx hx=>zv u hu x hx,λv hv x hx=> ?_,dϟ,by rw[pE];show key,λv hv w hw e=> ?_];obtain e | ⟨e,ne⟩:=fT hv;rw[e];show#[kp _ _ su.ins (y3 su.row su.ins),m_,su.lO.aeX f7 el];show(dϢ).keep kp (y3 su.row (dϢ).ins) λx hx gQ=>yY gJ e hu ne x hx gQ;unfold iV;rw[cz];have XD:mç:=cz.mp gJ.nd;exact(List.pairwise_and_iff.mpr #[gJ.qt,XD] |>.imp_of_mem λ{v w} hv hw q=> ?_);by_cases z:v.c=u.c;rw[ak (show v.c=(dÄ).c from z)];by_cases y:w.c=u.c;show mè;rw[oÃ];show XF w hw y;rw[ai (show ¬v.c=(dÄ).c from z)];by_cases y:w.c=u.c;rw[ak (show w.c=(dÄ).c from y)];show λx hx gQ=>XF v hv z x gQ hx;rw[oÃ];show q.1;obtain e | ⟨e,_⟩:=fT hv;rw[e] at hx;obtain z | z:=fr hd hx;show gJ.xl u hu z;rw[gJ.xz] at z;cases z;show gJ.xl v e hx;obtain e | ⟨e,_⟩:=fT hv;rw[e];show(w5 u hu).cut (w5 t ht) su.nd m_.Sw st.nd ec ep hk;show w5 v e;obtain e | ⟨e,_⟩:=fT hv;rw[e] at hx;obtain z | z:=bä;show zv u hu x z;show XT.free z;show zv v e x hx;exact(sp f hf).trans ŷ;let⟨v,hv,rfl⟩:=bΦ;have h1:fE s p nď (look c1):=fE.of (ag.mpr #[_,oR jm,rfl]);have h2:fE s p nď (look t.b):=fE.of (ag.mpr #[t,mD ht (show t.c≠u.c by exact λe=>Lqf Û ϳ ο (LqIp f7 ŭ) rfl),rfl]);by_cases z:v.c=u.c;rw[iH gJ.nd hv hu z];show fE.back h1 h2 ec;show fE.of (ag.mpr #[v,mD hv z,rfl]);obtain e2 | ⟨e2,_⟩:=fT hv;rw[e2] at e ⊢;show ln u hu w hw e;show ln v e2 w hw e
def O_ (s c E:Int)(b:Pt):Prop:= ∀x,œ ->eΙ -> -E<=Đ /\ Đ<=E
def nU (s c len:Int)(b:Pt):Prop:= ∀x,œ ->eΙ ->kϤ
theorem O_.cut (ha:O_ s c E a)(hb:nU s c lt b)(ec: ∀x,cŒ=oϠ)(hj: mϐ)(Mc:kř)(h1:E<=E')(h2:jl<=E')(h3:lt+jh<=E'):O_ s c E' c1:=λx hx cS=>by by_cases z:ō=0;let⟨j,jW,q⟩: nč:=aB λhn=>cS pĔ;have h4:=hb dϚ (by rw[iS];show hx) q;have h5:=bß;by_cases y:s=0;have h6:=Mc y j jW;rw[y,pR] at h4 ⊢;exact ⟨Lqi ř Ņ ö pŧ mϑ oό rfl,Lqi ř ö Lq0 pŧ mϑ oό rfl⟩;rw[l3 y] at h4;exact ⟨Lqi ř Ņ Lq1 (.a Lq2 (.a ö bĺ)) (.a Lq0 (.a eώ Lq3)) (LqIp h2 (LqIp h4.1 h5.1)) rfl,Lqi ŵ Lq0 Lq1 (.a ν (.a (.a eϜ ñ) Lq4)) jϜ (LqIp h3 (LqIp h4.2 h5.2)) rfl⟩;have:=ha x hx z;exact ⟨Lqi Ĝ Ņ Lq1 hϹ ι (LqIp h1 ü) rfl,Int.le_trans ú h1⟩
universe e
def iz (L:î)(c:Int):Int:=match mŮ with
 | aŊ=>t.len
 | none=>0
def EI (nd:jŝ)(h:ï):iz L t.c=t.len:=by unfold iz;rw[wK nd h]
def kN (l:ā):Int:=l.foldr (· + ·) 0
def oQ (h: fΙ): ∀k,0<=kN (bĆ) /\ kN (bĆ) <=kN l:=by
 induction l with
 | nil=>intro k;simp[kN]
 | cons a r ih=>
  intro k;cases k with
  | zero=>
   have:=(ih (kø) r.length)
   rw[bD] at this;have:=aξ;change 0<=ě /\ ě <=aο;lia
  | succ k=>have:=ih (kø) k;have:=aξ;change 0<=hÇ /\ hÇ <=aο;lia
def Iz (l:ā)(a:Int):kN (l++ [a])=kN l+a:=by
 induction l with
 | nil=>change a+0=0+a;exact LqIx (Lqi [_] ϖ Ϙ ö ö LqI0 rfl) (Lqi [_] Ϙ ϖ ö ö LqI0 rfl)
 | cons b r ih=>change b+kN (r++ [a])=b+kN r+a;rw[ih];exact rą
def IB (h: fΙ)(k:Nat):kN (bć) <=kN l:=by
 induction l generalizing k with
 | nil=>simp
 | cons a r ih=>
  cases k with
  | zero=>show Ð
  | succ k=>have:=ih (kø) k;have:=aξ;change kN (r.drop k) <=aο;lia
def zW (h:a.Perm b):kN a=kN b:=by
 induction h with
 | nil=>rfl
 | cons x _ ih=>change x+_=x+_;rw[show List.foldr (· + ·) 0 _=kN _ from rfl,ih];rfl
 | swap x y l=>change y+(x+kN l)=x+(y+kN l);exact LqIx qĚ qĚ
 | trans _ _ h1 h2=>show h1.trans h2
def JX {L:î}(nd:jŝ):(Δ).map aπ=L.map bϙ:=by rw[aJ];show bK λt ht=>EI nd ht
def LL.sm {M0 M M2:Mp}(h:lĥ)(sm:aϭ):LL S s p bB M0 L0 hd M2 L:=by let⟨i2,i3,i4,i5,i6,i7,i8⟩:=h;show#[qϙ,i3,i4.trans fΘ jÜ,i5,i6,i7,i8]
theorem LL.init (h:ϛ)(md: lϖ):LL S s p bB M L hd M L:=#[h,md,λd o e _=>e,λt ht x hx=> oâ,λf hf=>hf,rfl,λt ht u hu e=>by rw[iH h.nd ht hu e]]
def LL.iz (h:lĥ)(nd:(fΗ).Nodup)(ht:ï):t.len=iz L0 t.c:=by
 have:t.c∈fΗ:=by rw[<- h.key];show iŠ
 let⟨u,hu,e⟩:=ag.mp this;rw[<- e,EI nd hu];show h.ln t ht u hu e.symm
def LL.get {S:gg}{s p:Int}{bB:ê}{M0 M:Mp}{L0 L:î}{hd:gg}(h:lĥ){c:Int}(hc:c∈fΗ): ∃t∈L,að:=by rw[<- h.key] at hc;show bϋ
def BL (nd:jŝ)(h:ï):nŶ:=by rw[BM,wK nd h];rfl
def Be (l:Ì)(k:Nat):qS l (some (ħ:Int)) none=bć:=by unfold qS;rw[HT.IK,HT.MU];obtain h | h:=Nat.le_total k l.length;rw[Nat.min_eq_left h,List.take_of_length_le (by rw[List.length_drop];show Â)];rw[Nat.min_eq_right h,List.drop_length,List.take_nil,List.drop_of_length_le h]
def jq {cs:ā}(h:kù){i j:Nat}(hi:gĹ)(hj:gĺ)(iR:i<j):a<b:=by let⟨g1,g2⟩:=bĝ;let⟨g3,g4⟩:=bΜ;rw[<- g2, <- g4];show bM.mp h i j g1 g3 iR
def Gv {cs:ā}(h:kù){i j:Nat}(hi:gĹ)(hj:gĺ)(KU:a<b):i<j:=by obtain q | q | q:=Nat.lt_trichotomy i j;show q;subst q;rw[hi] at hj;cases hj;lia;have:=jq h hj hi q;lia
def Nt (R S:gg):gA:=λxs M q=>FJ λ(hd:gg) (p s Z E EP Λ:Int) cϻ=> ∃ (L:î),qk (xs= [Î,Í,wr hd]) lΖ ď aŶ (ϛ) (lϖ) (∀t∈L,fΕ) (qk aŷ (0<=E) (0<=EP) hœ (L.length<=13) (jà <=Λ) (Z+8*(E+14*(E+Λ)+1) <=ġ) (EP+14*(E+Λ) <=ġ /\ ∀M' L',LL S s p bB M L hd M' L' ->(∀t∈L', ∀u∈L',mļ) ->(∀t∈L',qp s Z (E+hÈ) (E+hÈ) t.b /\ qZ s (EP+hÈ) (EP+hÈ) t.Q) ->aϱ))
def hW (p0:0<p)(g:GD p b)(x:Int):look (lu p b) x=bŧ:=by rw[lZ p0,fq g.1,d5 p0 g]
def D8 {t:fV}(hp:1<p)(g:GD p t.b)(h:må)(w:Wt D t.b):mŴ:=by have p0:0<p:= qÜ;have e:=hW p0 g;have gn:=iG (ix p0 t.b);exact#[bæ,h.ok,h.l0,h.s0,λx hx=>h.ge x ?_,λx hx hc=>h.tE x ?_ hc,e9 (by rw[e];show h.lit hp),by rw[e];show h.top,λx hx=>w x (by rw[<- e];show hx)];have:=fB gn hx;rw[e] at this;exact qĴ;have:=fB gn hx;rw[e] at this;exact qĴ
structure Ord (L Ls:bà):Prop where
 perm:Ls.Perm L
 z8:Ls.Pairwise λa b=>a.c<b.c
def ul (L:î)(nd:jŝ): ∃Ls,bϛ:=by exact#[nϠ,List.mergeSort_perm _ _,?_];have h1:=List.pairwise_mergeSort (le:=λa b:fV=>iÓ) (λa b c h1 h2=>by simp![cy] at*;exact iŲ) (λa b=>by simp![Bool.or_eq_true,cy];lia) L;have h2:((nϠ).map aθ).Nodup:=((List.mergeSort_perm L _).map aθ).nodup_iff.mpr nd;have h3:=cz.mp h2;show(List.pairwise_and_iff.mpr #[h1,h3]).imp λh=>by have:=h.1;simp![cy] at this;have:=h.2;lia
section
variable {S:gg}{s p D:Int}{M:Mp}{hd:gg}{L Ls:î}
def gu (p:Int)(Ls:î):ê:=Ls.map λt=>bϚ
def t7 (hp:1<p)(h:ϛ)(o:bϛ)(w: iÔ)(hl: kū):v7 s p cŕ D:=by
 have sr: ∀t∈Ls,mŴ:=λt ht=>D8 hp (nÒ).row.ga (nÒ).lO (w t (jş));have get: ∀ {i st},cŕ[i]? =some st -> ∃t:fV,aς =aŊ /\ st=bϚ:=λ{i st} e=>by
  unfold gu at e;rw[aE] at e;cases e2:aς with
  | none=>rw[e2] at e;cases e
  | some t=>rw[e2] at e;cases e;show#[t,e2,rfl]
 exact#[λi st hi=> ?_,λi j st bG c len c' Aw iR hi hj h1 h2=> ?_];let⟨t,ht,rfl⟩:=get hi;show#[_,_,eϥ,hl t (o.perm.mem_iff.mp (au ht))];let⟨t,ht,rfl⟩:=get hi;let⟨t',pL,rfl⟩:=get hj;rw[(h1.uniq (eϥ)).1,(h2.uniq (sr t' (au pL))).1];let⟨g1,g2⟩:=am.mp ht;let⟨g3,g4⟩:=am.mp pL;rw[<- g2, <- g4];show kϲ
def DO (hp:1<p)(h:ϛ)(o:bϛ)(w: iÔ)(low: o϶):v0 s p cŕ D:=by
 intro i j st bG c len iR hi hj Wx x hx cS;unfold gu at hi hj;rw[aE] at hi hj;cases e1:aς with
 | none=>rw[e1] at hi;cases hi
 | some t=>
  cases e2:Ls[j]? with
  | none=>rw[e2] at hj;cases hj
  | some t'=>
   rw[e1] at hi;rw[e2] at hj;cases hi;cases hj;have m1:=o.perm.mem_iff.mp (au e1);have m2:=o.perm.mem_iff.mp (au e2);have e3:=Wx.uniq (D8 hp (eϦ).row.ga (eϦ).lO (w t' m2));have f7:t.c<t'.c:=by let⟨g1,g2⟩:=am.mp e1;let⟨g3,g4⟩:=am.mp e2;rw[<- g2, <- g4];show kϲ
   rw[e3.2];show low t m1 t' m2 f7 x (by rw[hx,e3.1]) (by rw[<- hW qÜ (h.each t m1).row.ga];show cS)
theorem pK (p0:0<p)(h:ϛ)(o:bϛ)(hf:kϱ):fE s p cŕ f:=hf.trans λb hb=>by let⟨t,ht,rfl⟩:=bΦ;exact(fE.of oČ).ext ķ;rw[hW p0 jŠ]
structure Pa (s p w:Int)(bB bs:Į)(L:bà):Prop where
 len:bs.length=L.length
 ind:í ->cō
 of: hř
def MY {w:Nat}(hp:ϴ)(s0:0<s)(h:ϛ)(hw: iÔ)(hl: kū)(low: o϶)(B:hŚ)(jm: oĨ)(hb: pϓ)(ht:ï)(hx:look t.b x≠0): -lĦ <=Đ /\ Đ<=lĦ:=by
 let⟨Ls,o⟩:=ul L h.nd;have e:lŮ:=by unfold gu;rw[ab];show o.perm.length_eq
 have:=IZ hp s0 ių (DO ∅ h o hw low) hś qε mϗ hb (t:=bϚ) oČ (x:=x) (by rw[hW ∅ jŠ];show hx);rw[e] at this;show this
def R_ (h: fΙ):kN l=(((l.map Int.toNat).sum:Nat):Int):=by
 induction l with
 | nil=>rfl
 | cons a r ih=>
  change aο=_
  rw[ih kø,aX,List.sum_cons]
  have:=aξ
  push_cast;exact LqIx (Lqi Ĝ ι τ Lq0 Lq2 Ϭ rfl) (Lqi Ĝ ι τ Lq0 Lq2 (LqIe (Int.toNat_of_nonneg this)) rfl)
def JY {w:Nat}(hp:ϴ)(s0:0<s)(h:ϛ)(hw: iÔ)(hl: kū)(B:hŚ)(jm: oĨ)(hb: pϓ):jà <=lĦ:=by
 let⟨Ls,o⟩:=ul L h.nd;have e:lŮ:=by unfold gu;rw[ab];show o.perm.length_eq
 have:=EJ hp s0 ių hś qε mϗ hb;rw[e] at this;rw[<- zW (o.perm.map bϙ),R_ λx hx=>by let⟨t,ht,rfl⟩:=bν;show((nÒ).lO).l0];have e2:((bç).map kï)=(Ls.map bϙ).map Int.toNat:=by unfold gu;rw[aJ,aJ];exact bK ſ;have m:=jş;change(eC s (bϚ)).toNat=t.len.toNat;rw[(D8 ∅ (h.each t m).row.ga (h.each t m).lO (hw t m)).sV]
 rw[e2] at this;show jϑ
def NA {w:Nat}(ht:ï)(h0: iÕ):t.len<=jà:=by
 induction L with
 | nil=>cases ht
 | cons a r ih=>
  change t.len<=a.len+kN (r.map bϙ);have h1:=(oQ (l:=r.map bϙ) (λx hx=>by let⟨u,hu,rfl⟩:=bν;show gĻ) 0)
  have h2:=h0 a aQ;obtain rfl | ht:=az.mp ht;change t.len<=_;have:0<=kN (r.map bϙ):=by simp[kN] at h1;show h1
  exact oϞ;have:=ih ht λu hu=>gĻ;exact Lqi Ĝ Lq0 ξ Ϙ ξ (LqIp h2 this) rfl
universe e
def XS:cĭ
 | 0=>0
 | i+1=>XS i+(9*(332+272*Ĥ)+(Ĥ+1)*(256+544*Ĥ))
theorem Th: ∀i:Nat,i<=8 ->0<=XS i /\ XS i<=193056:=⋯
def zq (s:Int)(i:Nat):Int:=if s=0 then 0 else XS i
def J_ (s:Int)(i:Nat)(h:i<=8):0<=aτ /\ aτ<=193056:=by unfold zq;have:=Th i h;split<;>lia
structure BSt (S:Addr)(s p Z:Int)(w:Nat)(bB:Į)(i:Nat)(M:Mp)(hd:Addr)(L:bà)(bs:Į):Prop where
 held:ϛ
 md: ∀t∈L,sL s p dϤ t.b t.Q
 low: o϶
 sp: ∀pt∈cŖ,fE s p (eϟ) cŗ
 base:Pa s p w dϤ bs L
 bz:s=0 -> ∀t∈L,Wt Z t.b
 bp: ∀t∈L,qZ s bϜ bϜ t.Q
 fin: ∀t∈L,nÓ
 len:L.length<=i
structure LA (s p Z:Int)(w:Nat)(bB:Į):Prop where
 pat: ∀pt∈bB,cX p pt /\ qp s Z w w pt
 len:bB.length<=8
 hp:ϴ
 s0:Ò
 s8:s<=8
 z0:0<=Z
 z1:Z<=10000
 _g:s=0 ->w=0
 w60:w<=60
 sw:s*w<=68
def zb (h:ϛ)(s0:0<s):gļ <=s:=by
 have:=hV (l:=zD 0 s.toNat) h.nd λc hc=>by let⟨t,ht,rfl⟩:=bϋ;obtain z | z:=(dϣ).lO.ok;lia;show mL.mpr (by exact ⟨z.1,Lqi Ĝ ϒ gΖ lÍ τ (LqIp z.2 (Ϭ)) rfl⟩)
 rw[ab] at this;unfold zD at this;rw[ab,ci] at this;lia
def Qq (P:fΜ){m:Nat}(hm:í ->aϤ <=s):aϤ*w<=68:=by by_cases z:s=0;rw[P._g z];simp;have:=a5 (hm z) (show 0<=bÝ by exact jī);have:=P.sw;lia
theorem BSt.jf (P:fΜ)(h:mĽ): ∀t∈L,sN s Z (2*(gļ*w)) bϜ t:=λt ht=>by
 have hl0: iÕ:=λu hu=>(h.held.each u hu).lO.l0;by_cases z:s=0;have e:=P._g z;rw[e];exact#[#[λx _=>by rw[z,pR];simp,λ_=>h.bz z t ht],by rw[(h.held.each t ht).lO.s0 z];simp,h.bp t ht];have s1:0<s:=by have:=P.s0;exact kò
 have hb: hř:=λb hb=>List.mem_of_mem_take hŜ;have hw: pϓ:=λb xm x hx=>(P.pat b (hb b xm)).2.1 x hx;have jm: oĨ:=λb xm=>h.sp b (h.base.of b xm);have h1:=λ{x} hx=>MY (D:=ġ) P.hp s1 h.held lħ (kŬ) h.low h.base jm hw ht (x:=x) hx;have h2:=JY (D:=ġ) P.hp s1 h.held lħ (kŬ) h.base jm hw;have h3:=NA (w:=w) ht hl0;have e:lĦ=2*(gļ*w):=by push_cast;rw[Int.mul_assoc]
 rw[e] at h2;exact#[#[λx hx=>by have:=h1 hx;rw[e] at this;show this,λq=>absurd q z], (by exact Int.le_trans h3 h2),h.bp t ht]
def jr {l:ê}(h:n<k):(bĆ).getD n []=l.getD n []:=by rw[bO,bO,List.getElem?_take_of_lt h]
def sL.more {bB:ê}(h:sL s p dϤ b Q)(hi:i<bB.length):sL s p hÉ b Q:=by
 have l1:(cŖ).length=i:=by rw[bv];lia
 have l2:lϜ:=by rw[bv];lia
 exact#[ķ,λw hw=>by have:=h.key w hw;rw[l1] at this;rw[l2];push_cast;exact qĵ];rw[h.is,l1,l2];have hno:pf Q Ĥ= []:=mJ λhm=>by have:=h.key _ hm;rw[l1] at this;exact Lqf [_] ϒ Lq0 ú rfl
 have: ∀n,n<=i ->nC s dϤ Q x n=nC s hÉ Q x n:=λn=>by
  induction n with
  | zero=>intro _;rfl
  | succ n ih=>intro hn;rw[nC,nC,ih lϑ,jr fς,qĦ]
 rw[nC,hno,fν];change _=(_+0) % p;rw[bE]
def sL.first {bB:ê}(p0:0<p)(hi:hÊ):sL s p hÉ pt kú:=by
 have hl:=eę;have l2:lϜ:=by rw[bv];lia
 refine#[ķ,λw hw=>by rw[List.map_singleton,ae] at hw;rw[l2,hw];push_cast;exact oħ];rw[l2,nC];have h0: ∀n,n<=i ->nC s hÉ kú x n=0:=λn=>by
  induction n with
  | zero=>intro _;rfl
  | succ n ih=>
   intro hn;have:pf nŊ Ġ= []:=mJ λhm=>by rw[List.map_singleton,ae] at hm;have:Ġ=i:=hm;lia
   rw[nC,ih lϑ,this];rfl
 have e:pf nŊ Ĥ= bË:=by simp[pf]
 rw[h0 i õ,e,jr aİ,mU hi];change _=(0+(look pt (x - s*0)*1+0)) % p;rw[dX,Int.sub_zero,dA,bE,bQ]
def Ha {M1:Mp}(P:fΜ)(h:mĽ)(hi:hÊ)(pN:oG S s p M1 hd L1)(De: oŅ)(_L: ∀t∈L1,sL s p hÉ t.b t.Q)(df:L1.length<=L.length+1)(uM: ∀c∈Δ,c∈fΞ): ∃bs1,Pa s p w hÉ bs1 L1:=by
 have hl:=eę;have Hu:=hV h.held.nd uM;rw[ab,ab] at Hu;have pM: ∀b∈cŖ,b∈fΝ:=λb hb=>by rw[bj];show hŖ
 have L9:pt∈fΝ:=by rw[bj,hi];show lϙ
 have p0:0<p:=by have:=P.hp;lia
 have p1:1<p:=by have:=P.hp;lia
 by_cases e:L1.length=L.length;show#[bs,by rw[e];show h.base.len,h.base.ind,λb hb=>pM b hŜ];exact#[bs++ [pt],by rw[aO,bW,h.base.len];exact LqNx (jâ) df,bŻ,ŷ];have s1:0<s:=by have:=P.s0;exact kò
 let⟨Ls,o⟩:=ul L h.held.nd;let⟨Ls1,o1⟩:=ul L1 pN.nd;have e1:lŮ:=by unfold gu;rw[ab];show o.perm.length_eq
 have e2:(gu p Ls1).length=L1.length:=by unfold gu;rw[ab];show o1.perm.length_eq
 exact C2 P.hp s1 (t7 p1 h.held o lħ kŬ) (t7 p1 pN o1 kû jã) (h.base.ind z) (λb hb=>pK p0 h.held o (h.sp b hŜ)) (by rw[e1,e2];exact jâ) eϨ;let⟨t,ht,rfl⟩:=ag.mp gD;have sG:=o1.perm.mem_iff.mp ht;have m:=_L t sG;have l2:lϜ:=by rw[bv];lia
 exact#[pf t.Q i,(fE.gO (sts:=cŖ) (sts':=bç) (λb hb=>pK p0 h.held o (h.sp b hb)) hË i gũ).ext ķ];rw[hW p0 (pN.each t sG).row.ga,Int.sub_emod,m.is,l2,nC,jr aİ,mU hi, <- Int.sub_emod];have: ∀n,n<=i ->nC s hÉ t.Q x n=gO s dϤ hË x n:=λn=>by
  induction n with
  | zero=>intro _;rfl
  | succ n ih=>intro hn;rw[nC,gO,ih lϑ,qĦ,jr fς]
 rw[fν];congr 1;exact qϺ;obtain hb | hb:=bϒ;show pM b hŜ;rw[ő];show L9
structure Bui (s p Z:Int)(w:Nat)(bB sts:Į)(Ps:List Pq):Prop where
 gK:v7 s p sts ġ
 trim:v0 s p sts ġ
 sp: ∀pt∈bB,fE s p sts cŗ
 len:Ps.length=sts.length
 zw:sts.length<=bB.length
 md: ∀ (k:Nat) st P,hŝ ->gĽ ->sL s p bB st P /\ jŎ /\ (jÆ) /\ qZ s hŞ hŞ P
 bx: ∀st∈sts,qp s Z (2*(hş*w)) (2*(hş*w)) st /\ Ī<=2*(hş*w)
 cols:í ->hş <=s
def SQ:gA:=λxs M q=>Zq λ aυ dϜ (w:Nat) cϻ=>fU (xs= [Î,Í,wr u]) (M u=some iŴ) (fΜ) (∀ (M':Mp) (v:gg) (as:å) (sts:ê) (Ps:fh Pq),Bui s p Z w bB sts Ps ->Ħ ->M v=none ->M' v=some (.lst (as.map wr)) ->as.length=sts.length ->(∀ (k:Nat) a P,gľ ->gĽ -> ∃tl:aì,tl.Perm (wA p 1 P) /\ M' a=kϨ) ->q (.tup [hϱ,wr v]) M')
theorem Ee (h:Sm M0 M)(k:fY M M' F)(hf: ∀x∈F,cœ):bŠ:=λd o e=>k d o (h d o e) λhx=>by rw[hf d hx] at e;cases e
universe WQ
namespace L2
open PySem
def EB (hK:X.K=K)(he:PE X e ta)(hb:pă):PE X jĦ (RU K ta f):=by subst hK;show c7 he hb
universe L2
namespace WQ
open PySem L2 WL WP
section
variable {s p D:Int}{sts:ê}{st:Pt}{c len:Int}
theorem Ew (h:cX p st):lΥ:=cz.mpr h.2
def Sr.Lj (h:ϡ)(s0:Ò)(hx:x∈é)(e:œ):c<=x /\ x<=bÙ:=by have h1:=h.tE x hx e;have h2:=qW s0 e;have h3:=cD Õ s0;have h4:=a5 h1.2 s0;exact ⟨Lqi Ĝ Lq0 Lq1 lË ξ (LqIp (LqId h2) h3) rfl,Lqi ř Lq0 ξ μ jμ (LqIp (LqIe h2) h4) rfl⟩
theorem Sr.B7 (h:ϡ)(s0:Ò)(hl:jÅ):cļ:=#[h.bot,h.ok.own,h.ge,λx hx e=>(h.Lj s0 hx e).1,hl,Ew h.pat]
def Sr.D9 (h:ϡ)(s0:Ò)(hl:jÅ):gϟ /\ kÑ /\ kŕ=bÙ:=by
 have ok:=h.B7 s0 hl;have hm:fŪ:=aL.mpr #[h.bot, ⇑h.ok.own];have QN:bÙ∈cĻ:=aL.mpr #[h.HY, ⇑fζ];have cS:gϟ:=λe=>by rw[e] at hm;cases hm
 have vR:jŊ cŸ:=((Ew h.pat).sublist List.filter_sublist).imp nÈ;have hl:=pq vR cS;exact#[cS,ok.head,?_];have h1:=hl.2 _ QN;have h2:=aL.mp hl.1;have h3:=(h.Lj s0 h2.1 ⇑h2.2).2;exact LqIx h3 h1
def SR:gA:=λxs M q=>lD λ dϥ dΗ=>qk (xs= [Î,Í, hϱ]) ď aŶ (1<p) (Γ) (nÔ) iŵ gώ
def SA:gA:=λxs M q=>lD λ dϥ dΗ=>qk (xs= [Í, hϱ]) ď aŶ (Γ) (eϓ) (nÔ) iŵ gώ
def yF (s0:Ò)(gr:GD p r)(h: ∀st∈sts,nÌ /\ jÅ /\ nU s cĹ (Ī) r):vP s sts r=true /\ hÌ:=by
 have hb:hÌ:=by unfold sD;rw[de];intro st gD;let⟨sr,_,hl⟩:=bÐ;rw[de];intro y hy;let⟨x,hx,e⟩:=bπ;have h1:=fB gr eΞ;have h2:=hl x hϻ (by exact qī);rw[e] at h2;show cc h2
 show#[by rw[<- JW s0 λst gD=>#[_,(bÐ).1.B7 s0 (bÐ).2.1]];show hb,hb]
theorem v0.low (gK:Γ)(tr:eϓ)(hk:hŝ): ∀bG∈sts.drop Ü,nU s (cF s bG) (eC s bG) st:=λbG h'=>by let⟨j,hj⟩:=cr.mp h';rw[d7] at hj;show tr k (k+1+j) st bG _ _ qŖ hk hj (gK.of (au hj))
def GZ (l:Ì)(k:Nat):qS l (some (ģ+1)) none=l.drop Ü:=by rw[show ģ+1=((k+1:Nat):Int) by push_cast;rfl];show Be l Ü
universe e
def nq.aeW {pat rest:Pt}(hp:ϴ)(s0:Ò)(gK:Γ)(hr:cň)(tk:nq s p sts D Y pat rest P sts.length)(jm:fE s p sts (bΟ)):rest= []:=by let⟨J,hJ⟩:=jm;exact IW (f:=bΟ) (J':=λi=>tm Ï aî) hp s0 gK hr cX.nil tk.lowP (λi st c len _ _ x _ h=>eĠ) tk.eqv ķ;rw[yb,bu,hJ, <- bu];change dϛ=_;congr 1;lia
universe WQ
namespace WL
open PySem L2
def Qe:R2:=λx y H Q=>cM λc d=>d6 (bģ) (y= .bl d) (Q (.bl (c !=d)) H)
def VO:zx:=λx y M q=>cM λc d=>d6 (aŉ) (y=wb d) (q (wb (c !=d)) M)
instance {K:iQ}:IR K Qe VO where
 imp:=by rintro x y v u M H q Q m r1 r2 ⟨c,d,rfl,rfl,h⟩ k;show#[c,d,r1.eq,r2.eq,mΙ]
def JD:sv X iĔ Qe:=by intro aj s σ H x y v u Q I rx ry h;let⟨c,d,rfl,rfl,q⟩:=h;cases rx;cases ry;show PyProof.Rows.isnot_bool (dI I q rfl)
universe WL
namespace L2
open PySem PySem.Spec PyProof.Rows
def Es:lō:=λx vs H Q=>gm λl xs y=> ∃i:Nat,kM dĺ (vs= [Ă,y]) (iĥ) jį (eŦ) (Q .fD (dB H l (.lst (cġ++y::xs.drop i))))
def Gd:MtM X "list.insert" Es:=by
 intro aj s σ H x vs v us Q I rx rv h;let⟨l,xs,y,i,rfl,rfl,hH,hz,hi,q⟩:=h;cases rx;let⟨u0,u,rfl,⟨tk,rfl⟩,ru⟩:=rv.two;let⟨z,its,n,r,hl,e⟩:=aϦ;have hf:Builtin.List.listFitsIndex Ĥ=true:=by have hs:=c8;unfold Builtin.List.listFitsIndex;rw[Bool.and_eq_true,cy,cy];lia
 let⟨x,hx⟩: ∃x:Int,x=Ĥ:=Ĺ
 rw[<- hx] at hf ⊢;exact call_meets F.slot_list_insert cΘ F.entry_list_insert (F.args_list_insert_3 _ _ _) (PySem.AutoSeq1.list_insert_list_int_val_1 l its.toArray n x tk u (by simp[hf]) pϣ) #[e,?_];exact#[.fD,_,I.Td (its':=its.take i++u::its.drop i) hH e ?_ ((r.take i).append (.cons ru (r.drop i))) ?_,rfl,q];have hk:qē=i:=by rw[ai (by exact LqIm (Int.le_trans ϭ cĥ)),aU];lia
 change(its.toArray.extract 0 qē).push u++its.toArray.extract qē=_;rw[hk];apply Array.toList_inj.mp;simp;show nê;rw[aO,aT,bv,List.length_drop];exact Lqj ŵ ϱ Lq2 (.a ϕ (.a Lq0 eú)) jτ (LqNp hz (LqNp (iϵ) (cÚ))) rfl
universe L2
namespace WL
open PySem L2
section
variable {K:iQ}{M:Mp}{q:WK}
def My:WM:=λx ys M q=>gm λa l y=> ∃i:Nat,kM bő (ys= [wi i,y]) iϮ iϰ (i<=l.length) (q wn (um M a (.lst (bû++y::bü))))
instance:IM K Es My where
 imp:=by rintro x v ys us M H q Q m r1 r2 ⟨a,l,y,i,rfl,rfl,hl,hn,hi,h⟩ k;cases r1.eq;let⟨u0,u,rfl,r0,r⟩:=r2.two;cases r0.eq;let⟨vs,hv,rr⟩:=ŉ;show#[a,vs,u,i,rfl,rfl,hv,by rw[rr.length];show hn,by rw[rr.length];show hi,k _ _ _ _ h (nW hv) (m.putL hv ((rr.take i).append (.cons r (rr.drop i)))) WR.v]
universe e
universe WL
namespace WQ
open PySem L2 WL WP
def kz (s k:Int):Int:=if s=0 then 0 else k
def lpk (k:Int):ā ->Pt
 | []=> []
 | v::r=>(k,v)::lpk Ü r
def lp (l:ā):Pt:=lpk 0 l
universe WQ
namespace L2
open PySem
structure VA (K:PySem.W.Frag)(m qual:Str)(ps:bĖ)(st:Stmt)(C f:Addr)(fd:FuncData):Prop where
 mth:LD K C m f
 cl:aĮ
 fn:Hf K m qual st f fd
 bd:hđ
theorem Ah {pos f':Pos}{pl:Sem Bool}(M:lϝ)(F:oΤ)(hr:bĴ)(he:cü)(ha:gÞ)(gD:pό:=by rfl)(lK:pÖ:=by rfl)(ht:pĬ=(do
  let ov <- eģ
  hΝ
  let (f,first) <- nñ
  qŮ):=by rfl):
 PE X oŕ (zK C m sp [] E0 ta t):=Nk he M.cl M.mth F hr M.bd .nil Aj ha gD lK ht
theorem wQ (M:lϝ)(F:oΤ)(hr:bĴ)(he:cü)(ht:pÃ=(do
  let ov <- eģ
  hΝ
  let (f,first) <- nñ
  qŐ):=by rfl):
 PE X nϱ (zK C m sp [] E0 ta BX):=Jq he M.cl M.mth F hr M.bd .nil Aj ht
theorem C0 (X:K.In h)(G:iϡ)(a:kŜ=some (hÍ)): ∃t,mg x=hÍ:=#[t,fι]
theorem CF {kV kl pm cdv ct:fi}(c0:UN K mg x q' ps' bG C g fd')(a:W.findIn K Ń m=jĤ)(l:cΗ=some #[oc,od, .func pΨ,EC])(c:kè)(k:lô)(h2:kİ)(b: ∀ (kV kl pm:fi) (an:aÒ) (cdv ct:fi),DH ps.length λus=>bindArgs pΨ bĲ=hĐ:=by(repeat intro _);rfl): VA K m q ps st C f pΨ:=#[#[a,h2,k],c0.cl,bΡ,qĪ]
universe L2
namespace WL
open PySem L2
section
variable {K:iQ}
theorem AC {H:Hp}{f:Str}: ∀ {fs:Ž} {ks:dĦ},eŖ ->dÿ=Option.none ->dΚ=Option.none
 | _,_, .nil,_=>rfl
 | cĿ,(g',v)::ks, hϗ,h=>by
  cases iŚ;rw[List.lookup_cons] at h ⊢;cases hb:f==g with
  | true=>rw[hb] at h;cases h
  | false=>rw[hb] at h;show AC t h
def HF (C:gg)(m:Str)(p:gA)(a:WE)(b:WA):WE:=λρ M q=>a ρ M λx M1=>gm λ cř hŠ=>fU (x=wr o) (M1 o=iϑ) (hč) (b ρ M1 λxs M2=>p (aÂ) M2 q)
instance {C:gg}{m:Str}{p:gA}{E:XK}{t:TE}{u:TA}{a:WE}{b:WA} [ia:ň] [ib:bŏ]:IE K (zK C m bŒ [] E t u) (HF C m p a b) where
 imp:=λρ M σ H q Q o h k=>ia.imp ρ M σ H _ _ o h λx M1 v H1 ⟨ad,dx,fs,ex,hp,hl,h1⟩ t1 m1 r1=>by subst ex;let⟨ks,e,r⟩:=m1 ad _ hp;exact#[ad,dx,ks,r1.eq,e,AC r hl,ib.imp ρ M1 σ H1 _ _ Β h1 λxs M2 vs H2 h2 t2 m2 r2=> ?_];exact#[wr ad::xs,M2,q,db.cons cϑ (by rw[List.append_nil];show r2),m2,h2,?_];intro y M' u H' hq ts m' r';show k _ _ _ _ hq lĖ m' r'
def sS:HF C m p a b ρ M q=a ρ M λx M1=>iu x λo=>C1 (M1 o) λC' _ fs=>jg (C'=C /\ hč) (b ρ M1 λxs M2=>Bk p (aÂ) M2 q):=by unfold HF iu C1 jg Bk;congr 1;funext x M1;apply propext;symm;rintro⟨o,dx,fs,e1,e2,e3,h⟩;show#[o,e1,C,dx,fs,e2,#[rfl,e3],h];rintro⟨o,e1,C',dx,fs,e2,⟨rfl,e3⟩,h⟩;show#[o,dx,fs,e1,e2,e3,h]
universe e
universe WL
namespace WQ
open PySem L2 WL WP
def Rq (e r:Int)(a:Rd):Prop:=(-e<=a.1 /\ a.1<=e) /\ Bd r a.2
def Np:gA:=λxs M q=>gm λ aŞ (e r:Int)=>fU (xs= [gL a,wi e,wi r]) (Rq e r a) kÁ gώ
def Xn:gA:=λxs M q=> ∃a:Rd,fU (xs= [gL a]) (cŚ) kÁ gώ
structure O0 (p:Int)(ms:List Rd):Prop where
 len:eϩ
 pat: ∀a∈ms,bŴ
 UP: ∀a∈ms,cŚ
 zw: ∀a∈ms,cϠ<=49
def Xq:gA:=λxs M q=>gm λ aυ Ĩ dÅ=>fU eϪ mŵ (bè) (q wn M)
def lw (ns:ā):Nat:=ns.foldl (λg n=>Nat.gcd g n.natAbs) 0
def pGD:gA:=λxs M q=>cM λ aυ ż=>d6 eϪ (M u=kϑ) (q (wi dϦ) M)
def l4:lw (ns++ [n])=Nat.gcd (lw ns) n.natAbs:=by simp[lw]
def OE: ∀n∈ns,lw ns ∣ n.natAbs:=by
 induction ns using WP.gB with
 | h0=>intro n h;show nomatch h
 | h1 l a ih=>intro n h;rw[l4];obtain h | h:=ay.mp h;show Nat.dvd_trans (Nat.gcd_dvd_left _ _) (ih n h);rw[aϷ];show Nat.gcd_dvd_right _ _
def yT (h: ∀n∈ns,n.natAbs<=B):lw ns<=B:=by
 induction ns using WP.gB with
 | h0=>show dg _
 | h1 l a ih=>rw[l4];have i1:=ih λn hn=>h n fΟ;have i2:=h a ś;by_cases z:lw l=0;rw[z,Nat.gcd_zero_left];show i2;show aI (Nat.gcd_le_left _ (Nat.pos_of_ne_zero z)) i1
def LQ (S:cχ)(d:Int):Prop:= ∀x,S x -> ∀y,(y=x+d \/ y=x - d) -> -8<=y ->y<=8 ->S y
def FA (hS: lů)(a0:0<=a)(a8:a<=8)(b0:0<=b)(b8:b<=8)(ha:LQ S a)(hb:LQ S b):LQ S bÛ:=by intro x hx y hy h1 h2;have hxr:=hS x hx;obtain rfl | rfl:=hy;by_cases c:x+a<=8;show hb _ (ha x hx (x+a) ũ (by exact Lqi Û γ ι kϴ ο (LqIp a0 hxr.1) rfl) c) _ (.inr (by exact LqIx qĘ qė)) h1 h2;show ha _ (hb x hx (x - b) (ĸ) (by exact Lqi Ĝ γ Α (.a Lq2 (.a Lq1 iŶ)) nϡ mϘ rfl) (by exact Lqi Ĝ Α Ē (.a Lq0 (.a kü iŶ)) nϡ nŋ rfl)) _ (.inl (by exact LqIx (Lqi Ĝ ká (.a eε Lq1) ö ö LqI0 rfl) (Lqi Ĝ kÊ kü ö ö LqI0 rfl))) h1 h2;by_cases c:x+b<=8;show ha _ (hb x hx (x+b) ũ (by exact Lqi Û γ ι kϴ ο (LqIp b0 hxr.1) rfl) c) _ (.inr (by exact LqIx (Lqi Ĝ ký kñ ö ö LqI0 rfl) (Lqi Ĝ ké (.s Lq0 eυ) ö ö LqI0 rfl))) h1 h2;show hb _ (ha x hx (x - a) (ĸ) (by exact Lqi Ĝ γ Α (.a Lq1 (.a Lq2 iŶ)) nϡ mϘ rfl) (by exact Lqi Ĝ Α Ē (.a Lq0 (.a ký iŶ)) nϡ nŋ rfl)) _ (.inl (by exact LqIx (Lqi Ĝ ký kÊ ö ö LqI0 rfl) (Lqi Ĝ kÊ ký ö ö LqI0 rfl))) h1 h2
theorem zd {S:cχ}(hS: lů): ∀ (n a b:Nat),a+b<=n ->a<=8 ->b<=8 ->LQ S a ->LQ S b ->LQ S (dϧ:Nat)
 | n,0,b,_,_,_,_,hb=>by rw[Nat.gcd_zero_left];show hb
 | n,a+1,0,_,_,_,ha,_=>by rw[Nat.gcd_zero_right];show ha
 | 0,a+1,b+1,h,_,_,_,_=> ∅
 | Ê,a+1,b+1,h,h1,h2,ha,hb=>by by_cases c:b<=a;have hc:=FA hS Ϲ mϙ Ϲ ∅ ha hb;have e:hÎ - hÏ=((dϨ:Nat):Int):= ∅;rw[e] at hc;have:=zd hS n (dϨ) (b+1) ∅ (by exact Lqj Û Lq0 Ē læ mê mą rfl) h2 hc hb;rwa [Nat.gcd_sub_self_left (by exact Lqj Û ϒ ϑ Lq0 Lq1 c rfl)] at this;have hc:=FA hS Ϲ (by exact Int.ofNat_le.mpr h2) Ϲ mϙ hb ha;have e:hÏ - hÎ=((dϩ:Nat):Int):= ∅;rw[e] at hc;have:=zd hS n (a+1) (dϩ) ∅ h1 (by exact Lqj Û Lq0 Ē læ mê (LqNp h2 ií) rfl) ha hc;rwa [Nat.gcd_sub_self_right (by exact Lqj Û ϒ ϑ ϒ Lq1 (LqNw c) rfl)] at this
def OR (h:LQ S d):LQ S (d.natAbs:Nat):=by intro x hx y hy;exact h x hx y ?_;lia
def OQ (hS: lů):(kþ) ->(hŢ) ->LQ S dϦ:=by
 induction ns using WP.gB with
 | h0 => intro _ _ x hx y hy _ _;have:y=x:=by simp[lw] at hy;show hy
         rw[this];show hx
 | h1 l a ih=>intro h8 hc;rw[l4];show zd hS _ _ _ õ (yT lϞ) (h8 a ś) (ih (lϞ) λn hn=>hc n fΟ) (OR (hc a ś))
def Dc (hS: lů)(h0:S 0)(h8: kþ)(hc: hŢ):S dϦ:=by have:=yT h8;show OQ hS h8 hc 0 h0 _ (.inl (by exact LqIx pĝ pĜ)) (by exact Lqi [_] γ Lq0 ö Lq0 ϭ rfl) (by exact jϑ)
theorem DZ {f:Š}{e:Int}: ∀ {n:Nat} {x:Int},cϤ≠0 -> ∃k:Nat,k<n /\ f (x - e*k)≠0
 | 0,_,h=>eĠ
 | Ê,x,h=>by by_cases c:f cĲ=0;let⟨k,hk,g⟩:=DZ (f:=f) (e:=e) (n:=n) (x:=x) λz=>h (by rw[iE,z,c];rfl);show#[k, (by exact Lqj Û ϒ ϑ ϒ Lq1 hk rfl),g];show#[n, lÈ,c]
theorem D0 {f:Š}{e:Int}: ∀ {n:Nat} {x:Int},cϥ≠0 -> ∃k:Nat,k<=n /\ f (x+e*k)≠0
 | 0,_,h=>eĠ
 | Ê,x,h=>by by_cases c:hϪ=0;let⟨k,hk,g⟩:=D0 (f:=f) (e:=e) (n:=n) (x:=x) λz=>h (by rw[lN,z,c];rfl);show#[k, (by exact Lqj Û Lq0 ϑ Lq0 Lq1 hk rfl),g];show#[n+1, lÈ,c]
def JU (k0:0<=k)(kn:k<=n)(h: -c<=e*n /\ e*n<=c): -c<=e*k /\ e*k<=c:=by by_cases z:0<=e;have h1:=bg kn z;have h2:=cD z k0;exact ⟨Lqi Ĝ Ņ Lq1 (.a Lq2 (.a Lq1 ϣ)) (.a Lq0 (.a Lq2 eê)) (LqIp h.2 kŭ) rfl,Int.le_trans h1 h.2⟩;have h1:=Int.mul_le_mul_of_nonpos_left oţ kn;have h2:=Int.mul_nonneg_of_nonpos_of_nonpos oţ (show -k<=0 by exact Lqi [_] Ņ ö ö Lq0 k0 rfl);rw[Int.mul_neg] at h2;exact ⟨Int.le_trans h.1 h1,Lqi Ĝ Lq0 Lq1 (.a Œ mâ) (.a Lq2 (.a Lq0 (.a Ņ Ņ))) (LqIp h.1 kŭ) rfl⟩
def Ep (h:cϧ)(hb:Bd b a.2)(hc: -c<=a.1*n /\ a.1*n<=c):Bd (b+c) r.2:=by
 intro z hz;have ht:dM r.2 z.1=z.2:=HX h.pt.2 z hz;have BC:=h.pt.1 z hz;have cS:m7 (dM a.2) a.1 n z.1≠0:=λe=>by have h1:=h.at_ z.1;rw[e,Int.zero_emod,ht] at h1;exact Lqf [_] ϶ ϖ (LqIp BC.1 ((LqIe h1))) rfl
 have jf: ∀y,dM a.2 y≠0 -> -b<=y /\ y<=b:=λy hy=>aB λg=>hy (MF hb ∅);unfold m7 at cS;by_cases n0:n<0;rw[ak n0] at cS;let⟨k,hk,g⟩:=D0 cS;have h1:=jf _ g;have h2:=JU (e:=a.1) (k:=k) (n:= -n) (c:=c) Ϲ ∅ (by rw[Int.mul_neg];exact ⟨Lqi Û Ņ Œ Lq1 Lq0 hc.2 rfl,Lqi Û Ņ Lq1 Œ Lq0 hc.1 rfl⟩);exact ⟨Lqi ř iÉ Lq2 (.a Ņ Lq3) (.a ν Lq1) hŕ rfl,Lqi ř Lq0 ξ (.a μ bĺ) eõ (LqIp h1.2 h2.1) rfl⟩;rw[ai n0] at cS;let⟨k,hk,g⟩:=DZ cS;have h1:=jf _ g;have h2:=JU (e:=a.1) (k:=k) (n:=n) (c:=c) Ϲ ∅ hc;exact ⟨Lqi ř iÉ Lq2 (.a Ņ Œ) (.a eθ Lq3) hŏ rfl,Lqi ř Lq0 ξ (.a eζ Lq3) ξ hŐ rfl⟩
def CP (h1:Bd b a.2)(h2:Bd c r.2)(hd: -d<=a.1 /\ a.1<=d)(hb:b<=c+d):Bd (c+d) (jn p a r).2:=by intro z hz;let⟨y,hy,e⟩:=JM hz;obtain hy | hy:=ay.mp hy;have:=h1 y hy;exact ⟨Lqi ŵ iÉ Lq2 (.a Lq3 (.a Lq4 bύ)) mϚ (LqIp hb kŞ) rfl,Int.le_trans Ŏ (Int.le_trans ú hb)⟩;let⟨w,hw,rfl⟩:=bπ;have:=h2 w hw;have e:w.1+a.1=z.1:=e;lia
def Cg {l:aó}{i:Nat}(h:(l.map gL)[i]? =û): ∃r,ç =ô /\ x=gL r:=by
 rw[aE] at h;cases e:ç with
 | none=>rw[e] at h;cases h
 | some r=>rw[e] at h;cases h;show eϫ
def mS {l:ā}{i:Nat}(h:kł): ∃r,ç =ô /\ x=wi r:=by
 rw[aE] at h;cases e:ç with
 | none=>rw[e] at h;cases h
 | some r=>rw[e] at h;cases h;show eϫ
inductive zi (ns:Ĳ):gϩ ->cχ
 | nil:zi ns [] 0
 | snoc {r:gϩ} {x e w y:Int} {k:Nat}:cŜ ->gĿ ->(eϬ) ->y=x+e*w -> -8<=y ->y<=8 ->zi ns (r++ fΤ) y
def SI:gA:=λxs M q=>cM λ aυ ż=>jS (xs= [wr u,wi dϦ]) (M u=kϑ) (kþ) (ns.length<=6) (∀ (v:gg) (M':Mp) (row:fō),zi ns row dϦ ->gŀ ->(lw ns=0 ->row= []) ->M v=none ->Ħ ->M' v=lĨ ->q (wr v) M')
def nr (R:Pq)(x:Int):Prop:=x∈eϭ
structure LS (ns:Ĳ)(R:Pq):Prop where
 nd:(eϭ).Nodup
 Ho: ∀x,aχ -> fΡ
 Rv: ∀t∈R,zi ns ì t.1
 len: ∀t∈R,eΖ<R.length
 kz:nr R 0
 zr: ∀t∈R,t.1=0 ->ì= []
theorem JR {lo:Int}: ∀ (n:Nat) (l:ā),l.Nodup ->(∀x∈l,lo<=x /\ x<À) ->l.length<=n
 | 0,l,_,h=>by
  cases l with
  | nil=>show Â
  | cons x l=>have:=h x ś;lia
 | n + 1,l,nd,h=>by
  have h1:=JR (lo:=lo) n (nÕ) (nd.sublist kÒ) λx hx=>by let⟨h1,h2⟩:=bο;have:=h x h1;have:=of_decide_eq_true h2;lia
  have h2:l.length<=(nÕ).length+1:=by
   have:=List.length_eq_countP_add_countP (λx=>iÖ) (l:=l);rw[<- List.countP_eq_length_filter];have h3:pé <=1:=by
    have e:pé=l.count ó:=by unfold List.count;exact List.countP_congr λx _=> ?_;simp
    rw[e];show List.nodup_iff_count.mp nd _
   exact Lqj Ĝ Lq0 ϑ π lÌ (LqNp dŌ h3) rfl
  exact Lqj Ĝ Lq0 ϑ υ ϰ eŁ rfl
def LS.most (h:bé):R.length<=17:=by
 have:=JR (lo:= -8) 17 (eϭ) h.nd λx hx=>by have:=h.Ho x hx;lia
 rwa [ab] at this
theorem LS.one:LS ns [(0,a,[])]:=#[by simp,λx h=>by simp[nr] at h;exact ⟨Lqi [_] γ Lq0 ö Lq0 (LqId h) rfl,LqIv (LqIe h) rfl⟩,λt h=>by rw[aϷ];show .nil,λt h=>by rw[aϷ];show Nat.zero_lt_one,by simp[nr],λt h _=>by rw[aϷ]]
def LS.add {k:Nat}(b:bé)(hh:dϫ)(hk:gĿ)(hw:eϬ)(hy:y=h+e*w)(y0: -8<=y)(y1:y<=8)(ny:¬nr R y):LS ns nÖ:=by exact#[?_,Ź,ſ,ſ,?_,λt ht t0=> ?_];rw[aR];exact List.nodup_append.mpr #[b.nd,by simp,λx hx z hz=> ?_];simp at hz;subst hz;intro e;subst e;show ny hx;unfold nr at hx;rw[aR] at hx;obtain hx | hx:=bý;show b.Ho x hx;simp at hx;exact ⟨Int.le_trans y0 cĥ,Int.le_trans cĦ y1⟩;obtain ht | ht:=bϝ;show b.Rv t ht;rw[bϞ];show(b.Rv _ hh).snoc hk hw hy y0 y1;rw[aO,bW];obtain ht | ht:=bϝ;have:=b.len t ht;exact Lqj Û ϒ ϑ ϒ Lq1 this rfl;rw[bϞ];have h1:c.length<R.length:=b.len _ hh;change(c++ fΤ).length<_;rw[aO,bW];exact Lqj Û ϵ ϑ ϒ Lq1 h1 rfl;unfold nr;rw[aR];show ay.mpr (.inl b.kz);obtain ht | ht:=bϝ;show b.zr t ht t0;rw[bϞ] at t0;have t0:y=0:=t0;rw[t0] at ny;show absurd b.kz ny
structure zz (ns:Ĳ)(R0 R:Pq)(F:Ĳ)(D:cχ):Prop where
 UC:bé
 old: ∀x,nr R0 x ->aχ
 new: ∀x,aχ ->nr R0 x \/ x∈F
 fin: ∀x∈F,aχ
 cnt:R.length=R0.length+F.length
 dn: ∀y,D y -> kÿ
theorem zz.weak (h:gŁ)(w: ∀y,D' y ->D y):zz ns R0 R F D':=#[h.UC,h.old,h.new,h.fin,h.cnt,λy d=>h.dn y (w y d)]
def mO:nr (R++ [(y,a,c)]) x↔aχ \/ x=y:=by unfold nr;simp
def zz.add {k:Nat}(b:gŁ)(hh:dϫ)(hk:gĿ)(hw:eϬ)(hy:y=h+e*w)(y0: -8<=y)(y1:y<=8)(ny:¬nr R y): zz ns R0 nÖ (F++ [y]) iØ:=by
 exact#[b.UC.add hh hk hw hy y0 y1 ny,λx hx=>mO.mpr (.inl (b.old x hx)),Ź,Ź,?_,λz hz g0 g1=> ?_];obtain hx | rfl:=mO.mp hx;show(b.new x hx).imp id λg=>by simp[g]
 show .inr ś;obtain hx | hx:=bý;show mO.mpr (.inl (b.fin x hx));show mO.mpr (.inr (bĂ));have:=b.cnt;rw[aO,aO,bW,bW];exact LqNx (Lqj Ĝ ϒ ϰ Lq0 ξ dŌ rfl) (Lqj Ĝ ϱ ϓ ι Lq2 dį rfl);obtain hz | hz:=hz;show mO.mpr (.inl (b.dn z hz g0 g1));show mO.mpr (.inr hz)
def VC (ns:ā)(R:Pq)(E:ā):Prop:= ∀x,aχ ->x∉E -> ∀n∈ns, ∀y,(hţ) -> kÿ
theorem zz.cld (h:zz ns R0 R F oŤ)(c:VC ns R0 E):VC ns R F:=λx hx nx n hn y hy y0 y1=>by obtain h0 | h0:=h.new x hx;by_cases e:x∈E;show h.dn y #[x,e,n,hn,hy] y0 y1;show h.old y (c x h0 e n hn y hy y0 y1);show absurd h0 nx
theorem VC.gd (h8: kþ)(b:bé)(z:nr R 0)(c:VC ns R []):nr R dϦ:=Dc (S:=nr R) b.Ho z h8 λn hn x hx y hy=>c x hx ś n hn y hy
def uG (h:aχ): ∃t∈R,t.1=x /\ iŷ=some (bψ):=by
 rw[oK];cases e:më with
 | some t=>show#[t,mì, kŮ,rfl]
 | none=>let⟨t,ht,rfl⟩:=bÑ;have:=mľ;simp at this
def EL (h:¬aχ):iŷ=none:=by
 rw[oK];cases e:më with
 | none=>rfl
 | some t=>show absurd (ag.mpr #[t,mì, kŮ]) h
def Zt (M M':Mp)(R:Pq):Prop:= ∀t∈R,M ë=none /\ M' ë=some (.lst (t.2.2.map cx))
theorem Zt.mv {M M1 M2:Mp}(h:Zt M M1 R)(s:Sm M1 M2):Zt M M2 R:=λt ht=>#[(h t ht).1,s _ _ (h t ht).2]
theorem zz.ext (b:gŁ)(h: kÿ):zz ns R0 R F iØ:=#[b.UC,b.old,b.new,b.fin,b.cnt,λz hz g0 g1=>hz.elim (λg=>b.dn z g g0 g1) λe=>by subst e;show h g0 g1]
structure UF (M M2:Mp)(rd ed rc:Addr)(E:Ĳ)(R:Pq)(F:Ĳ):Prop where
 sm:aϭ
 rows:M2 rd=iÙ
 edge:M2 ed=ků
 new:M2 rc=some (.lst (F.map wi))
 at_:Zt M M2 R
 n1: ∀t∈R,ë≠rc
 n2:ed≠rc
def UF.add {M M2 M3:Mp}(h:UF M M2 rd ed rc E R F)(Q2:M rd=none)(Q3:M rc=none)(s:Sm M2 M3)(fv:M2 v=none)(hv:M3 v=some (.lst (c.map cx))): UF M (um (um M3 rd (.dK (lG hÐ))) rc (.lst ((F++ [y]).map wi))) rd ed rc E hÐ (F++ [y]):=by
 have nrc:rd≠rc:=λx=>by have:=h.rows;rw[x,h.new] at this;cases this
 have ned:ed≠rd:=λx=>by have:=h.edge;rw[x,h.rows] at this;cases this
 have nv:v≠rc:=λx=>by have:=h.new;rw[<- x,fv] at this;cases this
 have lst: ∀a l,M3 a=fŁ ->a≠rd:=λa l e x=>by rw[x,s _ _ h.rows] at e;cases e
 exact#[((h.sm.trans s).um Q2).um Q3,by rw[aH nrc,av],by rw[aH h.n2,aH ned];show s _ _ h.edge,av,ſ,ſ,h.n2];obtain ht | ht:=bϝ;have:=h.at_ t ht;exact#[ü,?_];rw[aH (h.n1 t ht),aH (lst _ _ (s _ _ ú))];show s _ _ ú;rw[bϞ];exact#[h.sm.free fv,?_];change um (um M3 rd _) rc _ v=_;rw[aH nv,aH (lst _ _ hv)];show hv;obtain ht | ht:=bϝ;show h.n1 t ht;rw[bϞ];show nv
def zi.Ho (h:cŜ): fΡ:=by
 cases h with
 | nil=>decide
 | snoc _ _ _ _ a b=>show#[a,b]
def zi.aa' (h:cŜ)(e:r= []):x=0:=by
 cases h with
 | nil=>rfl
 | snoc _ _ _ _ _ _=>simp at e
def zi.at (h:cŜ): ∀ {i:Nat} {k w:Int},r[i]? =some (k,w) ->gm λ(kn:Nat) (e y:Int)=>jS (k=kn) (ns[kn]? =aġ) (eϬ) (zi ns (r.take i) y) (zi ns (r.take ß) (y+e*w)):=by
 induction h with
 | nil=>intro i k w h;simp at h
 | @snoc r x e w y k hr hk hw hy y0 y1 ih=>
  intro i k' w' h;by_cases c:i<r.length;rw[br c] at h;rw[List.take_append_of_le_length (by exact Nat.le_of_lt c),List.take_append_of_le_length (by exact c)];show ih h;have hi:i=r.length:=by have:=(aϥ).1;rw[aO,bW] at this;exact LqNx (Lqj Û Lq0 Lq1 ϒ ϑ this rfl) (LqNz c)
  subst hi;rw[a6 õ] at h;simp at h;let⟨rfl,rfl⟩:=h;exact#[k,e,x,rfl,hk,hw,by rw[List.take_left];show hr,?_];rw[nê, <- hy];show hr.snoc hk hw hy y0 y1
def zi.uniq (h:cŜ): ∀ {y:Int},zi ns r y ->x=y:=by
 induction h with
 | nil=>intro y hy;show(hy.aa' rfl).symm
 | @snoc r x e w z k hr hk hw hy y0 y1 ih=>
  intro y h2;generalize hq:r++ fΤ=q at h2;cases h2 with
  | nil=>simp at hq
  | @snoc r' x' e' w' _ k' qP vT yL Tp _ _=>have hq:=List.append_inj' hq rfl;let⟨rfl,hq⟩:=hq;simp at hq;let⟨Ht,rfl⟩:=hq;have:k=k':= ∅;subst this;rw[hk] at vT;cases vT;rw[hy,Tp,ih qP]
def Dn (h:aŕ)(hb:Bd b l)(b0:0<=b):l.length<=fΥ:=by
 have:=JR (lo:= -b) fΥ (eŠ) (by rw[List.nodup_iff_pairwise_ne,cz];show h.2.imp λg=> (by exact λe=>Lqf Û ϳ ο (LqIp g (Ŏ)) rfl)) λx hx=>by let⟨z,hz,rfl⟩:=bν;have:=hb z hz;exact rç
 rwa [ab] at this
def SO:gA:=λxs M q=>Zq λ(u v:gg) (p x:Int) dÅ (row:fō)=>qk (xs= [Î,wr u,wr v]) è bŰ mŵ (M v=lĨ) (bè) (zi (Ρ) row x) (gŀ /\ ∀lap:Rd,lap.1=x ->cX p lap.2 ->dϬ ->(row= [] ->lap=aŠ) ->q (gL lap) M)
def Ay (s e:Int):Int:=if s=0 then 0 else e / s
def Xk (C:gg):gA:=λxs M q=>Lw λ cř hŠ (s e:Int)=>jS (xs= [wr o,wi e]) (M o=iϑ) (oÄ) (Ò /\ s<1000) (q (wi (Ay s e)) M)
def SM (C:gg):gA:=λxs M q=>FJ λ cř hŠ cİ (lap a:Rd) (_:Unit)=>qk (xs= [wr o,gL lap,gL a]) (M o=iϑ) (fs.lookup dÆ=ε /\ oÄ /\ fs.lookup fΦ=none) (0<p /\ aŚ /\ Ò /\ s<=8) (lap.1=s /\ cX p lap.2 /\ dϬ) (bŴ /\ cŚ) (s ∣ a.1) (∀r:Rd,cX p r.2 ->Bd 56 r.2 ->(s=0 ->Bd 24 r.2) ->q (gL r) M)
def wc (s:Int):Nat:=if s=0 then 0 else((55+s) / s).toNat
def VG (s0:Ò)(s8:s<=8):wc s<=60 /\ s*wc s<=68 /\ (s=0 ->wc s=0):=by have:pο:= ∅;obtain rfl | rfl | rfl | rfl | rfl | rfl | rfl | rfl | rfl:=this <;>decide
theorem Lo (h:Bd b l):Wt b l:=λx hx=>by let⟨z,hz,rfl⟩:=ag.mp (e9 hx);show h z hz
def bxc (s0:Ò)(s8:s<=8)(h:Bd 56 a):qp s 56 (wc s) (wc s) a:=by exact#[Ź,λ_=>Lo h];have h1:=Lo h x hx;have:pο:= ∅;obtain rfl | rfl | rfl | rfl | rfl | rfl | rfl | rfl | rfl:=this <;>simp[hI,wc] <;>omega
theorem R8 (h:Γ)(hw: ∀st∈sts,Wt D' st)(l:D'<=D):v7 s p sts D':=#[λi st hi=>by let⟨c,len,sr,hl⟩:=h.each i st hi;show#[c,len, {sr with wt:=hw st (au hi)},hl],λi j st bG c len c' Aw iR hi hj a b=>h.z8 i j st bG c len c' Aw iR hi hj kŰ {b with wt:=b.wt.up l}]
theorem ME (h:eϓ)(l:D'<=D):v0 s p sts D':=λi j st bG c len iR hi hj a=>h i j st bG c len iR hi hj kŰ
structure CrF (p s:Int)(sts:Į)(rest:Pt):Prop where
 gK:v7 s p sts 7748
 trim:v0 s p sts 7748
 wt: kű
 zw:fΧ
 pat:cň
 rwt:Wt 46600 rest
 low: ∀st∈sts,nU s cĹ (Ī) rest
 still:s=0 ->rest= []
def Vv (p:Int)(ms:aó):Ž:= [iÚ,((bϟ :Str), .tup (cś))]
def Uy (p:Int)(ms:aó)(s:Int):Ž:=bê++ [(hÑ,Í)]
def G4 (p:Int)(ms:aó)(s:Int)(v:gg):Ž:=cŝ++ [(eϮ,wr v)]
def cf5 (p:Int)(ms:aó)(s:Int)(v:gg)(sts:ê):Ž:=dϭ++ [((bϠ :Str), hϱ)]
def Ux (p:Int)(ms:aó)(s:Int)(v:gg)(sts:ê)(w:gg):Ž:=hŤ++ [((bϡ :Str),wr w)]
def cf7 (p:Int)(ms:aó)(s:Int)(v:gg)(sts:ê)(w:gg)(rest:Pt):Ž:=iÛ++ [(fΨ,gL bϢ)]
def y8 (p s:Int)(ms:aó)(v w z:gg)(sts:ê)(rest:Pt):Ž:=kϵ++ [((cŞ :Str),wr z)]
theorem ae8:g_ bϟ (.tup (cś)) [iÚ]=bê:=rfl
theorem ae7:g_ ŗ (Í) (bê)=cŝ:=rfl
theorem ae6:g_ "way" (wr v) (cŝ)=dϭ:=rfl
theorem ae5:g_ bϠ (hϱ) (dϭ)=hŤ:=rfl
theorem ae4:g_ bϡ (wr w) (hŤ)=iÛ:=rfl
theorem ae3 {rest:Pt}:g_ "head" (.tup [Í,cK rest]) (iÛ)=kϵ:=rfl
theorem ae2 {rest:Pt}:g_ cŞ (wr z) (kϵ)=lĩ:=rfl
theorem ae1:(cŝ).lookup hÑ=δ:=rfl
theorem Zi:jš hÑ=δ:=rfl
theorem Ze:jš eϮ=dϮ:=rfl
theorem Zf:jš dÆ=ε:=rfl
theorem Zg:jš ("level" :Str)=none:=rfl
theorem Zh:jš fΦ=none:=rfl
theorem Zd:(iÛ).lookup hÑ=δ:=rfl
theorem Zc:(bê).length=2:=rfl
theorem Zb:(cŝ).length=3:=rfl
theorem Za:(dϭ).length=4:=rfl
theorem Y_:(hŤ).length=5:=rfl
theorem Y':(iÛ).length=6:=rfl
theorem Y9 {rest:Pt}:(kϵ).length=7:=rfl
def Xo (C:gg):gA:=λxs M q=>Lw λ(o dx u:gg) Ĩ dÅ=>Lx (xs= [wr o,Î,wr u]) (M o=some gÜ) mŵ (o≠u) lΖ (bè) (∀ (M':Mp) (v w z:gg) (sts:ê) (rest:Pt),oč ->(∀b ob,aô ->dϯ ->M' b=Ğ) ->M' o=some (.ins C dx (y8 p lĪ ms v w z sts rest)) ->aϱ)
theorem aeZ {rest:Pt}:nŌ hÑ=δ:=rfl
theorem aeY {rest:Pt}:nŌ (bϠ :Str)=lī:=rfl
theorem ae0 {rest:Pt}:nŌ fΨ=some (gL bϢ):=rfl
theorem Y8 {rest:Pt}:nŌ ("form" :Str)=none:=rfl
def rM (s:Int)(sts:ê)(rest:Pt):W:= .tup [Í,gL bϢ, hϱ]
def Xm (C:gg):gA:=λxs M q=>FJ λ cř cİ dÅ (v w z:gg)=>cM λ dΗ (rest:Pt)=>d6 (xs= [wr o]) (M o=some (.ins C dx (lĩ))) (q hÒ M)
def Xl:gA:=λxs M q=>cM λ aυ dÅ=>d6 eϪ mŵ (q (wi lĪ) M)
def Nw:gA:=λxs M q=>Lw λ aυ Ĩ dÅ dΗ (rest:Pt)=>Lx (xs= [Î,wr u,rM lĪ sts rest]) mŵ ař (p<=7) (lw (Ρ) <=8) (oč) gώ
def Xh:gA:=λxs M q=>gm λ bů Ĩ=>jS (xs= [wr d,Î]) cϞ ař (p<=7) (∀ (u:gg) (ms:aó) (M':Mp),bè ->M u=none ->mĿ ->cĪ ->cľ ->dϰ)
def EH (p0:0<p)(h1: -e<=g /\ g<=e)(he:e<=8)(h2:gύ <=m)(hm:m<=49)(h3: ∀z∈ps, -f<=z.1 /\ z.1<=f /\ gċ)(hf:f<=24):cX p cĨ /\ Rq 8 24 dŽ /\ hĩ<=49:=by exact#[bæ,#[by change -8<=g /\ g<=8;exact ⟨Lqi Û γ Lq0 (.a Œ Lq1) (.a Lq0 Ē) (LqIp Õ he) rfl,Int.le_trans h1.2 he⟩,dŸ],aI bŵ ∅];let⟨y,hy,e⟩:=JM hz;have:=h3 y hy;exact ⟨Lqi Ĝ (.g (.n 24)) Lq0 (.a Lq1 iË) (.a (.n 24) π) (LqIp hf kŞ) rfl,Int.le_trans Ŏ (Int.le_trans ú.1 hf)⟩
theorem O0.of (h:eϩ)(g: pê):bè:=#[h,λa ha=>bϣ.1,λa ha=>bϣ.2.1,λa ha=>bϣ.2.2]
def Ci:iľ:=by simp[gj]
def U3 (a:Rd):Dt:= .tup [.int a.1,uk a.2]
def A1 (l:Pt):oB (uk l) <=2:=by unfold uk;rw[oB];have:=oA l;exact pû
def Fc (a:Rd):oB (U3 a) <=3:=by unfold U3;rw[oB,kD,kD,kD];have:=A1 a.2;have:oB (Dt.int a.1)=0:=rfl;lia
def OO (l:aó):oB (.lst (l.map U3)) <=50:=by rw[oB];have:=uZ Fc l;exact Lqj [_] ϒ (.n 50) Lq0 (.n 3) this rfl
def AS (s:Int)(sts:ê)(rest:Pt):Dt:= .tup [.int s,U3 bϢ, iÜ]
def qd {rest:Pt}:Bc hÒ=some (fΩ):=by
 have h:Bc (hϱ)=some (iÜ):=by rw[Bc,vc Ft];rfl
 unfold rM;rw[Bc,kE,kE,kE,kE,vd,h];rfl
def A2 {rest:Pt}:oB (fΩ) <=50:=by unfold AS;rw[oB,kD,kD,kD,kD,oB.eq_def (iÜ)];have h1:=Fc bϢ;have h2:=uZ A1 sts;have h3:oB (Dt.int s)=0:=rfl;dsimp only;lia
def Qk:gA:=λxs M q=>gm λ Ĩ aŞ Ġ=>qk kŏ è bŰ (bŴ) kÁ (n<0) qÅ qϔ
def Nr:Xg xs M q ->Ql xs M q \/ Qk xs M q:=by rintro⟨p,a,n,rfl,p0,p1,hP,hl,hb,k⟩;by_cases hn:n<0;show .inr #[p,a,n,rfl,p0,p1,hP,hl,hn,hb,k];exact .inl #[p,a,n,rfl,p0,p1,hP,hl, (by exact LqIz hn),bϤ,k];let⟨_,h2,h3⟩:=hb h;have e:hť:= ∅;rw[e];show#[h2,h3]
universe WQ
set_option synthInstance.maxSize 100000
set_option synthInstance.maxHeartbeats 0
open PySem L2 WL WP WQ EN PyProof.Rows
local macro_rules | `(tactic| simp? [$xs,*]) => do let a <- ("abc aeV aa5 afb abn abo afz aaV aaI aaJ aaK abj aam aal aak aaj aai aah aag aaf aae aad ZW ZV ZU ZT ZS ZR ZQ ZP ZO ZN ZM ZL ZK ZJ afJ afm afj afI afp afH afq afn ZX aaC afl aar Z8 aaq Z0 afo VZ aas Z5 aan aat aax aaw UR abp ZZ afk aao afr Z7 aav aau aaD Z2 UT US Ry aay afs UW aaA VI Z3 Z4 UV VX _j _n _m aaR _i aft aaU aaH aaS WU aaT WD Z9 aaG Z_ aaE aaF ZY _P abm aa6 _O Z6 aac VY N_ aap VW MN MP aaz _l abq XY UU Z1 WV".splitOn " ").toArray.mapM λs => `(Lean.Parser.Tactic.simpLemma| ↓ $(Lean.mkIdent s.toName):term); let b <- ("Qx N6 Qw L6 N5 N8 L8 N7 Kd L7 Qv NX Qu L3 NW Gm ET Gk CO ES LZ Kb LY Hq Ka N1 L5 NY Kc L4 sl1 sl2 sl3 sl4 sl0 List.map_cons List.map_nil List.length_cons List.length_nil Nat.zero_add List.cons_append List.nil_append List.set_cons_zero List.set_cons_succ av q_ FH afF afE afD afx afw afv Bool.not_true Bool.not_false List.getElem?_cons_zero List.getElem?_cons_succ Option.join_some and_self and_true true_and Option.getD_some Option.getD_none _a no".splitOn " ").toArray.mapM λs => `(Lean.Parser.Tactic.simpLemma| $(Lean.mkIdent s.toName):term); `(tactic| try simp only [$a,*, $b,*, Nat.reduceAdd, Nat.reduceSub, List.reduceReplicate, $xs,*])
local macro_rules | `(tactic| dsimp? [$xs,*]) => `(tactic| (simp? [↓eU, $xs,*]; repeat (with_reducible refine kh ?_; simp? [↓eU, $xs,*])))
local macro_rules | `(tactic| trivial) => `(tactic| first | exact Or.inl rfl | exact Or.inr rfl)
local macro_rules | `(tactic| right) => `(tactic| decide +kernel)
local macro_rules | `(tactic| left) => `(tactic| (intro _ _ _ h; (repeat (cases h; rename_i h)); subst_vars; rfl))
set_option hygiene false
local macro_rules | `(tactic| exists $a, $n, $c) => `(tactic| (have nd : List.Nodup ($n : List Str) := (by decide +kernel); refine _A (N := $n) $a ⟨rfl, rfl, rfl, nd, rfl, by decide +kernel, by decide +kernel⟩ (by left) λcdv A' outer s H E hr => ?_; refine ⟨_, $c, ?_⟩; (try dsimp only [qe]); refine ⟨_, inferInstance, ?_⟩))
set_option hygiene true
set_option hygiene false
local macro_rules | `($a ∩ $b) => `(bV (show ZB _ (So K) from dm) $a $b (λ_ _ => rfl))
local macro_rules | `($a ∪ $b) => `(bV (show ZB _ (Sn K) from cB) $a $b (λ_ _ => rfl))
local macro_rules | `($i \ $e) => `(Su (i := $i) nd rfl (by trivial) $e)
set_option hygiene true
namespace gY
open PySem L2 WL WP WQ EN PyProof.Rows
nonrec def top (i:Nat):Stmt:=PySem.Challenge.pw_duskround_k27_the_form_of_a_crew.main.body.getD i (hĶ)
nonrec abbrev B_:Stmt:=top 6
nonrec abbrev Em:Stmt:=top 7
nonrec abbrev yj:Stmt:=top 8
nonrec abbrev yh:Stmt:=top 9
nonrec abbrev yi:Stmt:=top 11
nonrec abbrev z4:Stmt:=top 12
nonrec abbrev uh:Stmt:=top 13
nonrec abbrev ju:Stmt:=top 14
nonrec abbrev kc:Stmt:=top 15
nonrec abbrev wP:Stmt:=top 17
nonrec abbrev PU:Stmt:=xi (top 19) 0
nonrec abbrev En:Stmt:=xi (top 20) 0
nonrec abbrev z6:Stmt:=top 21
nonrec abbrev jw:Stmt:=top 22
nonrec abbrev mE:Stmt:=top 23
nonrec abbrev n9:Stmt:=top 24
nonrec abbrev Ej:Stmt:=top 25
nonrec abbrev nD:Stmt:=top 26
nonrec abbrev rq:Stmt:=top 27
nonrec abbrev j5:Stmt:=top 28
nonrec abbrev PR:Stmt:=top 29
nonrec abbrev Ei:Stmt:=top 30
nonrec abbrev kP:Stmt:=top 31
nonrec abbrev Eh:Stmt:=top 32
nonrec abbrev wM:Stmt:=top 33
nonrec abbrev wN:Stmt:=top 34
nonrec abbrev sW:Stmt:=top 35
nonrec abbrev rn:Stmt:=top 44
nonrec abbrev lr:Stmt:=top 45
nonrec abbrev jv:Stmt:=top 46
nonrec abbrev zY:Stmt:=top 47
nonrec abbrev ug:Stmt:=top 48
nonrec abbrev yk:Stmt:=xi bϥ 0
nonrec abbrev rC:Stmt:=xi bϥ 1
nonrec abbrev rA:Stmt:=xi bϥ 2
nonrec abbrev oU:Stmt:=xi bϥ 3
nonrec abbrev qB:Stmt:=top 51
nonrec abbrev zZ:Stmt:=top 52
nonrec abbrev PQ:Stmt:=top 53
nonrec abbrev ud:Stmt:=top 54
nonrec abbrev rh:Stmt:=top 55
nonrec abbrev wO:Stmt:=top 56
nonrec abbrev j6:Stmt:=top 57
nonrec abbrev ue:Stmt:=top 58
nonrec abbrev El:Stmt:=top 59
nonrec abbrev lQ:Stmt:=top 60
nonrec abbrev oT:Stmt:=top 61
nonrec abbrev uf:Stmt:=top 62
nonrec abbrev qA:Stmt:=top 63
nonrec abbrev qz:Stmt:=top 64
nonrec abbrev z3:Stmt:=top 65
nonrec abbrev IJ:Stmt:=top 66
nonrec abbrev lS:Stmt:=top 67
nonrec abbrev oS:Stmt:=top 68
nonrec abbrev je:Stmt:=top 69
nonrec abbrev rm:Stmt:=top 70
nonrec abbrev Ek:Stmt:=top 71
set_option genInjectivity false in
set_option genSizeOf false in
structure Adr where
 K4:Addr
 Ld:FuncData
 E_:Addr
 Fq:FuncData
 E7:Addr
 Fn:FuncData
 E3:Addr
 Fj:FuncData
 E6:Addr
 Fm:FuncData
 AY:Addr
 Ba:FuncData
 uU:Addr
 va:FuncData
 jJ:Addr
 jL:FuncData
 nN:Addr
 nS:FuncData
 xv:Addr
 xG:FuncData
 Q_:Addr
 Rg:FuncData
 Fa:Addr
 Fs:FuncData
 AZ:Addr
 Bb:FuncData
 l7:Addr
 l_:FuncData
 xw:Addr
 xH:FuncData
 uQ:Addr
 u6:FuncData
 Q6:Addr
 Ra:FuncData
 nO:Addr
 nT:FuncData
 rS:Addr
 r_:FuncData
 j_:Addr
 kb:FuncData
 Q9:Addr
 Rf:FuncData
 E5:Addr
 Fl:FuncData
 pV:Addr
 p_:FuncData
 E4:Addr
 Fk:FuncData
 xo:Addr
 xA:FuncData
 xp:Addr
 xB:FuncData
 E9:Addr
 Fp:FuncData
 rR:Addr
 r9:FuncData
 lz:Addr
 lC:FuncData
 jK:Addr
 jM:FuncData
 AU:Addr
 A7:FuncData
 uT:Addr
 u_:FuncData
 K6:Addr
 Lf:FuncData
 rV:Addr
 sf:FuncData
 rT:Addr
 se:FuncData
 pY:Addr
 qc:FuncData
 xu:Addr
 xF:FuncData
 AW:Addr
 A9:FuncData
 Q8:Addr
 Rc:FuncData
 AV:Addr
 A8:FuncData
 rN:Addr
 rY:FuncData
 xr:Addr
 xD:FuncData
 rO:Addr
 rZ:FuncData
 uR:Addr
 u8:FuncData
 E8:Addr
 Fo:FuncData
 l5:Addr
 l8:FuncData
 pX:Addr
 qb:FuncData
 uS:Addr
 u9:FuncData
 xt:Addr
 xE:FuncData
 xq:Addr
 xC:FuncData
 AX:Addr
 A_:FuncData
 K5:Addr
 Le:FuncData
 l6:Addr
 l9:FuncData
 pW:Addr
 qa:FuncData
 ly:Addr
 lA:FuncData
 rQ:Addr
 r8:FuncData
 Q7:Addr
 Rb:FuncData
 eG:Addr
 eh:Addr
 eD:Addr
structure io (K:PySem.W.Frag)(mg:ią)(A:Adr):Prop where
 sk:mg "abs" =none
 Lp:mg "all" =none
 Zl:mg "any" =none
 UD:mg "bool" =none
 Dp:mg aı =none
 mf:mg dĚ =none
 Rm:mg "int" =none
 fZ:mg eĮ =none
 kF:mg "len" =none
 iM:mg ÿ =none
 Rl:mg "max" =none
 Rk:mg aå =none
 gF:mg aϖ =none
 jQ:mg bŉ =none
 iT:mg aϑ =none
 tidy:iN K mg "tidy" ["p","pairs"] B_ A.K4 A.Ld
 added:iN K mg "added" jä Em A.E_ A.Fq
 moved:iN K mg "moved" hŦ yj A.E7 A.Fn
 timed:iN K mg "timed" jå yh A.E3 A.Fj
 still:iN K mg "still" [] yi A.E6 A.Fm
 joined:iN K mg "joined" jä z4 A.AY A.Ba
 backward:iN K mg "backward" ["p",ð] uh A.uU A.va
 repeated:iN K mg "repeated" hÓ ju A.jJ A.jL
 lies_within:iN K mg "lies_within" oĎ kc A.nN A.nS
 inverse:iN K mg "inverse" ["p",Ŧ] wP A.xv A.xG
 Row:UN K mg "Row" "Row.__init__" lĬ PU A.eG A.Q_ A.Rg
 Stair:UN K mg "Stair" "Stair.__init__" oã En A.eh A.Fa A.Fs
 column:iN K mg "column" iŸ z6 A.AZ A.Bb
 first_column:iN K mg "first_column" jæ jw A.l7 A.l_
 heights:iN K mg "heights" mí mE A.xw A.xH
 measured:iN K mg "measured" [ŗ,bì] n9 A.uQ A.u6
 low:iN K mg "low" mŶ Ej A.Q6 A.Ra
 add_shifted:iN K mg "add_shifted" mϛ nD A.nO A.nT
 add_moved:iN K mg "add_moved" oĩ rq A.rS A.r_
 too_high_or_low:iN K mg "too_high_or_low" iŹ j5 A.j_ A.kb
 cut:iN K mg "cut" mŀ PR A.Q9 A.Rf
 stood:iN K mg "stood" jŢ Ei A.E5 A.Fl
 told_parts:iN K mg "told_parts" iÝ kP A.pV A.p_
 taken:iN K mg "taken" nō Eh A.E4 A.Fk
 take_in:iN K mg "take_in" mî wM A.xo A.xA
 lie_low:iN K mg "lie_low" kĀ wN A.xp A.xB
 built:iN K mg "built" lŰ sW A.E9 A.Fp
 fits_crew:iN K mg "fits_crew" [ð] rn A.rR A.r9
 check_members:iN K mg "check_members" [cş] lr A.lz A.lC
 greatest_divisor:iN K mg "greatest_divisor" [aΑ] jv A.jK A.jM
 row_to:iN K mg "row_to" [aΑ,ŗ] zY A.AU A.A7
 gone_row:iN K mg "gone_row" kā ug A.uT A.u_
 Crew:UN K mg "Crew" "Crew.__init__" kŲ yk A.eD A.K6 A.Lf
 qY:VA K "form" "Crew.form" [aψ] rC A.eD A.rV A.sf
 xT:VA K "laps" "Crew.laps" gŃ rA A.eD A.rT A.se
 vB:VA K "level" "Crew.level" jţ oU A.eD A.pY A.qc
 EK:iN K mg "_law_begin" hÔ qB A.xu A.xF
 iJ:iN K mg "_law_take" [ζ,dϱ] zZ A.AW A.A9
 l_p:iN K mg "_law_p" [ζ] PQ A.Q8 A.Rc
 J8:iN K mg "_law_tidy" [Τ,eϯ] ud A.AV A.A8
 xa:iN K mg "_law_pattern" pÿ rh A.rN A.rY
 tz:iN K mg "_law_round" pΩ wO A.xr A.xD
 xb:iN K mg "_law_members" [ζ,Τ] j6 A.rO A.rZ
 Az:iN K mg "_law_stride" [jç] ue A.uR A.u8
 AA:iN K mg "_law_int" [eϰ] El A.E8 A.Fo
 kZ:iN K mg "_law_is_pattern" mŁ lQ A.l5 A.l8
 uE:iN K mg "_law_is_round" mŁ oT A.pX A.qb
 uF:iN K mg "_law_column" nŎ uf A.uS A.u9
 pA:iN K mg "_law_first" oĪ qA A.xt A.xE
 tw:iN K mg "_law_spots" pő qz A.xq A.xC
 J9:iN K mg "_law_size" [ϧ,eϱ] z3 A.AX A.A_
 XR:iN K mg "_law_at" [jè,Ε] IJ A.K5 A.Le
 pB:iN K mg "_law_are_stairs" oϷ lS A.l6 A.l9
 ox:iN K mg "_law_lies_low" pŁ oS A.pW A.qa
 nL:iN K mg "_law_trim_stairs" nŷ je A.ly A.lA
 qK:iN K mg "_law_is_form" pÊ rm A.rQ A.r8
 law:iN K mg aí hÔ Ek A.Q7 A.Rb
 n_Crew_head:dJ K A.eD "head"
 n_Crew_makers:dJ K A.eD bϡ
 n_Crew_p:dJ K A.eD "p"
 n_Crew_rounds:dJ K A.eD bϟ
 n_Crew_stairs:dJ K A.eD bϠ
 n_Crew_stride:dJ K A.eD ŗ
 n_Crew_surplus:dJ K A.eD cŞ
 n_Crew_way:dJ K A.eD "way"
 n_Row_lamps:dJ K A.eG ī
 n_Row_parts:dJ K A.eG Ĭ
 n_Stair_first:dJ K A.eh ĭ
 n_Stair_foot:dJ K A.eh aŮ
 n_Stair_lamps:dJ K A.eh ī
 n_Stair_length:dJ K A.eh ŕ
 n_Stair_parts:dJ K A.eh Ĭ
 lL: ∃t,mg "FARTHEST_END" =some (.int 8 t)
 qu: ∃t,mg "FARTHEST_PLACE" =some (.int 24 t)
 tT: ∃t,mg "MOST_MEMBERS" =some (.int 6 t)
theorem zX:iU [] [] (bm yi):=oύ
theorem jZ:iU oď hÓ (bm ju):=oύ
theorem uc:iU hÔ hÔ (bm qB):=oύ
theorem IH:iU qϳ hÔ (bm Ek):=oύ
def Ga {K:iQ}(T:ŧ):cC P w K mg base f_ 1 A.AZ A.Bb iŸ (gG K Xp):=by
 exists T.column.fn,iŸ,qĹ
 rintro vs M q ⟨x,s,rfl,s0,s1,k⟩;dsimp? [];exact Ϯ;dsimp? [];rw[bI,ak h] at k;show Ø;have h0:0<s:= mύ;dsimp? [h0];rw[bI,Æ] at k;show Ø
def rF {K:iQ}(T:ŧ):cC P w K mg base f_ 1 A.uS A.u9 nŎ (gG K Xp):=by
 exists T.uF.fn,nŎ,qĹ
 rintro vs M q ⟨x,s,rfl,s0,s1,k⟩;dsimp? [];exact Ϯ;dsimp? [];rw[bI,ak h] at k;show Ø;have h0:0<s:= mύ;dsimp? [h0];rw[bI,Æ] at k;show Ø
def gP {K:iQ}(T:ŧ):cC P w K mg base f_ 2 A.l7 A.l_ jæ (gG K JB):=by
 exists T.first_column.fn,jæ,(aG (bo (Nj ŋ T.Rk rfl (fA rfl (dq.of (sc:=bm jw) (N:= jæ) (own:= [į]) (fr:= [1]) (N':= iŸ)) dϳ (λ_ _ _ _=>(aV (i:=0) (by change(iŸ:Ĉ).Nodup;decide+kernel) rfl Ζ)) fH Ϝ (λ_ _ _ _=>(aK T.column (Ga T) hr lϟ))) Jp)))
 rintro vs M q ⟨a,ns,s,rfl,ha,hl,s0,s1,k0,k1⟩;dsimp? [HE,ha];exact iB (λx:Int=>wi bθ) jé jŤ ?_ ſ;intro x hx M3 N s3 hN;dsimp? [];exact#[x,s,rfl,s0,s1,?_];dsimp? [];show hN;dsimp? [];exact#[t,ns.map aŧ,rfl,by rw[av,aJ];rfl,λe=> ?_,dĆ];dsimp? [];show#[M,aø,k0 Å];dsimp? [];have cS:bŶ:=by rintro rfl;show absurd hm.1 ś
 rw[gN.uniq hm (fK ⇑cS)];show#[M,aø,k1 cS]
def kW {K:iQ}(T:ŧ):cC P w K mg base f_ 1 A.xw A.xH mí (gG K aa1):=by
 exists T.heights.fn,mí,(ax (dN lĭ (aG (bo (fA rfl (dq.of (sc:=bm mE) (N:= mí) (own:= [į]) (fr:= [2]) (N':= [į,ĭ])) dϳ (λ_ _ _ _=>(aV (i:=0) (by change([į,ĭ]:Ĉ).Nodup;decide+kernel) rfl Ζ)) fH (λ_ _ _ _=>(oX (bL iX ĕ ē Ĕ))) (λ_ _ _ _=>aA)))) cj) (aG (bo (bH Dk ŋ T.jQ Boot.«sorted» (aa (fA rfl (dq.of (sc:=bm mE) (N:= mí) (own:= [į]) (fr:= [1,2]) (N':= lϠ)) dϳ (λ_ _ _ _=>(aV (i:=0) (by change(lϠ:Ĉ).Nodup;decide+kernel) rfl Ζ)) fH (λ_ _ _ _=>(oX (bL iX kĂ Ė Ĕ))) (λ_ _ _ _=>(bJ o_ ĕ ē))) ar)))))
 rintro vs M q ⟨a,ns,s,f,rfl,ha,hl,s0,s1,k⟩;dsimp? [];exact Ϯ;subst h;dsimp? [ha];exact qh (λx:Int=>eϲ) (λx:Int=>wi 0) jé jŤ ?_ ſ;intro x hx M3 N s3 hN;dsimp? [];exact Ϯ;dsimp? [];simpa only[h,decide_true,b_] using hN;dsimp? [];simpa only[h,decide_false,aF,bw] using hN;dsimp? [];have e:(ns.filter λx=>eϲ).map (λ_=>wi 0)=(kK 0 f ns).map wi:=by unfold kK;rw[aJ];rfl
 rw[e];exact jc (k t _ ht (List.Perm.refl _) ?_);unfold kK;rw[cz];show List.pairwise_of_forall λ_ _=>Ð;have h0:0<s:= mύ;have cd: ∀x,wv x s=True:=λx=>by simp[wv];lia
 dsimp? [ha,h0,cd];exact qh (λx:Int=>hũ) (λx:Int=>wi (x / s)) jé jŤ ?_ ſ;intro x hx M3 N s3 hN;dsimp? [h0];exact Ϯ;dsimp? [h0,cd];simpa only[h,decide_true,b_] using hN;dsimp? [];simpa only[h,decide_false,aF,bw] using hN;dsimp? [HD];have e:(ns.filter λx=>hũ).map (λx=>wi (x / s))=(cĺ).map wi:=by unfold kK bI hI;rw[aJ];simp![h,bw];rfl
 exact#[t,cĺ,rfl,by rw[av,e],jť];dsimp? [];show#[_,R9 ht hp,k p ms (by rw[aH (λz=>by rw[z,av] at hp;cases hp)] at hp;show hp) h1 h2]
def uv {K:iQ}(T:ŧ):cC P w K mg base f_ 1 A.Q_ A.Rg lĬ (gG K (SK A.eG)):=by
 have cl:=dϴ;have n1:=hŪ;have n2:=hū;exists T.Row.fn,lĬ,(ax kų (aG kŴ))
 rintro vs M q ⟨s,dx,l,r,rfl,hs,k⟩;have e1:oÅ:=rfl;have e2:g_ Ĭ r [iź]= [iź,(ϐ,r)]:=rfl;dsimp? [hs,cl,n1,n2,e1,e2,Nat.reduceLT];show Ø
def JK {K:iQ}(T:ŧ):cC P w K mg base f_ 1 A.Fa A.Fs oã (gG K (Jy A.eG A.eh)):=by
 have cl:=dϴ;have cl2:=fό;have n1:=hŪ;have n2:=hū;have m1:=iŻ;have m2:=iż;have m3:=iŽ;have m4:=jê;have m5:=iÞ;exists T.Stair.fn,oã,(ax nØ (ax nØ (ax kŴ (ax (gU ĕ ė rfl) (aG (gU ĕ Ę rfl))))))
 rintro vs M q ⟨s,dx,r,dr,l,u,f,g,e,rfl,hsr,hs,hr,k⟩;have f1: oϤ Ϗ=some l:=rfl;have f2: oϤ ϐ=þ:=rfl;have e1:oÅ:=rfl;have e2:g_ Ĭ u [iź]= [iź,iž]:=rfl;have e3:g_ ĭ f [iź,iž]= pŷ:=rfl;have e4:g_ ŕ g pŷ= qć:=rfl;have e5:g_ aŮ e qć= [iź,iž,iſ,jë,(fύ,e)]:=rfl;dsimp? [hs,hr,cl,cl2,n1,n2,m1,m2,m3,m4,m5,f1,f2,e1,e2,e3,e4,e5,aH (aZ hsr),Nat.reduceLT];show Ø
def lV {K:iQ}(T:ŧ):cC P w K mg base f_ 1 A.nO A.nT mϛ (gG K Xs):=by
 exists T.add_shifted.fn,["p",aω,"others","by","n","key",Ŧ,"now"],(aG (Ev (fg be rfl (Af rfl Ė) qŗ (ax (7\(bJ gV (bJ eV (oZ İ ē kă aA mϜ) (bJ fS Ě Ę)) ĕ)) (aG (dN (bL nG aΒ aA Ĕ) (aG (mH İ ē kă aΒ rfl)) (aG (Nd ē kă))))))))
 rintro vs M q ⟨h,o,p,qi,n,a,b,rfl,hho,hh,ho,p0,p1,ga,gb,nz,hl,k⟩;exact#[o,_,ho,?_];dsimp? [ho];intro ob ks;have C5:(f8 b).map mł=b.map cx:=by unfold f8;rw[aJ];rfl
 rw[C5];exact f9 (λi ρ M'=>lD λ hÖ (c:Pt)=>Lx (ρ= [ε,some (wr h),dϵ,some (wi qi),d϶,o1,o2,o3]) (M' h=some eΓ) (M' o=some (.fz ob ks (f8 b))) (∀d,d≠h ->d≠o ->M' d=M d) (aŭ) (c.length<=a.length+i) (∀x,Ŕ=(ō+dM (hŬ) x*n) % p)) #[none,none,none,a,rfl,by rw[aH hho];show hh,av,λd _ h2=>aH h2,ga,Â,λx=>by have:=ga.range p0 x;simp[PN,dM];show(dj ü ú).symm] ?_ ?_ ?_;rintro i ρ M' _ ⟨o1,o2,o3,c,rfl,_,h2,_⟩;show h2;rintro i x ρ M' hx ⟨o1,o2,o3,c,rfl,h1,h2,h3,gc,oJ,Ov⟩ N hN;let⟨z,hz,rfl⟩:=dϷ;have Md:=eϳ;have hzr:=gb.2 z (aù);have cm:fώ:=kĄ;have hs:((f8 c).length<sizeLine)=True:=by rw[f8,ab];show a4 (qV (by exact Lqj ř Lq0 fϏ oť oī (LqNp hl (LqNp oJ Md)) rfl))
 have PK: ∀x,(ō+dM (jŦ) x*n) % p=if x=aŜ then k϶ % p else Ŕ:=λx=>by
  have e:jŦ=hŬ++ [eų]:=by rw[bj,hz];unfold PN;rw[aR];rfl
  rw[e,oN];by_cases ex:x=aŜ;subst ex;rw[Ć,Ć,Ov,Int.emod_add_emod,Int.add_mul,Int.add_assoc];rw[ai ex,ai (λq=>ex q.symm),Ov,bE]
 dsimp? [cx,h1,tG,cm,p0];exact Ko (λcS=> ?_) λhe=> ?_;have h0:=dD k϶ qχ;have hp:=cY k϶ p0;dsimp? [h1,hs,sY];exact hN _ _ #[_,_,_,ng c (aŜ) (k϶ % p),rfl,av,by rw[dϸ];show h2,λd d1 d2=>by rw[aH d1];show dÈ,gc.put (by exact LqIk h0 (Ne.symm cS)) hp,aI uD (by exact Lqj Ĝ ϒ ϰ Lq0 ξ oJ rfl),ķ];rw[PK,qJ];have abS:((fX (f8 c) (Sum.inl (aŜ))).isSome=true)=True:=a4 (OB λe0=>by rw[e0,bQ] at he;show nz z.2 hzr.1 hzr.2 he);dsimp? [h1,abS,K_];exact hN _ _ #[_,_,_,iA c (aŜ),rfl,av,by rw[dϸ];show h2,λd d1 d2=>by rw[aH d1];show dÈ,gc.drop _,aI (Gj _ _) (by exact Lqj Ĝ Lq0 ϰ Lq0 ξ oJ rfl),ķ];rw[PK,CK,he];rintro ρ M' ⟨o1,o2,o3,c,rfl,h1,h2,h3,gc,oJ,Ov⟩;rw[ab] at oJ Ov;rw[bD] at Ov;exact#[ob,ks,f8 b,h2,um M h eΓ,eϴ,k c gc oJ ķ];by_cases d1:d=h;subst d1;rw[av] at e;rw[aH hho,h1];show e;rw[aH d1] at e;by_cases d2:d=o;subst d2;rw[av, <- ho];show e;rw[aH d2,dÈ];show e;rw[Ov,DP,fq gb.1]
universe gY
open PySem L2 WL WP WQ EN PyProof.Rows
namespace gY
open PySem L2 WL WP WQ EN PyProof.Rows
def kX {K:iQ}(T:ŧ):cC P w K mg base f_ 2 A.rS A.r_ oĩ (gG K (Qm A.eG A.eh)):=by
 exists T.add_moved.fn,["p",ŗ,aõ,bë,bí,"n",bï,"settings"],(ax (fO (aK T.add_shifted (lV T) hr (aa ĕ (aa hØ (aa hÙ (aa (bJ fS ē Ę) gŇ)))))) (aG (Ev (fg be rfl (Af rfl hÙ) qŘ (aG (fO (aK T.add_shifted (lV T) hr (aa ĕ (aa (Js hØ Ě jC mϜ) (aa aΒ (aa Ę gŇ)))))))))))
 rintro vs M q ⟨r,rl,rp,o,ol,op,p,s,sh,n,a,b,P,Q,B,C,rfl,Oi,QJ,p0,p1,s0,s1,nz,jx,iW,qt,KU,hPQ,hB,hC,hBC,k⟩;let⟨Cr,dr,zv,yM,BE,EF,S9,GP,Vu⟩:rĘ:=by
  rcases Oi with⟨d,e⟩ | ⟨d,f,g,e',e⟩
  show pϨ;show qÖ
 let⟨Co,dO,fs,ho,clO,nO1,nO2,fO1,fO2⟩:gm λCo dO fs=>kM (M o=jŨ) (xU K Co=True) (dJ K Co ī =True) (dJ K Co Ĭ =True) (fs.lookup Ϗ=some (wr ol)) (fs.lookup ϐ=some (wr op)):=by
  rcases QJ with⟨d,e⟩ | ⟨d,f,g,e',e⟩
  show pϨ;show qÖ
 have cm:iO s sh=True:=kĄ;have CB: pŸ:=λ{x C' d' GI} e hx=>by let⟨kvs,e2⟩:=jx.mem hx;rw[e] at e2;cases e2
 have afN: ∀ {x C' d' GI},M x=jũ ->gĞ:=λ{x C' d' GI} e hx=>by let⟨kvs,e2⟩:=iW.mem hx;rw[e] at e2;cases e2
 have U6:rl∈ų:=by simp[ca]
 have mrp:rp∈ų:=by simp[ca]
 have mol:ol∈cϰ:=by simp[ca]
 have _K:op∈cϰ:=by simp[ca]
 have min: ∀t∈Q,ë∈cϰ:=λt ht=>by simp![ca,az,ag];show kϢ
 have ndQ:=bN.mp (bN.mp iW.Qo).2;dsimp? [yM,ho,BE,EF,S9,clO,nO1,nO2,GP,Vu,fO1,fO2,cm];exact#[rl,ol,p,s*sh,n,a,b,rfl,λe=>qt rl U6 (by rw[e];show mol),jx.lam,iW.lam,p0,p1,jx.ga,iW.ga,nz,KU,λc gc oJ Ov=> ?_];simp? [↓eU];exact aú;have Sh:=jx.abh gc;have ho1:um M rl eΓ o=jŨ:=by rw[aH (λe=>CB ho iγ)];show ho
 have EX:um M rl eΓ r=jŧ:=by rw[aH (λe=>CB yM iγ)];show yM
 have Gw:um M rl eΓ op=some (.dK (lG Q)):=by rw[aH (λe=>qt rl U6 (by rw[<- e];show _K))];show iW.par
 exact#[op,lG Q,Gw,?_];dsimp? [ho1,clO,nO2,fO2,Gw];intro ob ks;have C5:(lG Q).map mł=Q.map λt=>kϷ:=by unfold lG;rw[aJ];rfl
 rw[C5];generalize KW:jŏ=M1 at Sh ho1 EX Gw;have kp1:fY M M1 (ų):=λd u e nd=>by rw[<- KW,aH (λz=>nd iδ)];show e
 have fr1: ∀x,cŀ ->bω:=λx e=>by
  cases e2:M x with
  | none=>rfl
  | some u=>by_cases hx:x=rl;(· subst hx;rw[Sh.lam] at e;cases e);(· rw[<- KW,aH hx,e2] at e;cases e)
 exact f9 (λi ρ M'=>gm λ e϶ bð=>qk (ρ= [ε,δ,dϹ,dϵ,some (wi sh),d϶,o1,o2]) (M' op=some (.fz ob ks (lG Q))) (iť) (fY M1 M' (gň)) (∀x∈dΥ,gğ \/ cŀ) nψ (∀w x,hŁ=(gϥ+look (gϦ) bΙ*n) % p) (fU (∀w,w∉kÛ ->bÒ=aŰ) (P'.length<=P.length+i) mŨ (pŤ))) #[none,none,P,rfl,av,Sh.same λd hd=>aH (λz=>qt d hd (by rw[z];show _K)),λd u e nd=>by rw[aH (λz=>nd iš)];show e,hŭ,λx hx=>hx,λw x=>by change _=(gϥ+0*n) % p;rw[bP,bE,hÚ],λw _=>rfl,Â,λt ht=>aI (bñ) (Nat.le_add_right _ _),hŮ] ?_ ?_ ?_;rintro i ρ M' _ ⟨o1,o2,P',rfl,h2,_⟩;show h2;rintro i x ρ M' hx ⟨o1,o2,P',rfl,h2,row,kp,fr,pM,EY,Vc,hln,jm,Hr⟩ N hN;let⟨t,hz,rfl⟩: ∃t,fŵ /\ x=kϷ:=by
  rw[aE] at hx;cases e:Q[i]? with
  | none=>rw[e] at hx;cases hx
  | some q=>rw[e] at hx;cases hx;show eū
 have Md:=eϳ;have QE:=aù;have hwi:=Vc t.1 (Ia iW.oq hz);have Oh:M' r=jŧ:=kp r _ EX (λhm=>by obtain z | z:=bξ;rw[z,Gw] at EX;cases EX;show CB yM z);have lJ:ë∉ų:=λz=>qt _ z (min t QE);have hqa:M' ë=kÚ:=kp _ _ (by rw[<- KW,aH (λz=>lJ iδ)];show iW.EV t QE) (λhm=>by obtain z | z:=bξ;show ndQ.1 (by rw[<- z];show iε);show lJ z);have Wb:ë∉dΥ:=λz=>by obtain z | z:=fr _ z;show lJ z;have:=iW.EV t QE;rw[fr1 _ z] at this;cases this
 have hs:((lG P').length<sizeLine)=True:=by rw[lG,ab];show a4 (qV (by exact Lqj ř Lq0 fϏ oť oī (LqNp hPQ (LqNp hln Md)) rfl))
 have hrp:=row.par;dsimp? [Oh,BE,S9,Vu,hrp];intro e he;have nrp:rp≠e:=cO row.par he;have nqa:ë≠e:=cO hqa he;dsimp? [aH nrp,hrp,hs,oK];have nop:op∉ų:=gŉ;have NK:op∉dΥ:=λz=>by obtain z | z:=fr _ z;show nop z;rw[Gw] at z;cases z
 have NJ:op≠e:=cO h2 he;have hBw:(bΓ).length<=B:=by
  unfold pf;cases e2:nÜ with
  | none=>show dg _
  | some u=>show hB u (iL e2).1
 have htC:=hC t QE;have _c: ∀w,w∉(Q.take ß).map ć ->w≠t.1 /\ w∉kÛ:=λw hw=>by rw[bj,hz,aR] at hw;show#[λz=>hw (ay.mpr (.inr (by rw[z];show ae.mpr rfl))),λz=>hw (ay.mpr (.inl z))]
 have dne: ∀ {d u},M1 d=þ ->d≠e ->d∉gň ->M' d=þ:=λh1 _ h3=>kp _ _ h1 h3;have M1e:M1 e=none:=by
  cases e2:M1 e with
  | none=>rfl
  | some u=>exfalso;by_cases hm:e∈gň;obtain z | z:=bξ;show NJ z.symm;let⟨kvs,q2⟩:=row.mem (pM e z);rw[he] at q2;cases q2;rw[kp e u e2 hm] at he;cases he
 cases hf:P'.find? kϸ with
 | some u=>
  let⟨hu,hw⟩:=iL hf;have eu:u.2.2=bΓ:=by rw[<- hwi, <- hw];show(qE row.oq hu).symm
  have une:aé≠e:=cO (dϺ) he;have RI:aé∈dΥ:=by simp![ca,az,ag];show .inr (.inr dΤ)
  rw[Option.map_some,MN];exact#[aé,ë,p,sh,n,u.2.2,ì,rfl,λz=>Wb (by rw[<- z];show RI),by rw[aH une];show dϺ,by rw[aH nqa];show hqa,p0,p1,row.gp u hu,iW.gp t QE,nz,by rw[eu];exact Lqj ř ι fϏ (.a ν ι) (.a fϏ ν) (LqNp hBC (LqNp hBw htC)) rfl,jì];have GS:ca rl rp (eϷ)=dΥ:=by unfold ca;rw[Bo]
  have V7:u.1∈fŴ:=iŢ;exact hN _ _ #[_,_,eϷ,rfl,by rw[aH (λz=>NK (by rw[z];show RI)),aH NJ];show h2,(row.set hu gc').same dϻ,iß,by rw[GS];show fr,by rw[GS];show pM,eÀ,eϸ,by unfold nZ;rw[ab];exact Lqj Ĝ Lq0 ϰ Lq0 ξ hln rfl,dΑ,by rw[AF];show Hr];rw[GS] at hd;by_cases z:d=aé;rw[z,av,av];let⟨kvs,q2⟩:=row.mem hd;rw[aH z,aH z,aH (cO q2 he)];have n1:d≠e:=λz=>by rw[z,M1e] at e1;cases e1
  have n2:d≠aé:=λz=>by obtain q2 | q2:=fr _ RI;show nd (aC _ (by rw[z];show q2));rw[z,q2] at e1;cases e1
  rw[aH n2,aû];show fϐ;rw[EA w' V7,eÁ,hw];by_cases z:w'=t.1;rw[Ô,Ô,TQ,eu,z];rw[Ö,Ö];show EY w' x;let⟨z1,z2⟩:=_c w' yL;rw[EA w' V7,hw,ai z1];show Vc w' z2;let⟨v',vQ,rfl⟩:=ag.mp hv;split;change gŊ;rw[eu] at uL;exact Lqj ŵ Lq0 ξ (.a Lq3 (.a Lq4 Lq0)) (.a Lq1 jΚ) (LqNp hBw (LqNp htC uL)) rfl;show jm v' vQ
 | none=>
  have Oo:=GO hf;have aaX:bΓ= []:=by rw[<- hwi];show mJ Oo
  rw[Option.map_none,MP,Cj (c:= []) Oo];exact#[e,ë,p,sh,n,[],ì,rfl,aZ nqa,by rw[eÂ,av];rfl,by rw[aH (λz=>Wb jí),aH nqa];show hqa,p0,p1,GD.nil,iW.gp t QE,nz,by simp![List.length_nil];exact Lqj Ĝ Ϙ fϏ (.a ξ ϖ) (.a fϏ τ) (LqNp hBC (LqNp htC Ϡ)) rfl,jì];have epd:lG (P'++ [(t.1,e,[])])=lG (ià):=by unfold lG;rw[aR,aR];rfl
  have GS:ca rl rp (ià)=dΥ++ [e]:=by unfold ca;rw[aR];rfl
  exact hN _ _ #[_,_,ià,rfl,by rw[aH NJ,aH (λz=>NK jí),aH NJ];show h2,(row.new he Oo gc').same dϻ,iß,Ź,λx hx=>by rw[GS];show ay.mpr (.inl (pM x hx)),eÀ,eϸ,by rw[aO,bW];exact Lqj Ĝ ϒ ϰ Lq0 ξ hln rfl,dΑ,eϸ];by_cases z:d=e;rw[z,av,eÂ,av];rw[aH z];by_cases z2:d=rp;rw[z2,av,av,epd];rw[aH z2,aH z2,aH z,aH z];have n1:d≠e:=λz=>by rw[z,M1e] at e1;cases e1
  have n2:d≠rp:=λz=>nd (aC _ (by rw[z];show mrp));rw[aû,aH n2,aû];show fϐ;rw[GS] at hx;obtain hx | hx:=bý;show bä;rw[bĂ];show .inr M1e;rw[Cp w' Oo,eÁ];by_cases z:w'=t.1;rw[Ô,Ô,TQ,z,aaX];rw[Ö,Ö];show EY w' x;let⟨z1,z2⟩:=_c w' yL;rw[Cp w' Oo,ai z1];show Vc w' z2;obtain hv | hv:=ay.mp hv;show jm v hv;rw[ae.mp hv];change gŊ;simp![List.length_nil] at uL;exact Lqj ř Lq0 ξ (.a Lq3 ϖ) (.a Lq2 (.a hÂ Lq1)) (LqNp htC (LqNp uL Ϡ)) rfl;rw[aR] at yL;obtain yL | yL:=ay.mp yL;show Hr w' yL;rw[ae.mp yL];show .inr (iε)
 rintro ρ M' ⟨o1,o2,P',rfl,h2,row,kp,fr,pM,EY,Vc,hln,jm,Hr⟩;rw[ab] at hln EY Vc;rw[bD] at EY Vc;have nop:op∉ų:=gŉ;have NK:op∉dΥ:=λz=>by obtain z | z:=fr _ z;show nop z;rw[Gw] at z;cases z
 exact#[ob,ks,lG Q,h2,jc (k _ c P' (row.same λd hd=>aH (λz=>NK (by rw[<- z];show hd))) Ov EY (λd u e nd=> ?_) (λx hx=>(bä).imp id (fr1 x)) pM oJ hln jm Hr)];by_cases hd:d=op;subst hd;rw[av, <- iW.par];show e;rw[aH hd];show kp d u (kp1 d u e nd) λhm=>(bξ).elim hd nd
def oi {K:iQ}(T:ŧ):cC P w K mg base f_ 1 A.j_ A.kb iŹ (gG K aaY):=by
 exists T.too_high_or_low.fn,iŹ,(ax (dN (j7 lĭ (jz (gH (ku ĕ)))).pt hŨ cj) (aG (bo (bJ Cu (Cq ŋ T.iM ŋ T.gF rfl (aa (bV dm ĕ dÉ Η) (aa iá iζ))) (Cs ŋ T.iM ŋ T.gF rfl (aa mϝ dÊ))))))
 rintro vs M q ⟨f,ns,len,rfl,hf,l0,l1,hn,hb,k⟩;by_cases hl:len=0;have e:cń=ns:=ak (.inl hl);rw[e] at k;dsimp? [hl,decide_true];show lű;have uL:decide (len=0)=false:=cG hl;have htr: ∀ {k:dŨ},HW M (.v ŀ) k=k (! jî):=HV hf;by_cases cS:aŦ
 have e:cń=ns:=ak (.inr cS);rw[e] at k;subst cS;dsimp? [uL,htr,List.map_nil,List.isEmpty_nil,eE,Bool.not_false];show lű;have hie:jî=false:=by cases ns with | nil=>show fŽ | cons a r=>rfl
 have h1:kL dŧ Ï=some (wi (fŶ)):=kH cS;have h0:kL dŧ 0=some (wi (cϱ)):=by
  cases ns with
  | nil=>show fŽ
  | cons a r=>show FH
 have KQ: -bÓ<fŶ /\ fŶ<bÓ:=hb _ (mN cS);have hbh: -bÓ<cϱ /\ cϱ<bÓ:=by
  exact hb _ ?_;cases ns with
  | nil=>show fŽ
  | cons a r=>show aQ
 dsimp? [uL,htr,hie,Bool.not_false,hf,h1,h0,HG];exact#[fŶ,len - 1,rfl,#[⋯,⋯, ∅, ∅], ∅,ž];have nu:f≠u:=cO hf hu;dsimp? [aH nu,hf,h0,HI];exact#[cϱ,0,rfl,#[∅, ∅, ∅, ∅], ∅,dΑ];have nuv:u≠v:=cO av hv;dsimp? [aH nuv];have e:cń=qŔ:=ai (by rintro(z | z);(· show hl z);(· show cS z));exact#[big (by unfold Fe gj;rw[ab,ab,ci,ci];lia),λp hp=>jc (k p _ (mŷ aϴ) ?_)];rw[av,e,aR];unfold Fe gj p6 zD;rw[aJ,aJ];rfl
def CA {K:iQ}(T:ŧ):cC P w K mg base f_ 3 A.Q9 A.Rf mŀ (gG K (aa2 A.eG A.eh)):=by
 have Mo:=fό;have nS3:=iŽ;have nS4:=jê;have nS5:=iÞ;exists T.cut.fn,["p",ŗ,aõ,bì,bî,bϧ,Ŧ],(ax (4\(aK T.heights aΓ hr (aa pϱ (aa ē kϹ)))) (aG (fg be rfl (d_ (aK T.too_high_or_low (oi T) hr (aa Ę kϹ))) nÙ (ax (6\(oZ İ hØ (bJ eV hÙ (bJ fS ę ē)) aA mϜ)) (ax (dN (bL iX Ě aA Ĕ) (aG Ad) cj) (aG (dN (bL o0 ę aA Ĕ) (aG (fO (aK T.add_moved (kX T) hr (aa ĕ (aa ē (aa Ė (aa ė (aa ę (aa (bJ fS gŋ hÙ) ar))))))))) (aG (fO (aK T.add_moved (kX T) hr (aa ĕ (aa ē (aa Ė (aa ė (aa (bJ jD ę hÙ) (aa gŋ ar))))))))))))))))
 rintro vs M q ⟨r,rl,rp,o,ds,ol,op,p,s,f,len,foot,a,b,P,Q,B,C,Z,D,rfl,Oi,QJ,hp,s0,s8,NU,F,jx,iW,qt,wa,UQ,z0,z1,d0,d1,hB,hC,b0,b1,c0,c1,hPQ,k⟩;let⟨Cr,dr,zv,yM,BE,EF,S9,GP,Vu⟩:rĘ:=by
  rcases Oi with⟨d,e⟩ | ⟨d,f,g,e',e⟩
  show pϨ;show qÖ
 have p0:0<p:= ∅;have fS3: qϴ gņ=some (wi f):=rfl;have fS4: qϴ hÕ=some (aű):=rfl;have fS5: qϴ fύ=some (bÖ):=rfl;have Ox:=wa.len jx.ga z0;have lK:kϰ:=by unfold du;rw[ab];lia
 have vS:=jx.lam;dsimp? [yM,BE,EF,GP];exact mŸ;rw[pC];have S2:o≠u:=cO QJ hu;dsimp? [aH S2,QJ,Mo,nS3,fS3];exact#[u,Ó,s,f,rfl,av,lK,s0, ∅,jŪ];have nov:o≠v:=cO (by rw[aH S2];show QJ) hv;dsimp? [aH S2,aH nov,QJ,Mo,nS4,fS4];have hpa: ∀x∈Ó, fŷ:=λx hx=>by let⟨z,hz,rfl⟩:=bν;show wa z.1 (by rw[jG jx.ga.1 hz];have:=jx.ga.2 z hz;exact qĴ)
 have qq: ∀m∈ms, ∃x,d6 (-Z<=x) (x<=Z) (m=Đ):=λm hm=>by let⟨x,hx,e⟩:=ag.mp (dP.mem_iff.mp hm);have:=hpa x eΞ;show#[x,ü,ú,e.symm]
 have Vf: ∀m∈ms, aŹ<=m /\ m<=Z:=λm hm=>by let⟨x,h1,h2,rfl⟩:=qq m hm;show YS (f:=f) s0 s8 bĿ z0
 have QM:ms.length<=fŸ:=by rw[dP.length_eq];exact aI ?_ (aI (Nat.le_of_eq (ab (as:=a) (λz=>z.1))) Ox);unfold kK;rw[ab];show aĿ
 exact#[v,ms,len,rfl,av,F.l0, (by exact LqIv NU rfl), ∅,λx hx=>by have:=Vf x hx;exact ⟨Lqi Û mŹ Lq0 (.a Lq1 jŖ) (.a eϺ Lq0) (LqIp z1 ü) rfl,Lqi Û ϒ eϹ ο (.a eϺ Lq1) (LqIp z1 ú) rfl⟩,λt M1 sm KW=> ?_];let⟨HS,YK⟩:=H0 F.l0 jk (dP.nodup_iff.mpr (mT jx.ga.1 s0));have df:(cņ).length<=fž:=aI (MG F.l0 z0 Vf QM) ∅;have Ub:=λh (hh:h∈cņ)=>H_ F.l0 hh;have BC:s=0 -> ∀h∈cņ,h=0:=λe h hh=>by have l0:=F.s0 e;have e2:cņ=ms:=ak (.inl l0);rw[e2] at hh;let⟨x,_,_,rfl⟩:=qq h hh;unfold hI;rw[È]
 let⟨hs,ehs⟩: ∃hs,hs=cņ:=Ĺ
 rw[<- ehs] at KW HS YK df Ub BC;dsimp? [KW];have WC:Sm M M1:=mŷ sm;exact f9 (λi ρ M'=>Lw λ eϻ (c:Pt) bð (js:fō)=>qk (ρ= [ε,δ,dϹ,dϵ,dϮ,o5,o6]) (M' t=some (.lst (hs.map wi))) (iť) (lϋ) (qģ) (kř) (eΝ) (qk (jŐ) oϲ nψ nϚ (pŤ) (aŸ=Dg s p f len foot b dΧ bΞ) nŲ (∀j∈js, ∃h∈hs,j.1=Ŗ))) #[none,none,a,P,[],rfl,KW,jx.keep (fY.sm WC []) ką,#[λx=> ?i1,λj g hj _=>absurd hj (Nat.not_lt_zero j),λx hx cS=> ?i2,λx _=>rfl],λw x=> ?i3,(λ_ j hj=>by cases hj),λx hx=> ?i4,fY.sm WC _,hŭ,λx hx=>hx,λt ht=>(bñ).up (by exact jï),hŮ,rfl,jð,jð] ?_ ?_ ?_;case i1=>change _=(ō+0) % p;rw[bE,d5 p0 jx.ga]
 case i2=>
  exact YK _ (dP.mem_iff.mpr (ag.mpr #[x,aL.mpr #[?_, ⇑hx],rfl]))
  show e9 cS
 case i3=>change _=(gϥ+0) % p;rw[bE,hÚ]
 case i4=>have:=wa x hx;exact ⟨Lqi ř (.g Ϫ) Lq3 (.a ö (.a ö Ņ)) jΜ (LqIp s0 (LqIp d0 ü)) rfl,Lqi ř Lq0 jζ mï jχ (LqIp s0 (LqIp d0 ú)) rfl⟩
 rintro i ρ M' _ ⟨o5,o6,c,P',js,rfl,h2,_⟩;show h2;rintro i x ρ M' hx ⟨o5,o6,c,P',js,rfl,h2,row,cst,EY,Mc,wc,kp,fr,pM,jm,Hr,BD,Ma,hjh⟩ N hN;let⟨h,hz,rfl⟩: ∃h,gġ /\ x=wi h:=by
  rw[aE] at hx;cases e:hs[i]? with
  | none=>rw[e] at hx;cases hx
  | some q=>rw[e] at hx;cases hx;show eū
 have hm:=aù;have Md:=eϳ;have CB: pŸ:=λ{x C' d' GI} e hx=>by let⟨kvs,e2⟩:=jx.mem hx;rw[e] at e2;cases e2
 have Oh:=kp r _ yM (CB yM);have _X:=kp o _ QJ (CB QJ);have hlm:=row.lam;have hh1: -bÓ<h /\ h<bÓ:=by obtain z | z:=eN h 0;let⟨m,h3,h4⟩:=cŠ.1 z;have:=bò;exact ⟨Lqi Ĝ mŹ Lq0 (.a Lq1 (.a Lq2 jŖ)) (.a eϺ π) (LqIp z1 (LqIp h4 ü)) rfl,LqIv z rfl⟩;let⟨m,h3,h4⟩:=cŠ.2 z;have:=bò;exact ⟨Lqi [_] mŹ Lq0 ö Lq0 z rfl,Lqi Ĝ ϒ eϹ jŻ (.a eϺ τ) (LqIp z1 (LqIp h4 ú)) rfl⟩
 have cm:iO h s=True:=kĆ;dsimp? [Oh,_X,BE,Mo,EF,nS3,nS4,nS5,GP,fS3,fS4,fS5,hlm,cm,tG];exact d4 (λe0=>hN _ _ #[_,_,c,P',js,rfl,h2,row,cst.skip hz e0,EY,Mc,wc,kp,fr,pM,jm,Hr,by rw[xI hz, <- BD];show(ak e0).symm,Ma,hjh]) λe0=> ?_;have hl:=row.ga.range p0 bÕ;have TW:=F.ft;have Ym:NZ p iâ:=wW hp λe=>e0 (by have:=Int.emod_emod_of_dvd iâ hĳ;have h3:iâ % p=0:=e;have:=Int.dvd_of_emod_eq_zero h3;have h4:=Int.dvd_neg.mp this;have h5:=Int.emod_eq_zero_of_dvd h4;rw[dj hl.1 hl.2] at h5;show h5);have abF:NZ p (-gģ*foot):=wW hp λe=>Ym foot TW.1 TW.2 (by rw[bU];show e);have WZ:=iW.keep kp λd hd nk=>qt d nk hd;have aeU: ∀x∈dΥ,gĞ:=λx hx gQ=>by obtain z | z:=bä;show qt x z gQ;let⟨kvs,e⟩:=iW.mem gQ;rw[z] at e;cases e
 have oJ:=wc.len row.ga (by exact Lqi Ĝ ö Ϫ mΑ jι (LqIp s0 (LqIp z0 d0)) rfl);have KQ:=UQ.len iW.ga d0;have _Z:=Ke row.oq Hr;have Oy: ∀t∈P',eΖ<=(2*fź+1).toNat:=λt ht=>fϒ fϓ (by exact Int.le_trans b0 (jï));have hC': ∀t∈Q,eΖ<=(2*C+1).toNat:=λt ht=>(hC t ht).len (iW.gp t ht) c0;have abr:vx A.eG A.eh M' r rl rp:=Oi.keep kp (CB yM);have aaP: aŹ<=Ŗ /\ Ŗ<=Z:=by have l0:=F.l0;unfold kj;split;rename_i jV;let⟨m,h3,h4⟩:=cŠ.1 jV;have:=bò;exact ⟨Int.le_trans ü h4,Int.le_of_lt (Int.lt_of_lt_of_le jV z0)⟩;rename_i jV;let⟨m,h3,h4⟩:=mϞ;have:=bò;have:=eÃ;lia
 have shb: -(Z+s) <=cϳ /\ cϳ<=Z+s:=by obtain z | z:=kÞ;unfold kj;split;rename_i jV;let⟨m,h3,h4⟩:=cŠ.1 jV;let⟨x,h5,h6,rfl⟩:=qq m h3;have h7:=eÄ;have h8:=bg h4 s0;have h9:s*h<=0:=Int.mul_nonpos_of_nonneg_of_nonpos s0 (by exact Int.le_of_lt jV);exact ⟨Lqi ŵ iÉ Lq2 (.a Ņ (.a (.a (.s Lq3 Lq1) ñ) Lq4)) (.a Lq3 (.a Lq4 Lq2)) (LqIp h5 (LqIp h7.1 h8)) rfl,Lqi Ĝ Lq0 ξ (.a ö ϶) (.a Lq1 gť) kć rfl⟩;rename_i jV;let⟨m,h3,h4⟩:=mϞ;let⟨x,h5,h6,rfl⟩:=qq m h3;have h7:=eÄ;have h8:=bg h4 s0;have hol:=eÃ;have h9:0<=s*(bÔ):=cD s0 ∅;have h10:s*(bÔ) <=s*h:=bg (by have:=F.l0;exact Lqi Û Α Lq0 ö Lq1 this rfl) s0;exact ⟨Lqi Ĝ iÉ Lq2 (.a ö mϟ) jϸ kć rfl,Lqi Κ Lq0 ξ (.a Ϣ (.a Lq3 (.a Lq4 (.a Lq5 Lq0)))) (.a Lq2 (.a Lq1 jź)) (LqIp z (LqIp h6 (LqIp h7.2 (LqIp h8 h10)))) rfl⟩;rw[<- z,bP];exact ⟨Lqi [_] (.g ϖ) ö ö Lq0 z0 rfl,Lqi [_] ö ϖ ö Lq0 z0 rfl⟩
 have fin: ∀n,(pν) ->aŬ ->Qm A.eG A.eh [Î,Í,wr r,wr o,wi (Ŗ),wi n] M' λ_ M2=>N [ε,δ,dϹ,dϵ,dϮ,eÅ,some (wi (gģ))] M2:=λn hn nz=>by
  exact#[r,rl,rp,o,ol,op,p,s,Ŗ,n,c,b,P',Q,_,_,rfl,abr, .inr #[_,_,_,_,_X],p0, ∅,s0, ∅,nz,row,WZ,aeU, ∅, (by exact Lqj Ĝ ι fϏ (.a τ (.a τ ϖ)) (.a cú (.a cú (.a τ Lq2))) (LqNp hPQ (LqNp hPQ (LqNp _Z Ϡ))) rfl),Oy,hC', ∅,λM2 c' P2 m_ ec ep NV OK RX _ _ Yz KD=>hN _ _ #[_,_,c',P2,hń,rfl,?_,m_,cst.step F HS s0 p0 BC row.ga m_.ga hz hn ec,λw x=> ?_,λe j hj=> ?_,Ź,kp.trans NV fr,Ź,λx hx=>RX x (pM x hx),ſ,dό,?_,dã,dã]];show NV t _ h2 λhx=>by let⟨kvs,e⟩:=dÃ;rw[h2] at e;cases e
  rw[ep,EY,Int.emod_add_emod,cP,Int.add_assoc,kŘ];obtain rfl | hj:=bϨ;have e1:=BC e h hm;have e2:=F.s0 e;change Ŗ=0;rw[e1,e2];rfl;show Mc e j hj;rw[ec] at hx;by_cases hc:Ŕ=0;have hb:kϥ≠0:=mŃ;have:=UQ _ hb;exact ⟨Lqi ŵ (.g Ϫ) Lq3 (.a (.g π) Œ) (.a Lq4 (.s Lq3 Lq4)) (LqIp shb.1 ü) rfl,Lqi ŵ Lq0 jζ (.a Lq4 eϜ) jμ (LqIp shb.2 ú) rfl⟩;show wc x hc;obtain z | z:=OK x hx;show fr x z;cases e:M x with
  | none=>show ĸ
  | some u=>by_cases gQ:gğ;show .inl gQ;rw[kp x _ e gQ] at z;cases z
  intro x hx;rw[<- qE m_.oq ht,ep] at hx;by_cases hc:look (pf P' t.1) x=0;have hb:look (pf Q t.1) (x - Ŗ)≠0:=mŃ;have:=Pc hC t.1 _ hb;exact ⟨Lqi ŵ Ņ Lq1 (.a (.s bĺ ñ) (.a bύ (.a χ ñ))) (.a Lq4 (.a eϛ Lq0)) (LqIp aaP.1 (LqIp ü lĮ)) rfl,Lqi ŵ Lq0 Lq1 (.a Lq2 (.a eε lÓ)) (.a Lq4 eè) (LqIp aaP.2 (LqIp ú lĮ)) rfl⟩;show Pc jm t.1 x hc;obtain z | z:=KD w hw;show Hr w z;show .inr z;rw[xI hz, <- BD];unfold Iu;rw[ai e0, <- hn];show funext ec;obtain rfl | hj:=bϨ;show aaP;show Ma j hj;obtain rfl | hj:=bϨ;show#[h,hm,rfl];show hjh j hj
 dsimp? [];exact d4 (λjV=> ?_) λjV=> ?_;have cm2:iO iâ foot=True:=kĆ;dsimp? [_X,Mo,nS5,fS5,cm2];have:=fin _ rfl (by rw[ak jV];show abF);rw[ak jV,show Ŗ=h from ak jV] at this;show this;dsimp? [_X,Mo,nS4,fS4];have:=fin _ rfl (by rw[ai jV];show Ym);rw[ai jV,show Ŗ=bÔ from ai jV] at this;show this;rintro ρ M' ⟨o5,o6,c,P',js,rfl,h2,row,cst,EY,Mc,wc,kp,fr,pM,jm,Hr,BD,Ma,hjh⟩;rw[ab] at cst BD;rw[bD] at BD;show jc (k M' c P' js row cst.rel EY Mc (cst.low s0) cst.Te wc kp fr pM jm Hr #[ms,dP,jk,by rw[BD,ehs],by rw[<- ehs];show hjh] Ma)
def ut {K:iQ}(T:ŧ):cC P w K mg base f_ 1 A.xv A.xG ["p",Ŧ] (gG K JA):=by
 exists T.inverse.fn,["p",Ŧ,bî,"at"],(ax (2\aA) (ax (fg be rfl (gf ŋ T.gF (aa (bJ jD ĕ aA) ar)) nÝ (aG (2\(bJ gV (bJ fS Ė ē) ĕ)))) (aG (bo Ė))))
 rintro vs M q ⟨p,s,rfl,hp,s0,s1,k⟩;have hp0:è=True:=a4 (by exact Int.lt_trans s0 s1);have cm: ∀x,iO x s=True:=λx=>kĆ;simp? [↓eU];exact aú; simp? [↓eU];exact#[dĲ,f9 (λi ρ M'=> ∃o:Ë,ρ= [ε,δ,some (wi (pw p s i)),o] /\ M'=M) hÛ kŵ ?_ ?_];rintro i x ρ M' hx ⟨o,rfl,rfl⟩ N hN;let⟨hi,rfl⟩:=lT hx;simp? [↓eU,cm,hp0];show jñ;rintro ρ M' ⟨o,rfl,rfl⟩;rw[mF];dsimp only;exact aú; simp? [↓eU];let⟨h1,h2,h3⟩:=Sq p s hp s0 s1;show jc (k _ h1 h2 h3)
def uq {K:iQ}(T:ŧ):cC P w K mg base f_ 4 A.E5 A.Fl jŢ (gG K (SF A.eG A.eh)):=by
 have BE:=dϴ;have EF:=hŪ;exists T.stood.fn,["p",ŗ,aõ,ĭ,bî,"turn","upright"],(ax (3\(aK T.first_column (gP T) hr (aa pϱ gŅ))) (ax (4\(aK T.heights aΓ hr (aa pϱ lϡ))) (ax (5\(aK T.inverse (ut T) hr (aa ĕ (aa (fP İ hØ (bJ eV ė (bJ fS oä ē)) Η) ar)))) (ax (6\(jB T.Row aΔ fϔ ŋ (aa jC (aa jC ar)))) (ax (fO (aK T.add_moved (kX T) hr (aa ĕ (aa ē (aa Ě (aa Ė (aa (hU fR mϠ) gŇ))))))) (aG (bo (jB T.Stair (JK T) fϔ ŋ (aa Ě (aa ė (aa (bJ jD oä mϠ) (aa (aK T.inverse (ut T) hr (aa ĕ (aa (fP İ (c7 Ě rfl) ė Η) ar))) ar))))))))))))
 rintro vs M q ⟨r,dr,rl,rp,p,s,a,P,B,D,rfl,yM,hp,s0,s8,jx,cS,wa,d0,d1,hB,hBl,hPl,k⟩;have p0:0<p:= ∅;have GP: [(Ϗ,wr rl),(ϐ,wr rp)].lookup Ϗ=eϵ:=rfl;have Ox:=wa.len jx.ga d0;have lK:kϰ:=by unfold du;rw[ab];lia
 have vS:=jx.lam;dsimp? [yM,BE,EF,GP];exact mŸ;rw[pC];exact#[u,Ó,s,rfl,av,lK,s0, ∅,λe=>absurd lό cS,Ř];have mm:=λms=>XN (s:=s) (a:=a) (ms:=ms) cS;generalize kŚ=f at mm ⊢;have nru:r≠u:=cO yM hu;have nlu:rl≠u:=cO vS hu;dsimp? [aH nru,aH nlu,yM,BE,EF,GP];exact#[rl,f8 a,rfl,by rw[aH nlu];show vS,λu2 hu2=> ?_];rw[pC];exact#[u2,Ó,s,f,rfl,av,lK,s0, ∅,jŪ];let⟨qq,mn⟩:=mm ms dP jk;have h1:oϊ:=kH qq;have h0:kL dż 0=some (wi (cϵ)):=by
  cases ms with
  | nil=>show fſ
  | cons a r=>show FH
 generalize fŨ=tp at mn h1;generalize cϵ=m at mn h0;have qy:Sm M (qĺ):=(fϑ (bR hu2)).trans (bR hv);have X8:um pϔ v iņ v=some iņ:=av;generalize qĺ=M1 at qy X8 ⊢;have EX:=qy _ _ yM;have Yu:=qy _ _ vS;have cm:iO tp s=True:=kĆ;have Tq:=zh s0 mn.hi;have Oe:=tQ (m:=a) Tq.1;have TR:=fB jx.ga Tq.1;dsimp? [X8,h1,EX,BE,EF,GP,Yu,cm,Oe];exact#[p,_,rfl,hp,TR.1,TR.2,λtn UX Pr Kx=> ?_];dsimp? [];intro e1 TY e2 Me x dx hx TZ YG;exact#[x,dx,aü,wr e2,rfl,av,rfl,?_];have FU:Sm M1 (qŎ):=((bR TY).trans (bR Me)).trans (bR hx);dsimp? [];have QB:um nϢ x pË x=some pË:=av;have wY:e1≠e2:=cO av Me;have Qp:e1≠x:=cO kŶ hx;have LX:e2≠x:=cO av hx;have hf1:M1 e2=none:=by rw[dË] at Me;show Me
 have hf2:cŀ:=by rw[dÌ,dÍ] at hx;show hx
 have Ce:c9 p (qŎ) e1 e2 [] []:=#[by rw[aH Qp,aý];show av,by rw[aH LX];show av,kĈ,GD.nil,kĈ,List.nodup_nil,by simp[ca,wY]]
 generalize qŎ=M2 at FU QB Ce ⊢;have Vb:=FU _ _ X8;have Oh:=FU _ _ EX;have OK: ∀d,d∈x::eÆ ->M1 d=none:=λd hd=>by simp![ca,az,List.map_nil,List.not_mem_nil,or_false] at hd;obtain rfl | rfl | rfl:=hd;show hf2;show TY;show hf1
 have frM: ∀d,M1 d=none ->bϩ:=λd hd=>by
  cases e:M d with
  | none=>rfl
  | some o=>rw[bϪ] at hd;cases hd
 have W0:c9 p M2 rl rp a P:=jx.keep (fY.sm (qy.trans FU) []) ką;have nz:NZ p tn:=wW hp (by rw[nĐ];exact λe=>Lqf [_] ϶ ϖ (LqIp UX ŭ) rfl);dsimp? [Vb,h0];exact#[x,e1,e2,r,rl,rp,p,s, -m,tn,[],a,[],P,0,B,rfl, .inl #[_,QB], .inl #[_,Oh],p0, ∅,s0, ∅,nz,Ce,W0,?_,by change 0+a.length<=_;lia,by change 0+P.length<=_;exact Lqj [_] Ϙ fϏ Lq0 cú hPl rfl,kĈ,hB, (by exact Lqj [_] Ϙ fϏ Lq0 fÀ hBl rfl),λM3 b Q sy eb eq U9 K1 afM KQ _ abQ abK=> ?_];intro d hd nk;let⟨kvs,e⟩:=jx.mem nk;rw[kŷ] at e;cases e;have Ur: nω:=λx=>by rw[eb];change(0+_) % p=_;rw[bQ,Int.mul_neg,Int.sub_neg]
 have TW:=B6 s0 p0 jx.ga mn nz Ur;have X7:=tQ (m:=b) (e9 (m:=b) (x:=f) (by exact λe=>Lqf [_] ϶ ϖ (LqIp TW.1 ŭ) rfl));have nvr: ∀ {d kvs},M2 d=some (.lst kvs) ->d∉eÆ:=λ{d kvs} e hd=>by let⟨kvs,e2⟩:=Ce.mem hd;rw[e] at e2;cases e2
 have nir: ∀ {d C' d' GI},M2 d=jũ ->d∉eÆ:=λ{d C' d' GI} e hd=>by let⟨kvs,e2⟩:=Ce.mem hd;rw[e] at e2;cases e2
 have hv3:=U9 _ _ Vb (nvr Vb);have hx3:=U9 _ _ QB (nir QB);have Ys:=sy.lam;have fX1: [(Ϗ,aü),(ϐ,wr e2)].lookup Ϗ=some (aü):=rfl;dsimp? [];rw[mw];dsimp? [hv3,h0,h1,hx3,BE,EF,fX1,Ys,X7];exact#[p,_,rfl,hp,TW.1,TW.2,λfoot f0 f1 hfo=> ?_];dsimp? [];intro o ds ho Vi Vj;have nxo:x≠o:=cO hx3 ho;exact#[o,ds,x,dx,aü,wr e2,wi f,wi (tp - m),bÖ,rfl,aZ nxo,av,by rw[aH nxo];show hx3,rfl,jc ?_];have aeP: ∀d,M2 d=none ->bϩ:=λd hd=>by
  cases e:M d with
  | none=>rfl
  | some o=>rw[iã] at hd;cases hd
 have ye:bå:=λd u e=>U9 _ _ (iã) λhd=>by rw[kŷ] at e;cases e
 have OI: lŲ:=λd hd=>by
  cases e:M d with
  | none=>rfl
  | some o=>rw[ye _ _ e] at hd;cases hd
 exact k _ o ds e1 e2 b Q f m tp foot tn av (sy.same dϻ) (FR ∅ s0 jx.ga mn Kx Ur hfo f0 f1) mn UX Pr Kx Ur (λw x=> ?_) (eϴ) (dϻ) (λt ht=>aI (abQ t ht) (by exact Lqj [_] Ϙ Lq0 ö ö LqN0 rfl)) λw hw=>(abK w hw).elim (λz=>by cases z) id;have Vj:d≠o:=λz=>by let⟨kvs,e⟩:=sy.mem hd;rw[z,ho] at e;cases e
 rw[aH Vj,aH Vj];rw[eq];change(0+_) % p=_;rw[bQ,Int.sub_neg];have Vj:d≠o:=λz=>by rw[z,OI o ho] at e;cases e
 rw[aH Vj,aH Vj];show ye _ _ e;obtain rfl | hd:=az.mp hd;show OI _ ho;obtain z | z:=K1 d hd;show frM d (OK d (aC _ z));show aeP d z
def nH {K:iQ}(T:ŧ):cC P w K mg base f_ 1 A.pV A.p_ iÝ (gG K Xd):=by
 exists T.told_parts.fn,iÝ,(aG (bo (Jt (n1:=1) rfl (dq.of (sc:=bm kP) (N:= iÝ) (own:= [bï,bí]) (fr:= [0,2,1]) (N':= nŏ)) (d_ (bH bϫ ŋ T.jQ Boot.«sorted» gŅ)) (λ_ _ _ _=>(aV (i:=0) qê rfl Ζ)) ⋯ (pD kŸ) Ϝ (λ_ _ _ _=>(Jl (K:=K) rfl (bH bϫ ŋ T.jQ Boot.«sorted» (aa oĐ ar)))) (λ_ _ _ _=>(aV (i:=1) qê rfl Ζ)) nΓ Ϝ (λ_ _ _ _=>(cT (aa ĕ (aa ē (aa (bJ gV (bJ fS (fP İ oĐ ē Η) ė) Ė) ar))))))))
 rintro vs M q ⟨rl,rp,p,n,a,P,B,rfl,p0,p1,n0,n1,row,hPl,hB,hB9,hPB,k⟩;have Kz:=row.par;dsimp? [Kz];exact#[rp,lG P,eΔ,rfl,Kz,by unfold lG;rw[aJ,aJ];rfl,big (by rw[ab];exact fÁ),λu ws hu dP jk=> ?_];dsimp? [av];have X5:ws.length=P.length:=by rw[dP.length_eq,ab]
 have Wy:=bR (o:= .lst (ws.map wi)) hu;exact Di (λx:Int=>wi x) (λw zs=> ∃BA:ā,BA.Perm (du bΗ) /\ zs=BA.map λsh=>nF mũ) B (qV (by rw[X5];exact hPB)) (λp' M' h1 h2=>h2 u _ (cO av h1) av) ?_ ?_;intro w hw p' M' ys QH sm Kt B' N0 hB';let⟨t,ht,rfl⟩:=ag.mp (dP.mem_iff.mp hw);have EY:bΓ=ì:=qE row.oq ht;have hM: ∀d o,cϮ ->M' d=ą:=λd o e=>sm d o (λz=>by rw[z] at e;rw[bϬ] at QH;cases QH) (bϬ);have Yk:=hM _ _ Kz;have YA:=hM _ _ fϕ;have Oe:fX aů (dΟ)=some (bψ):=by
  rw[oK];cases e:nÜ with
  | none=>show absurd (mľ) ś
  | some u=>have h1:=iL e;have h2:u=t:=iH row.oq Õ ht h1.2;rw[h2];rfl
 dsimp? [Yk,Oe,YA];exact#[ë,f8 ì,du ì,rfl,YA,by unfold f8 du;rw[aJ,aJ];rfl,big (by unfold du;rw[ab];have:=bñ;exact Nat.le_trans this hB9),λv BA hv yN abx=> ?_];dsimp? [av];exact hB' _ _ BA (λsh=>nF (t.1,sh,look (bΓ) sh*n % p)) _ (jX.sm (bR hv)) (by rw[aH (cO Kt hv)];show Kt) #[BA,by rw[EY];show yN,rfl] ?_ (λM5 h5=>h5 v _ (aZ (cO Kt hv)) av) ?_;rw[yN.length_eq];unfold du;rw[ab];show bñ;intro sh _T M5 sm5 N hN;have np: ∀ {d o},cϮ ->d≠p':=λ{d o} e z=>by rw[z] at e;rw[bϬ] at QH;cases QH
 have hM5: ∀d o,cϮ ->M5 d=ą:=λd o e=>sm5 d o (np e) (bR hv _ _ (hM d o e));have Yj:=hM5 _ _ Kz;have abO:=hM5 _ _ fϕ;have TR:=fB fϓ iθ;have Ku:=tQ (m:=ì) iθ;have cm:iO (look ì sh) n=True:=kĆ;dsimp? [Yj,Oe,abO,Ku,cm,p0];rw[EY] at hN;show hN;intro t M' yss ht sm hM' df hR;let⟨tl,e,hp⟩:=FO row.oq (λw=>(row.Jo w).1) dP df hR;have Vr:bζ:=by
  cases e:M t with
  | none=>rfl
  | some o=>rw[bϬ] at ht;cases ht
 show jc (k t M' tl (λd o e=>sm d o (λz=>by rw[z,Vr] at e;cases e) (bϬ)) Vr (by rw[hM',e]) hp)
def Cz {K:iQ}(T:ŧ):cC P w K mg base f_ 1 A.xu A.xF hÔ (Ec K):=by
 exact T.EK.fn.ok uc (λvs H Q E h=> ?_) (λcdv A' outer s H vs Q E hr h=> ?_);let⟨a,ns,rfl,_⟩:=h;rfl;let⟨a,ns,rfl,hs,k⟩:=h;have nd:=uc.nd;exact#[_,(aG (bo (og (aa (dF lj ŋ T.iM Boot.«list» (aa (ui Ef ĕ yu (yt aA)) ar)) lϢ)))),?_];have ec: ∃ms:ā,ve gì none (some 63)=eŵ:=by exact#[(ns.drop (nŸ)).take (HT.gi kĉ kĉ (some 63) - nŸ),?_];unfold ve;rw[List.map_take,List.map_drop]
 let⟨ms,em⟩:=ec;exact#[_,rfl,_,rfl,_,_,rfl,hs,λp hp=>#[_,_,rfl, .inl (ip.of cw),λl hl=>#[by change dŵ;decide,dϻ]]];have gJ:l≠d:=λe=>by rw[e,cw] at hd;cases hd
 exact k d l ms _ gJ.symm cw ?_;rw[bS gJ,cw,em]
def fG {K:iQ}(T:ŧ):cC P w K mg base f_ 1 A.AW A.A9 [ζ,dϱ] (gG K Xe):=by
 exists T.iJ.fn,[ζ,dϱ,"_law_number","_law_got"],(ax (dN (qD (bL o0 mϝ ē Ĕ) (mG (bL o0 mϝ (bH fw ŋ T.kF Boot.«len» (aa mϝ ar)) Ĕ))).pt (ax (2\(bV dm mϝ mϝ Η)) (ax (gI (bJ eV mϝ aA) iä) (ax (gI aA iä) (aG (dN (bL wT pë (bJ SU aA aA) Ĕ) (aG (gI pë iä)) (aG (gI (bJ gV (bJ eV (bJ eV oņ (bJ fS (bJ gV Ė aA) aA)) aA) aA) iä))))))) cj) (ax (dN (bL wT mϝ ē Ĕ) (ax (3\(bJ gV mϝ ē)) (ax (gI (bJ o_ mϝ ē) iä) hů)) cj) (ax (gI (bJ gV (bJ eV oņ aA) aA) iä) (aG (bo (bJ gV (bJ o_ mϝ aA) ē))))))
 rintro vs M q ⟨d,l,n,rfl,⟨ns,i,c,sd,hd,hl,hi,cS⟩,n0,n1,k⟩;exact C3 (λρ M'=>Lw λ e϶ (i' c' s':Int)=>fU (ρ= nß) (M' d=some nà) (cī) (0<=i')) ?_ eÇ;rintro ρ M' ⟨o1,o2,i',c',s',rfl,h,nb,rL⟩;have fin: ∀ (r c' s':Int),0<=r ->r<n -> ∃M0,Sm M0 (um M' d nà) /\ q (wi r) M0:=λr c' s' h0 h1=>jc (k r _ h0 h1 #[ns,i',c',s',av,by rw[aH aϺ,nb l aϺ];show hl,rL,cS] (nb.trans NB.put));have cm3: ∀x,iO x 16807=True:=λx=>by simp[iO]
 have cd1: ∀x,wv x n=True:=λx=>by simp[wv,n0,n1]
 have cd2: ∀x,wv x 64=True:=λx=>by simp[wv]
 have z2:lϣ:=⋯
 dsimp? [h];exact d4 (Ř) Ř;dsimp? [h,n0,cd1];show qϧ;dsimp? [h,av,n0,cm3,cd2,z2];show qϧ;have nx: ∀ (o1 o2:Ë) (i' c' s':Int),0<=i' ->N nß (um M d nà):=λ_ _ _ _ _ h=>hN _ _ #[_,_,_,_,_,rfl,av,NB.put,h];have _B: ∀ (o1 o2:Ë),N nß M:=λ_ _=>hN _ _ #[_,_,_,_,_,rfl,hd,NB.refl d M,hi];have cp:UO 10 18=True:=by simp[UO]
 have cm: ∀x,iO x 48271=True:=λx=>by simp[iO]
 have cm2: ∀x,iO x 69621=True:=λx=>by simp[iO]
 have z1:(ě <2147483629)=True:=⋯
 have z2:lϣ:=⋯
 by_cases f7:dγ;have hx:kL dŧ i=some (wi (ns[i.toNat]'∅)):=FF hi (by rw[aE,aĎ];rfl);dsimp? [hd,hl,ab];exact d4 (Ř) eÈ;exact d4 (Ř) eÈ;dsimp? [hd,hl,hx,av,aH cS.symm,cp];exact d4 (Ř) Ř;dsimp? [av];show qã;dsimp? [av,cm,cm2,z1,z2];show qã;dsimp? [hd,hl,f7,ab,decide_false];show d4 (eÈ) eÈ
def S0 {K:iQ}(T:ŧ):cC P w K mg base f_ 2 A.Q8 A.Rc [ζ] (gG K pP):=by
 exists T.l_p.fn,[ζ],(aG (bo qψ))
 rintro vs M q ⟨d,l,rfl,hD,k⟩;simp? [↓ce];exact#[d,l,4,rfl,hD,⋯,⋯,kϺ];have hr4:r=0 \/ r=1 \/ r=2 \/ r=3:=by omega
 obtain rfl | rfl | rfl | rfl:=hr4 <;> simp? [↓ce];show jc (k 2 _ ⋯ D1 b1);show jc (k 3 _ ⋯ D1 b1);show jc (k 5 _ ⋯ D1 b1);show jc (k 7 _ ⋯ D1 b1)
def pe {K:iQ}(T:ŧ):cC P w K mg base f_ 1 A.E8 A.Fo [eϰ] (gG K aa0):=by
 exists T.AA.fn,[eϰ],(aG (bo (yx (bH jO ŋ T.fZ Boot.«isinstance» (aa ĕ (aa (kS ŋ T.Rm Boot.«int» (show RelV (.ty "int") _ from rfl)) ar))) (uj (Sy (bH jO ŋ T.fZ Boot.«isinstance» (aa ĕ (aa (kS ŋ T.UD Boot.«bool» (show RelV (.ty "bool") _ from rfl)) ar))))))))
 rintro vs M q ⟨i,rfl,k⟩;simp? [↓ce];show Ø
def mK {K:iQ}(T:ŧ):cC P w K mg base f_ 1 A.K4 A.Ld ["p","pairs"] (gG K Qj):=by
 exists T.tidy.fn,oĬ,(ax (2\jC) (ax rĮ (aG (bo (dF i_ ŋ T.iT Boot.«tuple» (aa (fA rfl (dq.of (sc:=bm B_) (N:= oĬ) (own:= [į]) (fr:= [2]) (N':= iμ)) (d_ pŹ) (λ_ _ _ _=>(aV (i:=0) (by change(iμ:Ĉ).Nodup;decide+kernel) rfl Ζ)) fH (λ_ _ _ _=>(oX (bL nG ođ aA Ĕ))) qü) ar))))))
 rintro vs M q ⟨a,p,ps,rfl,ha,p0,YT,abV,k⟩;simp? [↓ce];intro d hd;have JS:a≠d:=cO ha hd;simp? [↓ce,aH JS,ha];exact rĲ;rintro i ρ M' _ ⟨o1,o2,m,rfl,rfl,_⟩;rw[aH JS];show ha;rintro i x ρ M' hx ⟨o1,o2,m,rfl,rfl,hn,hl,ht,jm⟩ N hN;let⟨z,hz,rfl⟩:=dϷ;have Md:=eϳ;have hs:mź:=by rw[f8,ab];show qĬ
 simp? [↓ce,cx,tG,p0,hs,sY];exact ră;rw[qJ,bj,hz];change mń;rw[oN];by_cases hx:x=z.1;subst hx;rw[Ć,Ć,ht,Int.emod_add_emod];rw[aÞ,cϝ,bE];show ht x;rintro ρ M' ⟨o1,o2,m,rfl,rfl,hn,hl,ht,jm⟩;rw[ab] at hl ht;rw[bD] at ht;simp? [↓ce];exact qΞ;have T8:d≠sp:=cO av vR;have QK:jÄ:=by rw[dP.length_eq,ab];exact jò
 simp? [↓ce];exact rþ;intro i x hx M3 N s3 hN;let⟨n,TM,rfl⟩:=pI hx;have hdM:kŹ:=lį;have Oo:n∈eű:=kĊ;simp? [↓ce,hdM,tQ Oo];exact Ko (bϤ) bϤ;simp![h,bw] at hN;show hN;simp![h,b_] at hN;show hN;simp? [↓ce];exact pϊ;have e:rÑ:=by rw[<- iå,List.filterMap_map];unfold U1;rw[List.map_filterMap];congr 1;funext n;simp![Function.comp];split<;>rfl
 rw[e];show k
def F' {K:iQ}(T:ŧ):cC P w K mg base f_ 1 A.AV A.A8 [Τ,eϯ] (gG K Qj):=by
 exists T.J8.fn,qÊ,(ax (2\jC) (ax rĮ (aG (bo (dF i_ ŋ T.iT Boot.«tuple» (aa (fA rfl (dq.of (sc:=bm ud) (N:= qÊ) (own:= [Ε]) (fr:= [2]) (N':= [Ε,eÊ])) (d_ pŹ) (λ_ _ _ _=>(aV (i:=0) (by change([Ε,eÊ]:Ĉ).Nodup;decide+kernel) rfl Ζ)) fH (λ_ _ _ _=>(oX (bL wS ođ aA Ĕ))) qü) ar))))))
 rintro vs M q ⟨a,p,ps,rfl,ha,p0,YT,abV,k⟩;simp? [↓ce];intro d hd;have JS:a≠d:=cO ha hd;simp? [↓ce,aH JS,ha];exact rĲ;rintro i ρ M' _ ⟨o1,o2,m,rfl,rfl,_⟩;rw[aH JS];show ha;rintro i x ρ M' hx ⟨o1,o2,m,rfl,rfl,hn,hl,ht,jm⟩ N hN;let⟨z,hz,rfl⟩:=dϷ;have Md:=eϳ;have hs:mź:=by rw[f8,ab];show qĬ
 simp? [↓ce,cx,tG,p0,hs,sY];exact ră;rw[qJ,bj,hz];change mń;rw[oN];by_cases hx:x=z.1;subst hx;rw[Ć,Ć,ht,Int.emod_add_emod];rw[aÞ,cϝ,bE];show ht x;rintro ρ M' ⟨o1,o2,m,rfl,rfl,hn,hl,ht,jm⟩;rw[ab] at hl ht;rw[bD] at ht;simp? [↓ce];exact qΞ;have T8:d≠sp:=cO av vR;have QK:jÄ:=by rw[dP.length_eq,ab];exact jò
 simp? [↓ce];exact rþ;intro i x hx M3 N s3 hN;let⟨n,TM,rfl⟩:=pI hx;have hdM:kŹ:=lį;have Oo:n∈eű:=kĊ;simp? [↓ce,hdM,tQ Oo];have Hu:0<=bŮ:=by rw[ht];show dD _ (by exact qğ)
 exact Ϯ;have h':¬bŮ=0:=by exact λe=>Lqf [_] ϶ ϖ (LqIp h ŭ) rfl
 simp![h',bw] at hN;show hN;have h':bŮ=0:=by exact LqIx bŽ Hu
 simp![h',b_] at hN;show hN;simp? [↓ce];exact pϊ;have e:rÑ:=by rw[<- iå,List.filterMap_map];unfold U1;rw[List.map_filterMap];congr 1;funext n;simp![Function.comp];split<;>rfl
 rw[e];show k
def yA {K:iQ}(T:ŧ):cC P w K mg base f_ 2 A.rN A.rY pÿ (gG K Jw):=by
 exists T.xa.fn,[ζ,Τ,dϲ,dÇ,eϯ,bϭ,Ε],(ax (4\(og ar)) (ax (fg be rfl (gf ŋ T.gF (aa (aK T.iJ aΕ hr (aa ĕ (aa (bJ eV Ė aA) ar))) ar)) nÙ (ax (6\(bJ jD (aK T.iJ aΕ hr (aa ĕ (aa (bJ eV (bJ fS aA ė) aA) ar))) ė)) (aG (fO (Ai PySem.F.plainAttrs_list PySem.F.slot_list_append PySem.F.type_list_append jp Ę (aa (cT (aa Ě (aa (bJ eV aA (aK T.iJ aΕ hr (aa ĕ (aa iá ar)))) ar))) ar)))))) (aG (bo (aK T.J8 (F' T) hr (aa ē gŏ))))))
 rintro vs M q ⟨d,l,p,most,jf,rfl,hD,p2,p3,m0,m1,f0,f1,k⟩;simp? [↓eU];intro a ha;let⟨JS,nal⟩:=hD.ne ha;exact aú;simp? [↓eU];exact#[d,l,most+1,rfl,hD.put ha,by exact Lqi [_] Ϣ ϒ ö Lq0 m0 rfl,by exact Lqi [_] ϵ hÜ ϒ (.n 63) m1 rfl,λn M1 n0 n1 D1 b1=> ?_];have ha1:M1 a=some cđ:=by rw[b1 a JS,av]
 simp? [↓eU];exact#[jū,f9 (λi ρ M'=>gm λ e϶ (ps:Pt)=>kM (ρ= [dŻ,ε,some (wi most),fÂ,eÉ,o1,o2]) (cĪ) (M' a=kϒ) (ps.length=i) pú (∀b,aá ->b≠a ->M' b=M b)) #[none,none,[],rfl,D1,ha1,rfl,by simp,λb h1 h2=>by rw[b1 b h1,aH h2]] kŵ ?_ ?_];rintro i x ρ M' hx ⟨o1,o2,ps,rfl,D2,ha2,hl,hz,hb⟩ N hN;let⟨hi,rfl⟩:=lT hx;have cm: hŰ:=λx=>by simp[iO]
 simp? [↓eU,cm];exact#[d,l,2*jf+1,rfl,D2,by exact Lqi [_] Ϣ kĝ ϣ eϘ (LqIp f0 f0) rfl,by exact Lqi [_] nŹ hÜ nϣ nź (LqIp f1 f1) rfl,λr M3 r0 r1 D3 b3=> ?_];simp? [↓eU];exact aú;have ha3:M3 a=kϒ:=by rw[b3 a JS];show ha2
 simp? [↓eU,ha3];exact#[d,l,p - 1,rfl,D3,by exact Lqi [_] Ϣ hÝ ý Lq0 p2 rfl,by exact Lqi [_] (.a hÝ ñ) hÜ ϒ cú p3 rfl,λs' M4 s0 s1 D4 b4=> ?_];have ha4:M4 a=kϒ:=by rw[b4 a JS];show ha3
 have hs:((ps.map cx).length<sizeLine)=True:=by rw[ab];show a4 (qV ū)
 simp? [↓eU,ha4,hs];exact hN _ _ #[_,_,ps++ [(r - jf,1+s')],rfl,D4.Ss JS nal,?_,by simp[hl],eË,λb h1 h2=> ?_];rw[av,aR];rfl;obtain qO | qO:=ay.mp qO;show hz z qO;rw[ae.mp qO];show#[by change -jf<=r - jf;exact pì,by change r - jf<=jf;exact qä,by change 0<1+s';exact Lqi [_] Ϣ hÀ ö Lq0 s0 rfl,by change 1+s'<p;exact Lqi Û (.a hÀ ñ) Lq1 ϒ (.s Lq1 ñ) s1 rfl];rw[aH h2,b4 b h1,b3 b h1,hb b h1 h2];rintro ρ M' ⟨o1,o2,ps,rfl,D2,ha2,hl,hz,hb⟩;rw[mF] at hl;dsimp only;exact aú;simp? [↓eU];exact#[a,p,ps,rfl,ha2,by exact pÌ,OL ū,by omega,?_];exact#[λb=>if b=a then none else M' b,eŊ,k ps _ ū hz ?_ ?_];dsimp only at e;split at e;cases e;show e;let⟨ns,i,c,s',h1,h2,h3,h4⟩:=D2;show#[ns,i,c,s',by dsimp only;rw[ai (aZ JS)];show h1,by dsimp only;rw[ai (aZ nal)];show h2,h3,h4];intro b xm;dsimp only;split;rename_i e;rw[e];show ha.symm;rename_i e;show hb b xm e
def NE {K:iQ}(T:ŧ):cC P w K mg base f_ 1 A.K5 A.Le [jè,Ε] (gG K pAt):=by
 exists T.XR.fn,[jè,Ε,"_law_there",gŎ],(ax (fg be rfl (iw ĕ) qŚ (aG (dN (bL iX Ė ē Ĕ) hů cj))) (aG (bo aA)))
 rintro vs M q ⟨pat,x,rfl,k⟩;simp? [↓ce,cK];exact f9 (λi ρ M'=>cM λ e϶=>d6 (ρ= [fϖ,some (wi x),o1,o2]) (M'=M) (cϟ=look (pat.drop i) x)) #[none,none,rfl,rfl,rfl] kŵ ?_ ?_;rintro i y ρ M' hx ⟨o1,o2,rfl,rfl,hk⟩ N hN;let⟨z,hz,rfl⟩:=dϷ;have ed:pat.drop i=z::pat.drop ß:=by let⟨h1,h2⟩:=am.mp hz;rw[<- h2];show(dQ h1)
 rw[ed,look] at hk;simp? [↓ce,cx];exact Ϯ;rw[ak h] at hk;rw[<- hk];show Ø;rw[Æ] at hk;show hN _ _ #[_,_,rfl,rfl,hk];rintro ρ M' ⟨o1,o2,rfl,rfl,hk⟩;rw[ab,List.drop_length] at hk;simp? [↓ce];rw[look] at hk;rw[<- hk];show Ø
def Am {K:iQ}(T:ŧ):cC P w K mg base f_ 1 A.E7 A.Fn hŦ (gG K SJ):=by
 exists T.moved.fn,hŦ,(aG (bo (dF i_ ŋ T.iT Boot.«tuple» (aa (fA rfl (dq.of (sc:=bm yj) (N:= hŦ) (own:= jó) (fr:= [1]) (N':= lİ)) (iw ĕ) (λ_ _ _ _=>(dZ (n:=2) rfl (a9 (aV (i:=0) pϩ rfl Ζ) (a9 (aV (i:=1) pϩ rfl Ζ) c5)))) iC Ϝ (λ_ _ _ _=>(cT (aa (bJ eV ĕ Ė) gŅ)))) ar))))
 rintro vs M q ⟨pat,b,rfl,hl,k⟩;simp? [↓ce,cK];exact lf qĈ (by rw[ab];show big hl) hű ?_ ſ;intro i x hx M3 N s3 hN;let⟨z,hz,rfl⟩:=dϷ;simp? [↓ce,cx];show hN;simp? [↓ce];exact#[M,aø,?_];have e:(dÎ).filterMap qĈ=(mv b pat).map cx:=by rw[List.filterMap_map,mv,aJ];show List.filterMap_eq_map.symm▸rfl
 rw[e];show k
def ls {K:iQ}(T:ŧ):cC P w K mg base f_ 2 A.l5 A.l8 mŁ (gG K SN):=by
 exists T.kZ.fn,[Τ,eϰ,bϭ,"_law_pair"],(ax (dN rà Θ cj) (ax (fg be rfl qõ nâ (ax (3\(bV cB ē Ė Η)) (ax (dN (j7 (gH (gT (bH jO ŋ T.fZ Boot.«isinstance» (aa ė qĉ)))) (jz (bL nG pî aA Ĕ))).pt Θ cj) (ax (dN (j7 qË (j7 qË (jz (gH (Jf o0 o0 aA mϡ ĕ))))).pt Θ cj) (aG (dN (qD (bL wS Ė aA Ĕ) (mG (bL wT (bV cB (bV cB ē (bJ jD Ė aA) Η) aA Η) mϡ Ĕ))).pt Θ cj)))))) Θ))
 rintro vs M q ⟨p,pat,rfl,⟨h1,h2⟩,hl,k⟩;have uL:(dÎ).length=pat.length:=ab _;simp? [↓ce,cK,uL];exact#[jū,f9 (λi ρ M'=>cM λ e϶=>ρ= [ε,fϖ,o1,o2] /\ M'=M) jŬ kŵ ?_ ?_];rintro i x ρ M' hx ⟨o1,o2,rfl,rfl⟩ N hN;let⟨hi,rfl⟩:=lT hx;have rL:i<pat.length:=by omega
 have ha:kL (dÎ) (0+Ĥ)=some (cx pat[i]):=by rw[bQ];show gR (by rw[aE,ao rL];rfl)
 have hz:=h1 pat[i] (cH rL);simp? [↓ce,cK,ha,cx];exact dŚ;simp? [↓ce];exact dŚ;simp? [↓ce,hz.1,hz.2,decide_true];exact d4 (bϤ) λh=>kċ;have hi1:á<pat.length:=by exact Nat.lt_of_le_of_lt hì rL
 have Mg:kL (dÎ) (0+Ĥ - 1)=some (cx pat[á]):=by
  have:(0+Ĥ - 1)=((á:Nat):Int):=by omega
  rw[this];show gR (by rw[aE,ao hi1];rfl)
 have f7:=bM.mp h2 ĝ i hi1 rL ū;simp? [↓ce,Mg,cx];show d4 (λh=>by omega) λ_=>kċ;rintro ρ M' ⟨o1,o2,rfl,rfl⟩;simp? [↓ce];show Ø
def JJ {K:iQ}(T:ŧ):cC P w K mg base f_ 2 A.E_ A.Fq jä (gG K SS):=by
 exists T.added.fn,jä,(aG (bo (aK T.tidy aΖ hr (aa ĕ (aa (bJ Cu (dF lj ŋ T.iM Boot.«list» gŅ) (dF lj ŋ T.iM Boot.«list» gō)) ar)))))
 rintro vs M q ⟨p,a,b,rfl,p0,hf,ha,hb,k⟩;simp? [↓ce,cK];intro u hu;simp? [↓ce];intro v hv;have huv:u≠v:=cO av hv;have hs:((a.map cx).length+(b.map cx).length<=sizeLine)=True:=a4 (big (by rw[ab,ab];exact qŷ));simp? [↓ce,aH huv,hs];intro c hc;simp? [↓ce];exact#[c,p,a++b,rfl,by rw[av,aR],p0,hf,by rw[aO];exact qŷ,?_];show#[M,mŷ (bR hc),k]
def uo {K:iQ}(T:ŧ):cC P w K mg base f_ 2 A.E3 A.Fj jå (gG K SD):=by
 exists T.timed.fn,jå,(aG (bo (aK T.tidy aΖ hr (aa ĕ (aa (fA rfl (dq.of (sc:=bm yh) (N:= jå) (own:= jó) (fr:= [2]) (N':= kϻ)) eÌ (λ_ _ _ _=>(dZ (n:=2) rfl (a9 (aV (i:=0) pϞ rfl Ζ) (a9 (aV (i:=1) pϞ rfl Ζ) c5)))) iC Ϝ (λ_ _ _ _=>(cT (aa ĕ (aa (bJ fS ē Ė) ar))))) ar)))))
 rintro vs M q ⟨p,a,n,rfl,p0,hf,ha,hz,k⟩;simp? [↓ce,cK];exact lf qĔ (by rw[ab];show big (by exact eÍ)) hű ?_ ſ;intro i x hx M3 N s3 hN;let⟨z,qO,rfl⟩:=dϷ;have:=hz z (au qO);have cm:fώ:=a4 (.inl jū);simp? [↓ce,cx,cm];show hN;have e:(a.map cx).filterMap qĔ=(tm n a).map cx:=by rw[List.filterMap_map,tm,aJ];show List.filterMap_eq_map.symm▸rfl
 rw[e];simp? [↓ce];exact#[t,p,tm n a,rfl,av,p0,hf,by rw[tm,ab];exact eÍ,M,aø,k]
def JF {K:iQ}(T:ŧ):cC P w K mg base f_ 5 A.E4 A.Fk nō (gG K SE):=by
 exists T.taken.fn,["p",ŗ,bϠ,ť,aõ,bï,bì],(ax (4\(jB T.Row aΔ fϔ ŋ (aa (dF bϮ ŋ T.Dp Boot.«dict» gŌ) (aa jC ar)))) (ax (fg be rfl (Jm rfl ŋ T.mf gō) qŗ (aG (fO (aK T.cut (CA T) hr (aa ĕ (aa ē (aa Ę (aa (aK T.stood (uq T) hr (aa ĕ (aa ē (aa (jB T.Row aΔ fϔ ŋ (aa (dF bϮ ŋ T.Dp Boot.«dict» gő) (aa (lU ę (lU aA aA)) ar))) ar)))) ar)))))))) (aG (bo (cT (aa (aK T.tidy aΖ hr (aa ĕ (aa (wR ŋ T.iM rfl hÞ) ar))) (aa (aK T.told_parts (nH T) hr (aa ĕ (aa hÞ iζ))) ar)))))))
 rintro vs M q ⟨p,s,D,Z,Zm,sts,pat,rfl,hp,s0,s8,gK,Tz,wz,z0,d0,d1,hZm,hZ3,hn,k⟩;have p0:0<p:= ∅;have BE:=dϴ;have EF:=hŪ;have S9:=hū;dsimp? [];rw[mw];dsimp? [];have OC:=iG Tz;have lK:pat.length<=ġ:=by have:=wz.len OC z0;have:lų:=qϱ;lia
 exact#[Jh pat,by rw[yy],by rw[Jh,ab];show lK,λl1 hl1=> ?_];rw[yZ pat OC.1];intro p1 _W r dr hr hdr af3;exact#[r,dr,wr l1,wr p1,rfl,av,rfl,?_];dsimp? [];have n1:l1≠p1:=cO av _W;have n1r:l1≠r:=cO (by rw[aû];show av) hr;have n2r:p1≠r:=cO av hr;have Ce:c9 p (qŬ) l1 p1 pat []:=#[by rw[aH n1r,aû];show av,by rw[aH n2r];show av,kĈ,OC,kĈ,List.nodup_nil,by simp[ca,n1]]
 have yM:um oŇ r pÍ r=some pÍ:=av;have WC:Sm M (qŬ):=((bR hl1).trans (bR _W)).trans (bR hr);have fp1:M p1=none:=by rw[aH (aZ n1)] at _W;show _W
 have fr:M r=none:=by rw[aH (aZ n2r),aH (aZ n1r)] at hr;show hr
 generalize qŬ=M1 at Ce yM WC ⊢;have GP: pł Ϗ=some (wr l1):=rfl;have Vu: pł ϐ=some (wr p1):=rfl;rw[Kk];dsimp? [];exact f9 (λi ρ M'=>lD λ eϻ (c:Pt) bð=>qk (ρ= [ε,δ,lī,fϖ,dϹ,o5,o6]) (M' r=some pÍ) (c9 p M' l1 p1 c P') (nq s p sts D Zm pat c P' i) (Wt (cš) c) (Ħ) (∀x∈eÎ,bω) (∀t∈P',Wt (Zm+1) ì)) #[none,none,pat,[],rfl,yM,Ce,#[rfl,λi _ _ _ h=>absurd h jô,λx=> ?i1,(λw h=>by cases h),(λ_ w x h=>eĠ),(λw x h=>eĠ),List.nodup_nil,jõ],?i2,WC,?i3,jõ] ?_ ?_ ?_;case i1=>change _=(cϟ+0) % p;rw[bE,d5 p0 OC]
 case i2=>intro x hx;have:=wz x hx;simp;exact ⟨ü,ú⟩
 case i3=>
  intro x hx
  simp![ca,az,List.map_nil,List.not_mem_nil,or_false] at hx
  obtain rfl | rfl:=hx
  show hl1
  show fp1
 intro i ρ M' _ _;trivial;rintro i x ρ M' hx ⟨o5,o6,c,P',rfl,EX,row,tk,wc,sm,Dd,jm⟩ N hN;let⟨y,hy,rfl⟩:=yX hx;let⟨st,gD,rfl⟩:=lX hy;let⟨cl,len,sr,df⟩:=gK.each i st gD;have Q0:=iG sr.pat;have Md:=fÃ;have hsl:=sr.wt.len Q0 d0;dsimp? [];rw[mw];dsimp? [];exact pÎ;rw[yZ st Q0.1];dsimp? [tN];intro q1 Tv q2 Oj;have wY:e1≠q1:=cO av Tv;have NN:e1≠q2:=cO kŶ Oj;have JT:q1≠q2:=cO av Oj;have f1:M' q1=none:=by rw[dË] at Tv;show Tv
 have f2:M' q2=none:=by rw[dÏ,aH (aZ NN)] at Oj;show Oj
 exact pï;intro x dx gQ TZ YG;have Qp:e1≠x:=oĭ;have LX:q1≠x:=cO av gQ;have XG:q2≠x:=nŐ;have f3:M' x=none:=by rw[dÌ,aH (aZ XG),dÌ,dÍ] at gQ;show gQ
 exact nő;rw[q_];have Cd:rĢ:=rį
 have Od:rĩ:=av;have qy:rē:=λd o e=>by rw[fÄ,fÅ,fÆ,fÅ,fÇ];show e
 generalize rĊ=M2 at Cd Od qy ⊢;have aby:bι:=λz=>by have:=sr.bot;rw[z] at this;cases this
 exact#[x,dx,e1,q1,p,s,st,kź,1,D,rfl,Od,hp,s0,s8,Cd,aby,sr.wt,d0, kŻ,(λt ht=>by rw[bϞ];show Â),⋯,by simp,λM3 o ds ol op b Q f m t foot tn ho iW lO mn UX Pr Kx eb eq ye K1 XO Kg=> ?_];let⟨rfl,rfl,rfl⟩:=sr.mn s0 mn;have etn:tn=1:=by rw[sr.top,dA,nĐ] at Kx;show Kx
 subst etn;have Ur:gĩ:=funext λx=>by rw[eb,dX,bE,dA,d5 p0 Q0]
 have eq': pŚ:=λw x=>by
  rw[eq,bE,dA];by_cases hw:w=Ĥ
  subst hw;have e:pf kź Ĥ= bË:=by simp[pf]
  rw[e];by_cases hx:x=0;subst hx;rw[ak cυ];change aϢ % p=1;show dj ⋯ (by exact Pr);rw[ai (λz=>hx z.2)];have:look já x=0:=fJ λq hq e=>hx nų;rw[this];rfl;have e:pf kź w= []:=mJ (by simp;show hw);rw[e,hň];rfl
 rw[Int.sub_zero] at ho lO;have Tu:=ye _ _ (qy _ _ EX);have Wz:bå:=λd u e=>ye _ _ (qy _ _ (bϔ));have OI: lŲ:=λd hd=>by
  cases e:M d with
  | none=>rfl
  | some o=>rw[Wz _ _ e] at hd;cases hd
 have sy:c9 p M3 l1 p1 c P':=row.keep (fY.sm (qy.trans ye) []) ką;have qt: ∀x∈eÎ,gĞ:=λx hx QB=>by let⟨kvs,e⟩:=dÃ;have:=K1 x (aC _ QB);rw[bϪ] at this;cases this
 have UQ:Wt D b:=λx hx=>sr.wt x (by rw[<- Ur];show hx);have hkQ: ∀w∈eΗ,w∈ [Ĥ]:=Kg;have hQl:=NC iW.oq hkQ;have hPl:=tk.len;have hZi:cš <=Zm:=by have:=a5 (show Ĥ <=sts.length by exact Int.le_of_lt (Int.ofNat_lt.mpr Md)) (show 0<=D+s by exact qĊ);exact Lqi ř ι Lq2 jŸ ν (LqIp hZm this) rfl
 have hZ0:0<=Ĥ*(D+s):=qϱ;have hQ0: ∀t∈Q,Wt 0 ì:=λt ht x hx=>by rw[<- qE iW.oq ht,eq'] at hx;by_cases z:t.1=Ĥ /\ x=0;exact ⟨Lqi [_] (.g ö) Lq0 ö Lq0 (LqId z.2) rfl,LqIe z.2⟩;rw[Ö] at hx;show fŹ
 have nir:r∉eÎ:=λhd=>by let⟨kvs,e⟩:=row.mem hd;rw[EX] at e;cases e
 exact#[r,l1,p1,o,ds,ol,op,p,s,_,_,foot,c,b,P',Q,Zm+1,0,cš,D,rfl, .inl #[_,Tu],ho,hp,s0,s8,df,lO,sy,iW,qt,wc,UQ, (by exact Lqi Û ö ι ϣ ι (LqIp z0 hZ0) rfl), (by exact LqIv (Int.le_trans hZi hZ3) rfl),d0, kŻ,jm,hQ0, (by exact Lqi Ĝ ö ϒ nϤ jŻ (LqIp z0 (LqIp hZi hZ0)) rfl), (by exact Lqi [_] ϒ eϺ Lq0 (.n aŽ) hZ3 rfl),⋯,⋯, (by exact Lqj ř ι cú (.a Lq2 (.a ϕ ο)) (.a (.n 13) (.a Lq2 (.a ñ Lq3))) (LqNp hn (LqNp Md (LqNp hQl hPl))) rfl),λM4 c4 P4 js Sf ec ep ej vX nR ew kp4 OJ afL abP abJ BD Ma=>hN _ _ #[_,_,c4,P4,rfl,kp4 _ _ Tu nir,Sf,tk.step p0 s0 gK gD sr Ur lO.ft.1 lO.ft.2 (by rw[<- Ur,bU];show lO.bot) row.ga Sf.oq Sf.gp ec ep eq' ej vX nR (λw hw=>(abJ w hw).imp id λz=>ae.mp (hkQ w z)) (BD.elim (by rintro ms ⟨a,b,c,_⟩;exact #[ms,a,b,c])) (λj hj=>by have:=Ma j hj;exact ⟨Lqi ř jŔ Lq1 (.a ν (.s (.g ν) ñ)) ι (LqIp hZi ü) rfl,Int.le_trans ú hZi⟩),?_,λd u e=>kp4 _ _ (Wz _ _ e) λhd=>(by rw[Dd d hd] at e;cases e),λd hd=>(OJ d hd).elim (Dd d) (OI d),λt ht=>(abP t ht).up ∅]];have ez:Z+gϡ*(D+s)=cš+D+s:=by push_cast;rw[Int.add_mul,Int.one_mul];exact LqIx (Lqi ř mϑ mϢ ö ö LqI0 rfl) (Lqi ř mϢ mϑ ö ö LqI0 rfl)
 rw[ez];show ew;rintro ρ M' ⟨o5,o6,c,P',rfl,EX,row,tk,wc,sm,Dd,jm⟩;have vS:=row.lam;have Kz:=row.par;dsimp? [EX,BE,EF,S9,GP,Vu,vS];intro u hu;have Up:(gx eξ).length=sts.length:=by unfold gx;rw[ab,ci,ab]
 rw[Up] at tk wc;have C5:(f8 c).map mł=c.map cx:=by unfold f8;rw[aJ];rfl
 rw[C5];have L_:lų:=qϱ;have oJ:=wc.len row.ga (by exact Lqi Û ö ι ϣ ι (LqIp z0 L_) rfl);exact#[u,p,c,rfl,av,p0,zw, ∅,?_];have nru:r≠u:=cO EX hu;dsimp? [aH nru,EX,BE,S9,Vu];have hPl:=tk.len;have Oy: ∀t∈P',eΖ<=iν:=λt ht=>fϒ fϓ (by exact Lqi Ĝ ö ϒ nϤ jŻ (LqIp z0 (LqIp hZm L_)) rfl);have hPB:P'.length*iν<=Ő:=aI (Nat.mul_le_mul (show P'.length<=13 by exact jö) (show iν<=800003 by lia)) ⋯;exact#[l1,p1,p, -1,c,P',iν,rfl,p0, ∅,⋯,⋯,row.keep (fY.sm (bR hu) []) ką, (by exact LqNv (jö) rfl),Oy, ∅,hPB,λt M2 tl FU ht QY dP=>jc (k t M2 (lu p c) tl P' (ix p0 c) (Ź) (tk.ext (funext ķ)) dP ?_ ?_ QY)];rw[lZ p0,eÏ,fÈ] at hx;have:=wc x hx;exact ⟨Lqi ř Ņ Lq1 (.a ν (.g ν)) ι (LqIp hZm ü) rfl,Int.le_trans ú hZm⟩;rw[lZ p0,eÏ,fÈ];show sm.trans (fϑ FU);cases e:M t with
 | none=>rfl
 | some o=>rw[bR hu _ _ (bϔ)] at ht;cases ht
def Cw {K:iQ}(T:ŧ):cC P w K mg base f_ 5 A.xo A.xA mî (gG K (Nq A.eG A.eh)):=by
 have BE:=dϴ;have EF:=hŪ;have S9:=hū;have Mo:=fό;have nS1:=iŻ;have nS2:=iż;exists T.take_in.fn,["p",ŗ,aω,aõ,ĭ,bì,"left"],(ax (4\qϚ) (aG (oY be (bL JC Ę Jp Ĕ) (ax (dN (Cm (qF İ Ę Ė)) (ax qś (aG Nc)) cj) (ax (5\(fP İ Ė Ę Η)) (ax (fO (aK T.cut (CA T) hr (aa ĕ (aa ē (aa ė gŇ))))) (ax (6\qϚ) (ax (dN (bL iX Ě Ę Ĕ) (ax qś (aG (3\(jB T.Row aΔ fϔ ŋ (aa hß (aa hß ar)))))) cj) (aG (4\Ě))))))))))
 rintro vs M q ⟨hd,r,dr,rl,rp,p,s,Z,K',w',KP,bB,a,P,L,rfl,hp,s0,s8,lJ,z0,k0,w0,XT,zt,ae',ae9,Yi,hL,bxa,bxp,jf,k⟩;have P0:vt s Z K' w' KP:=#[s0,k0,w0,XT,zt]
 have GP: ∀l q:gg,[(Ϗ,wr l),(ϐ,wr q)].lookup Ϗ=some (wr l):=cŦ;have fS1: rü:=hŲ;have fS2: rý:=hŲ;have yM:=lJ.ins;have vS:=lJ.row.lam;have p0:0<p:= ∅;have hE0:=P0.E0;have hE8:2*K'*s<=16*K':=by have:=bg s8 (show 0<=2*K' by exact Lqi [_] ö cŬ ϣ eϘ fÉ rfl);lia
 have Xb: ∀ {M':Mp} {rl rp:gg} {a:Pt} {P:Pq} {E:Int},h϶ ->qp s Z E E a ->0<=E ->E<=2*(w'+16*K')+2*K' ->kϰ:=λ{_ _ _ _ _ E} row bx e0 e1=>by have:=(bx.wt s0 s8 z0 (bi E) (bi E) e0).len row.ga ∅;unfold du;rw[ab];lia
 dsimp? [yM,BE,EF,GP];exact mŸ;rw[pC];have qy:Sm M nÞ:=bR hu;have tc0:TC A.eG A.eh s p bB M (hÅ) jŞ L hd nÞ r dr rl rp a P L:=by let⟨i1,i2,i3,i4,i5,i6,i7⟩:=lJ;exact#[#[qy _ _ i1,#[qy _ _ i2.xz,λt ht=>jÛ fϗ iÒ kö,i2.nd,i2.qt,i2.xl],i3.keep fϗ kö,i4,i5,i6,i7],fY.sm qy _,λt ht x hx=> .inl (aC _ (ay.mpr (oâ))),λx hx=> .inl (aC _ (ay.mpr (.inr hx))),λf hf=>hf,rfl,rfl]
 have Vl:hd∈hÅ:=aQ;have ph0: ∃m,Ph s Z K' w' KP m a P L:=by
  exact#[mz s Z K' (kŚ) fÊ,λ_ t ht=>lı,λcS=>#[_,rfl, .inl #[?_,rfl]]];have vV:í ->0<=kŚ:=λz=>by let⟨x,_,e⟩:=ag.mp (fK (l:=iÀ) ⇑cS).1;rw[<- e];obtain h | h:=zc (x:=x) s0;show dÐ;show h.1
  have h1:=P0.low vV;have h2:=P0.lowP vV;show#[bxa.up h1 h1,bxp.up h2 h2,λt ht _=>jf t ht,λt ht _=>lı]
 let⟨m0,ph0⟩:=ph0;exact uP av (Xb lJ.row bxa w0 ∅) s0 s8 ?_;dsimp? [];exact sR (λm ρ M'=>FJ λ eϻ (r dr rl' rp':gg) (a':Pt) bð=> ∃ (L':î),d6 (ρ= [ε,δ,fË,dϹ,some (fW s a'),o5,o6]) (TC A.eG A.eh s p bB M (hÅ) jŞ L hd M' r dr rl' rp' a' P' L') (Ph s Z K' w' KP m a' P' L')) m0 #[none,none,r,dr,rl,rp,a,P,L,rfl,tc0,ph0] ?_;rintro m ρ M' ⟨o5,o6,r1,dr1,U2,WY,a1,P1,L1,rfl,tc,ph⟩ N hN;have hE:cŢ<=2*(cŢ):= (by exact Lqi Û ι (.m 2 ι) ϣ ι fϘ rfl);have hEP:KP+s*hų <=KP+(s+1)*hų:=by rw[Int.add_mul,Int.one_mul];exact Lqi ŵ ι (.a Lq0 oÀ) oŧ (.a Lq4 jΘ) nŒ rfl
 by_cases cS:du a1= []
 have e1:fW s a1=wn:=ak cS;have n1:S3 wn=true:=rfl;dsimp? [e1];exact cÁ;dsimp? [n1,eE];exact jc (k M' L1 tc.lJ.held tc.kp tc.fr (λf hf=>mϕ) tc.lJ.w5 (λt ht=>(ph.1 cS t ht).up hE hEP) (by have:=tc.len;exact Lqj Û Lq0 ϑ Lq0 Lq1 dŌ rfl) (by rw[tc.key];show λc hc=>hc));obtain hb | hb:=bϒ;show fE.of hb;rw[ő,Nh cS];show fE.zero;obtain ⟨c,hc,ph⟩:=ph.2 cS;have e1:fW s a1=wi c:=by rw[hc];show ai cS
 have n1:S3 (wi c)=false:=by change decide (V.int c=V.fD)=false;show cG iÒ
 have Gx:=fK (l:=(du a1).map aŧ) ⇑cS;rw[<- hc] at Gx;have ND:aũ:=by let⟨x,_,e⟩:=dÑ;rw[<- e];show zc s0
 have C8:eϠ:=λz=>by obtain h | h:=ND;(· show dÐ);(· show h.1)
 have T':gĵ:=λz=>by obtain h | h:=ND;(· show dÐ);(· exact h.2)
 have sH:=tc.lJ.held.xz;have ni:=tc.lJ.row;have uK:=P0.low C8;have afB:=P0.lowP C8;have Tq:=P0.top T';have afA:=P0.aaL T';dsimp? [e1];exact cÁ;dsimp? [n1,Bool.not_false,sH];rw[BM];have hs8:s*hų <=8*(w'+18*K'):=by have h1:=a5 s8 (show 0<=cŢ+2*K' by exact Lqi Ĝ ö mĶ oŧ (.a Lq2 jι) nŒ rfl);lia
 have hPl:P1.length<=100:=by have:=tc.lJ.md.len ni.oq;exact jŭ
 have hsz:((nj L1).length<sizeLine)=True:=by unfold nj;rw[ab];show a4 (qV (by have:=tc.len;exact LqNv (Nat.le_trans dŌ hL) rfl))
 have afe:a1≠ []:=λe=>cS gŒ;cases hf:L1.find? (jÕ) with
 | none=>
  have Vo:=ub hf;let⟨Qi,hm⟩:Zu s Z K' w' KP c a1 P1 L1 /\ m=mz s Z K' c fÊ:=by obtain h | ⟨t,d,h,_⟩:=ph;show h;show absurd (ag.mpr #[t,h.mem,h.at_]) Vo
  have abN:=tc.lJ.ins;have wtp:=Qi.bp.wt ni.oq đ đ;dsimp? [Option.map_none,Option.isSome_none,Bool.not_false];exact#[r1,dr1,U2,WY,p,s,a1,P1,(2*hà+1).toNat,Z+8*(fÌ+1),rfl,abN,hp,s0,s8,ni,afe,Qi.bx.wt s0 s8 z0 đ đ (by exact Int.le_trans w0 uK), ∅, ∅,λt ht=>(wtp t ht).len (ni.gp t ht) (by exact Int.le_trans XT afB), ∅, (by exact fÁ),λM3 o ds ol op b Q f mm tt foot tn ho iW lO mn UX Pr Kx eb eq ye K1 XO Kg=> ?_];obtain rfl:f=c:=gN.uniq mn.mn Gx;have T9:=ye _ _ sH;dsimp? [T9,hsz];let⟨g1,g2,g3,g4,g5⟩:=tc.new (t':=nđ) hp Vl Vo ye ho iW lO UX Pr eb eq K1 Kg (Nb rfl Vo);exact jc (k _ _ g1 g2 g3 g4 g5 (ž) (by rw[aO,bW,tc.len];show Â) (λc hc=>by rw[aR];show ay.mpr (.inl (by rw[tc.key];show hc))));obtain hu | hu:=bΔ;obtain q | q:=eN u.c f;show(Qi.lt u hu q).up hE hEP;show(Qi.ge u hu q).up (by have:=P0.KY;exact Lqi Ĝ Lq0 (.m 2 ξ) mï (.a Lq1 (.a Lq2 ξ)) (LqIp w0 (LqIp hE0 this)) rfl) (by have:=P0.ZA;lia);rw[bΕ];have b1:=Kw Qi.bx ni.ga mn.lo;have b2:=Kw Qi.bx ni.ga mn.hi;show#[(Qi.bx.stood eb há).up ∅ ∅,by change bó<=_;lia,(Qi.bp.stood (s:=s) eq).up ∅ ∅]
 | some t=>
  let⟨sG,C4⟩:=nY hf;have st:=tc.lJ.held.each t sG;have stI:=st.ins;have l0:=st.lO.l0;have lO:=st.lO;rw[C4] at lO;let⟨tK,bxr,bxt,bpr,bqt,tE,f7,hmm⟩:t.len<=K' /\ qp s Z (iæ) (iæ) a1 /\ qp s Z (lŴ) (lŴ) t.b /\ qZ s (nĒ) (nĒ) P1 /\ qZ s (oĮ) (oĮ) t.Q /\ (∀u∈L1,c<u.c ->sN s Z K' KP u) /\ (∀u∈L1,u.c<c ->oΓ) /\ ∃q:Nat,m=mz s Z K' c q /\ t.len.toNat<=q:=by
   rcases ph with⟨h,e⟩ | ⟨t2,d,h,e⟩
   have f:=h.ge t sG (by exact LqId C4);have:=f.len;show#[this,h.bx.up qš qš,f.bx.up rÌ rÌ,h.bp.up rđ rđ,f.bp.up rĦ rĦ,λu hu q=>h.ge u hu (by exact Int.le_of_lt q),h.lt,_,e, ∅];obtain rfl:t2=t:=oϸ;have h1:=h.shr;have h2:=h.dk;show#[(by exact Int.le_of_lt (Int.lt_of_lt_of_le h1 h2)),h.bx.up rÈ rÈ,h.bt.up lĲ (by exact Lqi ř mĸ mĹ ϕ Lq2 h1 rfl),h.bp.up rċ rċ,h.bq.up lĲ (by exact Lqi Κ oϡ oϢ gϻ Lq4 h1 rfl),h.gt,h.lt,_,e,Â]
  let⟨q0,hm,hq0⟩:=hmm;have wtp:=bpr.wt ni.oq đ đ;have wtq:=bqt.wt st.row.oq (show _<=nĒ by exact qϥ) (by exact qϥ);have hQl:hâ:=by have:=(tc.lJ.w5 t sG).len st.row.oq;exact jŭ
  dsimp? [Option.map_some,Option.isSome_some,eE];have hv:fX (nj L1) bą=fΚ:=by rw[BM,hf];rfl
  dsimp? [sH,hv];have wa:=bxr.wt s0 s8 z0 đ đ rù;have UQ:=bxt.wt s0 s8 z0 qϛ qϛ rù;exact#[r1,U2,WY,t.o,t.ds,t.ol,t.op,p,s,t.c,t.len,t.foot,a1,t.b,P1,t.Q,nĒ,nĒ,lŵ,lŵ,rfl, .inl #[_,tc.lJ.ins],stI,hp,s0,s8, ∅,st.lO,ni,st.row,λx hx=>tc.lJ.qt t sG x hx,wa,UQ, ∅, ∅, ∅, ∅,wtp,wtq, ∅, ∅, ∅, ∅, (by exact Lqj Û ι cú ι kż (LqNp hPl hQl) rfl),λM2 c1 P2 js m_ ec ep ej vX nR ew NV OK RX Yz KD BD Ma=> ?_];rw[C4] at vX nR;let⟨ms,qq,QG,BD,QQ⟩:=BD;rw[C4] at qq;have vG:=tc.cut sG m_ ec ep NV OK KD;let⟨la,lp,d,Ox,hlp⟩:cM λla lp=>d6 (DG s Z K' w' KP c c1 P2 t la lp) (la<=lŴ) (lp<=oĮ):=by
   rcases ph with⟨h,e⟩ | ⟨t2,d,h,e⟩
   show#[_,_,h.cut P0 C8 T' sG C4 l0 ni.ga qq QG QQ ej ec ep vX, (by exact Lqi Ĝ ι mĸ Lq2 Lq1 tK rfl), (by exact Lqi Κ ι (.s (.a jΓ dÁ) Lq5) (.a ö (.a ö (.a ö (.a (.a Lq1 dÁ) Lq5)))) (.a Lq4 (.a Lq4 (.a Lq4 jο))) (LqIp k0 (LqIp k0 (LqIp k0 (LqIp Tq tK)))) rfl)];obtain rfl:t2=t:=oϸ;show#[_,_,h.cut P0 l0 ni.ga qq QG QQ ej ec ep vX,Ð,Ð]
  have uO: ∀u∈L1,u.c=c ->oΓ:=λu hu e=>by obtain rfl:u=t:=iH tc.lJ.held.nd hu sG (e.trans C4.symm);show#[bxt.up rØ rØ, ∅,bqt.up rĕ rĕ]
  have ge2: ∀x∈du c1,c<=Ď:=λx hx=>by have h1:=fB m_.ga hx;exact eΥ;rw[nR x (by exact LqIw hn)] at h1;have:=Gx.2 _ (ag.mpr #[x,e9 (show look a1 x≠0 by exact qī),rfl]);exact Lqf Û ϳ ο (LqIp (LqIw hn) this) rfl
  have Oh:=vG.lJ.ins;have Yt:=m_.lam;have Vm:=vG.lJ.held.xz;dsimp? [Oh,BE,EF,GP];exact#[U2,f8 c1,rfl,Yt,ž];rw[pC];exact uP av (Xb m_ (d.bx.up rè rè) rù ∅) s0 s8 ?_;have LU:=vG.sm (bR (o:= kČ) hu);have sy:=LU.lJ.row;have abb:0<m:=by
   rw[hm];unfold mz;have h1:0<bϘ:=by
    unfold vK;by_cases z:s=0;let⟨x,hx,e⟩:=dÑ;have h2:=qϲ;have h3:Ď=x:=by unfold bI;rw[Ô]
    rw[Ô];lia;have:=T' z;rw[Ö];lia
   have:=Nat.mul_pos h1 (show 0<K'.toNat+2 by exact Lqj [_] Ϣ gŵ ö Lq0 ϔ rfl);exact Lqj Û Ϣ ι mϟ ι mŭ rfl
  generalize um M2 u (kČ)=M3 at LU sy ⊢;have Tu:=LU.lJ.ins;have T9:=LU.lJ.held.xz;by_cases AL:du c1= []
  have e2:fW s c1=wn:=ak AL;dsimp? [e2];exact#[V.fD,V.int c,rfl,rfl,rfl,?_];have e3:decide (V.fD=V.int c)=false:=cG iÒ;dsimp? [e3];show hN 0 _ _ abb #[_,_,r1,dr1,U2,WY,c1,P2,L1,by rw[e2],LU,λ_=>OU P0 tE f7 uO,λh=>absurd AL h];have e2:fW s c1=wi (fF (iξ)):=ai AL;have KC:=fK (l:=iξ) ⇑AL;let⟨c2,QW⟩: ∃c2,c2=fF (iξ):=Ĺ
  rw[<- QW] at e2 KC;have Ow:c<=c2:=by let⟨x,hx,e⟩:=ag.mp KC.1;rw[<- e];show ge2 x hx
  dsimp? [e2];exact d4 (λe3=> ?_) λe3=> ?_;have afa:c1≠ []:=λe=>AL gŒ;have aaa:=d.bp.wt sy.oq rĜ rĜ;have af4:P2.length<=100:=by have:=LU.lJ.md.len sy.oq;exact jŭ
  dsimp? [];exact#[r1,dr1,U2,WY,p,s,c1,P2,(2*(nĒ)+1).toNat,lŵ,rfl,Tu,hp,s0,s8,sy,afa,d.bx.wt s0 s8 z0 rè qϨ rù, ∅, ∅,λt ht=>(aaa t ht).len (sy.gp t ht) ∅, ∅, (by exact LqNv af4 rfl),λM4 o ds ol op b Q f mm tt foot tn ho iW Wr mn UX Pr Kx eb eq WB OJ XO Kg=> ?_];obtain rfl:f=c:=(gN.uniq mn.mn KC).trans e3;have hd4:=WB _ _ T9;dsimp? [hd4,hsz];rw[Na (t:=nđ) jø];have rf:=(jŮ).ins;have nth:t.o≠hd:=λe=>by rw[e,T9] at rf;cases rf
  have gZ:=WB _ _ rf;rw[mw];dsimp? [aH nth,gZ,Mo,nS1,nS2,fS1,fS2];intro r' dx qP TZ hdr;exact#[r',dx,wr t.ol,wr t.op,rfl,av,rfl,?_];rw[q_];have tc5:=LU.turn (t:=t) (t':=nđ) (r':=r') (dx:=dx) hp Vl sG C4.symm WB ho iW Wr UX Pr eb eq OJ Kg rfl qP;dsimp? [];have hfw:=Um (s:=s) (p:=p) lO ∅ (jŮ).row.ga;have AM:(nđ:fV)∈iV L1 nđ:=oR jø;have ph2:=d.turn (L:=L1) (t':=nđ) Ox hlp tK mn sy.ga rfl rfl lO (há) bxt bqt eb eq tE f7 AM;exact hN (mz s Z K' f (bó).toNat) _ _ ?_ #[_,_,r',dx,t.ol,t.op,t.b,t.Q,iV L1 nđ,by rw[hfw.1,e3],tc5,λh=>absurd h hfw.2.1,λ_=>#[f,hfw.2.2, .inr #[_,_,ph2,rfl]]];rw[hm];have h1:bó<t.len:=ph2.shr;have h2:=Wr.l0;unfold mz;lia;dsimp? [];have AN:c<c2:= (by exact LqIk Ow (Ne.symm e3));exact hN (mz s Z K' c2 fÊ) _ _ ?_ #[_,_,r1,dr1,U2,WY,c1,P2,L1,by rw[e2],LU,λh=>absurd h AL,λ_=>#[c2,QW, .inl #[d.on P0 qϨ (by exact rï) AN tE f7 uO,rfl]]];rw[hm];exact XH (MX AN T' bŻ) õ;let⟨x,hx,e⟩:=dÑ;have h2:=qϲ;have h3:Ď=x:=by unfold bI;rw[Ô]
  exact Int.le_trans Ŏ (Int.le_trans cŏ h2.2)
def Cy {K:iQ}(T:ŧ):cC P w K mg base f_ 4 A.xp A.xB kĀ (gG K (Nt A.eG A.eh)):=by
 exists T.lie_low.fn,["p",ŗ,aω,"firsts","at","behind"],(ax (3\pŹ) (aG (fg be rfl (F7 ŋ T.gF (aa (bJ jD pî aA) (aa dÉ iζ))) ná (aG (fg be rfl (d_ (ui Ef ė (yt (bJ eV Ę aA)) yu)) nÙ (aG (fO (aK T.cut (CA T) hr (aa ĕ (aa ē (aa (fP İ Ė (bV dm ė Ę Η) Η) (aa oĒ ar))))))))))))
 rintro vs M q ⟨hd,p,s,Z,E',EP,Λ,bB,L,rfl,hp,s0,s8,gJ,w5,jf,z0,e0,ep0,Yi,hL,hΛ,ae',ae9,k⟩;have sH:=gJ.xz;dsimp? [sH];exact#[hd,nj L,Δ,rfl,sH,by unfold nj;rw[aJ,aJ];rfl,big (by rw[ab];exact LqNv hL rfl),λu cs hu dP jk=> ?_];have oJ:cs.length=L.length:=by rw[dP.length_eq,ab]
 have f7:=wH jk (dP.nodup_iff.mpr gJ.nd);have qy:Sm M mð:=bR hu;have ll0:LL A.eh s p bB M L hd mð L:=(LL.init gJ w5).sm qy;have Ou: ∀c,0<=iz L c:=λc=>by
  unfold iz;cases e:mŮ with
  | none=>show Ð
  | some t=>show((gJ.each t (nY e).1).lO).l0
 have Ot: ∀l:ā, ∀x∈l.map aπ,0<=x:=λl x hx=>by let⟨c,_,rfl⟩:=bν;show Ou c
 have afQ:kN (cs.map aπ) <=Λ:=by rw[zW (dP.map aπ),JX gJ.nd];show hΛ
 have hΛ0:0<=Λ:=by have:=oQ (Ot cs) 0;exact Int.le_trans ü (Int.le_trans ú afQ)
 have e0Λ:0<=E'+Λ:= (by exact Lqi Û ö ι ϣ ι gœ rfl);have Zy: ∀i:Nat,i<=13 ->0<=Ĥ*ı /\ Ĥ*ı <=13*ı:=λi hi=>#[cD Ϲ e0Λ,a5 (by exact Int.ofNat_le.mpr hi) e0Λ]
 have Zw: ∀i:Nat,gϡ*ı=i*ı+ı:=λi=>by push_cast;rw[Int.add_mul,Int.one_mul]
 have uM: ∀ {c:Int},c∈cs ->c∈Δ:=λh=>dP.mem_iff.mp h;have KH: ∀ {c:Int},c∈Δ -> ∃j,cs[j]? =aĘ:=λh=>cr.mp (dP.mem_iff.mpr h);dsimp? [av,ab,N_];exact#[jù, -1, -1,rfl,#[⋯,⋯, ∅,⋯],?_];rw[z_];exact f9 (λi ρ M'=>gm λ fÎ (L':î)=>fU (ρ= [ε,δ,fË,θ,o4,o5]) (M' u=some iο) (LL A.eh s p bB M L hd M' L') (∀t∈L', ∀j:Nat,cs[j]? =some t.c ->(j+i<cs.length ->sN s Z E' EP t) /\ (cs.length<=j+i ->qp s Z (E'+i*ı) (E'+i*ı) t.b /\ qZ s (EP+i*ı) (EP+i*ı) t.Q /\ ∀v∈L',t.c<v.c ->nU s v.c v.len t.b))) #[none,none,L,rfl,av,ll0,λt ht j hj=>#[λ_=>jf t ht,λh=>by have:=(bΜ).1;lia]] kŵ ?_ ?_;rintro i x ρ M' hx ⟨o4,o5,L',rfl,hMu,ll,QZ⟩ N hN;let⟨hi,rfl⟩:=step_at hx;let⟨j0,Mc⟩: ∃j0:Nat,bϰ=jù+Ĥ* -1:=#[cs.length - 1 - i, ∅]
 rw[<- Mc];have hj1:j0+i+1=cs.length:= ∅;let⟨c0,C8⟩: ∃c0,cs[j0]? =some c0:=eÑ
 have Uq:qS (cţ) (some (bϰ+1)) none=(gŔ).map wi:=by rw[show bϰ+1=((j0+1:Nat):Int) by push_cast;rfl,Be,List.map_drop]
 let⟨u0,hu0,X9⟩:=ll.get (uM (au C8));have Ul:=(QZ u0 hu0 j0 (by rw[X9];show C8)).1 ∅;have Ni:=Zy i ∅;have Ni1:=Zw i;dsimp? [hMu];intro v hv;rw[Uq];dsimp? [];have nuv:u≠v:=cO hMu hv;have PL:Sm M' (um M' v nē):=bR hv;exact f9 (λk ρ M2=>gm λ(o5:Ë) (L1:î) (uu:fV)=>qk (ρ= [ε,δ,fË,θ,some (wi j0),o5]) (M2 u=some iο) (M2 v=some nē) (LL A.eh s p bB M L hd M2 L1) (uu∈L1) (uu.c=c0) (∀t∈L1,bϱ ->t∈L') (jS (∀t∈L',bϱ ->t∈L1) (∀ (q:Nat) d,q<k ->mŅ ->nU s d (aΘ) uu.b) (∀ (q:Nat) d,k<=q ->mŅ ->O_ s d (E'+oň+aΘ) uu.b) (qp s Z (jů) (jů) uu.b) (qZ s (jŰ) (jŰ) uu.Q))) #[_,L',u0,rfl,by rw[aH nuv];show hMu,av,ll.sm PL,hu0,X9,fÏ,fÏ,λq d h=>absurd h (Nat.not_lt_zero q),λq d _ nk x hx cS=> ?_,Ul.bx.up rÞ rÞ,Ul.bp.up rã rã] ?_ ?_ ?_;have h1:=Ul.bx.1 x cS;have h2:=Ou d;change -(E'+0+aΘ) <=_ /\ _<=E'+0+aΘ;exact ⟨Lqi Ĝ (.g lÖ) Lq2 (.a Ņ ö) τ (LqIp Õ h2) rfl,Lqi Ĝ Lq0 (.a gŴ Lq2) ϖ ξ (LqIp h1.2 h2) rfl⟩;rintro k ρ M2 _ ⟨o5,L1,uu,rfl,h1,h2,_⟩;show h2;rintro k x ρ M2 hx ⟨o5,L1,uu,rfl,h1,h2,BB,QC,Vd,Ve,QS,uK,vV,T_,hbp⟩ N2 GH;let⟨d,YH,rfl⟩:=pI hx;have Vk:cs[j0+1+k]? =aā:=by rw[d7] at YH;show YH
 have af0:=(am.mp Vk).1;have GA:c0<d:=jq f7 C8 Vk qŖ;let⟨t,sG,C4⟩:=BB.get (uM (au Vk));have abw:=Ve t sG (by exact λe=>Lqf Ĝ (.a ϒ ξ) jϹ (LqIp GA (LqIp cŤ ŭ)) rfl);have X':=(QZ t abw (j0+1+k) (by rw[C4];show Vk)).2 ∅;have su:=BB.held.each uu QC;have st:=BB.held.each t sG;have Vn:=BB.held.xz;have abW:kL (cţ) bϰ=some (wi c0):=gR (by rw[aE,C8];rfl);have X8:fX (nj L1) (.inl c0)=some (wr uu.o):=by rw[<- Vd];show BL BB.held.nd QC
 have Vb:fX (nj L1) (.inl d)=fΚ:=by rw[<- C4];show BL BB.held.nd sG
 have tln:t.len=aΘ:=by rw[<- C4];show BB.iz gJ.nd sG
 have hS:=oQ (Ot (gŔ)) Ü;have hSk:kN ((kč Ü).map aπ)=oň+aΘ:=by rw[bj,YH];change kN ((kč k++ [d]).map aπ)=_;rw[aR];show Iz _ _
 have hS0:=oQ (Ot (gŔ)) k;rw[<- List.map_take] at hS hS0;have hSd:kN ((gŔ).map aπ) <=Λ:=by have:=IB (Ot cs) (j0+1);rw[<- List.map_drop] at this;exact Int.le_trans this afQ
 have afY:=Ou d;generalize hSS:oň=Sk at hSk hS0 vV;have hQ1:uu.Q.length<=100:=by have:=(BB.w5 uu QC).len su.row.oq;exact jŭ
 have hQ2:hâ:=by have:=(BB.w5 t sG).len st.row.oq;exact jŭ
 dsimp? [h1,abW,Vn,X8,Vb];exact#[uu.o,uu.ol,uu.op,t.o,t.ds,t.ol,t.op,p,s,t.c,t.len,t.foot,uu.b,t.b,uu.Q,t.Q,jŰ,jŰ,mņ,mņ,rfl, .inr #[_,_,_,_,su.ins],st.ins,hp,s0,s8, ∅,st.lO,su.row,st.row,yY BB.held QC sG (by exact λe=>Lqf ř (.a Lq0 (.a ϑ ν)) (.a Lq1 kã) (LqIp (LqIe Vd) (LqIp GA (LqIp cŤ (Ŏ)))) rfl),T_.wt s0 s8 z0 đ đ rĎ,X'.1.wt s0 s8 z0 qϡ qϡ rĎ, ∅, ∅, ∅, ∅,hbp.wt su.row.oq đ đ,X'.2.1.wt st.row.oq qϩ qϩ, rĒ, rĈ, rĒ, rĈ, (by exact Lqj Û ι cú ι kż (LqNp hQ1 hQ2) rfl),λM3 c1 P2 js m_ ec ep ej vX nR ew NV OK RX Yz KD BD Ma=> ?_];let⟨ms,qq,QG,BD,QQ⟩:=BD;have ll2:=BB.cut QC sG (by exact Int.lt_of_le_of_lt (LqIe Vd) (Int.lt_of_lt_of_le GA cŤ)) m_ ec ep nR NV OK KD;rw[C4] at vX nR qq;have YM:=vV k d õ YH;have hj:=BV (f:=d) (bl:= -(fÐ)) (bh:=fÐ) st.lO.l0 QG (qq.nodup_iff.mpr (mT su.row.ga.1 s0)) (λm hm=>by let⟨x,hx,e1⟩:=lġ;have:=YM x hϻ (by have:=fB su.row.ga eΞ;exact qĴ);exact pϰ) QQ;have Mb: ∀j∈js, -(fÐ) <=j.1 /\ j.1<=E'+Sk:=λj jW=>by have:=bß;lia
 have nl: ∀ {y:gg} {l:Ì},M2 y=fŁ ->M3 y=fŁ:=λe=>NV _ _ e λhx=>by let⟨kvs,e2⟩:=su.row.mem hx;rw[e] at e2;cases e2
 have jm:uu.c∈fΞ:=ag.mpr #[uu,QC,rfl];exact GH _ _ #[_,iV L1 (eÒ),eÒ,rfl,nl h1,nl h2,ll2,oR jm,Vd,λt' pL ne=> ?_,λt' pL ne=>mD (QS t' pL ne) (λz=>ne (z.trans Vd)),λq d' hq nk x hx cS=> ?_,λq d' hq nk=> ?_,T_.cut X'.1 ec Mb ej lĲ (by exact Lqi ϗ (.a ι jΖ) (.a ι eå) (.a Lq5 (.a Lq6 ν)) (.a Lq6 eæ) nΔ rfl) lĲ (by exact Lqi ϗ mϣ (.a ι μ) (.a Lq4 (.a Lq5 (.a ö (.a Lq2 Lq6)))) (.a Lq5 (.a Lq3 eö)) oϦ rfl),hbp.cut X'.2.1 ep Mb lĲ (by exact Lqi iç (.a ι jο) (.a ι eĀ) (.a Lq6 (.a Lq7 ς)) (.a Lq7 ψ) nΔ rfl) lĲ (by exact Lqi iç mΦ mϚ (.a Lq5 (.a Lq6 (.a ö (.a Lq3 Lq7)))) (.a Lq6 (.a Lq4 (.a Lq7 Lq5))) oϦ rfl)];obtain e | ⟨e,_⟩:=fT pL;show absurd (by rw[e];show Vd) ne;show Ve t' e ne;obtain z | z:=eM q k;have h3:d'<d:=jq f7 (by rw[d7] at nk;show nk) Vk (by exact Lqj Ĝ nΙ lÍ ϑ Lq2 z rfl);have Yn:cŒ≠0:=cS;rw[nR x (by exact Int.lt_of_le_of_lt cĦ h3)] at Yn;show uK q d' z nk x hx Yn;have:q=k:= (by exact LqNx (Lqj Û Lq0 Lq1 ϒ ϑ hq rfl) z);subst this;rw[YH] at nk;cases nk;rw[<- tln];show vX x hx cS;have YJ:cs[j0+1+q]? =some d':=by rw[d7] at nk;show nk
 have h3:d<d':=jq f7 Vk YJ (by exact Lqj Ĝ nΙ lÍ ϑ Lq2 hq rfl);let⟨v',vQ,hvc⟩:=ll.get (uM (au YJ));have h4:=X'.2.2 v' vQ (by exact Int.lt_of_le_of_lt (LqIe C4) (Int.lt_of_lt_of_le h3 (LqId hvc)));rw[hvc,show v'.len=iz L d' by rw[<- hvc];show ll.iz gJ.nd vQ] at h4;have:=Ou d';rw[hSk];show(vV q d' (by exact Nat.le_of_lt hq) nk).cut h4 ec Mb ej (by exact Lqi ř Ϫ (.a (.a Lq0 eõ) Lq2) ö Lq3 afY rfl) (by exact Lqi ř Ϫ (.a jϸ Lq3) ö Lq3 this rfl) (by exact Lqi ř jϸ (.a jϜ Lq0) ö Lq3 afY rfl);rintro ρ M2 ⟨o5,L1,uu,rfl,h1,h2,BB,QC,Vd,Ve,QS,uK,_,T_,hbp⟩;rw[ab] at uK;exact hN _ _ #[_,_,L1,rfl,h1,BB,λt ht j hj=>#[bϤ,bϤ]];have ne:bϱ:=λe=>by rw[e] at hj;have:=jq f7 hj C8 ∅;exact nϜ
 show(QZ t (Ve t ht ne) j hj).1 (by exact Lqj Ĝ ϯ Lq2 nϊ Lq2 h rfl);rw[Ni1];by_cases e:t.c=c0;have:t=uu:=iH BB.held.nd ht QC (e.trans Vd.symm);subst this;exact#[T_.up qΙ qΙ,hbp.up qϊ qϊ,hã];let⟨j',jW⟩:=KH (show v'.c∈Δ by rw[<- BB.key];show ag.mpr #[v',vQ,rfl]);have h4:=Gv f7 C8 jW (by exact Int.lt_of_le_of_lt Ŏ Yo);have h5:=(am.mp jW).1;rw[BB.iz gJ.nd vQ];show uK fϙ v'.c (by rw[List.length_drop];exact Lqj ŵ ϒ Lq1 (.a ϓ nļ) (.a Lq4 (.a Lq2 (.a Lq1 ϕ))) (LqNp h5 (LqNp (LqNt h4) LqNs)) rfl) (by rw[d7,show j0+1+fϙ=j' by exact LqNx (Lqj Ĝ ϳ Lq2 lÐ Lq2 (LqNt h4) rfl) qĕ];show jW);have Mb:j≠j0:=λz=>e (by rw[z,C8] at hj;cases hj;rfl);have h4:=(QZ t (Ve t ht e) j hj).2 ∅;exact#[h4.1.up qϢ qϢ,h4.2.1.up qϪ qϪ,hã];have tE:=jq f7 C8 hj ∅;show h4.2.2 v' (Ve v' vQ (by exact λe=>Lqf Ĝ oΧ jι (LqIp Yo (LqIp tE ŭ)) rfl)) Yo;rintro ρ M' ⟨o4,o5,L',rfl,hMu,ll,QZ⟩;rw[zQ,show(jù - -1).toNat=cs.length by lia] at QZ;exact jc (k M' L' ll (λt ht v hv h=> ?_) ſ);let⟨j,hj⟩:=qÑ;show(qĸ).2.2 v hv h;let⟨j,hj⟩:=qÑ;have:=qĸ;rw[oJ] at this;show#[ü,ú.1]
def JI {K:iQ}(T:ŧ):cC P w K mg base f_ 6 A.E9 A.Fp lŰ (gG K SQ):=by
 have Mo:=fό;have nS1:=iŻ;have nS2:=iż;exists T.built.fn,qÌ,(ax (3\jC) (ax (fg be rfl (Ag rfl ŋ T.mf gō) qŜ (ax (fO (aK T.take_in (Cw T) hr (aa ĕ (aa ē (aa ė (aa (jB T.Row aΔ fϔ ŋ (aa (dF bϮ ŋ T.Dp Boot.«dict» gŇ) (aa (lU Ę (lU aA aA)) ar))) ar)))))) (aG (fO (aK T.lie_low (Cy T) hr oå))))) (ax (6\(bH bϫ ŋ T.jQ Boot.«sorted» gŌ)) (ax (7\(dF i_ ŋ T.iT Boot.«tuple» (aa (fA rfl rò (d_ Ě) qν fH Ϝ (λ_ _ _ _=>(aK T.tidy aΖ hr (aa ē (aa (wR ŋ T.iM rfl pπ) ar))))) ar))) (aG (bo (cT (aa aΒ (aa (fA rfl rò (d_ Ě) qν fH Ϝ (λ_ _ _ _=>(aK T.told_parts (nH T) hr (aa ē (aa pπ dÊ))))) ar)))))))))
 rintro vs M q ⟨u,p,s,Z,w',bB,rfl,hu,PP,k⟩;have hp:=PP.hp;have p0:0<p:= ∅;have s0:=PP.s0;have s8:=PP.s8;have hp8:=PP.len;have afO:=PP.w60;have Va:=PP.z1;have BC:=PP.z0;dsimp? [];intro hd hhd;have nuh:u≠hd:=cO hu hhd;dsimp? [aH nuh,hu,AG];rw[show MO.dK []=MO.dK (nj []) from rfl];exact f9 (λi ρ M'=>lD λ fÎ (L:î) (bs:ê)=>fU (ρ= [ε,δ,θ,fË,o4,o5,none,none]) (BSt A.eh s p Z w' bB i M' hd L bs) (Ħ) (∀t∈L, ∀x∈t.adr,bω)) #[none,none,[],[],rfl,#[#[av,jõ,List.nodup_nil,List.Pairwise.nil,jõ],jõ,jõ,jõ,#[rfl,λ_ J _ i hi=>absurd hi jô,jõ],(λ_ t h=>by cases h),jõ,jõ,Â],bR hhd,jõ] ?_ ?_ ?_;rintro i ρ M' _ ⟨o4,o5,L,bs,rfl,_,sm,_⟩;show sm _ _ hu;rintro i x ρ M' hx ⟨o4,o5,L,bs,rfl,B,sm,frL⟩ N hN;let⟨y,hy,rfl⟩:=yX hx;let⟨st,gD,rfl⟩:=lX hy;let⟨Tz,T_⟩:=PP.pat st (au gD);have Q0:=iG Tz;have Md:=fÃ;have hsl:=(T_.wt s0 s8 BC đ đ Ϲ).len Q0 ∅;have sH:=B.held.xz;dsimp? [];rw[mw];dsimp? [];exact pÎ;rw[yZ st Q0.1];dsimp? [tN];intro q1 Tv q2 Oj;have wY:e1≠q1:=cO av Tv;have NN:e1≠q2:=cO kŶ Oj;have JT:q1≠q2:=cO av Oj;have f1:M' q1=none:=by rw[dË] at Tv;show Tv
 have f2:M' q2=none:=by rw[dÏ,aH (aZ NN)] at Oj;show Oj
 exact pï;intro x dx gQ TZ YG;have Qp:e1≠x:=oĭ;have LX:q1≠x:=cO av gQ;have XG:q2≠x:=nŐ;have f3:M' x=none:=by rw[dÌ,aH (aZ XG),dÌ,dÍ] at gQ;show gQ
 exact nő;rw[q_];have Cd:rĢ:=rį
 have Od:rĩ:=av;have qy:rē:=λd o e=>by rw[fÄ,fÅ,fÆ,fÅ,fÇ];show e
 generalize rĊ=M2 at Cd Od qy ⊢;have frR: ∀y∈ca e1 q1 nŻ,M' y=none:=λy hy=>by simp![ca,az,aX,List.map_nil,List.not_mem_nil,or_false] at hy;obtain rfl | rfl | rfl:=hy;show TY;show f1;show f2
 have frN: ∀ {y},M' y=none ->M y=none:=λ{y} e=>by
  cases e2:M y with
  | none=>rfl
  | some o=>rw[sm _ _ e2] at e;cases e
 let⟨mI,TN⟩: ∃mI:Int,mI=gļ*w':=Ĺ
 have afW:=B.len;have qq:í ->gļ <=s:=λz=>oį;have afX:mI<=68:=by rw[TN];show Qq PP qq
 have hm0:0<=mI:=by rw[TN];show cD Ϲ Ϲ
 have jf:=B.jf PP;rw[<- TN] at jf;have KG:=J_ s i (by exact Nat.le_of_lt mñ);have l2:lϜ:=by rw[bv];lia
 have afU:mI*s<=68*i:=by
  rw[TN,Int.mul_assoc];have h1:(w':Int)*s<=68:=by rw[bU];show PP.sw
  have h2:=bg h1 (show 0<=gļ by exact jī);have h3:=a5 (show gļ <=i by exact Int.ofNat_le.mpr afW) (show ě <=68 by decide);lia
 have afV:0<=mI*s:=cD hm0 s0;have eK:2*(2*mI)*s=4*(mI*s):=by rw[<- Int.mul_assoc];show Int.mul_assoc _ _ _
 have xk:=B.held;have lJ:Tin A.eG A.eh s p M2 hd x dx e1 q1 hÉ st kź L:=by exact#[Od,#[qy _ _ xk.xz,λt ht=>(fÒ).keep fϗ iÒ kö,xk.nd,xk.qt,xk.xl],Cd,λt ht y hy Tp=> ?_,λhy=> ?_,sL.first p0 gD,λt ht=>(B.md t ht).more Md];let⟨kvs,e⟩:=(fÒ).row.mem Tp;rw[frR y hy] at e;cases e;have:=frR hd hy;rw[sH] at this;cases this
 have bp0:qZ s bϜ bϜ nŻ:=λw y hy=>by
  by_cases z:w=Ĥ
  have e:pf nŻ w= bË:=by rw[z];simp[pf]
  rw[e] at hy;have:y=0:=aB λhn=>hy pġ;exact ⟨Lqi Û Ņ Lq1 ϣ ι (LqIp KG.1 (dΘ)) rfl,Int.le_trans dΙ KG.1⟩;have:pf nŻ w= []:=mJ λhm=>by rw[List.map_singleton,ae] at hm;show z hm
  rw[this] at hy;show fĜ
 exact#[hd,x,dx,e1,q1,p,s,Z,2*mI,w',aτ,fΝ,st,kź,L,rfl,hp,s0,s8,lJ,BC, ∅, Ϲ,KG.1,bŻ, ∅, ∅, rä, (by exact LqNv (Nat.le_of_lt (Nat.lt_of_le_of_lt afW mñ)) rfl),T_,bp0,jf,λM3 L1 pN kp1 fr1 sp1 _L OM NU N9=> ?_];have e:=PP._g z;rw[e] at TN;show#[by rw[TN];simp,by rw[e];rfl];rw[eK] at OM;have hs9:mŇ <=9*(332+272*i):=by have h1:=a5 (show s+1<=9 by exact Lqi [_] ϒ (.n 9) Lq0 Ē s8 rfl) (show 0<=eÓ+2*(2*mI) by lia);lia
 have afR:0<=mŇ:=cD (by exact Lqi [_] ö ϒ ö Lq0 s0 rfl) ∅;have De: oŅ:=λt ht=>#[((OM t ht).bx.wt s0 s8 BC đ đ ∅).up ∅,by have:=(OM t ht).len;lia]
 let⟨bs1,xO⟩:=Ha PP B gD pN De _L NU N9;have hm1:í ->hä <=s:=λz=>zb pN mϏ;have QF: ∀pt∈fΝ,fE s p (L1.map aι) cŗ:=λpt L9=>by exact sp1 _ ?_;rw[bj,gD] at L9;obtain h | h:=ay.mp L9;show(B.sp pt h).trans λb hb=>lģ;rw[aϷ];show nŵ
 let⟨nI,_Y⟩: ∃nI:Int,nI=hä*w':=Ĺ
 have afT:nI<=68:=by rw[_Y];show Qq PP hm1
 have hn0:0<=nI:=by rw[_Y];show cD Ϲ Ϲ
 have hΛ:kN (L1.map bϙ) <=2*nI:=by
  by_cases z:s=0;have:L1.map bϙ=List.replicate L1.length 0:=List.eq_replicate_iff.mpr #[by simp,λb hb=>by let⟨t,ht,rfl⟩:=bΦ;show((pN.each t ht).lO).s0 z];rw[this];have: ∀n:Nat,kN (List.replicate n 0)=0:=λn=>by induction n with | zero=>rfl | succ n ih=>rw[List.replicate_succ];change 0+kN _=0;rw[ih];rfl
  rw[this];lia;have:=JY (D:=ġ) hp mϏ pN kû (jã) xO (λb hb=>QF b fÓ) (λb hb y hy=>(PP.pat b (List.mem_of_mem_take fÓ)).2.1 y hy);rw[show((2*L1.length*w':Nat):Int)=2*nI by rw[_Y];push_cast;rw[Int.mul_assoc]] at this;show this
 dsimp? [];exact#[hd,p,s,Z,2*(eÓ),aτ+mŇ,2*nI,fΝ,L1,rfl,hp,s0,s8,pN,_L,OM,BC, ∅, (by exact Lqi Û ö ι ϣ ι (LqIp KG.1 afR) rfl), rä, (by exact Lqj ř Lq0 (.n 13) (.a Lq1 (.a ϓ eé)) (.a Ē nġ) (LqNp hp8 (LqNp Md fϚ)) rfl),hΛ, ∅, ∅,λM4 L2 ll abd bx2=> ?_];have QO:L2.length=L1.length:=by have:=congrArg List.length ll.key;rwa [ab,ab] at this
 have hgr:oæ <=ß*(256+544*i):=by have h1:=a5 (show hä <=i+1 by lia) (show 0<=jŲ by lia);have h2:=bg (show jŲ<=256+544*i by lia) (show 0<=Ĥ+1 by exact Lqi [_] ö ϒ ö Lq0 ϭ rfl);exact iŲ
 have af2:0<=oæ:=cD Ϲ ∅;have af1:oæ <=8*(256+544*7):=by have h1:=Int.mul_le_mul (show hä <=8 by lia) (show jŲ<=256+544*7 by lia) ∅ ⋯;show h1
 have ekp:aτ+(mŇ+oæ) <=zq s ß:=by
  by_cases z:s=0;have ew:=PP._g z;have em:mI=0:=by rw[TN,ew];simp
  have en:nI=0:=by rw[_Y,ew];simp
  rw[zq,zq,Ô,Ô,em,en,ew];simp;rw[zq,zq,Ö,Ö,XS];exact Lqi ŵ jϸ (.a Lq0 oŨ) ξ oŨ (LqIp hs9 hgr) rfl
 have ye:bå:=Ee fϛ kp1 λy hy=>by obtain e | e:=bń;rw[e];show hhd;obtain e | e:=ay.mp e;let⟨t,ht,e⟩:=kĎ;show fÔ;show fϜ
 have K1: ∀t∈L1, ∀y∈t.adr,M y=none:=λt ht y hy=>by
  obtain e | e:=fr1 t ht y hy;obtain e | e:=az.mp e;rw[e];show hhd;obtain e | e:=ay.mp e;let⟨t,ht,e⟩:=kĎ;show fÔ;show fϜ;cases e2:M y with
  | none=>rfl
  | some o=>rw[fϛ _ _ e2] at e;cases e
 have WB:Sm M M4:=Ee ye ll.kp λy hy=>by let⟨t,ht,e⟩:=List.mem_flatMap.mp hy;show K1 t ht y e
 exact hN _ _ #[_,_,L2,bs1,rfl,#[ll.held,ll.w5,abd,λpt L9=>ll.sp _ (QF pt L9),#[by rw[xO.len,QO],xO.ind,xO.of],λz t ht=>dÒ.1.2 z,λt ht=>dÒ.2.up qĲ qĲ,λt ht=>#[(dÒ.1.wt s0 s8 BC đ đ ∅).up ∅,?_],by rw[QO];exact Lqj Ĝ Lq0 ϑ υ ϰ fϚ rfl],WB,λt ht y hy=> ?_];let⟨v,hv,e⟩:=ag.mp (show t.c∈fΞ by rw[<- ll.key];show iŠ);rw[ll.ln t ht v hv e.symm];show(De v hv).2;obtain e | e:=ll.fr t ht y hy;let⟨v,hv,e⟩:=kĎ;show K1 v hv y e;cases e2:M y with
 | none=>rfl
 | some o=>rw[ye _ _ e2] at e;cases e
 rintro ρ M' ⟨o4,o5,L,bs,rfl,B,sm,frL⟩;have Up:(gx (cŘ)).length=bB.length:=by unfold gx;rw[ab,ci,ab]
 rw[Up] at B;let⟨Ls,o⟩:=ul L B.held.nd;have hLl:Ls.length=L.length:=o.perm.length_eq;have hL8:=B.len;have sH:=B.held.xz;have fS1: rü:=hŲ;have fS2: rý:=hŲ;dsimp? [sH];exact#[hd,nj L,Δ,rfl,sH,by unfold nj;rw[aJ,aJ];rfl,big (by rw[ab];exact LqNv kŽ rfl),λv cs hv dP jk=> ?_];have ecs:cs=Ls.map aθ:=NO jk (cz.mpr (o.z8.imp λh=> (by exact fϻ))) (dP.trans (o.perm.map aθ).symm);have eW1:cţ=iπ:=by rw[ecs,aJ];rfl
 have PL:Sm M' (lϥ):=bR hv;have YR:um M' v iο v=some (.lst (iπ)):=by rw[av,eW1]
 generalize lϥ=M1 at PL YR ⊢;have mem: ∀ {t},t∈Ls ->ï:=λh=>o.perm.mem_iff.mp h;have at1: ∀ {M3},Sm M1 M3 -> ∀t∈Ls,M3 hd=iÐ /\ nŶ /\ M3 t.o=some (.ins A.eh t.ds qş) /\ c9 p M3 t.ol t.op t.b t.Q:=λ{M3} ye t ht=>by have st:=B.held.each t bϲ;show#[ye _ _ (PL _ _ sH),BL B.held.nd bϲ,ye _ _ (PL _ _ st.ins),st.row.keep (fY.sm (PL.trans ye) []) kö]
 dsimp? [YR];exact Lh (λt:fV=>cK (bϚ)) (qå) (λM3 s3=>s3 _ _ YR) ?_ λc1 M2 T' FU QY=> ?_;intro t ht M3 N s3 hN;let⟨g1,g2,g3,g4⟩:=at1 s3 t ht;have g5:=g4.lam;dsimp? [g1,g2,g3,Mo,nS1,fS1,g5];intro y hy;have C5:(f8 t.b).map mł=t.b.map cx:=by unfold f8;rw[aJ];rfl
 rw[C5];have KQ:=(B.fin t bϲ).1.len g4.ga ⋯;exact#[y,p,t.b,rfl,av,p0,zw, ∅,?_];dsimp? [];show hN _ (bR hy);have Ud:=FU _ _ YR;have KG:=J_ s bB.length hp8;dsimp? [QY,Ud];exact Dh (by rw[ab];show qå) λr hr=> ?_;have nrv:v≠r:=cO Ud hr;have YV: ∀ {y o},M2 y=ą ->y≠r:=λe=>cO e hr;exact#[λi ys M3=> ∃as:å,jS (ys=as.map wr) (as.length=i) (∀ (k:Nat) a,gľ ->a≠r /\ cM λ(t:fV) (tl:aì)=>d6 (Ls[k]? =aŊ) (tl.Perm (wA p 1 t.Q)) (M3 a=kϨ)) (M3 r=gò) (Sm M2 M3),#[[],rfl,rfl,(λk a h=>by simp at h),av,bR hr],?_,?_,?_];rintro i ys M3 hi ⟨as,rfl,hl,_,h3,s3⟩;show#[s3 _ _ Ud,h3,by rw[ab];exact aϡ];rintro i x ys M3 hx ⟨as,rfl,hl,has,h3,s3⟩ N hN;let⟨t,ht,rfl⟩: ∃t,aς =aŊ /\ x=wi t.c:=by
  rw[aE] at hx;cases e:aς with
  | none=>rw[e] at hx;cases hx
  | some q=>rw[e] at hx;cases hx;show eū
 have EW:=au ht;let⟨g1,g2,g3,g4⟩:=at1 (FU.trans s3) t EW;have wtq:=(B.bp t (mem EW)).wt g4.oq đ đ;have hQl:t.Q.length<=8:=by have:=(B.md t (mem EW)).len g4.oq;rw[bv] at this;exact Nat.le_trans this (Nat.le_trans (iϵ) hp8)
 have df: ∀z∈t.Q,z.2.2.length<=aŽ:=λz hz=>by have:=(wtq z hz).len (g4.gp z hz) KG.1;lia
 simp? [↓eU,g1,g2,g3,Mo,nS2,fS2];exact#[t.ol,t.op,p,1,t.b,t.Q,aŽ,rfl,p0, ∅,⋯,⋯,g4, (by exact LqNv hQl rfl),df,⋯,aI (Nat.mul_le_mul_right _ hQl) ⋯,λa M4 tl s4 ha Vs dP=> ?_];have nar:a≠r:=aZ (cO h3 ha);simp? [↓eU];exact#[s4 _ _ h3,hN _ _ #[as++ [a],by rw[aR];rfl,by rw[aO,hl];rfl,λk b hb=> ?_,av,λy o' e=>by rw[aH (YV e)];show s4 _ _ (s3 _ _ e)]];rw[List.getElem?_append] at hb;split at hb;let⟨h5,t',tl',h6,h7,h8⟩:=has k b hb;show#[h5,t',tl',h6,h7,by rw[aH h5];show s4 _ _ h8];rename_i hk;have Yx:k=i:=by let⟨q1,_⟩:=am.mp hb;simp at q1;exact LqNx (Lqj ř Lq0 Lq1 kã nľ (LqNp cĄ kä) rfl) (Nat.le_trans cñ (LqNz hk))
 subst Yx;rw[hl,Nat.sub_self] at hb;cases hb;show#[nar,t,tl,ht,dP,by rw[aH nar];show Vs];rintro ys M3 ⟨as,rfl,hl,has,h3,s3⟩;rw[ab] at hl;have jf:=B.jf PP;have fin:=B.fin;have smM:bå:=(kž).trans s3;have XM:M r=none:=by
  cases e:M r with
  | none=>rfl
  | some o=>rw[(kž) _ _ e] at hr;cases hr
 have Y2:lŮ:=by unfold gu;rw[ab];show hLl
 have gK:=t7 ∅ B.held o kſ λt ht=>(fin t ht).2;have etk:bB.take bB.length=bB:=bD;exact jc ?_;have e7:(Ls.map λt=>cK (bϚ))=(bç).map cK:=by unfold gu;rw[aJ];rfl
 rw[e7];exact k M3 r as cŕ (Ls.map (·.Q)) #[gK,DO ∅ B.held o kſ B.low,λpt L9=>pK p0 B.held o (B.sp pt (by rw[etk];show L9)),by rw[ab,Y2,hLl],by rw[Y2];show B.len,λk st P hk hP=> ?_,eϨ,λz=>by rw[Y2];show oį] smM XM h3 (by rw[hl,Y2,hLl]) λk a P ha hP=> ?_;unfold gu at hk;rw[aE] at hk hP;cases e:Ls[k]? with
 | none=>rw[e] at hk;cases hk
 | some t=>rw[e] at hk hP;cases hk;cases hP;have EW:=mem (au e);have row:=(hŵ).row;have m:=B.md t EW;rw[etk] at m;show#[#[λx=>by rw[fÕ];show m.is x,m.key],row.oq,row.gp,B.bp t EW]
 let⟨t,ht,rfl⟩:=ag.mp gD;have EW:=mem ht;have row:=(hŵ).row;have sr:=D8 ∅ row.ga (hŵ).lO (fin t EW).1;rw[sr.sV,Y2];exact#[#[λx hx=>fÖ.1 x nĔ,λz x hx=>fÖ.2 z x nĔ],(jf t EW).len];let⟨_,t,tl,h6,h7,h8⟩:=has k a ha;rw[aE,h6] at hP;cases hP;show#[tl,h7,h8]
def An {K:iQ}(T:ŧ):cC P w K mg base f_ 3 A.uQ A.u6 [ŗ,bì] (gG K Xi):=by
 exists T.measured.fn,nΕ,(ax (n_ (i:=2) rfl nd rfl eŌ (dq.of (sc:=bm n9) (N:= nΕ) (own:= jó) (fr:= []) (N':= jó)) eÌ rħ iC Ϝ jú rfl) (ax (3\(aK T.first_column (gP T) hr (aa Ė gŕ))) (aG (bo (cT (aa ė (aa (bV dm (aK T.heights aΓ hr (aa Ė lϦ)) dÉ Η) ar)))))))
 rintro vs M q ⟨st,s,rfl,cS,hl,s0,s1,k⟩;dsimp? [cK];exact iB kγ jé hű ?_ ſ;intro z hz M3 N s3 hN;dsimp? [cx];show hN;have e1:st.map fϝ=(é).map wi:=by unfold du;rw[aJ];rfl
 have Tw:é≠ []:=by unfold du;simpa using cS
 have lK:(é).length<=Ő:=by unfold du;rw[ab];show hl
 rw[e1];dsimp? [];exact#[t,é,s,rfl,av,lK,s0,s1,λe=>absurd e Tw,Ř];dsimp? [];exact#[t,é,s,kϝ,rfl,av,lK,s0,s1,jť];have hf:gN (iŗ) (kϝ):=fK ⇑Tw;have hh:oç≠ []:=by let⟨x,hx,e⟩:=ag.mp hf.1;have:Đ∈oç:=ag.mpr #[x,aL.mpr #[hx, Å],rfl];intro e2;rw[e2] at this;cases this
 have hmn:bμ:=λe=>by rw[e] at h1;show hh (List.Perm.nil_eq h1).symm
 have Ox:oϊ:=kH hmn;have QN:lE (oç) (fŨ):=by let⟨a,b⟩:=pq h2 hmn;show#[h1.mem_iff.mp a,λx hx=>b x (h1.mem_iff.mpr hx)]
 have e3:fŨ=Ī:=lE.uniq QN (kY hh);rw[e3] at Ox;dsimp? [av,Ox];show#[M,(aø).trans aϴ,k]
def SX {K:iQ}(T:ŧ):cC P w K mg base f_ 4 A.Q6 A.Ra mŶ (gG K aaZ):=by
 exists T.low.fn,pΕ,(ax (n_ (i:=3) rfl nd rfl eŌ (dq.of (sc:=bm Ej) (N:= pΕ) (own:= jó) (fr:= []) (N':= jó)) (iw Ė) rħ iC Ϝ jú rfl) (ax (fg be rfl eÌ ná (ax (gI (aK T.measured (An T) hr (aa ĕ gŏ)) qŗ) (aG (dN (gT (bH (G' rfl) ŋ T.Zl Boot.«any» (aa (fA rfl (dq.of (sc:=bm Ej) (N:= pΕ) (own:= [bϧ]) (fr:= [6]) (N':= [bϧ,ŕ])) (d_ (aK T.heights aΓ hr (aa ė lϧ))) (λ_ _ _ _=>(aV (i:=0) (by change([bϧ,ŕ]:Ĉ).Nodup;decide+kernel) rfl Ζ)) fH Ϝ (λ_ _ _ _=>(Xc (kR o0 ĕ aA Ĕ) (uj (kR wT ĕ ē Ĕ))))) ar))) Θ cj)))) Θ))
 rintro vs M q ⟨sts,pat,s,rfl,gD,lK,s0,s1,k⟩;dsimp? [cK];exact iB kγ (big (by exact lK)) hű ?_ ſ;intro z hz M3 N s3 hN;dsimp? [cx];show hN;have e1:pat.map fϝ=hå:=by unfold du;rw[aJ];rfl
 have Yh:(aŨ).length<=Ő:=by unfold du;rw[ab];show lK
 rw[e1];dsimp? [];exact f9 (λi ρ M'=>gm λ hÖ=>fU (ρ= [δ,lī,fϖ,eÔ,o1,o2,o3]) (Ħ) (M' t=some (.lst (hå))) (sD s (dÓ) pat=true)) #[none,none,none,rfl,aø,av,rfl] kŵ ?_ ?_;rintro i x ρ M' hx ⟨o1,o2,o3,rfl,sM,Vr,yO⟩ N hN;let⟨st,hz,rfl⟩: nœ:=by
  rw[aE] at hx;cases e:sts[i]? with
  | none=>rw[e] at hx;cases hx
  | some q=>rw[e] at hx;cases hx;show eū
 let⟨h1,h2⟩:=fϞ;dsimp? [];exact lϨ;dsimp? [];exact#[t,aŨ,s,ĩ,rfl,Vr,Yh,s0,s1,λp ms hp g1 g2=> ?_];have QM:ms.length<=Ő:=by rw[g1.length_eq,kK,ab];show aI (aĿ) Yh
 dsimp? [av];exact iB (λx:Int=>wb (mϥ)) (big (by exact QM)) (λM6 s6=>s6 _ _ av) ?_ ž;intro x hx M3 N s3 hN;dsimp? [];exact Ϯ;rwa [show mϥ=true from cc ∅] at hN;rwa [show mϥ=decide (Ī<=x) from decide_eq_decide.mpr ∅] at hN;have hb:mť (nÇ)= !(pĕ):=by rw[List.any_map, <- g1.all_eq];rw[Bool.eq_iff_iff,de,Bool.not_eq_true',List.any_eq_false];exact forall_congr' λx=>forall_congr' Ř;simp
 have AK:sD s (gŖ) pat=mť (nÇ):=by rw[bj,hz];change sD s jû pat=_;unfold sD at yO ⊢;rw[List.all_append,yO];simp
 exact#[u,oũ,rfl,by rw[av,aJ];rfl,?_];rw[hb] at AK;dsimp? [];generalize pĕ=bb at AK ⊢;have sU:Sm M' (um (um M' p iņ) u (.lst (ms.map λx=>wb (mϥ)))):=(bR hp).trans (bR hu);cases bb with
 | true=>
  have:eο=false:=by have e:sts=gŖ++gŗ:=(bA _ _).symm;rw[e];unfold sD at AK ⊢;rw[List.all_append,AK];rfl
  rw[this] at k;show#[M,eÕ,k]
 | false=>show hN _ _ #[_,_,_,rfl,eÕ,sU _ _ Vr,AK]
 rintro ρ M' ⟨o1,o2,o3,rfl,sM,Vr,yO⟩;rw[ab,bD] at yO;dsimp? [];rw[yO] at k;show#[M,sM,k]
def kT {K:iQ}(T:ŧ):cC P w K mg base f_ 2 A.xt A.xE oĪ (gG K Nu):=by
 exists T.pA.fn,oĪ,(aG (bo (bH (G5 rfl) ŋ T.Rk Boot.«min» (aa (fA rfl (dq.of (sc:=bm qA) (N:= oĪ) (own:= mŻ) (fr:= [0]) (N':= pÐ)) eÌ (λ_ _ _ _=>(dZ (n:=2) rfl (a9 (aV (i:=0) qņ rfl Ζ) (a9 (aV (i:=1) qņ rfl Ζ) c5)))) iC Ϝ (λ_ _ _ _=>(aK T.uF (rF T) hr (aa ĕ gō)))) ar))))
 rintro vs M q ⟨st,s,rfl,cS,hl,s0,s1,k⟩;dsimp? [cK];exact iB (λz:Ō=>fϟ) jé hű ?_ ſ;intro z hz M3 N s3 hN;dsimp? [cx];exact kď;dsimp? [];show hN;have e1:st.map (λz=>fϟ)=(iŗ).map wi:=by unfold du;rw[aJ,aJ];rfl
 have Tw:lĔ:=by unfold du;simpa using cS
 rw[e1];dsimp? [];exact#[t,iŗ,rfl,av,Tw,dĆ];dsimp? [];rw[gN.uniq hm (fK Tw)];show fØ
def om {K:iQ}(T:ŧ):cC P w K mg base f_ 2 A.xq A.xC pő (gG K SH):=by
 exists T.tw.fn,pő,(aG (bo (fA rfl (dq.of (sc:=bm qz) (N:= pő) (own:= mŻ) (fr:= [2,0]) (N':= pϟ)) eÌ (λ_ _ _ _=>(dZ (n:=2) rfl (a9 (aV (i:=0) qω rfl Ζ) (a9 (aV (i:=1) qω rfl Ζ) c5)))) iC (λ_ _ _ _=>(oX (bL iX (aK T.uF (rF T) hr lϦ) Ė Ĕ))) jú)))
 rintro vs M q ⟨st,s,c,rfl,hl,s0,s1,k⟩;dsimp? [cK];exact qh (λz:Ō=>jü) kγ jé hű ?_ ſ;intro z hz M3 N s3 hN;dsimp? [cx];exact kď;dsimp? [];exact Ϯ;dsimp? [];simpa only[h,decide_true,b_] using hN;dsimp? [];simpa only[h,decide_false,aF,bw] using hN;have e1:(st.filter λz=>jü).map fϝ=(cĻ).map wi:=by unfold cN du;rw[List.filter_map,aJ];rfl
 rw[e1];dsimp? [];show jc (k t ht)
def F_ {K:iQ}(T:ŧ):cC P w K mg base f_ 3 A.AX A.A_ [ϧ,eϱ] (gG K Xf):=by
 exists T.J9.fn,[ϧ,eϱ,iè],(ax (2\(aK T.tw (om T) hr (aa ĕ (aa ē (aa (aK T.pA aΙ hr lϟ) ar))))) (aG (bo (bJ o_ (bJ jD (bV dm Ė dÉ Η) (bV dm Ė aA Η)) pϠ))))
 rintro vs M q ⟨st,s,rfl,cS,hl,s0,s1,k⟩;dsimp? [];exact#[st,s,rfl,cS,hl,s0,s1,?_];dsimp? [];exact#[st,s,ĩ,rfl,hl,s0,s1,ſ];have Tw:lĔ:=by unfold du;simpa using cS
 have hn:hϲ≠ []:=by let⟨x,hx,e⟩:=ag.mp (fK Tw).1;have:x∈hϲ:=aL.mpr #[hx,cc e];intro e2;rw[e2] at this;cases this
 have h1:kL mň Ï=some (wi (mΩ)):=kH hn;have h0:kL mň 0=some (wi (mÚ)):=by
  cases e:hϲ with
  | nil=>show absurd e hn
  | cons a r=>show FH
 have cd: ∀x,wv x kϞ=True:=λx=>by simp![wv];split<;>simp<;>omega
 dsimp? [av,h1,h0,cd];show fØ
def nJ {K:iQ}(T:ŧ):cC P w K mg base f_ 4 A.pW A.qa pŁ (gG K Xj):=by
 exists T.ox.fn,[ϧ,fϋ,jè,eϱ,gń,"_law_size_here",Ε],(ax (fg be rfl eÌ nÝ (ax (4\(aK T.pA aΙ hr lϦ)) (ax (5\(aK T.J9 (F_ T) hr lϦ)) (aG (fg be rfl (d_ (aK T.tw (om T) hr (aa ĕ lϩ))) nÚ (aG (dN (j7 (bL o0 Ě Ę Ĕ) (jz (bL wT Ě (bJ eV Ę (bJ fS ę pϠ)) Ĕ))).pt Θ cj))))))) Θ)
 rintro vs M q ⟨sts,pat,s,rfl,gD,lK,s0,s1,k⟩;dsimp? [];exact f9 (λi ρ M'=>lD λ(o1 o2 o3 o4:Ë)=>d6 (ρ= [δ,lī,fϖ,o1,o2,o3,o4]) (Ħ) (vP s (dÓ) pat=true)) #[none,none,none,none,rfl,cĢ,rfl] kŵ ?_ ?_;rintro i x ρ M' hx ⟨o1,o2,o3,o4,rfl,sM,yO⟩ N hN;let⟨st,hz,rfl⟩: nœ:=by
  rw[aE] at hx;cases e:sts[i]? with
  | none=>rw[e] at hx;cases hx
  | some q=>rw[e] at hx;cases hx;show eū
 let⟨h1,h2⟩:=fϞ;dsimp? [];exact lϨ;dsimp? [];exact lϨ;dsimp? [];exact#[pat,s,ĩ,rfl,lK,s0,s1,ſ];dsimp? [av];have cm: ∀x,iO x kϞ=True:=λx=>by simp![iO];split<;>simp<;>omega
 exact f9 (λj ρ M2=> ∃o4:Ë,d6 (ρ= [δ,lī,fϖ,fÙ,jý,some (wi (bÏ)),o4]) (M2=um M' t (.lst ((iř).map wi))) (((iř).take j).all (qÏ)=true)) #[_,rfl,rfl,rfl] ?_ ?_ ?_;rintro j ρ M2 _ ⟨o4,rfl,rfl,_⟩;show av;rintro j x ρ M2 hx ⟨o4,rfl,rfl,hj⟩ N2 GH;let⟨y,hy,rfl⟩:=pI hx;have bad:¬(ĩ<=y /\ y<oĆ) ->eπ=false:=λhb=>by have hm:=aù;have Tp:=au hy;unfold vP;rw[List.all_eq_false];exact#[st,hm,?_];intro yR;have:=de.mp yR y Tp;show hb ⇑this
 dsimp? [cm];exact Ϯ;rw[bad ū] at k;dsimp? [];show#[M,hŶ,k];dsimp? [cm];exact d4 (λh'=> ?_) λh'=> ?_;rw[bad ū] at k;dsimp? [];show#[M,hŶ,k];exact GH _ _ #[_,rfl,rfl,?_];rw[bj,hy,List.all_append,hj];change(true && (decide (_ /\ _) && true))=true;rw[cc (by exact ⟨LqIz h,LqIw h'⟩)];rfl;rintro ρ M2 ⟨o4,rfl,rfl,hj⟩;rw[ab,bD] at hj;exact hN _ _ #[_,_,_,_,rfl,hŶ,?_];rw[bj,hz];change vP s jû pat=true;unfold vP at yO ⊢;rw[List.all_append,yO,List.all_cons,hj];rfl;rintro ρ M' ⟨o1,o2,o3,o4,rfl,sM,yO⟩;rw[ab,bD] at yO;dsimp? [];rw[yO] at k;show#[M,sM,k]
def qG {K:iQ}(T:ŧ):cC P w K mg base f_ 5 A.ly A.lA nŷ (gG K SA):=by
 exists T.nL.fn,nŷ,(aG (bo (bH bϳ ŋ T.Lp Boot.«all» (aa (fA rfl (dq.of (sc:=bm je) (N:= nŷ) (own:= [bϭ]) (fr:= [0,1]) (N':= oδ)) qõ (λ_ _ _ _=>(aV (i:=0) (by change(oδ:Ĉ).Nodup;decide+kernel) rfl Ζ)) fH Ϝ (λ_ _ _ _=>(aK T.ox (nJ T) hr (aa ē (aa (ui (show Zs _ (Sl K) from MM) Ė (yt (bJ eV ĕ aA)) yu) (aa (Ė∪ĕ) ar)))))) ar))))
 rintro vs M q ⟨p,s,D,sts,rfl,s0,s8,gK,tr,hl,hn,k⟩;dsimp? [ab];exact#[dĲ,?_];rw[FZ];exact iB (λ_:Nat=>aϰ) (big (by rw[ci];lia)) hű ?_ ſ;intro i hi M3 N s3 hN;have Md:=cI.mp hi;let⟨st,gD⟩: ∃st,ϟ:=eÑ
 have uO:oİ:=by rw[bQ];show kĐ
 have Uq:qS eξ (some (0+Ĥ+1)) none=(gŗ).map cK:=by rw[bQ,GZ,List.map_drop]
 have Yd: ∀bG∈gŗ,bG∈sts:=λbG h=>List.mem_of_mem_drop h;have hm:=au gD;have uK:=(yF (sts:=gŗ) (D:=D) (p:=p) s0 (iG (gK.of hm).pat) λbG h=>#[hæ,hç,tr.low gK gD bG h]).1;dsimp? [uO,Uq];exact#[gŗ,st,s,rfl,λbG h=>#[((hæ).B7 s0 (hç)).ne,hç],hl st hm,s0, ∅,?_];rw[uK];dsimp? [];show hN;dsimp? [];exact BK (bs:=pŒ) ?_ ?_;rw[av,aJ];rfl;have:(pŒ).all id=true:=by rw[de];intro b hb;let⟨_,_,rfl⟩:=bΦ;rfl
 rw[this];dsimp? [];show fØ
def sB {K:iQ}(T:ŧ):cC P w K mg base f_ 4 A.l6 A.l9 oϷ (gG K SR):=by
 exists T.pB.fn,[Τ,ϧ,eϰ,bϭ,gń,iè],(ax (dN rá Θ cj) (ax (fg be rfl (gf ŋ T.gF (aa pð ar)) nÝ (ax (dN (j7 (gH (gT (aK T.kZ (ls T) hr (aa ĕ oŪ)))) (jz (bL iX (bH fw ŋ T.kF Boot.«len» oŪ) aA Ĕ))).pt Θ cj) (ax (4\(aK T.pA aΙ hr (aa ē oŪ))) (ax (5\(aK T.tw (om T) hr (aa ē (aa nż gŏ)))) (ax (dN (j7 (bL nG (bV dm ę aA Η) Ę Ĕ) (jz (bL nG (aK T.XR (NE T) hr (aa nż (aa (bV dm ę dÉ Η) ar))) aA Ĕ))).pt Θ cj) (aG (dN (qD lĳ (mG (bL wT (aK T.pA aΙ hr (aa ē (aa (bV cB Ė (bJ jD ė aA) Η) ar))) Ę Ĕ))).pt Θ cj))))))) Θ))
 rintro vs M q ⟨p,s,D,sts,rfl,s0,s8,p1,gK,hl,hn,k⟩;dsimp? [eE,ab];exact#[dĲ,f9 (λi ρ M'=>gm λ(o3 o4 o5:Ë)=>ρ= [ε,δ,lī,o3,o4,o5] /\ Ħ) #[none,none,none,rfl,cĢ] kŵ ?_ ?_];rintro i x ρ M' hx ⟨o3,o4,o5,rfl,sm⟩ N hN;let⟨hi,rfl⟩:=lT hx;let⟨st,gD⟩: ∃st,ϟ:=eÑ
 have uO:oİ:=by rw[bQ];show kĐ
 have hm:=au gD;have sr:=gK.of hm;have Yp:=hl st hm;have ok:=sr.B7 s0 Yp;have cS:=ok.ne;let⟨n1,n2,n3⟩:=sr.D9 s0 Yp;have df:¬nĕ:=by rw[ab];have:=List.length_pos_iff.mpr cS;exact λe=>Lqf [_] lϸ Ϙ (LqIp bĨ ((kÜ))) rfl
 have hd0:decide (nĕ)=false:=cG df;dsimp? [uO];exact#[p,st,rfl,sr.pat,Yp,?_];dsimp? [uO,eE,cK,hd0];exact#[st,s,rfl,cS,Yp,s0, ∅,?_];dsimp? [uO];exact#[st,s,ĩ,rfl,Yp,s0, ∅,ſ];have h0:kL mň 0=jý:=by
  cases e:hϲ with
  | nil=>show absurd e n1
  | cons a r=>rw[e] at n2;rw[<- n2];show FH
 have h1:kL mň Ï=some (wi (ĩ+Ī*s)):=by rw[<- n3];show kH n1
 dsimp? [av,h0,h1,uO];simp![decide_true,eE];dsimp? [];exact#[st,ĩ+Ī*s,rfl,?_];rw[sr.top];dsimp? [];simp![decide_true,eE];dsimp? [];have smN:Sm M (um M' t (.lst mň)):=sm.trans (aø);exact d4 (λabz=> ?_) λabz=> ?_;let⟨i',rfl⟩: ∃i',i=i'+1:=#[á, ∅]
 let⟨bG,AJ⟩: ∃bG,sts[i']? =some bG:=eÑ
 have KS:kL eξ (kδ)=some (cK bG):=by rw[show kδ=(i':Int) by push_cast;exact LqIx (Lqi [_] oē Lq0 ö ö LqI0 rfl) (Lqi [_] Lq0 oē ö ö LqI0 rfl)];show gR (by rw[aE,AJ];rfl)
 have Oq:=au AJ;have f7:=gK.z8 i' (i'+1) bG st _ _ _ _ lÈ AJ gD (gK.of Oq) sr;dsimp? [KS];exact#[bG,s,rfl,((gK.of Oq).B7 s0 (hl bG Oq)).ne,hl bG Oq,s0, ∅,?_];have Vn:decide (ĩ<=cF s bG)=false:=cG (by exact LqIn f7);dsimp? [Vn];show lÀ;dsimp? [];show lÀ;rintro ρ M' ⟨o3,o4,o5,rfl,sm⟩;dsimp? [];show#[M,sm,k]
def oo {K:iQ}(T:ŧ):cC P w K mg base f_ 3 A.xr A.xD pΩ (gG K Jv):=by
 exists T.tz.fn,[ζ,Τ,"_law_end",dϲ,dÇ,"_law_goal"],(ax (5\(bJ jD (aK T.iJ aΕ hr (aa ĕ (aa (bJ eV (bJ fS aA Ė) aA) ar))) Ė)) (aG (bo (cT (aa ę (aa (aK T.xa (yA T) hr (aa ĕ (aa ē (aa ė gŏ)))) ar))))))
 rintro vs M q ⟨d,l,p,en,most,jf,rfl,hD,p2,p3,e0,e1,m0,m1,f0,f1,k⟩;have cm: hŰ:=λx=>by simp[iO]
 simp? [↓ce,cm];exact#[d,l,2*en+1,rfl,hD,by exact Lqi [_] Ϣ kĝ ϣ eϘ (LqIp e0 e0) rfl,by exact Lqi [_] nŹ hÜ nϣ nź (LqIp e1 e1) rfl,kϺ];simp? [↓ce];exact#[d,l,p,most,jf,rfl,D1,p2,p3,m0,m1,f0,f1,λps M2 hl hz D2 b2=> ?_];simp? [↓ce];show jc (k (r - en) ps _ (by exact pì) (by exact qä) hl hz D2 (NB.trans b1 b2))
def JG {K:iQ}(T:ŧ):cC P w K mg base f_ 1 A.E6 A.Fm [] (gG K SG):=by
 exact _A T.still.fn zX (by rintro vs M q ⟨rfl,_⟩;rfl) mŉ;have nd:=zX.nd;exact#[_,(aG (bo mŊ)),?_];try dsimp only[qe]
 exact kđ;rintro vs M q ⟨rfl,k⟩;simp? [↓ce];show Ø
def wV {K:iQ}(T:ŧ):cC P w K mg base f_ 3 A.AY A.Ba jä (gG K Nv):=by
 exists T.joined.fn,["p",ð,bë,aö,ť,"more","behind"],(ax qΕ (ax (gI Ė qŗ) (aG (bo (cT (aa (bJ eV ė ę) (aa (aK T.added (JJ T) hr (aa ĕ (aa Ę (aa (aK T.moved (Am T) hr (aa Ě gŌ)) ar)))) ar)))))))
 rintro vs M q ⟨p,a,b,rfl,p0,hf,ha,hb,k⟩;simp? [↓ce,gL];exact#[b.2,a.1,rfl,by exact LqNv hb rfl,?_];simp? [↓ce];exact#[p,a.2,mv a.1 b.2,rfl,p0,hf,aI ha ⋯,by rw[CD];show aI hb ⋯,?_];simp? [↓ce];show Ø
def rG {K:iQ}(T:ŧ):cC P w K mg base f_ 3 A.uU A.va ["p",ð] (gG K Xr):=by
 exists T.backward.fn,["p",ð,aö,ť],(ax (gI ē qŚ) (aG (bo (cT (aa gŘ (aa (aK T.timed (uo T) hr (aa ĕ (aa (aK T.moved (Am T) hr (aa ė kε)) iζ))) ar))))))
 rintro vs M q ⟨p,a,rfl,p0,hf,ha,hz,k⟩;simp? [↓ce,gL];exact#[a.2, -a.1,rfl,by exact eÍ,?_];simp? [↓ce];exact#[p,fŚ, -1,rfl,p0,Uj hf,by rw[CD];show ha,eË,?_];let⟨y,hy,rfl⟩:=ag.mp qO;show hz y hy;simp? [↓ce];show Ø
def vM {K:iQ}(T:ŧ):cC P w K mg base f_ 3 A.pX A.qb mŁ (gG K Jz):=by
 exists T.uE.fn,mŁ,(ax (dN (j7 rà (jz (bL nG pí aA Ĕ))).pt Θ cj) (aG (bo (yx (aK T.AA (pe T) hr oè) (uj (aK T.kZ (ls T) hr (aa ĕ oè)))))))
 rintro vs M q ⟨p,a,rfl,hp,hl,k⟩;have e2:decide ((((0+1+1:Nat)):Int)=2)=true:=⋯
 have e2':decide (((2:Nat):Int)=2)=true:=⋯
 simp? [↓ce,gL,e2,e2'];exact dŚ;simp? [↓ce];show#[p,a.2,rfl,hp,aI hl ⋯,Ø]
def pc {K:iQ}(T:ŧ):cC P w K mg base f_ 4 A.jJ A.jL hÓ (gG K Ql):=by
 have oH:cC P w K mg base f_ 3 A.jJ A.jL hÓ (gG K Jx):=K2;exact pź;have nd:=jZ.nd;exact rĸ;try dsimp only[qe]
 exact kđ;rintro vs M q ⟨p,a,n,rfl,p0,p1,hP,hl,n0,hb,k⟩;have jV:fÚ=false:=cG iς;have sA:=zV hP p1;dsimp? [gL,jV];exact Ϯ;simp? [↓eU];exact#[p,a.2,n,rfl,p0,zw,hl,sA,?_];simp? [↓eU];exact jc (k (0,lu p (tm n a.2)) #[?_,bæ,ķ] (Ř) λh'=>absurd h h');rw[h,bP];rw[x_ p0,tU];unfold m7;rw[ai iς,h,tX];have:kÈ:=by exact LqIx (LqIe (Int.toNat_of_nonneg n0)) Ϭ
 rw[this];show aI bŵ (by rw[tm,ab];show Â);let⟨nb,df⟩:=hb h;have cm: ∀j:Int,j<aş ->0<=j ->iO a.1 j=True:=λj h1 h2=>a4 (.inr jū);dsimp? [cK];exact G3 (λ_=>iτ) (λ ħ=>wi (0+ģ)) (λz k=>mŋ) ?_ hű ?_ ſ;exact qV ?_;simp![ci];rw[List.map_const',List.sum_replicate_nat];show aI df ⋯;intro z hz M3 s3 B N0 hB;simp? [↓ce,cx];exact#[jū,hB _ _ hű ?_];intro j hj M4 s4 N hN;have hj:=cI.mp hj;simp? [↓ce,cm (0+aϣ) ū (by exact Lqi [_] ö Ϙ ö Lq0 ϭ rfl)];show hN;have e:(bÃ λz=>(iτ).map λ ħ=>mŋ).flatten=(iυ).map cx:=by rw[lY,List.map_flatten,aJ];congr 1;apply bK;intro z _;simp![Function.comp_apply,oV,aJ];apply bK;intro j _;rw[bQ];rfl
 rw[e];have cn:iO a.1 n=True:=cm n nb n0;dsimp? [cn];exact#[t,p,iυ,rfl,av,p0,zw,by rw[uz];show aI df ⋯,?_];simp? [↓eU];exact#[M,aø,k (a.1*n,lu p (iυ)) #[rfl,bæ,ķ] (λh'=>absurd h' h) Ř];rw[x_ p0,zG];unfold m7;rw[ai iς];exact aI bŵ ?_;rw[uz];have:hť:=by omega
 rw[this];show Â
def yz {K:iQ}(T:ŧ):cC P w K mg base f_ 5 A.jJ A.jL hÓ (gG K Qk):=by
 have oH:=pc (P:=P) (w:=w) (base:=base) T;exact pź;have nd:=jZ.nd;exact rĸ;try dsimp only[qe]
 exact kđ;rintro vs M q ⟨p,a,n,rfl,p0,p1,hP,hl,hn,hb,k⟩;have jV:fÚ=true:=cc hn;have sA:=zV hP p1;dsimp? [jV];exact#[p,a,rfl,p0,zw,hl,sA,?_];dsimp? [];have hB:=UA p a;exact#[p,bk p a, -n,rfl,p0,p1,Uz p0 a,by exact Nat.le_trans hB hl,by exact pı,λhe=> ?_,λr hr hlr Yq=> ?_];have he':bÉ:=λz=>he (by change -a.1=0;exact LqIx (Lqi [_] Ņ ö ö Lq0 (LqId z) rfl) (Lqi [_] ö Ņ Lq0 ö (LqIe z) rfl));let⟨h1,h2,h3⟩:=hb he';exact#[by exact Lqi [_] jŅ eÖ mŌ Lq0 h1 rfl,aI (Nat.mul_le_mul hB (Nat.le_of_eq ?_)) h3];omega;dsimp? [];have e:jų:=by omega
 rw[e] at Yq;have hm:hϤ*n.natAbs<=iϻ:=Nat.mul_le_mul_right _ hB;show jc (k r (hr.NH p0 hn) (λh=>aI (hlr (by change -a.1=0;exact LqIx (Lqi [_] Ņ ö ö Lq0 (LqId h) rfl) (Lqi [_] ö Ņ Lq0 ö (LqIe h) rfl))) hB) λh=>aI (Yq (by change -a.1≠0;omega)) hm)
theorem rE {K:iQ}(T:ŧ):cC P w K mg base f_ 5 A.jJ A.jL hÓ (gG K Xg):=Y0 ((pc T).mono ⋯) (yz T) λ_ _ _=>Nr
def ur {K:iQ}(T:ŧ):cC P w K mg base f_ 1 A.nN A.nS oĎ (gG K Np):=by
 exists T.lies_within.fn,pœ,(ax (gI ĕ qř) (aG (bo (yx (kR ED (bH ij ŋ T.sk Boot.«abs» gŌ) ē Ĕ) (uj (bH bϳ ŋ T.Lp Boot.«all» (aa (fA rfl (dq.of (sc:=bm kc) (N:= pœ) (own:= jó) (fr:= [2]) (N':= nϥ)) (iw Ę) (λ_ _ _ _=>(dZ (n:=2) rfl (a9 (aV (i:=0) qö rfl Ζ) (a9 (aV (i:=1) qö rfl Ζ) c5)))) iC Ϝ (λ_ _ _ _=>(kR ED pñ Ė Ĕ))) ar)))))))
 rintro vs M q ⟨a,e,r,rfl,hw,hl,k⟩;have h1:decide (mż <=e)=true:=cc (by have:=hw.1;split<;>lia);dsimp? [gL,cK,h1];exact iB (λ_:Ō=>aϰ) (big (by exact LqNv hl rfl)) hű ?_ ſ;intro z hz M3 N s3 hN;have h2:decide (mŽ <=r)=true:=cc (by have:=hw.2 z hz;split<;>lia);dsimp? [cx,h2];show hN;have aeT: ∀l:Pt,((l.map că).all id)=true:=λl=>by rw[de];intro b hb;let⟨_,_,rfl⟩:=bΦ;rfl
 exact BK (bs:=bÃ că) iχ ?_;rw[aeT];dsimp? [];show fØ
def yC {K:iQ}(T:ŧ):cC P w K mg base f_ 2 A.rR A.r9 [ð] (gG K Xn):=by
 exists T.fits_crew.fn,[ð],(aG (bo (aK T.lies_within (ur T) hr (aa ĕ (aa pϹ (aa (sZ ŋ T.qu.choose_spec (show RelV (.int 24) _ from Ĺ)) ar))))))
 rintro vs M q ⟨a,rfl,hw,hl,k⟩;dsimp? [];exact#[a,8,24,rfl,hw,hl,?_];dsimp? [];show Ø
def qH {K:iQ}(T:ŧ):cC P w K mg base f_ 3 A.lz A.lC [cş] (gG K Xq):=by
 exists T.check_members.fn,[cş,ð],(ax (dN (bL wS (bH fw ŋ T.kF Boot.«len» gŕ) (sZ ŋ T.tT.choose_spec (show RelV (.int 6) _ from Ĺ)) Ĕ) (aG Ac) cj) (aG (fg be rfl dϳ (aV (i:=1) nd rfl Ζ) (aG (dN (gH (ku (aK T.fits_crew (yC T) hr gŅ))) (aG Ac) cj)))))
 rintro vs M q ⟨u,p,ms,rfl,hu,mb,k⟩;have h1:decide (6< (iψ:Int))=false:=cG (by rw[ab];have:=mb.len;exact LqIm (jϑ));dsimp? [hu,h1];exact f9 (λi ρ M'=> ∃o:Ë,ρ= [θ,o] /\ M'=M) hÛ (λ_ _ _ _ h=>by let⟨_,_,rfl⟩:=h;show hu) ?_ ?_;rintro i x ρ M' hx ⟨o,rfl,rfl⟩ N hN;let⟨a,ha,rfl⟩:=Cg hx;have hm:=au ha;dsimp? [];exact#[a,rfl,dÔ,aI (mb.zw a hm) ⋯,?_];dsimp? [];show jñ;rintro ρ M' ⟨o,rfl,rfl⟩;dsimp? [];show Ø
def nh {K:iQ}(T:ŧ):cC P w K mg base f_ 1 A.jK A.jM [aΑ] (gG K pGD):=by
 exists T.greatest_divisor.fn,[aΑ,"greatest",aö,"left"],(ax (1\aA) (ax (fg be rfl dϳ nâ (ax (3\pë) (aG (oY be (ku ė) (aG (Sv (i:=1) (j:=3) rfl nd rfl rfl ⋯ rfl rfl (aa ė (aa kē ar)) ŋ)))))) hŷ))
 rintro vs M q ⟨u,ns,rfl,hu,k⟩;dsimp? [hu];exact f9 (λi ρ M'=>cM λ(o2 o3:Ë)=>ρ= [θ,some (wi (gř:Nat)),o2,o3] /\ M'=M) jŬ (λ_ _ _ _ h=>by let⟨_,_,_,rfl⟩:=h;show hu) ?_ ?_;rintro i x ρ M' hx ⟨o2,o3,rfl,rfl⟩ N hN;let⟨n,hn,rfl⟩:=mS hx;have eg:lw (ns.take ß)=nŕ:=by rw[bj,hn];show l4
 rw[eg] at hN;have ea:(if n<0 then -n else n)=gŚ:=by split<;>lia
 dsimp? [ea];exact sR (λm ρ M2=>cM λ(a b:Nat)=>fU (ρ= [θ,some (wi a),d϶,eØ]) (M2=M') (m=b) (dϧ=nŕ)) n.natAbs #[gř,n.natAbs,rfl,rfl,rfl,rfl] ?_;rintro m ρ M2 ⟨a,b,rfl,rfl,rfl,hg⟩ N2 GH;dsimp? [];exact kζ;have hm:0<m:=by simp at h;exact Lqj [_] Ϣ Lq0 ñ Lq0 (Nat.pos_of_ne_zero h) rfl
 exact#[∅,GH (a % m) _ _ ié #[m,a % m,rfl,rfl,rfl,?_]];rw[<- hg,Nat.gcd_comm, <- Nat.gcd_rec,Nat.gcd_comm];have hm:m=0:=by simp at h;show h
 subst hm;rw[Nat.gcd_zero_right] at hg;subst hg;show kċ;rintro ρ M' ⟨o2,o3,rfl,rfl⟩;rw[ab,bD];dsimp? [];show Ø
def F9 {K:iQ}(T:ŧ):cC P w K mg base f_ 1 A.AU A.A7 [aΑ,ŗ] (gG K SI):=by
 exists T.row_to.fn,[aΑ,ŗ,"rows","edge","reached","here","k",aö,"way","there"],(ax (2\(lU aA (og ar))) (ax (3\(og dÊ)) (ax (oY be (Cm (qF İ ē Ė)) (ax (4\(og ar)) (ax (fg be rfl (d_ ė) nÙ (aG (fg be rfl (Ag rfl ŋ T.mf gŕ) qŘ (aG (fg be rfl (iw (cT (aa aA iζ))) nã (ax (9\(bJ eV ę (bJ fS aΒ aΚ))) (aG (dN (qD (Cm (qF İ (pv 9) Ė)) (mG (bL ED (bH ij ŋ T.sk Boot.«abs» gś) pϹ Ĕ))).pt (ax (mH İ Ė (pv 9) (bJ Cu oĒ (og (aa (cT (aa Ě gŜ)) ar))) rfl) (aG (fO (Ai PySem.F.plainAttrs_list PySem.F.slot_list_append PySem.F.type_list_append jp Ę gś)))) cj)))))))) hè))) (aG (bo (fP İ Ė ē Η))))))
 rintro vs M q ⟨u,ns,rfl,hu,h8,hl,k⟩;dsimp? [tN];intro rd Q2;dsimp? [];intro r0 zv;have _F:=cO av zv;dsimp? [aH _F];exact#[aΗ,rfl,?_];dsimp? [];intro e0 Uk;have nre:=cO av Uk;have Uh:M r0=none:=(bR Q2).free zv;have sE:Sm M (um (um (um (um M rd bł) r0 cđ) rd (.dK [(aΗ,wr r0)])) e0 (.lst [W.v (V.int 0)])):=(nŖ).trans (bR Uk);exact sR (λm ρ M1=>FJ λ(R:Pq) (E:ā) (ed:gg) (o4 o5 o6 o7 o8:Ë)=> ∃o9:Ë,qk (ρ= [θ,kĔ,fÛ,fÜ,o4,o5,o6,o7,o8,o9]) (m=(17 - R.length)*2+(if E= [] then 0 else 1)) (Sm M M1) (M1 rd=iÙ) (M1 ed=ků) (Zt M M1 R) (M ed=none) (jS (bé) (nr R 0) (VC ns R E) (∀x∈E,aχ) (∀t∈R,ë≠ed))) ((17 - 1)*2+1) #[[(0,r0,[])],[0],e0,none,none,none,none,none,none,rfl,rfl,sE,?_,av,?_,?_,LS.one,?_,?_,?_,?_] ?_;rw[aH nre,av];rfl;intro t ht;rw[bϞ];exact#[Uh,?_];change um _ e0 _ r0=_;rw[aH (ķ),dÕ,av];rfl;rw[<- x,dÕ,av] at Uk;cases Uk;show(nŖ).free Uk;simp[nr];intro x hx nx;simp[nr] at hx;subst hx;show absurd ś nx;intro x hx;simp at hx;subst hx;simp[nr];intro t ht;rw[bϞ];intro x;have x:r0=e0:=x;rw[<- x,dÕ,av] at Uk;cases Uk;rintro m ρ M1 ⟨R,E,ed,o4,o5,o6,o7,o8,o9,rfl,rfl,s1,Yf,hed,ra,fed,bf,kz,cl,eR,ne⟩ N hN;by_cases hg:nr R dϦ;let⟨t,ht,et,hv⟩:=uG hg;dsimp? [Yf,hv,Option.isSome_some];show jc (k ë _ ì (by rw[<- et];show bf.Rv t ht) (by have:=bf.len t ht;have:=bf.most;lia) (λz=>bf.zr t ht (by rw[et,z];rfl)) (ra t ht).1 s1 (ra t ht).2);have hE:E≠ []:=λe=>hg (VC.gd h8 bf kz (by rw[e] at cl;show cl));dsimp? [Yf,EL hg,Option.isSome_none];intro rc Q3;have fM:M rc=none:=s1.free Q3;have nec:=cO hed Q3;exact aú;dsimp? [aH nec,hed];have rb0:UF M (um M1 rc cđ) rd ed rc E R []:=#[s1.trans (bR Q3),by rw[aH (cO Yf Q3)];show Yf,by rw[aH nec];show hed,av,ra.mv (bR Q3),λt ht=>cO (ra t ht).2 Q3,nec]
 have bs0:zz ns R R [] (λ_=>False):=#[bf,λ_ h=>h,λ_ h=> aĠ,λ_ h=>(nomatch h),rfl,λ_ h=>h.elim]
 exact f9 (λa ρ M2=>Rp λ(R':Pq) dÖ (o5 o6 o7 o8 o9:Ë)=>d6 (ρ= [θ,kĔ,fÛ,fÜ,fÝ,o5,o6,o7,o8,o9]) (UF M M2 rd ed rc E R' F) (zz ns R R' F λz=> pτ)) #[R,[],o5,o6,o7,o8,o9,rfl,rb0,bs0.weak λy h=>by let⟨x,hx,_⟩:=h;show nomatch hx] (λ_ _ _ _ h=>by let⟨_,_,_,_,_,_,_,_,h,_⟩:=h;show h.edge) ?_ ?_;rintro a x ρ M2 hx ⟨R',F,o5,o6,o7,o8,o9,rfl,rb,bs⟩ N2 GH;let⟨h,hh,rfl⟩:=mS hx;have hKh:nr R h:=eR h (au hh);have hu2:=rb.sm _ _ hu;dsimp? [hu2,AG];exact f9 (λb ρ M3=>Zq λ(R':Pq) dÖ (o6 o7 o8 o9:Ë)=>d6 (ρ= [θ,kĔ,fÛ,fÜ,fÝ,eÅ,o6,o7,o8,o9]) (UF M M3 rd ed rc E R' F) (zz ns R R' F λz=>qϕ)) #[R',F,o6,o7,o8,o9,rfl,rb,bs.weak λy g=>by obtain g | ⟨n,hn,_⟩:=g;show g;show nomatch hn] (λ_ _ _ _ h=>by let⟨_,_,_,_,_,_,_,h,_⟩:=h;show h.sm _ _ hu) ?_ ?_;rintro b x ρ M3 hx ⟨R',F,o6,o7,o8,o9,rfl,rb,bs⟩ N3 Mi;let⟨y,hy,rfl⟩:=yX hx;let⟨e,he,rfl⟩:=mS hy;have e8:=h8 e (au he);dsimp? [];exact f9 (λc ρ M4=>lD λ(R':Pq) dÖ (o8 o9:Ë)=>d6 (ρ= [θ,kĔ,fÛ,fÜ,fÝ,eÅ,eØ,some (wi e),o8,o9]) (UF M M4 rd ed rc E R' F) (zz ns R R' F λz=>rú)) #[R',F,o8,o9,rfl,rb,bs.weak λy g=>by obtain g | ⟨n,hn,_⟩:=g;show g;show nomatch hn] kŵ ?_ ?_;rintro c x ρ M4 hx ⟨R',F,o8,o9,rfl,rb,bs⟩ N4 hN4;let⟨w,hw,hwc,rfl⟩: ∃w:Int,(eϬ) /\ hŸ[c]? =some w /\ x=wi w:=by
  match c,hx with
  | 0,hx=>show#[1, Ĵ,rfl, ⇑hx.symm]
  | 1,hx=>show#[-1, ĸ,rfl, ⇑hx.symm]
  | c+2,hx=>simp at hx
 have cm:iO e w=True:=fϠ;let⟨y,hy⟩: ∃y,h+e*w=y:=Ĺ
 have tk: ∀R' F,zz ns R R' F (λz=>(rú) \/ z=y) ->zz ns R R' F (λz=>(qϕ) \/ ∃w∈kĕ (c+1),z=h+e*w):=λR' F g=>g.weak λz hz=>by obtain hz | ⟨w',yL,ez⟩:=hz;show gŝ;rw[bj,hwc] at yL;obtain yL | yL:=ay.mp yL;show .inl (.inr #[w',yL,ez]);simp at yL;subst yL;show .inr (ez.trans hy)
 have _V:=rb.rows;by_cases ky:nr R' y;let⟨t,ht,et,hv⟩:=uG ky;dsimp? [cm,hy,_V,hv,Option.isSome_some];show hN4 _ _ #[R',F,_,_,rfl,rb,tk _ _ (bs.ext λ_ _=>ky)];have hv:=EL ky;dsimp? [cm,hy,_V,hv,Option.isSome_none];exact d4 (λOw=> ?_) λOw=> ?_;let⟨t,ht,et,hvt⟩:=uG (bs.old h hKh);have ni:=(rb.at_ t ht).2;dsimp? [_V,hvt,ni];intro l1 f1;have n1:=cO ni f1;have lt:=bs.UC.len t ht;have lR:=bs.UC.most;dsimp? [aû,ni];exact#[big (by rw[ab];exact LqNv (Nat.lt_of_lt_of_le lt lR) rfl),λv fv=> ?_];dsimp only;have s4:Sm M4 (qĻ):=(bR f1).trans (bR fv);have fv4:M4 v=none:=(bR f1).free fv;have hv4:um oÇ v oε v=some (.lst ((kĖ).map cx)):=by rw[av,aR];rfl
 generalize qĻ=M5 at s4 hv4 ⊢;have Ye:=s4 _ _ _V;have Tt:=s4 _ _ rb.new;have ncr:rc≠rd:=λx=>by rw[x,Ye] at Tt;cases Tt
 dsimp? [Ye];have ePd:(lG R').length=R'.length:=by simp[lG]
 exact#[qV (aI (Nat.le_of_eq ePd) (by exact LqNv lR rfl)),?_];rw[Cj (c:=kĖ) ky];have lF:=bs.cnt;dsimp? [aH ncr,Tt];exact#[qV (by rw[ab];exact Lqj Ĝ Lq0 fϏ (.a Lq1 lĚ) (.a (.n 17) ξ) (LqNp lR (LqNp (LqNd lF) Ϡ)) rfl),?_];dsimp? [];have rb5:=rb.add (y:=y) (c:=kĖ) Q2 fM s4 fv4 hv4;rw[aR] at rb5;have AM:(h,ë,ì)∈R':=by rw[<- et];show ht
 show hN4 _ _ #[_,_,_,_,rfl,rb5,tk _ _ (bs.add AM he hw hy.symm kθ kθ ky)];exact hN4 _ _ #[R',F,_,_,rfl,rb,tk _ _ (bs.ext λg0 g1=>absurd ?_ Ow)];split<;>lia;rintro ρ M4 ⟨R',F,o8,o9,rfl,rb,bs⟩;exact Mi _ _ #[R',F,_,_,_,_,rfl,rb,jÿ];obtain hz | ⟨n,hn,w,hw,ez⟩:=hz;show gŝ;rw[bj,he] at hn;obtain hn | hn:=ay.mp hn;show .inl (jŴ);simp at hn;subst hn;show .inr #[w,hw,ez];rintro ρ M3 ⟨R',F,o6,o7,o8,o9,rfl,rb,bs⟩;rw[uW,ab,bD] at bs;exact GH _ _ #[R',F,_,_,_,_,_,rfl,rb,jÿ];let⟨x,hx,n,hn,w,hw,ez⟩:=hz;rw[bj,hh] at hx;obtain hx | hx:=bý;show .inl #[x,hx,n,hn,w,hw,ez];simp at hx;subst hx;show jŴ;rintro ρ M2 ⟨R',F,o5,o6,o7,o8,o9,rfl,rb,bs⟩;rw[ab,bD] at bs;dsimp? [];have Vy:zz ns R R' F oŤ:=bs.weak λy g=>by obtain⟨x,hx,n,hn,g | g⟩:=g;show#[x,hx,n,hn,1,by simp, ∅];show#[x,hx,n,hn, -1,by simp, ∅]
 exact hN _ _ _ ?_ #[R',F,rc,_,_,_,_,_,_,rfl,rfl,rb.sm,rb.rows,rb.new,rb.at_,fM,Vy.UC,Vy.old _ kz,Vy.cld cl,Vy.fin,rb.n1];have:=Vy.cnt;have:=Vy.UC.most;rw[ai hE];cases F with
 | nil=>rw[List.length_nil] at this;simp;lia
 | cons x F=>rw[eû];simp![aT] at*;lia
def Ap {K:iQ}(T:ŧ):cC P w K mg base f_ 6 A.uT A.u_ kā (gG K SO):=by
 exists T.gone_row.fn,["p",cş,aõ,"now","k","way"],(ax (3\(F8 T.still (JG T) fϔ ŋ)) (ax (fg be rfl eÙ qŜ (aG (3\(aK T.joined (wV T) hr (aa ĕ (aa ė (aa (aK T.repeated (rE T) hr (aa ĕ (aa (bV dm ē Ę Η) gŇ))) ar))))))) hů))
 rintro vs M q ⟨u,v,p,x,ms,row,rfl,p0,p1,hu,hv,mb,hw,hl,k⟩;dsimp? [];exact cÁ;dsimp? [hv];exact f9 (λi ρ M'=>gm λ(now:WQ.Rd) fÎ=>kM (ρ= [ε,θ,dϮ,some (gL now),o4,o5]) (M'=M) (zi (Ρ) (row.take i) now.1) (cX p now.2) (Bd 40 now.2) (i=0 ->now=aŠ)) #[aŠ,none,none,rfl,rfl, .nil,cX.nil,λz hz=>(nomatch hz),bĭ] (λ_ _ _ _ h=>by let⟨_,_,_,_,rfl,_⟩:=h;show hv) ?_ ?_;rintro i z ρ M' hz ⟨now,o4,o5,rfl,rfl,nw,nP,nB,n0⟩ N hN;let⟨⟨kk,w⟩,hkw,rfl⟩:=pairs_at hz;let⟨kn,e,y,rfl,he,hw1,wy,wy2⟩:=hw.at hkw;rw[<- nw.uniq wy] at wy2;rw[aE] at he;let⟨a,ha,rfl⟩: ∃a,ms[kn]? =ĉ /\ a.1=e:=by
  cases g:ms[kn]? with
  | none=>rw[g] at he;cases he
  | some a=>rw[g] at he;cases he;show eγ
 have hm:=au ha;have uO:kL (cś) (kn:Int)=eÚ:=gR (by rw[aE,ha];rfl);have a8:=(dÔ).1;have af:=mb.zw a hm;have aw: -8<=a.1*w /\ a.1*w<=8:=by obtain rfl | rfl:=hw1 <;>lia
 have w1:w.natAbs=1:= ∅;dsimp? [hu,uO,cx];exact#[p,a,w,rfl,p0,p1,eÛ, (by exact LqNv af rfl),λ_=>#[∅, ∅,by rw[w1];lia],λr hr l0 l1=> ?_];have rl:cϩ<=49:=by by_cases c:a.1=0;have:=l0 c;lia;have:=l1 c;rw[w1] at this;lia
 have nl:=Dn nP nB ⋯;dsimp? [];exact#[p,now,r,rfl,p0,zw,aI nl ⋯, kι,?_];dsimp? [];exact hN _ _ #[jn p now r,_,_,rfl,rfl,?_,Kh p0 _ _,CP nB (Ep hr (dÔ).2 aw) nw.Ho ⋯,λh=>absurd h (by exact λe=>Lqg [_] lϱ Ϙ (LqNp bŜ Ϡ) rfl)];change zi _ _ (now.1+r.1);rw[hr.en];show wy2;rintro ρ M' ⟨now,o4,o5,rfl,rfl,nw,nP,nB,n0⟩;rw[ab,bD] at nw;dsimp? [];show jc (k now (nw.uniq hw) nP nB λe=>n0 gŒ)
def yD {K:iQ}(T:ŧ):cC P w K mg base f_ 1 A.rT A.se gŃ (gG K (Xk A.eD)):=by
 have cl:=fÞ;have n1:=iω;exists T.xT.fn,gŃ,(aG (bo (Jr (ku hé) (bJ o_ ē hé) aA)))
 rintro vs M q ⟨o,dx,fs,s,e,rfl,ho,hs,s0,k⟩;dsimp? [ho,cl,n1,hs];unfold Ay at k;exact kζ;have hz:í:=by simpa using h
 rw[ai hz] at k;show#[by simp[wv];lia,Ø];have hz:s=0:=by simpa using h
 rw[ak hz] at k;show Ø
def vN {K:iQ}(T:ŧ):cC P w K mg base f_ 6 A.pY A.qc jţ (gG K (SM A.eD)):=by
 have cl:=fÞ;have n1:=iω;have n2:=fϡ;exists T.vB.fn,jţ,(aG (bo (aK T.joined (wV T) hr (aa hé (aa Ė (aa (aK T.repeated (rE T) hr (aa hé (aa ē (aa (hU fR (Ah T.xT (yD T) fϔ ĕ oé)) ar)))) ar))))))
 rintro vs M q ⟨o,dx,fs,p,s,lap,a,_,rfl,ho,⟨hp,hs,hm⟩,⟨p0,p1,s0,s8⟩,⟨l1,lP,lB⟩,⟨aP,aW⟩,dv,k⟩;dsimp? [ho,cl,n1,n2,hp,sS];exact#[hm,?_];dsimp? [gL];exact#[o,dx,fs,s,a.1,rfl,ho,hs,#[s0, (by exact Lqi [_] ϒ cú Lq0 Ē s8 rfl)],?_];have a8:=aW.1;have lm:s*bϴ=a.1 \/ s=0 /\ bϴ=0:=by unfold Ay;by_cases z:s=0;show .inr #[z,Ô];rw[Ö];show .inl (Int.mul_ediv_cancel' dv)
 let⟨n,hn⟩: ∃n,n=bϴ:=Ĺ
 rw[<- hn] at lm ⊢;have n8: -8<=n /\ n<=8:=by
  obtain h | h:=lm;by_cases z:s=0;rw[hn];unfold Ay;rw[Ô];decide;have s1:1<=s:= (by exact Lqi [_] ñ Lq0 Ϣ Lq0 (jÌ) rfl);have g1:=a5 s1 (show 0<=gŚ by exact jī);have g2:s*gŚ=((s*n).natAbs:Int):=by rw[Int.natAbs_mul,Int.natCast_mul];congr 1;lia
  rw[h] at g2;lia;exact ⟨Lqi [_] γ Lq0 ö Lq0 (LqId h.2) rfl,LqIv (LqIe h.2) rfl⟩
 have ln:=Dn lP lB ⋯;have nl:lap.2.length*n.natAbs<=81*8:=Nat.mul_le_mul ln ∅;have en:jų:=Int.natAbs_neg n;dsimp? [];exact#[p,lap, -n,rfl,p0,p1,lP,aI ln ⋯,λ_=>#[(by exact Lqi [_] mŌ Ņ Lq0 Ē n8.2 rfl), (by exact Lqi [_] jŅ eÖ γ Lq0 n8.1 rfl),by rw[en];show aI nl ⋯],λr hr r0 r1=> ?_];have rl:cϩ<=648:=by by_cases c:lap.1=0;show aI (r0 c) (aI ln ⋯);have:=r1 c;rw[en] at this;show aI this nl
 have rw8: -8<=lap.1* -n /\ lap.1* -n<=8:=by rw[l1,Int.mul_neg];obtain h | h:=lm;rw[h];exact ⟨Lqi [_] γ Ņ Lq0 Ē a8.2 rfl,Lqi [_] Ņ Ē γ Lq0 a8.1 rfl⟩;rw[h.1];simp
 dsimp? [];exact#[p,a,r,rfl,p0,zw,aI (Dn aP aW.2 ⋯) ⋯, kι,?_];dsimp? [];exact jc (k (jn p a r) (Kh p0 _ _) (CP (d:=8) aW.2 (Ep hr lB rw8) aW.1 ⋯) bŻ);have n0:n=0:=by rw[hn];unfold Ay;show Ô
 rw[n0] at hr;have er:=IX p0 hr;show CP (c:=16) (d:=8) aW.2 (by rw[er];intro y hy;show nomatch hy) aW.1 ⋯
def NF {K:iQ}(T:ŧ):cC P w K mg base f_ 8 A.K6 A.Lf kŲ (gG K (Xo A.eD)):=by
 have cl:=fÞ;have n1:=fϡ;have n2:=a4 T.n_Crew_rounds;have n3:=iω;have n4:=a4 T.n_Crew_way;have n5:=iΑ;have n6:=a4 T.n_Crew_makers;have n7:=hŹ;have n8:=a4 T.n_Crew_surplus;exists T.Crew.fn,qØ,(ax (fO (aK T.check_members (qH T) hr gō)) (ax kų (ax (gU ĕ (dF i_ ŋ T.iT Boot.«tuple» gō) rfl) (ax (n_ (i:=3) rfl nd rfl eŌ (dq.of (sc:=bm yk) (N:= qØ) (own:= iê) (fr:= []) (N':= iê)) eÙ (λ_ _ _ _=>(dZ (n:=2) rfl (a9 (aV (i:=0) pŨ rfl Ζ) (a9 (aV (i:=1) pŨ rfl Ζ) c5)))) iC Ϝ jú rfl) (ax (gU ĕ (aK T.greatest_divisor (nh T) hr gŌ) rfl) (ax (gU ĕ (aK T.row_to (F9 T) hr (aa ė lÁ)) rfl) (ax (4\(aK T.gone_row (Ap T) hr (aa ē (aa Ė lÁ)))) (ax (gI (aK T.built (JI T) hr (aa ē (aa hé (aa (fA rfl (dq.of (sc:=bm yk) (N:= qØ) (own:= [ð]) (fr:= [4,0]) (N':= jŵ)) eÙ (λ_ _ _ _=>(aV (i:=0) (by change(jŵ:Ĉ).Nodup;decide+kernel) rfl Ζ)) fH Ϝ (λ_ _ _ _=>((Ah T.vB (vN T) fϔ Ė (aa ē gŕ))∪aA))) ar)))) qŗ) (ax (gU ĕ ę rfl) (ax (gU ĕ Ě rfl) (ax (gI (aK T.taken (JF T) hr (aa ē (aa hé (aa ę (aa (bV cB Ę aA Η) ar))))) (dZ (n:=2) rfl (a9 nÛ (a9 nã c5)))) (ax (gU ĕ (cT (aa hé gŞ)) rfl) (aG (gU ĕ aΚ rfl))))))))))))))
 rintro vs M q ⟨o,dx,u,p,ms,rfl,ho,hu,S2,hp,mb,k⟩;dsimp? [];exact#[u,p,ms,rfl,hu,mb,?_];have ml:ms.length<=sizeLine:=big (fϢ);have _y:0<p /\ aŚ:= ∅;have e1:g_ "p" (Î) []= [iÚ]:=rfl;dsimp? [ho,cl,n1,n2,e1,ae8,Nat.reduceLT,aH (aZ S2),hu];let⟨M1,KW⟩: ∃M1,um M o lĴ=M1:=Ĺ
 have o1:M1 o=some lĴ:=by rw[<- KW,av]
 have k1: ∀b ob,aô ->dϯ ->M1 b=Ğ:=λb ob n h=>by rw[<- KW,aH n];show h
 have u1:=k1 u _ (aZ S2) hu;rw[KW];exact iB (λa:WQ.Rd=>wi a.1) ml (λM s=>s _ _ u1) ?_ ſ;intro a ha M3 N s3 hN;dsimp? [gL];show hN;have Qn:o≠t:=cO o1 ht;dsimp? [];exact#[t,Ρ,rfl,by rw[av,aJ];rfl,?_];have h8: ∀n∈Ρ,dϪ:=λn hn=>by let⟨a,ha,rfl⟩:=ag.mp hn;have:=gş;lia
 have g8:=yT h8;let⟨s,hs⟩: oŉ:=Ĺ
 have s0:Ò:= pŝ;have s8:s<=8:= (by exact Int.le_trans (LqId hs) (Int.ofNat_le.mpr g8));rw[hs];dsimp? [aH Qn,o1,cl,n3,ae7,Zc,Nat.reduceLT];let⟨M2,QY⟩: ∃M2,um (um M1 t (.lst (ms.map λa=>wi a.1))) o lϪ=M2:=Ĺ
 have o2:M2 o=some lϪ:=by rw[<- QY,av]
 have k2: ∀b ob,aô ->dϯ ->M2 b=Ğ:=λb ob n h=>by rw[<- QY,aH n];show bR ht _ _ (k1 b ob n h)
 have t2:M2 t=some (.lst ((Ρ).map wi)):=by rw[<- QY,dØ,av,aJ];rfl
 rw[QY];dsimp? [o2,cl,n3,ae1];exact#[t,Ρ,by rw[hs],t2,h8,by rw[ab];show mb.len,λv M3 row Rv rl rz fv ye hv=> ?_];rw[hs] at Rv;have o3:=ye _ _ o2;have nvo:o≠v:=cO o2 fv;dsimp? [o3,cl,n4,ae6,Zb,Nat.reduceLT];let⟨M4,Vs⟩: ∃M4,um M3 o mō=M4:=Ĺ
 have o4:M4 o=some mō:=by rw[<- Vs,av]
 have k4: ∀b ob,aô ->dϯ ->M4 b=Ğ:=λb ob n h=>by rw[<- Vs,aH n];show ye _ _ (k2 b ob n h)
 have v4:M4 v=lĨ:=by rw[<- Vs,aH (aZ nvo)];show hv
 have u4:=k4 u _ (aZ S2) hu;rw[Vs];dsimp? [o4,cl,n4,Ze];exact#[u,v,p,s,ms,row,rfl,_y.1,_y.2,u4,v4,mb,Rv,rl,λlap l1 lP lB l0=> ?_];dsimp? [o4,cl,n3,Zi,u4];exact Dh (by rw[ab];show ml) λt' pL=> ?_;exact#[λi ys M'=> ∃bB:ê,fU (ys=cŘ) (bB.length=i) (∀pt∈bB,cX p pt /\ Bd 56 pt) (M'=um M4 t' cć),#[[],rfl,rfl,by simp,rfl],?_,?_,?_];rintro i ys M' hi ⟨bB,rfl,hl,_,rfl⟩;show#[bR pL _ _ u4,av,by rw[ab];exact aϡ];rintro i x ys M' hx ⟨bB,rfl,hl,hk,rfl⟩ N2 GH;let⟨a,ha,rfl⟩:=Cg hx;have hm:=au ha;have o5:um M4 t' iŴ o=some mō:=fß;simp? [↓eU,o5,sS,Zg];exact#[o,dx,dϭ,p,s,lap,a,(),rfl,o5,#[Zf,Zi,Zh],#[_y.1,_y.2,s0,s8],#[l1,lP,lB],#[eÛ,dÔ],?_,λr rP rB _=> ?_];have:=OE a.1 (ag.mpr #[a,hm,rfl]);rw[<- hs];show Int.dvd_natAbs.mp (Int.natCast_dvd_natCast.mpr this);simp? [↓eU,gL];exact GH _ _ #[bB++ [r.2],by rw[aR];rfl,by simp[hl],λpt L9=> ?_,rfl];obtain h | h:=ay.mp L9;show hk pt h;rw[aϷ];show#[rP,rB];rintro ys M' ⟨bB,rfl,hl,hk,rfl⟩;rw[ab] at hl;have pz:=VG s0 s8;have pl6:bB.length<=6:=by rw[hl];show mb.len
 have hP:LA s p 56 (wc s) bB:=#[λpt h=>#[(hk pt h).1,bxc s0 s8 (hk pt h).2], (by exact LqNv pl6 rfl),hp,s0,s8,⋯,⋯,pz.2.2,pz.1,pz.2.1]
 dsimp? [];exact#[t',p,s,56,wc s,bB,rfl,av,hP,λM6 v2 as sts Ps bui sm6 Vb YR df abA=> ?_];have o6:=sm6 _ _ (fß);have k6: ∀b ob,aô ->dϯ ->M6 b=Ğ:=λb ob n h=>sm6 _ _ (bR pL _ _ (k4 b ob n h));have hn6:fΧ:=aI bui.zw pl6;have hE:2*(hş*wc s) <=960:=by have h:=Nat.mul_le_mul hn6 pz.1;have e:hş*wc s=((sts.length*wc s:Nat):Int):=(Int.natCast_mul _ _).symm;rw[e];lia
 have hw: kű:=λst h=>((bui.bx st h).1.wt s0 s8 ⋯ hE hE ⋯).up ⋯;have gK:=R8 bui.gK hw ⋯;have trim:=ME bui.trim (show(7748:Int) <=ġ by decide);dsimp? [o6,cl,n5,n6,ae5,ae4,Za,Y_,Nat.reduceLT,av,q_,n3,Zd,gL];let⟨M7,hM7⟩: ∃M7,um M6 o nΖ=M7:=Ĺ
 have o7:M7 o=some nΖ:=by rw[<- hM7,av]
 have k7: ∀b ob,aô ->dϯ ->M7 b=Ğ:=λb ob n h=>by rw[<- hM7,aH n];show k6 b ob n h
 rw[hM7];have hsl:=a5 (show hş <=6 by exact Int.ofNat_le.mpr hn6) (show 0<=7748+s by exact Lqi Û ö (.a (.n 7748) Lq0) gŴ ι (LqIp (LqIe hs) (ϭ)) rfl);exact#[p,s,7748,40,46600,sts,lap.2,rfl,hp,s0,s8,gK,lP,Lo lB,⋯,⋯,⋯, ∅,⋯, (by exact LqNv hn6 rfl),λt3 M8 rest tl P' rP rW tk _ sm8 _ _=> ?_];have o8:=sm8 _ _ o7;have k8: ∀b ob,aô ->dϯ ->M8 b=Ğ:=λb ob n h=>sm8 _ _ (k7 b ob n h);dsimp? [o8,cl,n3,n7,n8,Zd,ae3,ae2,Y',Y9,Nat.reduceLT,av,q_];rw[hs] at k;exact jc (k _ v v2 t3 sts rest #[gK,trim,hw,hn6,rP,rW,eϨ,bŻ] (λb ob n h=>by rw[aH n];show k8 b ob n h) av);let⟨i,hi⟩:=cr.mp gD;show tk.lowP i st _ _ hi (gK.of gD);have:=l0 (rz ∅);rw[this] at tk;show tk.aeW hp s0 gK rP fE.zero
def pi {K:iQ}(T:ŧ):cC P w K mg base f_ 1 A.rV A.sf [aψ] (gG K (Xm A.eD)):=by
 have cl:=fÞ;have n3:=iω;have n5:=iΑ;have n7:=hŹ;exists T.qY.fn,[aψ],(aG (bo (cT (aa hé (aa hé lÁ)))))
 rintro vs M q ⟨o,dx,p,s,ms,v,w,z,sts,rest,rfl,ho,k⟩;dsimp? [ho,cl,n3,n5,n7,aeZ,aeY,ae0];show Ø
def Ao {K:iQ}(T:ŧ):cC P w K mg base f_ 1 A.uR A.u8 [jç] (gG K Xl):=by
 exists T.Az.fn,[jç,ϧ,"_law_one","_law_other","_law_left"],(ax (1\aA) (ax (fg be rfl dϳ nâ (ax (3\(bH ij ŋ T.sk Boot.«abs» oé)) (aG (oY be lĳ (ax (4\kē) (ax (1\ė) hè)))))) hŷ))
 rintro vs M q ⟨u,ms,rfl,hu,k⟩;dsimp? [hu];exact f9 (λi ρ M'=>gm λ(o2 o3 o4:Ë)=>ρ= [θ,some (wi (lw ((Ρ).take i):Nat)),o2,o3,o4] /\ M'=M) #[none,none,none,rfl,rfl] (λ_ _ _ _ h=>by let⟨_,_,_,_,rfl⟩:=h;show hu) ?_ ?_;rintro i x ρ M' hx ⟨o2,o3,o4,rfl,rfl⟩ N hN;let⟨a,ha,rfl⟩:=Cg hx;let⟨n,hn⟩: ∃n,n=a.1:=Ĺ
 have eg:lw ((Ρ).take ß)=oϧ:=by rw[bj,aE,ha,hn];show l4
 rw[eg] at hN;have ea:mż=gŚ:=by rw[hn];split<;>lia
 dsimp? [gL,ea];exact sR (λm ρ M2=>gm λ(a' b:Nat) (o4:Ë)=>fU (ρ= [θ,some (wi a'),eÚ,eØ,o4]) (M2=M') (m=b) (Nat.gcd a' b=oϧ)) n.natAbs #[_,_,o4,rfl,rfl,rfl,rfl] ?_;rintro m ρ M2 ⟨a',b,o4,rfl,rfl,rfl,hg⟩ N2 GH;dsimp? [];exact Ϯ;have hm:0<m:= ∅;dsimp? [];exact#[eü,GH (a' % m) _ _ ié #[m,a' % m,_,rfl,rfl,rfl,?_]];rw[<- hg,Nat.gcd_comm, <- Nat.gcd_rec,Nat.gcd_comm];have hm:m=0:= ∅;subst hm;rw[Nat.gcd_zero_right] at hg;subst hg;show hN _ _ #[_,_,_,rfl,rfl];rintro ρ M' ⟨o2,o3,o4,rfl,rfl⟩;rw[ab, <- ab (f:=ć),bD];dsimp? [];show Ø
def pd {K:iQ}(T:ŧ):cC P w K mg base f_ 6 A.rQ A.r8 pÊ (gG K Nw):=by
 exists T.qK.fn,pÊ,(ax (dN (j7 rá (j7 (bL nG pð aA Ĕ) (jz (gH (gT (aK T.AA (pe T) hr oé)))))).pt Θ cj) (ax (dN (j7 (bL nG mϦ (aK T.Az (Ao T) hr gŅ) Ĕ) (j7 (gH (gT (aK T.uE (vM T) hr (aa ĕ oé)))) (jz (bL nG pŃ mϦ Ĕ)))).pt Θ cj) (ax (dN (j7 (gH (gT (aK T.pB (sB T) hr (aa ĕ qì)))) (jz (gH (gT (aK T.nL (qG T) hr qì))))).pt Θ cj) (ax (dN (qD (bL iX mϦ aA Ĕ) (mG (bL eÜ mϦ mŊ Ĕ))).pt Θ cj) (aG (bo (aK T.ox (nJ T) hr (aa mϦ (aa mϦ (aa pŃ ar))))))))))
 rintro vs M q ⟨u,p,ms,sts,rest,rfl,hu,p0,p7,s8,cf,k⟩;let⟨s,hs⟩: oŉ:=Ĺ
 have s0:Ò:= pŝ;have s8':s<=8:= (by exact Int.le_trans (LqId hs) (Int.ofNat_le.mpr s8));rw[hs] at cf ⊢;have e3:decide ((((3:Nat)):Int)=3)=true:=⋯
 have ee: ∀x:Int,(x=x)=True:=λx=>a4 rfl;have hL: mŎ:=pĀ;have yS: nÔ:=lĵ;have rl:=lϫ;have f6:=cf.zw;dsimp? [rM,gL,e3];exact#[s,rfl,?_];dsimp? [];exact#[u,ms,rfl,hu,?_];rw[hs];dsimp? [ee,decide_true];exact#[p,bϢ,rfl,cf.pat,cť,?_];dsimp? [ee,decide_true];exact#[p,s,7748,sts,rfl,s0,s8', (by exact Lqi [_] ið Lq0 ý Lq0 p0 rfl),cf.gK,yS, kμ,?_];dsimp? [];exact#[p,s,7748,sts,rfl,s0,s8',cf.gK,cf.trim,yS, kμ,?_];dsimp? [];have uK:=qŇ.1;have fin:gm λ(sts':ê) (Sz:Pt) (s':Int)=>kM ([Í, hϱ,cK rest]= [wi s', .tup (sts'.map cK),cK Sz]) (∀st∈sts',bι /\ jÅ) (Sz.length<=Ő) (0<=s') (s'<2 ^ 30) (∃M0,Sm M0 M /\ q (wb (vP s' sts' Sz)) M0):=#[sts,rest,s,rfl,pģ,cť,s0, ∅,by rw[uK];show Ø]
 exact Ϯ;exact XB (a:=bϢ) (b:=aŠ) (by rw[h,cf.still h]) ?_;dsimp? [];show fin;dsimp? [];show fin
def Bh {p en most jf:Int}{M1:Mp}(p2:2<=p)(p7:p<=7)(hn:n<=6)(e0:0<=en)(e8:en<=8)(m0:0<=most)(m1:most<=49)(f0:0<=jf)(f1:jf<=24)(D1:Dr M1 d l)(k: ∀ (u:gg) (ms:bϵ) (M':Mp),bè ->M1 u=none ->mĿ ->cĪ ->jX d M1 M' ->dϰ): vk (gj 0 n) dū 1 [0,1] (HR 0) Rw (HQ Jv (tO (iq 1) (tO (iq 2) (tO (wC (W.v (V.int en))) (tO (wC (W.v (V.int most))) (tO (wC (W.v (V.int jf))) Rz)))))) [dŻ,ε,o2,none,none,none,none,none] M1 q:=by exact Dh (by rw[mF];show big (by exact LqNv hn rfl)) ſ;let⟨_D,ntl⟩:=D1.ne ht;exact#[λi ys M'=> ∃ms:bϵ,kM (ys=cś) fϣ (pê) (cĪ) (M' t=gò) (jX d M1 M'),#[[],rfl,rfl,by simp,D1.put ht,av,(jX.nb (NB.refl d M1)).um ht],?_,?_,?_];rintro i ys M' hi ⟨ms,rfl,hl,_,_,hM,_⟩;show#[trivial,hM,by rw[ab];exact aϡ];rintro i x ys M' hx ⟨ms,rfl,hl,hk,D5,hM,s5⟩ N2 GH;simp? [↓eU];exact#[d,l,p,en,most,jf,rfl,D5,p2, pϕ,e0, (by exact Lqi [_] ϒ gŐ Lq0 Ē e8 rfl),m0, (by exact Lqi [_] ϒ (.n 63) Lq0 (.n 49) m1 rfl),f0, (by exact Lqi [_] ϒ gŐ Lq0 (.n 24) f1 rfl),λg ps M6 g0 g1 lK hpz D6 b6=> ?_];simp? [↓eU];exact#[by rw[b6 t _D];show hM,GH _ _ #[ms++ [dŽ],by rw[aR];rfl,by simp[hl],dϒ,D6.Ss _D ntl,av,lĶ ht]];obtain h | h:=bΧ;show hk a h;rw[aϷ];show EH pυ #[g0,g1] e8 lK m1 hpz f1;rintro ys M' ⟨ms,rfl,hl,hk,D5,hM,s5⟩;rw[mF] at hl;show k t ms M' (O0.of (by exact Nat.le_trans cĄ hn) hk) ht hM D5 s5
def yB {K:iQ}(T:ŧ):cC P w K mg base f_ 4 A.rO A.rZ [ζ,Τ] (gG K Xh):=by
 exists T.xb.fn,qξ,(ax (2\oŦ) (ax rķ (ax rķ (ax (3\qψ) (ax (4\(bJ eV aA oŦ)) (ax (5\(og ar)) (ax (fg be rfl qÒ nÚ (ax (7\(aK T.tz (oo T) hr (aa ĕ (aa ē (aa ė iι))))) (aG (fO (Ai PySem.F.plainAttrs_list PySem.F.slot_list_append PySem.F.type_list_append jp ę (aa (cT (aa (bJ fS mϧ Ę) (aa mϧ ar))) ar)))))) (aG (bo ę)))))))))
 rintro vs M q ⟨d,l,p,rfl,hD,p2,p7,k⟩;have p0:0<p:= pυ;have fre: ∀ {M1:Mp} {u:gg},jX d M M1 ->Dr M1 d l ->M1 u=none ->M u=none:=λ{M1 u} b D h=>by
  let⟨nd,_⟩:=D.ne h;cases e:M u with
  | none=>rfl
  | some o=>rw[b u o nd e] at h;cases h
 dsimp? [];exact#[d,l,8,rfl,hD,⋯,⋯,λg M1 g0 g1 D1 b1=> ?_];dsimp? [];exact Ϯ;exact#[d,l,3,rfl,D1,⋯,⋯,lÂ];have s2:=mò;dsimp? [];show rÍ;dsimp? [];exact Ϯ;exact#[d,l,5,rfl,D1,⋯,⋯,lÂ];have s2:=mò;dsimp? [];show rÍ;dsimp? [];exact#[d,l,4,rfl,D1,⋯,⋯,λr M2 r0 r1 D2 b2=> ?_];exact Oa (λx=> ∃e:Int,d6 (x=wi e) (0<=e) (e<=2)) (by exact r0) (by change r< ((4:Nat):Int);lia) (Ź) ?_;simp![az,List.not_mem_nil,or_false] at hx;obtain rfl | rfl | rfl | rfl:=hx <;>show#[_,rfl,⋯,⋯];rintro _ ⟨jf,rfl,f0,f1⟩;dsimp? [];exact#[d,l,3,rfl,D2,⋯,⋯,λof M3 of0 of1 D3 b3=> ?_];dsimp? [];intro u fu;let⟨Xy,nul⟩:=D3.ne fu;have s3:=(mò).trans (jX.nb b3);have fu0:=fre s3 D3 fu;dsimp? [];exact#[d,l,5,rfl,D3.put fu,⋯,⋯,λn M4 n0 n1 D4 b4=> ?_];have _R:M4 u=some cđ:=hê av;have s4:jX d M M4:=(s3.um fu0).trans (jX.nb b4);dsimp? [];exact#[dĲ,?_];exact f9 (λi ρ M'=>gm λ(ms:bϵ) (o6 o7:Ë)=>kM (ρ= [dŻ,ε,some (wi g),fÂ,some (wi (1+of)),θ,o6,o7]) fϣ (pê) (mĿ) (cĪ) (cľ)) #[[],none,none,rfl,rfl,by simp,_R,D4,s4] kŵ ?_ ?_;rintro i x ρ M' hx ⟨ms,o6,o7,rfl,hl,hk,hM,D5,s5⟩ N hN;let⟨hi,rfl⟩:=lT hx;dsimp? [];exact#[d,l,p,jf,2,3,rfl,D5,p2, pϕ,f0, (by exact Lqi [_] ϒ gŐ Lq0 ý f1 rfl),⋯,⋯,⋯,⋯,λe ps M6 e0 e1 lK hpz D6 b6=> ?_];have hM6:=(b6 u Xy).trans hM;have cm:iO e (1+of)=True:=fϠ;dsimp? [gL,hM6,cm];exact#[qV (by rw[ab];lia),?_];dsimp? [];have eb: -6<=e*(1+of) /\ e*(1+of) <=6:=by have:of=0 \/ of=1 \/ of=2:= ∅;obtain rfl | rfl | rfl:=this <;>lia
 exact hN _ _ #[ms++ [(e*(1+of),aϸ)],_,_,rfl,by simp[hl],dϒ,by rw[av,aR];rfl,D6.Ss Xy nul,lĶ fu0];obtain h | h:=bΧ;show hk a h;rw[aϷ];show EH (e:=6) pυ eb ⋯ lK ⋯ hpz ⋯;rintro ρ M' ⟨ms,o6,o7,rfl,hl,hk,hM,D5,s5⟩;rw[Ci] at hl;dsimp? [];show jc (k u ms M' (O0.of ∅ hk) fu0 hM D5 s5)
def SY {K:iQ}(T:ŧ):cC P w K mg base f_ 10 A.Q7 A.Rb hÔ (zR K):=by
 exact Xw T.law.fn IH ⋯ mŉ;have nd:=IH.nd;exact#[_,(ax (1\(aK T.EK (Cz T) hr gŕ)) (ax (2\(aK T.l_p (S0 T) hr gŅ)) (ax (3\(aK T.xb (yB T) hr (aa ē gō))) (ax (4\(dF lj ŋ T.iM Boot.«list» gŌ)) (ax (5\(jB T.Crew (NF T) fϔ ŋ lϩ)) (ax (dN (bL eÜ Ę ė Ĕ) Θ cj) (ax (6\(kR iX (aK T.iJ aΕ hr (aa ē dÊ)) aA Ĕ)) (ax (dN (gT Ě) (aG (fO (Ai PySem.F.plainAttrs_list PySem.F.slot_list_insert PySem.F.type_list_insert Gd Ę (aa aA pϲ)))) cj) (ax (7\oÈ) (ax (dN (j7 (gH (ku (aK T.qK (pd T) hr (aa Ė (aa ė gŞ))))) (jz (bL nG pò (bJ eV pî (dF G8 ŋ T.Rm Boot.«int» gő)) Ĕ))).pt Θ cj) (ax (fO (Ai PySem.F.plainAttrs_list PySem.F.slot_list_append PySem.F.type_list_append jp Ę pϲ)) (ax (dN (bL wS pò aA Ĕ) (aG (gI pũ (oe Ę aA jt))) cj) (ax (8\oÈ) (ax (dN (qD (gT (bH bϳ ŋ T.Lp Boot.«all» (aa (fA rfl (dq.of (sc:=bm Ek) (N:= qϳ) (own:= mŻ) (fr:= []) (N':= mŻ)) (iw pń) (λ_ _ _ _=>(dZ (n:=2) rfl (a9 (aV (i:=0) qÓ rfl Ζ) (a9 (aV (i:=1) qÓ rfl Ζ) c5)))) iC Ϝ (λ_ _ _ _=>(kR ED pñ aA Ĕ))) ar))) (mG (bL JD (aK T.low (SX T) hr (aa mϧ (aa mϧ (aa pń ar)))) gv Ĕ))).pt Θ cj) (aG (bo (yx (aK T.qK (pd T) hr (aa Ė (aa ė gŜ))) (uj (kR (SV hr.u60) aΚ aΒ Ĕ))))))))))))))))))),?_];try dsimp only[qe]
 exact kđ;intro d l M hD;dsimp? [];exact#[d,l,rfl,hD,λp M1 hp D1 _=> ?_];have p2:2<=p:= ∅;have p7:p<=7:= ∅;dsimp? [];exact#[d,l,p,rfl,D1,p2,p7,λu ms M2 mb fu hu D2 _=> ?_];let⟨Xy,nul⟩:=D1.ne fu;dsimp? [hu];intro t ht;have _C:=cO hu ht;dsimp? [];rw[mw];dsimp? [];intro o dx fo fdx ndx;have Qn:t≠o:=cO av fo;have nuo:u≠o:=cO kν fo;have D2t:=D2.put (o:= hš) ht;exact#[o,dx,t,p,ms,rfl,av,by rw[aH Qn,av],aZ Qn,hp,mb,λM3 v w z sts rest cf kk ho3=>cÁ];have k3: ∀b ob,aô ->um M2 t (hš) b=Ğ ->M3 b=Ğ:=λb ob n h=>kk b ob n (by rw[aH n];show h);have hu3:=k3 u _ nuo kν;have Ya:=k3 t _ Qn av;have D3:Dr M3 d l:=by let⟨ns,i,c,sd,hd,hl,hi,cS⟩:=D2t;show#[ns,i,c,sd,k3 d _ (cO hd fo) hd,k3 l _ (cO hl fo) hl,hi,cS]
 have _D:t≠d:=(D2.ne ht).1;have nod:o≠d:=(D2t.ne fo).1;dsimp? [];exact S8 (DR.list (g:=U3) vd Ya) (DR.list (g:=U3) vd hu3) (OO ms) rfl ?_;dsimp? [];exact#[d,l,2,rfl,D3,⋯,⋯,λg M4 g0 g1 D4 b4=> ?_];have _R:=hê hu3;have X_:=(b4 t _D).trans Ya;have ho4:=(b4 o nod).trans ho3;have g8:=yT (B:=8) (ns:=Ρ) λn hn=>by let⟨a,ha,rfl⟩:=ag.mp hn;have:=gş;lia
 let⟨s,hs⟩: oŉ:=Ĺ
 have s0:Ò:= pŝ;rw[hs] at cf ho4;have cf':oč:=by rw[hs];show cf
 let⟨eb,heb⟩: ∃eb:Bool,eb=decide (g=1):=Ĺ
 simp? [↓eU];rw[<- heb];exact kh (C3 (λρ M'=> ∃HL:Ì,jS (ρ= [none,dŻ,ε,θ,eÔ,dϵ,fà,none,none]) (HL.length=ms.length+lϬ) (M' t=some (.lst HL)) (mĿ) pĲ) ?_ eÇ);rotate_left;dsimp? [];exact kζ;dsimp? [X_];exact#[t,cś,_,0,rfl,rfl,X_,qV (by rw[ab];show fϢ),dg _,?_];show hN _ _ #[_,rfl,by rw[h];simp,av,by rw[aH _C];show _R,by rw[dØ];show ho4];show hN _ _ #[_,rfl,by rw[ab,h];rfl,X_,_R,ho4];rintro ρ M5 ⟨HL,rfl,hHL,ht5,hu5,ho5⟩;have m6:=mb.len;have hL: mŎ:=pĀ;have yS: nÔ:=lĵ;have rl:=lϫ;have uK:=qŇ.2;dsimp? [sS,ho5,Y8];exact#[o,dx,p,s,ms,v,w,z,sts,rest,rfl,ho5,?_];dsimp? [];exact#[u,p,ms,sts,rest,by rw[hs],hu5,p2,p7,g8,cf',?_];have df:((HL.length:Nat):Int)=((iψ:Nat):Int)+lϬ:=by rw[hHL,ab];cases eb<;>simp
 dsimp? [ht5,hu5,Mx];rw[cc df];dsimp? [ht5];exact#[qV (by rw[hHL];split<;>lia),?_];simp? [↓eU];exact kh (C3 (λρ M'=>d6 (ρ= qΗ) (mĿ) pĲ) ?_ eÇ);rotate_left;dsimp? [];have fin: ∀o',N qΗ (um M5 t o'):=λo'=>hN _ _ #[rfl,by rw[aH _C];show hu5,by rw[dØ];show ho5];show d4 (λh=>#[0,Ob ⋯ (by exact Lqi [_] Ϣ Lq0 ið Lq0 h rfl),fin _]) λh=>fin _;rintro ρ M6 ⟨rfl,hu6,TF⟩;dsimp? [sS,TF,Y8];exact#[o,dx,p,s,ms,v,w,z,sts,rest,rfl,TF,?_];dsimp? [rM,gL,cK];exact iB (λz:Ō=>wb (oζ)) (big (cť)) hű ?_ λr2 Oh=> ?_;intro z hz M3 N s3 hN;dsimp? [cx];show hN;exact BK (bs:=pŪ) iχ ?_;have hu7:um M6 r2 qÝ u=kϳ:=by rw[aH (cO hu6 Oh)];show hu6
 generalize um M6 r2 qÝ=M7 at hu7 ⊢;generalize (pŪ).all id=bb;dsimp? [];exact yH (Ř) Ř;exact#[sts,rest,s,rfl,pģ,cť,s0, ∅,?_];rw[uK];exact#[true,true,rfl,rfl,?_];dsimp? [];exact pĤ;exact#[true,rfl,?_];rw[Ć];show pĥ;dsimp? [];exact pĤ;dsimp? [];show pĥ
universe gY
namespace gY
open PySem L2 WL WQ PyProof.Rows
theorem walk {l:W.OpenLaw}{d:DefRec}{K:dň}(hn:l.most=some 63)(YI:jϤ)(hY: pÛ)(nm:d.name= aí)(F: ∀ (w:World) (mg:dĂ) (h:Heap),(cΝ).In h ->iϡ -> ∃A,io (cΝ) mg A): pώ:=L2.Mv (n:=63) (k:=10) (x:= fϊ) (CX:=λ_=>f_) (sp:=λw=>zR (cΝ)) hn ⋯ YI #[rfl,⋯,⋯] hY (λw mg fa h X G e=>(F w mg h X G).elim λ_ T=>Tg T.law (nm▸e) (λ_ _ _ _ _ _ _=>rfl) λ_=>SY T) (λ_ _ a ns hl _ hS=>#[a,ns,rfl,hS,bĭ]) λ_ _ _ _ _ z=>z
universe gY
end
end
def PySem.W.Fast.tw1568116681126908936:Nat:=0
def PySem.W.Fast.tw8362604606980597483:Nat:=0
def PySem.W.Fast.tw9918778896756307054:Nat:=0
def PySem.W.Fast.tw7840425710955515449:Nat:=0
def PySem.W.Fast.tw2499120151072932285:Nat:=0
def PySem.W.Fast.tw14544721888476242944:Nat:=0
def PySem.W.Fast.tw13098696624256033920:Nat:=0
def PySem.W.Fast.tw8557728392326924151:Nat:=0
def PySem.W.Fast.tw684465336157931255:Nat:=0
def PySem.W.Fast.tw2153644948161783551:Nat:=0
def PySem.W.Fast.tw17786261883402545775:Nat:=0
def PySem.W.Fast.tw13160877701138027536:Nat:=0
def PySem.W.Fast.tw1961520084987308833:Nat:=0
def PySem.W.Fast.tw5429097725771087573:Nat:=0
def PySem.W.Fast.tw16665980926888959126:Nat:=0
def PySem.W.Fast.tw12414216509934446040:Nat:=0
def PySem.W.Fast.tw1724976948258365297:Nat:=0
def PySem.W.Fast.tw17267222913440671945:Nat:=0
def PySem.W.Fast.tw10443222983416596084:Nat:=0
def PySem.W.Fast.tw6851409952101161834:Nat:=0
def PySem.W.Fast.tw776645260412772083:Nat:=0
def PySem.W.Fast.tw2512681217643421072:Nat:=0
def PySem.W.Fast.tw5581204901892586044:Nat:=0
def PySem.W.Fast.tw17106485640582213133:Nat:=0
def PySem.W.Fast.tw16341737910192779049:Nat:=0
def PySem.W.Fast.tw2874651726692066293:Nat:=0
def PySem.W.Fast.tw4442091899844091964:Nat:=0
def PySem.W.Fast.tw15142154340978675293:Nat:=0
def PySem.W.Fast.tw8018020042040952580:Nat:=0
def PySem.W.Fast.tw6651173197660199:Nat:=0
def PySem.W.Fast.tw11351931402882147765:Nat:=0
def PySem.W.Fast.tw3910923291396685658:Nat:=0
def PySem.W.Fast.tw14088062720345604311:Nat:=0
def PySem.W.Fast.tw8363179077662774878:Nat:=0
def PySem.W.Fast.tw4290896993748957312:Nat:=0
def PySem.W.Fast.tw1518643747359104527:Nat:=0
def PySem.W.Fast.tw9026820636217157124:Nat:=0
def PySem.W.Fast.tw12958728398502614644:Nat:=0
def PySem.W.Fast.tw17255288008540092993:Nat:=0
def PySem.W.Fast.tw11687800400344049799:Nat:=0
def PySem.W.Fast.tw13444316259656915198:Nat:=0
def PySem.W.Fast.tw13341269804609835248:Nat:=0
def PySem.W.Fast.tw5104786584310624631:Nat:=0
def PySem.W.Fast.tw12093235952927961191:Nat:=0
def PySem.W.Fast.tw17752837043651266424:Nat:=0
def PySem.W.Fast.tw17230761496355086816:Nat:=0
def PySem.W.Fast.tw8416217996446164704:Nat:=0
def PySem.W.Fast.tw18116198013944672393:Nat:=0
def PySem.W.Fast.tw3667541634411229526:Nat:=0
def PySem.W.Fast.tw17358623882988477594:Nat:=0
def PySem.W.Fast.tw13433241459982105063:Nat:=0
def PySem.W.Fast.tw18209744907180508495:Nat:=0
def PySem.W.Fast.tw14209133617370347298:Nat:=0
def PySem.W.Fast.tw8594397950141951983:Nat:=0
def PySem.W.Fast.tw16922992437405493274:Nat:=0
def PySem.W.Fast.tw2208512731700857056:Nat:=0
def PySem.W.Fast.tw16177170393781514611:Nat:=0
def PySem.W.Fast.tw10927535768682963665:Nat:=0
def PySem.W.Fast.tw1068224827969420208:Nat:=0
def PySem.W.Fast.tw15006930374732784585:Nat:=0
def PySem.W.Fast.tw6701299488689513990:Nat:=0
def PySem.W.Fast.tw12795317714458069268:Nat:=0
def PySem.W.Fast.tw4287155209257149477:Nat:=0
def PySem.W.Fast.tw10490254191874956718:Nat:=0
def PySem.W.Fast.tw12849236690099141736:Nat:=0
def PySem.W.Fast.tw8151267652825124600:Nat:=0
def PySem.W.Fast.tw15751433062664156118:Nat:=0
def PySem.W.Fast.tw6698441719802542262:Nat:=0
def PySem.W.Fast.tw10842455798991482414:Nat:=0
def PySem.W.Fast.tw11316702104350763110:Nat:=0
def PySem.W.Fast.tw8155724672985111603:Nat:=0
def PySem.W.Fast.tw7246544783128869331:Nat:=0
def PySem.W.Fast.tw8602069194731782142:Nat:=0
def PySem.W.Fast.tw912183797722011974:Nat:=0
def PySem.W.Fast.tw2415325341082411872:Nat:=0
def PySem.W.Fast.tw10436370689080443086:Nat:=0
def PySem.W.Fast.tw15028774401854957209:Nat:=0
def PySem.W.Fast.tw3147844541211349430:Nat:=0
def PySem.W.Fast.tw3816456858901109498:Nat:=0
def PySem.W.Fast.tw12374522445515379247:Nat:=0
def PySem.W.Fast.tw12933438755407022268:Nat:=0
def PySem.W.Fast.tw18183258635546614829:Nat:=0
def PySem.W.Fast.tw4032717627798830991:Nat:=0
def PySem.W.Fast.tw1895155566252474960:Nat:=0
def PySem.W.Fast.tw3486326802289898683:Nat:=0
def PySem.W.Fast.tw17904807559828372115:Nat:=0
def PySem.W.Fast.tw11046780412220476125:Nat:=0
def PySem.W.Fast.tw17368998945064903789:Nat:=0
def PySem.W.Fast.tw8443808408447727124:Nat:=0
def PySem.W.Fast.tw16093485802245987830:Nat:=0
def PySem.W.Fast.tw3988633428974241859:Nat:=0
def PySem.W.Fast.tw6203974225437966172:Nat:=0
def PySem.W.Fast.tw3693532764361225807:Nat:=0
def PySem.W.Fast.tw15018459364979563508:Nat:=0
def PySem.W.Fast.tw12494029690776017849:Nat:=0
def PySem.W.Fast.tw16267439798602277098:Nat:=0
def PySem.W.Fast.tw14825863038359773626:Nat:=0
def PySem.W.Fast.tw14250910394629069617:Nat:=0
def PySem.W.Fast.tw12859642179505655087:Nat:=0
def PySem.W.Fast.tw18411249214176214558:Nat:=0
def PySem.W.Fast.tw9781811545042055705:Nat:=0
def PySem.W.Fast.tw5601172311592710210:Nat:=0
def PySem.W.Fast.tw2549682087019139011:Nat:=0
def PySem.W.Fast.tw1738976001076453623:Nat:=0
def PySem.W.Fast.tw16301689706847513829:Nat:=0
def PySem.W.Fast.tw13270239987375008128:Nat:=0
def PySem.W.Fast.tw14891496933923167637:Nat:=0
def PySem.W.Fast.tw10438529089360716733:Nat:=0
def PySem.W.Fast.tw10076766437223395159:Nat:=0
def PySem.W.Fast.tw2658975897501104675:Nat:=0
def PySem.W.Fast.tw1212246256294603744:Nat:=0
def PySem.W.Fast.tw12937511851816346180:Nat:=0
def PySem.W.Fast.tw13239823909864230899:Nat:=0
def PySem.W.Fast.tw3205909079791230303:Nat:=0
def PySem.W.Fast.tw15108698685364798453:Nat:=0
def PySem.W.Fast.tw12747553709260374132:Nat:=0
def PySem.W.Fast.tw2464014625023754016:Nat:=0
def PySem.W.Fast.tw4987931648120594078:Nat:=0
def PySem.W.Fast.tw5478022375087147060:Nat:=0
def PySem.W.Fast.tw4996836690621915509:Nat:=0
def PySem.W.Fast.tw12693738819060084857:Nat:=0
def PySem.W.Fast.tw11570401503985273443:Nat:=0
def PySem.W.Fast.tw3618712884487464527:Nat:=0
def PySem.W.Fast.tw8114410746462372665:Nat:=0
def PySem.W.Fast.tw18340797402933997696:Nat:=0
def PySem.W.Fast.tw5268333086975223399:Nat:=0
def PySem.W.Fast.tw6995870997944468151:Nat:=0
def PySem.W.Fast.tw15175265185417745553:Nat:=0
def PySem.W.Fast.tw2576930242035048047:Nat:=0
def PySem.W.Fast.tw15488273591529665349:Nat:=0
def PySem.W.Fast.tw785992284691000408:Nat:=0
def PySem.W.Fast.tw1064613598250927938:Nat:=0
def PySem.W.Fast.tw17141036369145147976:Nat:=0
def PySem.W.Fast.tw10990919720769807381:Nat:=0
def PySem.W.Fast.tw587722629466224702:Nat:=0
def PySem.W.Fast.tw15713854920265591220:Nat:=0
def PySem.W.Fast.tw7523985802417589210:Nat:=0
def PySem.W.Fast.tw1134937785230603584:Nat:=0
def PySem.W.Fast.tw390717679543317155:Nat:=0
open PySem PySem.W PyProof.Rows L2
set_option maxRecDepth 100000 in
set_option maxHeartbeats 0 in
theorem PySem.Challenge.cw_duskround_k27_the_form_of_a_crew_holds : PySem.Challenge.rw_duskround_k27_the_form_of_a_crew.Holds := by
 w_on;o_law;k_head;(case hw=>w_witness2)
 k_fill
 refine gY.walk (l:=PySem.Challenge.rw_duskround_k27_the_form_of_a_crew) rfl rfl (λw h Y=>PySem.W.kIn_of Y) rfl λw mg h X G=> ?_
 have' UJ:=cb (x:= "tidy") (ps:= ["p","pairs"]) (st:=gY.B_) X G ?g16 ?g17 ?g18 ?g19;(case g16 | g17 | g18 | g19=>k_is);have' O9:=cb (x:= "added") (ps:= ["p","one","other"]) (st:=gY.Em) X G ?g20 ?g21 ?g22 ?g23;(case g20 | g21 | g22 | g23=>k_is);have' O6:=cb (x:= "moved") (ps:= ["pattern","by"]) (st:=gY.yj) X G ?g24 ?g25 ?g26 ?g27;(case g24 | g25 | g26 | g27=>k_is);have' O2:=cb (x:= "timed") (ps:= ["p","pattern","n"]) (st:=gY.yh) X G ?g28 ?g29 ?g30 ?g31;(case g28 | g29 | g30 | g31=>k_is);have' O5:=cb (x:= "still") (ps:= []) (st:=gY.yi) X G ?g32 ?g33 ?g34 ?g35;(case g32 | g33 | g34 | g35=>k_is);have' LM:=cb (x:= "joined") (ps:= ["p","one","other"]) (st:=gY.z4) X G ?g36 ?g37 ?g38 ?g39;(case g36 | g37 | g38 | g39=>k_is);have' DE:=cb (x:= "backward") (ps:= ["p","one"]) (st:=gY.uh) X G ?g40 ?g41 ?g42 ?g43;(case g40 | g41 | g42 | g43=>k_is);have' Dy:=cb (x:= "repeated") (ps:= ["p","one","n"]) (st:=gY.ju) X G ?g44 ?g45 ?g46 ?g47;(case g44 | g45 | g46 | g47=>k_is);have' wq:=cb (x:= "lies_within") (ps:= ["one","farthest_end","farthest_place"]) (st:=gY.kc) X G ?g48 ?g49 ?g50 ?g51;(case g48 | g49 | g50 | g51=>k_is);have' Hm:=cb (x:= "inverse") (ps:= ["p","setting"]) (st:=gY.wP) X G ?g52 ?g53 ?g54 ?g55;(case g52 | g53 | g54 | g55=>k_is);have' LO:=Dj (x:= "Row") (ps:= ["self","lamps","parts"]) (st:=gY.PU) X G ?g56 ?g57 ?g58 ?g59 ?g60 ?g61 ?g62 ?g63 ?g64 ?g65 ?g66 ?g67;(case g56 | g57 | g58 | g59 | g60 | g61 | g62 | g63 | g64 | g65 | g66 | g67=>k_is);have' mZ:=Dj (x:= "Stair") (ps:= ["self","row","first","length","foot"]) (st:=gY.En) X G ?g68 ?g69 ?g70 ?g71 ?g72 ?g73 ?g74 ?g75 ?g76 ?g77 ?g78 ?g79;(case g68 | g69 | g70 | g71 | g72 | g73 | g74 | g75 | g76 | g77 | g78 | g79=>k_is);have' LN:=cb (x:= "column") (ps:= ["place","stride"]) (st:=gY.z6) X G ?g80 ?g81 ?g82 ?g83;(case g80 | g81 | g82 | g83=>k_is);have' vA:=cb (x:= "first_column") (ps:= ["places","stride"]) (st:=gY.jw) X G ?g84 ?g85 ?g86 ?g87;(case g84 | g85 | g86 | g87=>k_is);have' Hn:=cb (x:= "heights") (ps:= ["places","stride","first"]) (st:=gY.mE) X G ?g88 ?g89 ?g90 ?g91;(case g88 | g89 | g90 | g91=>k_is);have' Dz:=cb (x:= "measured") (ps:= ["stride","stair"]) (st:=gY.n9) X G ?g92 ?g93 ?g94 ?g95;(case g92 | g93 | g94 | g95=>k_is);have' ZD:=cb (x:= "low") (ps:= ["stride","stairs","pattern"]) (st:=gY.Ej) X G ?g96 ?g97 ?g98 ?g99;(case g96 | g97 | g98 | g99=>k_is);have' wu:=cb (x:= "add_shifted") (ps:= ["p","held","others","by","n"]) (st:=gY.nD) X G ?g100 ?g101 ?g102 ?g103;(case g100 | g101 | g102 | g103=>k_is);have' Bw:=cb (x:= "add_moved") (ps:= ["p","stride","row","other","shift","n"]) (st:=gY.rq) X G ?g104 ?g105 ?g106 ?g107;(case g104 | g105 | g106 | g107=>k_is);have' qm:=cb (x:= "too_high_or_low") (ps:= ["found","length"]) (st:=gY.j5) X G ?g108 ?g109 ?g110 ?g111;(case g108 | g109 | g110 | g111=>k_is);have' ZG:=cb (x:= "cut") (ps:= ["p","stride","row","stair"]) (st:=gY.PR) X G ?g112 ?g113 ?g114 ?g115;(case g112 | g113 | g114 | g115=>k_is);have' O4:=cb (x:= "stood") (ps:= ["p","stride","row"]) (st:=gY.Ei) X G ?g116 ?g117 ?g118 ?g119;(case g116 | g117 | g118 | g119=>k_is);have' zk:=cb (x:= "told_parts") (ps:= ["p","parts","n"]) (st:=gY.kP) X G ?g120 ?g121 ?g122 ?g123;(case g120 | g121 | g122 | g123=>k_is);have' O3:=cb (x:= "taken") (ps:= ["p","stride","stairs","pattern"]) (st:=gY.Eh) X G ?g124 ?g125 ?g126 ?g127;(case g124 | g125 | g126 | g127=>k_is);have' Hg:=cb (x:= "take_in") (ps:= ["p","stride","held","row"]) (st:=gY.wM) X G ?g128 ?g129 ?g130 ?g131;(case g128 | g129 | g130 | g131=>k_is);have' Hh:=cb (x:= "lie_low") (ps:= ["p","stride","held"]) (st:=gY.wN) X G ?g132 ?g133 ?g134 ?g135;(case g132 | g133 | g134 | g135=>k_is);have' O8:=cb (x:= "built") (ps:= ["p","stride","patterns"]) (st:=gY.sW) X G ?g136 ?g137 ?g138 ?g139;(case g136 | g137 | g138 | g139=>k_is);have' Bv:=cb (x:= "fits_crew") (ps:= ["one"]) (st:=gY.rn) X G ?g140 ?g141 ?g142 ?g143;(case g140 | g141 | g142 | g143=>k_is);have' sP:=cb (x:= "check_members") (ps:= ["members"]) (st:=gY.lr) X G ?g144 ?g145 ?g146 ?g147;(case g144 | g145 | g146 | g147=>k_is);have' oI:=cb (x:= "greatest_divisor") (ps:= ["ends"]) (st:=gY.jv) X G ?g148 ?g149 ?g150 ?g151;(case g148 | g149 | g150 | g151=>k_is);have' LH:=cb (x:= "row_to") (ps:= ["ends","stride"]) (st:=gY.zY) X G ?g152 ?g153 ?g154 ?g155;(case g152 | g153 | g154 | g155=>k_is);have' DD:=cb (x:= "gone_row") (ps:= ["p","members","row"]) (st:=gY.ug) X G ?g156 ?g157 ?g158 ?g159;(case g156 | g157 | g158 | g159=>k_is);have' ji:=Dj (x:= "Crew") (ps:= ["self","p","members"]) (st:=gY.yk) X G ?g160 ?g161 ?g162 ?g163 ?g164 ?g165 ?g166 ?g167 ?g168 ?g169 ?g170 ?g171;(case g160 | g161 | g162 | g163 | g164 | g165 | g166 | g167 | g168 | g169 | g170 | g171=>k_is);have' By:=CF (m:= "form") (ps:= ["self"]) (st:=gY.rC) ji ?g172 ?g173 ?g174 ?g175 ?g176;(case g172 | g173 | g174 | g175 | g176=>k_is);have' Bx:=CF (m:= "laps") (ps:= ["self","end"]) (st:=gY.rA) ji ?g177 ?g178 ?g179 ?g180 ?g181;(case g177 | g178 | g179 | g180 | g181=>k_is);have' zn:=CF (m:= "level") (ps:= ["self","lap","one"]) (st:=gY.oU) ji ?g182 ?g183 ?g184 ?g185 ?g186;(case g182 | g183 | g184 | g185 | g186=>k_is);have' Hl:=cb (x:= "_law_begin") (ps:= ["_law_script"]) (st:=gY.qB) X G ?g187 ?g188 ?g189 ?g190;(case g187 | g188 | g189 | g190=>k_is);have' LJ:=cb (x:= "_law_take") (ps:= ["_law_draw","_law_many"]) (st:=gY.zZ) X G ?g191 ?g192 ?g193 ?g194;(case g191 | g192 | g193 | g194=>k_is);have' ZF:=cb (x:= "_law_p") (ps:= ["_law_draw"]) (st:=gY.PQ) X G ?g195 ?g196 ?g197 ?g198;(case g195 | g196 | g197 | g198=>k_is);have' LI:=cb (x:= "_law_tidy") (ps:= ["_law_p_here","_law_pairs"]) (st:=gY.ud) X G ?g199 ?g200 ?g201 ?g202;(case g199 | g200 | g201 | g202=>k_is);have' Bs:=cb (x:= "_law_pattern") (ps:= ["_law_draw","_law_p_here","_law_most","_law_far"]) (st:=gY.rh) X G ?g203 ?g204 ?g205 ?g206;(case g203 | g204 | g205 | g206=>k_is);have' Hj:=cb (x:= "_law_round") (ps:= ["_law_draw","_law_p_here","_law_end","_law_most","_law_far"]) (st:=gY.wO) X G ?g207 ?g208 ?g209 ?g210;(case g207 | g208 | g209 | g210=>k_is);have' Bt:=cb (x:= "_law_members") (ps:= ["_law_draw","_law_p_here"]) (st:=gY.j6) X G ?g211 ?g212 ?g213 ?g214;(case g211 | g212 | g213 | g214=>k_is);have' DA:=cb (x:= "_law_stride") (ps:= ["_law_members_here"]) (st:=gY.ue) X G ?g215 ?g216 ?g217 ?g218;(case g215 | g216 | g217 | g218=>k_is);have' O7:=cb (x:= "_law_int") (ps:= ["_law_thing"]) (st:=gY.El) X G ?g219 ?g220 ?g221 ?g222;(case g219 | g220 | g221 | g222=>k_is);have' vy:=cb (x:= "_law_is_pattern") (ps:= ["_law_p_here","_law_thing"]) (st:=gY.lQ) X G ?g223 ?g224 ?g225 ?g226;(case g223 | g224 | g225 | g226=>k_is);have' zm:=cb (x:= "_law_is_round") (ps:= ["_law_p_here","_law_thing"]) (st:=gY.oT) X G ?g227 ?g228 ?g229 ?g230;(case g227 | g228 | g229 | g230=>k_is);have' DB:=cb (x:= "_law_column") (ps:= ["_law_place","_law_stride_here"]) (st:=gY.uf) X G ?g231 ?g232 ?g233 ?g234;(case g231 | g232 | g233 | g234=>k_is);have' Hk:=cb (x:= "_law_first") (ps:= ["_law_stride_here","_law_pattern_here"]) (st:=gY.qA) X G ?g235 ?g236 ?g237 ?g238;(case g235 | g236 | g237 | g238=>k_is);have' Hi:=cb (x:= "_law_spots") (ps:= ["_law_stride_here","_law_pattern_here","_law_at_here"]) (st:=gY.qz) X G ?g239 ?g240 ?g241 ?g242;(case g239 | g240 | g241 | g242=>k_is);have' LK:=cb (x:= "_law_size") (ps:= ["_law_stride_here","_law_stair"]) (st:=gY.z3) X G ?g243 ?g244 ?g245 ?g246;(case g243 | g244 | g245 | g246=>k_is);have' UK:=cb (x:= "_law_at") (ps:= ["_law_pattern_here","_law_place"]) (st:=gY.IJ) X G ?g247 ?g248 ?g249 ?g250;(case g247 | g248 | g249 | g250=>k_is);have' vz:=cb (x:= "_law_are_stairs") (ps:= ["_law_p_here","_law_stride_here","_law_thing"]) (st:=gY.lS) X G ?g251 ?g252 ?g253 ?g254;(case g251 | g252 | g253 | g254=>k_is);have' zl:=cb (x:= "_law_lies_low") (ps:= ["_law_stride_here","_law_stairs","_law_pattern_here"]) (st:=gY.oS) X G ?g255 ?g256 ?g257 ?g258;(case g255 | g256 | g257 | g258=>k_is);have' sO:=cb (x:= "_law_trim_stairs") (ps:= ["_law_stride_here","_law_stairs"]) (st:=gY.je) X G ?g259 ?g260 ?g261 ?g262;(case g259 | g260 | g261 | g262=>k_is);have' Bu:=cb (x:= "_law_is_form") (ps:= ["_law_p_here","_law_members_here","_law_thing"]) (st:=gY.rm) X G ?g263 ?g264 ?g265 ?g266;(case g263 | g264 | g265 | g266=>k_is);have' ZE:=cb (x:= "law") (ps:= ["_law_script"]) (st:=gY.Ek) X G ?g267 ?g268 ?g269 ?g270;(case g267 | g268 | g269 | g270=>k_is);have' Br:=jE ji "head" ?n_Crew_head;(case n_Crew_head=>k_is);have' wj:=jE ji "makers" ?n_Crew_makers;(case n_Crew_makers=>k_is);have' LC:=jE ji "p" ?n_Crew_p;(case n_Crew_p=>k_is);have' wg:=jE ji "rounds" ?n_Crew_rounds;(case n_Crew_rounds=>k_is);have' we:=jE ji "stairs" ?n_Crew_stairs;(case n_Crew_stairs=>k_is);have' wd:=jE ji "stride" ?n_Crew_stride;(case n_Crew_stride=>k_is);have' vw:=jE ji "surplus" ?n_Crew_surplus;(case n_Crew_surplus=>k_is);have' Dx:=jE ji "way" ?n_Crew_way;(case n_Crew_way=>k_is);have' Bq:=jE LO "lamps" ?n_Row_lamps;(case n_Row_lamps=>k_is);have' Bp:=jE LO "parts" ?n_Row_parts;(case n_Row_parts=>k_is);have' v_:=jE mZ "first" ?n_Stair_first;(case n_Stair_first=>k_is);have' zj:=jE mZ "foot" ?n_Stair_foot;(case n_Stair_foot=>k_is);have' v9:=jE mZ "lamps" ?n_Stair_lamps;(case n_Stair_lamps=>k_is);have' vv:=jE mZ "length" ?n_Stair_length;(case n_Stair_length=>k_is);have' v8:=jE mZ "parts" ?n_Stair_parts;(case n_Stair_parts=>k_is)
 refine' ⟨⟨_,_,_,_,_,_,_,_,_,_,_,_,_,_,_,_,_,_,_,_,_,_,_,_,_,_,_,_,_,_,_,_,_,_,_,_,_,_,_,_,_,_,_,_,_,_,_,_,_,_,_,_,_,_,_,_,_,_,_,_,_,_,_,_,_,_,_,_,_,_,_,_,_,_,_,_,_,_,_,_,_,_,_,_,_,_,_,_,_,_,_,_,_,_,_,_,_,_,_,_,_,_,_,_,_,_,_,_,_,_,_,_,_,_,_,_,_⟩,bZ X G ?g1,bZ X G ?g2,bZ X G ?g3,bZ X G ?g4,bZ X G ?g5,bZ X G ?g6,bZ X G ?g7,bZ X G ?g8,bZ X G ?g9,bZ X G ?g10,bZ X G ?g11,bZ X G ?g12,bZ X G ?g13,bZ X G ?g14,bZ X G ?g15,UJ,O9,O6,O2,O5,LM,DE,Dy,wq,Hm,LO,mZ,LN,vA,Hn,Dz,ZD,wu,Bw,qm,ZG,O4,zk,O3,Hg,Hh,O8,Bv,sP,oI,LH,DD,ji,By,Bx,zn,Hl,LJ,ZF,LI,Bs,Hj,Bt,DA,O7,vy,zm,DB,Hk,Hi,LK,UK,vz,zl,sO,Bu,ZE,Br,wj,LC,wg,we,wd,vw,Dx,Bq,Bp,v_,zj,v9,vv,v8,C0 X G ?g271,C0 X G ?g272,C0 X G ?g273⟩
 (case g1 | g2 | g3 | g4 | g5 | g6 | g7 | g8 | g9 | g10 | g11 | g12 | g13 | g14 | g15 | g271 | g272 | g273=>k_is)
